import PyProof.Rows.All
import Wide.All
import OpenK.AllK
import Wide.FinOn
import Lean
import PyProof.EqAt
import PyProof.EqKinds
import PyProof.TupleCall
import PySem.Challenge.RW_meterhouse_k33_how_calls_end
set_option Elab.async false
set_option linter.all false
set_option maxRecDepth 100000
set_option maxHeartbeats 4000000
namespace L2
open PySem PySem.Spec PyProof.Rows
noncomputable abbrev Key:=Sum Int Str
noncomputable def keyIs:Key->Value->Bool
  | .inl k,v=>Value.isInt k v
  | .inr x,v=>Value.isStrOf x v
noncomputable def keyH (w:World):Key->Int
  | .inl k=>hashInt k
  | .inr x=>hashStr w x
theorem Zbc:∀ {k:Key} {v:Value},keyIs k v=true->(∃ i t,k=Sum.inl i/\v=Value.int i t)\/(∃ x t,k=Sum.inr x/\v=Value.str x t)
  | .inl i,v,h=>by
    obtain ⟨t,e⟩:=Value.isInt_shape (k:=i) (v:=v) h
    exact .inl ⟨i,t,rfl,e⟩
  | .inr x,v,h=>by
    obtain ⟨t,e⟩:=Value.isStrOf_shape (x:=x) (v:=v) h
    exact .inr ⟨x,t,rfl,e⟩
theorem Zfw (i:Int) (t:Tok):keyIs (.inl i) (.int i t)=true:=by simp [keyIs,Value.isInt]
theorem ZcR (x:Str) (t:Tok):keyIs (.inr x) (.str x t)=true:=by simp [keyIs,Value.isStrOf]
theorem key_ll (a b:Int):decide ((Sum.inl a:Key)=Sum.inl b)=(a == b):=by
  by_cases e:a=b
  . subst e; simp
  . have h:¬ (Sum.inl a:Key)=Sum.inl b:=fun q=>e (Sum.inl.inj q)
    rw [decide_eq_false h]
    exact (beq_eq_false_iff_ne.mpr e).symm
theorem key_rr (a b:Str):decide ((Sum.inr a:Key)=Sum.inr b)=decide (a=b):=by
  by_cases e:a=b
  . subst e; simp
  . have h:¬ (Sum.inr a:Key)=Sum.inr b:=fun q=>e (Sum.inr.inj q)
    rw [decide_eq_false h,decide_eq_false e]
theorem key_lr (a:Int) (b:Str):decide ((Sum.inl a:Key)=Sum.inr b)=false:=decide_eq_false (fun q=>nomatch q)
theorem key_rl (a:Str) (b:Int):decide ((Sum.inr a:Key)=Sum.inl b)=false:=decide_eq_false (fun q=>nomatch q)
noncomputable def Za2 (prog:Program) (w:World):PySem.KeyKind prog w Key where
  is:=keyIs
  hash:=keyH w
  inj:=fun v a b ha hb=>by
    rcases Zbc ha with ⟨i,t,rfl,rfl⟩|⟨x,t,rfl,rfl⟩
    . rcases Zbc hb with ⟨j,u,rfl,e⟩|⟨y,u,rfl,e⟩
      . injection e with e1 _; rw [e1]
      . exact nomatch e
    . rcases Zbc hb with ⟨j,u,rfl,e⟩|⟨y,u,rfl,e⟩
      . exact nomatch e
      . injection e with e1 _; rw [e1]
  byValue:=fun k v h=>by
    rcases Zbc h with ⟨i,t,rfl,rfl⟩|⟨x,t,rfl,rfl⟩ <;> rfl
  pyHash:=fun hv h=>by
    rcases Zbc hv with ⟨i,t,rfl,rfl⟩|⟨x,t,rfl,rfl⟩
    . exact wpAny_pyHash_int h
    . exact wpAny_pyHash_str h
  eqBool:=fun hu hv h=>by
    rcases Zbc hu with ⟨i,t,rfl,rfl⟩|⟨x,t,rfl,rfl⟩
    . rcases Zbc hv with ⟨j,u,rfl,rfl⟩|⟨y,u,rfl,rfl⟩
      . rw [key_ll] at h; exact wpAny_eqBool_int h
      . rw [key_lr] at h; exact SeqAt.EqAt.int_str i t y u _ _ _ _ h
    . rcases Zbc hv with ⟨j,u,rfl,rfl⟩|⟨y,u,rfl,rfl⟩
      . rw [key_rl] at h; exact SeqAt.EqAt.str_int x t j u _ _ _ _ h
      . rw [key_rr] at h; exact wpAny_eqBool_str h
  «strs»:=fun k x t v h=>by
    rcases Zbc h with ⟨i,u,rfl,e⟩|⟨y,u,rfl,e⟩
    . exact nomatch e
    . injection e with e1 _
      subst e1
      cases v <;> rfl
theorem ZgA (prog:Program) (w:World) (i:Int) (t:Tok):(Za2 prog w).is (.inl i) (.int i t)=true:=Zfw i t
theorem ZgB (prog:Program) (w:World) (x:Str) (t:Tok):(Za2 prog w).is (.inr x) (.str x t)=true:=ZcR x t
end L2
namespace L2
open PySem PySem.Spec PyProof.Rows
inductive V where
  | non|bl (b:Bool)|int (i:Int)|str (x:Str)|byt (b:Array UInt8)|flt (b:UInt64)|ref (a:Addr)|ty (n:String)
  deriving DecidableEq
noncomputable def RelV:V->Value->Prop
  | .non,u=>u=Value.none
  | .bl b,u=>u=Value.bool b
  | .int i,u=>∃ t,u=Value.int i t
  | .str x,u=>∃ t,u=Value.str x t
  | .byt b,u=>∃ t,u=Value.bytes b t
  | .flt b,u=>∃ t,u=Value.float b t
  | .ref a,u=>u=Value.ref a
  | .ty n,u=>u=Value.type n
noncomputable abbrev Vals:List V->List Value->Prop:=Paired RelV
theorem Vals.length {xs:List V} {us:List Value} (r:Vals xs us):xs.length=us.length:=Paired.length r
theorem Vals.get:∀ {xs:List V} {us:List Value} {i:Nat} {x:V},Vals xs us->xs[i]?=some x->∃ u,us[i]?=some u/\RelV x u
  | _,_,_,_,.nil,e=>by simp at e
  | _,_,0,_,.cons r _,e=>by simp at e; subst e; exact ⟨_,rfl,r⟩
  | _,_,i + 1,x,.cons _ t,e=>by
    obtain ⟨u,h1,h2⟩:=Vals.get (i:=i) (x:=x) t (by simpa using e)
    exact ⟨u,by simpa using h1,h2⟩
theorem Vals.set {x:V} {u:Value} (r:RelV x u):∀ {xs:List V} {us:List Value} (i:Nat),Vals xs us->Vals (xs.set i x) (us.set i u)
  | _,_,_,.nil=>.nil
  | _,_,0,.cons _ t=>.cons r t
  | _,_,i + 1,.cons q t=>.cons q (Vals.set r i t)
theorem Vals.append:∀ {xs ys:List V} {us ws:List Value},Vals xs us->Vals ys ws->Vals (xs ++ ys) (us ++ ws)
  | _,_,_,_,.nil,s=>s
  | _,_,_,_,.cons r t,s=>.cons r (Vals.append t s)
theorem Vals.take:∀ {xs:List V} {us:List Value} (n:Nat),Vals xs us->Vals (xs.take n) (us.take n)
  | _,_,0,_=>.nil
  | _,_,_ + 1,.nil=>.nil
  | _,_,n + 1,.cons r t=>.cons r (Vals.take n t)
theorem Vals.drop:∀ {xs:List V} {us:List Value} (n:Nat),Vals xs us->Vals (xs.drop n) (us.drop n)
  | _,_,0,r=>r
  | _,_,_ + 1,.nil=>.nil
  | _,_,n + 1,.cons _ t=>Vals.drop n t
theorem Vals.none_of:∀ {xs:List V} {us:List Value} {i:Nat},Vals xs us->xs[i]?=none->us[i]?=none:=fun {xs us i} r e=>by
  have h1:=r.length
  have h2:xs.length <= i:=List.getElem?_eq_none_iff.mp e
  exact List.getElem?_eq_none_iff.mpr (by omega)
noncomputable def RelO:Option V->Option Value->Prop
  | some v,some u=>RelV v u
  | none,none=>True
  | _,_=>False
noncomputable def KV {κ:Type}:List (κ × V)->List (κ × Value)->Prop:=Paired fun (p:κ × V) (q:κ × Value)=>p.1=q.1/\RelV p.2 q.2
noncomputable def kV:Key->V
  | .inl i=>.int i
  | .inr x=>.str x
inductive HO where
  | lst (xs:List V)
  | tup (xs:List V)
  | dK (kvs:List (Key × V))|dT (kvs:List (List Key × V))
  | set (S:Int->Bool) (n:Nat)
  | ins (C dx:Addr) (fs:List (Str × V))
  | own (x:Addr)
  | xd (fs:List (Str × V))
  | met (f x:Addr)
  | rng (lo hi:Int)
  | frz (o:Obj) (u:HO)
  | tbl (ps:Array Value)
  | ext (φ:Heap->Prop)
noncomputable abbrev Hp:=Addr->Option HO
noncomputable def upd (H:Hp) (a:Addr) (o:HO):Hp:=fun b=>if b=a then some o else H b
theorem Zag {H:Hp} {a:Addr} {o:HO}:upd H a o a=some o:=by unfold upd; rw [if_pos rfl]
theorem Zai {H:Hp} {a b:Addr} {o:HO} (h:b ≠ a):upd H a o b=H b:=by unfold upd; rw [if_neg h]
theorem ZaS {H:Hp} {a:Addr} {o u:HO}:upd (upd H a o) a u=upd H a u:=by
  funext b; unfold upd; split <;> rfl
theorem Zbe {H:Hp} {a b:Addr} {o u:HO} (h:H a=some o) (h':H b=some u) (d:o ≠ u):a ≠ b:=by
  intro e; subst e; rw [h] at h'; exact d (Option.some.inj h')
theorem Zaj {H:Hp} {a b:Addr} {o:HO} (h:H a=some o) (h':H b=none):a ≠ b:=by
  intro e; subst e; rw [h] at h'; cases h'
section
variable (P:Program) (w:World)
noncomputable def ObjOk (H:Hp) (h:Heap) (a:Addr):HO->Prop
  | .lst xs=>xs.length <= sizeLine/\∃ (its:List Value) (n:Nat),Vals xs its/\h.get? a=some { cls:=.type "list", data:=.seq its.toArray n }
  | .tup xs=>xs.length <= sizeLine/\∃ its:List Value,Vals xs its/\IsTup h a its.toArray
  | .dK kvs=>kvs.length <= sizeLine/\(a == sysModules)=false/\∃ vs,KV kvs vs/\h.DictOf (Za2 P w) a vs
  | .dT kvs=>kvs.length <= sizeLine/\(a == sysModules)=false/\∃ xs:List (List Key × Addr × Value),
      Paired (fun (p:List Key × V) (q:List Key × Addr × Value)=>p.1=q.1/\H q.2.1=some (.tup (p.1.map kV))/\RelV p.2 q.2.2) kvs xs /\
      ∃ o es ep,h.get? a=some o/\o.ExactDict/\o.data=.dict es ep/\es.toList=xs.map (entryOfKey (tupleKind (Za2 P w)))/\(xs.map (·.1)).Nodup
  | .set S n=>h.SetOf (intKind P w) a S n
  | .ins C dx fs=>H dx=some (.own a)/\fs.length <= 1000/\dx ≠ a/\h.get? a=some (PySem.W.instObj C dx) /\
      ∃ mA,h.Ns1 dx mA/\(∀ f,RelO (fs.lookup f) (mA f))/\PySem.Within mA (fs.map (·.1))
  | .own _=>∃ o,h.get? a=some o
  | .xd fs=>∃ mA,h.Ns1 a mA/\∀ f,RelO (fs.lookup f) (mA f)
  | .rng lo hi=>∃ t u v,h.get? a=some { cls:=.type "range", data:=.fields #[.int lo t,.int hi u,.int 1 v] }
  | .frz o u=>h.get? a=some o/\ObjOk H h a u
  | .tbl ps=>h.get? a=some { cls:=.none,data:=.fields ps }
  | .met f x=>h.get? a=some (PySem.W.methodObj (.ref f) (.ref x))
  | .ext φ=>φ h/\(∃ o,h.get? a=some o)/\∀ h1 h2:Heap,φ h1->(∀ o,h1.get? a=some o->h2.get? a=some o)->φ h2
noncomputable def HOk (H:Hp) (h:Heap):Prop:=∀ a o,H a=some o->ObjOk P w H h a o
end
section
variable {P:Program} {w:World} {H H':Hp} {h h':Heap} {a:Addr} {o:HO}
theorem ObjOk.lt (x:ObjOk P w H h a o):a < h.objs.size:=by
  cases o with
  | lst xs=>obtain ⟨_,_,_,_,e⟩:=x; exact Heap.lt_size e
  | tup xs=>obtain ⟨_,_,_,p⟩:=x; exact p.lt
  | dK kvs=>obtain ⟨_,_,_,_,o,_,_,e,_⟩:=x; exact Heap.lt_size e
  | dT kvs=>obtain ⟨_,_,_,_,o,_,_,e,_⟩:=x; exact Heap.lt_size e
  | set S n=>obtain ⟨o,_,_,_,e,_⟩:=x; exact Heap.lt_size e
  | ins C dx fs=>obtain ⟨_,_,_,e,_⟩:=x; exact Heap.lt_size e
  | own y=>obtain ⟨_,e⟩:=x; exact Heap.lt_size e
  | xd fs=>obtain ⟨_,⟨_,_,_,e,_⟩,_⟩:=x; exact Heap.lt_size e
  | rng lo hi=>obtain ⟨_,_,_,e⟩:=x; exact Heap.lt_size e
  | frz ob u=>obtain ⟨e,_⟩:=x; exact Heap.lt_size e
  | tbl ps=>exact Heap.lt_size (show h.get? a=some _ from x)
  | met f y=>exact Heap.lt_size (show h.get? a=some _ from x)
  | ext φ=>obtain ⟨_,⟨_,e⟩,_⟩:=x; exact Heap.lt_size e
theorem Paired.mapP {α β:Type} {F G:α->β->Prop}:∀ {l₁:List α} {l₂:List β},Paired F l₁ l₂->(∀ a b,F a b->G a b)->Paired G l₁ l₂
  | _,_,.nil,_=>.nil
  | _,_,.cons r t,f=>.cons (f _ _ r) (Paired.mapP t f)
theorem ObjOk.stay (x:ObjOk P w H h a o) (k:∀ b u,(b=a\/H b=some (.own a))->h.get? b=some u->h'.get? b=some u)
    (ho:∀ b,H b=some (.own a)->H' b=some (.own a)) (ht:∀ b xs,H b=some (.tup xs)->H' b=some (.tup xs)):ObjOk P w H' h' a o:=by
  induction o with
  | lst xs=>obtain ⟨z,its,n,r,e⟩:=x; exact ⟨z,its,n,r,k _ _ (.inl rfl) e⟩
  | tup xs=>obtain ⟨z,its,r,ob,e,c⟩:=x; exact ⟨z,its,r,ob,k _ _ (.inl rfl) e,c⟩
  | dK kvs=>obtain ⟨z,y,vs,r,ob,es,ep,e,c⟩:=x; exact ⟨z,y,vs,r,ob,es,ep,k _ _ (.inl rfl) e,c⟩
  | dT kvs =>
    obtain ⟨z,y,xs,r,ob,es,ep,e,c⟩:=x
    exact ⟨z,y,xs,Paired.mapP r fun p q z=>⟨z.1,ht _ _ z.2.1,z.2.2⟩,ob,es,ep,k _ _ (.inl rfl) e,c⟩
  | set S n=>obtain ⟨ob,es,ep,t,e,c⟩:=x; exact ⟨ob,es,ep,t,k _ _ (.inl rfl) e,c⟩
  | ins C dx fs =>
    obtain ⟨d,z,ne,e,mA,⟨od,es,ep,e2,c⟩,r⟩:=x
    exact ⟨ho _ d,z,ne,k _ _ (.inl rfl) e,mA,⟨od,es,ep,k _ _ (.inr d) e2,c⟩,r⟩
  | own y=>obtain ⟨ob,e⟩:=x; exact ⟨ob,k _ _ (.inl rfl) e⟩
  | xd fs=>obtain ⟨mA,⟨od,es,ep,e,c⟩,r⟩:=x; exact ⟨mA,⟨od,es,ep,k _ _ (.inl rfl) e,c⟩,r⟩
  | rng lo hi=>obtain ⟨t,u,v,e⟩:=x; exact ⟨t,u,v,k _ _ (.inl rfl) e⟩
  | frz ob u ih=>obtain ⟨e,q⟩:=x; exact ⟨k _ _ (.inl rfl) e,ih q⟩
  | tbl ps =>
    have e:h.get? a=some { cls:=.none,data:=.fields ps }:=x
    show h'.get? a=some { cls:=.none,data:=.fields ps }
    exact k a _ (.inl rfl) e
  | met f y =>
    have e:h.get? a=some (PySem.W.methodObj (.ref f) (.ref y)):=x
    show h'.get? a=some (PySem.W.methodObj (.ref f) (.ref y))
    exact k a _ (.inl rfl) e
  | ext φ=>obtain ⟨p,⟨o,e⟩,st⟩:=x; exact ⟨st _ _ p fun o q=>k _ _ (.inl rfl) q,⟨o,k _ _ (.inl rfl) e⟩,st⟩
theorem HOk.lt (x:HOk P w H h) (e:H a=some o):a < h.objs.size:=(x a o e).lt
theorem HOk.fresh (x:HOk P w H h) (e:h.objs.size <= a):H a=none:=by
  cases q:H a with
  | none=>rfl
  | some u=>exact absurd (Nat.lt_of_lt_of_le (x.lt q) e) (Nat.lt_irrefl _)
theorem HOk.kept (x:HOk P w H h) (k:∀ b u,h.get? b=some u->h'.get? b=some u):HOk P w H h':=fun a o e =>
  (x a o e).stay (fun b u _ q=>k b u q) (fun _ q=>q) fun _ _ q=>q
theorem HOk.laid (x:HOk P w H h) (k:∀ b u,h.get? b=some u->h'.get? b=some u) (hp:h.objs.size <= a) (new:ObjOk P w (upd H a o) h' a o):HOk P w (upd H a o) h':=fun b u e=>by
  have hn:=x.fresh hp
  by_cases hb:b=a
  . subst hb; rw [Zag] at e; cases e; exact new
  . rw [Zai hb] at e
    exact (x b u e).stay (fun c v _ q=>k c v q) (fun c q=>by rw [Zai (Zaj q hn)]; exact q) fun c xs q=>by rw [Zai (Zaj q hn)]; exact q
end
noncomputable def Rd (H:Hp) (a:Addr) (u:HO):Prop:=H a=some u\/∃ o,H a=some (.frz o u)
theorem Rd.of {H:Hp} {a:Addr} {u:HO} (h:H a=some u):Rd H a u:=.inl h
theorem Rd.ok {P:Program} {w:World} {H:Hp} {h:Heap} {a:Addr} {u:HO} (r:Rd H a u) (x:HOk P w H h):ObjOk P w H h a u:=by
  rcases r with r|⟨o,r⟩
  . exact x a u r
  . obtain ⟨_,q⟩:=x a _ r
    exact q
noncomputable def Mut:Option HO->Prop
  | some (.lst _)=>True
  | some (.dK _)=>True
  | some (.dT _)=>True
  | some (.set _ _)=>True
  | some (.ins _ _ _)=>True
  | some (.ext _)=>True
  | _=>False
section
variable {P:Program} {w:World} {H:Hp} {h h':Heap} {x e:Addr} {o':HO}
theorem HOk.write (ok:HOk P w H h) (mu:Mut (H x)) (he:e=x\/H e=some (.own x)) (k:∀ b u,b ≠ e->h.get? b=some u->h'.get? b=some u) (heo:∃ u,h'.get? e=some u)
    (new:ObjOk P w (upd H x o') h' x o'):HOk P w (upd H x o') h':=fun b u q=>by
  have nown:∀ c y,H c=some (.own y)->c ≠ x:=fun c y r z=>by subst z; rw [r] at mu; exact mu
  have ntup:∀ c xs,H c=some (.tup xs)->c ≠ x:=fun c xs r z=>by subst z; rw [r] at mu; exact mu
  by_cases hb:b=x
  . subst hb; rw [Zag] at q; cases q; exact new
  . rw [Zai hb] at q
    by_cases hbe:b=e
    . have q':H b=some (.own x):=by
        rcases he with z|z
        . exact absurd (hbe.trans z) hb
        . rw [hbe]; exact z
      rw [q] at q'; cases q'
      obtain ⟨v,hv⟩:=heo
      exact ⟨v,by rw [hbe]; exact hv⟩
    . refine (ok b u q).stay (fun c v hc r=>k c v ?_ r) (fun c r=>by rw [Zai (nown c b r)]; exact r) fun c xs r=>by rw [Zai (ntup c xs r)]; exact r
      rcases hc with rfl|hc
      . exact hbe
      . rintro rfl
        rcases he with z|z
        . exact nown c b hc z
        . rw [hc] at z; cases z; exact hb rfl
end
structure Un (fs ex:List Addr) (H H':Hp) (h h':Heap):Prop where
  keep:∀ b o,h.get? b=some o->H b=none->b ∉ fs->b ∉ ex->h'.get? b=some o
  slot:∀ b o,h.get? b=some o->H b=none->b ∈ fs->b ∉ ex->∃ sl,h'.get? b=some { o with slots:=sl }
  free:∀ b o,h.get? b=some o->H b=none->b ∉ ex->H' b=none
  there:∀ b o,h.get? b=some o->b ∉ ex->∃ o',h'.get? b=some o'
  tups:∀ b xs,H b=some (.tup xs)->H' b=some (.tup xs)
  frzs:∀ b o u,H b=some (.frz o u)->H' b=some (.frz o u)
  tbls:∀ b ps,H b=some (.tbl ps)->∃ more,H' b=some (.tbl (ps ++ more))
section
variable {fs fs' ex ex':List Addr} {H H1 H2:Hp} {h h1 h2 h':Heap} {a x e:Addr} {o:HO}
theorem Un.any (u:Un fs ex H H1 h h1) {b:Addr} {ob:Obj} (q:h.get? b=some ob) (n:H b=none) (hx:b ∉ ex):∃ sl,h1.get? b=some { ob with slots:=sl }:=by
  by_cases hb:b ∈ fs
  . exact u.slot b ob q n hb hx
  . exact ⟨ob.slots,u.keep b ob q n hb hx⟩
theorem Un.trans (a:Un fs ex H H1 h h1) (b:Un fs ex H1 H2 h1 h2):Un fs ex H H2 h h2 where
  keep:=fun c ob q n hc hx=>b.keep c ob (a.keep c ob q n hc hx) (a.free c ob q n hx) hc hx
  slot:=fun c ob q n hc hx=>by
    obtain ⟨sl,e1⟩:=a.slot c ob q n hc hx
    obtain ⟨sl',e2⟩:=b.slot c _ e1 (a.free c ob q n hx) hc hx
    exact ⟨sl',e2⟩
  free:=fun c ob q n hx=>by
    obtain ⟨o',e1⟩:=a.there c ob q hx
    exact b.free c o' e1 (a.free c ob q n hx) hx
  there:=fun c ob q hx=>by
    obtain ⟨o',e1⟩:=a.there c ob q hx
    exact b.there c o' e1 hx
  tups:=fun c xs q=>b.tups c xs (a.tups c xs q)
  frzs:=fun c ob xs q=>b.frzs c ob xs (a.frzs c ob xs q)
  tbls:=fun c ps q=>by
    obtain ⟨m1,e1⟩:=a.tbls c ps q
    obtain ⟨m2,e2⟩:=b.tbls c _ e1
    exact ⟨m1 ++ m2,by rw [e2,Array.append_assoc]⟩
theorem Un.kept (k:∀ b u,h.get? b=some u->h'.get? b=some u):Un fs ex H H h h' :=
  ⟨fun b ob q _ _ _=>k b ob q,fun b ob q _ _ _=>⟨ob.slots,k b ob q⟩,fun _ _ _ n _=>n,fun b ob q _=>⟨ob,k b ob q⟩,fun _ _ q=>q,fun _ _ _ q=>q,fun _ ps q=>⟨#[],by rw [q]; simp⟩⟩
theorem Un.refl:Un fs ex H H h h:=Un.kept fun _ _ q=>q
theorem Un.laid (k:∀ b u,h.get? b=some u->h'.get? b=some u) (hp:h.objs.size <= a) (hn:H a=none):Un fs ex H (upd H a o) h h' where
  keep:=fun b u q _ _ _=>k b u q
  slot:=fun b u q _ _ _=>⟨u.slots,k b u q⟩
  free:=fun b u q n _=>by rw [Zai (Nat.ne_of_lt (Nat.lt_of_lt_of_le (Heap.lt_size q) hp))]; exact n
  there:=fun b u q _=>⟨u,k b u q⟩
  tups:=fun b xs q=>by rw [Zai (Zaj q hn)]; exact q
  frzs:=fun b u xs q=>by rw [Zai (Zaj q hn)]; exact q
  tbls:=fun b ps q=>⟨#[],by rw [Zai (Zaj q hn),q]; simp⟩
theorem Un.write (mu:Mut (H x)) (he:e=x\/H e=some (.own x)) (k:∀ b u,b ≠ e->h.get? b=some u->h'.get? b=some u) (heo:∃ u,h'.get? e=some u):Un fs ex H (upd H x o) h h':=by
  have hx:∀ b,H b=none->b ≠ x:=fun b n z=>by subst z; rw [n] at mu; exact mu
  have hb:∀ b,H b=none->b ≠ e:=fun b n z=>by
    subst z
    rcases he with r|r
    . exact hx b n r
    . rw [n] at r; cases r
  have hm:∀ b u,H b=some u->¬ Mut (some u)->b ≠ x:=fun b u q nm z=>by subst z; rw [q] at mu; exact nm mu
  refine ⟨fun b u q n _ _=>k b u (hb b n) q,fun b u q n _ _=>⟨u.slots,k b u (hb b n) q⟩,fun b u q n _=>by rw [Zai (hx b n)]; exact n,fun b u q _=>?_,
    fun b xs q=>by rw [Zai (hm b _ q fun z=>z)]; exact q,fun b u xs q=>by rw [Zai (hm b _ q fun z=>z)]; exact q,fun b ps q=>⟨#[],by rw [Zai (hm b _ q fun z=>z),q]; simp⟩⟩
  by_cases hbe:b=e
  . subst hbe; exact heo
  . exact ⟨u,k b u hbe q⟩
theorem Un.mono (u:Un fs ex H H1 h h1) (hs:∀ b ∈ fs,b ∈ fs') (hx:∀ b ∈ ex,b ∈ ex'):Un fs' ex' H H1 h h1 :=
  ⟨fun b ob q n hb he=>u.keep b ob q n (fun z=>hb (hs b z)) fun z=>he (hx b z),fun _ _ q n _ he=>u.any q n fun z=>he (hx _ z),fun b ob q n he=>u.free b ob q n fun z=>he (hx b z),fun b ob q he=>u.there b ob q fun z=>he (hx b z),u.tups,u.frzs,u.tbls⟩
end
noncomputable def trk (h:Heap) (H:Hp):List Addr:=(List.range h.objs.size).filter fun a=>(H a).isSome
noncomputable def hidT (h:Heap) (H:Hp):Heap:=PySem.W.hideAll h (trk h H)
theorem ZiN (h:Heap) (H:Hp):(hidT h H).objs.size=h.objs.size:=PySem.W.hideAll_size _ _
theorem Zkt {h:Heap} {H:Hp} {b:Addr} {o:Obj} (e:h.get? b=some o) (n:H b=none):(hidT h H).get? b=some o :=
  PySem.W.hideAll_get _ e fun hm=>by
    have q:(H b).isSome=true:=(List.mem_filter.mp hm).2
    rw [n] at q; simp at q
theorem Zl5 {h:Heap} {H:Hp} {b:Addr} {o:Obj} (e:(hidT h H).get? b=some o):h.get? b=some o/\H b=none:=by
  have e':h.get? b=some o:=PySem.W.of_hideAll (trk h H) e
  refine ⟨e',?_⟩
  cases q:H b with
  | none=>rfl
  | some x =>
    have hm:b ∈ trk h H:=List.mem_filter.mpr ⟨List.mem_range.mpr (Heap.lt_size e'),by simp [q]⟩
    have z:(hidT h H).get? b=none:=PySem.W.hideAll_none (trk h H) hm
    rw [z] at e; cases e
noncomputable def Zl6 (g h:Heap) (L:Addr):List (Addr × Obj):=(List.range h.objs.size).filterMap fun a=>if a=L\/(g.get? a).isSome=true then none else (h.get? a).map fun o=>(a,o)
noncomputable def rest (g h:Heap) (L d:Addr):List (Addr × Obj):=(Zl6 g h L).filter fun p=>decide (p.1 ≠ d)
end L2
namespace L2
open PySem PySem.Spec PyProof.Rows
structure Mod (K:PySem.W.Frag) (mg:Str->Option Value) (base:Heap):Prop where
  kin:K.In base
  glob:base.Ns mainGlobals mg
  blt:∃ mb,base.Ns builtinsNs mb/\∀ x:Str,x ≠ "__name__" -> mb x=bootBuiltins x
  nolimit:base.NoLimit
structure Cx where
  prog:Program
  w:World
  K:PySem.W.Frag
  mg:Str->Option Value
  base:Heap
  A:Around
  N:List Str
  s₀:Shared
  H₀:Hp
  env:Env
  outer:List Env
  stack:List Env
  ex:List Addr
  fn:Str->Bool
  calm:Bool
  pn:List (Addr × Obj)
  xe:Value->Shared->Prop
noncomputable def frs (l:List Env):List Addr:=l.filterMap (·.frame)
noncomputable abbrev Cx.fs (X:Cx):List Addr:=frs X.outer
noncomputable def Vis (sc:Scope) (x:Str):Prop:=sc.names.lookup x=some .local\/sc.names.lookup x=some .cell\/sc.names.lookup x=some .free
noncomputable def Loc (sc:Scope) (x:Str):Prop:=sc.names.lookup x=some .local\/sc.names.lookup x=some .cell
noncomputable def Look (env:Env) (h:Heap) (m:Str->Option Value) (x:Str) (u:Value):Prop :=
  (env.kindOf x=some .local/\m x=some u)\/((env.kindOf x=some .cell\/env.kindOf x=some .free)/\∃ c,env.cells.lookup x=some c/\h.IsCell c (some u))
structure Cx.Ok (X:Cx):Prop where
  mod:Mod X.K X.mg X.base
  kind:X.env.scope.kind=.function
  glob:X.env.globals=mainGlobals
  blt:X.env.builtins=builtinsNs
  above:X.s₀.heap.objs.size <= X.env.locals
  inj:∀ x y c,X.env.cells.lookup x=some c->X.env.cells.lookup y=some c->x=y
  has:∀ x,(X.env.kindOf x=some .cell\/X.env.kindOf x=some .free)->∃ c,X.env.cells.lookup x=some c
  cab:∀ x c,X.fn x=true->X.env.cells.lookup x=some c->X.s₀.heap.objs.size <= c
  hd:X.calm=true->X.A.handled=none
  frames:X.A.frames=some X.stack
  stk:X.stack=X.outer\/(X.stack=X.env :: X.outer/\X.env.frame=some X.env.locals)
  exf:∀ b ∈ X.ex,b ≠ X.env.locals/\∀ x c,X.env.cells.lookup x=some c->c ≠ b
  bs:∀ b o,X.base.get? b=some o->X.s₀.heap.get? b=some o/\X.H₀ b=none
  bsz:X.base.objs.size <= X.s₀.heap.objs.size
  noex:∀ b o,X.base.get? b=some o->b ∉ X.ex
  exfs:∀ b ∈ X.ex,b ∉ X.fs
  funs:X.s₀.heap.FunFrames X.base X.outer
  frf:∀ b ∈ X.fs,X.H₀ b=none
structure Inv (X:Cx) (pins:List (Addr × Obj)) (σ:List (Option V)) (H:Hp) (s:Shared):Prop where
  ok:X.Ok
  os:s.os=X.s₀.os
  bare:AllBare s.gens
  base:Un X.fs X.ex X.H₀ H X.s₀.heap s.heap
  loc:∃ m,s.heap.Ns X.env.locals m/\∀ (i:Nat) (x:Str) (v:V),X.N[i]?=some x->σ[i]?=some (some v)->Vis X.env.scope x->∃ u,RelV v u/\Look X.env s.heap m x u
  cell:∀ x c,X.env.cells.lookup x=some c->∃ v,s.heap.IsCell c v
  free:H X.env.locals=none
  freeC:∀ x c,X.env.cells.lookup x=some c->H c=none
  pin:∀ p ∈ X.pn ++ pins,s.heap.get? p.1=some p.2/\H p.1=none/\p.1 ≠ X.env.locals/\p.1 ∉ X.fs/\∀ v,p.2.data ≠ .cell v
  hok:HOk X.prog X.w H s.heap
  len:σ.length=X.N.length
section
variable {X:Cx} {pins:List (Addr × Obj)} {σ:List (Option V)} {H H':Hp} {s:Shared} {h':Heap}
theorem Cx.Ok.nofr (ok:X.Ok) {b:Addr} {o:Obj} (e:X.base.get? b=some o):b ∉ X.fs:=fun hb=>by
  have:=(ok.funs.mem hb).1
  rw [e] at this; cases this
theorem Inv.bs (I:Inv X pins σ H s):∀ b o,X.base.get? b=some o->s.heap.get? b=some o/\H b=none:=fun b o e =>
  ⟨I.base.keep b o (I.ok.bs b o e).1 (I.ok.bs b o e).2 (I.ok.nofr e) (I.ok.noex b o e),I.base.free b o (I.ok.bs b o e).1 (I.ok.bs b o e).2 (I.ok.noex b o e)⟩
theorem Inv.bk (I:Inv X pins σ H s):∀ b o,X.base.get? b=some o->s.heap.get? b=some o:=fun b o e=>(I.bs b o e).1
theorem Inv.mod (I:Inv X pins σ H s):Mod X.K X.mg X.base:=I.ok.mod
theorem Inv.kIn (I:Inv X pins σ H s):X.K.In s.heap:=I.ok.mod.kin.keeps I.bk
theorem Inv.nolimit (I:Inv X pins σ H s):s.heap.NoLimit:=I.ok.mod.nolimit.keeps I.bk
theorem Inv.fr (I:Inv X pins σ H s):∃ m,Fr X.base X.env.locals s.heap m :=
  let ⟨m,hn,_⟩:=I.loc
  ⟨m,hn,I.bk,Nat.le_trans I.ok.bsz I.ok.above⟩
theorem Inv.lt (I:Inv X pins σ H s):X.env.locals < s.heap.objs.size:=let ⟨_,hn,_⟩:=I.loc; hn.lt
theorem Inv.sz (I:Inv X pins σ H s):X.s₀.heap.objs.size <= s.heap.objs.size:=Nat.le_trans I.ok.above (Nat.le_of_lt I.lt)
theorem Inv.nofs (I:Inv X pins σ H s) {a:Addr} (h:s.heap.objs.size <= a):a ∉ X.fs:=fun hb=>by
  obtain ⟨_,o,ho,_⟩:=I.ok.funs.mem hb
  exact absurd (Nat.lt_of_lt_of_le (Heap.lt_size ho) (Nat.le_trans I.sz h)) (Nat.lt_irrefl _)
theorem Inv.cne (I:Inv X pins σ H s):∀ x c,X.env.cells.lookup x=some c->c ≠ X.env.locals:=fun x c e z=>by
  obtain ⟨v,o,ho,hd⟩:=I.cell x c e
  obtain ⟨m,⟨o',es,ep,ho',hd',_⟩,_⟩:=I.loc
  rw [z,ho'] at ho; cases ho; rw [hd'] at hd; cases hd
theorem Inv.funs (I:Inv X pins σ H s):s.heap.FunFrames X.base X.outer:=by
  have all:∀ (l:List Env),(∀ b ∈ frs l,b ∈ X.fs)->X.s₀.heap.FunFrames X.base l->s.heap.FunFrames X.base l:=by
    intro l
    induction l with
    | nil=>intro _ _; trivial
    | cons env r ih =>
      intro hs hl
      obtain ⟨hk,⟨L,o,hf,hn,ho,hd⟩,hr⟩:=hl
      have hL:L ∈ X.fs:=hs L (by unfold frs; rw [List.filterMap_cons,hf]; exact List.mem_cons_self)
      obtain ⟨sl,e⟩:=I.base.slot L o ho (I.ok.frf L hL) hL fun z=>I.ok.exfs L z hL
      exact ⟨hk,⟨L,_,hf,hn,e,hd⟩,ih (fun b hb=>hs b (by unfold frs; rw [List.filterMap_cons,hf]; exact List.mem_cons_of_mem _ hb)) hr⟩
  exact all X.outer (fun _ hb=>hb) I.ok.funs
theorem Inv.stack (I:Inv X pins σ H s):s.heap.FunFrames X.base X.stack:=by
  rcases I.ok.stk with e|⟨e,hf⟩
  . rw [e]; exact I.funs
  . rw [e]
    obtain ⟨m,hn,_⟩:=I.loc
    refine .cons (by rw [I.ok.kind]; decide) hf hn ?_ I.funs
    exact Heap.get?_none_of_le (Nat.le_trans I.ok.bsz I.ok.above)
theorem Inv.stkSub (I:Inv X pins σ H s):∀ b ∈ frs X.stack,b ∈ X.env.locals :: X.fs:=fun b hb=>by
  rcases I.ok.stk with e|⟨e,hf⟩
  . rw [e] at hb; exact List.mem_cons_of_mem _ hb
  . rw [e] at hb
    unfold frs at hb
    rw [List.filterMap_cons,hf] at hb
    exact hb
theorem Inv.stkFree (I:Inv X pins σ H s):∀ b ∈ frs X.stack,H b=none:=fun b hb=>by
  rcases List.mem_cons.mp (I.stkSub b hb) with e|hb
  . rw [e]; exact I.free
  . obtain ⟨_,o,ho,_⟩:=I.ok.funs.mem hb
    exact I.base.free b o ho (I.ok.frf b hb) fun z=>I.ok.exfs b z hb
theorem Inv.step {g':Array GenState} {t':Nat} {d':Drawn} {ch:List Addr} (I:Inv X pins σ H s)
    (hch:∀ b ∈ ch,(b ∈ X.ex\/X.s₀.heap.objs.size <= b)/\b ≠ X.env.locals/\(∀ x c,X.env.cells.lookup x=some c->c ≠ b)/\∀ p ∈ X.pn ++ pins,p.1 ≠ b)
    (keep:∀ b o,b ≠ X.env.locals->b ∉ X.fs->b ∉ ch->s.heap.get? b=some o->H b=none->h'.get? b=some o)
    (slot:∀ b o,b ≠ X.env.locals->b ∈ X.fs->b ∉ ch->s.heap.get? b=some o->H b=none->∃ sl,h'.get? b=some { o with slots:=sl }) (free:∀ b o,b ∉ ch->s.heap.get? b=some o->H b=none->H' b=none)
    (there:∀ b o,b ∉ ch->s.heap.get? b=some o->∃ o',h'.get? b=some o')
    (tups:∀ b xs,H b=some (.tup xs)->H' b=some (.tup xs)) (frzs:∀ b o u,H b=some (.frz o u)->H' b=some (.frz o u)) (tbls:∀ b ps,H b=some (.tbl ps)->∃ more,H' b=some (.tbl (ps ++ more)))
    (ns:∀ m,s.heap.Ns X.env.locals m->h'.Ns X.env.locals m) (hok:HOk X.prog X.w H' h') (hg:AllBare g') :
    Inv X pins σ H' { s with heap:=h',gens:=g',drawn:=d',toks:=t' }:=by
  have neL:∀ b o,X.s₀.heap.get? b=some o->b ≠ X.env.locals:=fun b o e=>Nat.ne_of_lt (Nat.lt_of_lt_of_le (Heap.lt_size e) I.ok.above)
  have neC:∀ b o,X.s₀.heap.get? b=some o->b ∉ X.ex->b ∉ ch:=fun b o e hx hb=>by
    rcases (hch b hb).1 with z|z
    . exact hx z
    . exact absurd (Nat.lt_of_lt_of_le (Heap.lt_size e) z) (Nat.lt_irrefl _)
  have cellK:∀ x c,X.env.cells.lookup x=some c->∀ v,s.heap.IsCell c v->h'.IsCell c v:=fun x c e v ⟨o,ho,hd⟩=>by
    have nch:c ∉ ch:=fun z=>(hch c z).2.2.1 x c e rfl
    by_cases hc:c ∈ X.fs
    . obtain ⟨sl,q⟩:=slot c o (I.cne x c e) hc nch ho (I.freeC x c e)
      exact ⟨_,q,hd⟩
    . exact ⟨o,keep c o (I.cne x c e) hc nch ho (I.freeC x c e),hd⟩
  refine ⟨I.ok,I.os,hg,⟨fun b o e n hb hx=>?_,fun b o e n hb hx=>?_,fun b o e n hx=>?_,fun b o e hx=>?_,fun b xs e=>tups b xs (I.base.tups b xs e),fun b o xs e=>frzs b o xs (I.base.frzs b o xs e),fun b ps e=>?_⟩,?_,fun x c e=>?_,?_,fun x c e=>?_,fun p hp=>?_,hok,I.len⟩
  . exact keep b o (neL b o e) hb (neC b o e hx) (I.base.keep b o e n hb hx) (I.base.free b o e n hx)
  . obtain ⟨sl,e1⟩:=I.base.slot b o e n hb hx
    obtain ⟨sl',e2⟩:=slot b _ (neL b o e) hb (neC b o e hx) e1 (I.base.free b o e n hx)
    exact ⟨sl',e2⟩
  . obtain ⟨o',e1⟩:=I.base.there b o e hx
    exact free b o' (neC b o e hx) e1 (I.base.free b o e n hx)
  . obtain ⟨o',e1⟩:=I.base.there b o e hx
    exact there b o' (neC b o e hx) e1
  . obtain ⟨m1,e1⟩:=I.base.tbls b ps e
    obtain ⟨m2,e2⟩:=tbls b _ e1
    exact ⟨m1 ++ m2,by rw [e2,Array.append_assoc]⟩
  . obtain ⟨m,hn,hl⟩:=I.loc
    refine ⟨m,ns m hn,fun i x v e1 e2 e3=>?_⟩
    obtain ⟨u,r,l⟩:=hl i x v e1 e2 e3
    refine ⟨u,r,?_⟩
    rcases l with l|⟨k,c,e,z⟩
    . exact .inl l
    . exact .inr ⟨k,c,e,cellK x c e _ z⟩
  . obtain ⟨v,z⟩:=I.cell x c e
    exact ⟨v,cellK x c e v z⟩
  . obtain ⟨m,⟨o,_,_,ho,_⟩,_⟩:=I.loc
    exact free _ o (fun z=>(hch _ z).2.1 rfl) ho I.free
  . obtain ⟨v,o,ho,hd⟩:=I.cell x c e
    exact free c o (fun z=>(hch c z).2.2.1 x c e rfl) ho (I.freeC x c e)
  . obtain ⟨e,n,ne,nf,d⟩:=I.pin p hp
    have nch:p.1 ∉ ch:=fun z=>(hch p.1 z).2.2.2 p hp rfl
    exact ⟨keep p.1 p.2 ne nf nch e n,free p.1 p.2 nch e n,ne,nf,d⟩
theorem Inv.un {t':Nat} (I:Inv X pins σ H s) (u:Un X.fs [] H H' s.heap h') (hok:HOk X.prog X.w H' h'):Inv X pins σ H' { s with heap:=h',toks:=t' }:=by
  obtain ⟨m,⟨o,es,ep,ho,r⟩,_⟩:=id I.loc
  obtain ⟨sl,hL⟩:=u.any ho I.free (by simp)
  exact I.step (g':=s.gens) (d':=s.drawn) (ch:=[]) (fun _ z=>nomatch z) (fun b o _ hb _ e n=>u.keep b o e n hb (by simp)) (fun b o _ hb _ e n=>u.slot b o e n hb (by simp)) (fun b o _ e n=>u.free b o e n (by simp)) (fun b o _ e=>u.there b o e (by simp)) u.tups u.frzs u.tbls (fun m' hm=>by
    obtain ⟨o',es',ep',ho',r'⟩:=hm
    rw [ho] at ho'; cases ho'
    exact ⟨_,es',ep',hL,r'⟩) hok I.bare
theorem Inv.call {g':Array GenState} {t':Nat} {d':Drawn} {ch:List Addr} (I:Inv X pins σ H s) (u:Un (frs X.stack) ch H H' s.heap h') (hok:HOk X.prog X.w H' h') (hg:AllBare g')
    (hch:∀ b ∈ ch,(b ∈ X.ex\/X.s₀.heap.objs.size <= b)/\b ≠ X.env.locals/\(∀ x c,X.env.cells.lookup x=some c->c ≠ b)/\∀ p ∈ X.pn ++ pins,p.1 ≠ b) :
    Inv X pins σ H' { s with heap:=h',gens:=g',drawn:=d',toks:=t' }:=by
  obtain ⟨m,⟨o,es,ep,ho,r⟩,_⟩:=id I.loc
  obtain ⟨sl,hL⟩:=u.any ho I.free fun z=>(hch _ z).2.1 rfl
  exact I.step (ch:=ch) hch (fun b o hL hb hc e n=>u.keep b o e n (fun z=>(List.mem_cons.mp (I.stkSub b z)).elim hL hb) hc) (fun b o _ _ hc e n=>u.any e n hc) (fun b o hc e n=>u.free b o e n hc) (fun b o hc e=>u.there b o e hc) u.tups u.frzs u.tbls (fun m' hm=>by
    obtain ⟨o',es',ep',ho',r'⟩:=hm
    rw [ho] at ho'; cases ho'
    exact ⟨_,es',ep',hL,r'⟩) hok hg
theorem Inv.turned {t':Nat} {it:Addr} (I:Inv X pins σ H s) (k:∀ b o,b ≠ it->s.heap.get? b=some o->h'.get? b=some o) (hn:H it=none) (hL:it ≠ X.env.locals)
    (h1:it ∈ X.ex\/X.s₀.heap.objs.size <= it) (h2:∀ x c,X.env.cells.lookup x=some c->c ≠ it) (h3:∀ p ∈ X.pn ++ pins,p.1 ≠ it):Inv X pins σ H { s with heap:=h',toks:=t' }:=by
  have nit:∀ b u,H b=some u->b ≠ it:=fun b u e z=>by rw [z,hn] at e; cases e
  refine I.step (g':=s.gens) (d':=s.drawn) (ch:=[it]) (fun b hb=>?_) (fun b o _ _ hc e _=>k b o (fun z=>hc (by simp [z])) e) (fun b o _ _ hc e _=>⟨o.slots,k b o (fun z=>hc (by simp [z])) e⟩) (fun _ _ _ _ n=>n)
    (fun b o hc e=>⟨o,k b o (fun z=>hc (by simp [z])) e⟩) (fun _ _ e=>e) (fun _ _ _ e=>e) (fun b ps e=>⟨#[],by rw [e]; simp⟩) (fun m hm=>?_) (fun b u e=>?_) I.bare
  . have e:b=it:=by simpa using hb
    subst e
    exact ⟨h1,hL,h2,h3⟩
  . obtain ⟨o,es,ep,ho,r⟩:=hm
    exact ⟨o,es,ep,k _ o (Ne.symm hL) ho,r⟩
  . refine (I.hok b u e).stay (fun c v hc q=>k c v ?_ q) (fun _ q=>q) fun _ _ q=>q
    rcases hc with z|z
    . rw [z]; exact nit b u e
    . exact nit c _ z
theorem Inv.tok (I:Inv X pins σ H s) (t:Nat):Inv X pins σ H { s with toks:=t }:=I.un (h':=s.heap) (t':=t) Un.refl I.hok
theorem Inv.kept {t':Nat} (I:Inv X pins σ H s) (k:∀ b u,s.heap.get? b=some u->h'.get? b=some u):Inv X pins σ H { s with heap:=h',toks:=t' }:=I.un (Un.kept k) (I.hok.kept k)
theorem Inv.laid {a:Addr} {o:HO} {t':Nat} (I:Inv X pins σ H s) (k:∀ b u,s.heap.get? b=some u->h'.get? b=some u) (hp:s.heap.objs.size <= a) (new:ObjOk X.prog X.w (upd H a o) h' a o) :
    Inv X pins σ (upd H a o) { s with heap:=h',toks:=t' }:=I.un (Un.laid k hp (I.hok.fresh hp)) (I.hok.laid k hp new)
theorem Inv.write {x e:Addr} {o:HO} {t':Nat} (I:Inv X pins σ H s) (mu:Mut (H x)) (he:e=x\/H e=some (.own x)) (k:∀ b u,b ≠ e->s.heap.get? b=some u->h'.get? b=some u) (heo:∃ u,h'.get? e=some u)
    (new:ObjOk X.prog X.w (upd H x o) h' x o):Inv X pins σ (upd H x o) { s with heap:=h',toks:=t' }:=I.un (Un.write mu he k heo) (I.hok.write mu he k heo new)
theorem Inv.pins_of {pins':List (Addr × Obj)} (I:Inv X pins σ H s) (h:∀ p ∈ pins',s.heap.get? p.1=some p.2/\H p.1=none/\p.1 ≠ X.env.locals/\p.1 ∉ X.fs/\∀ v,p.2.data ≠ .cell v):Inv X pins' σ H s :=
  ⟨I.ok,I.os,I.bare,I.base,I.loc,I.cell,I.free,I.freeC,fun p hp=>(List.mem_append.mp hp).elim (fun z=>I.pin p (List.mem_append_left _ z)) (h p),I.hok,I.len⟩
theorem Zhy {N:List Str} (hN:N.Nodup) {i j:Nat} {x:Str} (a:N[i]?=some x) (b:N[j]?=some x):i=j:=by
  obtain ⟨h1,e1⟩:=List.getElem?_eq_some_iff.mp a
  obtain ⟨h2,e2⟩:=List.getElem?_eq_some_iff.mp b
  exact (List.getElem_inj hN).mp (e1.trans e2.symm)
theorem Zfx {M:Model} {A:Around} {E:Value->Shared->Prop} {i:Nat} {x:Str} {v:V} {u:Value} {Q:Unit->Shared->Prop} (I:Inv X pins σ H s) (hN:X.N.Nodup) (hi:X.N[i]?=some x) (hx:Loc X.env.scope x) (r:RelV v u)
    (h:∀ s',Inv X pins (σ.set i (some v)) H s'->(∃ a,Heap.SameBut a s.heap s'.heap/\(a=X.env.locals\/X.env.cells.lookup x=some a))->Q () s') (hf:X.fn x=true\/X.env.scope.names.lookup x=some .local:=by first|exact .inl rfl|exact .inr rfl|assumption):wpAny M A (storeName X.env x u) Q E s:=by
  obtain ⟨m,hn,hl⟩:=id I.loc
  have hcls:(X.env.scope.kind == .class || (X.env.scope.kind == .module && X.env.locals != X.env.globals))=false:=by rw [I.ok.kind]; rfl
  have hiσ:i < σ.length:=by rw [I.len]; exact (List.getElem?_eq_some_iff.mp hi).1
  have cne:=I.cne
  have tracked:∀ {a:Addr} {h':Heap},(∃ o,s.heap.get? a=some o/\H a=none)->Heap.SameBut a s.heap h'->HOk X.prog X.w H h':=fun {a h'} ha hs b ob e=>by
    obtain ⟨_,_,hfree⟩:=ha
    refine (I.hok b ob e).stay (fun c w' hc q=>(hs.2 c ?_).trans q) (fun _ q=>q) fun _ _ q=>q
    rintro rfl
    rcases hc with rfl|hc
    . rw [hfree] at e; cases e
    . rw [hfree] at hc; cases hc
  rcases hx with hk|hk
  . refine wpAny_storeName_local hk hn (fun h' hn' hs=>?_) hcls
    obtain ⟨oL,_,_,hoL,_⟩:=id hn
    refine h _ ⟨I.ok,I.os,I.bare,⟨fun b o e n hb hx=>?_,fun b o e n hb hx=>?_,I.base.free,fun b o e hx=>?_,I.base.tups,I.base.frzs,I.base.tbls⟩,⟨_,hn',fun j y v' e1 e2 e3=>?_⟩,fun y c e=>?_,I.free,I.freeC,fun p hp=>?_,tracked ⟨oL,hoL,I.free⟩ hs,by simpa using I.len⟩ ⟨_,hs,.inl rfl⟩
    . exact (hs.2 b (Nat.ne_of_lt (Nat.lt_of_lt_of_le (Heap.lt_size e) I.ok.above))).trans (I.base.keep b o e n hb hx)
    . obtain ⟨sl,e1⟩:=I.base.slot b o e n hb hx
      exact ⟨sl,(hs.2 b (Nat.ne_of_lt (Nat.lt_of_lt_of_le (Heap.lt_size e) I.ok.above))).trans e1⟩
    . obtain ⟨o',e1⟩:=I.base.there b o e hx
      exact ⟨o',(hs.2 b (Nat.ne_of_lt (Nat.lt_of_lt_of_le (Heap.lt_size e) I.ok.above))).trans e1⟩
    . by_cases hj:j=i
      . subst hj
        rw [hi] at e1; cases e1
        rw [List.getElem?_set_self hiσ] at e2
        cases e2
        exact ⟨u,r,.inl ⟨hk,by simp⟩⟩
      . rw [List.getElem?_set_ne (Ne.symm hj)] at e2
        obtain ⟨u',r',q⟩:=hl j y v' e1 e2 e3
        refine ⟨u',r',?_⟩
        rcases q with ⟨k,e⟩|⟨k,c,e,z⟩
        . refine .inl ⟨k,?_⟩
          have:y ≠ x:=fun e=>hj (Zhy hN e1 (e ▸ hi))
          simp [this,e]
        . exact .inr ⟨k,c,e,z.sameBut hs (cne y c e)⟩
    . obtain ⟨w',z⟩:=I.cell y c e
      exact ⟨w',z.sameBut hs (cne y c e)⟩
    . obtain ⟨e,n,ne,nf,d⟩:=I.pin p hp
      exact ⟨(hs.2 p.1 ne).trans e,n,ne,nf,d⟩
  . have hfn:X.fn x=true:=by
      rcases hf with z|z
      . exact z
      . rw [z] at hk; cases hk
    obtain ⟨c,hc⟩:=I.ok.has x (.inl hk)
    obtain ⟨w',z⟩:=I.cell x c hc
    refine wpAny_storeName_cell I.ok.kind hk hc z (fun h' hc' hs=>?_)
    obtain ⟨oc,hoc,hocd⟩:=id z
    refine h { s with heap:=h' } ⟨I.ok,I.os,I.bare,⟨fun b o e n hb hx=>?_,fun b o e n hb hx=>?_,I.base.free,fun b o e hx=>?_,I.base.tups,I.base.frzs,I.base.tbls⟩,⟨m,hn.sameBut hs (Ne.symm (cne x c hc)),fun j y v' e1 e2 e3=>?_⟩,fun y c' e=>?_,I.free,I.freeC,fun p hp=>?_,tracked ⟨oc,hoc,I.freeC x c hc⟩ hs,by simpa using I.len⟩ ⟨c,hs,.inr hc⟩
    . exact (hs.2 b (Nat.ne_of_lt (Nat.lt_of_lt_of_le (Heap.lt_size e) (I.ok.cab x c hfn hc)))).trans (I.base.keep b o e n hb hx)
    . obtain ⟨sl,e1⟩:=I.base.slot b o e n hb hx
      exact ⟨sl,(hs.2 b (Nat.ne_of_lt (Nat.lt_of_lt_of_le (Heap.lt_size e) (I.ok.cab x c hfn hc)))).trans e1⟩
    . obtain ⟨o',e1⟩:=I.base.there b o e hx
      exact ⟨o',(hs.2 b (Nat.ne_of_lt (Nat.lt_of_lt_of_le (Heap.lt_size e) (I.ok.cab x c hfn hc)))).trans e1⟩
    . by_cases hj:j=i
      . subst hj
        rw [hi] at e1; cases e1
        rw [List.getElem?_set_self hiσ] at e2
        cases e2
        exact ⟨u,r,.inr ⟨.inl hk,c,hc,hc'⟩⟩
      . rw [List.getElem?_set_ne (Ne.symm hj)] at e2
        obtain ⟨u',r',q⟩:=hl j y v' e1 e2 e3
        refine ⟨u',r',?_⟩
        rcases q with q|⟨k,c',e,z'⟩
        . exact .inl q
        . refine .inr ⟨k,c',e,z'.sameBut hs ?_⟩
          rintro rfl
          exact hj (Zhy hN e1 (I.ok.inj _ _ _ e hc ▸ hi))
    . by_cases hcc:c'=c
      . subst hcc; exact ⟨_,hc'⟩
      . obtain ⟨w2,z2⟩:=I.cell y c' e
        exact ⟨w2,z2.sameBut hs hcc⟩
    . obtain ⟨e,n,ne,nf,d⟩:=I.pin p hp
      refine ⟨(hs.2 p.1 ?_).trans e,n,ne,nf,d⟩
      intro q
      rw [q,hoc] at e
      have q':oc=p.2:=Option.some.inj e
      exact d w' (by rw [<- q']; exact hocd)
theorem Zhz {M:Model} {A:Around} {E:Value->Shared->Prop} {i:Nat} {x:Str} {v:V} {u:Value} {Q:Unit->Shared->Prop} (I:Inv X pins σ H s) (hN:X.N.Nodup) (hi:X.N[i]?=some x) (hx:Loc X.env.scope x) (r:RelV v u)
    (h:∀ s',Inv X pins (σ.set i (some v)) H s'->Q () s') (hf:X.fn x=true\/X.env.scope.names.lookup x=some .local:=by first|exact .inl rfl|exact .inr rfl|assumption):wpAny M A (storeName X.env x u) Q E s :=
  Zfx I hN hi hx r (fun s' I' _=>h s' I') hf
theorem Inv.call' {s':Shared} {ch:List Addr} (I:Inv X pins σ H s) (ho:s'.os=s.os) (u:Un (frs X.stack) ch H H' s.heap s'.heap) (hok:HOk X.prog X.w H' s'.heap) (hg:AllBare s'.gens)
    (hch:∀ b ∈ ch,(b ∈ X.ex\/X.s₀.heap.objs.size <= b)/\b ≠ X.env.locals/\(∀ x c,X.env.cells.lookup x=some c->c ≠ b)/\∀ p ∈ X.pn ++ pins,p.1 ≠ b):Inv X pins σ H' s':=by
  obtain ⟨h',g',d',t',o'⟩:=s'
  have e:o'=s.os:=ho
  subst e
  exact I.call (g':=g') (t':=t') (d':=d') u hok hg hch
end
noncomputable abbrev XK:=Value->Option Addr->Hp->Prop
noncomputable abbrev St:=List (Option V)
noncomputable abbrev VK:=V->Hp->Prop
noncomputable abbrev TE:=St->Hp->VK->Prop
noncomputable abbrev TT:=St->Hp->(Bool->Hp->Prop)->Prop
noncomputable abbrev TA:=St->Hp->(List V->Hp->Prop)->Prop
structure Ends where
  nx:St->Hp->Prop
  rt:VK
  bk:St->Hp->Prop:=fun _ _=>False
  ct:St->Hp->Prop:=fun _ _=>False
noncomputable abbrev TS:=Ends->St->Hp->Prop
noncomputable def EP (X:Cx) (pins:List (Addr × Obj)) (σ:St) (Q:VK) (u:Value) (s':Shared):Prop:=∃ v H',Inv X pins σ H' s'/\RelV v u/\Q v H'
noncomputable def TP (X:Cx) (pins:List (Addr × Obj)) (σ:St) (Q:Bool->Hp->Prop) (b:Bool) (s':Shared):Prop:=∃ H',Inv X pins σ H' s'/\Q b H'
noncomputable def AP (X:Cx) (pins:List (Addr × Obj)) (σ:St) (Q:List V->Hp->Prop) (us:List Value) (s':Shared):Prop:=∃ vs H',Inv X pins σ H' s'/\Vals vs us/\Q vs H'
noncomputable def SP (X:Cx) (pins:List (Addr × Obj)) (D:Ends) (f:Flow) (s':Shared):Prop :=
  match f with
  | .next=>∃ σ' H',Inv X pins σ' H' s'/\D.nx σ' H'
  | .brk=>∃ σ' H',Inv X pins σ' H' s'/\D.bk σ' H'
  | .cont=>∃ σ' H',Inv X pins σ' H' s'/\D.ct σ' H'
  | .ret u=>∃ v σ' H',Inv X pins σ' H' s'/\RelV v u/\D.rt v H'
noncomputable def PE (X:Cx) (e:Expr) (t:TE):Prop :=
  ∀ (pins:List (Addr × Obj)) (s:Shared) (σ:St) (H:Hp) (Q:VK),Inv X pins σ H s->t σ H Q->wpAny (model X.prog X.w) X.A (eval e X.env) (EP X pins σ Q) X.xe s
noncomputable def PT (X:Cx) (e:Expr) (t:TT):Prop :=
  ∀ (pins:List (Addr × Obj)) (s:Shared) (σ:St) (H:Hp) (Q:Bool->Hp->Prop),Inv X pins σ H s->t σ H Q->wpAny (model X.prog X.w) X.A (isTrue e X.env (eval e X.env)) (TP X pins σ Q) X.xe s
noncomputable def PW (X:Cx) (e:Expr) (t:TT):Prop :=
  ∀ (whole:Sem Value) (pins:List (Addr × Obj)) (s:Shared) (σ:St) (H:Hp) (Q:Bool->Hp->Prop),Inv X pins σ H s->t σ H Q->wpAny (model X.prog X.w) X.A (isTrue e X.env whole) (TP X pins σ Q) X.xe s
theorem PW.pt {X:Cx} {e:Expr} {t:TT} (h:PW X e t):PT X e t:=h _
noncomputable def PA (X:Cx) (es:List Expr) (t:TA):Prop :=
  ∀ (pos:Pos) (pins:List (Addr × Obj)) (s:Shared) (σ:St) (H:Hp) (Q:List V->Hp->Prop),Inv X pins σ H s->t σ H Q->wpAny (model X.prog X.w) X.A (spliced (backTo pos (starEach es X.env))) (AP X pins σ Q) X.xe s
noncomputable def PS (X:Cx) (st:Stmt) (t:TS):Prop :=
  ∀ (pins:List (Addr × Obj)) (s:Shared) (σ:St) (H:Hp) (D:Ends),Inv X pins σ H s->t D σ H->wpAny (model X.prog X.w) X.A (exec st X.env) (SP X pins D) X.xe s
noncomputable def PSs (X:Cx) (st:List Stmt) (t:TS):Prop :=
  ∀ (pins:List (Addr × Obj)) (s:Shared) (σ:St) (H:Hp) (D:Ends),Inv X pins σ H s->t D σ H->wpAny (model X.prog X.w) X.A (execs st X.env) (SP X pins D) X.xe s
theorem thn {α:Type} {t:Sem α} {Q Q':α->Shared->Prop} {M:Model} {A:Around} {E:Value->Shared->Prop} {s:Shared} (h:wpAny M A t Q E s) (hQ:∀ a s,Q a s->Q' a s):wpAny M A t Q' E s:=wpAny_mono h hQ fun _ _ x=>x
end L2
namespace L2
open PySem PySem.Spec PyProof.Rows
section
variable {X:Cx}
theorem bin {a b:Expr} {ta tb:TE} (ha:PE X a ta) (hb:PE X b tb) {pins:List (Addr × Obj)} {s:Shared} {σ:St} {H:Hp} {R:V->V->Hp->Prop} (I:Inv X pins σ H s) (h:ta σ H fun x H1=>tb σ H1 fun y H2=>R x y H2)
    {α:Type} {Q:α->Shared->Prop} {f:Value->Value->Sem α}
    (hf:∀ v u s2 x y H2,Inv X pins σ H2 s2->RelV x v->RelV y u->R x y H2->wpAny (model X.prog X.w) X.A (f v u) Q X.xe s2) :
    wpAny (model X.prog X.w) X.A (eval a X.env) (fun v s₁=>wpAny (model X.prog X.w) X.A (eval b X.env) (fun u s₂=>wpAny (model X.prog X.w) X.A (f v u) Q X.xe s₂) X.xe s₁) X.xe s:=by
  refine thn (ha pins s σ H _ I h) fun v s1 ⟨x,H1,I1,r1,q1⟩=>?_
  refine thn (hb pins s1 σ H1 _ I1 q1) fun u s2 ⟨y,H2,I2,r2,q2⟩=>?_
  exact hf v u s2 x y H2 I2 r1 r2 q2
noncomputable def tVar (i:Nat):TE:=fun σ H Q=>∃ v,σ[i]?=some (some v)/\Q v H
noncomputable def tC (v:V):TE:=fun _ H Q=>Q v H
theorem pe_var {i:Nat} {x:Str} {pos:Pos} (hN:X.N[i]?=some x) (hv:Vis X.env.scope x) (hd:(x == ("__debug__" : Str))=false:=by decide) (hcd:(x == ("__classdict__" : Str))=false:=by decide):PE X (.Name x pos) (tVar i):=by
  intro pins s σ H Q I h
  obtain ⟨v,e,h⟩:=h
  obtain ⟨m,hn,hl⟩:=I.loc
  obtain ⟨u,r,l⟩:=hl i x v hN e hv
  have fin:EP X pins σ Q u s:=⟨v,H,I,r,h⟩
  rcases l with ⟨hk,hm⟩|⟨hk,c,hc,hcell⟩
  . exact wpAny_Name (wpAny_loadName_local I.ok.kind hk hn hm fin) hd
  . rcases hk with hk|hk
    . exact wpAny_Name (wpAny_loadName_cell I.ok.kind hk hc hcell fin) hd
    . exact wpAny_Name (wpAny_loadName_free I.ok.kind hk hc hcell fin hcd) hd
theorem Zae {i j pos}:PE X (.Constant (.int i) j pos) (tC (.int i)):=fun _ _ _ H _ I h=>wpAny_Constant_int ⟨.int i,H,I.tok _,⟨_,rfl⟩,h⟩
theorem Zie {b j pos}:PE X (.Constant (.bool b) j pos) (tC (.bl b)):=fun _ _ _ H _ I h=>Constant_bool ⟨.bl b,H,I,rfl,h⟩
theorem Zca {j pos}:PE X (.Constant .none j pos) (tC .non):=fun _ _ _ H _ I h=>Constant_none ⟨.non,H,I,rfl,h⟩
theorem Zas {x j pos}:PE X (.Constant (.str x) j pos) (tC (.str x)):=fun _ _ _ H _ I h=>Calls.Constant_str ⟨.str x,H,I.tok _,⟨_,rfl⟩,h⟩
noncomputable def Gl (X:Cx) (x:Str):Prop:=X.env.kindOf x=some .globalImplicit
theorem ZeG {E:Value->Shared->Prop} {pins:List (Addr × Obj)} {s:Shared} {σ:St} {H:Hp} {x:Str} {u:Value} {pos:Pos} {Q:Value->Shared->Prop} (I:Inv X pins σ H s) (hg:Gl X x) (hm:X.mg x=some u) (h:Q u s)
    (hd:(x == ("__debug__" : Str))=false:=by decide):wpAny (model X.prog X.w) X.A (eval (.Name x pos) X.env) Q E s :=
  Calls.Name_function_global I.ok.kind hg (Calls.loadGlobal_global (by rw [I.ok.glob]; exact I.mod.glob.keeps I.bk) hm h) hd
theorem Zey {E:Value->Shared->Prop} {pins:List (Addr × Obj)} {s:Shared} {σ:St} {H:Hp} {x:Str} {u:Value} {pos:Pos} {Q:Value->Shared->Prop} (I:Inv X pins σ H s) (hg:Gl X x) (hm:X.mg x=none) (hv:bootBuiltins x=some u) (h:Q u s)
    (hn:x ≠ "__name__" := by decide) (hd:(x == ("__debug__" : Str))=false:=by decide):wpAny (model X.prog X.w) X.A (eval (.Name x pos) X.env) Q E s:=by
  obtain ⟨mb,h1,h2⟩:=I.mod.blt
  exact Calls.Name_function_global I.ok.kind hg (Calls.loadGlobal_builtin (by rw [I.ok.glob]; exact I.mod.glob.keeps I.bk) hm (by rw [I.ok.blt]; exact h1.keeps I.bk) ((h2 x hn).trans hv) h) hd
theorem Zl7 {x:Str} {v:V} {u:Value} {pos:Pos} (hg:Gl X x) (hm:X.mg x=some u) (r:RelV v u) (hd:(x == ("__debug__" : Str))=false:=by decide):PE X (.Name x pos) (tC v) :=
  fun _ _ _ H _ I h=>ZeG I hg hm ⟨v,H,I,r,h⟩ hd
theorem Zl8 {x:Str} {v:V} {u:Value} {pos:Pos} (hg:Gl X x) (hm:X.mg x=none) (hv:bootBuiltins x=some u) (r:RelV v u) (hn:x ≠ "__name__" := by decide) (hd:(x == ("__debug__" : Str))=false:=by decide):PE X (.Name x pos) (tC v) :=
  fun _ _ _ H _ I h=>Zey I hg hm hv ⟨v,H,I,r,h⟩ hn hd
noncomputable def t2I (ta tb:TE) (k:Int->Int->Hp->Prop):St->Hp->Prop:=fun σ H=>ta σ H fun x H1=>tb σ H1 fun y H2=>∃ i j,x=.int i/\y=.int j/\k i j H2
variable {a b:Expr} {ta tb:TE} {pos:Pos}
noncomputable def PC (X:Cx) (op:CmpOp) (a b:Expr) (t:TE):Prop :=
  ∀ (pins:List (Addr × Obj)) (s:Shared) (σ:St) (H:Hp) (Q:VK),Inv X pins σ H s->t σ H Q ->
    wpAny (model X.prog X.w) X.A (eval a X.env) (fun v s₁=>wpAny (model X.prog X.w) X.A (eval b X.env) (fun u s₂=>wpAny (model X.prog X.w) X.A (compareOp op v u) (EP X pins σ Q) X.xe s₂) X.xe s₁) X.xe s
theorem Zku (b:Expr) {op:CmpOp} (h:op ≠ .In) (h2:op ≠ .NotIn):behindInMarks op b=false:=by
  have e1:(op == CmpOp.In)=false:=by cases op <;> first|rfl|exact absurd rfl h
  have e2:(op == CmpOp.NotIn)=false:=by cases op <;> first|rfl|exact absurd rfl h2
  cases b <;> simp [behindInMarks,e1,e2]
noncomputable def tCmp (p:Int->Int->Bool) (ta tb:TE):TE:=fun σ H Q=>t2I ta tb (fun i j H2=>Q (.bl (p i j)) H2) σ H
noncomputable abbrev tLt:TE->TE->TE:=tCmp fun i j=>decide (i < j)
noncomputable abbrev tLe:TE->TE->TE:=tCmp fun i j=>decide (i <= j)
noncomputable abbrev tGt:TE->TE->TE:=tCmp fun i j=>decide (j < i)
noncomputable abbrev tGe:TE->TE->TE:=tCmp fun i j=>decide (j <= i)
noncomputable abbrev tEqI:TE->TE->TE:=tCmp fun i j=>decide (i=j)
noncomputable abbrev tNeI:TE->TE->TE:=tCmp fun i j=>!decide (i=j)
noncomputable def tB (t:TE):TT:=fun σ H Q=>t σ H fun x H1=>∃ c,x=.bl c/\Q c H1
theorem pt_cmp {op:CmpOp} {t:TE} (h:PC X op a b t) (h1:behindInMarks op b=false:=by first|exact Zku _ (by decide) (by decide)|rfl):PT X (.Compare a [op] [b] pos) (tB t):=by
  intro pins s σ H Q I hw
  refine wpAny_isTrue_Compare1 (thn (h pins s σ H _ I hw) fun v s1 h1=>thn h1 fun u s2 h2=>thn h2 fun c s3 ⟨x,H1,I1,r1,q1⟩=>?_) h1
  obtain ⟨d,rfl,q⟩:=q1
  cases r1
  exact wpAny_truthy_bool ⟨H1,I1,q⟩
theorem Zcb {e:Expr} {t:TE} (h:PE X e t) (he:∀ whole,isTrue e X.env whole=(do let v <- whole; standAt e.pos; holding [v] (truthy v)):=by intro _; rfl):PT X e (tB t):=by
  intro pins s σ H Q I hw
  refine isTrue_plain (thn (h pins s σ H _ I hw) fun v s1 ⟨x,H1,I1,r1,q1⟩=>?_) (he _)
  obtain ⟨d,rfl,q⟩:=q1
  cases r1
  exact wpAny_truthy_bool ⟨H1,I1,q⟩
variable {tA tB':TT} {rest:List Expr}
noncomputable def tAnd (t u:TT):TT:=fun σ H Q=>t σ H fun c H1=>if c=true then u σ H1 Q else Q false H1
noncomputable def tOr (t u:TT):TT:=fun σ H Q=>t σ H fun c H1=>if c=true then Q true H1 else u σ H1 Q
noncomputable def tNot (t:TT):TT:=fun σ H Q=>t σ H fun c H1=>Q (!c) H1
theorem ZeH (ha:PT X a tA):PW X (.BoolOp .And [a] pos) tA:=by
  intro wh pins s σ H Q I h
  refine isTrue_and (thn (ha pins s σ H Q I h) fun c s1 e=>?_)
  cases c with
  | true=>exact isTrue_and_nil e
  | false=>exact e
theorem ZhA (ha:PT X a tA):PW X (.BoolOp .Or [a] pos) tA:=by
  intro wh pins s σ H Q I h
  refine isTrue_or (thn (ha pins s σ H Q I h) fun c s1 e=>?_)
  cases c with
  | false=>exact isTrue_or_nil e
  | true=>exact e
theorem ZhB (ha:PT X a tA) (hb:PW X (.BoolOp .And (b :: rest) pos) tB'):PW X (.BoolOp .And (a :: b :: rest) pos) (tAnd tA tB'):=by
  intro wh pins s σ H Q I h
  refine isTrue_and (thn (ha pins s σ H _ I h) fun c s1 ⟨H1,I1,q1⟩=>?_)
  cases c with
  | true=>exact hb wh pins s1 σ H1 Q I1 q1
  | false=>exact ⟨H1,I1,q1⟩
theorem ZiO (ha:PT X a tA) (hb:PW X (.BoolOp .Or (b :: rest) pos) tB'):PW X (.BoolOp .Or (a :: b :: rest) pos) (tOr tA tB'):=by
  intro wh pins s σ H Q I h
  refine isTrue_or (thn (ha pins s σ H _ I h) fun c s1 ⟨H1,I1,q1⟩=>?_)
  cases c with
  | true=>exact ⟨H1,I1,q1⟩
  | false=>exact hb wh pins s1 σ H1 Q I1 q1
theorem Zfy (ha:PT X a tA):PT X (.UnaryOp .Not a pos) (tNot tA):=by
  intro pins s σ H Q I h
  exact isTrue_not (ha pins s σ H (fun c H1=>Q (!c) H1) I h)
noncomputable def tAndV (ta tb:TE):TE:=fun σ H Q=>ta σ H fun x H1=>∃ c,x=.bl c/\if c=true then tb σ H1 Q else Q (.bl false) H1
noncomputable def tOrV (ta tb:TE):TE:=fun σ H Q=>ta σ H fun x H1=>∃ c,x=.bl c/\if c=true then Q (.bl true) H1 else tb σ H1 Q
noncomputable def tNotV (ta:TE):TE:=fun σ H Q=>ta σ H fun x H1=>∃ c,x=.bl c/\Q (.bl (!c)) H1
theorem Zez {op} {t:TE} (h:PE X a t):PE X (.BoolOp op [a] pos) t:=fun pins s σ H Q I hw=>BoolOp_one (h pins s σ H Q I hw)
theorem Zfz (ha:PE X a ta) (hb:PE X (.BoolOp .And (b :: rest) pos) tb):PE X (.BoolOp .And (a :: b :: rest) pos) (tAndV ta tb):=by
  intro pins s σ H Q I h
  refine BoolOp_and (thn (ha pins s σ H _ I h) fun v s1 ⟨x,H1,I1,r1,q1⟩=>?_)
  obtain ⟨c,rfl,q1⟩:=q1
  cases r1
  refine wpAny_truthy_bool ?_
  cases c with
  | true=>exact hb pins s1 σ H1 Q I1 q1
  | false=>exact ⟨.bl false,H1,I1,rfl,q1⟩
theorem pe_or (ha:PE X a ta) (hb:PE X (.BoolOp .Or (b :: rest) pos) tb):PE X (.BoolOp .Or (a :: b :: rest) pos) (tOrV ta tb):=by
  intro pins s σ H Q I h
  refine BoolOp_or (thn (ha pins s σ H _ I h) fun v s1 ⟨x,H1,I1,r1,q1⟩=>?_)
  obtain ⟨c,rfl,q1⟩:=q1
  cases r1
  refine wpAny_truthy_bool ?_
  cases c with
  | false=>exact hb pins s1 σ H1 Q I1 q1
  | true=>exact ⟨.bl true,H1,I1,rfl,q1⟩
theorem pe_not (ha:PE X a ta):PE X (.UnaryOp .Not a pos) (tNotV ta):=by
  intro pins s σ H Q I h
  refine UnaryOp_ (thn (ha pins s σ H _ I h) fun v s1 ⟨x,H1,I1,r1,q1⟩=>?_)
  obtain ⟨c,rfl,q1⟩:=q1
  cases r1
  exact not_of (wpAny_truthy_bool ⟨.bl (!c),H1,I1,rfl,q1⟩)
noncomputable def tIf (t:TT) (ta tb:TE):TE:=fun σ H Q=>t σ H fun c H1=>if c=true then ta σ H1 Q else tb σ H1 Q
theorem ZdC {c:Expr} (hc:PT X c tA) (ha:PE X a ta) (hb:PE X b tb):PE X (.IfExp c a b pos) (tIf tA ta tb):=by
  intro pins s σ H Q I h
  refine wpAny_IfExp (thn (hc pins s σ H _ I h) fun d s1 ⟨H1,I1,q1⟩=>?_)
  cases d with
  | true=>exact ha pins s1 σ H1 Q I1 q1
  | false=>exact hb pins s1 σ H1 Q I1 q1
end
end L2
namespace L2
open PySem PySem.Spec PyProof.Rows
noncomputable def SqL (K:PySem.W.Frag) (H:Hp) (a:Addr) (xs:List V):Prop :=
  Rd H a (.lst xs) \/
    ∃ (o:Obj) (its:Array Value) (n:Nat),K.lookup a=some o/\o.cls=.type "list" /\ o.dict=none/\o.data=.seq its n/\its.size <= sizeLine/\Vals xs its.toList
noncomputable def SqT (K:PySem.W.Frag) (H:Hp) (a:Addr) (xs:List V):Prop :=
  Rd H a (.tup xs) \/
    ∃ (o:Obj) (its:Array Value) (n:Nat),K.lookup a=some o/\o.cls=.type "tuple" /\ o.data=.seq its n/\its.size <= sizeLine/\Vals xs its.toList
noncomputable def absV:Value->Option V
  | .none=>some .non
  | .bool b=>some (.bl b)
  | .int i _=>some (.int i)
  | .str x _=>some (.str x)
  | .bytes b _=>some (.byt b)
  | .float b _=>some (.flt b)
  | .ref a=>some (.ref a)
  | .type n=>some (.ty n)
  | _=>none
theorem RelV.abs {x:V} {u:Value} (r:RelV x u):absV u=some x:=by
  cases x with
  | non=>cases r; rfl
  | bl _=>cases r; rfl
  | int _=>obtain ⟨t,rfl⟩:=r; rfl
  | str _=>obtain ⟨t,rfl⟩:=r; rfl
  | byt _=>obtain ⟨t,rfl⟩:=r; rfl
  | flt _=>obtain ⟨t,rfl⟩:=r; rfl
  | ref _=>cases r; rfl
  | ty _=>cases r; rfl
theorem RelV.inj {x y:V} {u:Value} (r:RelV x u) (q:RelV y u):x=y:=Option.some.inj (r.abs.symm.trans q.abs)
theorem Vals.inj:∀ {xs ys:List V} {us:List Value},Vals xs us->Vals ys us->xs=ys
  | _,_,_,.nil,.nil=>rfl
  | _,_,_,.cons r t,.cons r' t'=>by rw [r.inj r',Vals.inj t t']
section
variable {X:Cx} {pins:List (Addr × Obj)} {σ:St} {H:Hp} {s:Shared} {a:Addr} {xs ys:List V}
theorem SqL.of {K:PySem.W.Frag} (h:H a=some (.lst xs)):SqL K H a xs:=.inl (.inl h)
theorem SqT.of {K:PySem.W.Frag} (h:H a=some (.tup xs)):SqT K H a xs:=.inl (.inl h)
theorem Inv.list (I:Inv X pins σ H s) (h:SqL X.K H a xs):∃ its:List Value,Vals xs its/\PlainL s.heap a its.toArray/\xs.length <= sizeLine:=by
  rcases h with h|⟨o,its,n,hk,hc,hd,hs,hz,r⟩
  . obtain ⟨z,its,n,r,e⟩:=h.ok I.hok
    exact ⟨its,r,⟨_,n,e,rfl,rfl,rfl⟩,z⟩
  . refine ⟨its.toList,r,⟨o,n,I.kIn a o hk,hc,hd,by simpa using hs⟩,?_⟩
    have e:=r.length
    simp only [Array.length_toList] at e
    omega
theorem Inv.tuple (I:Inv X pins σ H s) (h:SqT X.K H a xs):∃ its:List Value,Vals xs its/\IsTup s.heap a its.toArray/\xs.length <= sizeLine:=by
  rcases h with h|⟨o,its,n,hk,hc,hs,hz,r⟩
  . obtain ⟨z,its,r,p⟩:=h.ok I.hok
    exact ⟨its,r,p,z⟩
  . refine ⟨its.toList,r,⟨o,I.kIn a o hk,hc,n,by simpa using hs⟩,?_⟩
    have e:=r.length
    simp only [Array.length_toList] at e
    omega
theorem Inv.list_inj (I:Inv X pins σ H s) (h:SqL X.K H a xs) (h':SqL X.K H a ys):xs=ys:=by
  obtain ⟨its,r,⟨o,n,e,_,_,d⟩,_⟩:=I.list h
  obtain ⟨its',r',⟨o',n',e',_,_,d'⟩,_⟩:=I.list h'
  rw [e] at e'; cases e'
  rw [d] at d'
  injection d' with d1 _
  have:its=its':=by simpa using congrArg Array.toList d1
  subst this
  exact r.inj r'
theorem Inv.tuple_inj (I:Inv X pins σ H s) (h:SqT X.K H a xs) (h':SqT X.K H a ys):xs=ys:=by
  obtain ⟨its,r,⟨o,e,_,n,d⟩,_⟩:=I.tuple h
  obtain ⟨its',r',⟨o',e',_,n',d'⟩,_⟩:=I.tuple h'
  rw [e] at e'; cases e'
  rw [d] at d'
  injection d' with d1 _
  have:its=its':=by simpa using congrArg Array.toList d1
  subst this
  exact r.inj r'
end
noncomputable abbrev Cx.wish (X:Cx) (E:Value->Shared->Prop):Cx:={ X with xe:=E }
noncomputable abbrev Cx.nox (X:Cx):Cx:=X.wish fun _ _=>False
theorem Cx.Ok.wish {X:Cx} (ok:X.Ok) (E:Value->Shared->Prop):(X.wish E).Ok :=
  ⟨ok.mod,ok.kind,ok.glob,ok.blt,ok.above,ok.inj,ok.has,ok.cab,ok.hd,ok.frames,ok.stk,ok.exf,ok.bs,ok.bsz,ok.noex,ok.exfs,ok.funs,ok.frf⟩
theorem Cx.Ok.unwish {X:Cx} {E:Value->Shared->Prop} (ok:(X.wish E).Ok):X.Ok :=
  ⟨ok.mod,ok.kind,ok.glob,ok.blt,ok.above,ok.inj,ok.has,ok.cab,ok.hd,ok.frames,ok.stk,ok.exf,ok.bs,ok.bsz,ok.noex,ok.exfs,ok.funs,ok.frf⟩
section
variable {X:Cx} {pins:List (Addr × Obj)} {σ:St} {H:Hp} {s:Shared} {E:Value->Shared->Prop}
theorem Inv.wish (I:Inv X pins σ H s) (E:Value->Shared->Prop):Inv (X.wish E) pins σ H s:=⟨I.ok.wish E,I.os,I.bare,I.base,I.loc,I.cell,I.free,I.freeC,I.pin,I.hok,I.len⟩
theorem Inv.unwish (I:Inv (X.wish E) pins σ H s):Inv X pins σ H s:=⟨I.ok.unwish,I.os,I.bare,I.base,I.loc,I.cell,I.free,I.freeC,I.pin,I.hok,I.len⟩
theorem SP.unwish {D:Ends} {f:Flow} {s':Shared} (h:SP (X.wish E) pins D f s'):SP X pins D f s':=by
  cases f with
  | next=>obtain ⟨σ',H',I,q⟩:=h; exact ⟨σ',H',I.unwish,q⟩
  | brk=>obtain ⟨σ',H',I,q⟩:=h; exact ⟨σ',H',I.unwish,q⟩
  | cont=>obtain ⟨σ',H',I,q⟩:=h; exact ⟨σ',H',I.unwish,q⟩
  | ret u=>obtain ⟨v,σ',H',I,r,q⟩:=h; exact ⟨v,σ',H',I.unwish,r,q⟩
theorem PE.nox {e:Expr} {t:TE} (h:PE X.nox e t):PE X e t:=fun pins s σ H Q I hw =>
  wpAny_mono (h pins s σ H Q (I.wish _) hw) (fun _ _ ⟨v,H',I',r,q⟩=>⟨v,H',I'.unwish,r,q⟩) fun _ _ z=>False.elim z
theorem PT.nox {e:Expr} {t:TT} (h:PT X.nox e t):PT X e t:=fun pins s σ H Q I hw =>
  wpAny_mono (h pins s σ H Q (I.wish _) hw) (fun _ _ ⟨H',I',q⟩=>⟨H',I'.unwish,q⟩) fun _ _ z=>False.elim z
theorem PSs.nox {st:List Stmt} {t:TS} (h:PSs X.nox st t):PSs X st t:=fun pins s σ H D I hw =>
  wpAny_mono (h pins s σ H D (I.wish _) hw) (fun _ _ q=>q.unwish) fun _ _ z=>False.elim z
end
section
variable {X:Cx} {st:Stmt} {rest:List Stmt} {t u:TS} {e:Expr} {te:TE} {pos:Pos}
noncomputable def tNext:TS:=fun D σ H=>D.nx σ H
noncomputable def tSeq (t u:TS):TS:=fun D σ H=>t { D with nx:=u D } σ H
theorem Zat:PSs X [] tNext:=fun _ _ σ H _ I h=>wpAny_execs_nil ⟨σ,H,I,h⟩
theorem Zac (h1:PS X st t) (h2:PSs X rest u):PSs X (st :: rest) (tSeq t u):=by
  intro pins s σ H D I h
  refine wpAny_execs_cons (thn (h1 pins s σ H { D with nx:=u D } I h) fun f s1 q=>?_)
  cases f with
  | next =>
    obtain ⟨σ',H',I',q⟩:=q
    exact h2 pins s1 σ' H' D I' q
  | ret v=>exact q
  | brk=>exact q
  | cont=>exact q
theorem Zad (h1:PS X st t):PSs X [st] t:=by
  intro pins s σ H D I h
  refine wpAny_execs_cons (thn (h1 pins s σ H D I h) fun f s1 q=>?_)
  cases f with
  | next=>exact wpAny_execs_nil q
  | ret v=>exact q
  | brk=>exact q
  | cont=>exact q
theorem ZiP:PS X (.Pass pos) tNext:=fun _ _ σ H _ I h=>wpAny_Pass ⟨σ,H,I,h⟩
theorem Inv.quiet {pins:List (Addr × Obj)} {σ:St} {H:Hp} {s:Shared} (I:Inv X pins σ H s):interactive X.env=false:=by simp [interactive,I.ok.kind]
noncomputable def tDrop (te:TE):TS:=fun D σ H=>te σ H fun _ H1=>D.nx σ H1
theorem Zav (he:PE X e te) (hs:swapsWith e none pos.line X.env=pure false:=by rfl):PS X (.Expr e pos) (tDrop te):=by
  intro pins s σ H D I h
  exact wpAny_Expr_any (thn (he pins s σ H _ I h) fun v s1 ⟨x,H1,I1,r1,q1⟩=>⟨σ,H1,I1,q1⟩) I.quiet hs
noncomputable def tRet (te:TE):TS:=fun D σ H=>te σ H D.rt
theorem Zam (he:PE X e te):PS X (.Return (some e) pos) (tRet te):=by
  intro pins s σ H D I h
  exact wpAny_Return_some (thn (he pins s σ H _ I h) fun v s1 ⟨x,H1,I1,r1,q1⟩=>⟨x,σ,H1,I1,r1,q1⟩)
noncomputable def tRetN:TS:=fun D _ H=>D.rt .non H
theorem Zl9:PS X (.Return none pos) tRetN:=fun _ _ σ H _ I h=>wpAny_Return_none ⟨.non,σ,H,I,rfl,h⟩
noncomputable def tIfS (c:TT) (t u:TS):TS:=fun D σ H=>c σ H fun b H1=>if b=true then t D σ H1 else u D σ H1
theorem ZaP {c:Expr} {a b:List Stmt} {tc:TT} (hc:PT X c tc) (ha:PSs X a t) (hb:PSs X b u):PS X (.If c a b pos) (tIfS tc t u):=by
  intro pins s σ H D I h
  refine wpAny_If (thn (hc pins s σ H _ I h) fun d s1 ⟨H1,I1,q1⟩=>?_)
  cases d with
  | true=>exact ha pins s1 σ H1 D I1 q1
  | false=>exact hb pins s1 σ H1 D I1 q1
end
noncomputable abbrev TG:=V->St->Hp->(St->Hp->Prop)->Prop
noncomputable abbrev TGs:=List V->St->Hp->(St->Hp->Prop)->Prop
noncomputable def PG (X:Cx) (target:Expr) (t:TG):Prop :=
  ∀ (pins:List (Addr × Obj)) (s:Shared) (σ:St) (H:Hp) (v:V) (u:Value) (Q:St->Hp->Prop),Inv X pins σ H s->RelV v u->t v σ H Q ->
    wpAny (model X.prog X.w) X.A (assign target X.env u) (fun _ s'=>∃ σ' H',Inv X pins σ' H' s'/\Q σ' H') X.xe s
noncomputable def PGs (X:Cx) (ts:List Expr) (t:TGs):Prop :=
  ∀ (pins:List (Addr × Obj)) (s:Shared) (σ:St) (H:Hp) (vs:List V) (us:List Value) (Q:St->Hp->Prop),Inv X pins σ H s->Vals vs us->t vs σ H Q ->
    wpAny (model X.prog X.w) X.A (assignInOrder ((assignEach ts X.env).map (·.2)) us) (fun _ s'=>∃ σ' H',Inv X pins σ' H' s'/\Q σ' H') X.xe s
noncomputable abbrev TSet:=V->V->V->Hp->(Hp->Prop)->Prop
noncomputable def PSet (X:Cx) (t:TSet):Prop :=
  ∀ (pins:List (Addr × Obj)) (s:Shared) (σ:St) (H:Hp) (o i v:V) (ov iv u:Value) (Q:Hp->Prop),Inv X pins σ H s->RelV o ov->RelV i iv->RelV v u->t o i v H Q ->
    wpAny (model X.prog X.w) X.A (setItem ov iv u) (fun _ s'=>∃ H',Inv X pins σ H' s'/\Q H') X.xe s
noncomputable abbrev TIp:=V->V->Hp->VK->Prop
section
variable {X:Cx} {pos:Pos}
noncomputable def gName (i:Nat):TG:=fun v σ H Q=>Q (σ.set i (some v)) H
theorem Zcc {i:Nat} {x:Str} (hN:X.N.Nodup) (hi:X.N[i]?=some x) (hx:Loc X.env.scope x) (hf:X.fn x=true\/X.env.scope.names.lookup x=some .local:=by first|exact .inl rfl|exact .inr rfl|assumption):PG X (.Name x pos) (gName i):=by
  intro pins s σ H v u Q I r h
  exact wpAny_assign_Name (Zhz I hN hi hx r (fun s' I'=>⟨_,H,I',h⟩) hf)
noncomputable def gNil:TGs:=fun vs σ H Q=>vs=[]/\Q σ H
noncomputable def gCons (t:TG) (u:TGs):TGs:=fun vs σ H Q=>∃ v r,vs=v :: r/\t v σ H fun σ' H'=>u r σ' H' Q
theorem Zma:PGs X [] gNil:=by
  intro pins s σ H vs us Q I r h
  obtain ⟨e,h⟩:=h
  subst e
  cases r
  exact assignInOrder_nil ⟨σ,H,I,h⟩
theorem ZhC {e:Expr} {es:List Expr} {t:TG} {u:TGs} (h1:PG X e t) (h2:PGs X es u)
    (hs:(assignEach (e :: es) X.env).map (·.2)=assign e X.env :: (assignEach es X.env).map (·.2):=by rfl):PGs X (e :: es) (gCons t u):=by
  intro pins s σ H vs us Q I r h
  obtain ⟨v,vr,e1,h⟩:=h
  subst e1
  cases r with
  | cons r rr =>
    rw [hs]
    refine assignInOrder_cons (thn (h1 pins s σ H _ _ _ I r h) fun _ s1 ⟨σ1,H1,I1,q1⟩=>?_)
    exact h2 pins s1 σ1 H1 _ _ Q I1 rr q1
noncomputable def gTup (K:PySem.W.Frag) (n:Nat) (t:TGs):TG:=fun v σ H Q=>∃ a xs,v=.ref a/\SqT K H a xs/\xs.length=n/\t xs σ H Q
theorem pg_tup {es:List Expr} {k:Nat} {t:TGs} {n:Nat} (hc:X.calm=true) (h:PGs X es t)
    (hn:(assignEach es X.env).length=n:=by rfl) (hst:(assignEach es X.env).findIdx? (·.1)=none:=by rfl):PG X (.Tuple es k pos) (gTup X.K n t):=by
  intro pins s σ H v u Q I r hw
  obtain ⟨a,xs,e1,hq,hl,hw⟩:=hw
  subst e1
  cases r
  obtain ⟨its,rv,ht,hz⟩:=I.tuple hq
  refine assign_Tuple_tuple (I.ok.hd hc) ht (by simp [hn,<- hl,rv.length]) hst fun h' hx=>?_
  have I1:Inv X pins σ H { s with heap:=h' }:=I.kept (t':=s.toks) fun b o e=>hx b o (Nat.ne_of_lt (Heap.lt_size e)) e
  exact h pins _ σ H xs _ Q I1 (by simpa using rv) hw
noncomputable def gSub (to ti:TE) (t:TSet):TG:=fun v σ H Q=>to σ H fun o H1=>ti σ H1 fun i H2=>t o i v H2 fun H3=>Q σ H3
theorem ZhD {o i:Expr} {to ti:TE} {t:TSet} (ho:PE X o to) (hi:PE X i ti) (hs:PSet X t)
    (ha:∀ v,assign (.Subscript o i pos) X.env v=(do
      let ov <- holding [v] (eval o X.env)
      let iv <- holding [v,ov] (eval i X.env)
      standAt pos
      holding [v,ov,iv] (setItem ov iv v)
      release [v,ov,iv] []):=by intro _; rfl):PG X (.Subscript o i pos) (gSub to ti t):=by
  intro pins s σ H v u Q I r h
  rw [ha]
  refine wpAny_bind (wpAny_holding (thn (ho pins s σ H _ I h) fun ov s1 ⟨x,H1,I1,r1,q1⟩=>?_))
  refine wpAny_bind (wpAny_holding (thn (hi pins s1 σ H1 _ I1 q1) fun iv s2 ⟨y,H2,I2,r2,q2⟩=>?_))
  refine wpAny_bind (wpAny_standAt (wpAny_bind (wpAny_holding (thn (hs pins s2 σ H2 x y v ov iv u _ I2 r1 r2 r q2) fun _ s3 ⟨H3,I3,q3⟩=>?_))))
  exact wpAny_release ⟨σ,H3,I3,q3⟩
noncomputable def tAsg (te:TE) (g:TG):TS:=fun D σ H=>te σ H fun x H1=>g x σ H1 D.nx
theorem ZhE {tg e:Expr} {te:TE} {g:TG} (he:PE X e te) (hg:PG X tg g) (hs:swapsWithSole [tg] e pos.line X.env=pure false:=by rfl) (hw:swappedStores [tg] e X.env=pure none:=by rfl)
    (h1:(assignEach [tg] X.env).map (·.2)=[assign tg X.env]:=by rfl):PS X (.Assign [tg] e pos) (tAsg te g):=by
  intro pins s σ H D I h
  refine wpAny_Assign_stores (thn (he pins s σ H _ I h) fun v s1 ⟨x,H1,I1,r1,q1⟩=>?_) hs hw
  rw [h1]
  exact thn (hg pins s1 σ H1 x v _ I1 r1 q1) fun _ s2 q=>q
theorem ZaI {i:Nat} {x:Str} {e:Expr} {te:TE} {pos':Pos} (hN:X.N.Nodup) (hi:X.N[i]?=some x) (hx:Loc X.env.scope x) (he:PE X e te) (hs:swapsWith e (some (.Name x pos')) pos.line X.env=pure false:=by rfl) (hf:X.fn x=true\/X.env.scope.names.lookup x=some .local:=by first|exact .inl rfl|exact .inr rfl|assumption) :
    PS X (.Assign [.Name x pos'] e pos) (tAsg te (gName i)):=by
  intro pins s σ H D I h
  refine wpAny_Assign_Name (thn (he pins s σ H _ I h) fun v s1 ⟨y,H1,I1,r1,q1⟩=>?_) hs
  exact Zhz I1 hN hi hx r1 (fun s2 I2=>⟨_,H1,I2,q1⟩) hf
end
section
variable {X:Cx} {pos:Pos}
noncomputable def tWhile (c:TT) (tb:TS):TS:=fun D σ H=>∃ W:Nat->St->Hp->Prop,(∃ m,W m σ H)/\∀ m σ H,W m σ H ->
  c σ H fun b H1=>if b=true then ∃ N:St->Hp->Prop,(∀ σ' H',N σ' H'->∃ m',m' < m/\W m' σ' H')/\tb { D with nx:=N,ct:=N,bk:=D.nx } σ H1 else D.nx σ H1
theorem ZhF {c:Expr} {body:List Stmt} {tc:TT} {tb:TS} (hp:PassesOwn (model X.prog X.w) X.A X.env X.xe) (hc:PT X c tc) (hb:PSs X body tb):PS X (.While c body [] pos) (tWhile tc tb):=by
  intro pins s σ H D I h
  obtain ⟨W,⟨m0,w0⟩,turn⟩:=h
  refine wpAny_While (codeAny_whileLoop (fun n s'=>∃ σ' H',Inv X pins σ' H' s'/\W n σ' H') ?_ m0 ⟨σ,H,I,w0⟩)
  rintro n s1 ⟨σ1,H1,I1,w1⟩
  refine wpAny_passesOwn hp (thn (hc pins s1 σ1 H1 _ I1 (turn n σ1 H1 w1)) fun b s2 ⟨H2,I2,q2⟩=>?_)
  cases b with
  | true =>
    obtain ⟨N,hN,q2⟩:=q2
    rw [if_pos rfl]
    refine wpAny_passesOwn hp (thn (hb pins s2 σ1 H2 _ I2 q2) fun f s3 q3=>?_)
    cases f with
    | next =>
      obtain ⟨σ3,H3,I3,n3⟩:=q3
      obtain ⟨m',hm,w3⟩:=hN σ3 H3 n3
      exact ⟨m',hm,σ3,H3,I3,w3⟩
    | cont =>
      obtain ⟨σ3,H3,I3,n3⟩:=q3
      obtain ⟨m',hm,w3⟩:=hN σ3 H3 n3
      exact ⟨m',hm,σ3,H3,I3,w3⟩
    | brk=>exact q3
    | ret v=>exact q3
  | false =>
    rw [if_neg Bool.false_ne_true]
    exact wpAny_execs_nil ⟨σ1,H2,I2,q2⟩
end
structure It where
  go:Nat->Hp->Prop
  yld:Nat->Hp->V->Hp->Prop
  stop:Nat->Hp->Prop
noncomputable def FpOk (X:Cx) (pins:List (Addr × Obj)) (H:Hp) (b:Addr):Prop :=
  H b=none/\b ≠ X.env.locals/\b ∉ X.fs/\(b ∈ X.ex\/X.s₀.heap.objs.size <= b)/\(∀ x c,X.env.cells.lookup x=some c->c ≠ b)/\∀ p ∈ X.pn ++ pins,p.1 ≠ b
theorem Inv.fpOk {X:Cx} {pins:List (Addr × Obj)} {σ:St} {H H':Hp} {s:Shared} {b:Addr} (I:Inv X pins σ H s) (hb:s.heap.objs.size <= b) (hn:H' b=none):FpOk X pins H' b:=by
  refine ⟨hn,Nat.ne_of_gt (Nat.lt_of_lt_of_le I.lt hb),I.nofs hb,.inr (Nat.le_trans I.sz hb),fun x c e z=>?_,fun p hp z=>?_⟩
  . obtain ⟨v,q⟩:=I.cell x c e
    exact absurd (Nat.lt_of_lt_of_le q.lt (by rw [z]; exact hb)) (Nat.lt_irrefl _)
  . exact absurd (Nat.lt_of_lt_of_le (Heap.lt_size (I.pin p hp).1) (by rw [z]; exact hb)) (Nat.lt_irrefl _)
structure Turn (P:Program) (w:World) (K:PySem.W.Frag) (tg:Expr) (J:It) (fp:List Addr) (it:Addr) (tn:Nat->Heap->Prop):Prop where
  mem:it ∈ fp
  obj:∀ i h,tn i h->∀ b ∈ fp,∃ o,h.get? b=some o/\∀ v,o.data ≠ .cell v
  keep:∀ i h h',tn i h->(∀ b ∈ fp,∀ o,h.get? b=some o->h'.get? b=some o)->tn i h'
  item:∀ (X:Cx),X.prog=P->X.w=w->X.K=K->X.calm=true->∀ (i:Nat) (pins:List (Addr × Obj)) (s:Shared) (σ:St) (H:Hp) (E:Value->Shared->Prop),Inv X pins σ H s->(∀ b ∈ fp,FpOk X pins H b)->tn i s.heap->J.go i H ->
    wpAny (model P w) X.A (pyNext (.ref it)) (fun r s1=>∃ u,r=some u /\
      wpAny (model P w) X.A (letOwnedTupleGo tg (.ref it) u) (fun _ s2=>∃ x H',Inv X pins σ H' s2/\RelV x u/\J.yld i H x H'/\tn (i + 1) s2.heap/\∀ b ∈ fp,H' b=none) E s1) E s
  done:∀ (X:Cx),X.prog=P->X.w=w->X.K=K->X.calm=true->∀ (i:Nat) (pins:List (Addr × Obj)) (s:Shared) (σ:St) (H:Hp) (E:Value->Shared->Prop),Inv X pins σ H s->(∀ b ∈ fp,FpOk X pins H b)->tn i s.heap->J.stop i H ->
    wpAny (model P w) X.A (pyNext (.ref it)) (fun r s1=>r=none/\Inv X pins σ H s1) E s
  self:∀ (A:Around) (i:Nat) (s:Shared) (Q:Value->Shared->Prop) (E:Value->Shared->Prop),tn i s.heap->Q (.ref it) s->wpAny (model P w) A (pyIter (.ref it)) Q E s
noncomputable abbrev TI:=St->Hp->(It->Hp->Prop)->Prop
noncomputable def PIE (X:Cx) (pins:List (Addr × Obj)) (σ:St) (tg:Expr) (R:It->Hp->Prop) (itv:Value) (s2:Shared):Prop :=
  ∃ (it:Addr) (fp:List Addr) (tn:Nat->Heap->Prop) (J:It) (H':Hp),itv=.ref it/\Inv X pins σ H' s2/\Turn X.prog X.w X.K tg J fp it tn/\tn 0 s2.heap/\(∀ b ∈ fp,FpOk X pins H' b)/\R J H'
noncomputable def PI (X:Cx) (tg iter:Expr) (wi:TI):Prop :=
  ∀ (pins:List (Addr × Obj)) (s:Shared) (σ:St) (H:Hp) (R:It->Hp->Prop),Inv X pins σ H s->wi σ H R ->
    wpAny (model X.prog X.w) X.A (eval iter X.env) (fun v s1=>wpAny (model X.prog X.w) X.A (pyIter v) (PIE X pins σ tg R) X.xe s1) X.xe s
theorem go_of {M:Model} {A:Around} {E:Value->Shared->Prop} {s:Shared} {tg:Expr} {it:Addr} {u:Value} {o:Obj} {n:String} {vs:Array Value} {Q:Unit->Shared->Prop} (ho:s.heap.get? it=some o) (hc:o.cls=.type n) (hd:o.data=.fields vs)
    (hn:["enumerate", "zip", "dict_itemiterator", "dict_reverseitemiterator", "odict_iterator", "itertools.zip_longest", "itertools.pairwise"].contains n=false) (hQ:Q () s):wpAny M A (letOwnedTupleGo tg (.ref it) u) Q E s:=by
  unfold letOwnedTupleGo
  cases tg <;> first
    | exact wpAny_pure hQ
    | (cases u <;> first
        | exact wpAny_pure hQ
        | (refine wpAny_bind (wpAny_load ho ?_)
           rw [hc,hd]
           show wpAny M A (if (["enumerate", "zip", "dict_itemiterator", "dict_reverseitemiterator", "odict_iterator", "itertools.zip_longest", "itertools.pairwise"].contains n && vs[0]? == some (rawInt _))=true then _ else _) Q E s
           rw [if_neg (by intro h; rw [hn,Bool.false_and] at h; cases h)]
           exact wpAny_pure hQ))
noncomputable def Itl (K:PySem.W.Frag) (a:Addr):It :=
  ⟨fun i H=>∃ xs x,SqL K H a xs/\xs[i]?=some x,fun i H x H'=>H'=H/\∀ xs,SqL K H a xs->xs[i]?=some x,fun i H=>∃ xs,SqL K H a xs/\xs.length <= i⟩
noncomputable def Itr (lo:Int) (n:Nat):It:=⟨fun i _=>i < n,fun i H x H'=>H'=H/\x=.int (lo + i),fun i _=>n <= i⟩
theorem ZiQ {P:Program} {w:World} {K:PySem.W.Frag} {tg:Expr} (a it:Addr):Turn P w K tg (Itl K a) [it] it (fun i h=>h.IsListIter it a i) where
  mem:=by simp
  obj:=fun i h st b hb=>by
    have e:b=it:=by simpa using hb
    subst e
    obtain ⟨o,e,c,d⟩:=st
    exact ⟨o,e,fun v z=>by rw [d] at z; cases z⟩
  keep:=fun i h h' st k=>st.at fun o e=>k it (by simp) o e
  item:=by
    intro X hP hw hK hc i pins s σ H E I hf st hg
    subst hP hw hK
    obtain ⟨xs,x,hq,hx⟩:=hg
    obtain ⟨its,rv,p,hz⟩:=I.list hq
    obtain ⟨u,hu,ru⟩:=rv.get hx
    obtain ⟨f0,f1,f2,f3,f4,f5⟩:=hf it (by simp)
    refine wpAny_pyNext_list_item st p.isList (x:=u) (by simpa using hu) fun h' st' sb=>?_
    have I1:Inv X pins σ H { s with heap:=h' }:=I.turned (t':=s.toks) (fun b o hb e=>(sb.2 b hb).trans e) f0 f1 f3 f4 f5
    obtain ⟨o,e,c,d⟩:=id st'
    exact ⟨u,rfl,go_of (s:={ s with heap:=h' }) e c d (by decide) ⟨x,H,I1,ru,⟨rfl,fun ys hy=>by rw [I.list_inj hy hq]; exact hx⟩,st',fun b hb=>(hf b hb).1⟩⟩
  done:=by
    intro X hP hw hK hc i pins s σ H E I hf st hg
    subst hP hw hK
    obtain ⟨xs,hq,hx⟩:=hg
    obtain ⟨its,rv,p,hz⟩:=I.list hq
    obtain ⟨f0,f1,f2,f3,f4,f5⟩:=hf it (by simp)
    have hl:=rv.length
    exact wpAny_pyNext_list_end (I.ok.hd hc) st p.isList (by simp; omega) fun h' eb=>⟨rfl,I.turned (t':=s.toks) (fun b o hb e=>eb b o hb e) f0 f1 f3 f4 f5⟩
  self:=fun _ _ _ _ _ st h=>wpAny_pyIter_listiter st h
theorem Zif {P:Program} {w:World} {K:PySem.W.Frag} {tg:Expr} (it:Addr) (lo:Int) (n:Nat):Turn P w K tg (Itr lo n) [it] it (fun i h=>IsRangeIter h it (lo + (i:Nat) * 1) ((n:Int) - (i:Nat)) 1) where
  mem:=by simp
  obj:=fun i h st b hb=>by
    have e:b=it:=by simpa using hb
    subst e
    exact ⟨_,st,fun v z=>by
      have z':Data.fields _=Data.cell v:=z
      cases z'⟩
  keep:=fun i h h' st k=>k it (by simp) _ st
  item:=by
    intro X hP hw hK hc i pins s σ H E I hf st hg
    subst hP hw hK
    obtain ⟨f0,f1,f2,f3,f4,f5⟩:=hf it (by simp)
    have W:=Walks.range (prog:=X.prog) (w:=X.w) (I.ok.hd hc) it lo 1 n
    refine W.item i s _ _ hg st fun v h' tk hv st' kk=>?_
    obtain ⟨t,rfl⟩:=hv
    have I1:Inv X pins σ H { s with heap:=h',toks:=tk }:=I.turned (fun b o hb e=>kk b o (by simpa using hb) e) f0 f1 f3 f4 f5
    refine ⟨_,rfl,go_of (s:={ s with heap:=h',toks:=tk }) (n := "range_iterator") st' rfl rfl (by decide) ⟨.int (lo + i),H,I1,⟨t,?_⟩,⟨rfl,rfl⟩,st',fun b hb=>(hf b hb).1⟩⟩
    rw [Int.mul_one]
  done:=by
    intro X hP hw hK hc i pins s σ H E I hf st hg
    subst hP hw hK
    obtain ⟨f0,f1,f2,f3,f4,f5⟩:=hf it (by simp)
    exact wpAny_pyNext_range_end (I.ok.hd hc) st (by have:n <= i:=hg; omega) fun h' eb=>⟨rfl,I.turned (t':=s.toks) (fun b o hb e=>eb b o hb e) f0 f1 f3 f4 f5⟩
  self:=fun _ _ _ _ _ st h=>wpAny_pyIter_rangeiter st h
end L2
namespace L2
open PySem PySem.Spec PyProof.Rows
section
variable {X:Cx} {tg:Expr}
noncomputable def iList (K:PySem.W.Frag) (tl:TE):TI:=fun σ H R=>tl σ H fun x H1=>∃ a,x=.ref a/\(∃ xs,SqL K H1 a xs)/\R (Itl K a) H1
theorem ZeI {l:Expr} {tl:TE} (hl:PE X l tl):PI X tg l (iList X.K tl):=by
  intro pins s σ H R I h
  refine thn (hl pins s σ H _ I h) fun v s1 ⟨x,H1,I1,r1,q1⟩=>?_
  obtain ⟨a,e,⟨xs,hq⟩,q⟩:=q1
  subst e
  cases r1
  obtain ⟨its,rv,p,hz⟩:=I1.list hq
  refine wpAny_pyIter_list p.isList ?_
  refine ⟨s1.heap.objs.size,[s1.heap.objs.size],_,_,H1,rfl,I1.kept (t':=s1.toks) fun b o e=>Heap.get?_push_of_some _ e,ZiQ a _,⟨_,Heap.get?_push_size _ rfl,rfl,rfl⟩,fun b hb=>?_,q⟩
  have e:b=s1.heap.objs.size:=by simpa using hb
  subst e
  exact I1.fpOk (Nat.le_refl _) (I1.hok.fresh (Nat.le_refl _))
theorem Zkv {pins:List (Addr × Obj)} {σ:St} {H:Hp} {s:Shared} {R:It->Hp->Prop} {E:Value->Shared->Prop} {lo hi:Int} {t u v:Tok} {tk:Nat} (I:Inv X pins σ H s) (h1:-(2 ^ 62) <= lo) (h2:lo < 2 ^ 62) (h3:-(2 ^ 62) <= hi) (h4:hi < 2 ^ 62)
    (q:R (Itr lo (hi - lo).toNat) H):wpAny (model X.prog X.w) X.A (pyIter (.ref s.heap.objs.size)) (PIE X pins σ tg R) E { s with heap:=s.heap.push { cls:=.type "range", data:=.fields #[.int lo t,.int hi u,.int 1 v] },toks:=tk }:=by
  refine wpAny_pyIter_range (IsRange.new ..) (small_one h1 h2 h3 h4) ?_
  have I1:Inv X pins σ H { s with heap:=s.heap.push { cls:=.type "range", data:=.fields #[.int lo t,.int hi u,.int 1 v] },toks:=tk }:=I.kept fun b o e=>Heap.get?_push_of_some _ e
  refine ⟨(s.heap.push { cls:=.type "range", data:=.fields #[.int lo t,.int hi u,.int 1 v] }).objs.size,[(s.heap.push { cls:=.type "range", data:=.fields #[.int lo t,.int hi u,.int 1 v] }).objs.size],_,_,H,rfl,
    I1.kept (t':=tk) fun b o e=>Heap.get?_push_of_some _ e,Zif _ lo (hi - lo).toNat,?_,fun b hb=>?_,q⟩
  . have e1:lo + ((0:Nat):Int) * 1=lo:=by simp
    have e2:(((hi - lo).toNat:Nat):Int) - ((0:Nat):Int)=Builtin.Range.rangeSize lo hi 1:=by rw [rangeSize_one]; split <;> omega
    show IsRangeIter _ _ (lo + ((0:Nat):Int) * 1) ((((hi - lo).toNat:Nat):Int) - ((0:Nat):Int)) 1
    rw [e1,e2]
    exact Heap.get?_push_size _ rfl
  . have e:b=(s.heap.push { cls:=.type "range", data:=.fields #[.int lo t,.int hi u,.int 1 v] }).objs.size:=by simpa using hb
    subst e
    exact I1.fpOk (Nat.le_refl _) (I1.hok.fresh (Nat.le_refl _))
noncomputable def iRng1 (ta:TA):TI:=fun σ H R=>ta σ H fun vs H1=>∃ j:Int,vs=[.int j]/\-(2 ^ 62) <= j/\j < 2 ^ 62/\R (Itr 0 j.toNat) H1
theorem ZdK {a:Expr} {ta:TA} {p pos:Pos} (hg:Gl X "range") (hm:X.mg "range" = none) (ha:PA X [a] ta) (hs:starEach [a] X.env=[(false,eval a X.env)]:=by rfl):PI X tg (.Call (.Name "range" p) [a] [] pos) (iRng1 ta):=by
  intro pins s σ H R I h
  refine Call_ (Zey I hg hm boot_range (PyProof.Rows.callWith_type1 (thn (ha pos pins s σ H _ I h) fun us s1 ⟨vs,H1,I1,r1,q1⟩=>?_) hs rfl))
  obtain ⟨j,e,q1,q2,q⟩:=q1
  subst e
  cases r1 with
  | cons r rr =>
    cases rr
    obtain ⟨t,rfl⟩:=r
    exact call_range_1 (Zkv I1 (by omega) (by omega) q1 q2 (by simpa using q))
noncomputable def tFor (wi:TI) (g:TG) (tb:TS):TS:=fun D σ H=>wi σ H fun J H1=>∃ W:Nat->Nat->St->Hp->Prop,(∃ m,W 0 m σ H1)/\∀ i m σ H,W i m σ H ->
  (J.stop i H/\D.nx σ H)\/(J.go i H/\∃ N:St->Hp->Prop,(∀ σ' H',N σ' H'->∃ m',m' < m/\W (i + 1) m' σ' H')/\∀ x H',J.yld i H x H'->g x σ H' fun σ2 H2=>tb { D with nx:=N,ct:=N,bk:=D.nx } σ2 H2)
noncomputable def pinsAt (fp:List Addr) (h:Heap):List (Addr × Obj):=fp.filterMap fun b=>(h.get? b).map fun o=>(b,o)
theorem Zcp {fp:List Addr} {h:Heap} {b:Addr} {o:Obj} (hb:b ∈ fp) (e:h.get? b=some o):(b,o) ∈ pinsAt fp h:=List.mem_filterMap.mpr ⟨b,hb,by rw [e]; rfl⟩
theorem ZiR {fp:List Addr} {h:Heap} {p:Addr × Obj} (hp:p ∈ pinsAt fp h):p.1 ∈ fp/\h.get? p.1=some p.2:=by
  obtain ⟨b,hb,e⟩:=List.mem_filterMap.mp hp
  cases q:h.get? b with
  | none=>rw [q] at e; cases e
  | some o =>
    rw [q] at e
    have e':(b,o)=p:=Option.some.inj e
    subst e'
    exact ⟨hb,q⟩
theorem Inv.pinned {pins:List (Addr × Obj)} {σ:St} {H:Hp} {s:Shared} {fp:List Addr} (I:Inv X pins σ H s) (hf:∀ b ∈ fp,FpOk X pins H b) (ho:∀ b ∈ fp,∃ o,s.heap.get? b=some o/\∀ v,o.data ≠ .cell v):Inv X (pins ++ pinsAt fp s.heap) σ H s :=
  I.pins_of fun p hp=>(List.mem_append.mp hp).elim (fun z=>I.pin p (List.mem_append_right _ z)) fun z=>by
    obtain ⟨hb,e⟩:=ZiR z
    obtain ⟨f0,f1,f2,_⟩:=hf p.1 hb
    obtain ⟨o,e',d⟩:=ho p.1 hb
    rw [e] at e'; cases e'
    exact ⟨e,f0,f1,f2,d⟩
theorem Inv.unpinned {pins pl:List (Addr × Obj)} {σ:St} {H:Hp} {s:Shared} (I:Inv X (pins ++ pl) σ H s):Inv X pins σ H s:=I.pins_of fun p hp=>I.pin p (List.mem_append_right _ (List.mem_append_left _ hp))
theorem ZhG {iter:Expr} {body:List Stmt} {wi:TI} {g:TG} {tb:TS} {pos:Pos} (hp:PassesOwn (model X.prog X.w) X.A X.env X.xe) (hc:X.calm=true) (hi:PI X tg iter wi) (hg:PG X tg g) (hb:PSs X body tb)
    (hs:∀ x,foldedSetIterable iter X.env x=pure x:=by intro _; rfl):PS X (.For tg iter body [] pos) (tFor wi g tb):=by
  intro pins s σ H D I h
  refine wpAny_For (thn (hi pins s σ H _ I h) fun v s1 h1=>thn h1 fun itv s2 h2=>?_) hs
  obtain ⟨it,fp,tn,J,H2,e,I2,T,st2,f2,W,⟨m0,w0⟩,turn⟩:=h2
  subst e
  have stat:∀ {H':Hp},(∀ b ∈ fp,H' b=none)->∀ b ∈ fp,FpOk X pins H' b:=fun hn b hb=>⟨hn b hb,(f2 b hb).2⟩
  refine codeAny_forLoop_any (fun n s'=>∃ i σ' H',Inv X pins σ' H' s'/\tn i s'.heap/\(∀ b ∈ fp,H' b=none)/\W i n σ' H') ?_ m0 ⟨0,σ,H2,I2,st2,fun b hb=>(f2 b hb).1,w0⟩
  rintro n s3 ⟨i,σ3,H3,I3,st3,fr3,w3⟩
  rcases turn i n σ3 H3 w3 with ⟨stop,qn⟩|⟨go,N,hN,step⟩
  . refine wpAny_passesOwn hp (thn (T.done X rfl rfl rfl hc i pins s3 σ3 H3 X.xe I3 (stat fr3) st3 stop) fun r s4 ⟨hr,I4⟩=>?_)
    subst hr
    exact wpAny_execs_nil ⟨σ3,H3,I4,qn⟩
  . refine wpAny_passesOwn hp (thn (T.item X rfl rfl rfl hc i pins s3 σ3 H3 X.xe I3 (stat fr3) st3 go) fun r s4 ⟨u,hr,h4⟩=>?_)
    subst hr
    refine wpAny_passesOwn hp (thn h4 fun _ s5 ⟨x,H5,I5,r5,y5,st5,fr5⟩=>?_)
    have I5':=I5.pinned (stat fr5) (T.obj _ _ st5)
    refine wpAny_passesOwn hp (thn (hg _ s5 σ3 H5 x u _ I5' r5 (step x H5 y5)) fun _ s6 ⟨σ6,H6,I6,q6⟩=>?_)
    refine wpAny_passesOwn hp (thn (hb _ s6 σ6 H6 _ I6 q6) fun f s7 q7=>?_)
    have again:∀ {σ7:St} {H7:Hp},Inv X (pins ++ pinsAt fp s5.heap) σ7 H7 s7->N σ7 H7->∃ m,m < n/\∃ i σ' H',Inv X pins σ' H' s7/\tn i s7.heap/\(∀ b ∈ fp,H' b=none)/\W i m σ' H':=fun {σ7 H7} I7 n7=>by
      obtain ⟨m',hm,w7⟩:=hN σ7 H7 n7
      refine ⟨m',hm,i + 1,σ7,H7,I7.unpinned,T.keep _ _ _ st5 fun b hb o e=>(I7.pin (b,o) (List.mem_append_right _ (List.mem_append_right _ (Zcp hb e)))).1,fun b hb=>?_,w7⟩
      obtain ⟨o,e,d⟩:=T.obj _ _ st5 b hb
      exact (I7.pin (b,o) (List.mem_append_right _ (List.mem_append_right _ (Zcp hb e)))).2.1
    cases f with
    | next=>obtain ⟨σ7,H7,I7,n7⟩:=q7; exact again I7 n7
    | cont=>obtain ⟨σ7,H7,I7,n7⟩:=q7; exact again I7 n7
    | brk=>obtain ⟨σ7,H7,I7,q7⟩:=q7; exact ⟨σ7,H7,I7.unpinned,q7⟩
    | ret v=>obtain ⟨x7,σ7,H7,I7,r7,q7⟩:=q7; exact ⟨x7,σ7,H7,I7.unpinned,r7,q7⟩
end
theorem ZhH {K:PySem.W.Frag} {a:Addr} {xs:List V} {g:TG} {tb:TS} {D:Ends} {σ:St} {H:Hp} (Pv:Nat->St->Hp->Prop) (h0:Pv 0 σ H) (hl:∀ i σ H,i <= xs.length->Pv i σ H->SqL K H a xs)
    (hs:∀ i x σ H,xs[i]?=some x->Pv i σ H->g x σ H fun σ2 H2=>tb { D with nx:=Pv (i + 1),ct:=Pv (i + 1),bk:=D.nx } σ2 H2) (hd:∀ σ H,Pv xs.length σ H->D.nx σ H) :
    ∃ W:Nat->Nat->St->Hp->Prop,(∃ m,W 0 m σ H)/\∀ i m σ H,W i m σ H ->
      ((Itl K a).stop i H/\D.nx σ H)\/((Itl K a).go i H/\∃ N:St->Hp->Prop,(∀ σ' H',N σ' H'->∃ m',m' < m/\W (i + 1) m' σ' H')/\∀ x H',(Itl K a).yld i H x H'->g x σ H' fun σ2 H2=>tb { D with nx:=N,ct:=N,bk:=D.nx } σ2 H2):=by
  refine ⟨fun i m σ H=>m=xs.length - i/\i <= xs.length/\Pv i σ H,⟨xs.length,by simp,Nat.zero_le _,h0⟩,?_⟩
  rintro i m σ H ⟨rfl,hi,p⟩
  have q:=hl i σ H hi p
  by_cases hlt:i < xs.length
  . refine .inr ⟨⟨xs,xs[i],q,by simp [hlt]⟩,Pv (i + 1),fun σ' H' p'=>⟨xs.length - (i + 1),by omega,rfl,hlt,p'⟩,fun x H' y=>?_⟩
    obtain ⟨e,y⟩:=y
    subst e
    exact hs i x σ _ (y xs q) p
  . have e:i=xs.length:=by omega
    subst e
    exact .inl ⟨⟨xs,q,Nat.le_refl _⟩,hd σ H p⟩
theorem ZfA {lo:Int} {n:Nat} {g:TG} {tb:TS} {D:Ends} {σ:St} {H:Hp} (Pv:Nat->St->Hp->Prop) (h0:Pv 0 σ H)
    (hs:∀ i σ H,i < n->Pv i σ H->g (.int (lo + i)) σ H fun σ2 H2=>tb { D with nx:=Pv (i + 1),ct:=Pv (i + 1),bk:=D.nx } σ2 H2) (hd:∀ σ H,Pv n σ H->D.nx σ H) :
    ∃ W:Nat->Nat->St->Hp->Prop,(∃ m,W 0 m σ H)/\∀ i m σ H,W i m σ H ->
      ((Itr lo n).stop i H/\D.nx σ H)\/((Itr lo n).go i H/\∃ N:St->Hp->Prop,(∀ σ' H',N σ' H'->∃ m',m' < m/\W (i + 1) m' σ' H')/\∀ x H',(Itr lo n).yld i H x H'->g x σ H' fun σ2 H2=>tb { D with nx:=N,ct:=N,bk:=D.nx } σ2 H2):=by
  refine ⟨fun i m σ H=>m=n - i/\i <= n/\Pv i σ H,⟨n,by simp,Nat.zero_le _,h0⟩,?_⟩
  rintro i m σ H ⟨rfl,hi,p⟩
  by_cases hlt:i < n
  . refine .inr ⟨hlt,Pv (i + 1),fun σ' H' p'=>⟨n - (i + 1),by omega,rfl,hlt,p'⟩,fun x H' y=>?_⟩
    obtain ⟨e,y⟩:=y
    subst e y
    exact hs i σ _ hlt p
  . have e:i=n:=by omega
    subst e
    exact .inl ⟨Nat.le_refl _,hd σ H p⟩
end L2
namespace L2
open PySem PySem.Spec PyProof.Rows
noncomputable abbrev R2:=V->V->Hp->VK->Prop
noncomputable def OpR (X:Cx) (f:Value->Value->Sem Value) (r:R2):Prop :=
  ∀ (pins:List (Addr × Obj)) (s:Shared) (σ:St) (H:Hp) (x y:V) (v u:Value) (Q:VK),Inv X pins σ H s->RelV x v->RelV y u->r x y H Q ->
    wpAny (model X.prog X.w) X.A (f v u) (EP X pins σ Q) X.xe s
noncomputable def UnR (X:Cx) (f:Value->Sem Value) (r:V->Hp->VK->Prop):Prop :=
  ∀ (pins:List (Addr × Obj)) (s:Shared) (σ:St) (H:Hp) (x:V) (v:Value) (Q:VK),Inv X pins σ H s->RelV x v->r x H Q ->
    wpAny (model X.prog X.w) X.A (f v) (EP X pins σ Q) X.xe s
noncomputable def CallR (X:Cx) (f:Value) (r:List V->Hp->VK->Prop):Prop :=
  ∀ (pins:List (Addr × Obj)) (s:Shared) (σ:St) (H:Hp) (xs:List V) (us:List Value) (Q:VK),Inv X pins σ H s->Vals xs us->r xs H Q ->
    wpAny (model X.prog X.w) X.A (call f us) (EP X pins σ Q) X.xe s
noncomputable def tOp (r:R2) (ta tb:TE):TE:=fun σ H Q=>ta σ H fun x H1=>tb σ H1 fun y H2=>r x y H2 Q
noncomputable def tUn (r:V->Hp->VK->Prop) (ta:TE):TE:=fun σ H Q=>ta σ H fun x H1=>r x H1 Q
noncomputable def rI (C:Int->Int->Prop) (g:Int->Int->V):R2:=fun x y H Q=>∃ i j,x=.int i/\y=.int j/\C i j/\Q (g i j) H
noncomputable def rI0 (g:Int->Int->V):R2:=fun x y H Q=>∃ i j,x=.int i/\y=.int j/\Q (g i j) H
noncomputable def rU (g:Int->V):V->Hp->VK->Prop:=fun x H Q=>∃ i,x=.int i/\Q (g i) H
section
variable {X:Cx} {a b c:Expr} {ta tb tc:TE} {pos:Pos}
theorem binT (ha:PE X a ta) (hb:PE X b tb) {pins:List (Addr × Obj)} {s:Shared} {σ:St} {H:Hp} {R:V->V->Hp->Prop} (I:Inv X pins σ H s)
    (h:ta σ H fun x H1=>tb σ H1 fun y H2=>R x y H2) {Q:Value->Shared->Prop} {f:Value->Value->Sem Value}
    (hf:∀ v u s2 x y H2,Inv X pins σ H2 s2->RelV x v->RelV y u->R x y H2->wpAny (model X.prog X.w) X.A (f v u) Q X.xe s2) :
    wpAny (model X.prog X.w) X.A (eval a X.env) (fun v s₁=>wpAny (model X.prog X.w) X.A (eval b X.env) (fun u s₂=>wpAny (model X.prog X.w) X.A (f v u) Q X.xe s₂) X.xe s₁) X.xe s:=by
  refine thn (ha pins s σ H _ I h) fun v s1 ⟨x,H1,I1,r1,q1⟩=>?_
  refine thn (hb pins s1 σ H1 _ I1 q1) fun u s2 ⟨y,H2,I2,r2,q2⟩=>?_
  exact hf v u s2 x y H2 I2 r1 r2 q2
theorem ZaN {op:Operator} {r:R2} (ho:OpR X (binaryOp op) r) (ha:PE X a ta) (hb:PE X b tb):PE X (.BinOp a op b pos) (tOp r ta tb):=by
  intro pins s σ H Q I h
  exact wpAny_BinOp (binT ha hb I h fun v u s2 x y H2 I2 rx ry q=>ho pins s2 σ H2 x y v u Q I2 rx ry q)
theorem Zc4 {op:UnaryOp} {r:V->Hp->VK->Prop} (ho:UnR X (unaryOp op) r) (ha:PE X a ta):PE X (.UnaryOp op a pos) (tUn r ta):=by
  intro pins s σ H Q I h
  exact UnaryOp_ (thn (ha pins s σ H _ I h) fun v s1 ⟨x,H1,I1,r1,q1⟩=>ho pins s1 σ H1 x v Q I1 r1 q1)
theorem opI {f:Value->Value->Sem Value} {C:Int->Int->Prop} {g:Int->Int->Int}
    (rule:∀ (i j:Int) (t u:Tok) (s:Shared) (Q:Value->Shared->Prop) (E:Value->Shared->Prop),C i j->Q (.int (g i j) s.toks) { s with toks:=s.toks + 1 }->wpAny (model X.prog X.w) X.A (f (.int i t) (.int j u)) Q E s) :
    OpR X f (rI C fun i j=>.int (g i j)):=by
  intro pins s σ H x y v u Q I rx ry h
  obtain ⟨i,j,rfl,rfl,hc,q⟩:=h
  obtain ⟨t,rfl⟩:=rx
  obtain ⟨t',rfl⟩:=ry
  exact rule i j t t' s _ _ hc ⟨.int (g i j),H,I.tok _,⟨_,rfl⟩,q⟩
theorem opI0 {f:Value->Value->Sem Value} {g:Int->Int->Int}
    (rule:∀ (i j:Int) (t u:Tok) (s:Shared) (Q:Value->Shared->Prop) (E:Value->Shared->Prop),Q (.int (g i j) s.toks) { s with toks:=s.toks + 1 }->wpAny (model X.prog X.w) X.A (f (.int i t) (.int j u)) Q E s) :
    OpR X f (rI0 fun i j=>.int (g i j)):=by
  intro pins s σ H x y v u Q I rx ry h
  obtain ⟨i,j,rfl,rfl,q⟩:=h
  obtain ⟨t,rfl⟩:=rx
  obtain ⟨t',rfl⟩:=ry
  exact rule i j t t' s _ _ ⟨.int (g i j),H,I.tok _,⟨_,rfl⟩,q⟩
theorem opB0 {f:Value->Value->Sem Value} {g:Int->Int->Bool}
    (rule:∀ (i j:Int) (t u:Tok) (s:Shared) (Q:Value->Shared->Prop) (E:Value->Shared->Prop),Q (.bool (g i j)) s->wpAny (model X.prog X.w) X.A (f (.int i t) (.int j u)) Q E s) :
    OpR X f (rI0 fun i j=>.bl (g i j)):=by
  intro pins s σ H x y v u Q I rx ry h
  obtain ⟨i,j,rfl,rfl,q⟩:=h
  obtain ⟨t,rfl⟩:=rx
  obtain ⟨t',rfl⟩:=ry
  exact rule i j t t' s _ _ ⟨.bl (g i j),H,I,rfl,q⟩
noncomputable def CPow (i j:Int):Prop:=0 <= j/\j <= 1000000/\i.natAbs < 2 ^ 64
noncomputable def CMul (i j:Int):Prop:=(-(2 ^ 64) < i/\i < 2 ^ 64)\/(-(2 ^ 64) < j/\j < 2 ^ 64)
theorem CMul.ok {i j:Int} (h:CMul i j):IntMulOk i j:=by
  rcases h with ⟨h1,h2⟩|⟨h1,h2⟩
  . exact .of_left (intBits_le_64 h1 h2)
  . exact .of_right (intBits_le_64 h1 h2)
theorem Zig (k:Nat):(0:Int) <= 2 ^ k:=by
  rw [two_pow_cast]
  exact Int.natCast_nonneg _
theorem ZbA:OpR X (binaryOp .Add) (rI0 fun i j=>.int (i + j)):=opI0 fun _ _ _ _ _ _ _ q=>add_int q
theorem ZdL:OpR X (binaryOp .Sub) (rI0 fun i j=>.int (i - j)):=opI0 fun _ _ _ _ _ _ _ q=>sub_int q
theorem ZiS:OpR X (binaryOp .Mult) (rI CMul fun i j=>.int (i * j)):=opI fun _ _ _ _ _ _ _ hc q=>mul_int q hc.ok
theorem ZbS:OpR X (binaryOp .Mod) (rI (fun _ j=>0 < j) fun i j=>.int (i % j)):=opI fun i j _ _ _ _ _ hc q=>by
  have h1:(0:Int) < j:=hc
  exact mod_int' (by omega) (by rw [Int.fmod_eq_emod_of_nonneg i (by omega)]; exact q)
theorem ZlN:OpR X (binaryOp .Pow) (rI CPow fun i j=>.int (i ^ j.toNat)):=opI fun _ _ _ _ _ _ _ hc q=>pow_int_small hc.1 hc.2.1 hc.2.2 q
theorem op_shl:OpR X (binaryOp .LShift) (rI CPow fun i j=>.int (i * 2 ^ j.toNat)):=opI fun _ _ _ _ _ _ _ hc q=>lshift_int_small hc.1 hc.2.1 hc.2.2 q
theorem op_shr:OpR X (binaryOp .RShift) (rI (fun _ j=>0 <= j) fun i j=>.int (i / 2 ^ j.toNat)):=opI fun i j _ _ _ _ _ hc q =>
  rshift_int hc (by rw [Int.fdiv_eq_ediv_of_nonneg i (Zig _)]; exact q)
theorem op_and:OpR X (binaryOp .BitAnd) (rI0 fun i j=>.int (Builtin.bitAnd i j)):=opI0 fun _ _ _ _ _ _ _ q=>and_int q
theorem op_or:OpR X (binaryOp .BitOr) (rI0 fun i j=>.int (Builtin.bitOr i j)):=opI0 fun _ _ _ _ _ _ _ q=>or_int q
theorem op_xor:OpR X (binaryOp .BitXor) (rI0 fun i j=>.int (Builtin.bitXor i j)):=opI0 fun _ _ _ _ _ _ _ q=>xor_int q
theorem unI {f:Value->Sem Value} {g:Int->Int}
    (rule:∀ (i:Int) (t:Tok) (s:Shared) (Q:Value->Shared->Prop) (E:Value->Shared->Prop),Q (.int (g i) s.toks) { s with toks:=s.toks + 1 }->wpAny (model X.prog X.w) X.A (f (.int i t)) Q E s) :
    UnR X f (rU fun i=>.int (g i)):=by
  intro pins s σ H x v Q I rx h
  obtain ⟨i,rfl,q⟩:=h
  obtain ⟨t,rfl⟩:=rx
  exact rule i t s _ _ ⟨.int (g i),H,I.tok _,⟨_,rfl⟩,q⟩
theorem ZbW:UnR X (unaryOp .USub) (rU fun i=>.int (-i)):=unI fun _ _ _ _ _ q=>neg_int q
end
noncomputable def scal:V->V->Bool
  | .non,.non=>true|.non,.int _=>true|.int _,.non=>true|.non,.bl _=>true|.bl _,.non=>true|.non,.str _=>true|.str _,.non=>true
  | .int _,.int _=>true|.bl _,.bl _=>true|.str _,.str _=>true|.byt _,.byt _=>true
  | .int _,.str _=>true|.str _,.int _=>true|.bl _,.str _=>true|.str _,.bl _=>true
  | _,_=>false
noncomputable def rEq:R2:=fun x y H Q=>scal x y=true/\Q (.bl (decide (x=y))) H
noncomputable def rNe:R2:=fun x y H Q=>scal x y=true/\Q (.bl (!decide (x=y))) H
theorem ZiT {i j:Int}:decide (V.int i=V.int j)=(i == j):=by
  rw [Bool.eq_iff_iff]
  simp
theorem ZlO {i j:Bool}:decide (V.bl i=V.bl j)=(i == j):=by
  rw [Bool.eq_iff_iff]
  simp
theorem ZiU {i j:Str}:decide (V.str i=V.str j)=(i == j):=by
  rw [Bool.eq_iff_iff]
  simp
theorem ZiV {i j:Array UInt8}:decide (V.byt i=V.byt j)=(i.toList == j.toList):=by
  rw [Bool.eq_iff_iff]
  cases i
  cases j
  simp
section
variable {X:Cx} {a b c:Expr} {ta tb tc:TE} {pos:Pos}
theorem ZaX {pins:List (Addr × Obj)} {σ:St} {H:Hp} {s:Shared} {Q:VK} {k k':Bool} (I:Inv X pins σ H s) (q:Q (.bl k) H) (e:k=k'):EP X pins σ Q (.bool k') s:=by
  subst e
  exact ⟨.bl k,H,I,rfl,q⟩
theorem ZbF:OpR X (compareOp .Eq) rEq:=by
  intro pins s σ H x y v u Q I rx ry h
  obtain ⟨hs,q⟩:=h
  cases x with
  | non =>
    cases rx
    cases y with
    | non=>cases ry; exact PySem.EqNone.eq_none_none (ZaX I q (by simp))
    | bl j=>cases ry; exact PySem.EqNone.eq_none_bool (ZaX I q (by simp))
    | int j=>obtain ⟨t',rfl⟩:=ry; exact PySem.EqNone.eq_none_int (ZaX I q (by simp))
    | str j=>obtain ⟨t',rfl⟩:=ry; exact PySem.EqNone.eq_none_str (ZaX I q (by simp))
    | _=>exact absurd (show false=true from hs) Bool.false_ne_true
  | bl i =>
    cases rx
    cases y with
    | non=>cases ry; exact PySem.EqNone.eq_bool_none (ZaX I q (by simp))
    | bl j=>cases ry; exact eq_bool (ZaX I q ZlO)
    | str j=>obtain ⟨t',rfl⟩:=ry; exact PySem.EqMixed.eq_bool_str (ZaX I q (by simp))
    | _=>exact absurd (show false=true from hs) Bool.false_ne_true
  | int i =>
    obtain ⟨t,rfl⟩:=rx
    cases y with
    | non=>cases ry; exact PySem.EqNone.eq_int_none (ZaX I q (by simp))
    | int j=>obtain ⟨t',rfl⟩:=ry; exact eq_int (ZaX I q ZiT)
    | str j=>obtain ⟨t',rfl⟩:=ry; exact PySem.EqMixed.eq_int_str (ZaX I q (by simp))
    | _=>exact absurd (show false=true from hs) Bool.false_ne_true
  | str i =>
    obtain ⟨t,rfl⟩:=rx
    cases y with
    | non=>cases ry; exact PySem.EqNone.eq_str_none (ZaX I q (by simp))
    | bl j=>cases ry; exact PySem.EqMixed.eq_str_bool (ZaX I q (by simp))
    | int j=>obtain ⟨t',rfl⟩:=ry; exact PySem.EqMixed.eq_str_int (ZaX I q (by simp))
    | str j=>obtain ⟨t',rfl⟩:=ry; exact eq_str (ZaX I q ZiU)
    | _=>exact absurd (show false=true from hs) Bool.false_ne_true
  | byt i =>
    obtain ⟨t,rfl⟩:=rx
    cases y with
    | byt j=>obtain ⟨t',rfl⟩:=ry; exact PySem.W.eq_bytes (ZaX I q ZiV)
    | _=>exact absurd (show false=true from hs) Bool.false_ne_true
  | _=>cases y <;> exact absurd (show false=true from hs) Bool.false_ne_true
theorem ZfB:OpR X (compareOp .NotEq) rNe:=by
  intro pins s σ H x y v u Q I rx ry h
  obtain ⟨hs,q⟩:=h
  cases x with
  | non =>
    cases rx
    cases y with
    | non=>cases ry; exact PySem.EqNone.ne_none_none (ZaX I q (by simp))
    | bl j=>cases ry; exact PySem.EqNone.ne_none_bool (ZaX I q (by simp))
    | int j=>obtain ⟨t',rfl⟩:=ry; exact PySem.EqNone.ne_none_int (ZaX I q (by simp))
    | str j=>obtain ⟨t',rfl⟩:=ry; exact PySem.EqNone.ne_none_str (ZaX I q (by simp))
    | _=>exact absurd (show false=true from hs) Bool.false_ne_true
  | bl i =>
    cases rx
    cases y with
    | non=>cases ry; exact PySem.EqNone.ne_bool_none (ZaX I q (by simp))
    | bl j=>cases ry; exact ne_bool (ZaX I q (congrArg not ZlO))
    | str j=>obtain ⟨t',rfl⟩:=ry; exact PySem.EqMixed.ne_bool_str (ZaX I q (by simp))
    | _=>exact absurd (show false=true from hs) Bool.false_ne_true
  | int i =>
    obtain ⟨t,rfl⟩:=rx
    cases y with
    | non=>cases ry; exact PySem.EqNone.ne_int_none (ZaX I q (by simp))
    | int j=>obtain ⟨t',rfl⟩:=ry; exact ne_int (ZaX I q (congrArg not ZiT))
    | str j=>obtain ⟨t',rfl⟩:=ry; exact PySem.EqMixed.ne_int_str (ZaX I q (by simp))
    | _=>exact absurd (show false=true from hs) Bool.false_ne_true
  | str i =>
    obtain ⟨t,rfl⟩:=rx
    cases y with
    | non=>cases ry; exact PySem.EqNone.ne_str_none (ZaX I q (by simp))
    | bl j=>cases ry; exact PySem.EqMixed.ne_str_bool (ZaX I q (by simp))
    | int j=>obtain ⟨t',rfl⟩:=ry; exact PySem.EqMixed.ne_str_int (ZaX I q (by simp))
    | str j=>obtain ⟨t',rfl⟩:=ry; exact ne_str (ZaX I q (congrArg not ZiU))
    | _=>exact absurd (show false=true from hs) Bool.false_ne_true
  | byt i =>
    obtain ⟨t,rfl⟩:=rx
    cases y with
    | byt j=>obtain ⟨t',rfl⟩:=ry; exact PySem.W.ne_bytes (ZaX I q (congrArg not ZiV))
    | _=>exact absurd (show false=true from hs) Bool.false_ne_true
  | _=>cases y <;> exact absurd (show false=true from hs) Bool.false_ne_true
theorem ZiW:OpR X (compareOp .Lt) (rI0 fun i j=>.bl (decide (i < j))):=opB0 fun _ _ _ _ _ _ _ q=>lt_int q
theorem op_le:OpR X (compareOp .LtE) (rI0 fun i j=>.bl (decide (i <= j))):=opB0 fun _ _ _ _ _ _ _ q=>le_int q
theorem ZdM:OpR X (compareOp .Gt) (rI0 fun i j=>.bl (decide (j < i))):=opB0 fun _ _ _ _ _ _ _ q=>gt_int q
theorem Zmb:OpR X (compareOp .GtE) (rI0 fun i j=>.bl (decide (j <= i))):=opB0 fun _ _ _ _ _ _ _ q=>ge_int q
theorem op_isN:OpR X (compareOp .Is) (fun x y H Q=>y=.non/\Q (.bl (decide (x=.non))) H):=by
  intro pins s σ H x y v u Q I rx ry h
  obtain ⟨rfl,q⟩:=h
  cases ry
  refine is_none_gen (ZaX I q ?_)
  cases x <;> first
    | (cases rx; rfl)
    | (obtain ⟨t,rfl⟩:=rx; rfl)
theorem OpR.or {f:Value->Value->Sem Value} {r r':R2} (h:OpR X f r) (h':OpR X f r'):OpR X f (fun x y H Q=>r x y H Q\/r' x y H Q):=by
  intro pins s σ H x y v u Q I rx ry q
  rcases q with q|q
  . exact h pins s σ H x y v u Q I rx ry q
  . exact h' pins s σ H x y v u Q I rx ry q
theorem nomark (b:Expr) {op:CmpOp} (h:op ≠ .In:=by decide) (h2:op ≠ .NotIn:=by decide):behindInMarks op b=false:=by
  have e1:(op == CmpOp.In)=false:=by cases op <;> first|rfl|exact absurd rfl h
  have e2:(op == CmpOp.NotIn)=false:=by cases op <;> first|rfl|exact absurd rfl h2
  cases b <;> simp [behindInMarks,e1,e2]
theorem ZbG {op:CmpOp} {r:R2} (ho:OpR X (compareOp op) r) (ha:PE X a ta) (hb:PE X b tb) (hm:behindInMarks op b=false):PE X (.Compare a [op] [b] pos) (tOp r ta tb):=by
  intro pins s σ H Q I h
  exact wpAny_Compare1 (binT ha hb I h fun v u s2 x y H2 I2 rx ry q=>ho pins s2 σ H2 x y v u Q I2 rx ry q) hm
noncomputable def tTest (t:TE):TT:=fun σ H Q=>t σ H fun x H'=>∃ k,x=.bl k/\Q k H'
theorem Zaq {op:CmpOp} {r:R2} (ho:OpR X (compareOp op) r) (ha:PE X a ta) (hb:PE X b tb) (hm:behindInMarks op b=false):PT X (.Compare a [op] [b] pos) (tTest (tOp r ta tb)):=by
  intro pins s σ H Q I h
  refine wpAny_isTrue_Compare1 (thn (ha pins s σ H _ I h) fun v s1 ⟨x,H1,I1,r1,q1⟩=>thn (hb pins s1 σ H1 _ I1 q1) fun u s2 ⟨y,H2,I2,r2,q2⟩ =>
    thn (ho pins s2 σ H2 x y v u _ I2 r1 r2 q2) fun c s3 ⟨z,H3,I3,r3,k,e,q3⟩=>?_) hm
  subst e
  cases r3
  exact wpAny_truthy_bool ⟨H3,I3,q3⟩
noncomputable def tChain (r r':R2) (ta tb tc:TE):TE:=fun σ H Q=>ta σ H fun x H1=>tb σ H1 fun y H2=>r x y H2 fun z H3=>∃ k,z=.bl k /\
  (if k=true then tc σ H3 fun w' H4=>r' y w' H4 Q else Q (.bl false) H3)
theorem Zkw {op op':CmpOp} {r r':R2} (ho:OpR X (compareOp op) r) (ho':OpR X (compareOp op') r') (ha:PE X a ta) (hb:PE X b tb) (hc:PE X c tc)
    (hm:lastMarks [op,op'] [b,c]=false:=by with_unfolding_all rfl):PT X (.Compare a [op,op'] [b,c] pos) (tTest (tChain r r' ta tb tc)):=by
  intro pins s σ H Q I h
  refine isTrue_chain (thn (ha pins s σ H _ I h) fun v s1 ⟨x,H1,I1,r1,q1⟩=>test_link (thn (hb pins s1 σ H1 _ I1 q1) fun u s2 ⟨y,H2,I2,r2,q2⟩ =>
    thn (ho pins s2 σ H2 x y v u _ I2 r1 r2 q2) fun d s3 ⟨z,H3,I3,r3,k,e,q3⟩=>?_)) hm
  subst e
  cases r3
  refine wpAny_truthy_bool ?_
  cases k with
  | false =>
    obtain ⟨k',e',q'⟩:=q3
    cases e'
    exact ite_ff ⟨H3,I3,q'⟩
  | true =>
    refine ite_tt (test_last (thn (hc pins s3 σ H3 _ I3 q3) fun w' s4 ⟨z',H4,I4,r4,q4⟩=>thn (ho' pins s4 σ H4 y z' u w' _ I4 r2 r4 q4) fun d' s5 ⟨z2,H5,I5,r5,k2,e2,q5⟩=>?_))
    subst e2
    cases r5
    exact wpAny_truthy_bool ⟨H5,I5,q5⟩
theorem line63:(sizeLine:Nat) < 2 ^ 63:=by rw [sizeLine_eq]; decide
theorem vals1 {x:V} {us:List Value} (r:Vals [x] us):∃ u,us=[u]/\RelV x u:=by
  cases r with
  | cons r1 r2=>cases r2; exact ⟨_,rfl,r1⟩
theorem vals2 {x y:V} {us:List Value} (r:Vals [x,y] us):∃ u w',us=[u,w']/\RelV x u/\RelV y w':=by
  cases r with
  | cons r1 r2 =>
    cases r2 with
    | cons r3 r4=>cases r4; exact ⟨_,_,rfl,r1,r3⟩
theorem ZiX (hc:X.calm=true):CallR X (.builtin "max") (fun xs H Q=>∃ i j,xs=[.int i,.int j]/\Q (.int (if j > i then j else i)) H):=by
  intro pins s σ H xs us Q I r h
  obtain ⟨i,j,rfl,q⟩:=h
  obtain ⟨u,w',rfl,⟨t,rfl⟩,⟨t',rfl⟩⟩:=vals2 r
  refine max_two_ints (I.ok.hd hc) fun h' tk k=>⟨_,H,I.kept k,?_,q⟩
  by_cases hj:j > i
  . rw [if_pos hj,if_pos hj]; exact ⟨_,rfl⟩
  . rw [if_neg hj,if_neg hj]; exact ⟨_,rfl⟩
theorem ZiY (hc:X.calm=true):CallR X (.builtin "min") (fun xs H Q=>∃ i j,xs=[.int i,.int j]/\Q (.int (if j < i then j else i)) H):=by
  intro pins s σ H xs us Q I r h
  obtain ⟨i,j,rfl,q⟩:=h
  obtain ⟨u,w',rfl,⟨t,rfl⟩,⟨t',rfl⟩⟩:=vals2 r
  refine min_two_ints (I.ok.hd hc) fun h' tk k=>⟨_,H,I.kept k,?_,q⟩
  by_cases hj:j < i
  . rw [if_pos hj,if_pos hj]; exact ⟨_,rfl⟩
  . rw [if_neg hj,if_neg hj]; exact ⟨_,rfl⟩
theorem ZdN:CallR X (.type "int") (fun xs H Q=>(∃ i,xs=[.int i]/\Q (.int i) H)\/∃ k,xs=[.bl k]/\Q (.int (if k then 1 else 0)) H):=by
  intro pins s σ H xs us Q I r h
  rcases h with ⟨i,rfl,q⟩|⟨k,rfl,q⟩
  . obtain ⟨u,rfl,t,rfl⟩:=vals1 r
    exact call_int_int ⟨.int i,H,I,⟨_,rfl⟩,q⟩
  . obtain ⟨u,rfl,r1⟩:=vals1 r
    cases r1
    exact call_int_bool ⟨.int (if k then 1 else 0),H,I.tok _,⟨_,rfl⟩,q⟩
end
end L2
namespace L2
open PySem PySem.Spec PyProof.Rows
structure ObjM (h:Heap) (x dx C:Addr) (mA:Str->Option Value):Prop where
  obj:h.get? x=some (PySem.W.instObj C dx)
  ns:h.Ns1 dx mA
  ne:dx ≠ x
theorem ZiZ {h:Heap} {dx:Addr} {mA:Str->Option Value} (n:h.Ns1 dx mA):∃ od,h.get? dx=some od/\∀ name,PySem.W.lookIn name od=some (mA name):=by
  obtain ⟨o,es,ep,ho,hd,hk,_,hm⟩:=n
  refine ⟨o,ho,fun name=>?_⟩
  have e:=hm name
  unfold nsFind findBy at e
  rw [<- Array.find?_toList] at e
  unfold PySem.W.lookIn
  rw [hd]
  dsimp only
  split
  . rename_i y q
    rw [q] at e
    exact congrArg some e
  . rename_i q
    rw [q] at e
    have a:es.toList.any (·.refKey)=false:=by
      rw [List.any_eq_false]
      intro y hy
      obtain ⟨z,t,hkey⟩:=hk y (Array.mem_toList_iff.mp hy)
      simp [DictEntry.refKey,hkey]
    have a':¬ es.toList.any (·.refKey)=true:=by rw [a]; exact Bool.false_ne_true
    rw [if_neg a']
    exact congrArg some e
theorem ObjM.look {h:Heap} {x dx C:Addr} {mA:Str->Option Value} (I:ObjM h x dx C mA):∃ od,PySem.W.InstAt h x (PySem.W.instObj C dx) C (some od)/\∀ name,PySem.W.lookIn name od=some (mA name) :=
  let ⟨od,ho,hl⟩:=ZiZ I.ns
  ⟨od,⟨I.obj,rfl,rfl,ho⟩,hl⟩
section
variable {prog:Program} {w:World} {A:Around} {E:Value->Shared->Prop} {s:Shared} {K:PySem.W.Frag} {x dx C f:Addr} {mA:Str->Option Value} {name:Str} {v:Value}
theorem Zmc {expr:Bool} {Q:Value->Shared->Prop} (X:K.In s.heap) (I:ObjM s.heap x dx C mA) (hg:PySem.W.plainGet K C name=true) (hh:PySem.W.hasDictIn K C=true)
    (ha:PySem.W.findIn K (.ref C) name=some none) (hv:mA name=some v) (hv':PySem.W.handedIn v=true) (h:Q v { s with toks:=s.toks + 1 }) :
    wpAny (model prog w) A (getAttr (.ref x) name expr) Q E s:=by
  obtain ⟨od,J,hl⟩:=I.look
  exact PySem.W.get_value X J (PySem.W.plainGet_of hg).1 (PySem.W.findObj_own hh ha rfl (by rw [hl,hv])) hv' h
theorem Zkx {pl:Sem Bool} {Q:Value × List Value->Shared->Prop} (X:K.In s.heap) (I:ObjM s.heap x dx C mA) (hg:PySem.W.plainGet K C name=true)
    (hf:PySem.W.findIn K (.ref C) name=some (some (.ref f))) (ht:PySem.W.isFn K (.ref f)=true) (hv:mA name=none) (h:Q (.ref f,[.ref x]) s) :
    wpAny (model prog w) A (getMethod (.ref x) name pl) Q E s:=by
  obtain ⟨od,J,hl⟩:=I.look
  exact PySem.W.method_fn X J (PySem.W.plainGet_of hg).1 (PySem.W.plainGet_of hg).2 hf (beq_iff_eq.mp ht) (by show (PySem.W.lookIn name od).map (·.isSome)=some false; rw [hl,hv]; rfl) h
theorem Zmd {ns:List Str} {Q:Unit->Shared->Prop} (X:K.In s.heap) (I:ObjM s.heap x dx C mA)
    (hs:PySem.W.findIn K (.ref C) "__setattr__" = some (some (.builtin "object.__setattr__"))) (hp:PySem.W.plainOver K C=true) (ht:PySem.W.takerIn K C name=some none) (hh:PySem.W.hasDictIn K C=true)
    (hw:PySem.Within mA ns) (hsz:ns.length <= sizeLine)
    (h:∀ h',ObjM h' x dx C (fun y=>if y=name then some v else mA y)->Heap.SameBut dx s.heap h'->Q () { s with heap:=h',toks:=s.toks + 2 }) :
    wpAny (model prog w) A (setAttr (.ref x) name v) Q E s:=by
  obtain ⟨od,J,hl⟩:=I.look
  refine PySem.W.set_plain X J hs (PySem.W.osa_open (s:={ s with toks:=s.toks + 1 }) (r:=none) X J hp ht fun b=>?_)
  obtain ⟨cd,hc,hd'⟩:=PySem.W.any_some hh
  have hx:s.heap.get? x=some ⟨.ref C,some dx,.plain,#[]⟩:=I.obj
  refine wpAny_bind (wpAny_pure (wpAny_bind (wpAny_bind (wpAny_loadPart hx (wpAny_bind (PySem.W.Looks.here (s:={ s with toks:=s.toks + 1 }) (PySem.W.looks_clsIn X hc) ?_))))))
  rw [hd']
  refine wpAny_pure (a:=some dx) (wpAny_bind (wpAny_pure (wpAny_bind ?_)))
  refine wpAny_nsSet1 (s:={ s with toks:=s.toks + 1 }) I.ns fun h' hn2 hs2=>?_
  obtain ⟨oD,esD,epD,hoD,hdD,hcD⟩:=hn2.count (PySem.Within.cons name v hw)
  refine wpAny_bind (wpAny_lookBehind hoD (by rw [hdD]; exact pastItsLine_dict (Nat.le_trans hcD (by rw [List.length_cons]; omega))) ?_)
  exact wpAny_pure (h _ ⟨(hs2.2 _ (Ne.symm I.ne)).trans I.obj,hn2,I.ne⟩ hs2)
theorem Zky {R:Result->Shared->Prop} {vs:List Value} {kw:List (Str × Value)} (X:K.In s.heap) (hm:PySem.W.makesIn K C=true)
    (hi:PySem.W.findIn K (.ref C) "__init__" = some (some (.ref f))) (hf:PySem.W.typeIn K (.ref f)=some (.type "function"))
    (h:codeAny (model prog w) (A.under (.builtin "type.__call__" ⟨.ref C :: vs,kw⟩)) (.call (.ref f) ⟨.ref (s.heap.objs.size + 1) :: vs,kw⟩) (PySem.W.InitBack (s.heap.objs.size + 1) R)
      { s with heap:=(s.heap.push PySem.W.emptyDict).push (PySem.W.instObj C s.heap.objs.size) }) :
    codeAny (model prog w) A (.call (.ref C) ⟨vs,kw⟩) R s:=by
  obtain ⟨hh,g,d,t,os⟩:=s
  exact PySem.W.make_core (PySem.W.makes_of X hm) (PySem.W.looks_findIn X hi) (fun self=>PySem.W.bind_fn X self hf) (.inl rfl) h
end
noncomputable def putF (f:Str) (v:V):List (Str × V)->List (Str × V)
  | []=>[(f,v)]
  | (g,x) :: r=>if g=f then (g,v) :: r else (g,x) :: putF f v r
theorem ZdO (f g:Str) (v:V):∀ fs:List (Str × V),(putF f v fs).lookup g=if g=f then some v else fs.lookup g
  | []=>by
    show List.lookup g [(f,v)]=_
    by_cases h:g=f
    . have hb:(g == f)=true:=beq_iff_eq.mpr h
      simp only [List.lookup,hb,if_pos h]
    . have hb:(g == f)=false:=beq_eq_false_iff_ne.mpr h
      simp only [List.lookup,hb,if_neg h]
  | (k,x) :: r=>by
    have ih:=ZdO f g v r
    rw [show putF f v ((k,x) :: r)=(if k=f then (k,v) :: r else (k,x) :: putF f v r) from rfl]
    by_cases hk:k=f
    . rw [if_pos hk]
      by_cases h:g=k
      . have hb:(g == k)=true:=beq_iff_eq.mpr h
        simp only [List.lookup,hb,if_pos (h.trans hk)]
      . have hb:(g == k)=false:=beq_eq_false_iff_ne.mpr h
        simp only [List.lookup,hb,if_neg (fun e:g=f=>h (e.trans hk.symm))]
    . rw [if_neg hk]
      by_cases h:g=k
      . have hb:(g == k)=true:=beq_iff_eq.mpr h
        simp only [List.lookup,hb,if_neg (fun e:g=f=>hk (h.symm.trans e))]
      . have hb:(g == k)=false:=beq_eq_false_iff_ne.mpr h
        simp only [List.lookup,hb]
        exact ih
theorem ZdP (f:Str) (v:V):∀ fs:List (Str × V),f ∈ (putF f v fs).map (·.1)/\∀ g,g ∈ fs.map (·.1)->g ∈ (putF f v fs).map (·.1)
  | []=>⟨by simp [putF],fun g h=>by simp at h⟩
  | (k,x) :: r=>by
    obtain ⟨i1,i2⟩:=ZdP f v r
    rw [show putF f v ((k,x) :: r)=(if k=f then (k,v) :: r else (k,x) :: putF f v r) from rfl]
    by_cases hk:k=f
    . rw [if_pos hk]
      subst hk
      exact ⟨by simp,fun g h=>by simpa using h⟩
    . rw [if_neg hk]
      refine ⟨?_,fun g h=>?_⟩
      . rw [List.map_cons]
        exact List.mem_cons_of_mem _ i1
      . rw [List.map_cons] at h |-
        rcases List.mem_cons.mp h with e|e
        . exact List.mem_cons.mpr (.inl e)
        . exact List.mem_cons_of_mem _ (i2 g e)
theorem ZdQ (f:Str) (v:V):∀ fs:List (Str × V),(putF f v fs).length <= fs.length + 1
  | []=>by simp [putF]
  | (k,x) :: r=>by
    have ih:=ZdQ f v r
    rw [show putF f v ((k,x) :: r)=(if k=f then (k,v) :: r else (k,x) :: putF f v r) from rfl]
    by_cases hk:k=f
    . rw [if_pos hk,List.length_cons,List.length_cons]; omega
    . rw [if_neg hk,List.length_cons,List.length_cons]; omega
theorem RelO.some_of {v:V} {o:Option Value} (r:RelO (some v) o):∃ u,o=some u/\RelV v u:=by
  cases o with
  | none=>exact (show False from r).elim
  | some u=>exact ⟨u,rfl,r⟩
theorem RelO.none_of {o:Option Value} (r:RelO none o):o=none:=by
  cases o with
  | none=>rfl
  | some u=>exact (show False from r).elim
theorem Zi0 {v:V} {u:Value} (r:RelV v u):PySem.W.handedIn u=true:=by
  cases v with
  | non=>cases (show u=Value.none from r); rfl
  | bl b=>cases (show u=Value.bool b from r); rfl
  | int i=>obtain ⟨t,e⟩:=(show ∃ t,u=Value.int i t from r); cases e; rfl
  | str x=>obtain ⟨t,e⟩:=(show ∃ t,u=Value.str x t from r); cases e; rfl
  | byt b=>obtain ⟨t,e⟩:=(show ∃ t,u=Value.bytes b t from r); cases e; rfl
  | flt b=>obtain ⟨t,e⟩:=(show ∃ t,u=Value.float b t from r); cases e; rfl
  | ref a=>cases (show u=Value.ref a from r); rfl
  | ty n=>cases (show u=Value.type n from r); rfl
section
variable {P:Program} {w:World} {H H':Hp} {h h':Heap} {a C dx:Addr} {fs fs':List (Str × V)}
theorem ZgC (hok:HOk P w H h) (e:H a=some (.ins C dx fs)):∃ mA,ObjM h a dx C mA/\(∀ f,RelO (fs.lookup f) (mA f))/\PySem.Within mA (fs.map (·.1))/\fs.length <= 1000/\H dx=some (.own a):=by
  obtain ⟨d,z,ne,ob,mA,n,r,q⟩:=(show ObjOk P w H h a (.ins C dx fs) from hok a _ e)
  exact ⟨mA,⟨ob,n,ne⟩,r,q,z,d⟩
end
structure Cls (K:PySem.W.Frag) (C:Addr):Prop where
  pg:PySem.W.plainGet K C Str.empty=true
  hd:PySem.W.hasDictIn K C=true
  po:PySem.W.plainOver K C=true
  sa:PySem.W.findIn K (.ref C) "__setattr__" = some (some (.builtin "object.__setattr__"))
theorem Cls.get {K:PySem.W.Frag} {C:Addr} (c:Cls K C) (f:Str):PySem.W.plainGet K C f=true:=c.pg
noncomputable def NoAttr (K:PySem.W.Frag) (C:Addr) (f:Str):Prop:=PySem.W.findIn K (.ref C) f=some none
theorem NoAttr.taker {K:PySem.W.Frag} {C:Addr} {f:Str} (n:NoAttr K C f):PySem.W.takerIn K C f=some none:=by
  unfold PySem.W.takerIn
  rw [show PySem.W.findIn K (.ref C) f=some none from n]
  rfl
structure Con (K:PySem.W.Frag) (C:Addr) (f:Str) (v:V) (u:Value):Prop where
  at_:PySem.W.findIn K (.ref C) f=some (some u)
  rel:RelV v u
  get:PySem.W.specialIn K u "__get__" = some none
  cp:PySem.W.copiedNames.contains f=false
structure Meth (K:PySem.W.Frag) (C:Addr) (m:Str) (f:Addr):Prop where
  at_:PySem.W.findIn K (.ref C) m=some (some (.ref f))
  fn:PySem.W.isFn K (.ref f)=true
  kp:PySem.W.keepIn K (.ref f)=true
section
variable {X:Cx} {pins:List (Addr × Obj)} {σ:St} {H:Hp} {s:Shared} {a C dx:Addr} {fs:List (Str × V)} {f:Str} {v:V} {A:Around} {E:Value->Shared->Prop}
theorem ZeA {b:Bool} {Q:Value->Shared->Prop} (I:Inv X pins σ H s) (e:H a=some (.ins C dx fs)) (c:Cls X.K C) (n:NoAttr X.K C f) (l:fs.lookup f=some v)
    (h:∀ u s',Inv X pins σ H s'->RelV v u->Q u s'):wpAny (model X.prog X.w) A (getAttr (.ref a) f b) Q E s:=by
  obtain ⟨mA,O,r,_,_,_⟩:=ZgC I.hok e
  obtain ⟨u,hu,ru⟩:=RelO.some_of (v:=v) (o:=mA f) (by rw [<- l]; exact r f)
  exact Zmc I.kIn O (c.get f) c.hd n hu (Zi0 ru) (h u _ (I.tok _) ru)
theorem ZbX {m:Str} {g:Addr} {pl:Sem Bool} {Q:Value × List Value->Shared->Prop} (I:Inv X pins σ H s) (e:H a=some (.ins C dx fs)) (c:Cls X.K C) (k:Meth X.K C m g) (l:fs.lookup m=none)
    (h:Q (.ref g,[.ref a]) s):wpAny (model X.prog X.w) A (getMethod (.ref a) m pl) Q E s:=by
  obtain ⟨mA,O,r,_,_,_⟩:=ZgC I.hok e
  have hn:mA m=none:=RelO.none_of (by rw [<- l]; exact r m)
  exact Zkx I.kIn O (c.get m) k.at_ k.fn hn h
theorem ZeB {y:V} {u:Value} {Q:Unit->Shared->Prop} (I:Inv X pins σ H s) (e:H a=some (.ins C dx fs)) (c:Cls X.K C) (n:NoAttr X.K C f) (hl:fs.length < 1000) (ry:RelV y u)
    (h:∀ s',Inv X pins σ (upd H a (.ins C dx (putF f y fs))) s'->Q () s'):wpAny (model X.prog X.w) A (setAttr (.ref a) f u) Q E s:=by
  obtain ⟨mA,O,r,wi,_,ho⟩:=ZgC I.hok e
  have hz:(fs.map (·.1)).length <= sizeLine:=by rw [List.length_map,sizeLine_eq]; omega
  refine Zmd I.kIn O c.sa c.po n.taker c.hd wi hz fun h' O' sb=>h _ ?_
  have hd:∃ o,h'.get? dx=some o:=let ⟨o,_,_,e',_⟩:=O'.ns; ⟨o,e'⟩
  refine I.write (x:=a) (e:=dx) (by rw [e]; exact True.intro) (.inr ho) (fun b q hb z=>(sb.2 b hb).trans z) hd ?_
  refine ⟨by rw [Zai O.ne]; exact ho,?_,O.ne,O'.obj,_,O'.ns,fun g=>?_,fun g hg=>?_⟩
  . have:=ZdQ f y fs; omega
  . show RelO ((putF f y fs).lookup g) (if g=f then some u else mA g)
    rw [ZdO]
    by_cases q:g=f
    . rw [if_pos q,if_pos q]; exact ry
    . rw [if_neg q,if_neg q]; exact r g
  . by_cases q:g=f
    . rw [q]; exact (ZdP f y fs).1
    . refine (ZdP f y fs).2 g (wi g fun z=>hg ?_)
      show (if g=f then some u else mA g)=none
      rw [if_neg q]; exact z
theorem Inv.made (I:Inv X pins σ H s):Inv X pins σ (upd (upd H s.heap.objs.size (.own (s.heap.objs.size + 1))) (s.heap.objs.size + 1) (.ins C s.heap.objs.size []))
    { s with heap:=(s.heap.push PySem.W.emptyDict).push (PySem.W.instObj C s.heap.objs.size) }:=by
  have e1:(s.heap.push PySem.W.emptyDict).get? s.heap.objs.size=some PySem.W.emptyDict:=Heap.get?_push_size s.heap rfl
  have e2:((s.heap.push PySem.W.emptyDict).push (PySem.W.instObj C s.heap.objs.size)).get? (s.heap.objs.size + 1)=some (PySem.W.instObj C s.heap.objs.size):=by
    have:=Heap.get?_push_size (s.heap.push PySem.W.emptyDict) (o:=PySem.W.instObj C s.heap.objs.size) rfl
    rwa [Heap.size_push] at this
  have e3:(s.heap.push PySem.W.emptyDict).Ns s.heap.objs.size (fun _=>none):=⟨PySem.W.emptyDict,#[],_,e1,rfl,(fun e he=>absurd he (by simp)),fun _=>rfl⟩
  have I1:=I.laid (a:=s.heap.objs.size) (o:=.own (s.heap.objs.size + 1)) (h':=s.heap.push PySem.W.emptyDict) (t':=s.toks) (fun b u q=>Heap.get?_push_of_some _ q) (Nat.le_refl _) ⟨_,e1⟩
  refine I1.laid (a:=s.heap.objs.size + 1) (o:=.ins C s.heap.objs.size []) (t':=s.toks) (fun b u q=>Heap.get?_push_of_some _ q) (Nat.le_of_eq (Heap.size_push _ _)) ?_
  have ne:s.heap.objs.size ≠ s.heap.objs.size + 1:=Nat.ne_of_lt (Nat.lt_succ_self _)
  refine ⟨by rw [Zai ne,Zag],Nat.zero_le _,ne,e2,fun _=>none,(Heap.Ns1.of_empty e3).at fun o q=>Heap.get?_push_of_some _ q,fun _=>True.intro,fun y hy=>absurd rfl hy⟩
theorem Zme {prog:Program} {w:World} {env:Env} {e:Expr} {f:Str} {pos:Pos} {s:Shared} {Q:Value->Shared->Prop} (hb:attributeBase e f env (eval e env)=eval e env)
    (h:wpAny (model prog w) A (eval e env) (fun o s₁=>wpAny (model prog w) A (getAttr o f true) Q E s₁) E s):wpAny (model prog w) A (eval (.Attribute e f pos) env) Q E s :=
  Attribute_any_ h (by rw [arm_eval_Attribute,hb])
end
noncomputable def tFld (K:PySem.W.Frag) (ta:TE) (f:Str):TE:=fun σ H Q=>ta σ H fun x H1=>∃ a C dx fs v,x=.ref a/\H1 a=some (.ins C dx fs)/\Cls K C/\NoAttr K C f/\fs.lookup f=some v/\Q v H1
noncomputable def sFld (K:PySem.W.Frag) (ta tv:TE) (f:Str):TS:=fun D σ H=>tv σ H fun y H1=>ta σ H1 fun x H2=>∃ a C dx fs,x=.ref a/\H2 a=some (.ins C dx fs)/\Cls K C/\NoAttr K C f/\fs.length < 1000 /\
  D.nx σ (upd H2 a (.ins C dx (putF f y fs)))
noncomputable def InOp (X:Cx) (op:Operator) (rd:V->V->Hp->VK->Prop):Prop :=
  ∀ (pins:List (Addr × Obj)) (s:Shared) (σ:St) (H:Hp) (x y:V) (u v:Value) (Q:VK),Inv X pins σ H s->RelV x u->RelV y v->rd x y H Q->wpAny (model X.prog X.w) X.A (inplaceOp op u v) (EP X pins σ Q) X.xe s
noncomputable def Zi1 (K:PySem.W.Frag) (ta tv:TE) (rd:V->V->Hp->VK->Prop) (f:Str):TS:=fun D σ H=>ta σ H fun x H1=>∃ a C dx fs v,x=.ref a/\H1 a=some (.ins C dx fs)/\Cls K C/\NoAttr K C f/\fs.lookup f=some v /\
  tv σ H1 fun y H2=>rd v y H2 fun z H3=>∃ dx' fs',H3 a=some (.ins C dx' fs')/\fs'.length < 1000/\D.nx σ (upd H3 a (.ins C dx' (putF f z fs')))
section
variable {X:Cx} {o e value:Expr} {f:Str} {pos pos' tpos:Pos} {ta tv:TE}
theorem Zal (he:PE X e ta) (hb:attributeBase e f X.env (eval e X.env)=eval e X.env):PE X (.Attribute e f pos) (tFld X.K ta f):=by
  intro pins s σ H Q I h
  refine Zme hb (thn (he pins s σ H _ I h) fun u s1 ⟨x,H1,I1,rx,a,C,dx,fs,v,ex,ea,c,n,l,q⟩=>?_)
  subst ex
  obtain rfl:u=Value.ref a:=rx
  exact ZeA I1 ea c n l fun u' s2 I2 ru=>⟨v,H1,I2,ru,q⟩
theorem ZaO (ha:PE X o ta) (hv:PE X value tv) (hs:swapsWith value (some (.Attribute o f pos')) pos.line X.env=pure false):PS X (.Assign [.Attribute o f pos'] value pos) (sFld X.K ta tv f):=by
  intro pins s σ H D I h
  refine plainObj_wpAny_Assign_Attribute (thn (hv pins s σ H _ I h) fun u s1 ⟨y,H1,I1,ry,q⟩=>thn (ha pins s1 σ H1 _ I1 q) fun ov s2 ⟨x,H2,I2,rx,a,C,dx,fs,ex,ea,c,n,l,q2⟩=>?_) hs
  subst ex
  obtain rfl:ov=Value.ref a:=rx
  exact ZeB I2 ea c n l ry fun s3 I3=>⟨σ,_,I3,q2⟩
theorem Zcd {op:Operator} {rd:V->V->Hp->VK->Prop} (ha:PE X o ta) (hv:PE X value tv) (hop:InOp X op rd):PS X (.AugAssign (.Attribute o f tpos) op value pos) (Zi1 X.K ta tv rd f):=by
  intro pins s σ H D I h
  refine wpAny_AugAssign_AttributeAny (thn (ha pins s σ H _ I h) fun ov s1 ⟨x,H1,I1,rx,a,C,dx,fs,v,ex,ea,c,n,l,q⟩=>?_)
  subst ex
  obtain rfl:ov=Value.ref a:=rx
  refine ZeA I1 ea c n l fun u s2 I2 ru=>thn (hv pins s2 σ H1 _ I2 q) fun w3 s3 ⟨y,H2,I3,ry,q3⟩=>thn (hop pins s3 σ H2 v y u w3 _ I3 ru ry q3) fun w4 s4 ⟨z,H3,I4,rz,dx',fs',ea',l',q4⟩=>?_
  exact ZeB I4 ea' c n l' rz fun s5 I5=>⟨σ,_,I5,q4⟩
noncomputable def rAdd:V->V->Hp->VK->Prop:=fun x y H Q=>∃ i j,x=.int i/\y=.int j/\Q (.int (i + j)) H
noncomputable def rSub:V->V->Hp->VK->Prop:=fun x y H Q=>∃ i j,x=.int i/\y=.int j/\Q (.int (i - j)) H
theorem ZhI:InOp X .Add rAdd:=by
  rintro pins s σ H x y u v Q I rx ry ⟨i,j,rfl,rfl,q⟩
  obtain ⟨t,rfl⟩:=(show ∃ t,u=Value.int i t from rx)
  obtain ⟨t',rfl⟩:=(show ∃ t',v=Value.int j t' from ry)
  exact PyProof.Rows.iadd_int ⟨.int (i + j),H,I.tok _,⟨_,rfl⟩,q⟩
theorem in_sub:InOp X .Sub rSub:=by
  rintro pins s σ H x y u v Q I rx ry ⟨i,j,rfl,rfl,q⟩
  obtain ⟨t,rfl⟩:=(show ∃ t,u=Value.int i t from rx)
  obtain ⟨t',rfl⟩:=(show ∃ t',v=Value.int j t' from ry)
  exact PyProof.Rows.isub_int ⟨.int (i - j),H,I.tok _,⟨_,rfl⟩,q⟩
theorem Zmf {pl:Sem Bool} {m:Str} {apos:Pos} {args:List Expr} {pins:List (Addr × Obj)} {s:Shared} {σ:St} {H:Hp} {Q:Value->Shared->Prop} {te:TE} (he:PE X e te) (I:Inv X pins σ H s)
    (h:te σ H fun x H1=>∃ a C dx fs g,x=.ref a/\H1 a=some (.ins C dx fs)/\Cls X.K C/\Meth X.K C m g/\fs.lookup m=none /\
      ∀ s1,Inv X pins σ H1 s1->wpAny (model X.prog X.w) X.A (callWith pos (.ref g) [.ref a] (backTo pos (starEach args X.env)) (backToKw pos (keywordEach [] X.env))) Q X.xe s1)
    (ht:eval (.Call (.Attribute e m apos) args [] pos) X.env=(do
      let ov <- eval e X.env
      standAt apos.atName
      let (f,first) <- holding [ov] (getMethod ov m pl)
      callWith pos f first (backTo pos (starEach args X.env)) (backToKw pos (keywordEach [] X.env)))) :
    wpAny (model X.prog X.w) X.A (eval (.Call (.Attribute e m apos) args [] pos) X.env) Q X.xe s:=by
  refine PySem.W.methodCall_KW (pl:=pl) (thn (he pins s σ H _ I h) fun u s1 ⟨x,H1,I1,rx,a,C,dx,fs,g,ex,ea,c,k,l,q⟩=>?_) ht
  subst ex
  obtain rfl:u=Value.ref a:=rx
  exact ZbX I1 ea c k l (q s1 I1)
end
section
variable {X:Cx} {pins:List (Addr × Obj)} {σ:St} {H:Hp} {s:Shared} {A:Around} {E:Value->Shared->Prop} {Q:Value->Shared->Prop} {c:Value} {b:Bool}
inductive TyOf (K:PySem.W.Frag) (H:Hp):V->Value->Prop where
  | non:TyOf K H .non (.type "NoneType")
  | bl (x:Bool):TyOf K H (.bl x) (.type "bool")
  | int (i:Int):TyOf K H (.int i) (.type "int")
  | str (x:Str):TyOf K H (.str x) (.type "str")
  | flt (x:UInt64):TyOf K H (.flt x) (.type "float")
  | lst {a:Addr} {xs:List V} (e:H a=some (.lst xs)):TyOf K H (.ref a) (.type "list")
  | frz {a:Addr} {o:Obj} {xs:List V} (e:H a=some (.frz o (.lst xs))):TyOf K H (.ref a) (.type "list")
  | tup {a:Addr} {xs:List V} (e:H a=some (.tup xs)):TyOf K H (.ref a) (.type "tuple")
  | dK {a:Addr} {kvs:List (Key × V)} (e:H a=some (.dK kvs)):TyOf K H (.ref a) (.type "dict")
  | dT {a:Addr} {kvs:List (List Key × V)} (e:H a=some (.dT kvs)):TyOf K H (.ref a) (.type "dict")
  | ins {a C dx:Addr} {fs:List (Str × V)} (e:H a=some (.ins C dx fs)) (cl:Cls K C) (ha:PySem.W.findIn K (.ref C) "__class__" = some (some (.builtin "object.__class__")))
      (hn:PySem.W.specialIn K (.builtin "object.__class__") "__get__" = some (some (.builtin "getset_descriptor.__get__"))) (htk:PySem.W.takesIn K (.builtin "object.__class__")=some true)
      (hm:PySem.W.mroIn K C (.type "object")=some true):TyOf K H (.ref a) (.ref C)
end
end L2
namespace L2
open PySem PySem.Spec PyProof.Rows
structure Room (k:Nat) (A:Around):Prop where
  hd:A.handled=none
  dp:A.depth + 3 * k + 5 < recursionLimit
  un:A.units + 16 * k + 200 < cLine
theorem Room.mono {j k:Nat} {A:Around} (r:Room k A) (h:j <= k):Room j A:=⟨r.hd,by have:=r.dp; omega,by have:=r.un; omega⟩
theorem Room.deeper {k:Nat} {A:Around} (r:Room (k + 1) A) (env:Env):Room k (A.deeper env) :=
  ⟨r.hd,by have:=r.dp; show A.depth + 1 + 3 * k + 5 < _; omega,by have:=r.un; show A.units + 3 + 16 * k + 200 < _; omega⟩
theorem Room.in1 {k:Nat} {A:Around} (r:Room (k + 1) A):Room k A.in1 :=
  ⟨r.hd,by have:=r.dp; show A.depth + 3 * k + 5 < _; omega,by have:=r.un; show A.units + 1 + 16 * k + 200 < _; omega⟩
theorem Zih {A:Around} {C:Addr} {us:List Value} {kw:List (Str × Value)}:(A.under (.builtin "type.__call__" ⟨.ref C :: us,kw⟩)).depth=A.depth + 1:=by
  first|rfl|simp [Around.under,Code.weight,Code.isCreation,Code.isGuard,Code.isCaller,Code.frames,Code.isFrame,guardIds]
theorem Zii {A:Around} {C:Addr} {us:List Value} {kw:List (Str × Value)}:(A.under (.builtin "type.__call__" ⟨.ref C :: us,kw⟩)).units=A.units + 1:=by
  first|rfl|simp [Around.under,Code.cUnits,Code.frames,Code.isFrame]
theorem Room.make {k:Nat} {A:Around} (r:Room (k + 1) A) (C:Addr) (us:List Value) (kw:List (Str × Value)):Room k (A.under (.builtin "type.__call__" ⟨.ref C :: us,kw⟩)) :=
  ⟨r.hd,by have:=r.dp; rw [Zih]; omega,by have:=r.un; rw [Zii]; omega⟩
theorem Room.depth {k:Nat} {A:Around} (r:Room k A):A.depth < recursionLimit:=by have:=r.dp; omega
theorem Room.units {k:Nat} {A:Around} (r:Room k A):A.units + 64 < cLine:=by have:=r.un; omega
noncomputable def tNil:TA:=fun _ H Q=>Q [] H
noncomputable def tCons (ta:TE) (tr:TA):TA:=fun σ H Q=>ta σ H fun x H1=>tr σ H1 fun xs H2=>Q (x :: xs) H2
section
variable {X:Cx} {e:Expr} {es:List Expr} {te:TE} {t:TA} {pos:Pos}
theorem Zaf:PA X [] tNil:=fun _ _ _ _ H Q I h=>Calls.spliced_nil ⟨[],H,I,.nil,h⟩
theorem Zaa (ha:PE X e te) (hr:PA X es t) (hs:starEach (e :: es) X.env=(false,eval e X.env) :: starEach es X.env:=by rfl):PA X (e :: es) (tCons te t):=by
  intro pos pins s σ H Q I h
  rw [hs]
  show wpAny _ _ (spliced ((false,eval e X.env) :: backTo pos (starEach es X.env))) _ _ s
  refine Calls.spliced_cons (thn (ha pins s σ H _ I h) fun u s1 ⟨x,H1,I1,r1,q1⟩=>?_)
  exact thn (hr pos pins s1 σ H1 _ I1 q1) fun us s2 ⟨xs,H2,I2,r2,q2⟩=>⟨x :: xs,H2,I2,.cons r1 r2,q2⟩
noncomputable def tTup (t:TA):TE:=fun σ H Q=>t σ H fun xs H1=>xs.length <= sizeLine/\∀ p,H1 p=none->Q (.ref p) (upd H1 p (.tup xs))
noncomputable def tLst (t:TA):TE:=fun σ H Q=>t σ H fun xs H1=>xs.length <= sizeLine/\∀ p,H1 p=none->Q (.ref p) (upd H1 p (.lst xs))
theorem ZaT {x1} (h:PA X es t):PE X (.Tuple es x1 pos) (tTup t):=by
  intro pins s σ H Q I hq
  refine wpAny_Tuple_spliced (thn (h pos pins s σ H _ I hq) fun us s1 ⟨xs,H1,I1,r,z,q⟩=>⟨by rw [<- r.length]; exact z,?_⟩)
  have hf:H1 s1.heap.objs.size=none:=I1.hok.fresh (Nat.le_refl _)
  refine ⟨.ref s1.heap.objs.size,upd H1 s1.heap.objs.size (.tup xs),I1.laid (t':=s1.toks) (fun b u e=>Heap.get?_push_of_some _ e) (Nat.le_refl _) ?_,rfl,q _ hf⟩
  exact ⟨z,us,r,⟨_,Heap.get?_push_size _ rfl,rfl,_,rfl⟩⟩
theorem ZbT (h:PA X es t):PE X (.List es pos) (tLst t):=by
  intro pins s σ H Q I hq
  refine wpAny_List_spliced (thn (h pos pins s σ H _ I hq) fun us s1 ⟨xs,H1,I1,r,z,q⟩=>⟨by rw [<- r.length]; exact z,?_⟩)
  have hf:H1 s1.heap.objs.size=none:=I1.hok.fresh (Nat.le_refl _)
  refine ⟨.ref s1.heap.objs.size,upd H1 s1.heap.objs.size (.lst xs),I1.laid (t':=s1.toks) (fun b u e=>Heap.get?_push_of_some _ e) (Nat.le_refl _) ?_,rfl,q _ hf⟩
  exact ⟨z,us,0,r,Heap.get?_push_size _ rfl⟩
end
noncomputable abbrev Sp:=List V->Hp->VK->XK->Prop
noncomputable abbrev CXT:=List Env->Hp->Shared->XK->Value->Shared->Prop
structure Env0 (P:Program) (w:World) (K:PySem.W.Frag) (mg:Str->Option Value) (base:Heap) (A:Around) (outer:List Env) (s:Shared) (H:Hp):Prop where
  frames:A.frames=some outer
  mod:Mod K mg base
  bs:∀ b o,base.get? b=some o->s.heap.get? b=some o/\H b=none
  bsz:base.objs.size <= s.heap.objs.size
  funs:s.heap.FunFrames base outer
  frf:∀ b ∈ frs outer,H b=none
  hok:HOk P w H s.heap
  bare:AllBare s.gens
noncomputable def CE (outer:List Env) (P:Program) (w:World) (H:Hp) (s:Shared) (Q:VK) (u:Value) (s':Shared):Prop :=
  ∃ v H',s'.os=s.os/\AllBare s'.gens/\Un (frs outer) [] H H' s.heap s'.heap/\HOk P w H' s'.heap/\RelV v u/\Q v H'
noncomputable def CR (CX:CXT) (outer:List Env) (P:Program) (w:World) (H:Hp) (s:Shared) (Q:VK) (E:XK) (r:Result) (s':Shared):Prop :=
  match r with
  | .ok (.ret u)=>CE outer P w H s Q u s'
  | .ok _=>False
  | .error e=>CX outer H s E e s'
structure FnOk (P:Program) (w:World) (K:PySem.W.Frag) (mg:Str->Option Value) (base:Heap) (CX:CXT) (k:Nat) (f:Addr) (fd:FuncData) (ps:List Str) (sp:Sp):Prop where
  len:∀ vs H Q E,sp vs H Q E->vs.length=ps.length
  run:∀ (A:Around) (outer:List Env) (s:Shared) (H:Hp) (args:Args) (us:List Value) (vs:List V) (Q:VK) (E:XK),Room k A->Env0 P w K mg base A outer s H->BindsTo s fd args (ps.zip us)->Vals vs us->sp vs H Q E ->
    codeAny (model P w) A (.call (.ref f) args) (CR CX outer P w H s Q E) s
theorem FnOk.mono {P:Program} {w:World} {K:PySem.W.Frag} {mg:Str->Option Value} {base:Heap} {CX:CXT} {j k:Nat} {f:Addr} {fd:FuncData} {ps:List Str} {sp:Sp} (F:FnOk P w K mg base CX j f fd ps sp) (h:j <= k) :
    FnOk P w K mg base CX k f fd ps sp:=⟨F.len,fun A outer s H args us vs Q E hr=>F.run A outer s H args us vs Q E (hr.mono h)⟩
theorem FnOk.imp {P:Program} {w:World} {K:PySem.W.Frag} {mg:Str->Option Value} {base:Heap} {CX:CXT} {k:Nat} {f:Addr} {fd:FuncData} {ps:List Str} {sp sp':Sp} (F:FnOk P w K mg base CX k f fd ps sp)
    (h:∀ vs H Q E,sp' vs H Q E->sp vs H Q E):FnOk P w K mg base CX k f fd ps sp' :=
  ⟨fun vs H Q E q=>F.len vs H Q E (h _ _ _ _ q),fun A outer s H args us vs Q E hr he hb hv hs=>F.run A outer s H args us vs Q E hr he hb hv (h _ _ _ _ hs)⟩
theorem Env0.make {P:Program} {w:World} {K:PySem.W.Frag} {mg:Str->Option Value} {base:Heap} {A:Around} {outer:List Env} {s:Shared} {H:Hp} (e:Env0 P w K mg base A outer s H) (C:Addr) (us:List Value) (kw:List (Str × Value)) :
    Env0 P w K mg base (A.under (.builtin "type.__call__" ⟨.ref C :: us,kw⟩)) outer s H:=⟨by first|exact e.frames|(simpa [Around.under,Code.envs,Code.isFrame,pushEnvs] using e.frames),e.mod,e.bs,e.bsz,e.funs,e.frf,e.hok,e.bare⟩
theorem Env0.in1 {P:Program} {w:World} {K:PySem.W.Frag} {mg:Str->Option Value} {base:Heap} {A:Around} {outer:List Env} {s:Shared} {H:Hp} (e:Env0 P w K mg base A outer s H) :
    Env0 P w K mg base A.in1 outer s H:=⟨e.frames,e.mod,e.bs,e.bsz,e.funs,e.frf,e.hok,e.bare⟩
section
variable {X:Cx} {pins:List (Addr × Obj)} {σ:St} {H:Hp} {s s':Shared}
theorem Inv.env0 (I:Inv X pins σ H s):Env0 X.prog X.w X.K X.mg X.base X.A X.stack s H :=
  ⟨I.ok.frames,I.ok.mod,I.bs,Nat.le_trans I.ok.bsz I.sz,I.stack,I.stkFree,I.hok,I.bare⟩
theorem Inv.after {Q:VK} {u:Value} (I:Inv X pins σ H s) (h:CE X.stack X.prog X.w H s Q u s'):EP X pins σ Q u s':=by
  obtain ⟨v,H',os,bare,un,hok,r,q⟩:=h
  obtain ⟨hh,g,d,t,os'⟩:=s'
  obtain rfl:os'=s.os:=os
  exact ⟨v,H',I.call (h':=hh) (g':=g) (d':=d) (t':=t) (ch:=[]) un hok bare (fun b z=>absurd z (by simp)),r,q⟩
end
noncomputable def tCall (sp:Sp) (dvs:List V) (E:XK) (t:TA):TE:=fun σ H Q=>t σ H fun vs H1=>sp (vs ++ dvs) H1 Q E
noncomputable def tMeth (C:Addr) (m:Str) (sp:Sp) (dvs:List V) (E:XK) (ta:TE) (t:TA):TE:=fun σ H Q=>ta σ H fun x H1=>∃ a dx fs,x=.ref a/\H1 a=some (.ins C dx fs)/\fs.lookup m=none /\
  t σ H1 fun vs H2=>sp (x :: (vs ++ dvs)) H2 Q E
noncomputable def tMake (C:Addr) (sp:Sp) (dvs:List V) (E:XK) (t:TA):TE:=fun σ H Q=>t σ H fun vs H1=>∀ x dx,H1 x=none->H1 dx=none->dx ≠ x ->
  sp (.ref x :: (vs ++ dvs)) (upd (upd H1 dx (.own x)) x (.ins C dx [])) (fun v H2=>v=.non/\Q (.ref x) H2) E
noncomputable def Binds (K:PySem.W.Frag) (fd:FuncData) (ps:List Str) (ds:List Value):Prop :=
  ∀ (s:Shared) (us:List Value),K.In s.heap->(us ++ ds).length=ps.length->BindsTo s fd ⟨us,[]⟩ (ps.zip (us ++ ds))
theorem Binds.all {K:PySem.W.Frag} {fd:FuncData} {ps:List Str} (h:∀ us:List Value,us.length=ps.length->bindArgs fd ⟨us,[]⟩=pure (ps.zip us)):Binds K fd ps []:=fun s us _ hl=>by
  rw [List.append_nil] at hl |-
  exact .of_eq (h us hl)
noncomputable def Zds (CX:CXT) (X:Cx) (E:XK):Prop:=∀ (pins:List (Addr × Obj)) (σ:St) (H:Hp) (s:Shared) (e:Value) (s':Shared),Inv X pins σ H s->CX X.stack H s E e s'->X.xe e s'
section
variable {X:Cx} {CX:CXT} {k:Nat} {f C:Addr} {fd:FuncData} {ps:List Str} {sp:Sp} {dvs:List V} {ds:List Value} {E:XK} {x m:Str} {p pos apos:Pos} {e o:Expr} {es:List Expr} {ta:TE} {t:TA}
theorem ZdR {pins:List (Addr × Obj)} {σ:St} {H:Hp} {s:Shared} {Q:VK} {us:List Value} {vs:List V} (F:FnOk X.prog X.w X.K X.mg X.base CX k f fd ps sp) (hr:Room k X.A) (hb:Binds X.K fd ps ds) (hd:Vals dvs ds) (hx:Zds CX X E)
    (I:Inv X pins σ H s) (r:Vals vs us) (h:sp (vs ++ dvs) H Q E):wpAny (model X.prog X.w) X.A (call (.ref f) us) (EP X pins σ Q) X.xe s:=by
  have r2:Vals (vs ++ dvs) (us ++ ds):=r.append hd
  have hl:(us ++ ds).length=ps.length:=by rw [<- r2.length]; exact F.len _ _ _ _ h
  refine wpAny_call (codeAny_mono (F.run X.A X.stack s H ⟨us,[]⟩ (us ++ ds) (vs ++ dvs) Q E hr I.env0 (hb s us I.kIn hl) r2 h) fun r s' hq=>?_)
  cases r with
  | error e=>exact hx pins σ H s e s' I hq
  | ok fl =>
    cases fl with
    | ret u=>exact I.after hq
    | next=>exact False.elim hq
    | brk=>exact False.elim hq
    | cont=>exact False.elim hq
theorem Zi2 (F:FnOk X.prog X.w X.K X.mg X.base CX k f fd ps sp) (hr:Room k X.A) (hg:Gl X x) (hm:X.mg x=some (.ref f)) (hk:PySem.W.keepIn X.K (.ref f)=true) (hb:Binds X.K fd ps ds) (hd:Vals dvs ds) (hx:Zds CX X E)
    (ha:PA X (e :: es) t) (hdb:(x == ("__debug__" : Str))=false:=by decide) (he:starEach (e :: es) X.env=(false,eval e X.env) :: starEach es X.env:=by rfl) (hpl:(backTo pos (starEach es X.env)).any (·.1)=false:=by rfl) :
    PE X (.Call (.Name x p) (e :: es) [] pos) (tCall sp dvs E t):=by
  intro pins s σ H Q I h
  refine wpAny_Call_Name_kw (ZeG I hg hm ?_ hdb)
  refine PySem.W.callWith_K (h₀:=X.base) I.ok.mod.kin hk (thn (ha pos pins s σ H _ I h) fun us s1 ⟨vs,H1,I1,r,q⟩=>⟨I1.kIn,?_⟩) he hpl
  exact ZdR F hr hb hd hx I1 r q
theorem Zkz (F:FnOk X.prog X.w X.K X.mg X.base CX k f fd ps sp) (hr:Room k X.A) (hg:Gl X x) (hm:X.mg x=some (.ref f)) (hk:PySem.W.keepIn X.K (.ref f)=true) (hb:Binds X.K fd ps ds) (hd:Vals dvs ds) (hx:Zds CX X E)
    (hdb:(x == ("__debug__" : Str))=false:=by decide):PE X (.Call (.Name x p) [] [] pos) (tCall sp dvs E tNil):=by
  intro pins s σ H Q I h
  refine wpAny_Call_Name_kw (ZeG I hg hm ?_ hdb)
  exact PySem.W.callWith_K0 I.kIn hk (ZdR (us:=[]) F hr hb hd hx I .nil h)
theorem Zmg {pl:Sem Bool} (he:PE X o ta) (c:Cls X.K C) (hm:Meth X.K C m f) (F:FnOk X.prog X.w X.K X.mg X.base CX k f fd ps sp) (hr:Room k X.A) (hb:Binds X.K fd ps ds) (hd:Vals dvs ds) (hx:Zds CX X E) (ha:PA X (e :: es) t)
    (hst:starEach (e :: es) X.env=(false,eval e X.env) :: starEach es X.env:=by rfl) (hpl:(backTo pos (starEach es X.env)).any (·.1)=false:=by rfl)
    (ht:eval (.Call (.Attribute o m apos) (e :: es) [] pos) X.env=(do
      let ov <- eval o X.env
      standAt apos.atName
      let (f,first) <- holding [ov] (getMethod ov m pl)
      callWith pos f first (backTo pos (starEach (e :: es) X.env)) (backToKw pos (keywordEach [] X.env))):=by rfl) :
    PE X (.Call (.Attribute o m apos) (e :: es) [] pos) (tMeth C m sp dvs E ta t):=by
  intro pins s σ H Q I h
  refine PySem.W.methodCall_KW (pl:=pl) (thn (he pins s σ H _ I h) fun u s1 ⟨x,H1,I1,rx,a,dx,fs,ex,ea,l,q⟩=>?_) ht
  subst ex
  obtain rfl:u=Value.ref a:=rx
  refine ZbX I1 ea c hm l ?_
  refine PySem.W.callWith_K (first:=[.ref a]) (h₀:=X.base) I.ok.mod.kin hm.kp (thn (ha pos pins s1 σ H1 _ I1 q) fun us s2 ⟨vs,H2,I2,r,q2⟩=>⟨I2.kIn,?_⟩) hst hpl
  exact ZdR (us:=.ref a :: us) (vs:=.ref a :: vs) F hr hb hd hx I2 (.cons rfl r) q2
theorem ZkA {pl:Sem Bool} (he:PE X o ta) (c:Cls X.K C) (hm:Meth X.K C m f) (F:FnOk X.prog X.w X.K X.mg X.base CX k f fd ps sp) (hr:Room k X.A) (hb:Binds X.K fd ps ds) (hd:Vals dvs ds) (hx:Zds CX X E)
    (ht:eval (.Call (.Attribute o m apos) [] [] pos) X.env=(do
      let ov <- eval o X.env
      standAt apos.atName
      let (f,first) <- holding [ov] (getMethod ov m pl)
      callWith pos f first (backTo pos (starEach [] X.env)) (backToKw pos (keywordEach [] X.env))):=by rfl) :
    PE X (.Call (.Attribute o m apos) [] [] pos) (tMeth C m sp dvs E ta tNil):=by
  intro pins s σ H Q I h
  refine PySem.W.methodCall_KW (pl:=pl) (thn (he pins s σ H _ I h) fun u s1 ⟨x,H1,I1,rx,a,dx,fs,ex,ea,l,q⟩=>?_) ht
  subst ex
  obtain rfl:u=Value.ref a:=rx
  refine ZbX I1 ea c hm l ?_
  exact PySem.W.callWith_K0 (first:=[.ref a]) I1.kIn hm.kp (ZdR (us:=[.ref a]) (vs:=[.ref a]) F hr hb hd hx I1 (.cons rfl .nil) q)
structure Mk (K:PySem.W.Frag) (C f:Addr):Prop where
  makes:PySem.W.makesIn K C=true
  init:PySem.W.findIn K (.ref C) "__init__" = some (some (.ref f))
  fn:PySem.W.isFn K (.ref f)=true
  kp:PySem.W.keepIn K (.ref C)=true
theorem ZkB {pins:List (Addr × Obj)} {σ:St} {H:Hp} {s:Shared} {Q:VK} {us:List Value} {vs:List V} (M:Mk X.K C f) (F:FnOk X.prog X.w X.K X.mg X.base CX k f fd ps sp) (hr:Room (k + 1) X.A) (hb:Binds X.K fd ps ds) (hd:Vals dvs ds)
    (hx:Zds CX X E) (I:Inv X pins σ H s) (r:Vals vs us)
    (h:∀ x dx,H x=none->H dx=none->dx ≠ x->sp (.ref x :: (vs ++ dvs)) (upd (upd H dx (.own x)) x (.ins C dx [])) (fun v H2=>v=.non/\Q (.ref x) H2) E) :
    wpAny (model X.prog X.w) X.A (call (.ref C) us) (EP X pins σ Q) X.xe s:=by
  have hq:=h (s.heap.objs.size + 1) s.heap.objs.size (I.hok.fresh (Nat.le_succ _)) (I.hok.fresh (Nat.le_refl _)) (Nat.ne_of_lt (Nat.lt_succ_self _))
  have I2:=Inv.made (C:=C) I
  have r2:Vals (V.ref (s.heap.objs.size + 1) :: (vs ++ dvs)) (Value.ref (s.heap.objs.size + 1) :: (us ++ ds)):=.cons rfl (r.append hd)
  have hl:(Value.ref (s.heap.objs.size + 1) :: us ++ ds).length=ps.length:=by
    have e:=r2.length
    rw [F.len _ _ _ _ hq] at e
    exact e.symm
  refine wpAny_call (Zky (f:=f) I.kIn M.makes M.init (beq_iff_eq.mp M.fn) (codeAny_mono (F.run _ X.stack _ _ ⟨Value.ref (s.heap.objs.size + 1) :: us,[]⟩ (Value.ref (s.heap.objs.size + 1) :: (us ++ ds)) _ _ E (hr.make C us [])
    (I2.env0.make C us []) (hb _ (Value.ref (s.heap.objs.size + 1) :: us) I2.kIn hl) r2 hq) fun r s' hq'=>?_))
  cases r with
  | error e=>exact hx pins σ _ _ e s' I2 hq'
  | ok fl =>
    cases fl with
    | ret u =>
      obtain ⟨v,H',I3,rv,ev,q3⟩:=I2.after hq'
      subst ev
      exact ⟨rv,⟨V.ref (s.heap.objs.size + 1),H',I3,rfl,q3⟩⟩
    | next=>exact False.elim hq'
    | brk=>exact False.elim hq'
    | cont=>exact False.elim hq'
theorem Zi3 (M:Mk X.K C f) (F:FnOk X.prog X.w X.K X.mg X.base CX k f fd ps sp) (hr:Room (k + 1) X.A) (hg:Gl X x) (hm:X.mg x=some (.ref C)) (hb:Binds X.K fd ps ds) (hd:Vals dvs ds) (hx:Zds CX X E)
    (ha:PA X (e :: es) t) (hdb:(x == ("__debug__" : Str))=false:=by decide) (he:starEach (e :: es) X.env=(false,eval e X.env) :: starEach es X.env:=by rfl) (hpl:(backTo pos (starEach es X.env)).any (·.1)=false:=by rfl) :
    PE X (.Call (.Name x p) (e :: es) [] pos) (tMake C sp dvs E t):=by
  intro pins s σ H Q I h
  refine wpAny_Call_Name_kw (ZeG I hg hm ?_ hdb)
  refine PySem.W.callWith_K (h₀:=X.base) I.ok.mod.kin M.kp (thn (ha pos pins s σ H _ I h) fun us s1 ⟨vs,H1,I1,r,q⟩=>⟨I1.kIn,?_⟩) he hpl
  exact ZkB M F hr hb hd hx I1 r q
end
section
variable {X:Cx} {CX:CXT} {k:Nat} {f C:Addr} {fd:FuncData} {ps ks:List Str} {sp:Sp} {E:XK} {x m:Str} {p pos apos kpos:Pos} {e o:Expr} {es:List Expr} {kws:List Keyword} {te ta:TE} {t tk:TA} {nm:Option Str}
structure KBinds (K:PySem.W.Frag) (fd:FuncData) (ps ks:List Str) (g:List Value->List Value->List Value) (gV:List V->List V->List V):Prop where
  to:∀ (s:Shared) (us ws:List Value),K.In s.heap->(g us ws).length=ps.length->BindsTo s fd ⟨us,ks.zip ws⟩ (ps.zip (g us ws))
  rel:∀ {vs:List V} {us:List Value} {zs:List V} {ws:List Value},Vals vs us->Vals zs ws->Vals (gV vs zs) (g us ws)
variable {g:List Value->List Value->List Value} {gV:List V->List V->List V}
end
structure FnScope (N P:List Str) (sc:Scope):Prop where
  kind:sc.kind=.function
  co:sc.isCoroutine=false
  gen:sc.isGenerator=false
  nd:N.Nodup
  pre:N.take P.length=P
  par:∀ x ∈ P,sc.names.lookup x=some .local\/sc.names.lookup x=some .cell
  nofree:∀ y ∈ sc.names,y.2 ≠ .free
theorem ZfC {kindOf:Str->Option NameKind} {x:Str}:∀ {binds:List (Str × Value)} {m:Str->Option Value},(∀ v,(x,v) ∉ binds)->bindL kindOf binds m x=m x
  | [],_,_=>rfl
  | (n,v) :: r,m,h=>by
    unfold bindL
    rw [ZfC fun w hw=>h w (List.mem_cons_of_mem _ hw)]
    split
    . have:x ≠ n:=by rintro rfl; exact h v List.mem_cons_self
      simp [this]
    . rfl
theorem ZfD {kindOf:Str->Option NameKind} {x:Str}:∀ {binds:List (Str × Value)} {m:Str->Option Value},(∀ v,(x,v) ∉ binds)->bindC kindOf binds m x=m x
  | [],_,_=>rfl
  | (n,v) :: r,m,h=>by
    unfold bindC
    rw [ZfD fun w hw=>h w (List.mem_cons_of_mem _ hw)]
    split
    . rfl
    . have:x ≠ n:=by rintro rfl; exact h v List.mem_cons_self
      simp [this]
theorem ZfE {kindOf:Str->Option NameKind} {x:Str} {v:Value}:∀ {P:List Str} {vs:List Value} {i:Nat} {m:Str->Option Value},P.Nodup->P[i]?=some x->vs[i]?=some v->kindOf x=some .local ->
    bindL kindOf (P.zip vs) m x=some v
  | [],_,_,_,_,h,_,_=>by simp at h
  | _ :: _,[],_,_,_,_,h,_=>by simp at h
  | p :: P,w :: vs,0,m,nd,h1,h2,hk=>by
    simp at h1 h2; subst h1; subst h2
    show bindL kindOf ((p,w) :: P.zip vs) m p=_
    unfold bindL
    rw [ZfC fun v hv=>(List.nodup_cons.mp nd).1 (List.of_mem_zip hv).1,if_pos hk]
    simp
  | p :: P,w :: vs,i + 1,m,nd,h1,h2,hk=>by
    show bindL kindOf ((p,w) :: P.zip vs) m x=_
    unfold bindL
    exact ZfE (i:=i) (List.nodup_cons.mp nd).2 (by simpa using h1) (by simpa using h2) hk
theorem ZfF {kindOf:Str->Option NameKind} {x:Str} {v:Value}:∀ {P:List Str} {vs:List Value} {i:Nat} {m:Str->Option Value},P.Nodup->P[i]?=some x->vs[i]?=some v->kindOf x ≠ some .local ->
    bindC kindOf (P.zip vs) m x=some v
  | [],_,_,_,_,h,_,_=>by simp at h
  | _ :: _,[],_,_,_,_,h,_=>by simp at h
  | p :: P,w :: vs,0,m,nd,h1,h2,hk=>by
    simp at h1 h2; subst h1; subst h2
    show bindC kindOf ((p,w) :: P.zip vs) m p=_
    unfold bindC
    rw [ZfD fun v hv=>(List.nodup_cons.mp nd).1 (List.of_mem_zip hv).1,if_neg hk]
    simp
  | p :: P,w :: vs,i + 1,m,nd,h1,h2,hk=>by
    show bindC kindOf ((p,w) :: P.zip vs) m x=_
    unfold bindC
    exact ZfF (i:=i) (List.nodup_cons.mp nd).2 (by simpa using h1) (by simpa using h2) hk
noncomputable def start (N:List Str) (vs:List V):St:=vs.map some ++ List.replicate (N.length - vs.length) none
noncomputable def cxOf (CX:CXT) (P:Program) (w:World) (K:PySem.W.Frag) (mg:Str->Option Value) (base:Heap) (N:List Str) (qual:Str) (scope:Scope) (f:Addr) (cd:Value) (A:Around) (outer:List Env) (s:Shared) (H:Hp) (E:XK):Cx where
  prog:=P
  w:=w
  K:=K
  mg:=mg
  base:=base
  A:=A.deeper (envOfC qual scope s.heap.objs.size f cd)
  N:=N
  s₀:=s
  H₀:=H
  env:=envOfC qual scope s.heap.objs.size f cd
  outer:=outer
  stack:=envOfC qual scope s.heap.objs.size f cd :: outer
  ex:=[]
  calm:=true
  fn:=fun _=>true
  pn:=[]
  xe:=fun e s'=>wpAny (model P w) (A.deeper (envOfC qual scope s.heap.objs.size f cd)) (leaving (envOfC qual scope s.heap.objs.size f cd) e) (fun _ s''=>CX outer H s E e s'') (fun e' s''=>CX outer H s E e' s'') s'
theorem ZhJ {sc:Scope} {n:Nat} {x:Str} (h:sc.names.lookup x=some .cell):∃ c,(cellsFrom n sc.names []).lookup x=some c:=by
  have q:=PySem.W.cellsFrom_some sc.names n [] (.inl h)
  exact Option.isSome_iff_exists.mp q
theorem Zi4 {CX:CXT} {P:Program} {w:World} {K:PySem.W.Frag} {mg:Str->Option Value} {base:Heap} {N ps:List Str} {qual:Str} {scope:Scope} {f:Addr} {cd:Value} {A:Around} {outer:List Env} {s s1:Shared} {H:Hp} {E:XK} {us:List Value} {vs:List V}
    (S:FnScope N ps scope) (hd:A.handled=none) (e0:Env0 P w K mg base A outer s H) (hl:vs.length=ps.length) (r:Vals vs us)
    (x:InCallC s s.heap.objs.size (bindL (envOfC qual scope s.heap.objs.size f cd).kindOf (ps.zip us) fun _=>none) (cellsFrom (s.heap.objs.size + 1) scope.names []) (bindC (envOfC qual scope s.heap.objs.size f cd).kindOf (ps.zip us) fun _=>none) s1) :
    Inv (cxOf CX P w K mg base N qual scope f cd A outer s H E) [] (start N vs) H s1:=by
  have hpl:ps.length <= N.length:=by have:=congrArg List.length S.pre; rw [List.length_take] at this; omega
  obtain ⟨h1,tk,rfl,hk⟩:=x.done
  have noA:∀ b:Addr,b ∉ (cxOf CX P w K mg base N qual scope f cd A outer s H E).ex:=fun b z=>absurd (show b ∈ ([]:List Addr) from z) (by simp)
  refine ⟨⟨e0.mod,S.kind,rfl,rfl,Nat.le_refl _,fun y z c h1 h2=>?_,fun y hy=>?_,fun y c _ h=>?_,fun _=>hd,Around.frames_deeper e0.frames,.inr ⟨rfl,rfl⟩,fun b z=>absurd z (noA b),e0.bs,e0.bsz,fun b _ _=>noA b,fun b z=>absurd z (noA b),e0.funs,e0.frf⟩,
    rfl,e0.bare,Un.kept hk,⟨_,x.toInCall.ns,fun i y v h1 h2 h3=>?_⟩,fun y c h=>⟨_,x.cell y c h⟩,e0.hok.fresh (Nat.le_refl _),fun y c h=>?_,fun p hp=>absurd (show p ∈ ([]:List (Addr × Obj)) from hp) (by simp),e0.hok.kept hk,?_⟩
  . exact name_of_addr x.apart (PySem.mem_of_lookup h1) (PySem.mem_of_lookup h2)
  . have hy:scope.names.lookup y=some .cell\/scope.names.lookup y=some .free:=hy
    rcases hy with hy|hy
    . exact ZhJ hy
    . exact absurd rfl (S.nofree _ (PySem.mem_of_lookup hy))
  . exact Nat.le_of_lt (x.above y c (PySem.mem_of_lookup h))
  . have hi:i < vs.length:=by
      unfold start at h2
      by_cases hi:i < vs.length
      . exact hi
      . rw [List.getElem?_append_right (by simpa using hi)] at h2
        rw [List.getElem?_replicate] at h2
        split at h2 <;> cases h2
    have ha:vs[i]?=some v:=by
      unfold start at h2
      rw [List.getElem?_append_left (by simpa using hi),List.getElem?_map] at h2
      cases e:vs[i]? with
      | none=>rw [e] at h2; cases h2
      | some a=>rw [e] at h2; cases h2; rfl
    obtain ⟨u,hu,rv⟩:=r.get ha
    have hp:ps[i]?=some y:=by
      rw [<- S.pre,List.getElem?_take_of_lt (by omega)]; exact h1
    have ndP:ps.Nodup:=by rw [<- S.pre]; exact S.nd.sublist (List.take_sublist _ _)
    refine ⟨u,rv,?_⟩
    rcases S.par y (List.mem_of_getElem? hp) with k|k
    . exact .inl ⟨k,ZfE ndP hp hu k⟩
    . obtain ⟨c,e⟩:=ZhJ (n:=s.heap.objs.size + 1) k
      refine .inr ⟨.inl k,c,e,?_⟩
      have q:=x.cell y c e
      rw [ZfF ndP hp hu (by show scope.names.lookup y ≠ _; rw [k]; decide)] at q
      exact q
  . exact e0.hok.fresh (Nat.le_of_lt (x.above y c (PySem.mem_of_lookup h)))
  . unfold start
    show _=N.length
    rw [List.length_append,List.length_map,List.length_replicate]
    omega
theorem fn_of {CX:CXT} {P:Program} {w:World} {K:PySem.W.Frag} {mg:Str->Option Value} {base:Heap} {k:Nat} {f:Addr} {name qual:Str} {params:Arguments} {body:List Stmt} {scope:Scope} {dV kV doc pm cdv ct oc:Value} {an od:Option Addr}
    {osl:Array (Option Value)} {N ps:List Str} {sp:Sp} (lk:K.lookup f=some ⟨oc,od,.func (PySem.W.fnOf name qual params body scope dV kV doc pm an cdv ct),osl⟩) (hcd:PySem.W.codeIn K cdv qual=true) (S:FnScope N ps scope)
    (len:∀ vs H Q E,sp vs H Q E->vs.length=ps.length)
    (hbody:∀ (A:Around) (outer:List Env) (s:Shared) (H:Hp) (vs:List V) (Q:VK) (E:XK),Room k (A.deeper (envOfC qual scope s.heap.objs.size f cdv))->sp vs H Q E ->
      ∃ t,PSs (cxOf CX P w K mg base N qual scope f cdv A outer s H E) body t/\t { nx:=fun _ H'=>Q .non H',rt:=Q } (start N vs) H) :
    FnOk P w K mg base CX (k + 1) f (PySem.W.fnOf name qual params body scope dV kV doc pm an cdv ct) ps sp:=by
  refine ⟨len,fun A outer s H args us vs Q E hr e0 hb r hsp=>?_⟩
  have hl:=len _ _ _ _ hsp
  have KX:K.In s.heap:=e0.mod.kin.keeps fun b o e=>(e0.bs b o e).1
  have lim:s.heap.NoLimit:=e0.mod.nolimit.keeps fun b o e=>(e0.bs b o e).1
  have hkind:∀ y ∈ ps.zip us,scope.names.lookup y.1=some .local\/(scope.names.lookup y.1=some .cell/\((cellsFrom (s.heap.objs.size + 1) scope.names []).lookup y.1).isSome=true):=fun ⟨n,v⟩ hy=>by
    rcases S.par n (List.of_mem_zip hy).1 with q|q
    . exact .inl q
    . exact .inr ⟨q,PySem.W.cellsFrom_some _ _ _ (.inl q)⟩
  refine codeAny_call_function hr.depth (KX _ _ lk) rfl S.co S.gen rfl (PySem.W.codeRec_of KX hcd) (hb _ _ _ _ ?_)
  refine wpAny_newFunctionEnv_cells S.kind hkind fun env he s1 x=>?_
  subst he
  refine ⟨lim.keeps x.toInCall.keep,codeAny_func ?_⟩
  obtain ⟨t,ht,hq⟩:=hbody A outer s H vs Q E (hr.deeper _) hsp
  have I:Inv (cxOf CX P w K mg base N qual scope f cdv A outer s H E) [] (start N vs) H s1:=Zi4 S hr.hd e0 hl r x
  refine wpAny_mono (ht [] s1 (start N vs) H _ I hq) (fun fl s' hs=>?_) fun e s' hs=>hs
  have fin:∀ {σ':St} {H':Hp} {v:V} {u:Value},Inv (cxOf CX P w K mg base N qual scope f cdv A outer s H E) [] σ' H' s'->RelV v u->Q v H'->CE outer P w H s Q u s' :=
    fun {σ' H' v u} J rv q=>⟨v,H',J.os,J.bare,J.base,J.hok,rv,q⟩
  cases fl with
  | ret u =>
    obtain ⟨v,σ',H',J,rv,q⟩:=hs
    exact fin J rv q
  | next =>
    obtain ⟨σ',H',J,q⟩:=hs
    exact fin (v:=V.non) (u:=Value.none) J rfl q
  | brk =>
    obtain ⟨_,_,_,q⟩:=hs
    exact False.elim q
  | cont =>
    obtain ⟨_,_,_,q⟩:=hs
    exact False.elim q
end L2
namespace L2
open PySem PySem.Spec PyProof.Rows
section
variable {X:Cx} {x:Str} {p pos:Pos} {e:Expr} {es:List Expr} {t:TA} {id T:String} {r:List V->Hp->VK->Prop}
noncomputable def tCB (r:List V->Hp->VK->Prop) (t:TA):TE:=fun σ H Q=>t σ H fun vs H1=>r vs H1 Q
theorem ZaR (hc:CallR X (.builtin id) r) (hg:Gl X x) (hm:X.mg x=none) (hv:bootBuiltins x=some (.builtin id)) (ha:PA X (e :: es) t) (hn:x ≠ "__name__" := by decide) (hdb:(x == ("__debug__" : Str))=false:=by decide)
    (he:starEach (e :: es) X.env=(false,eval e X.env) :: starEach es X.env:=by rfl) (hpl:(backTo pos (starEach es X.env)).any (·.1)=false:=by rfl):PE X (.Call (.Name x p) (e :: es) [] pos) (tCB r t):=by
  intro pins s σ H Q I h
  refine wpAny_Call_Name_kw (Zey I hg hm hv ?_ hn hdb)
  exact PyProof.Rows.callWith_builtin1 (thn (ha pos pins s σ H _ I h) fun us s1 ⟨vs,H1,I1,r1,q1⟩=>hc pins s1 σ H1 vs us Q I1 r1 q1) he hpl
theorem Zce (hc:CallR X (.type T) r) (hg:Gl X x) (hm:X.mg x=none) (hv:bootBuiltins x=some (.type T)) (ha:PA X (e :: es) t) (hn:x ≠ "__name__" := by decide) (hdb:(x == ("__debug__" : Str))=false:=by decide)
    (he:starEach (e :: es) X.env=(false,eval e X.env) :: starEach es X.env:=by rfl) (hpl:(backTo pos (starEach es X.env)).any (·.1)=false:=by rfl):PE X (.Call (.Name x p) (e :: es) [] pos) (tCB r t):=by
  intro pins s σ H Q I h
  refine wpAny_Call_Name_kw (Zey I hg hm hv ?_ hn hdb)
  exact PyProof.Rows.callWith_type1 (thn (ha pos pins s σ H _ I h) fun us s1 ⟨vs,H1,I1,r1,q1⟩=>hc pins s1 σ H1 vs us Q I1 r1 q1) he hpl
end
end L2
namespace HT
open PySem PyProof.Rows
section
open PySem.SeqAt
open PySem.AutoSeq1 (wpAny_loadPart')
open PySem.MeetsSeq PySem.MeetsSeq2 PySem.MeetsSeq3
end
section
variable {prog:Program} {w:World} {A:Around} {E:Value->Shared->Prop} {s:Shared}
noncomputable def sIx (n d:Nat):Option Int->Nat
  | none=>d
  | some v=>if v < 0 then (v + (n:Int)).toNat else min v.toNat n
end
end HT
namespace L2
open PySem PySem.Spec PyProof.Rows
noncomputable abbrev TO:=St->Hp->(Option Int->Hp->Prop)->Prop
section
variable {X:Cx} {e:Expr} {te:TE} {lo hi:Option Expr} {tl th:TO} {pos p2:Pos}
noncomputable def SlR (X:Cx) (r:V->Option Int->Option Int->Hp->VK->Prop):Prop :=
  ∀ (pins:List (Addr × Obj)) (s:Shared) (σ:St) (H:Hp) (x:V) (v vl vu:Value) (lo hi:Option Int) (sl:Addr) (Q:VK),Inv X pins σ H s->RelV x v->s.heap.IsSliceOf sl vl vu .none->IsPart vl lo->IsPart vu hi->r x lo hi H Q ->
    ∃ T id,typeLookup (.type T) "__getitem__" = pure (some (.builtin id))/\s.TypeIs v T/\wpAny (model X.prog X.w) X.A (getItem v (.ref sl)) (EP X pins σ Q) X.xe s
theorem SlR.or {r r':V->Option Int->Option Int->Hp->VK->Prop} (h:SlR X r) (h':SlR X r'):SlR X (fun x lo hi H Q=>r x lo hi H Q\/r' x lo hi H Q):=by
  intro pins s σ H x v vl vu lo hi sl Q I rx hs pl pu q
  rcases q with q|q
  . exact h pins s σ H x v vl vu lo hi sl Q I rx hs pl pu q
  . exact h' pins s σ H x v vl vu lo hi sl Q I rx hs pl pu q
noncomputable def cutV (xs:List V) (lo hi:Option Int):List V:=(xs.drop (HT.sIx xs.length 0 lo)).take (HT.sIx xs.length xs.length hi - HT.sIx xs.length 0 lo)
theorem ZgD (xs:List V) (lo hi:Option Int):(cutV xs lo hi).length <= xs.length:=by
  unfold cutV
  rw [List.length_take,List.length_drop]
  omega
end
end L2
namespace L2
open PySem PySem.Spec PyProof.Rows
noncomputable def ixN (n:Nat) (i:Int):Option Nat:=if 0 <= i then (if i < n then some i.toNat else none) else if -(n:Int) <= i then some (i + n).toNat else none
noncomputable def atI {α:Type} (xs:List α) (i:Int):Option α:=(ixN xs.length i).bind fun j=>xs[j]?
theorem Zi5 {n:Nat} {i:Int} {j:Nat} (h:ixN n i=some j):seqIndex? i n=some j/\j < n/\-(n:Int) <= i/\i < n:=by
  unfold ixN at h
  by_cases h0:0 <= i
  . rw [if_pos h0] at h
    by_cases h1:i < n
    . rw [if_pos h1] at h
      have e:i.toNat=j:=Option.some.inj h
      exact ⟨by rw [seqIndex_of h0 h1,e],by omega,by omega,h1⟩
    . rw [if_neg h1] at h; cases h
  . rw [if_neg h0] at h
    by_cases h1:-(n:Int) <= i
    . rw [if_pos h1] at h
      have e:(i + n).toNat=j:=Option.some.inj h
      exact ⟨by rw [seqIndex_neg (by omega) h1,e],by omega,h1,by omega⟩
    . rw [if_neg h1] at h; cases h
theorem ZgE {α:Type} {xs:List α} {i:Int} {v:α} (h:atI xs i=some v):∃ j,seqIndex? i xs.length=some j/\xs[j]?=some v/\j < xs.length/\-(xs.length:Int) <= i/\i < xs.length:=by
  unfold atI at h
  cases e:ixN xs.length i with
  | none=>rw [e] at h; cases h
  | some j =>
    rw [e] at h
    obtain ⟨h1,h2,h3,h4⟩:=Zi5 e
    exact ⟨j,h1,h,h2,h3,h4⟩
theorem ZeJ {α:Type} {xs:List α} {j:Nat} {v:α} (h:xs[j]?=some v):atI xs (j:Int)=some v:=by
  have hj:j < xs.length:=(List.getElem?_eq_some_iff.mp h).1
  have e:ixN xs.length (j:Int)=some j:=by
    unfold ixN
    rw [if_pos (by omega),if_pos (by omega)]; simp
  unfold atI; rw [e]; exact h
theorem ZkC {α:Type} (xs:List α) (v:α):atI (xs ++ [v]) (-1)=some v:=by
  have hl:(xs ++ [v]).length=xs.length + 1:=by simp
  have e:ixN (xs ++ [v]).length (-1)=some xs.length:=by
    unfold ixN
    rw [hl,if_neg (by decide),if_pos (by omega)]
    congr 1
    omega
  unfold atI
  rw [e]
  show (xs ++ [v])[xs.length]?=some v
  simp
noncomputable def Zmh (b:Expr):Prop:=∀ o i,subscripted b false o i=operate [o,i] (getItem o i)
noncomputable def IxR (X:Cx) (r:R2):Prop :=
  ∀ (value slice:Expr) (pins:List (Addr × Obj)) (s:Shared) (σ:St) (H:Hp) (x y:V) (v u:Value) (Q:VK),Inv X pins σ H s->RelV x v->RelV y u->r x y H Q ->
    subscripted slice false v u=operate [v,u] (getItem v u)->wpAny (model X.prog X.w) X.A (subscriptTail value slice v u) (EP X pins σ Q) X.xe s
noncomputable def MtR (X:Cx) (id:String) (r:V->List V->Hp->VK->Prop):Prop :=
  ∀ (pins:List (Addr × Obj)) (s:Shared) (σ:St) (H:Hp) (x:V) (xs:List V) (v:Value) (us:List Value) (Q:VK),Inv X pins σ H s->RelV x v->Vals xs us->r x xs H Q ->
    wpAny (model X.prog X.w) X.A (call (.builtin id) (v :: us)) (EP X pins σ Q) X.xe s
section
variable {X:Cx} {a b:Expr} {ta tb:TE} {pos:Pos}
theorem IxR.or {r r':R2} (h:IxR X r) (h':IxR X r'):IxR X (fun x y H Q=>r x y H Q\/r' x y H Q):=by
  intro value slice pins s σ H x y v u Q I rx ry q hs
  rcases q with q|q
  . exact h value slice pins s σ H x y v u Q I rx ry q hs
  . exact h' value slice pins s σ H x y v u Q I rx ry q hs
theorem MtR.or {id:String} {r r':V->List V->Hp->VK->Prop} (h:MtR X id r) (h':MtR X id r'):MtR X id (fun x xs H Q=>r x xs H Q\/r' x xs H Q):=by
  intro pins s σ H x xs v us Q I rx rs q
  rcases q with q|q
  . exact h pins s σ H x xs v us Q I rx rs q
  . exact h' pins s σ H x xs v us Q I rx rs q
theorem Zay {r:R2} (hr:IxR X r) (ha:PE X a ta) (hb:PE X b tb) (hs:Zmh b):PE X (.Subscript a b pos) (tOp r ta tb):=by
  intro pins s σ H Q I h
  exact Subscript_ (binT ha hb I h fun v u s2 x y H2 I2 rx ry q=>hr a b pins s2 σ H2 x y v u Q I2 rx ry q (hs _ _))
noncomputable def rIxL (K:PySem.W.Frag):R2:=fun x y H Q=>∃ p xs i v,x=.ref p/\y=.int i/\SqL K H p xs/\atI xs i=some v/\Q v H
noncomputable def rIxT (K:PySem.W.Frag):R2:=fun x y H Q=>∃ p xs i v,x=.ref p/\y=.int i/\SqT K H p xs/\atI xs i=some v/\Q v H
noncomputable def rIxS:R2:=fun x y H Q=>∃ z i c,x=.str z/\y=.int i/\z.length <= sizeLine/\atI z.cps.toList i=some c/\Q (.str ⟨#[c]⟩) H
theorem ZaA:IxR X (rIxL X.K):=by
  intro value slice pins s σ H x y v u Q I rx ry h hs
  obtain ⟨p,xs,i,z,rfl,rfl,hq,he,q⟩:=h
  cases rx
  obtain ⟨t,rfl⟩:=ry
  obtain ⟨its,r,pl,hz⟩:=I.list hq
  obtain ⟨j,h1,h2,h3,h4,h5⟩:=ZgE he
  obtain ⟨w,ew,rw'⟩:=r.get h2
  have hl:=r.length
  have hn:=line63
  have fin:EP X pins σ Q w s:=⟨z,H,I,rw',q⟩
  by_cases h0:0 <= i
  . have hj:i.toNat=j:=by
      rw [seqIndex_of h0 h5] at h1
      exact Option.some.inj h1
    exact item_listR pl.isList h0 (by omega) (by rw [hj]; simpa using ew) fin hs
  . have hj:(i + (its.toArray.size:Int)).toNat=j:=by
      rw [seqIndex_neg (by omega) h4] at h1
      rw [List.size_toArray,<- hl]
      exact Option.some.inj h1
    exact subscriptTail_builtinR (x:=w) pl.isList.typeIs slot_list_getitem.lookup
      (wpAny_getItem_list_neg (Q:=fun r s'=>r=w/\EP X pins σ Q r s') pl.isList (by omega) (by rw [List.size_toArray] <;> omega) (by omega) (by rw [hj]; simpa using ew) ⟨rfl,fin⟩) hs
theorem ZaF:IxR X (rIxT X.K):=by
  intro value slice pins s σ H x y v u Q I rx ry h hs
  obtain ⟨p,xs,i,z,rfl,rfl,hq,he,q⟩:=h
  cases rx
  obtain ⟨t,rfl⟩:=ry
  obtain ⟨its,r,pl,hz⟩:=I.tuple hq
  obtain ⟨j,h1,h2,h3,h4,h5⟩:=ZgE he
  obtain ⟨w,ew,rw'⟩:=r.get h2
  have hl:=r.length
  have hn:=line63
  have fin:EP X pins σ Q w s:=⟨z,H,I,rw',q⟩
  exact subscriptTail_builtinR (x:=w) pl.typeIs slot_tuple_getitem.lookup
    (getItem_tuple (j:=j) (Q:=fun r s'=>r=w/\EP X pins σ Q r s') pl (by omega) (by omega) (by rw [List.size_toArray,<- hl]; exact h1) (by simpa using ew) ⟨rfl,fin⟩) hs
theorem ix_str:IxR X rIxS:=by
  intro value slice pins s σ H x y v u Q I rx ry h hs
  obtain ⟨z,i,c,rfl,rfl,hz,he,q⟩:=h
  obtain ⟨t,rfl⟩:=rx
  obtain ⟨t',rfl⟩:=ry
  obtain ⟨j,h1,h2,h3,h4,h5⟩:=ZgE he
  have hl:z.cps.toList.length=z.length:=by simp [Str.length]
  rw [hl] at h1 h4 h5
  have hn:=line63
  exact tail_any (typeIs_str s z t) slot_str_getitem.lookup (getItem_str (c:=c) (by
    have e1:decide (i < -(2 ^ 63:Int))=false:=decide_eq_false (by omega)
    have e2:decide (i >= 2 ^ 63)=false:=decide_eq_false (by omega)
    rw [e1,e2,Bool.or_false]) (by rw [h1]; simpa using h2) ⟨.str ⟨#[c]⟩,H,I.tok _,⟨_,rfl⟩,q⟩) hs
noncomputable def rIx (K:PySem.W.Frag):R2:=fun x y H Q=>rIxL K x y H Q\/rIxT K x y H Q\/rIxS x y H Q
theorem ix_seq:IxR X (rIx X.K):=ZaA.or (ZaF.or ix_str)
theorem Zij (its:List Value) (n j:Nat) (u:Value):Obj.mapSeq (·.setIfInBounds j u) { cls:=.type "list", data:=.seq its.toArray n }={ cls:=.type "list", data:=.seq (its.set j u).toArray n }:=by
  simp [Obj.mapSeq]
theorem Inv.lst {pins:List (Addr × Obj)} {σ:St} {H:Hp} {s:Shared} {p:Addr} {xs:List V} (I:Inv X pins σ H s) (h:H p=some (.lst xs)) :
    ∃ (its:List Value) (n:Nat),Vals xs its/\s.heap.get? p=some { cls:=.type "list", data:=.seq its.toArray n }/\xs.length <= sizeLine:=by
  obtain ⟨z,its,n,r,e⟩:=I.hok p _ h
  exact ⟨its,n,r,e,z⟩
theorem Inv.lstUpd {pins:List (Addr × Obj)} {σ:St} {H:Hp} {s:Shared} {p:Addr} {xs ys:List V} {its its':List Value} {n n':Nat} {f:Obj->Obj} (I:Inv X pins σ H s) (h:H p=some (.lst xs))
    (ho:s.heap.get? p=some { cls:=.type "list", data:=.seq its.toArray n }) (hf:f { cls:=.type "list", data:=.seq its.toArray n }={ cls:=.type "list", data:=.seq its'.toArray n' }) (r:Vals ys its') (hz:ys.length <= sizeLine) (t:Nat) :
    Inv X pins σ (upd H p (.lst ys)) { s with heap:=s.heap.update p f,toks:=t }:=by
  have e:(s.heap.update p f).get? p=some { cls:=.type "list", data:=.seq its'.toArray n' }:=by
    rw [Heap.get?_update_self f ho (by rw [hf] <;> rfl),hf]
  refine I.write (x:=p) (e:=p) (by rw [h]; trivial) (.inl rfl) (fun b u hb q=>(Heap.get?_update_other _ _ (Ne.symm hb)).trans q) ⟨_,e⟩ ?_
  exact ⟨hz,its',n',r,e⟩
noncomputable def rSetL:V->V->V->Hp->(Hp->Prop)->Prop:=fun o i v H Q=>∃ p xs k j,o=.ref p/\i=.int k/\H p=some (.lst xs)/\ixN xs.length k=some j/\Q (upd H p (.lst (xs.set j v)))
theorem ZdD:PSet X rSetL:=by
  intro pins s σ H o i v ov iv u Q I ro ri rv h
  obtain ⟨p,xs,k,j,rfl,rfl,hp,hj,q⟩:=h
  cases ro
  obtain ⟨t,rfl⟩:=ri
  obtain ⟨its,n,r,ho,hz⟩:=I.lst hp
  obtain ⟨h1,h2,h3,h4⟩:=Zi5 hj
  have hl:=r.length
  have hn:=line63
  have I':Inv X pins σ (upd H p (.lst (xs.set j v))) { s with heap:=s.heap.update p (Obj.mapSeq (·.setIfInBounds j u)) } :=
    I.lstUpd hp ho (Zij its n j u) (r.set rv j) (by rw [List.length_set]; exact hz) s.toks
  by_cases h0:0 <= k
  . have hk:k.toNat=j:=by
      rw [seqIndex_of h0 h4] at h1
      exact Option.some.inj h1
    exact PySem.W.ki_setAt ho h0 (by omega) (by rw [List.size_toArray,<- hl]; exact h4) (by rw [hk]; exact ⟨_,I',q⟩)
  . have hk:(k + (its.toArray.size:Int)).toNat=j:=by
      rw [seqIndex_neg (by omega) h3] at h1
      rw [List.size_toArray,<- hl]
      exact Option.some.inj h1
    exact PySem.W.ki_setBack ho (by omega) (by rw [List.size_toArray,<- hl]; exact h3) (by omega) (by rw [hk]; exact ⟨_,I',q⟩)
theorem ZfG (lo hi:Option Int) (n:Nat):(sliceBounds lo hi none n).1=((HT.sIx n 0 lo:Nat):Int)/\(sliceBounds lo hi none n).2.1=((HT.sIx n n hi:Nat):Int)/\(sliceBounds lo hi none n).2.2=1:=by
  refine ⟨?_,?_,rfl⟩
  . cases lo with
    | none=>simp [sliceBounds,HT.sIx]
    | some i =>
      simp only [sliceBounds,HT.sIx,Option.getD_none,show (1:Int) > 0 by decide,if_true]
      by_cases h:i < 0
      . simp only [h,if_true] <;> omega
      . simp only [h,if_false] <;> omega
  . cases hi with
    | none=>simp [sliceBounds,HT.sIx]
    | some i =>
      simp only [sliceBounds,HT.sIx,Option.getD_none,show (1:Int) > 0 by decide,if_true]
      by_cases h:i < 0
      . simp only [h,if_true] <;> omega
      . simp only [h,if_false] <;> omega
theorem ZeK (its:List Value) (lo hi:Option Int):slicePick its.toArray lo hi none=((its.drop (HT.sIx its.length 0 lo)).take (HT.sIx its.length its.length hi - HT.sIx its.length 0 lo)).toArray:=by
  obtain ⟨h1,h2,h3⟩:=ZfG lo hi its.toArray.size
  unfold slicePick
  rw [h1,h2,h3]
  simp only [sliceRange_one,pick_run,List.size_toArray] <;> rfl
noncomputable def rSlL (K:PySem.W.Frag):V->Option Int->Option Int->Hp->VK->Prop:=fun x lo hi H Q=>∃ a xs,x=.ref a/\SqL K H a xs/\∀ p,H p=none->Q (.ref p) (upd H p (.lst (cutV xs lo hi)))
theorem sl_list:SlR X (rSlL X.K):=by
  intro pins s σ H x v vl vu lo hi sl Q I rx hs pl pu h
  obtain ⟨a,xs,rfl,hx,q⟩:=h
  cases rx
  obtain ⟨its,r,ht,hz⟩:=I.list hx
  have hlen:=r.length
  refine ⟨"list", _,slot_list_getitem.lookup,ht.isList.typeIs,?_⟩
  refine wpAny_getItem_list_slice ht.isList hs pl pu .none (by simp) ?_ (by rw [List.size_toArray] <;> omega)
  rw [ZeK,<- hlen]
  refine ⟨.ref s.heap.objs.size,_,I.laid (t':=s.toks) (o:=.lst (cutV xs lo hi)) (fun b ob q=>Heap.get?_push_of_some _ q) (Nat.le_refl _) ?_,rfl,q _ (I.hok.fresh (Nat.le_refl _))⟩
  exact ⟨Nat.le_trans (ZgD xs lo hi) hz,_,0,(r.drop (HT.sIx xs.length 0 lo)).take (HT.sIx xs.length xs.length hi - HT.sIx xs.length 0 lo),Heap.get?_push_size _ rfl⟩
noncomputable def flatV:V->Bool
  | .non=>true
  | .bl _=>true
  | .int _=>true
  | .str _=>true
  | _=>false
noncomputable def eqV:V->V->Bool
  | .non,.non=>true
  | .bl a,.bl b=>a == b
  | .bl a,.int b=>(if a then 1 else 0) == b
  | .int a,.bl b=>a == (if b then 1 else 0)
  | .int a,.int b=>a == b
  | .str a,.str b=>a == b
  | _,_=>false
theorem eqAt_V {A:Around} {s:Shared} {y x:V} {u v:Value} (ry:RelV y u) (rx:RelV x v) (fy:flatV y=true) (fx:flatV x=true):SeqAt.EqAt A s u v (eqV y x):=by
  cases y with
  | non =>
    cases ry
    cases x with
    | non=>cases rx; exact SeqAt.EqAt.same _
    | bl b=>cases rx; exact SeqAt.EqAt.none_bool b
    | int b=>obtain ⟨t,rfl⟩:=rx; exact SeqAt.EqAt.none_int b t
    | str b=>obtain ⟨t,rfl⟩:=rx; exact SeqAt.EqAt.none_str b t
    | _=>exact absurd (show false=true from fx) Bool.false_ne_true
  | bl a =>
    cases ry
    cases x with
    | non=>cases rx; exact SeqAt.EqAt.bool_none a
    | bl b=>cases rx; exact SeqAt.EqAt.bool_bool a b
    | int b=>obtain ⟨t,rfl⟩:=rx; exact SeqAt.EqAt.bool_int a b t
    | str b=>obtain ⟨t,rfl⟩:=rx; exact SeqAt.EqAt.bool_str a b t
    | _=>exact absurd (show false=true from fx) Bool.false_ne_true
  | int a =>
    obtain ⟨t',rfl⟩:=ry
    cases x with
    | non=>cases rx; exact SeqAt.EqAt.int_none a t'
    | bl b=>cases rx; exact SeqAt.EqAt.int_bool a t' b
    | int b=>obtain ⟨t,rfl⟩:=rx; exact SeqAt.EqAt.int_int a t' b t
    | str b=>obtain ⟨t,rfl⟩:=rx; exact SeqAt.EqAt.int_str a t' b t
    | _=>exact absurd (show false=true from fx) Bool.false_ne_true
  | str a =>
    obtain ⟨t',rfl⟩:=ry
    cases x with
    | non=>cases rx; exact SeqAt.EqAt.str_none a t'
    | bl b=>cases rx; exact SeqAt.EqAt.str_bool a t' b
    | int b=>obtain ⟨t,rfl⟩:=rx; exact SeqAt.EqAt.str_int a t' b t
    | str b=>obtain ⟨t,rfl⟩:=rx; exact SeqAt.EqAt.str_str a t' b t
    | _=>exact absurd (show false=true from fx) Bool.false_ne_true
  | _=>exact absurd (show false=true from fy) Bool.false_ne_true
noncomputable def eqU (x:V) (u:Value):Bool:=match u with
  | .none=>eqV .non x
  | .bool b=>eqV (.bl b) x
  | .int i _=>eqV (.int i) x
  | .str z _=>eqV (.str z) x
  | _=>false
theorem ZlP {x y:V} {u:Value} (r:RelV y u) (f:flatV y=true):eqU x u=eqV y x:=by
  cases y with
  | non=>cases r; rfl
  | bl b=>cases r; rfl
  | int i=>obtain ⟨t,rfl⟩:=r; rfl
  | str z=>obtain ⟨t,rfl⟩:=r; rfl
  | _=>exact absurd (show false=true from f) Bool.false_ne_true
theorem ZgF {x:V}:∀ {xs:List V} {us:List Value},Vals xs us->xs.all flatV=true->us.any (eqU x)=xs.any fun y=>eqV y x
  | _,_,.nil,_=>rfl
  | y :: xs,u :: us,.cons r t,f=>by
    rw [List.all_cons,Bool.and_eq_true] at f
    rw [List.any_cons,List.any_cons,ZlP r f.1,ZgF t f.2]
theorem ZeL {A:Around} {s:Shared} {x:V} {v:Value} (rx:RelV x v) (fx:flatV x=true):∀ {xs:List V} {us:List Value},Vals xs us->xs.all flatV=true->∀ u ∈ us,SeqAt.EqAt A s u v (eqU x u)
  | _,_,.nil,_=>fun u hu=>by cases hu
  | y :: xs,u :: us,.cons r t,f=>fun u' hu=>by
    rw [List.all_cons,Bool.and_eq_true] at f
    rcases List.mem_cons.mp hu with rfl|hu
    . rw [ZlP r f.1]; exact eqAt_V r rx f.1 fx
    . exact ZeL rx fx t f.2 u' hu
noncomputable def inV (x:V) (xs:List V):Bool:=xs.any fun y=>eqV y x
noncomputable def rIn (K:PySem.W.Frag) (neg:Bool):R2:=fun x y H Q=>∃ p xs,y=.ref p/\(SqL K H p xs\/SqT K H p xs)/\flatV x=true/\xs.all flatV=true/\Q (.bl (if neg then !inV x xs else inV x xs)) H
theorem Zba:OpR X (compareOp .In) (rIn X.K false):=by
  intro pins s σ H x y v u Q I rx ry h
  obtain ⟨p,xs,rfl,hq,fx,fs,q⟩:=h
  cases ry
  rcases hq with hq|hq
  . obtain ⟨its,r,pl,hz⟩:=I.list hq
    refine SeqAt.in_listAt (eqU x) pl.isList (fun w hw=>ZeL rx fx r fs w (by simpa using hw)) ⟨.bl _,H,I,rfl,?_⟩
    rw [show its.toArray.any (eqU x)=its.any (eqU x) by simp,ZgF r fs]
    exact q
  . obtain ⟨its,r,pl,hz⟩:=I.tuple hq
    refine SeqAt.in_tupleAt (eqU x) pl (fun w hw=>ZeL rx fx r fs w (by simpa using hw)) ⟨.bl _,H,I,rfl,?_⟩
    rw [show its.toArray.any (eqU x)=its.any (eqU x) by simp,ZgF r fs]
    exact q
theorem ZfH:CallR X (.builtin "len") (fun xs H Q=>∃ p ys,xs=[.ref p]/\(SqL X.K H p ys\/SqT X.K H p ys)/\Q (.int ys.length) H):=by
  intro pins s σ H xs us Q I r h
  obtain ⟨p,ys,rfl,hq,q⟩:=h
  obtain ⟨u,rfl,rx⟩:=vals1 r
  cases rx
  have hn:=line63
  rcases hq with hq|hq
  . obtain ⟨its,r',pl,hz⟩:=I.list hq
    have hlen:=r'.length
    exact Calls.call_len_list pl.isList (by simp only [List.size_toArray] <;> omega) ⟨.int ys.length,H,I.tok _,⟨s.toks + 1,by rw [List.size_toArray,hlen]⟩,q⟩
  . obtain ⟨its,r',pl,hz⟩:=I.tuple hq
    have hlen:=r'.length
    exact len_tuple pl (by simp only [List.size_toArray] <;> omega) ⟨.int ys.length,H,I.tok _,⟨s.toks + 1,by rw [List.size_toArray,hlen]⟩,q⟩
theorem CallR.or {f:Value} {r r':List V->Hp->VK->Prop} (h:CallR X f r) (h':CallR X f r'):CallR X f (fun xs H Q=>r xs H Q\/r' xs H Q):=by
  intro pins s σ H xs us Q I rs q
  rcases q with q|q
  . exact h pins s σ H xs us Q I rs q
  . exact h' pins s σ H xs us Q I rs q
theorem ZfI:CallR X (.type "list") (fun xs H Q=>∃ p ys,xs=[.ref p]/\(SqL X.K H p ys\/SqT X.K H p ys)/\∀ l,H l=none->Q (.ref l) (upd H l (.lst ys))):=by
  intro pins s σ H xs us Q I r h
  obtain ⟨p,ys,rfl,hq,q⟩:=h
  obtain ⟨u,rfl,rx⟩:=vals1 r
  cases rx
  have fin:∀ (its:List Value),Vals ys its->ys.length <= sizeLine->∀ (h':Heap) (c':Nat),(∀ b o',s.heap.get? b=some o'->h'.get? b=some o') ->
      h'.get? s.heap.objs.size=some { cls:=.type "list", dict:=none,data:=.seq its.toArray c',slots:=#[] }->EP X pins σ Q (.ref s.heap.objs.size) { s with heap:=h' }:=fun its r' hz h' c' kp e =>
    ⟨.ref s.heap.objs.size,_,I.laid (t':=s.toks) kp (Nat.le_refl _) (show ObjOk X.prog X.w _ h' _ (.lst ys) from ⟨hz,its,c',r',e⟩),rfl,q _ (I.hok.fresh (Nat.le_refl _))⟩
  rcases hq with hq|hq
  . obtain ⟨its,r',pl,hz⟩:=I.list hq
    have hlen:=r'.length
    obtain ⟨o,ho,hc,n,hd⟩:=pl.isList
    exact call_list_seq p (.inl rfl) ho hc hd (fun h' c' kp e=>fin its r' hz h' c' kp e) (by simp only [List.size_toArray] <;> omega)
  . obtain ⟨its,r',pl,hz⟩:=I.tuple hq
    have hlen:=r'.length
    obtain ⟨o,ho,hc,n,hd⟩:=pl
    exact call_list_seq p (.inr rfl) ho hc hd (fun h' c' kp e=>fin its r' hz h' c' kp e) (by simp only [List.size_toArray] <;> omega)
noncomputable def tyV (K:PySem.W.Frag) (T:String) (x:V) (H:Hp):Prop:=match x with
  | .str _=>T = "str"
  | .int _=>T = "int"
  | .ref p=>(T = "list" /\ ∃ xs,SqL K H p xs)\/(T = "tuple" /\ ∃ o,K.lookup p=some o/\o.cls=.type "tuple" /\ o.dict=none) \/
      (T = "dict" /\ ((∃ kvs,H p=some (.dK kvs))\/∃ kvs,H p=some (.dT kvs)))\/(T = "set" /\ ∃ S n,H p=some (.set S n))
  | _=>False
theorem ZlQ {pins:List (Addr × Obj)} {σ:St} {H:Hp} {s:Shared} {T:String} {x:V} {v:Value} (I:Inv X pins σ H s) (r:RelV x v) (ty:tyV X.K T x H) :
    s.TypeIs v T/\∀ a,v=.ref a->∃ ob,s.heap.get? a=some ob/\ob.dict=none:=by
  cases x with
  | str z =>
    obtain ⟨t,rfl⟩:=r
    cases (show T = "str" from ty)
    exact ⟨typeIs_str s z t,fun _ e=>nomatch e⟩
  | int i =>
    obtain ⟨t,rfl⟩:=r
    cases (show T = "int" from ty)
    exact ⟨typeIs_int s i t,fun _ e=>nomatch e⟩
  | ref p =>
    cases r
    rcases ty with ⟨rfl,xs,hq⟩|⟨rfl,o,hk,hc,hd⟩|⟨rfl,hk⟩|⟨rfl,S,n,hk⟩
    . obtain ⟨its,_,pl,_⟩:=I.list hq
      refine ⟨pl.isList.typeIs,fun a e=>?_⟩
      cases e
      obtain ⟨o,n,e,c,hd,_⟩:=pl
      exact ⟨o,e,hd⟩
    . refine ⟨⟨o,I.kIn p o hk,hc⟩,fun a e=>?_⟩
      cases e
      exact ⟨o,I.kIn _ o hk,hd⟩
    . have z:∃ o,s.heap.get? p=some o/\o.ExactDict:=by
        rcases hk with ⟨kvs,hk⟩|⟨kvs,hk⟩
        . obtain ⟨_,_,_,_,o,_,_,e,ex,_⟩:=I.hok p _ hk
          exact ⟨o,e,ex⟩
        . obtain ⟨_,_,_,_,o,_,_,e,ex,_⟩:=I.hok p _ hk
          exact ⟨o,e,ex⟩
      obtain ⟨o,e,ex⟩:=z
      refine ⟨⟨o,e,ex.1⟩,fun a e2=>?_⟩
      cases e2
      exact ⟨o,e,ex.2.1⟩
    . obtain ⟨o,_,_,_,e,ex,_⟩:=I.hok p _ hk
      refine ⟨⟨o,e,ex.1⟩,fun a e2=>?_⟩
      cases e2
      exact ⟨o,e,ex.2.1⟩
  | _=>exact False.elim ty
noncomputable def tBM0 (K:PySem.W.Frag) (T:String) (r:V->List V->Hp->VK->Prop) (to:TE):TE:=fun σ H Q=>to σ H fun x H1=>tyV K T x H1/\r x [] H1 Q
noncomputable def tBM (K:PySem.W.Frag) (T:String) (r:V->List V->Hp->VK->Prop) (to:TE) (t:TA):TE:=fun σ H Q=>to σ H fun x H1=>tyV K T x H1/\t σ H1 fun xs H2=>r x xs H2 Q
variable {o e:Expr} {es:List Expr} {to:TE} {t:TA} {name:Str} {apos cpos:Pos} {T id:String} {r:V->List V->Hp->VK->Prop}
theorem ZlR (pa:PlainAttrs T) (slot:Slot T name id) (hty:typeOf (.builtin id)=pure (.type "method_descriptor")) (hm:MtR X id r) (ho:PE X o to)
    (hbase:attributeBase o name X.env (eval o X.env)=eval o X.env:=by rfl) (hline:(apos.endLine == cpos.line)=true:=by rfl):PE X (.Call (.Attribute o name apos) [] [] cpos) (tBM0 X.K T r to):=by
  intro pins s σ H Q I h
  refine wpAny_Call_method0_late hbase hline (thn (ho pins s σ H _ I h) fun v s1 ⟨x,H1,I1,r1,ty,q1⟩=>?_)
  obtain ⟨h1,h2⟩:=ZlQ I1 r1 ty
  exact ⟨T,id,pa,slot,hty,h1,h2,Calls.callWith_builtin rfl (PySem.evalArgs_none (hm pins s1 σ H1 x [] v [] Q I1 r1 .nil q1))⟩
theorem ZeM (pa:PlainAttrs T) (slot:Slot T name id) (hty:typeOf (.builtin id)=pure (.type "method_descriptor")) (hm:MtR X id r) (ho:PE X o to) (ha:PA X (e :: es) t)
    (hbase:attributeBase o name X.env (eval o X.env)=eval o X.env:=by rfl)
    (hfew:((backTo cpos (starEach (e :: es) X.env)).all (fun x=>!x.1) && (backToKw cpos (keywordEach [] X.env)).all (fun x=>x.1.isSome)
      && decide ((e :: es).length + ([]:List Keyword).length + (if ([]:List Keyword).isEmpty then 0 else 1) < 30))=true:=by rfl)
    (hline:(apos.endLine == cpos.line)=true:=by rfl) (hs:starEach (e :: es) X.env=(false,eval e X.env) :: starEach es X.env:=by rfl) (hplain:(backTo cpos (starEach es X.env)).any (·.1)=false:=by rfl) :
    PE X (.Call (.Attribute o name apos) (e :: es) [] cpos) (tBM X.K T r to t):=by
  intro pins s σ H Q I h
  refine wpAny_Call_method_late hbase hfew hline rfl (thn (ho pins s σ H _ I h) fun v s1 ⟨x,H1,I1,r1,ty,q1⟩=>?_)
  obtain ⟨h1,h2⟩:=ZlQ I1 r1 ty
  refine ⟨T,id,pa,slot,hty,h1,h2,?_⟩
  have hA:=ha cpos pins s1 σ H1 _ I1 q1
  rw [hs] at hA |-
  refine Calls.callWith_builtin (by show (false || (backTo cpos (starEach es X.env)).any (·.1))=false; rw [hplain] <;> rfl) (Calls.evalArgs_plain ?_)
  exact thn hA fun us s2 ⟨vs,H2,I2,r2,q2⟩=>hm pins s2 σ H2 x vs v us Q I2 r1 r2 q2
end
end L2
namespace L2
open PySem PySem.Spec PyProof.Rows
noncomputable def MtM (X:Cx) (id:String) (r:V->List V->Hp->VK->Prop):Prop :=
  ∀ (pins:List (Addr × Obj)) (s:Shared) (σ:St) (H:Hp) (x:V) (xs:List V) (v:Value) (us:List Value) (Q:VK),Inv X pins σ H s->RelV x v->Vals xs us->r x xs H Q ->
    wpAny (model X.prog X.w) X.A (call (.builtin id) (v :: us)) (EP X pins σ Q) X.xe s
theorem Vals.one:∀ {x:V} {us:List Value},Vals [x] us->∃ u,us=[u]/\RelV x u
  | _,_,.cons r .nil=>⟨_,rfl,r⟩
theorem Vals.two:∀ {x y:V} {us:List Value},Vals [x,y] us->∃ u v,us=[u,v]/\RelV x u/\RelV y v
  | _,_,_,.cons r (.cons q .nil)=>⟨_,_,rfl,r,q⟩
theorem Vals.zero:∀ {us:List Value},Vals [] us->us=[]
  | _,.nil=>rfl
theorem Vals.dropLast {xs:List V} {us:List Value} (h:Vals xs us):Vals xs.dropLast us.dropLast:=by
  induction h with
  | nil=>exact .nil
  | cons r t ih =>
    cases t with
    | nil=>exact .nil
    | cons q t'=>exact .cons r ih
theorem Vals.eraseIdx:∀ {xs:List V} {us:List Value} (i:Nat),Vals xs us->Vals (xs.eraseIdx i) (us.eraseIdx i)
  | _,_,_,.nil=>.nil
  | _,_,0,.cons _ t=>t
  | _,_,i + 1,.cons r t=>.cons r (Vals.eraseIdx i t)
theorem Vals.reverse {xs:List V} {us:List Value} (h:Vals xs us):Vals xs.reverse us.reverse:=by
  induction h with
  | nil=>exact .nil
  | cons r t ih=>rw [List.reverse_cons,List.reverse_cons]; exact Vals.append ih (.cons r .nil)
theorem Vals.rep {xs:List V} {us:List Value} (h:Vals xs us):∀ k:Nat,Vals (List.replicate k xs).flatten (List.replicate k us).flatten
  | 0=>.nil
  | k + 1=>by
    rw [List.replicate_succ,List.replicate_succ,List.flatten_cons,List.flatten_cons]
    exact Vals.append h (Vals.rep h k)
theorem Zik {α:Type} (l:List α):l.eraseIdx (l.length - 1)=l.dropLast:=by
  induction l with
  | nil=>rfl
  | cons a r ih =>
    cases r with
    | nil=>rfl
    | cons b r =>
      have e:(a :: b :: r).length - 1=((b :: r).length - 1) + 1:=by
        have h1:(a :: b :: r).length=r.length + 2:=rfl
        have h2:(b :: r).length=r.length + 1:=rfl
        omega
      rw [e,List.eraseIdx_cons_succ,ih]
      all_goals rfl
theorem ZfJ (its:List Value):∀ (k:Nat) (acc:List Value),
    List.foldl (fun x1 x2=>x1 ++ x2) acc.toArray (List.replicate k its.toArray)=(acc ++ (List.replicate k its).flatten).toArray
  | 0,acc=>by simp
  | k + 1,acc=>by
    have e:acc.toArray ++ its.toArray=(acc ++ its).toArray:=by simp
    have e2:(acc ++ its) ++ (List.replicate k its).flatten=acc ++ (List.replicate (k + 1) its).flatten:=by
      rw [List.replicate_succ,List.flatten_cons,List.append_assoc]
    rw [<- e2,<- ZfJ its k (acc ++ its),<- e,List.replicate_succ,List.foldl_cons]
section
variable {X:Cx} {pins:List (Addr × Obj)} {σ:St} {H:Hp} {s:Shared} {l b:Addr} {xs ys zs:List V}
theorem Inv.lset {its its':List Value} {n:Nat} {f:Array Value->Array Value} {t':Nat} (I:Inv X pins σ H s) (hH:H l=some (.lst xs))
    (e:s.heap.get? l=some { cls:=.type "list", data:=.seq its.toArray n }) (hf:f its.toArray=its'.toArray) (hv:Vals ys its') (hz:ys.length <= sizeLine) :
    Inv X pins σ (upd H l (.lst ys)) { s with heap:=s.heap.update l (Obj.mapSeq f),toks:=t' }:=by
  have q:=PySem.IsL.update e f
  rw [hf] at q
  refine I.write (x:=l) (e:=l) (by rw [hH]; exact trivial) (.inl rfl) (fun b' u hb hu=>(Heap.get?_update_other s.heap (Obj.mapSeq f) (Ne.symm hb)).trans hu) ⟨_,q⟩ ?_
  exact ⟨hz,its',_,hv,q⟩
theorem Inv.lnew {its:List Value} {t':Nat} (I:Inv X pins σ H s) (hv:Vals ys its) (hz:ys.length <= sizeLine) :
    Inv X pins σ (upd H s.heap.objs.size (.lst ys)) { s with heap:=s.heap.push { cls:=.type "list", data:=.seq its.toArray },toks:=t' } :=
  I.laid (fun _ _ q=>Heap.get?_push_of_some _ q) (Nat.le_refl _) ⟨hz,its,0,hv,Heap.get?_push_size _ rfl⟩
theorem Inv.fresh (I:Inv X pins σ H s):H s.heap.objs.size=none:=I.hok.fresh (Nat.le_refl _)
theorem Inv.lstM (I:Inv X pins σ H s) (hH:H l=some (.lst xs)):xs.length <= sizeLine/\∃ (its:List Value) (n:Nat),Vals xs its/\xs.length=its.length/\s.heap.get? l=some { cls:=.type "list", data:=.seq its.toArray n }:=by
  obtain ⟨z,its,n,r,e⟩:=I.hok l _ hH
  exact ⟨z,its,n,r,r.length,e⟩
theorem ZhK {n:Nat} (h:n <= sizeLine):Builtin.List.listTooLong n=false:=by
  unfold Builtin.List.listTooLong
  exact decide_eq_false (by omega)
end
section
variable {X:Cx}
noncomputable def Zi6:V->List V->Hp->VK->Prop:=fun x vs H Q=>∃ l xs y,x=.ref l/\vs=[y]/\H l=some (.lst xs)/\xs.length < sizeLine/\Q .non (upd H l (.lst (xs ++ [y])))
theorem Zbr:MtM X "list.append" Zi6:=by
  intro pins s σ H x vs v us Q I rx rv h
  obtain ⟨l,xs,y,rfl,rfl,hH,hz,q⟩:=h
  cases rx
  obtain ⟨u,rfl,ru⟩:=rv.one
  obtain ⟨z,its,n,r,hl,e⟩:=I.lstM hH
  refine call_meets F.slot_list_append ⟨_,e,rfl⟩ F.entry_list_append (F.args_list_append_2 _ _) (PySem.list_append l its.toArray n u (by rw [List.size_toArray]; omega)) ⟨e,?_⟩
  refine ⟨.non,_,I.lset (its':=its ++ [u]) hH e (by simp) (r.append (.cons ru .nil)) ?_,rfl,q⟩
  rw [List.length_append,List.length_singleton]
  omega
noncomputable def Zmi:V->List V->Hp->VK->Prop:=fun x vs H Q=>∃ l b xs zs,x=.ref l/\vs=[.ref b]/\H l=some (.lst xs)/\H b=some (.lst zs)/\xs.length + zs.length <= sizeLine/\Q .non (upd H l (.lst (xs ++ zs)))
theorem mt_extend:MtM X "list.extend" Zmi:=by
  intro pins s σ H x vs v us Q I rx rv h
  obtain ⟨l,b,xs,zs,rfl,rfl,hH,hB,hz,q⟩:=h
  cases rx
  obtain ⟨u,rfl,ru⟩:=rv.one
  cases ru
  obtain ⟨z,its,n,r,hl,e⟩:=I.lstM hH
  obtain ⟨z2,its2,n2,r2,hl2,e2⟩:=I.lstM hB
  have hsz:its.toArray.size + its2.toArray.size <= sizeLine:=by rw [List.size_toArray,List.size_toArray]; omega
  have hlong:¬ (!its.toArray.isEmpty && Builtin.List.listTooLong (its.toArray.size + its2.toArray.size))=true:=by
    rw [ZhK hsz,Bool.and_false]
    exact Bool.false_ne_true
  refine call_meets F.slot_list_extend ⟨_,e,rfl⟩ F.entry_list_extend (F.args_list_extend_2 _ _)
    (AutoSeq1.list_extend_list_list_0 l its.toArray n b its2.toArray n2 hlong (by rw [List.size_toArray]; omega) (by omega)) ⟨e,e2,?_⟩
  refine ⟨.non,_,I.lset (its':=its ++ its2) hH e (by simp) (r.append r2) ?_,rfl,q⟩
  rw [List.length_append]
  omega
noncomputable def rPop:V->List V->Hp->VK->Prop:=fun x vs H Q=>∃ l xs y,x=.ref l/\vs=[]/\H l=some (.lst xs)/\xs[xs.length - 1]?=some y/\Q y (upd H l (.lst xs.dropLast))
theorem ZlS:MtM X "list.pop" rPop:=by
  intro pins s σ H x vs v us Q I rx rv h
  obtain ⟨l,xs,y,rfl,rfl,hH,hy,q⟩:=h
  cases rx
  have hus:=rv.zero
  subst hus
  obtain ⟨z,its,n,r,hl,e⟩:=I.lstM hH
  obtain ⟨u,hu,ru⟩:=r.get hy
  have hy':its.toArray[its.toArray.size - 1]?=some u:=by
    show its.toArray[its.length - 1]?=some u
    rw [<- Array.getElem?_toList,<- hl]
    exact hu
  refine call_meets F.slot_list_pop ⟨_,e,rfl⟩ F.entry_list_pop (F.args_list_pop_1 _) (MeetsSeq.list_pop_last l its.toArray n u hy' (by rw [List.size_toArray]; omega)) ⟨e,?_⟩
  refine ⟨y,_,I.lset (its':=its.dropLast) hH e ?_ r.dropLast ?_,ru,q⟩
  . show its.toArray.eraseIdxIfInBounds (its.toArray.size - 1)=its.dropLast.toArray
    rw [List.size_toArray,List.eraseIdxIfInBounds_toArray,Zik]
  . rw [List.length_dropLast]
    omega
noncomputable def rCat:R2:=fun x y H Q=>∃ l b xs zs,x=.ref l/\y=.ref b/\H l=some (.lst xs)/\H b=some (.lst zs)/\xs.length + zs.length <= sizeLine/\∀ p,H p=none->Q (.ref p) (upd H p (.lst (xs ++ zs)))
theorem Zi7:OpR X (binaryOp .Add) rCat:=by
  intro pins s σ H x y v u Q I rx ry h
  obtain ⟨l,b,xs,zs,rfl,rfl,hH,hB,hz,q⟩:=h
  cases rx
  cases ry
  obtain ⟨z,its,n,r,hl,e⟩:=I.lstM hH
  obtain ⟨z2,its2,n2,r2,hl2,e2⟩:=I.lstM hB
  refine PySem.P.add_list e e2 ?_ (by rw [List.size_toArray,List.size_toArray]; omega)
  have ea:its.toArray ++ its2.toArray=(its ++ its2).toArray:=by simp
  rw [ea]
  exact ⟨.ref _,_,I.lnew (t':=s.toks) (r.append r2) (by rw [List.length_append]; omega),rfl,q _ I.fresh⟩
noncomputable def rRep:R2:=fun x y H Q=>∃ l k xs,x=.ref l/\y=.int k/\H l=some (.lst xs)/\-(2 ^ 63) <= k/\k < 2 ^ 63/\xs.length * k.toNat <= sizeLine /\
  ∀ p,H p=none->Q (.ref p) (upd H p (.lst (List.replicate k.toNat xs).flatten))
theorem Zmj {α:Type} (xs:List α) (k:Nat):(List.replicate k xs).flatten.length=k * xs.length:=by
  induction k with
  | zero=>simp
  | succ k ih=>rw [List.replicate_succ,List.flatten_cons,List.length_append,ih,Nat.succ_mul,Nat.add_comm]
theorem op_rep:OpR X (binaryOp .Mult) rRep:=by
  intro pins s σ H x y v u Q I rx ry h
  obtain ⟨l,k,xs,rfl,rfl,hH,h1,h2,hz,q⟩:=h
  cases rx
  obtain ⟨t,rfl⟩:=ry
  obtain ⟨z,its,n,r,hl,e⟩:=I.lstM hH
  have hlen:its.toArray.size * k.toNat <= sizeLine:=by rw [List.size_toArray,<- hl]; exact hz
  have hcap:¬ its.toArray.size * k.toNat > (2 ^ 63 - 1) / 8:=by
    have:(sizeLine:Nat) <= (2 ^ 63 - 1) / 8:=by decide
    omega
  have hfit:¬ (!Builtin.List.listFitsIndex k)=true:=by
    rw [fitsIndex_both h1 h2]
    exact Bool.false_ne_true
  have hlong:¬ Builtin.List.listTooLong (its.toArray.size * k.toNat)=true:=by
    rw [ZhK hlen]
    exact Bool.false_ne_true
  have hnew:List.foldl (fun x1 x2=>x1 ++ x2) #[] (List.replicate (if its.toArray.isEmpty=true then 0 else k.toNat) its.toArray)=(List.replicate k.toNat its).flatten.toArray:=by
    have f0:∀ m:Nat,List.foldl (fun x1 x2=>x1 ++ x2) #[] (List.replicate m its.toArray)=(List.replicate m its).flatten.toArray:=fun m=>by
      have:=ZfJ its m []
      rw [List.nil_append] at this
      exact this
    rw [f0]
    cases its with
    | nil=>simp
    | cons a r'=>rw [if_neg (by simp)]
  refine wpAny_binaryOp_repeat_ref (T := "list") (U := "int") (by decide) ⟨_,e,rfl⟩ (fun s'=>typeIs_int s' k t) noFill_list_mul F.fills_int_mul F.slot_int_rmul repeat_list F.slot_int_index.lookup
    (call_meets F.slot_int_rmul (typeIs_int s k t) F.entry_int_rmul (F.args_int_rmul_2 _ _) (int___rmul___int_list k t l its.toArray n)
      ⟨e,rfl,⟨_,e,rfl⟩,call_meets F.slot_list_mul ⟨_,e,rfl⟩ F.entry_list_mul (F.args_list_mul_2 _ _) (AutoListH.list___mul___list_int_3 l its.toArray n k t hfit hcap hlong) ⟨e,?_⟩⟩)
  rw [hnew]
  exact ⟨.ref _,_,I.lnew (t':=s.toks) (r.rep k.toNat) (by rw [Zmj,Nat.mul_comm]; exact hz),rfl,q _ I.fresh⟩
end
section
variable {prog:Program} {w:World} {A:Around} {E:Value->Shared->Prop} {s:Shared}
end
section
variable {X:Cx}
end
end L2
namespace L2
open PySem PySem.Spec PyProof.Rows
section
variable {κ:Type} [DecidableEq κ]
noncomputable def valV (kvs:List (κ × V)) (k:κ):Option V:=(kvs.find? fun kv=>decide (kv.1=k)).map (·.2)
noncomputable def putK (kvs:List (κ × V)) (k:κ) (v:V):List (κ × V) :=
  if (kvs.any fun kv=>decide (kv.1=k))=true then kvs.map (fun kv=>if kv.1=k then (kv.1,v) else kv) else kvs ++ [(k,v)]
noncomputable def dropK (kvs:List (κ × V)) (k:κ):List (κ × V):=kvs.filter fun kv=>decide (kv.1 ≠ k)
theorem ZkD {k:κ}:valV ([]:List (κ × V)) k=none:=rfl
theorem Zbl {p:κ × V} {r:List (κ × V)} {k:κ} (e:p.1=k):valV (p :: r) k=some p.2:=by simp [valV,List.find?_cons,e]
theorem Zbf {p:κ × V} {r:List (κ × V)} {k:κ} (e:¬ p.1=k):valV (p :: r) k=valV r k:=by simp [valV,List.find?_cons,e]
theorem Zb0 (k:κ):∀ kvs:List (κ × V),(kvs.any fun kv=>decide (kv.1=k))=(valV kvs k).isSome
  | []=>rfl
  | p :: r=>by
    rw [List.any_cons]
    by_cases e:p.1=k
    . simp only [Zbl e,decide_eq_true e,Bool.true_or,Option.isSome_some]
    . rw [Zbf e,decide_eq_false e,Bool.false_or]; exact Zb0 k r
theorem ZhL (k j:κ) (y:V):∀ kvs:List (κ × V),valV (kvs.map fun kv=>if kv.1=k then (kv.1,y) else kv) j=(valV kvs j).map fun x=>if j=k then y else x
  | []=>rfl
  | p :: r=>by
    have ih:=ZhL k j y r
    rw [List.map_cons]
    by_cases h:p.1=k
    . rw [if_pos h]
      by_cases e:p.1=j
      . rw [Zbl (p:=(p.1,y)) e,Zbl e,Option.map_some,if_pos (e.symm.trans h)]
      . rw [Zbf (p:=(p.1,y)) e,Zbf e,ih]
    . rw [if_neg h]
      by_cases e:p.1=j
      . rw [Zbl (p:=p) e,Zbl e,Option.map_some,if_neg (fun z=>h (e.trans z))]
      . rw [Zbf (p:=p) e,Zbf e,ih]
theorem ZfK (k j:κ) (y:V):∀ kvs:List (κ × V),valV kvs k=none->valV (kvs ++ [(k,y)]) j=if j=k then some y else valV kvs j
  | [],_=>by
    by_cases e:k=j
    . rw [if_pos e.symm]; exact Zbl (p:=(k,y)) e
    . rw [if_neg (fun z=>e z.symm)]; exact Zbf (p:=(k,y)) e
  | p :: r,hn=>by
    rw [List.cons_append]
    have hk:¬ p.1=k:=fun z=>by rw [Zbl z] at hn; cases hn
    rw [Zbf hk] at hn
    have ih:=ZfK k j y r hn
    by_cases e:p.1=j
    . rw [Zbl e,Zbl e,if_neg (fun z=>hk (e.trans z))]
    . rw [Zbf e,Zbf e,ih]
theorem ZkE (kvs:List (κ × V)) (k j:κ) (y:V):valV (putK kvs k y) j=if j=k then some y else valV kvs j:=by
  unfold putK
  by_cases a:(kvs.any fun kv=>decide (kv.1=k))=true
  . rw [if_pos a,ZhL]
    rw [Zb0] at a
    by_cases e:j=k
    . obtain ⟨x,hx⟩:=Option.isSome_iff_exists.mp a
      rw [if_pos e,e,hx,Option.map_some,if_pos rfl]
    . rw [if_neg e]
      cases valV kvs j with
      | none=>rfl
      | some x=>rw [Option.map_some,if_neg e]
  . rw [if_neg a]
    refine ZfK k j y kvs ?_
    rw [Zb0] at a
    cases q:valV kvs k with
    | none=>rfl
    | some x=>rw [q] at a; exact (a rfl).elim
theorem ZcD (kvs:List (κ × V)) (k:κ) (v:V):(putK kvs k v).length <= kvs.length + 1:=by
  unfold putK
  split
  . rw [List.length_map]; omega
  . rw [List.length_append,List.length_cons,List.length_nil]; omega
theorem ZkF {kvs:List (κ × V)} {k:κ} (v:V) (h:valV kvs k=none):putK kvs k v=kvs ++ [(k,v)]:=by
  unfold putK
  rw [Zb0,h]
  exact if_neg (by decide)
theorem RelO.isSome_eq {o:Option V} {u:Option Value} (r:RelO o u):o.isSome=u.isSome:=by
  cases o with
  | none=>cases u with
    | none=>rfl
    | some _=>exact (show False from r).elim
  | some _=>cases u with
    | none=>exact (show False from r).elim
    | some _=>rfl
theorem RelO.getD {o:Option V} {u:Option Value} {d:V} {d':Value} (r:RelO o u) (rd:RelV d d'):RelV (o.getD d) (u.getD d'):=by
  cases o with
  | none=>cases u with
    | none=>exact rd
    | some _=>exact (show False from r).elim
  | some _=>cases u with
    | none=>exact (show False from r).elim
    | some _=>exact r
theorem KV.val {kvs:List (κ × V)} {vs:List (κ × Value)} (r:KV kvs vs) (k:κ):RelO (valV kvs k) (valueAt vs k):=by
  unfold KV at r
  induction r with
  | nil=>exact True.intro
  | @cons p q ps qs h t ih =>
    obtain ⟨h1,h2⟩:=h
    by_cases e:p.1=k
    . have e':q.1=k:=h1.symm.trans e
      have b:valueAt (q :: qs) k=some q.2:=by simp [valueAt,List.find?_cons,e']
      rw [Zbl e,b]; exact h2
    . have e':¬ q.1=k:=fun z=>e (h1.trans z)
      have b:valueAt (q :: qs) k=valueAt qs k:=by simp [valueAt,List.find?_cons,e']
      rw [Zbf e,b]; exact ih
theorem KV.any {kvs:List (κ × V)} {vs:List (κ × Value)} (r:KV kvs vs) (k:κ):(kvs.any fun kv=>decide (kv.1=k))=vs.any fun kv=>decide (kv.1=k):=by
  unfold KV at r
  induction r with
  | nil=>rfl
  | cons h t ih=>rw [List.any_cons,List.any_cons,ih,h.1]
theorem KV.repl {kvs:List (κ × V)} {vs:List (κ × Value)} (r:KV kvs vs) (k:κ) {y:V} {u:Value} (ry:RelV y u) :
    KV (kvs.map fun kv=>if kv.1=k then (kv.1,y) else kv) (vs.map fun kv=>if kv.1=k then (kv.1,u) else kv):=by
  unfold KV at r |-
  induction r with
  | nil=>exact .nil
  | @cons p q ps qs h t ih =>
    rw [List.map_cons,List.map_cons]
    refine .cons ?_ ih
    obtain ⟨h1,h2⟩:=h
    by_cases e:p.1=k
    . rw [if_pos e,if_pos (h1.symm.trans e)]; exact ⟨h1,ry⟩
    . rw [if_neg e,if_neg (fun z=>e (h1.trans z))]; exact ⟨h1,h2⟩
theorem KV.put {kvs:List (κ × V)} {vs:List (κ × Value)} (r:KV kvs vs) (k:κ) {y:V} {u:Value} (ry:RelV y u):KV (putK kvs k y) (stored vs k u):=by
  unfold putK stored
  rw [r.any k]
  by_cases e:(vs.any fun kv=>decide (kv.1=k))=true
  . rw [if_pos e,if_pos e]; exact r.repl k ry
  . rw [if_neg e,if_neg e]; exact Paired.snoc r ⟨rfl,ry⟩
theorem KV.drop {kvs:List (κ × V)} {vs:List (κ × Value)} (r:KV kvs vs) (k:κ):KV (dropK kvs k) (without vs k):=by
  unfold KV at r |-
  unfold dropK without
  induction r with
  | nil=>exact .nil
  | @cons p q ps qs h t ih =>
    obtain ⟨h1,h2⟩:=h
    rw [List.filter_cons,List.filter_cons]
    by_cases e:p.1=k
    . have a:¬ decide (p.1 ≠ k)=true:=by simp [e]
      have b:¬ decide (q.1 ≠ k)=true:=by simp [h1.symm.trans e]
      rw [if_neg a,if_neg b]; exact ih
    . have e':¬ q.1=k:=fun z=>e (h1.trans z)
      have a:decide (p.1 ≠ k)=true:=by simp [e]
      have b:decide (q.1 ≠ k)=true:=by simp [e']
      rw [if_pos a,if_pos b]; exact .cons ⟨h1,h2⟩ ih
theorem KV.keys {kvs:List (κ × V)} {vs:List (κ × Value)} (r:KV kvs vs):kvs.map (·.1)=vs.map (·.1):=by
  unfold KV at r
  induction r with
  | nil=>rfl
  | cons h t ih=>rw [List.map_cons,List.map_cons,ih,h.1]
theorem KV.length {kvs:List (κ × V)} {vs:List (κ × Value)} (r:KV kvs vs):kvs.length=vs.length:=Paired.length r
theorem ZeN (kvs:List (κ × V)) (k:κ):(dropK kvs k).length <= kvs.length:=List.length_filter_le _ _
end
theorem Zil {P:Program} {w:World} {k:Key} {u:Value} (r:RelV (kV k) u):(Za2 P w).is k u=true:=by
  cases k with
  | inl i=>obtain ⟨t,e⟩:=(show ∃ t,u=Value.int i t from r); subst e; exact ZgA P w i t
  | inr x=>obtain ⟨t,e⟩:=(show ∃ t,u=Value.str x t from r); subst e; exact ZgB P w x t
theorem ZfL {P:Program} {w:World}:∀ {ks:List Key} {us:List Value},Vals (ks.map kV) us->ItemsAre (Za2 P w) ks us
  | [],_,r=>by rw [List.map_nil] at r; cases r; exact .nil
  | k :: ks,_,r=>by
    rw [List.map_cons] at r
    cases r with
    | cons h t=>exact .cons (Zil h) (ZfL t)
noncomputable abbrev KT (H:Hp):List (List Key × V)->List (List Key × Addr × Value)->Prop:=Paired fun p q=>p.1=q.1/\H q.2.1=some (.tup (p.1.map kV))/\RelV p.2 q.2.2
theorem KT.val {H:Hp} {kvs:List (List Key × V)} {xs:List (List Key × Addr × Value)} (r:KT H kvs xs) (k:List Key):RelO (valV kvs k) ((atKey xs k).map (·.2)):=by
  induction r with
  | nil=>exact True.intro
  | @cons p q ps qs h t ih =>
    obtain ⟨h1,_,h2⟩:=h
    by_cases e:p.1=k
    . have e':q.1=k:=h1.symm.trans e
      have b:atKey (q :: qs) k=some q.2:=by simp [atKey,List.find?_cons,e']
      rw [Zbl e,b]; exact h2
    . have e':¬ q.1=k:=fun z=>e (h1.trans z)
      have b:atKey (q :: qs) k=atKey qs k:=by simp [atKey,List.find?_cons,e']
      rw [Zbf e,b]; exact ih
theorem KT.repl {H:Hp} {kvs:List (List Key × V)} {xs:List (List Key × Addr × Value)} (r:KT H kvs xs) (k:List Key) {y:V} {u:Value} (ry:RelV y u) :
    KT H (kvs.map fun kv=>if kv.1=k then (kv.1,y) else kv) (xs.map (putAt k u)):=by
  induction r with
  | nil=>exact .nil
  | @cons p q ps qs h t ih =>
    rw [List.map_cons,List.map_cons]
    refine .cons ?_ ih
    obtain ⟨h1,h2,h3⟩:=h
    unfold putAt
    by_cases e:p.1=k
    . rw [if_pos e,if_pos (h1.symm.trans e)]; exact ⟨h1,h2,ry⟩
    . rw [if_neg e,if_neg (fun z=>e (h1.trans z))]; exact ⟨h1,h2,h3⟩
theorem KT.put {H:Hp} {kvs:List (List Key × V)} {xs:List (List Key × Addr × Value)} (r:KT H kvs xs) (k:List Key) {b:Addr} {y:V} {u:Value} (hb:H b=some (.tup (k.map kV))) (ry:RelV y u) :
    KT H (putK kvs k y) (storedH xs k b u):=by
  have e:(kvs.any fun kv=>decide (kv.1=k))=(atKey xs k).isSome:=by
    rw [Zb0,(r.val k).isSome_eq,Option.isSome_map]
  unfold putK storedH
  rw [e]
  by_cases q:(atKey xs k).isSome=true
  . rw [if_pos q,if_pos q]; exact r.repl k ry
  . rw [if_neg q,if_neg q]; exact Paired.snoc r ⟨rfl,hb,ry⟩
theorem KT.keeps {H H':Hp} {kvs:List (List Key × V)} {xs:List (List Key × Addr × Value)} (r:KT H kvs xs) (ht:∀ b ys,H b=some (.tup ys)->H' b=some (.tup ys)):KT H' kvs xs :=
  Paired.mapP r fun _ _ z=>⟨z.1,ht _ _ z.2.1,z.2.2⟩
section
variable {P:Program} {w:World} {H:Hp} {h:Heap} {a:Addr}
theorem rd_of {u:HO} (ok:HOk P w H h) (e:Rd H a u):ObjOk P w H h a u:=e.ok ok
theorem Zmk {kvs:List (Key × V)} (ok:HOk P w H h) (e:Rd H a (.dK kvs)):kvs.length <= sizeLine/\(a == sysModules)=false/\∃ vs,KV kvs vs/\h.DictOf (Za2 P w) a vs :=
  show ObjOk P w H h a (.dK kvs) from rd_of ok e
theorem ZkG {kvs:List (Key × V)} (ok:HOk P w H h) (e:H a=some (.dK kvs)):kvs.length <= sizeLine/\(a == sysModules)=false/\∃ vs,KV kvs vs/\h.DictOf (Za2 P w) a vs:=Zmk ok (.inl e)
theorem Zi8 {ks:List Key} (ok:HOk P w H h) (e:H a=some (.tup (ks.map kV))):(tupleKind (Za2 P w)).is h ks a:=by
  obtain ⟨_,its,r,o,h1,h2,n,h3⟩:=(show ObjOk P w H h a (.tup (ks.map kV)) from ok a _ e)
  exact ⟨o,its.toArray,n,h1,h2,h3,by simpa using ZfL r⟩
theorem Zml {kvs:List (List Key × V)} (ok:HOk P w H h) (e:Rd H a (.dT kvs)):kvs.length <= sizeLine/\(a == sysModules)=false /\
    ∃ xs,KT H kvs xs/\h.DictOfH (tupleKind (Za2 P w)) a xs:=by
  obtain ⟨z,y,xs,r,o,es,ep,h1,h2,h3,h4,h5⟩:=(show ObjOk P w H h a (.dT kvs) from rd_of ok e)
  refine ⟨z,y,xs,r,o,es,ep,h1,h2,h3,h4,fun x hx=>?_,h5⟩
  have all:∀ {l:List (List Key × V)} {m:List (List Key × Addr × Value)},KT H l m->∀ x ∈ m,(tupleKind (Za2 P w)).is h x.1 x.2.1:=by
    intro l m q
    induction q with
    | nil=>intro x hx; exact nomatch hx
    | @cons p q ps qs hq t ih =>
      intro x hx
      rcases List.mem_cons.mp hx with e|hx
      . subst e
        exact Zi8 ok (by rw [<- hq.1]; exact hq.2.1)
      . exact ih x hx
  exact all r x hx
theorem dt_of {kvs:List (List Key × V)} (ok:HOk P w H h) (e:H a=some (.dT kvs)):kvs.length <= sizeLine/\(a == sysModules)=false /\
    ∃ xs,KT H kvs xs/\h.DictOfH (tupleKind (Za2 P w)) a xs:=Zml ok (.inl e)
end
noncomputable def DGet (H:Hp) (a:Addr) (y:V) (r:Option V):Prop :=
  (∃ kvs k,Rd H a (.dK kvs)/\y=kV k/\r=valV kvs k)\/∃ kvs k b,Rd H a (.dT kvs)/\y=.ref b/\H b=some (.tup (k.map kV))/\r=valV kvs k
noncomputable def DPut (H:Hp) (a:Addr) (y v:V) (H':Hp):Prop :=
  (∃ kvs k,H a=some (.dK kvs)/\y=kV k/\kvs.length < sizeLine/\H'=upd H a (.dK (putK kvs k v))) \/
  ∃ kvs k b,H a=some (.dT kvs)/\y=.ref b/\H b=some (.tup (k.map kV))/\kvs.length < sizeLine/\H'=upd H a (.dT (putK kvs k v))
theorem DGet.k {H:Hp} {a:Addr} {kvs:List (Key × V)} {k:Key} (e:H a=some (.dK kvs)):DGet H a (kV k) (valV kvs k):=.inl ⟨kvs,k,.inl e,rfl,rfl⟩
theorem DGet.t {H:Hp} {a b:Addr} {kvs:List (List Key × V)} {k:List Key} (e:H a=some (.dT kvs)) (eb:H b=some (.tup (k.map kV))):DGet H a (.ref b) (valV kvs k):=.inr ⟨kvs,k,b,.inl e,rfl,eb,rfl⟩
theorem DPut.k {H:Hp} {a:Addr} {kvs:List (Key × V)} {k:Key} {v:V} (e:H a=some (.dK kvs)) (hl:kvs.length < sizeLine):DPut H a (kV k) v (upd H a (.dK (putK kvs k v))):=.inl ⟨kvs,k,e,rfl,hl,rfl⟩
theorem DPut.t {H:Hp} {a b:Addr} {kvs:List (List Key × V)} {k:List Key} {v:V} (e:H a=some (.dT kvs)) (eb:H b=some (.tup (k.map kV))) (hl:kvs.length < sizeLine) :
    DPut H a (.ref b) v (upd H a (.dT (putK kvs k v))):=.inr ⟨kvs,k,b,e,rfl,eb,hl,rfl⟩
section
variable {X:Cx} {pins:List (Addr × Obj)} {σ:St} {H:Hp} {s:Shared} {a:Addr} {y v:V} {u r:Value} {o:Option V} {A:Around} {E:Value->Shared->Prop}
theorem Inv.big (I:Inv X pins σ H s):sysModules < s.heap.objs.size:=by
  have h:mainGlobals < s.heap.objs.size:=(I.mod.glob.keeps I.bk).lt
  exact Nat.lt_trans (by decide) h
theorem ZeO {h':Heap} {t':Nat} {ob:HO} (I:Inv X pins σ H s) (mu:Mut (H a)) (hs:Heap.SameBut a s.heap h') (he:∃ q,h'.get? a=some q) (new:ObjOk X.prog X.w (upd H a ob) h' a ob) :
    Inv X pins σ (upd H a ob) { s with heap:=h',toks:=t' } :=
  I.write (x:=a) (e:=a) mu (.inl rfl) (fun b q hb z=>(hs.2 b hb).trans z) he new
theorem Zi9 {P:Program} {w:World} {H':Hp} {h':Heap} {kvs:List (Key × V)} {vs:List (Key × Value)} (z:kvs.length <= sizeLine) (hd:(a == sysModules)=false) (rel:KV kvs vs) (dd:h'.DictOf (Za2 P w) a vs) :
    ObjOk P w H' h' a (.dK kvs):=⟨z,hd,vs,rel,dd⟩
theorem Zja {H':Hp} {Q:Unit->Shared->Prop} (hu:A.units + 1 < cLine) (I:Inv X pins σ H s) (g:DPut H a y v H') (ry:RelV y u) (rv:RelV v r) (h:∀ s',Inv X pins σ H' s'->Q () s') :
    wpAny (model X.prog X.w) A (setItem (.ref a) u r) Q E s:=by
  rcases g with ⟨kvs,k,e,ey,l,eH⟩|⟨kvs,k,b,e,ey,eb,l,eH⟩
  . subst ey eH
    obtain ⟨z,hd,vs,rel,dd⟩:=ZkG I.hok e
    have hz:vs.length <= sizeLine:=by rw [<- rel.length]; exact z
    have hl:(putK kvs k v).length <= sizeLine:=by have:=ZcD kvs k v; omega
    refine wpAny_setItem_pairs (hsz:=hz) (Zil ry) dd fun h' dd' hs=>h _ ?_
    have he:∃ q,h'.get? a=some q:=let ⟨q,_,_,hq,_⟩:=dd'; ⟨q,hq⟩
    exact ZeO I (by rw [e]; exact True.intro) hs he (Zi9 hl hd (rel.put k rv) dd')
  . subst ey eH
    cases (show u=Value.ref b from ry)
    obtain ⟨z,hd,xs,rel,dd⟩:=dt_of I.hok e
    have hz:xs.length <= sizeLine:=by rw [<- Paired.length rel]; exact z
    have hl:(putK kvs k v).length <= sizeLine:=by have:=ZcD kvs k v; omega
    refine wpAny_setItem_heap (hsz:=hz) (tupleKind_room_in1 hu) (Zi8 I.hok eb) dd fun h' dd' hs=>h _ ?_
    obtain ⟨q,es,ep,hq,h2,h3,h4,_,h5⟩:=dd'
    refine ZeO I (by rw [e]; exact True.intro) hs ⟨q,hq⟩ ⟨hl,hd,_,(rel.put k eb rv).keeps fun c ys ec=>?_,q,es,ep,hq,h2,h3,h4,h5⟩
    rw [Zai (Zbe ec e (fun z=>nomatch z))]
    exact ec
end
section
variable {X:Cx} {pins:List (Addr × Obj)} {σ:St} {H:Hp} {s:Shared} {a:Addr} {kvs:List (Key × V)} {k:Key} {u:Value} {A:Around} {E:Value->Shared->Prop}
theorem d_delItem {Q:Unit->Shared->Prop} (I:Inv X pins σ H s) (e:H a=some (.dK kvs)) (ry:RelV (kV k) u) (l:(valV kvs k).isSome=true) (h:∀ s',Inv X pins σ (upd H a (.dK (dropK kvs k))) s'->Q () s') :
    wpAny (model X.prog X.w) A (delItem (.ref a) u) Q E s:=by
  obtain ⟨z,hd,vs,rel,dd⟩:=ZkG I.hok e
  refine wpAny_delItem_slot dd.typeIs (by decide) PySem.F.slot_dict_delitem
    (call_meetsIn PySem.F.slot_dict_delitem dd.typeIs PySem.F.entry_dict_delitem (PySem.F.args_dict_delitem_2 _ _) (meets_dict_delitem_pairs (Za2 X.prog X.w) a (Zil ry)) ⟨vs,dd,by rw [<- rel.length]; exact z,by rw [<- (rel.val k).isSome_eq]; exact l,fun h' dd' hs=>h _ ?_⟩)
  have he:∃ q,h'.get? a=some q:=let ⟨q,_,_,hq,_⟩:=dd'; ⟨q,hq⟩
  exact ZeO I (by rw [e]; exact True.intro) hs he (Zi9 (Nat.le_trans (ZeN kvs k) z) hd (rel.drop k) dd')
theorem d_pop {v:V} {more:List Value} {Q:Value->Shared->Prop} (I:Inv X pins σ H s) (e:H a=some (.dK kvs)) (ry:RelV (kV k) u) (l:valV kvs k=some v) (hm:more=[]\/∃ x,more=[x])
    (h:∀ w' s',Inv X pins σ (upd H a (.dK (dropK kvs k))) s'->RelV v w'->Q w' s'):wpAny (model X.prog X.w) A (call (.builtin "dict.pop") (.ref a :: u :: more)) Q E s:=by
  obtain ⟨z,hd,vs,rel,dd⟩:=ZkG I.hok e
  obtain ⟨w',hw,rw'⟩:=RelO.some_of (v:=v) (o:=valueAt vs k) (by rw [<- l]; exact rel.val k)
  have hp:(keyPart u).isSome=true:=by
    cases k with
    | inl i=>obtain ⟨t,q⟩:=(show ∃ t,u=Value.int i t from ry); subst q; rfl
    | inr x=>obtain ⟨t,q⟩:=(show ∃ t,u=Value.str x t from ry); subst q; rfl
  have ha:argsOk "dict.pop" ⟨.ref a :: u :: more,[]⟩:=by
    rcases hm with q|⟨x,q⟩
    . subst q; exact PySem.F.args_dict_pop_2 _ _
    . subst q; exact PySem.F.args_dict_pop_3 _ _ _
  refine call_meetsIn PySem.F.slot_dict_pop dd.typeIs PySem.F.entry_dict_pop ha (meets_dict_pop_there (Za2 X.prog X.w) a (Zil ry) more hm hp)
    ⟨vs,w',dd,by rw [<- rel.length]; exact z,hw,fun h' dd' hs=>h w' _ ?_ rw'⟩
  have he:∃ q,h'.get? a=some q:=let ⟨q,_,_,hq,_⟩:=dd'; ⟨q,hq⟩
  exact ZeO I (by rw [e]; exact True.intro) hs he (Zi9 (Nat.le_trans (ZeN kvs k) z) hd (rel.drop k) dd')
theorem d_popD {r:Value} {Q:Value->Shared->Prop} (I:Inv X pins σ H s) (e:H a=some (.dK kvs)) (ry:RelV (kV k) u) (l:valV kvs k=none) (h:∀ s',Inv X pins σ H s'->Q r s') :
    wpAny (model X.prog X.w) A (call (.builtin "dict.pop") [.ref a,u,r]) Q E s:=by
  obtain ⟨z,hd,vs,rel,dd⟩:=ZkG I.hok e
  have hn:valueAt vs k=none:=RelO.none_of (by rw [<- l]; exact rel.val k)
  have hp:(keyPart u).isSome=true:=by
    cases k with
    | inl i=>obtain ⟨t,q⟩:=(show ∃ t,u=Value.int i t from ry); subst q; rfl
    | inr x=>obtain ⟨t,q⟩:=(show ∃ t,u=Value.str x t from ry); subst q; rfl
  exact call_meetsIn PySem.F.slot_dict_pop dd.typeIs PySem.F.entry_dict_pop (PySem.F.args_dict_pop_3 _ _ _) (meets_dict_pop_default (Za2 X.prog X.w) a (Zil ry) hd hp r) ⟨vs,dd,hn,h _ (I.tok _)⟩
end
noncomputable def NoSl (i:Expr):Prop:=∀ ov iv,subscripted i false ov iv=operate [ov,iv] (getItem ov iv)
theorem Zmm {prog:Program} {w:World} {A:Around} {E:Value->Shared->Prop} {s:Shared} {env:Env} {value slice:Expr} {pos:Pos} {T id:String} {Q:Value->Shared->Prop}
    (hl:typeLookup (.type T) "__getitem__" = pure (some (.builtin id))) (hs:NoSl slice)
    (h:wpAny (model prog w) A (eval value env) (fun o s₁=>wpAny (model prog w) A (eval slice env) (fun i s₂=>s₂.TypeIs o T/\wpAny (model prog w) A (getItem o i) Q E s₂) E s₁) E s) :
    wpAny (model prog w) A (eval (.Subscript value slice pos) env) Q E s:=by
  refine Subscript_ (wpAny_mono h (fun o s₁ h₁=>wpAny_mono h₁ (fun i s₂ h₂=>?_) fun _ _ x=>x) fun _ _ x=>x)
  obtain ⟨hT,h₂⟩:=h₂
  unfold subscriptTail
  refine wpAny_bind ?_
  rw [getitemInPython_of_ne hT.not_modules]
  refine wpAny_bind (wpAny_specialOf hT hl ?_)
  have fin:wpAny (model prog w) A (subscripted slice false o i) (fun r s₃=>wpAny (model prog w) A (letTemporaryGo value o r >>= fun _=>pure r) Q E s₃) E s₂:=by
    rw [hs o i]
    exact wpAny_operating (wpAny_mono h₂ (fun r s₃ h₃=>wpAny_bind (wpAny_letTemporaryGo (wpAny_pure h₃))) fun _ _ x=>x)
  first
    | exact wpAny_pure (wpAny_bind fin)
    | exact wpAny_bind (wpAny_pure (wpAny_bind fin))
    | exact wpAny_bind fin
noncomputable def sDPut (td ty tv:TE):TS:=fun D σ H=>tv σ H fun v H1=>td σ H1 fun x H2=>ty σ H2 fun y H3=>∃ a H4,x=.ref a/\DPut H3 a y v H4/\D.nx σ H4
section
variable {X:Cx} {o i e value:Expr} {pos pos' tpos:Pos} {td ty tv:TE}
theorem Zmn (hu:X.A.units + 1 < cLine) (ho:PE X o td) (hi:PE X i ty) (hv:PE X value tv) (hs:swapsWith value (some (.Subscript o i pos')) pos.line X.env=pure false) :
    PS X (.Assign [.Subscript o i pos'] value pos) (sDPut td ty tv):=by
  intro pins s σ H D I h
  refine wpAny_Assign_Subscript (thn (hv pins s σ H _ I h) fun r s1 ⟨v,H1,I1,rv,q1⟩=>thn (ho pins s1 σ H1 _ I1 q1) fun u s2 ⟨x,H2,I2,rx,q2⟩=>thn (hi pins s2 σ H2 _ I2 q2) fun iv s3 ⟨y,H3,I3,ry,a,H4,ex,g,q3⟩=>?_) hs
  subst ex
  obtain rfl:u=Value.ref a:=rx
  exact Zja hu I3 g ry rv fun s4 I4=>⟨σ,H4,I4,q3⟩
end
theorem ZkH {P:Program} {w:World} {H:Hp} (h:Heap) (hb:sysModules < h.objs.size):ObjOk P w H (h.push { cls:=.type "dict", data:=.dict #[] }) h.objs.size (.dK []) :=
  ⟨Nat.zero_le _,beq_eq_false_iff_ne.mpr (Ne.symm (Nat.ne_of_lt hb)),[],.nil,Heap.DictOf.new h⟩
noncomputable def tDNewK:TE:=fun _ H Q=>∀ p,H p=none->Q (.ref p) (upd H p (.dK []))
section
variable {X:Cx} {pos:Pos}
theorem ZkI:PE X (.Dict [] [] pos) tDNewK:=fun pins s σ H Q I h =>
  wpAny_Dict_empty ⟨.ref s.heap.objs.size,_,I.laid (a:=s.heap.objs.size) (o:=.dK []) (t':=s.toks) (fun _ _ q=>Heap.get?_push_of_some _ q) (Nat.le_refl _) (ZkH s.heap I.big),rfl,h _ (I.hok.fresh (Nat.le_refl _))⟩
end
noncomputable abbrev VV:List (V × V)->List (Value × Value)->Prop:=Paired fun p q=>RelV p.1 q.1/\RelV p.2 q.2
structure M1 (X:Cx) (o:Expr) (m:Str) (apos:Pos) (e:Expr) (cpos:Pos):Prop where
  base:attributeBase o m X.env (eval o X.env)=eval o X.env
  few:((backTo cpos (starEach [e] X.env)).all (fun x=>!x.1) && (backToKw cpos (keywordEach [] X.env)).all (fun x=>x.1.isSome)
    && decide (([e]:List Expr).length + ([]:List Keyword).length + (if ([]:List Keyword).isEmpty then 0 else 1) < 30))=true
  line:(apos.endLine == cpos.line)=true
  trees:backTo cpos (starEach [e] X.env)=[(false,eval e X.env)]
structure M2 (X:Cx) (o:Expr) (m:Str) (apos:Pos) (e f:Expr) (cpos:Pos):Prop where
  base:attributeBase o m X.env (eval o X.env)=eval o X.env
  few:((backTo cpos (starEach [e,f] X.env)).all (fun x=>!x.1) && (backToKw cpos (keywordEach [] X.env)).all (fun x=>x.1.isSome)
    && decide (([e,f]:List Expr).length + ([]:List Keyword).length + (if ([]:List Keyword).isEmpty then 0 else 1) < 30))=true
  line:(apos.endLine == cpos.line)=true
  trees:backTo cpos (starEach [e,f] X.env)=[(false,eval e X.env),(false,eval f X.env)]
noncomputable def IsD (H:Hp) (a:Addr):Prop:=(∃ kvs,Rd H a (.dK kvs))\/∃ kvs,Rd H a (.dT kvs)
theorem ZlT {X:Cx} {pins:List (Addr × Obj)} {σ:St} {H:Hp} {s:Shared} {a:Addr} (I:Inv X pins σ H s) (d:IsD H a) :
    s.TypeIs (.ref a) "dict" /\ (∀ b,Value.ref a=.ref b->∃ ob,s.heap.get? b=some ob/\ob.dict=none)/\(a == sysModules)=false:=by
  rcases d with ⟨kvs,e⟩|⟨kvs,e⟩
  . obtain ⟨_,hd,vs,_,dd⟩:=Zmk I.hok e
    refine ⟨dd.typeIs,fun b q=>?_,hd⟩
    cases q
    obtain ⟨ob,_,_,h1,h2,_⟩:=dd
    exact ⟨ob,h1,h2.2.1⟩
  . obtain ⟨_,hd,xs,_,dd⟩:=Zml I.hok e
    refine ⟨dd.typeIs,fun b q=>?_,hd⟩
    cases q
    obtain ⟨ob,_,_,h1,h2,_⟩:=dd
    exact ⟨ob,h1,h2.2.1⟩
section
variable {X:Cx} {pins:List (Addr × Obj)} {σ:St} {H:Hp} {s:Shared} {a:Addr} {y d:V} {u r:Value} {o:Option V} {A:Around} {E:Value->Shared->Prop}
theorem d_get2 {Q:Value->Shared->Prop} (hu:A.units + 1 < cLine) (I:Inv X pins σ H s) (g:DGet H a y o) (ry:RelV y u) (rd:RelV d r) (h:∀ w' s',Inv X pins σ H s'->RelV (o.getD d) w'->Q w' s') :
    wpAny (model X.prog X.w) A (call (.builtin "dict.get") [.ref a,u,r]) Q E s:=by
  rcases g with ⟨kvs,k,e,ey,l⟩|⟨kvs,k,b,e,ey,eb,l⟩
  . subst ey
    obtain ⟨z,hd,vs,rel,dd⟩:=Zmk I.hok e
    refine call_meetsIn PySem.F.slot_dict_get dd.typeIs PySem.F.entry_dict_get (PySem.F.args_dict_get_3 _ _ _) (meets_dict_get_default (Za2 X.prog X.w) a (Zil ry) hd r) ⟨_,dd.mapOf,h _ _ (I.tok _) ?_⟩
    rw [l]
    exact (rel.val k).getD rd
  . subst ey
    cases (show u=Value.ref b from ry)
    obtain ⟨z,hd,xs,rel,dd⟩:=Zml I.hok e
    refine call_meetsIn PySem.F.slot_dict_get dd.typeIs PySem.F.entry_dict_get (PySem.F.args_dict_get_3 _ _ _) (meetsH_dict_get_default (tupleKind (Za2 X.prog X.w)) a b hd r) ⟨tupleKind_room_in1 hu,k,xs,Zi8 I.hok eb,dd,h _ _ (I.tok _) ?_⟩
    rw [l]
    exact (rel.val k).getD rd
end
noncomputable def tDGet2 (td ty tx:TE):TE:=fun σ H Q=>td σ H fun x H1=>∃ a,x=.ref a/\IsD H1 a/\ty σ H1 fun y H2=>tx σ H2 fun z H3=>∃ o,DGet H3 a y o/\Q (o.getD z) H3
noncomputable def tDPop2 (td ty tx:TE):TE:=fun σ H Q=>td σ H fun x H1=>∃ a,x=.ref a/\IsD H1 a/\ty σ H1 fun y H2=>tx σ H2 fun z H3=>∃ kvs k,H3 a=some (.dK kvs)/\y=kV k /\
  (∀ v,valV kvs k=some v->Q v (upd H3 a (.dK (dropK kvs k))))/\(valV kvs k=none->Q z H3)
section
variable {X:Cx} {o e f:Expr} {apos cpos:Pos} {td ty tx:TE}
theorem ZkJ (hu:X.A.units + 1 < cLine) (ho:PE X o td) (he:PE X e ty) (hf:PE X f tx) (m:M2 X o "get" apos e f cpos):PE X (.Call (.Attribute o "get" apos) [e,f] [] cpos) (tDGet2 td ty tx):=by
  intro pins s σ H Q I h
  refine wpAny_Call_method m.base m.few m.line PySem.F.plainAttrs_dict PySem.F.slot_dict_get PySem.F.type_dict_get (thn (ho pins s σ H _ I h) fun u s1 ⟨x,H1,I1,rx,a,ex,d,q1⟩=>?_)
  subst ex
  obtain rfl:u=Value.ref a:=rx
  obtain ⟨t1,t2,_⟩:=ZlT I1 d
  refine ⟨t1,t2,?_⟩
  rw [m.trees]
  refine Calls.callWith_builtin rfl (Calls.evalArgs_plain (Calls.spliced_cons (thn (he pins s1 σ H1 _ I1 q1) fun iv s2 ⟨y,H2,I2,ry,q2⟩ =>
    Calls.spliced_cons (thn (hf pins s2 σ H2 _ I2 q2) fun fv s3 ⟨z,H3,I3,rz,ov,g,q3⟩=>Calls.spliced_nil ?_))))
  exact d_get2 hu I3 g ry rz fun w' s4 I4 rw'=>⟨_,H3,I4,rw',q3⟩
theorem ZkK (ho:PE X o td) (he:PE X e ty) (hf:PE X f tx) (m:M2 X o "pop" apos e f cpos):PE X (.Call (.Attribute o "pop" apos) [e,f] [] cpos) (tDPop2 td ty tx):=by
  intro pins s σ H Q I h
  refine wpAny_Call_method m.base m.few m.line PySem.F.plainAttrs_dict PySem.F.slot_dict_pop PySem.F.type_dict_pop (thn (ho pins s σ H _ I h) fun u s1 ⟨x,H1,I1,rx,a,ex,d,q1⟩=>?_)
  subst ex
  obtain rfl:u=Value.ref a:=rx
  obtain ⟨t1,t2,_⟩:=ZlT I1 d
  refine ⟨t1,t2,?_⟩
  rw [m.trees]
  refine Calls.callWith_builtin rfl (Calls.evalArgs_plain (Calls.spliced_cons (thn (he pins s1 σ H1 _ I1 q1) fun iv s2 ⟨y,H2,I2,ry,q2⟩ =>
    Calls.spliced_cons (thn (hf pins s2 σ H2 _ I2 q2) fun fv s3 ⟨z,H3,I3,rz,kvs,k,ea,ey,q3,q4⟩=>Calls.spliced_nil ?_))))
  subst ey
  cases l:valV kvs k with
  | some v=>exact d_pop I3 ea ry l (.inr ⟨fv,rfl⟩) fun w' s4 I4 rw'=>⟨v,_,I4,rw',q3 v l⟩
  | none=>exact d_popD I3 ea ry l fun s4 I4=>⟨z,H3,I4,rz,q4 l⟩
end
section
variable {X:Cx} {pins:List (Addr × Obj)} {σ:St} {H:Hp} {s:Shared} {a:Addr} {kvs:List (Key × V)} {A:Around} {E:Value->Shared->Prop}
end
section
variable {X:Cx} {pins:List (Addr × Obj)} {σ:St} {H:Hp} {s:Shared} {a:Addr} {y:V} {u:Value} {A:Around} {E:Value->Shared->Prop}
end
end L2
namespace Att
open PySem PySem.W PySem.Calls PyProof.Rows
theorem ZdS {P:Params} {h:Heap}:∀ (ns:List Int) (vs:List Value),WellAll P h vs (ns.map WData.int)->IntsAre vs ns:=by
  intro ns
  induction ns with
  | nil =>
    intro vs w
    rw [List.map_nil] at w
    cases w
    exact .nil
  | cons n ns ih =>
    intro vs w
    rw [List.map_cons] at w
    cases w with
    | cons a b =>
      cases a
      exact .cons _ _ (ih _ b)
theorem ZfM {l:OpenLaw} {n:Nat} (hn:l.most=some n) {P:Params} {h:Heap} {args:List WData} {vals:List Value}
    (hpre:l.row.toRowW.claim.pre args=true) (hwl:WellAll P h vals args) :
    ∃ a vs ns,vals=[Value.ref a]/\args=[WData.list (ns.map WData.int)]/\h.get? a=some { cls:=.type "list", data:=.seq vs.toArray }/\IntsAre vs ns/\ns.length <= n:=by
  have hsh:WShape.hasAll [] args [.list .int]=true:=(pre_splitW hpre).1
  have hc:l.pre.holds [] { args:=args }=true:=(pre_splitW hpre).2
  obtain ⟨d,r,rfl,h1,h2⟩:=hasAllW_cons hsh
  obtain rfl:=hasAllW_nil h2
  obtain ⟨xs,rfl,h3⟩:=hasW_list h1
  obtain ⟨ns,rfl⟩:=items_int h3
  have hlen:ns.length <= n:=by
    unfold OpenLaw.pre at hc
    have h4:(WTm.not (.lt (.lit (.int (n:Int))) (.len (.arg 0)))).holds [] { args:=[.list (ns.map .int)] }=true:=by
      have h4:=(holds_andW hc).1
      rw [hn] at h4
      exact h4
    have h5:=condW_of h4 (w_not (w_lt w_lit (w_len_list (w_arg rfl))))
    rw [List.length_map] at h5
    refine Nat.le_of_not_lt fun q=>?_
    have q':(n:Int) < ((ns.length:Nat):Int):=by omega
    first
      | (rw [decide_eq_true q'] at h5; exact absurd h5 (by decide))
      | (simp at h5; omega)
  cases hwl with
  | cons w1 w2 =>
    cases w2
    cases w1 with
    | list ho hall=>exact ⟨_,_,ns,rfl,rfl,ho,ZdS ns _ hall,hlen⟩
theorem ZfN (l:OpenLaw) (args:List WData):l.row.toRowW.claim.post args (.bool true) args=true :=
  postW_of (r:=l.row.toRowW) (X:=(true == true))
    (show WShape.has [] (.bool true) .bool=true by first|rfl|decide|simp [WShape.has,WShape.arms,WShape.armsAll])
    (show (WTm.eq .res (.lit (.bool true))).value [] { args:=args,res:=some (.bool true),after:=args }=some (.bool (true == true)) from w_eq_bool (w_res rfl) w_lit) rfl
theorem attach {l:OpenLaw} {n:Nat} {q:Program} {loose:List Str} {XP:(Str->Option Value)->Heap->Prop} {YP:World->Heap->Prop} {d:DefRec} {x:Str}
    (hn:l.most=some n) (hdf:d.params.defaults=[])
    (hbind:∀ pm cd doc v:Value,bindArgs (docDef d.name d.params d.body d.scope pm cd doc) ⟨[v],[]⟩=pure [(x,v)])
    (hx:d.scope.names.lookup x=some .local\/d.scope.names.lookup x=some .cell)
    (hk:d.scope.kind=.function) (hco:d.scope.isCoroutine=false) (hgen:d.scope.isGenerator=false)
    (body:∀ (w:World) (s₀ s₁ s:Shared) (mg mb:Str->Option Value) (fa:Addr) (o:Obj) (pm cd doc:Value) (a:Addr) (vs:List Value) (ns:List Int),
      Ground q loose [] XP w s₀ mg mb s₁.heap->YP w s₁.heap ->
      s₁.heap.get? fa=some o->o.data=.func (docDef d.name d.params d.body d.scope pm cd doc)->s₁.heap.CodeRec cd d.name->mg d.name=some (.ref fa) ->
      s₁.heap.get? a=some { cls:=.type "list", data:=.seq vs.toArray }->IntsAre vs ns->ns.length <= n ->
      s.gens=#[]->s.os=s₁.os ->
      Fr s₁.heap s₁.heap.objs.size s.heap (bindL (envOfC d.name d.scope s₁.heap.objs.size fa cd).kindOf [(x,.ref a)] fun _=>none) ->
      Cl s₁.heap.objs.size (cellsFrom (s₁.heap.objs.size + 1) d.scope.names []) s.heap (bindC (envOfC d.name d.scope s₁.heap.objs.size fa cd).kindOf [(x,.ref a)] fun _=>none) ->
      wpAny (model l.prog w) (callerA.deeper (envOfC d.name d.scope s₁.heap.objs.size fa cd)) (execs d.body (envOfC d.name d.scope s₁.heap.objs.size fa cd))
        (fun f s'=>f=.ret (.bool true)/\OldK s₁.heap s'.heap/\s'.os=s₁.os/\AllBare s'.gens) (fun _ _=>False) s) :
    WalkO q loose XP YP l.row.toRowW d [] (fun f vs=>PySem.call f vs):=by
  intro w s₀ s₁ mg mb G Y fa o pm cd doc dV kV ho hd hcd hD hmg hg args vals as hpre hlay hrd hwl hlo
  obtain rfl:dV=.none:=Dflts.none hD hdf
  obtain rfl:kV=.none:=Dflts.noKw hD
  obtain ⟨a,vs,ns,rfl,rfl,hobj,hints,hlen⟩:=ZfM hn hpre hwl
  refine enter_call ?_
  refine call_cells_ret (o:=o) (by rw [depth_caller]; decide) ho (fd_plain hd) G.T.nolimit hcd (hbind pm cd doc (.ref a)) (fun y hy=>?_) (fun h₁ tk F X=>?_) hco hgen hk
  . obtain rfl:y=(x,Value.ref a):=List.mem_singleton.mp hy
    rcases hx with e|e
    . exact .inl e
    . exact .inr ⟨e,cellsFrom_some _ _ _ (.inl e)⟩
  . refine wpAny_mono (body w s₀ s₁ { s₁ with heap:=h₁,toks:=tk } mg mb fa o pm cd doc a vs ns G Y ho (fd_plain hd) hcd hmg hobj hints hlen hg rfl F X) (fun f s' hq=>?_) (fun _ _ hq=>hq)
    obtain ⟨rfl,h2,h3,h4⟩:=hq
    exact ⟨.inl ⟨.bool true,.bool true,[],rfl,fun _=>rfl,.bool true,ZfN l _,fun _=>⟨List.Pairwise.nil,fun _ hm=>(nomatch hm)⟩⟩,h2,h3,h4⟩
theorem ZgG {l:OpenLaw} {n:Nat} {q:Program} {loose:List Str} {XP:(Str->Option Value)->Heap->Prop} {YP:World->Heap->Prop} {d:DefRec}
    (hn:l.most=some n) (hdf:d.params.defaults=[])
    (call:∀ (w:World) (s₀ s₁:Shared) (mg mb:Str->Option Value) (fa:Addr) (o:Obj) (pm cd doc:Value) (a:Addr) (vs:List Value) (ns:List Int),
      Ground q loose [] XP w s₀ mg mb s₁.heap->YP w s₁.heap ->
      s₁.heap.get? fa=some o->o.data=.func (docDef d.name d.params d.body d.scope pm cd doc)->s₁.heap.CodeRec cd d.name->mg d.name=some (.ref fa) ->
      s₁.heap.get? a=some { cls:=.type "list", data:=.seq vs.toArray }->IntsAre vs ns->ns.length <= n->s₁.gens=#[] ->
      codeAny (model l.prog w) callerA (.call (.ref fa) ⟨[.ref a],[]⟩) (fun r s'=>r=.ok (.ret (.bool true))/\OldK s₁.heap s'.heap/\s'.os=s₁.os/\AllBare s'.gens) s₁) :
    WalkO q loose XP YP l.row.toRowW d [] (fun f vs=>PySem.call f vs):=by
  intro w s₀ s₁ mg mb G Y fa o pm cd doc dV kV ho hd hcd hD hmg hg args vals as hpre hlay hrd hwl hlo
  obtain rfl:dV=.none:=Dflts.none hD hdf
  obtain rfl:kV=.none:=Dflts.noKw hD
  obtain ⟨a,vs,ns,rfl,rfl,hobj,hints,hlen⟩:=ZfM hn hpre hwl
  refine enter_call (codeAny_mono (call w s₀ s₁ mg mb fa o pm cd doc a vs ns G Y ho (fd_plain hd) hcd hmg hobj hints hlen hg) fun r s' hq=>?_)
  obtain ⟨rfl,h2,h3,h4⟩:=hq
  exact ⟨.inl ⟨.bool true,.bool true,[],rfl,fun _=>rfl,.bool true,ZfN l _,fun _=>⟨List.Pairwise.nil,fun _ hm=>(nomatch hm)⟩⟩,h2,h3,h4⟩
section
variable {prog:Program} {w:World} {A:Around} {E:Value->Shared->Prop} {s:Shared} {K:Frag}
end
end Att
namespace L2
open PySem PySem.Spec PyProof.Rows
theorem ZfO:∀ {vs:List Value} {ns:List Int},IntsAre vs ns->Vals (ns.map V.int) vs
  | _,_,.nil=>.nil
  | _,_,.cons n t h=>.cons ⟨t,rfl⟩ (ZfO h)
noncomputable def Only (H:Hp):Prop:=∀ b,H b=none\/∃ o xs,H b=some (.frz o (.lst xs))
theorem ZkL {P:Program} {w:World} {K:PySem.W.Frag} {mg mb:Str->Option Value} {CX:CXT} {k:Nat} {fa a:Addr} {fd:FuncData} {x:Str} {sp:Sp} {s₁:Shared} {vs:List Value} {ns:List Int}
    (KX:K.In s₁.heap) (hns:s₁.heap.Ns mainGlobals mg) (hb:s₁.heap.Ns builtinsNs mb) (hbb:∀ x:Str,x ≠ "__name__" -> mb x=bootBuiltins x) (hlim:s₁.heap.NoLimit) (hg:s₁.gens=#[])
    (ha:s₁.heap.get? a=some { cls:=.type "list", data:=.seq vs.toArray }) (hi:IntsAre vs ns) (hl:ns.length <= sizeLine) (hr:Room k callerA)
    (F:∀ base:Heap,K.In base->base.Ns mainGlobals mg->FnOk P w K mg base CX k fa fd [x] sp) (hbind:∀ (s:Shared) (u:Value),BindsTo s fd ⟨[u],[]⟩ [(x,u)])
    (hsp:∀ H:Hp,Only H->SqL K H a (ns.map V.int)->sp [.ref a] H (fun v _=>v=.bl true) fun _ _ _=>False)
    (hCX:∀ H e s',CX [] H s₁ (fun _ _ _=>False) e s'->False) :
    codeAny (model P w) callerA (.call (.ref fa) ⟨[.ref a],[]⟩) (fun r s'=>r=.ok (.ret (.bool true))/\OldK s₁.heap s'.heap/\s'.os=s₁.os/\AllBare s'.gens) s₁:=by
  have rv:=ZfO hi
  have lenV:=hi.length
  have core:∀ H:Hp,Only H->SqL K H a (ns.map V.int)->HOk P w H s₁.heap->(∀ b,H b ≠ none->b=a)->(H a ≠ none->K.lookup a=none) ->
      codeAny (model P w) callerA (.call (.ref fa) ⟨[.ref a],[]⟩) (fun r s'=>r=.ok (.ret (.bool true))/\OldK s₁.heap s'.heap/\s'.os=s₁.os/\AllBare s'.gens) s₁:=by
    intro H hO hS hok hA hK
    have base_of:∀ {b:Addr} {o:Obj},s₁.heap.get? b=some o->H b=none->(hidT s₁.heap H).get? b=some o:=fun e n=>Zkt e n
    have noA:∀ {b:Addr} {o:Obj} {es:Array DictEntry} {ep:Nat},s₁.heap.get? b=some o->o.data=.dict es ep->H b=none:=fun {b o es ep} e d=>by
      cases q:H b with
      | none=>rfl
      | some u =>
        have e':b=a:=hA b (by rw [q]; simp)
        subst e'
        rw [ha] at e; cases e
        have d':Data.seq vs.toArray _=Data.dict es ep:=d
        cases d'
    have nsK:∀ {b:Addr} {m:Str->Option Value},s₁.heap.Ns b m->(hidT s₁.heap H).Ns b m:=fun {b m} ⟨o,es,ep,e,d,r⟩=>⟨o,es,ep,base_of e (noA e d),d,r⟩
    have hKb:K.In (hidT s₁.heap H):=fun b o e=>base_of (KX b o e) (by
      cases q:H b with
      | none=>rfl
      | some u =>
        have e':b=a:=hA b (by rw [q]; simp)
        subst e'
        rw [hK (by rw [q]; simp)] at e; cases e)
    have hM:Mod K mg (hidT s₁.heap H):=⟨hKb,nsK hns,⟨mb,nsK hb,hbb⟩,let ⟨mc,h1,h2⟩:=hlim; ⟨mc,nsK h1,h2⟩⟩
    have e0:Env0 P w K mg (hidT s₁.heap H) callerA [] s₁ H:=⟨rfl,hM,fun b o e=>Zl5 e,Nat.le_of_eq (ZiN _ _),trivial,fun b hb=>absurd (show b ∈ ([]:List Addr) from hb) (by simp),hok,.of_eq hg⟩
    refine codeAny_mono ((F _ hKb (nsK hns)).run callerA [] s₁ H ⟨[.ref a],[]⟩ [.ref a] [.ref a] _ _ hr e0 (hbind s₁ (.ref a)) (.cons rfl .nil) (hsp H hO hS)) fun r s' h=>?_
    cases r with
    | error e=>exact (hCX H e s' h).elim
    | ok fl =>
      cases fl with
      | next=>exact False.elim h
      | brk=>exact False.elim h
      | cont=>exact False.elim h
      | ret u =>
        obtain ⟨v,H',os,bare,un,hok',r',q⟩:=h
        have q':v=.bl true:=q
        subst q'
        obtain rfl:u=Value.bool true:=r'
        refine ⟨rfl,OldK.of_keep fun b o e=>?_,os,bare⟩
        cases q:H b with
        | none=>exact un.keep b o e q (by intro z; exact absurd (show b ∈ ([]:List Addr) from z) (by simp)) (by simp)
        | some u =>
          rcases hO b with z|⟨ob,xs,z⟩
          . rw [q] at z; cases z
          . have z2:=un.frzs b ob _ z
            obtain ⟨e1,_⟩:=hok b _ z
            obtain ⟨e2,_⟩:=hok' b _ z2
            rw [e] at e1; cases e1
            exact e2
  cases hk:K.lookup a with
  | some o =>
    have e:=KX a o hk
    rw [ha] at e
    cases e
    refine core (fun _=>none) (fun _=>.inl rfl) (.inr ⟨_,vs.toArray,_,hk,rfl,rfl,rfl,by rw [List.size_toArray,lenV]; exact hl,by simpa using rv⟩) (fun b u z=>by have z':(none:Option HO)=some u:=z; cases z') (fun b z=>absurd rfl z) fun z=>absurd rfl z
  | none =>
    refine core (fun b=>if b=a then some (.frz { cls:=.type "list", data:=.seq vs.toArray } (.lst (ns.map V.int))) else none) (fun b=>?_) (.inl (.inr ⟨{ cls:=.type "list", data:=.seq vs.toArray },if_pos rfl⟩)) (fun b u z=>?_) (fun b z=>?_) fun _=>hk
    . by_cases hb:b=a
      . exact .inr ⟨_,_,if_pos hb⟩
      . exact .inl (if_neg hb)
    . by_cases hb:b=a
      . have z':=(if_pos hb).symm.trans z
        cases z'
        subst hb
        exact ⟨ha,by rw [List.length_map]; exact hl,vs,_,rv,ha⟩
      . have z':=(if_neg hb).symm.trans z
        cases z'
    . by_cases hb:b=a
      . exact hb
      . exact absurd (if_neg hb) z
end L2
namespace L2
open PySem PySem.Spec PyProof.Rows
noncomputable abbrev KOf {K:PySem.W.Frag} {h:Heap} (_:K.In h):PySem.W.Frag:=K
theorem Zmo {l:PySem.W.OpenLaw} {n k:Nat} {q:Program} {loose:List Str} {XP:(Str->Option Value)->Heap->Prop} {YP:World->Heap->Prop} {d:DefRec} {K:Params->PySem.W.Frag} {CX:World->CXT} {sp:World->Sp} {x:Str}
    (hn:l.most=some n) (hn2:n <= sizeLine) (hdf:d.params.defaults=[]) (hr:Room k callerA)
    (hY:∀ (w:World) (h:Heap),YP w h->(K w.params).In h)
    (F:∀ (w:World) (mg:Str->Option Value) (fa:Addr) (h:Heap),(K w.params).In h->h.Ns mainGlobals mg->mg d.name=some (.ref fa) ->
      ∃ fd:FuncData,(∀ (s:Shared) (u:Value),BindsTo s fd ⟨[u],[]⟩ [(x,u)]) /\
        ∀ base:Heap,(K w.params).In base->base.Ns mainGlobals mg->FnOk l.prog w (K w.params) mg base (CX w) k fa fd [x] (sp w))
    (hsp:∀ (w:World) (H:Hp) (a:Addr) (ns:List Int),ns.length <= n->Only H->SqL (K w.params) H a (ns.map V.int)->sp w [.ref a] H (fun v _=>v=.bl true) fun _ _ _=>False)
    (hCX:∀ (w:World) (H:Hp) (s:Shared) (e:Value) (s':Shared),CX w [] H s (fun _ _ _=>False) e s'->False) :
    PySem.W.WalkO q loose XP YP l.row.toRowW d [] (fun f vs=>PySem.call f vs):=by
  refine Att.ZgG hn hdf fun w s₀ s₁ mg mb fa o pm cd doc a vs ns G Y ho hd hcd hmg hobj hints hlen hg=>?_
  have KX:=hY w _ Y
  obtain ⟨fd,hb,hF⟩:=F w mg fa _ KX G.T.g hmg
  exact ZkL KX G.T.g G.T.b G.T.builtins G.T.nolimit hg hobj hints (Nat.le_trans hlen hn2) hr hF hb (fun H hO hS=>hsp w H a ns hlen hO hS) fun H e s'=>hCX w H s₁ e s'
theorem ZkM {l:PySem.W.OpenLaw} {n k:Nat} {q:Program} {loose:List Str} {XP:(Str->Option Value)->Heap->Prop} {YP:World->Heap->Prop} {d:DefRec} {K:Params->PySem.W.Frag} {CX:CXT} {sp:PySem.W.Frag->Sp} {x:Str}
    (hn:l.most=some n) (hn2:n <= sizeLine) (hdf:d.params.defaults=[]) (hr:Room k callerA)
    (hY:∀ (w:World) (h:Heap),YP w h->(K w.params).In h)
    (F:∀ (w:World) (mg:Str->Option Value) (fa:Addr) (h:Heap),(K w.params).In h->h.Ns mainGlobals mg->mg d.name=some (.ref fa) ->
      ∃ fd:FuncData,(∀ (s:Shared) (u:Value),BindsTo s fd ⟨[u],[]⟩ [(x,u)]) /\
        ∀ base:Heap,(K w.params).In base->base.Ns mainGlobals mg->FnOk l.prog w (K w.params) mg base CX k fa fd [x] (sp (K w.params)))
    (hsp:∀ (K:PySem.W.Frag) (H:Hp) (a:Addr) (ns:List Int),ns.length <= n->Only H->SqL K H a (ns.map V.int)->sp K [.ref a] H (fun v _=>v=.bl true) fun _ _ _=>False)
    (hCX:∀ (H:Hp) (s:Shared) (e:Value) (s':Shared),CX [] H s (fun _ _ _=>False) e s'->False) :
    PySem.W.WalkO q loose XP YP l.row.toRowW d [] (fun f vs=>PySem.call f vs) :=
  Zmo (K:=K) (CX:=fun _=>CX) (sp:=fun w=>sp (K w.params)) hn hn2 hdf hr hY F (fun w H a ns h1 h2 h3=>hsp (K w.params) H a ns h1 h2 h3) fun _ H s e s'=>hCX H s e s'
end L2
namespace L2
open PySem PySem.Spec PyProof.Rows
noncomputable def ZaD (s:Stmt) (j:Nat):Stmt:=match s with
  | .ClassDef _ _ _ body _ _ _ _ _ _ _=>body.getD j (.Pass ⟨0,0,0,0⟩)
  | _=>.Pass ⟨0,0,0,0⟩
noncomputable def Zaw (s:Stmt):Arguments:=match s with
  | .FunctionDef _ a _ _ _ _ _ _ _ _=>a
  | _=>{ posonlyargs:=[],args:=[],vararg:=none,kwonlyargs:=[],kw_defaults:=[],kwarg:=none,defaults:=[] }
noncomputable def Zar (s:Stmt):List Stmt:=match s with
  | .FunctionDef _ _ b _ _ _ _ _ _ _=>b
  | _=>[]
noncomputable def Zab (s:Stmt):Scope:=match s with
  | .FunctionDef _ _ _ _ _ _ sc _ _ _=>sc
  | _=>{ kind:=.function,names:=[],isGenerator:=false,isCoroutine:=false }
noncomputable abbrev CX0:CXT:=fun _ _ _ _ _ _=>False
noncomputable abbrev E0:XK:=fun _ _ _=>False
theorem pass0 {X:Cx}:Zds CX0 X E0:=fun _ _ _ _ _ _ _ h=>h.elim
structure Fun (K:PySem.W.Frag) (x qual:Str) (st:Stmt) (f:Addr) (fd:FuncData):Prop where
  ex:∃ (oc:Value) (od:Option Addr) (kV doc pm:Value) (an:Option Addr) (cdv ct:Value) (osl:Array (Option Value)),
    fd=PySem.W.fnOf x qual (Zaw st) (Zar st) (Zab st) .none kV doc pm an cdv ct/\K.lookup f=some ⟨oc,od,.func fd,osl⟩/\PySem.W.codeIn K cdv qual=true
  kp:PySem.W.keepIn K (.ref f)=true
section
variable {P:Program} {w:World} {K:PySem.W.Frag} {mg:Str->Option Value} {base:Heap}
theorem Fun.ok {x qual:Str} {st:Stmt} {f:Addr} {fd:FuncData} {N ps:List Str} {k:Nat} {sp:Sp} (F:Fun K x qual st f fd) (S:FnScope N ps (Zab st)) (len:∀ vs H Q E,sp vs H Q E->vs.length=ps.length)
    (hbody:∀ (cdv:Value) (A:Around) (outer:List Env) (s:Shared) (H:Hp) (vs:List V) (Q:VK) (E:XK),Room k (A.deeper (envOfC qual (Zab st) s.heap.objs.size f cdv))->sp vs H Q E ->
      ∃ t,PSs (cxOf CX0 P w K mg base N qual (Zab st) f cdv A outer s H E).nox (Zar st) t/\t { nx:=fun _ H'=>Q .non H',rt:=Q } (start N vs) H):FnOk P w K mg base CX0 (k + 1) f fd ps sp:=by
  obtain ⟨oc,od,kV,doc,pm,an,cdv,ct,osl,rfl,lk,hcd⟩:=F.ex
  refine fn_of lk hcd S len fun A outer s H vs Q E hr hsp=>?_
  obtain ⟨t,h,q⟩:=hbody cdv A outer s H vs Q E hr hsp
  exact ⟨t,h.nox,q⟩
theorem Fun.binds {x qual:Str} {st:Stmt} {f:Addr} {fd:FuncData} {ps:List Str} (F:Fun K x qual st f fd)
    (h:∀ (kV doc pm:Value) (an:Option Addr) (cdv ct:Value) (us:List Value),us.length=ps.length->bindArgs (PySem.W.fnOf x qual (Zaw st) (Zar st) (Zab st) .none kV doc pm an cdv ct) ⟨us,[]⟩=pure (ps.zip us)):Binds K fd ps []:=by
  obtain ⟨oc,od,kV,doc,pm,an,cdv,ct,osl,rfl,lk,hcd⟩:=F.ex
  exact .all (h kV doc pm an cdv ct)
theorem ZlU {x qual:Str} {st:Stmt} {f:Addr} {oc:Value} {od an:Option Addr} {osl:Array (Option Value)} {kV doc pm cdv ct:Value} (l:K.lookup f=some ⟨oc,od,.func (PySem.W.fnOf x qual (Zaw st) (Zar st) (Zab st) .none kV doc pm an cdv ct),osl⟩)
    (c:PySem.W.codeIn K cdv qual=true) (k:PySem.W.keepIn K (.ref f)=true):Fun K x qual st f (PySem.W.fnOf x qual (Zaw st) (Zar st) (Zab st) .none kV doc pm an cdv ct):=⟨⟨oc,od,kV,doc,pm,an,cdv,ct,osl,rfl,l,c⟩,k⟩
end
theorem hu_of {A:Around} {k:Nat} (hr:Room k A):A.units + 1 < cLine:=Nat.lt_of_le_of_lt (Nat.add_le_add_left (by decide:1 <= 64) _) hr.units
section
variable {X:Cx}
theorem pv (i:Nat) {x:Str} {pos:Pos} (hN:X.N[i]?=some x:=by rfl) (hv:Vis X.env.scope x:=by first|exact Or.inl rfl|exact Or.inr (Or.inl rfl)|exact Or.inr (Or.inr rfl)) (hd:(x == ("__debug__" : Str))=false:=by decide)
    (hcd:(x == ("__classdict__" : Str))=false:=by decide):PE X (.Name x pos) (tVar i):=pe_var hN hv hd hcd
end
theorem iteF {A B:Prop} (h:B):if false=true then A else B:=by
  rw [if_neg Bool.false_ne_true]
  exact h
theorem iteT {A B:Prop} (h:A):if true=true then A else B:=by
  rw [if_pos rfl]
  exact h
noncomputable def Same (H H':Hp):Prop:=∀ b o,H b=some o->H' b=some o
theorem Same.refl (H:Hp):Same H H:=fun _ _ h=>h
theorem Same.trans {H H1 H2:Hp} (a:Same H H1) (b:Same H1 H2):Same H H2:=fun c o h=>b c o (a c o h)
theorem Same.free {H H':Hp} (e:Same H H') {l:Addr} (h:H' l=Option.none):H l=Option.none:=by
  cases q:H l with
  | none=>rfl
  | some o =>
    rw [e l o q] at h
    cases h
theorem Same.seq {K:PySem.W.Frag} {H H':Hp} {a:Addr} {xs:List V} (e:Same H H') (h:SqL K H a xs):SqL K H' a xs:=by
  rcases h with (h|⟨o,h⟩)|h
  . exact .inl (.inl (e _ _ h))
  . exact .inl (.inr ⟨o,e _ _ h⟩)
  . exact .inr h
section
variable {κ:Type} [DecidableEq κ]
theorem ZhM {kvs:List (κ × V)} {k:κ} (h:valV kvs k=none):¬ k ∈ kvs.map (·.1):=by
  intro m
  obtain ⟨p,hp,e⟩:=List.mem_map.mp m
  have q:(kvs.any fun kv=>decide (kv.1=k))=true:=List.any_eq_true.mpr ⟨p,hp,decide_eq_true e⟩
  rw [Zb0,h] at q
  exact absurd q (by simp)
theorem Zjb:∀ {l:List κ} {k:κ},l.Nodup->¬ k ∈ l->(l ++ [k]).Nodup
  | [],k,_,_=>by simp
  | a :: r,k,h,hk=>by
    obtain ⟨h1,h2⟩:=List.nodup_cons.mp h
    show (a :: (r ++ [k])).Nodup
    refine List.nodup_cons.mpr ⟨fun m=>?_,Zjb h2 fun m=>hk (List.mem_cons.mpr (Or.inr m))⟩
    rcases List.mem_append.mp m with q|q
    . exact h1 q
    . exact hk (List.mem_cons.mpr (Or.inl (List.mem_singleton.mp q).symm))
theorem Zmp {kvs:List (κ × V)} {k:κ} (v:V) (hn:(kvs.map (·.1)).Nodup) (h:valV kvs k=none):((putK kvs k v).map (·.1)).Nodup:=by
  rw [ZkF v h,List.map_append]
  exact Zjb hn (ZhM h)
theorem ZfP {p:κ × V} {r:List (κ × V)} {k:κ} (e:p.1=k):dropK (p :: r) k=dropK r k:=by
  unfold dropK
  rw [List.filter_cons,if_neg (by simp [e])]
theorem ZfQ {p:κ × V} {r:List (κ × V)} {k:κ} (e:¬ p.1=k):dropK (p :: r) k=p :: dropK r k:=by
  unfold dropK
  rw [List.filter_cons,if_pos (by simp [e])]
theorem ZfR {kvs:List (κ × V)} {k:κ} {p:κ × V} (h:p ∈ dropK kvs k):p ∈ kvs:=(List.mem_filter.mp h).1
theorem ZeP:∀ {kvs:List (κ × V)} {k:κ},(kvs.map (·.1)).Nodup->((dropK kvs k).map (·.1)).Nodup
  | [],_,_=>List.nodup_nil
  | p :: r,k,h=>by
    have h:(p.1 :: r.map (·.1)).Nodup:=h
    obtain ⟨h1,h2⟩:=List.nodup_cons.mp h
    by_cases e:p.1=k
    . rw [ZfP e]
      exact ZeP h2
    . rw [ZfQ e]
      show (p.1 :: (dropK r k).map (·.1)).Nodup
      refine List.nodup_cons.mpr ⟨fun m=>h1 ?_,ZeP h2⟩
      obtain ⟨q,hq,eq⟩:=List.mem_map.mp m
      exact List.mem_map.mpr ⟨q,ZfR hq,eq⟩
end
end L2
namespace L2
open PySem PySem.Spec PyProof.Rows
noncomputable def hid (own:List Str) (x:Str):Str:=if own.contains x=true then "" else x
structure CompScope (sc:Scope) (N own:List Str) (scope:Scope):Prop where
  kind:scope.kind=.function
  nocell:∀ y ∈ scope.names,y.2 ≠ .cell
  names:∀ y ∈ scope.names,y.2=.local->scope.names.lookup y.1=some .local
  free:∀ y ∈ scope.names,y.2=.free->sc.names.lookup y.1=some .cell\/sc.names.lookup y.1=some .free
  dis:∀ x ∈ N,scope.names.lookup x=some .local->own.contains x=true
  no:scope.names.lookup ("" : Str)=none
noncomputable def cxComp (X:Cx) (own:List Str) (scope:Scope) (cl:List (Str × Addr)) (C:Addr) (s:Shared) (H:Hp) (ex:List Addr):Cx :=
  { X with N:=own ++ X.N.map (hid own),s₀:=s,H₀:=H,env:=compEnvC scope cl C X.env,outer:=X.stack,stack:=X.stack,ex:=ex,fn:=fun _=>false,pn:=[],xe:=fun _ _=>False }
theorem ZcS {κ:Type} [BEq κ] [LawfulBEq κ] {β:Type}:∀ {l:List (κ × β)} {x:κ} {v:β},l.lookup x=some v->(x,v) ∈ l
  | [],_,_,h=>by simp at h
  | (y,u) :: r,x,v,h=>by
    rw [List.lookup_cons] at h
    cases e:x == y with
    | true =>
      rw [e] at h
      cases h
      rw [eq_of_beq e]
      exact List.mem_cons_self
    | false =>
      rw [e] at h
      exact List.mem_cons_of_mem _ (ZcS h)
theorem Zim {scope:Scope} {env:Env} (h:∀ y ∈ scope.names,y.2=.free->∃ c,env.cells.lookup y.1=some c) :
    ∃ cl,closureFor scope env=pure cl/\(∀ x c,cl.lookup x=some c->env.cells.lookup x=some c)/\∀ y ∈ scope.names,y.2=.free->∃ c,cl.lookup y.1=some c:=by
  have gen:∀ (names:List (Str × NameKind)) (acc:List (Str × Addr)),(∀ y ∈ names,y.2=.free->∃ c,env.cells.lookup y.1=some c)->(∀ x c,acc.lookup x=some c->env.cells.lookup x=some c) ->
      ∃ cl,(forIn names acc fun (x:Str × NameKind) (r:List (Str × Addr))=>if (x.2 == NameKind.free)=true then (do let a <- cellOf env x.1; pure (ForInStep.yield ((x.1,a) :: r))) else pure (ForInStep.yield r):Sem (List (Str × Addr)))=pure cl/\(∀ x c,cl.lookup x=some c->env.cells.lookup x=some c) /\
        (∀ y ∈ names,y.2=.free->∃ c,cl.lookup y.1=some c)/\∀ x c,acc.lookup x=some c->∃ c',cl.lookup x=some c':=by
    intro names
    induction names with
    | nil=>intro acc _ ha; exact ⟨acc,by simp [List.forIn_nil],ha,fun y hy=>by simp at hy,fun x c e=>⟨c,e⟩⟩
    | cons y r ih =>
      intro acc hn ha
      rw [List.forIn_cons]
      by_cases hf:y.2=.free
      . obtain ⟨c,hc⟩:=hn y List.mem_cons_self hf
        have e1:(y.2 == NameKind.free)=true:=by rw [hf]; rfl
        have ce:cellOf env y.1=pure c:=by unfold cellOf; rw [hc]
        obtain ⟨cl,h1,h2,h3,h4⟩:=ih ((y.1,c) :: acc) (fun z hz=>hn z (List.mem_cons_of_mem _ hz)) (fun x c' e=>by
          rw [List.lookup_cons] at e
          cases q:x == y.1 with
          | true=>rw [q] at e; cases e; rw [eq_of_beq q]; exact hc
          | false=>rw [q] at e; exact ha x c' e)
        refine ⟨cl,?_,h2,?_,?_⟩
        . rw [if_pos e1,ce]
          simpa using h1
        . intro z hz zf
          rcases List.mem_cons.mp hz with rfl|hz
          . exact h4 z.1 c (by rw [List.lookup_cons]; simp)
          . exact h3 z hz zf
        . intro x c' e
          cases q:x == y.1 with
          | true=>exact h4 x c (by rw [List.lookup_cons,q])
          | false=>exact h4 x c' (by rw [List.lookup_cons,q]; exact e)
      . have e1:¬ (y.2 == NameKind.free)=true:=by intro z; exact hf (by simpa using z)
        obtain ⟨cl,h1,h2,h3,h4⟩:=ih acc (fun z hz=>hn z (List.mem_cons_of_mem _ hz)) ha
        refine ⟨cl,?_,h2,?_,h4⟩
        . rw [if_neg e1]
          simpa using h1
        . intro z hz zf
          rcases List.mem_cons.mp hz with rfl|hz
          . exact absurd zf hf
          . exact h3 z hz zf
  obtain ⟨cl,h1,h2,h3,_⟩:=gen scope.names [] h (fun x c e=>by simp at e)
  refine ⟨cl,?_,h2,h3⟩
  unfold closureFor
  simpa using h1
theorem Zb1 {scope:Scope} {env:Env}:∀ {names:List (Str × NameKind)} {x:Str},(∀ y ∈ names,y.2 ≠ .cell) ->
    (names.map fun (n,k)=>if (k == NameKind.free && env.scope.kind == .function && env.kindOf n == some .cell)=true then (n,NameKind.cell) else (n,k)).lookup x=some .local->names.lookup x=some .local
  | [],_,_,h=>by simp at h
  | (n,k) :: r,x,hc,h=>by
    rw [List.map_cons,List.lookup_cons] at h
    rw [List.lookup_cons]
    by_cases q:(k == NameKind.free && env.scope.kind == .function && env.kindOf n == some .cell)=true
    . simp only [q,if_true] at h
      cases e:x == n with
      | true=>rw [e] at h; cases h
      | false=>rw [e] at h; exact Zb1 (scope:=scope) (env:=env) (fun y hy=>hc y (List.mem_cons_of_mem _ hy)) h
    . simp only [q] at h
      cases e:x == n with
      | true=>simpa [e] using h
      | false =>
        have h':(r.map fun (n,k)=>if (k == NameKind.free && env.scope.kind == .function && env.kindOf n == some .cell)=true then (n,NameKind.cell) else (n,k)).lookup x=some .local:=by simpa [e] using h
        exact Zb1 (scope:=scope) (env:=env) (fun y hy=>hc y (List.mem_cons_of_mem _ hy)) h'
theorem Zb2 {scope:Scope} {env:Env}:∀ {names:List (Str × NameKind)} {x:Str},(∀ y ∈ names,y.2 ≠ .cell) ->
    ((names.map fun (n,k)=>if (k == NameKind.free && env.scope.kind == .function && env.kindOf n == some .cell)=true then (n,NameKind.cell) else (n,k)).lookup x=some .cell \/
     (names.map fun (n,k)=>if (k == NameKind.free && env.scope.kind == .function && env.kindOf n == some .cell)=true then (n,NameKind.cell) else (n,k)).lookup x=some .free)->(x,NameKind.free) ∈ names
  | [],_,_,h=>by simp at h
  | (n,k) :: r,x,hc,h=>by
    rw [List.map_cons,List.lookup_cons] at h
    by_cases q:(k == NameKind.free && env.scope.kind == .function && env.kindOf n == some .cell)=true
    . have kf:k=.free:=by
        simp only [Bool.and_eq_true,beq_iff_eq] at q
        exact q.1.1
      simp only [q,if_true] at h
      cases e:x == n with
      | true=>rw [eq_of_beq e,kf]; exact List.mem_cons_self
      | false =>
        rw [e] at h
        exact List.mem_cons_of_mem _ (Zb2 (scope:=scope) (env:=env) (fun y hy=>hc y (List.mem_cons_of_mem _ hy)) h)
    . simp only [q] at h
      cases e:x == n with
      | true =>
        have h':k=.cell\/k=.free:=by simpa [e] using h
        rcases h' with z|z
        . exact absurd z (hc (n,k) List.mem_cons_self)
        . rw [eq_of_beq e,z]; exact List.mem_cons_self
      | false =>
        have h':((r.map fun (n,k)=>if (k == NameKind.free && env.scope.kind == .function && env.kindOf n == some .cell)=true then (n,NameKind.cell) else (n,k)).lookup x=some .cell \/
     (r.map fun (n,k)=>if (k == NameKind.free && env.scope.kind == .function && env.kindOf n == some .cell)=true then (n,NameKind.cell) else (n,k)).lookup x=some .free):=by simpa [e] using h
        exact List.mem_cons_of_mem _ (Zb2 (scope:=scope) (env:=env) (fun y hy=>hc y (List.mem_cons_of_mem _ hy)) h')
theorem Zcf {env:Env}:∀ {names:List (Str × NameKind)} {x:Str},names.lookup x=none ->
    (names.map fun (n,k)=>if (k == NameKind.free && env.scope.kind == .function && env.kindOf n == some .cell)=true then (n,NameKind.cell) else (n,k)).lookup x=none
  | [],_,_=>rfl
  | (n,k) :: r,x,h=>by
    rw [List.lookup_cons] at h
    rw [List.map_cons,List.lookup_cons]
    cases e:x == n with
    | true=>rw [e] at h; cases h
    | false =>
      rw [e] at h
      by_cases q:(k == NameKind.free && env.scope.kind == .function && env.kindOf n == some .cell)=true
      . simp only [q,if_true,e]
        exact Zcf h
      . simp only [q,e]
        simpa [e] using Zcf (env:=env) h
theorem Inv.block {X:Cx} {pins:List (Addr × Obj)} {σ:St} {H:Hp} {s:Shared} {own:List Str} {scope:Scope} {cl:List (Str × Addr)} {fp:List Addr} {h':Heap}
    (I:Inv X pins σ H s) (S:CompScope X.env.scope X.N own scope)
    (c1:∀ x c,cl.lookup x=some c->X.env.cells.lookup x=some c) (c2:∀ y ∈ scope.names,y.2=.free->∃ c,cl.lookup y.1=some c)
    (f:∀ b ∈ fp,FpOk X pins H b) (fo:∀ b ∈ fp,b < s.heap.objs.size)
    (ns:h'.Ns s.heap.objs.size (fun _=>none)) (k:∀ b o,s.heap.get? b=some o->h'.get? b=some o) {t':Nat} :
    Inv (cxComp X own scope cl s.heap.objs.size s H fp) [] (List.replicate own.length none ++ σ) H { s with heap:=h',toks:=t' }:=by
  have kd:∀ x,(compEnvC scope cl s.heap.objs.size X.env).kindOf x=some .cell\/(compEnvC scope cl s.heap.objs.size X.env).kindOf x=some .free->(x,NameKind.free) ∈ scope.names:=fun x h=>Zb2 (scope:=scope) (env:=X.env) S.nocell h
  have okY:(cxComp X own scope cl s.heap.objs.size s H fp).Ok:=by
    refine ⟨I.ok.mod,S.kind,I.ok.glob,I.ok.blt,Nat.le_refl _,fun x y c hx hy=>I.ok.inj x y c (c1 x c hx) (c1 y c hy),fun x hx=>?_,fun x c hf=>(nomatch hf),I.ok.hd,I.ok.frames,.inl rfl,fun b hb=>⟨?_,fun x c hc=>?_⟩,I.bs,Nat.le_trans I.ok.bsz I.sz,fun b o e hb=>?_,fun b hb hfs=>?_,I.stack,I.stkFree⟩
    . exact c2 (x,.free) (kd x hx) rfl
    . exact Nat.ne_of_lt (fo b hb)
    . exact (f b hb).2.2.2.2.1 x c (c1 x c hc)
    . rcases (f b hb).2.2.2.1 with z|z
      . exact I.ok.noex b o e z
      . exact absurd (Nat.lt_of_lt_of_le (Heap.lt_size e) (Nat.le_trans I.ok.bsz z)) (Nat.lt_irrefl _)
    . obtain ⟨_,f1,f2,_⟩:=f b hb
      rcases List.mem_cons.mp (I.stkSub b hfs) with z|z
      . exact f1 z
      . exact f2 z
  refine ⟨okY,rfl,I.bare,Un.kept k,⟨_,ns,fun i x v e1 e2 e3=>?_⟩,fun x c hc=>?_,I.hok.fresh (Nat.le_refl _),fun x c hc=>I.freeC x c (c1 x c hc),fun p hp=>by simp [cxComp] at hp,I.hok.kept k,?_⟩
  . by_cases hi:i < own.length
    . have e2':(List.replicate own.length (none:Option V) ++ σ)[i]?=some (some v):=e2
      rw [List.getElem?_append_left (by simpa using hi),List.getElem?_replicate,if_pos hi] at e2'
      cases e2'
    . have hle:own.length <= i:=Nat.le_of_not_lt hi
      have e2':σ[i - own.length]?=some (some v):=by
        have e2':(List.replicate own.length (none:Option V) ++ σ)[i]?=some (some v):=e2
        rw [List.getElem?_append_right (by simpa using hle)] at e2'
        simpa using e2'
      have e1'':(X.N.map (hid own))[i - own.length]?=some x:=by
        have e1':(own ++ X.N.map (hid own))[i]?=some x:=e1
        rwa [List.getElem?_append_right hle] at e1'
      rw [List.getElem?_map] at e1''
      obtain ⟨y,e1',ey⟩:=Option.map_eq_some_iff.mp e1''
      have hy:own.contains y=false:=by
        cases hc:own.contains y with
        | false=>rfl
        | true =>
          unfold hid at ey
          rw [if_pos hc] at ey
          subst ey
          have e3':(scope.names.map fun (n,k)=>if (k == NameKind.free && X.env.scope.kind == .function && X.env.kindOf n == some .cell)=true then (n,NameKind.cell) else (n,k)).lookup ("" : Str) ≠ none:=by
            rcases e3 with z|z|z <;> (intro q; have z':(scope.names.map fun (n,k)=>if (k == NameKind.free && X.env.scope.kind == .function && X.env.kindOf n == some .cell)=true then (n,NameKind.cell) else (n,k)).lookup ("" : Str)=_:=z; rw [q] at z'; cases z')
          exact absurd (Zcf S.no) e3'
      have exy:y=x:=by
        unfold hid at ey
        rw [if_neg (by rw [hy]; exact Bool.false_ne_true)] at ey
        exact ey
      subst exy
      have hm:y ∈ X.N:=List.mem_of_getElem? e1'
      have h3:(compEnvC scope cl s.heap.objs.size X.env).kindOf y=some .cell\/(compEnvC scope cl s.heap.objs.size X.env).kindOf y=some .free:=by
        rcases e3 with z|z
        . have:=S.dis y hm (Zb1 (scope:=scope) (env:=X.env) S.nocell z)
          rw [hy] at this
          cases this
        . exact z
      have hfree:=kd y h3
      obtain ⟨c,hc⟩:=c2 (y,.free) hfree rfl
      have hout:=S.free (y,.free) hfree rfl
      obtain ⟨m,hn,hl⟩:=I.loc
      obtain ⟨u,r,l⟩:=hl _ y v e1' e2' (hout.elim (fun z=>.inr (.inl z)) (fun z=>.inr (.inr z)))
      refine ⟨u,r,.inr ⟨h3,c,hc,?_⟩⟩
      rcases l with ⟨kl,_⟩|⟨_,c',hc',hcell⟩
      . rcases hout with z|z
        . rw [show X.env.kindOf y=X.env.scope.names.lookup y from rfl,z] at kl; cases kl
        . rw [show X.env.kindOf y=X.env.scope.names.lookup y from rfl,z] at kl; cases kl
      . rw [c1 y c hc] at hc'
        cases hc'
        obtain ⟨o,ho,hd⟩:=hcell
        exact ⟨o,k c o ho,hd⟩
  . obtain ⟨v,o,ho,hd⟩:=I.cell x c (c1 x c hc)
    exact ⟨v,o,k c o ho,hd⟩
  . show (List.replicate own.length (none:Option V) ++ σ).length=(own ++ X.N.map (hid own)).length
    rw [List.length_append,List.length_append,List.length_replicate,List.length_map,I.len]
noncomputable def PIf (X:Cx) (ifs:List Expr) (tc:TT):Prop :=
  ∀ (pins:List (Addr × Obj)) (s:Shared) (σ:St) (H:Hp) (Q:Bool->Hp->Prop),Inv X pins σ H s->tc σ H Q ->
    wpAny (model X.prog X.w) X.A (forIn ifs true fun c r=>if r=true then do let ok <- isTrue c X.env (eval c X.env); pure (ForInStep.yield ok) else pure (ForInStep.yield r)) (TP X pins σ Q) X.xe s
noncomputable def tNoIf:TT:=fun _ H Q=>Q true H
theorem ZgH {X:Cx}:PIf X [] tNoIf:=by
  intro pins s σ H Q I h
  rw [List.forIn_nil]
  exact wpAny_pure ⟨H,I,h⟩
noncomputable def tLoopC (k:Nat) (g:TG) (tc:TT) (te:TE) (J:It) (p:Addr) (R:Hp->Prop) (σ:St) (H:Hp):Prop :=
  ∃ W:Nat->Nat->St->Hp->Prop,(∃ m,W 0 m (List.replicate k none ++ σ) (upd H p (.lst [])))/\∀ i m σ' H',W i m σ' H' ->
    (J.stop i H'/\R H')\/(J.go i H'/\∃ N:St->Hp->Prop,(∀ σ2 H2,N σ2 H2->∃ m',m' < m/\W (i + 1) m' σ2 H2)/\∀ x H1,J.yld i H' x H1->g x σ' H1 fun σ2 H2=>tc σ2 H2 fun b H3 =>
      if b=true then te σ2 H3 fun v H4=>∃ ys,H4 p=some (.lst ys)/\ys.length < sizeLine/\N σ2 (upd H4 p (.lst (ys ++ [v]))) else N σ2 H3)
noncomputable def tComp (k:Nat) (wi:TI) (g:TG) (tc:TT) (te:TE):TE:=fun σ H Q=>wi σ H fun J H1=>∀ p,H1 p=none->tLoopC k g tc te J p (fun H'=>Q (.ref p) H') σ H1
theorem ZfS {X:Cx} {tg elt iter:Expr} {ifs:List Expr} {scope:Scope} {pos:Pos} {own:List Str} {wi:TI} {g:TG} {tc:TT} {te:TE} {pins:List (Addr × Obj)} {σ:St} {H:Hp} {s:Shared} {use:Option (Value->Sem Unit)} {Q:Value->Shared->Prop} {R:Addr->Hp->Prop}
    (hc:X.calm=true) (S:CompScope X.env.scope X.N own scope) (hi:PI X tg iter wi)
    (hg:∀ cl C s₀ H₀ ex,PG (cxComp X own scope cl C s₀ H₀ ex) tg g) (ht:∀ cl C s₀ H₀ ex,PIf (cxComp X own scope cl C s₀ H₀ ex) ifs tc) (he:∀ cl C s₀ H₀ ex,PE (cxComp X own scope cl C s₀ H₀ ex) elt te)
    (hs:∀ x,foldedSetIterable iter X.env x=pure x)
    (I:Inv X pins σ H s) (h:wi σ H fun J H1=>∀ p,H1 p=none->tLoopC own.length g tc te J p (R p) σ H1)
    (fin:∀ (p:Addr) (H':Hp) (s':Shared) (C:Addr) (m:Str->Option Value),Inv X pins σ H' s'->FpOk X pins H' C->s'.heap.Ns C m->R p H'->compPost (model X.prog X.w) X.A X.xe use Q (.ref p) C (.ok .next) s') :
    wpAny (model X.prog X.w) X.A (comprehension (.ListComp elt [⟨tg,iter,ifs,0⟩] scope pos) scope X.env (firstIterPos [⟨tg,iter,ifs,0⟩] pos) (newList []) false (eval iter X.env) use) Q X.xe s:=by
  obtain ⟨cl,hcl,c1,c2⟩:=Zim (scope:=scope) (env:=X.env) fun y hy hf=>I.ok.has y.1 (S.free y hy hf)
  refine wpAny_comprehension_free (use:=use) rfl hs hcl S.kind S.names (thn (hi pins s σ H _ I h) fun xv s1 h1=>thn h1 fun itv s2 h2=>?_)
  obtain ⟨it,fp,tn,J,H2,e,I2,T,st2,f2,q2⟩:=h2
  subst e
  refine wpAny_newObj_type ?_
  have hp:H2 s2.heap.objs.size=none:=I2.hok.fresh (Nat.le_refl _)
  obtain ⟨W,⟨m0,w0⟩,turn⟩:=q2 _ hp
  generalize hP:s2.heap.objs.size=P at hp W w0 turn |-
  have kP:∀ b u,s2.heap.get? b=some u->(s2.heap.push { cls:=.type "list", dict:=none,data:=.seq ([]:List Value).toArray }).get? b=some u:=fun b u e=>Heap.get?_push_of_some _ e
  have I3:Inv X pins σ (upd H2 P (.lst [])) { s2 with heap:=s2.heap.push { cls:=.type "list", dict:=none,data:=.seq ([]:List Value).toArray },toks:=s2.toks } :=
    I2.laid (a:=P) (o:=.lst []) (t':=s2.toks) kP (by rw [hP]; exact Nat.le_refl _) ⟨Nat.zero_le _,[],0,.nil,by rw [<- hP]; exact Heap.get?_push_size _ rfl⟩
  have fP:∀ b ∈ fp,b ≠ P:=fun b hb z=>by
    obtain ⟨o,ho,_⟩:=T.obj _ _ st2 b hb
    have q:=Heap.lt_size ho
    rw [hP,z] at q
    exact Nat.lt_irrefl _ q
  have f3:∀ b ∈ fp,FpOk X pins (upd H2 P (.lst [])) b:=fun b hb=>⟨by rw [Zai (fP b hb)]; exact (f2 b hb).1,(f2 b hb).2⟩
  have st3:tn 0 (s2.heap.push { cls:=.type "list", dict:=none,data:=.seq ([]:List Value).toArray }):=T.keep _ _ _ st2 fun b _ o e=>kP b o e
  generalize hS3:({ s2 with heap:=s2.heap.push { cls:=.type "list", dict:=none,data:=.seq ([]:List Value).toArray },toks:=s2.toks }:Shared)=s3 at I3
  have st3':tn 0 s3.heap:=by rw [<- hS3]; exact st3
  have fo:∀ b ∈ fp,b < s3.heap.objs.size:=fun b hb=>by
    obtain ⟨o,ho,_⟩:=T.obj _ _ st3' b hb
    exact Heap.lt_size ho
  refine wpAny_newFunctionEnv S.nocell (by intro y hy; simp at hy) (fun h4 hns hsb=>?_) S.kind
  try dsimp only at hns hsb |-
  have k4:∀ b o,s3.heap.get? b=some o->h4.get? b=some o:=fun b o e=>hsb.extBut b o (Nat.ne_of_lt (Heap.lt_size e)) (Heap.get?_push_of_some _ e)
  have I4:=Inv.block (own:=own) (h':=h4) (t':=s3.toks + ([]:List (Str × Value)).length) I3 S c1 c2 f3 fo (by simpa using hns) k4
  have fpY:∀ {H':Hp},(∀ b ∈ fp,H' b=none)->∀ b ∈ fp,FpOk (cxComp X own scope cl s3.heap.objs.size s3 (upd H2 P (.lst [])) fp) [] H' b:=fun hn b hb=>by
    refine ⟨hn b hb,Nat.ne_of_lt (fo b hb),?_,.inl hb,fun x c hx=>(f3 b hb).2.2.2.2.1 x c (c1 x c hx),fun p hp=>by simp [cxComp] at hp⟩
    intro hfs
    rcases List.mem_cons.mp (I3.stkSub b hfs) with z|z
    . exact (f3 b hb).2.1 z
    . exact (f3 b hb).2.2.1 z
  have loop:codeAny (model X.prog X.w) X.A (.compLoop (.ListComp elt [⟨tg,iter,ifs,0⟩] scope pos) 0 (.ref it) (.ref P) (compEnvC scope cl s3.heap.objs.size X.env)) (compPost (model X.prog X.w) X.A X.xe use Q (.ref P) s3.heap.objs.size) { s3 with heap:=h4,toks:=s3.toks + ([]:List (Str × Value)).length }:=by
    refine codeAny_loop rfl (fun n s'=>∃ i σ' H',Inv (cxComp X own scope cl s3.heap.objs.size s3 (upd H2 P (.lst [])) fp) [] σ' H' s'/\tn i s'.heap/\(∀ b ∈ fp,H' b=none)/\W i n σ' H') ?_ m0 ⟨0,_,_,I4,T.keep _ _ _ st3' fun b _ o e=>k4 b o e,fun b hb=>(f3 b hb).1,w0⟩
    rintro n s5 ⟨i,σ5,H5,I5,st5,fr5,w5⟩
    show wpAny _ _ ((compTurn (.ListComp elt [⟨tg,iter,ifs,0⟩] scope pos) 0 (.ref it) (.ref P) (compEnvC scope cl s3.heap.objs.size X.env)).onRaise (fun x=>do noteFrame x (compEnvC scope cl s3.heap.objs.size X.env); theTreesLotGoes x)) _ _ s5
    refine wpAny_noted ?_
    rw [compTurn_list]
    have nE:∀ {α:Type} {t:Sem α} {QQ:α->Shared->Prop} {E':Value->Shared->Prop} {ss:Shared},wpAny (model X.prog X.w) X.A t QQ (fun _ _=>False) ss->wpAny (model X.prog X.w) X.A t QQ E' ss:=fun h=>wpAny_mono h (fun _ _ q=>q) fun _ _ z=>z.elim
    refine wpAny_bind (wpAny_standAt (wpAny_bind ?_))
    rcases turn i n σ5 H5 w5 with ⟨stop,qn⟩|⟨go,N,hN,step⟩
    . refine thn (T.done (cxComp X own scope cl s3.heap.objs.size s3 (upd H2 P (.lst [])) fp) rfl rfl rfl hc i [] s5 σ5 H5 _ I5 (fpY fr5) st5 stop) fun r s6 ⟨hr,I6⟩=>?_
      subst hr
      refine wpAny_pure ?_
      have back:∀ h',Heap.SameBut s3.heap.objs.size s6.heap h'->Inv X pins σ H5 { s6 with heap:=h' }:=fun h' sb=>by
        have nC:∀ b o,s3.heap.get? b=some o->b ≠ s3.heap.objs.size:=fun b o e=>Nat.ne_of_lt (Heap.lt_size e)
        have nH:∀ b u,H5 b=some u->b ≠ s3.heap.objs.size:=fun b u e z=>by
          have:H5 s3.heap.objs.size=none:=I6.free
          rw [z,this] at e; cases e
        refine I3.call' (s':={ s6 with heap:=h' }) (ch:=fp) I6.os ⟨fun b o e n hb hx=>?_,fun b o e n hb hx=>?_,I6.base.free,fun b o e hx=>?_,I6.base.tups,I6.base.frzs,I6.base.tbls⟩ ?_ I6.bare fun b hb=>?_
        . exact (sb.2 b (nC b o e)).trans (I6.base.keep b o e n hb hx)
        . obtain ⟨sl,z⟩:=I6.base.slot b o e n hb hx
          exact ⟨sl,(sb.2 b (nC b o e)).trans z⟩
        . obtain ⟨o',z⟩:=I6.base.there b o e hx
          exact ⟨o',(sb.2 b (nC b o e)).trans z⟩
        . intro b u e
          refine (I6.hok b u e).stay (fun c v hc q=>(sb.2 c ?_).trans q) (fun _ q=>q) fun _ _ q=>q
          rcases hc with z|z
          . rw [z]; exact nH b u e
          . exact nH c _ z
        . obtain ⟨_,g1,g2,g3,g4,g5⟩:=f3 b hb
          exact ⟨g3,g1,g4,g5⟩
      obtain ⟨m,hn,_⟩:=I6.loc
      exact fin P H5 s6 s3.heap.objs.size m (back s6.heap (.refl ..)) (I3.fpOk (Nat.le_refl _) I6.free) hn qn
    . refine thn (T.item (cxComp X own scope cl s3.heap.objs.size s3 (upd H2 P (.lst [])) fp) rfl rfl rfl hc i [] s5 σ5 H5 _ I5 (fpY fr5) st5 go) fun r s6 ⟨u,hr,h6⟩=>?_
      subst hr
      refine wpAny_bind (thn h6 fun _ s7 ⟨x,H7,I7,r7,y7,st7,fr7⟩=>?_)
      have I7':=I7.pinned (fpY fr7) (T.obj _ _ st7)
      refine wpAny_bind (nE (thn (hg cl s3.heap.objs.size s3 (upd H2 P (.lst [])) fp _ s7 σ5 H7 x u _ I7' r7 (step x H7 y7)) fun _ s8 ⟨σ8,H8,I8,q8⟩=>?_))
      have again:∀ {s9:Shared} {H9:Hp},Inv (cxComp X own scope cl s3.heap.objs.size s3 (upd H2 P (.lst [])) fp) ([] ++ pinsAt fp s7.heap) σ8 H9 s9->N σ8 H9->∃ m,m < n/\∃ i σ' H',Inv (cxComp X own scope cl s3.heap.objs.size s3 (upd H2 P (.lst [])) fp) [] σ' H' s9/\tn i s9.heap/\(∀ b ∈ fp,H' b=none)/\W i m σ' H':=fun {s9 H9} I9 n9=>by
        obtain ⟨m',hm,w9⟩:=hN σ8 H9 n9
        refine ⟨m',hm,i + 1,σ8,H9,I9.unpinned,T.keep _ _ _ st7 fun b hb o e=>(I9.pin (b,o) (List.mem_append_right _ (List.mem_append_right _ (Zcp hb e)))).1,fun b hb=>?_,w9⟩
        obtain ⟨o,e,d⟩:=T.obj _ _ st7 b hb
        exact (I9.pin (b,o) (List.mem_append_right _ (List.mem_append_right _ (Zcp hb e)))).2.1
      refine wpAny_bind (nE (thn (ht cl s3.heap.objs.size s3 (upd H2 P (.lst [])) fp _ s8 σ8 H8 _ I8 q8) fun ok s9 ⟨H9,I9,q9⟩=>?_))
      cases ok with
      | false =>
        rw [if_neg (by decide)] at q9
        exact wpAny_pure ⟨rfl,again I9 q9⟩
      | true =>
        rw [if_pos rfl] at q9
        refine wpAny_bind (wpAny_bind (nE (thn (he cl s3.heap.objs.size s3 (upd H2 P (.lst [])) fp _ s9 σ8 H9 _ I9 q9) fun y s10 ⟨v,H10,I10,r10,ys,e10,l10,q10⟩=>?_)))
        refine wpAny_bind (nE (thn (Zbr (X:=cxComp X own scope cl s3.heap.objs.size s3 (upd H2 P (.lst [])) fp) _ s10 σ8 H10 (.ref P) [v] (.ref P) [y] (fun _ H'=>N σ8 H') I10 rfl (.cons r10 .nil) ⟨P,ys,v,rfl,rfl,e10,l10,q10⟩) fun _ s11 ⟨_,H11,I11,_,q11⟩=>?_))
        exact wpAny_pure (wpAny_pure ⟨rfl,again I11 q11⟩)
  have lself:=T.self X.A 0 ({ s3 with heap:=h4,toks:=s3.toks + ([]:List (Str × Value)).length }:Shared) (fun it' s'=>codeAny (model X.prog X.w) X.A (.compLoop (.ListComp elt [⟨tg,iter,ifs,0⟩] scope pos) 0 it' (.ref P) (compEnvC scope cl s3.heap.objs.size X.env)) (compPost (model X.prog X.w) X.A X.xe use Q (.ref P) s3.heap.objs.size) s')
    (notedBy (model X.prog X.w) X.A (compEnvC scope cl s3.heap.objs.size X.env) fun x s'=>compPost (model X.prog X.w) X.A X.xe use Q (.ref P) s3.heap.objs.size (.error x) s') (T.keep _ _ _ st3' fun b _ o e=>k4 b o e) loop
  exact codeAny_compStart_list loop lself
theorem Zjc {X:Cx} {tg elt iter:Expr} {ifs:List Expr} {scope:Scope} {pos:Pos} (own:List Str) {wi:TI} {g:TG} {tc:TT} {te:TE}
    (hc:X.calm=true) (S:CompScope X.env.scope X.N own scope) (hi:PI X tg iter wi)
    (hg:∀ cl C s₀ H₀ ex,PG (cxComp X own scope cl C s₀ H₀ ex) tg g) (ht:∀ cl C s₀ H₀ ex,PIf (cxComp X own scope cl C s₀ H₀ ex) ifs tc) (he:∀ cl C s₀ H₀ ex,PE (cxComp X own scope cl C s₀ H₀ ex) elt te)
    (hs:∀ x,foldedSetIterable iter X.env x=pure x:=by intro _; rfl) :
    PE X (.ListComp elt [⟨tg,iter,ifs,0⟩] scope pos) (tComp own.length wi g tc te):=by
  intro pins s σ H Q I h
  rw [eval_ListComp]
  refine ZfS (use:=none) (R:=fun p H'=>Q (.ref p) H') hc S hi hg ht he hs I h fun p H' s' C m I' f hn q=>?_
  obtain ⟨f0,f1,f2,f3,f4,f5⟩:=f
  exact ⟨m,hn,fun h' sb=>⟨.ref p,H',I'.turned (t':=s'.toks) (fun b o hb e=>(sb.2 b hb).trans e) f0 f1 f3 f4 f5,rfl,q⟩⟩
theorem Zmq {X:Cx} {tg elt iter:Expr} {ifs:List Expr} {scope:Scope} {pos:Pos} (own:List Str) {wi:TI} {g:TG} {tc:TT} {te:TE} {i:Nat} {x:Str} {pos' spos:Pos}
    (hN:X.N.Nodup) (hx0:X.N[i]?=some x) (hx:X.env.scope.names.lookup x=some .local) (hc:X.calm=true) (S:CompScope X.env.scope X.N own scope) (hi:PI X tg iter wi)
    (hg:∀ cl C s₀ H₀ ex,PG (cxComp X own scope cl C s₀ H₀ ex) tg g) (ht:∀ cl C s₀ H₀ ex,PIf (cxComp X own scope cl C s₀ H₀ ex) ifs tc) (he:∀ cl C s₀ H₀ ex,PE (cxComp X own scope cl C s₀ H₀ ex) elt te)
    (hsw:swapsWith (.ListComp elt [⟨tg,iter,ifs,0⟩] scope pos) (some (.Name x pos')) spos.line X.env=pure true:=by rfl)
    (hs:∀ x,foldedSetIterable iter X.env x=pure x:=by intro _; rfl) :
    PS X (.Assign [.Name x pos'] (.ListComp elt [⟨tg,iter,ifs,0⟩] scope pos) spos) (tAsg (tComp own.length wi g tc te) (gName i)):=by
  intro pins s σ H D I h
  rw [exec_Assign_Name_used _ _ _ _ hsw]
  refine wpAny_bind (wpAny_standAt (wpAny_bind ?_))
  show wpAny _ X.A (do let _ <- comprehension (.ListComp elt [⟨tg,iter,ifs,0⟩] scope pos) scope X.env _ (newList []) false (eval iter X.env) (some (assign (.Name x pos') X.env))) _ _ s
  refine wpAny_bind (thn (ZfS (use:=some (assign (.Name x pos') X.env)) (Q:=fun _ s'=>SP X pins D .next s') (R:=fun p H'=>D.nx (σ.set i (some (.ref p))) H') hc S hi hg ht he hs I h fun p H' s' C m I' f hn q=>?_) fun _ s' hq=>wpAny_pure (wpAny_pure hq))
  obtain ⟨f0,f1,f2,f3,f4,f5⟩:=f
  show wpAny _ X.A (assign (.Name x pos') X.env (.ref p)) _ _ s'
  refine wpAny_assign_Name (Zfx I' hN hx0 (.inl hx) (v:=.ref p) rfl (fun s2 I2 ⟨a,sb,ha⟩=>?_) (.inr hx))
  have hCa:C ≠ a:=by
    rcases ha with z|z
    . rw [z]; exact f1
    . exact fun e=>f4 x a z e.symm
  exact ⟨m,hn.sameBut sb hCa,fun h' sb'=>⟨_,H',I2.turned (t':=s2.toks) (fun b o hb e=>(sb'.2 b hb).trans e) f0 f1 f3 f4 f5,q⟩⟩
end L2
namespace L2
open PySem PySem.Spec PyProof.Rows
noncomputable def Zao (K:PySem.W.Frag) (mg:Str->Option Value) (x:Str) (st:Stmt):Prop:=∃ f fd,Fun K x x st f fd/\mg x=some (.ref f)
theorem Zak {K:PySem.W.Frag} {h:Heap} {mg:Str->Option Value} {x:Str} {st:Stmt} {f:Addr} {oc:Value} {od an:Option Addr} {osl:Array (Option Value)} {kV doc pm cdv ct:Value} (X:K.In h) (G:h.Ns mainGlobals mg)
    (a:PySem.W.nsIn K mainGlobals x=some (some (.ref f))) (l:K.lookup f=some ⟨oc,od,.func (PySem.W.fnOf x x (Zaw st) (Zar st) (Zab st) .none kV doc pm an cdv ct),osl⟩)
    (c:PySem.W.codeIn K cdv x=true) (k:PySem.W.keepIn K (.ref f)=true):Zao K mg x st :=
  ⟨f,_,ZlU l c k,PySem.W.mg_of X G a⟩
noncomputable def CalF (P:Program) (w:World) (K:PySem.W.Frag) (mg:Str->Option Value) (base:Heap) (k:Nat) (f:Addr) (sp:Sp):Prop :=
  ∃ fd ps,FnOk P w K mg base CX0 k f fd ps sp/\PySem.W.keepIn K (.ref f)=true/\Binds K fd ps []
noncomputable def Cal (P:Program) (w:World) (K:PySem.W.Frag) (mg:Str->Option Value) (base:Heap) (k:Nat) (x:Str) (sp:Sp):Prop :=
  ∃ f,mg x=some (.ref f)/\CalF P w K mg base k f sp
section
variable {P:Program} {w:World} {K:PySem.W.Frag} {mg:Str->Option Value} {base:Heap}
theorem CalF.mono {j k:Nat} {f:Addr} {sp:Sp} (c:CalF P w K mg base j f sp) (h:j <= k):CalF P w K mg base k f sp :=
  let ⟨fd,ps,F,kp,b⟩:=c
  ⟨fd,ps,F.mono h,kp,b⟩
theorem Cal.mono {j k:Nat} {x:Str} {sp:Sp} (c:Cal P w K mg base j x sp) (h:j <= k):Cal P w K mg base k x sp :=
  let ⟨f,m,c⟩:=c
  ⟨f,m,c.mono h⟩
theorem CalF.imp {k:Nat} {f:Addr} {sp sp':Sp} (c:CalF P w K mg base k f sp) (h:∀ vs H Q E,sp' vs H Q E->sp vs H Q E):CalF P w K mg base k f sp' :=
  let ⟨fd,ps,F,kp,b⟩:=c
  ⟨fd,ps,F.imp h,kp,b⟩
theorem Cal.imp {k:Nat} {x:Str} {sp sp':Sp} (c:Cal P w K mg base k x sp) (h:∀ vs H Q E,sp' vs H Q E->sp vs H Q E):Cal P w K mg base k x sp' :=
  let ⟨f,m,c⟩:=c
  ⟨f,m,c.imp h⟩
theorem Zaz {x:Str} {st:Stmt} {N ps:List Str} {k:Nat} {sp:Sp} (D:Zao K mg x st) (S:FnScope N ps (Zab st)) (len:∀ vs H Q E,sp vs H Q E->vs.length=ps.length)
    (hb:∀ (kV doc pm:Value) (an:Option Addr) (cdv ct:Value) (us:List Value),us.length=ps.length->bindArgs (PySem.W.fnOf x x (Zaw st) (Zar st) (Zab st) .none kV doc pm an cdv ct) ⟨us,[]⟩=pure (ps.zip us))
    (hbody:∀ (f:Addr) (cdv:Value) (A:Around) (outer:List Env) (s:Shared) (H:Hp) (vs:List V) (Q:VK) (E:XK),Room k (A.deeper (envOfC x (Zab st) s.heap.objs.size f cdv))->sp vs H Q E ->
      ∃ t,PSs (cxOf CX0 P w K mg base N x (Zab st) f cdv A outer s H E).nox (Zar st) t/\t { nx:=fun _ H'=>Q .non H',rt:=Q } (start N vs) H):Cal P w K mg base (k + 1) x sp:=by
  obtain ⟨f,fd,F,m⟩:=D
  exact ⟨f,m,fd,ps,F.ok S len (hbody f),F.kp,F.binds hb⟩
end
section
variable {X:Cx} {k:Nat} {x:Str} {sp:Sp} {p pos:Pos} {e func:Expr} {es:List Expr} {t:TA} {tf:TE}
theorem ZaG (c:Cal X.prog X.w X.K X.mg X.base k x sp) (hr:Room k X.A) (hg:Gl X x) (ha:PA X (e :: es) t) (hdb:(x == ("__debug__" : Str))=false:=by decide)
    (he:starEach (e :: es) X.env=(false,eval e X.env) :: starEach es X.env:=by rfl) (hpl:(backTo pos (starEach es X.env)).any (·.1)=false:=by rfl) :
    PE X (.Call (.Name x p) (e :: es) [] pos) (tCall sp [] E0 t):=by
  obtain ⟨f,m,fd,ps,F,kp,b⟩:=c
  exact Zi2 F hr hg m kp b .nil pass0 ha hdb he hpl
theorem Zmr (c:Cal X.prog X.w X.K X.mg X.base k x sp) (hr:Room k X.A) (hg:Gl X x) (hdb:(x == ("__debug__" : Str))=false:=by decide) :
    PE X (.Call (.Name x p) [] [] pos) (tCall sp [] E0 tNil):=by
  obtain ⟨f,m,fd,ps,F,kp,b⟩:=c
  exact Zkz F hr hg m kp b .nil pass0 hdb
noncomputable def tCallV (P:Program) (w:World) (K:PySem.W.Frag) (mg:Str->Option Value) (base:Heap) (k:Nat) (tf:TE) (t:TA):TE:=fun σ H Q=>tf σ H fun v H1=>∃ f sp,v=.ref f/\CalF P w K mg base k f sp/\t σ H1 fun vs H2=>sp vs H2 Q E0
theorem ZhN (hr:Room k X.A) (hf:PE X func tf) (ha:PA X (e :: es) t)
    (hc:eval (.Call func (e :: es) [] pos) X.env=(do callWith pos (<- eval func X.env) [] (backTo pos (starEach (e :: es) X.env)) (backToKw pos (keywordEach [] X.env))):=by rfl)
    (he:starEach (e :: es) X.env=(false,eval e X.env) :: starEach es X.env:=by rfl) (hpl:(backTo pos (starEach es X.env)).any (·.1)=false:=by rfl) :
    PE X (.Call func (e :: es) [] pos) (tCallV X.prog X.w X.K X.mg X.base k tf t):=by
  intro pins s σ H Q I h
  refine Call_ (thn (hf pins s σ H _ I h) fun u s1 ⟨v,H1,I1,r,f,sp,ev,⟨fd,ps,F,kp,b⟩,q⟩=>?_) hc
  subst ev
  obtain rfl:u=Value.ref f:=r
  refine PySem.W.callWith_K (h₀:=X.base) I.ok.mod.kin kp (thn (ha pos pins s1 σ H1 _ I1 q) fun us s2 ⟨vs,H2,I2,r2,q2⟩=>⟨I2.kIn,?_⟩) he hpl
  exact ZdR (dvs:=[]) (E:=E0) F hr b .nil pass0 I2 r2 (by rw [List.append_nil]; exact q2)
end
noncomputable def CDivW (i j:Int):Prop:=0 < j/\j < 2 ^ 200
section
variable {X:Cx}
theorem Zin {n:Nat} (h:n < 2 ^ 200):n.log2 < 9000:=by
  by_cases z:n=0
  . subst z; decide
  . have:=(Nat.log2_lt z).mpr h
    omega
theorem ZeQ:OpR X (binaryOp .FloorDiv) (rI CDivW fun i j=>.int (i / j)):=opI fun i j _ _ _ _ _ hc q=>by
  refine floordiv_int (by have:=hc.1; omega) ?_ (.inl (PyProof.noPylong_of_log2 (Zin ?_)))
  . rw [Int.fdiv_eq_ediv_of_nonneg _ (Int.le_of_lt hc.1)]
    exact q
  . have h1:=hc.1
    have h2:=hc.2
    have e:((j.natAbs:Nat):Int)=j:=Int.natAbs_of_nonneg (Int.le_of_lt h1)
    have:((j.natAbs:Nat):Int) < ((2 ^ 200:Nat):Int):=by rw [e]; exact h2
    exact Int.ofNat_lt.mp this
end
noncomputable def isiV:V->String->Option Bool
  | .int _, "int" => some true
  | .int _, "bool" => some false
  | .int _, "str" => some false
  | .int _, "tuple" => some false
  | .int _, "list" => some false
  | .bl _, "bool" => some true
  | .bl _, "int" => some true
  | .bl _, "str" => some false
  | .str _, "str" => some true
  | .str _, "int" => some false
  | .str _, "bool" => some false
  | .str _, "tuple" => some false
  | .str _, "list" => some false
  | _,_=>none
section
variable {X:Cx}
theorem ZkN:CallR X (.builtin "isinstance") (fun xs H Q=>∃ x T b,xs=[x,.ty T]/\isiV x T=some b/\Q (.bl b) H):=by
  intro pins s σ H xs us Q I r h
  obtain ⟨x,T,b,rfl,e,q⟩:=h
  obtain ⟨u,v,rfl,ru,rv⟩:=vals2 r
  obtain rfl:v=Value.type T:=rv
  unfold isiV at e
  split at e <;> first
    | (cases e; obtain ⟨t,rfl⟩:=ru; first
        | exact IsiPair.int_int ⟨.bl true,H,I,rfl,q⟩
        | exact IsiPair.int_bool ⟨.bl false,H,I.tok _,rfl,q⟩
        | exact IsiPair.int_str ⟨.bl false,H,I.tok _,rfl,q⟩
        | exact IsiPair.int_tuple ⟨.bl false,H,I.tok _,rfl,q⟩
        | exact IsiPair.int_list ⟨.bl false,H,I.tok _,rfl,q⟩
        | exact IsiPair.str_str ⟨.bl true,H,I,rfl,q⟩
        | exact IsiPair.str_int ⟨.bl false,H,I.tok _,rfl,q⟩
        | exact IsiPair.str_bool ⟨.bl false,H,I.tok _,rfl,q⟩
        | exact IsiPair.str_tuple ⟨.bl false,H,I.tok _,rfl,q⟩
        | exact IsiPair.str_list ⟨.bl false,H,I.tok _,rfl,q⟩)
    | (cases e; cases ru; first
        | exact IsiPair.bool_bool ⟨.bl true,H,I,rfl,q⟩
        | exact IsiPair.bool_int ⟨.bl true,H,I,rfl,q⟩
        | exact IsiPair.bool_str ⟨.bl false,H,I.tok _,rfl,q⟩)
    | cases e
end
noncomputable def ZcT (P:Program) (w:World) (K:PySem.W.Frag) (a:Addr) (vs:List (Key × Value)):Prop:=∀ h:Heap,K.In h->h.DictOf (Za2 P w) a vs
theorem ZkO {P:Program} {w:World} {K:PySem.W.Frag} {a:Addr} {vs:List (Key × Value)} {es:Array DictEntry} {ep:Nat} (l:K.lookup a=some ⟨.type "dict", none,.dict es ep,#[]⟩)
    (hk:∀ e ∈ es.toList,∃ k,keyIs k e.key=true/\e.hash=keyH w k) (hp:Pairs (Za2 P w) es.toList vs) (nd:(vs.map (·.1)).Nodup):ZcT P w K a vs:=fun h X =>
  ⟨_,es,ep,X _ _ l,⟨rfl,rfl,rfl⟩,rfl,fun e he=>hk e (Array.mem_toList_iff.mpr he),hp,nd⟩
noncomputable def tDGetK (P:Program) (w:World) (K:PySem.W.Frag) (td ty:TE):TE:=fun σ H Q=>td σ H fun x H1=>ty σ H1 fun y H2=>∃ a vs k u v,x=.ref a/\y=kV k/\ZcT P w K a vs/\valueAt vs k=some u/\RelV v u/\Q v H2
theorem kV_isM {P:Program} {w:World} {k:Key} {u:Value} (r:RelV (kV k) u):(Za2 P w).is k u=true:=by
  cases k with
  | inl i=>obtain ⟨t,rfl⟩:=r; exact Zfw i t
  | inr x=>obtain ⟨t,rfl⟩:=r; exact ZcR x t
section
variable {X:Cx} {o i:Expr} {td ty:TE} {pos:Pos}
theorem ZkP (ho:PE X o td) (hi:PE X i ty) (hs:NoSl i):PE X (.Subscript o i pos) (tDGetK X.prog X.w X.K td ty):=by
  intro pins s σ H Q I h
  refine Zmm PySem.F.slot_dict_getitem.lookup hs (thn (ho pins s σ H _ I h) fun u s1 ⟨x,H1,I1,rx,q1⟩=>thn (hi pins s1 σ H1 _ I1 q1) fun iv s2 ⟨y,H2,I2,ry,a,vs,k,w',v,ex,ey,D,hv,rv,q2⟩=>?_)
  subst ex ey
  obtain rfl:u=Value.ref a:=rx
  have dd:=D s2.heap I2.kIn
  exact ⟨dd.typeIs,wpAny_getItem_of (kV_isM ry) dd.mapOf hv ⟨v,H2,I2.tok _,rv,q2⟩⟩
end
section
variable {σ:St} {H:Hp} {Q:VK} {D:Ends} {i:Nat} {v:V}
theorem rd_C (q:Q v H):tC v σ H Q:=q
theorem rd_V (e:σ[i]?=some (some v)) (q:Q v H):tVar i σ H Q:=⟨v,e,q⟩
theorem rd_op {r:R2} {ta tb:TE} (q:ta σ H fun x H1=>tb σ H1 fun y H2=>r x y H2 Q):tOp r ta tb σ H Q:=q
theorem rd_un {r:V->Hp->VK->Prop} {ta:TE} (q:ta σ H fun x H1=>r x H1 Q):tUn r ta σ H Q:=q
theorem rd_I {C:Int->Int->Prop} {g:Int->Int->V} {a b:Int} (c:C a b) (q:Q (g a b) H):rI C g (.int a) (.int b) H Q:=⟨a,b,rfl,rfl,c,q⟩
theorem rd_I0 {g:Int->Int->V} {a b:Int} (q:Q (g a b) H):rI0 g (.int a) (.int b) H Q:=⟨a,b,rfl,rfl,q⟩
theorem rd_U {g:Int->V} {a:Int} (q:Q (g a) H):rU g (.int a) H Q:=⟨a,rfl,q⟩
theorem rd_eqI {a b:Int} (q:Q (.bl (decide (a=b))) H):rEq (.int a) (.int b) H Q:=by
  refine ⟨rfl,?_⟩
  have e:decide (V.int a=V.int b)=decide (a=b):=decide_eq_decide.mpr ⟨fun h=>V.int.inj h,fun h=>by rw [h]⟩
  rw [e]; exact q
theorem rd_neI {a b:Int} (q:Q (.bl (!decide (a=b))) H):rNe (.int a) (.int b) H Q:=by
  refine ⟨rfl,?_⟩
  have e:decide (V.int a=V.int b)=decide (a=b):=decide_eq_decide.mpr ⟨fun h=>V.int.inj h,fun h=>by rw [h]⟩
  rw [e]; exact q
theorem rd_eqS {a b:Str} (q:Q (.bl (decide (a=b))) H):rEq (.str a) (.str b) H Q:=by
  refine ⟨rfl,?_⟩
  have e:decide (V.str a=V.str b)=decide (a=b):=decide_eq_decide.mpr ⟨fun h=>V.str.inj h,fun h=>by rw [h]⟩
  rw [e]; exact q
theorem rd_neS {a b:Str} (q:Q (.bl (!decide (a=b))) H):rNe (.str a) (.str b) H Q:=by
  refine ⟨rfl,?_⟩
  have e:decide (V.str a=V.str b)=decide (a=b):=decide_eq_decide.mpr ⟨fun h=>V.str.inj h,fun h=>by rw [h]⟩
  rw [e]; exact q
theorem rd_seq {t u:TS} (q:t { D with nx:=u D } σ H):tSeq t u D σ H:=q
theorem rd_asg {te:TE} {g:TG} (q:te σ H fun x H1=>g x σ H1 D.nx):tAsg te g D σ H:=q
theorem Zjd {R:St->Hp->Prop} (q:R (σ.set i (some v)) H):gName i v σ H R:=q
theorem ZlV {te:TE} (q:te σ H D.rt):tRet te D σ H:=q
theorem Zms (q:D.nx σ H):tNext D σ H:=q
theorem Zje {te:TE} (q:te σ H fun _ H1=>D.nx σ H1):tDrop te D σ H:=q
theorem rd_ifS {c:TT} {t u:TS} (q:c σ H fun b H1=>if b=true then t D σ H1 else u D σ H1):tIfS c t u D σ H:=q
theorem rd_if {c:TT} {ta tb:TE} (q:c σ H fun b H1=>if b=true then ta σ H1 Q else tb σ H1 Q):tIf c ta tb σ H Q:=q
theorem Zmt {te:TE} {R:Bool->Hp->Prop} (q:te σ H fun x H'=>∃ k,x=.bl k/\R k H'):tTest te σ H R:=q
theorem rd_B {te:TE} {R:Bool->Hp->Prop} (q:te σ H fun x H'=>∃ k,x=.bl k/\R k H'):tB te σ H R:=q
theorem rd_bl {b:Bool} {R:Bool->Prop} (q:R b):∃ k,V.bl b=.bl k/\R k:=⟨b,rfl,q⟩
theorem rd_and {t u:TT} {R:Bool->Hp->Prop} (q:t σ H fun c H1=>if c=true then u σ H1 R else R false H1):tAnd t u σ H R:=q
theorem rd_or {t u:TT} {R:Bool->Hp->Prop} (q:t σ H fun c H1=>if c=true then R true H1 else u σ H1 R):tOr t u σ H R:=q
theorem rd_not {t:TT} {R:Bool->Hp->Prop} (q:t σ H fun c H1=>R (!c) H1):tNot t σ H R:=q
theorem Zmu {ta tb:TE} (q:ta σ H fun x H1=>∃ c,x=.bl c/\if c=true then tb σ H1 Q else Q (.bl false) H1):tAndV ta tb σ H Q:=q
theorem rd_orV {ta tb:TE} (q:ta σ H fun x H1=>∃ c,x=.bl c/\if c=true then Q (.bl true) H1 else tb σ H1 Q):tOrV ta tb σ H Q:=q
theorem Zmv {ta:TE} (q:ta σ H fun x H1=>∃ c,x=.bl c/\Q (.bl (!c)) H1):tNotV ta σ H Q:=q
theorem Zmw {ta:TE} {tr:TA} {R:List V->Hp->Prop} (q:ta σ H fun x H1=>tr σ H1 fun xs H2=>R (x :: xs) H2):tCons ta tr σ H R:=q
theorem rd_nil {R:List V->Hp->Prop} (q:R [] H):tNil σ H R:=q
theorem Zmx {sp:Sp} {t:TA} (q:t σ H fun vs H1=>sp vs H1 Q E0):tCall sp [] E0 t σ H Q:=by
  unfold tCall
  have e:(fun (vs:List V) H1=>sp (vs ++ []) H1 Q E0)=fun vs H1=>sp vs H1 Q E0:=by funext vs H1; rw [List.append_nil]
  rw [e]
  exact q
theorem rd_CB {r:List V->Hp->VK->Prop} {t:TA} (q:t σ H fun vs H1=>r vs H1 Q):tCB r t σ H Q:=q
theorem ZkQ {r r':R2} {ta tb tc:TE} (q:ta σ H fun x H1=>tb σ H1 fun y H2=>r x y H2 fun z H3=>∃ k,z=.bl k/\if k=true then tc σ H3 fun u H4=>r' y u H4 Q else Q (.bl false) H3):tChain r r' ta tb tc σ H Q:=q
theorem rd_tup {t:TA} (q:t σ H fun xs H1=>xs.length <= sizeLine/\∀ p,H1 p=none->Q (.ref p) (upd H1 p (.tup xs))):tTup t σ H Q:=q
theorem rd_lst {t:TA} (q:t σ H fun xs H1=>xs.length <= sizeLine/\∀ p,H1 p=none->Q (.ref p) (upd H1 p (.lst xs))):tLst t σ H Q:=q
theorem Zc5 {c A B:Prop} [Decidable c] (h1:c->A) (h2:¬ c->B):if decide c=true then A else B:=by
  by_cases h:c
  . rw [if_pos (decide_eq_true h)]; exact h1 h
  . rw [if_neg (by rw [decide_eq_false h]; exact Bool.false_ne_true)]; exact h2 h
theorem Zcq {c A B:Prop} [Decidable c] (h1:¬ c->A) (h2:c->B):if (!decide c)=true then A else B:=by
  by_cases h:c
  . rw [decide_eq_true h]; exact iteF (h2 h)
  . rw [decide_eq_false h]; exact iteT (h1 h)
theorem ZbJ {u:V} (e:u=v) (q:Q v H):Q u H:=by rw [e]; exact q
end
noncomputable def ZaV (mg:Str->Option Value) (x:Str) (v:V):Prop:=∃ u,mg x=some u/\RelV v u
section
variable {X:Cx} {x:Str} {v:V} {T:String} {pos:Pos}
theorem ZbK (hg:Gl X x) (h:ZaV X.mg x v) (hd:(x == ("__debug__" : Str))=false:=by decide):PE X (.Name x pos) (tC v) :=
  let ⟨_,m,r⟩:=h
  Zl7 hg m r hd
theorem ZfT (hg:Gl X x) (hm:X.mg x=none) (hv:bootBuiltins x=some (.type T)) (hn:x ≠ "__name__" := by decide) (hd:(x == ("__debug__" : Str))=false:=by decide):PE X (.Name x pos) (tC (.ty T)) :=
  Zl8 hg hm hv rfl hn hd
end
noncomputable def sEnt (w:World) (p:Str × Tok × Value):DictEntry:=⟨PyData.keyHash w.params p.1,.str p.1 p.2.1,p.2.2⟩
noncomputable def entsOf (es:Array DictEntry):List (Str × Tok × Value):=es.toList.filterMap fun e=>match e.key with|.str x t=>some (x,t,e.val)|_=>none
theorem ZeC {P:Program} {w:World}:∀ l:List (Str × Tok × Value),Pairs (Za2 P w) (l.map (sEnt w)) (l.map fun p=>((Sum.inr p.1:Key),p.2.2))
  | []=>.nil
  | p :: r=>.cons (ZcR p.1 p.2.1) rfl (ZeC r)
theorem ZfU:∀ {l:List Str},l.Nodup->(l.map fun x=>(Sum.inr x:Key)).Nodup
  | [],_=>List.nodup_nil
  | x :: r,h=>by
    have h1:=List.nodup_cons.mp h
    rw [List.map_cons,List.nodup_cons]
    refine ⟨fun hm=>?_,ZfU h1.2⟩
    obtain ⟨y,hy,e⟩:=List.mem_map.mp hm
    cases e
    exact h1.1 hy
theorem ZdT {P:Program} {w:World} {K:PySem.W.Frag} {a:Addr} {es:Array DictEntry} {ep:Nat} (l:K.lookup a=some ⟨.type "dict", none,.dict es ep,#[]⟩) (he:es=((entsOf es).map (sEnt w)).toArray)
    (nd:((entsOf es).map (·.1)).Nodup):ZcT P w K a ((entsOf es).map fun p=>((Sum.inr p.1:Key),p.2.2)):=by
  have e:es.toList=(entsOf es).map (sEnt w):=by rw [he]; simp [<- he]
  refine ZkO l (fun e' he'=>?_) (by rw [e]; exact ZeC _) ?_
  . rw [e] at he'
    obtain ⟨p,_,rfl⟩:=List.mem_map.mp he'
    exact ⟨.inr p.1,ZcR p.1 p.2.1,rfl⟩
  . rw [List.map_map]
    have:((fun x:Key × Value=>x.1) ∘ fun p:Str × Tok × Value=>((Sum.inr p.1:Key),p.2.2))=(fun x=>(Sum.inr x:Key)) ∘ (fun p:Str × Tok × Value=>p.1):=rfl
    rw [this,<- List.map_map]
    exact ZfU nd
end L2
namespace L2
open PySem PySem.Spec PyProof.Rows
theorem Same.tup {K:PySem.W.Frag} {H H':Hp} {a:Addr} {xs:List V} (e:Same H H') (h:SqT K H a xs):SqT K H' a xs:=by
  rcases h with (h|⟨o,h⟩)|h
  . exact .inl (.inl (e _ _ h))
  . exact .inl (.inr ⟨o,e _ _ h⟩)
  . exact .inr h
theorem Same.new {H:Hp} {p:Addr} {o:HO} (n:H p=none):Same H (upd H p o):=fun b u e=>by rw [Zai (Zaj e n)]; exact e
theorem Same.newT {H H':Hp} {p:Addr} {o:HO} (s:Same H H') (n:H' p=none):Same H (upd H' p o):=s.trans (Same.new n)
theorem ZgI {K:PySem.W.Frag} {H:Hp} {p:Addr} {xs:List V}:SqT K (upd H p (.tup xs)) p xs:=.inl (.inl Zag)
theorem ZaE {K:PySem.W.Frag} {H:Hp} {p:Addr} {xs:List V} (h:H p=some (.lst xs)):SqL K H p xs:=.inl (.inl h)
theorem Zbg {K:PySem.W.Frag} {H:Hp} {p:Addr} {xs:List V} (h:H p=some (.tup xs)):SqT K H p xs:=.inl (.inl h)
theorem ZcU {α:Type} {xs:List α} {i:Nat} {j:Int} {v:α} (h:xs[i]?=some v) (e:j=(i:Int)):atI xs j=some v:=by rw [e]; exact ZeJ h
section
variable {σ:St} {H:Hp} {Q:VK} {K:PySem.W.Frag} {p a b:Addr} {xs ys:List V} {v:V}
theorem Za8 {i:Int} (h:SqL K H p xs) (e:atI xs i=some v) (q:Q v H):rIxL K (.ref p) (.int i) H Q:=⟨p,xs,i,v,rfl,rfl,h,e,q⟩
theorem ZbY {i:Int} (h:SqT K H p xs) (e:atI xs i=some v) (q:Q v H):rIxT K (.ref p) (.int i) H Q:=⟨p,xs,i,v,rfl,rfl,h,e,q⟩
theorem Zjf (h1:H a=some (.lst xs)) (h2:H b=some (.lst ys)) (hz:xs.length + ys.length <= sizeLine) (q:∀ p,H p=none->Q (.ref p) (upd H p (.lst (xs ++ ys)))):rCat (.ref a) (.ref b) H Q:=⟨a,b,xs,ys,rfl,rfl,h1,h2,hz,q⟩
end
theorem iteNT {A B:Prop} (h:B):if (!true)=true then A else B:=iteF h
theorem iteNF {A B:Prop} (h:A):if (!false)=true then A else B:=iteT h
section
variable {σ:St} {H:Hp} {Q:VK} {D:Ends}
theorem ZgJ {k:Nat} {wi:TI} {g:TG} {tc:TT} {te:TE} (q:wi σ H fun J H1=>∀ p,H1 p=none->tLoopC k g tc te J p (fun H'=>Q (.ref p) H') σ H1):tComp k wi g tc te σ H Q:=q
theorem ZdE {K:PySem.W.Frag} {tl:TE} {R:It->Hp->Prop} (q:tl σ H fun x H1=>∃ a,x=.ref a/\(∃ xs,SqL K H1 a xs)/\R (Itl K a) H1):iList K tl σ H R:=q
theorem ZeR {ta:TA} {R:It->Hp->Prop} (q:ta σ H fun vs H1=>∃ j:Int,vs=[.int j]/\-(2 ^ 62) <= j/\j < 2 ^ 62/\R (Itr 0 j.toNat) H1):iRng1 ta σ H R:=q
theorem ZhO {wi:TI} {g:TG} {tb:TS} (q:wi σ H fun J H1=>∃ W:Nat->Nat->St->Hp->Prop,(∃ m,W 0 m σ H1)/\∀ i m σ H,W i m σ H ->
  (J.stop i H/\D.nx σ H)\/(J.go i H/\∃ N:St->Hp->Prop,(∀ σ' H',N σ' H'->∃ m',m' < m/\W (i + 1) m' σ' H')/\∀ x H',J.yld i H x H'->g x σ H' fun σ2 H2=>tb { D with nx:=N,ct:=N,bk:=D.nx } σ2 H2)):tFor wi g tb D σ H:=q
end
section
variable {CX:CXT} {P:Program} {w:World} {K:PySem.W.Frag} {mg:Str->Option Value} {base:Heap} {N:List Str} {q:Str} {sc:Scope} {f:Addr} {cd:Value} {A:Around} {outer:List Env} {s:Shared} {H:Hp} {E:XK}
theorem nox_K:(cxOf CX P w K mg base N q sc f cd A outer s H E).nox.K=K:=rfl
theorem nox_P:(cxOf CX P w K mg base N q sc f cd A outer s H E).nox.prog=P:=rfl
theorem nox_w:(cxOf CX P w K mg base N q sc f cd A outer s H E).nox.w=w:=rfl
theorem nox_mg:(cxOf CX P w K mg base N q sc f cd A outer s H E).nox.mg=mg:=rfl
theorem ZkR:(cxOf CX P w K mg base N q sc f cd A outer s H E).nox.base=base:=rfl
end
theorem Zcr {K:PySem.W.Frag} {h:Heap} {mg:Str->Option Value} {x:Str} {i:Int} {t:Tok} (X:K.In h) (G:h.Ns mainGlobals mg) (a:PySem.W.nsIn K mainGlobals x=some (some (.int i t))):ZaV mg x (.int i):=⟨_,PySem.W.mg_of X G a,t,rfl⟩
theorem Zcs {K:PySem.W.Frag} {h:Heap} {mg:Str->Option Value} {x:Str} {i:Addr} (X:K.In h) (G:h.Ns mainGlobals mg) (a:PySem.W.nsIn K mainGlobals x=some (some (.ref i))):ZaV mg x (.ref i):=⟨_,PySem.W.mg_of X G a,rfl⟩
theorem Zio {K:PySem.W.Frag} {x qual p:Str} {st:Stmt} {f:Addr} {fd:FuncData} (F:Fun K x qual st f fd)
    (hb:∀ (kV doc pm:Value) (an:Option Addr) (cdv ct u:Value),bindArgs (PySem.W.fnOf x qual (Zaw st) (Zar st) (Zab st) .none kV doc pm an cdv ct) ⟨[u],[]⟩=pure [(p,u)]:=by intros; rfl):∀ (s:Shared) (u:Value),BindsTo s fd ⟨[u],[]⟩ [(p,u)]:=by
  obtain ⟨oc,od,kV,doc,pm,an,cdv,ct,osl,rfl,lk,hcd⟩:=F.ex
  exact fun s u=>.of_eq (hb kV doc pm an cdv ct u)
section
variable {σ:St} {H:Hp} {Q:VK} {D:Ends} {i:Nat} {x:V}
end
noncomputable abbrev RC:=List V->Hp->VK->Prop
noncomputable def rMax2:RC:=fun xs H Q=>∃ i j,xs=[.int i,.int j]/\Q (.int (if j > i then j else i)) H
noncomputable def rMin2:RC:=fun xs H Q=>∃ i j,xs=[.int i,.int j]/\Q (.int (if j < i then j else i)) H
noncomputable def rIsi:RC:=fun xs H Q=>∃ x T b,xs=[x,.ty T]/\isiV x T=some b/\Q (.bl b) H
noncomputable def rLenS (K:PySem.W.Frag):RC:=fun xs H Q=>∃ p ys,xs=[.ref p]/\(SqL K H p ys\/SqT K H p ys)/\Q (.int ys.length) H
section
variable {X:Cx} {H:Hp} {Q:VK} {K:PySem.W.Frag}
theorem Zjg (hc:X.calm=true):CallR X (.builtin "max") rMax2:=ZiX hc
theorem cn_min (hc:X.calm=true):CallR X (.builtin "min") rMin2:=ZiY hc
theorem cn_isi:CallR X (.builtin "isinstance") rIsi:=ZkN
theorem Zb9:CallR X (.builtin "len") (rLenS X.K):=ZfH
theorem ZgK {a b:Int} (q:Q (.int (if b > a then b else a)) H):rMax2 [.int a,.int b] H Q:=⟨a,b,rfl,q⟩
theorem Zjh {a b:Int} (q:Q (.int (if b < a then b else a)) H):rMin2 [.int a,.int b] H Q:=⟨a,b,rfl,q⟩
theorem Zmy {p:Addr} {xs:List V} (h:SqL K H p xs) (q:Q (.int xs.length) H):rLenS K [.ref p] H Q:=⟨p,xs,rfl,.inl h,q⟩
theorem Zmz {p:Addr} {xs:List V} (h:SqT K H p xs) (q:Q (.int xs.length) H):rLenS K [.ref p] H Q:=⟨p,xs,rfl,.inr h,q⟩
end
end L2
namespace L2
open PySem PySem.Spec PyProof.Rows
section
variable {σ:St} {H:Hp} {Q:VK} {K:PySem.W.Frag} {p:Addr} {xs:List V} {v:V}
theorem rd_bm {T:String} {r:V->List V->Hp->VK->Prop} {to:TE} {t:TA} (q:to σ H fun x H1=>tyV K T x H1/\t σ H1 fun xs H2=>r x xs H2 Q):tBM K T r to t σ H Q:=q
theorem rd_bm0 {T:String} {r:V->List V->Hp->VK->Prop} {to:TE} (q:to σ H fun x H1=>tyV K T x H1/\r x [] H1 Q):tBM0 K T r to σ H Q:=q
theorem ZbL (h:SqL K H p xs):tyV K "list" (.ref p) H:=.inl ⟨rfl,_,h⟩
theorem ZbC (h:H p=some (.lst xs)) (hz:xs.length < sizeLine) (q:Q .non (upd H p (.lst (xs ++ [v])))):Zi6 (.ref p) [v] H Q:=⟨p,xs,v,rfl,rfl,h,hz,q⟩
theorem ZlW (h:H p=some (.lst (xs ++ [v]))) (q:Q v (upd H p (.lst xs))):rPop (.ref p) [] H Q:=by
  refine ⟨p,xs ++ [v],v,rfl,rfl,h,by simp,?_⟩
  rw [List.dropLast_concat]
  exact q
end
end L2
namespace L2
open PySem PySem.Spec PyProof.Rows
noncomputable def TupK (K:PySem.W.Frag) (a:Addr) (xs:List V):Prop:=∃ (o:Obj) (its:Array Value) (n:Nat),K.lookup a=some o/\o.cls=.type "tuple" /\ o.data=.seq its n/\its.size <= sizeLine/\Vals xs its.toList
theorem TupK.sqt {K:PySem.W.Frag} {a:Addr} {xs:List V} (h:TupK K a xs) (H:Hp):SqT K H a xs:=.inr h
theorem ZaJ {K:PySem.W.Frag} {a:Addr} {xs:List V} {d:Option Addr} {its:Array Value} {n:Nat} {sl:Array (Option Value)} (l:K.lookup a=some ⟨.type "tuple", d,.seq its n,sl⟩) (v:Vals xs its.toList) (z:its.size <= sizeLine):TupK K a xs:=⟨_,its,n,l,rfl,rfl,z,v⟩
noncomputable def inS (x:Str) (xs:List Str):Bool:=xs.any fun y=>y == x
theorem ZmA (x:Str) (xs:List Str):inV (.str x) (xs.map V.str)=inS x xs:=by
  unfold inV inS
  rw [List.any_map]
  rfl
section
variable {σ:St} {H:Hp} {Q:VK} {K:PySem.W.Frag} {p:Addr}
theorem ZbZ {x:Str} {xs:List Str} (h:SqT K H p (xs.map V.str)) (q:Q (.bl (inS x xs)) H):rIn K false (.str x) (.ref p) H Q:=by
  refine ⟨p,_,rfl,.inr h,rfl,?_,?_⟩
  . rw [List.all_map]
    exact List.all_eq_true.mpr fun _ _=>rfl
  . rw [if_neg (by decide),ZmA]
    exact q
theorem Zip {te:TE} {R:Hp->Prop} {lo:Int} {n:Nat} {ys:List V} (hp:H p=none) (hn:ys.length=n) (hz:n <= sizeLine)
    (he:∀ (i:Nat) (y:V) (H':Hp) (Q:VK),i < n->ys[i]?=some y->Same H H'->Q y H'->te (some (.int (lo + i)) :: σ) H' Q) (fin:R (upd H p (.lst ys))) :
    tLoopC 1 (gName 0) tNoIf te (Itr lo n) p R σ H:=by
  refine ⟨fun i m σ' H'=>m=n - i/\i <= n/\H'=upd H p (.lst (ys.take i))/\∃ v,σ'=v :: σ,⟨n,by omega,Nat.zero_le _,rfl,none,rfl⟩,?_⟩
  rintro i m σ' H' ⟨rfl,hi,rfl,v,rfl⟩
  by_cases hlt:i < n
  . refine .inr ⟨hlt,fun σ2 H2=>H2=upd H p (.lst (ys.take (i + 1)))/\∃ v,σ2=v :: σ,fun σ2 H2 ⟨e,v',e'⟩=>⟨n - (i + 1),by omega,rfl,hlt,e,v',e'⟩,fun x H1 ⟨e,y⟩=>?_⟩
    subst e y
    refine Zjd ?_
    simp only [tNoIf,if_true,List.set_cons_zero]
    have hyl:i < ys.length:=by omega
    refine he i ys[i] _ _ hlt (by simp [hyl]) (Same.new hp) ?_
    refine ⟨ys.take i,Zag,?_,?_,some _,rfl⟩
    . rw [List.length_take]; omega
    . rw [ZaS,List.take_succ_eq_append_getElem hyl]
  . have e:i=n:=by omega
    subst e
    refine .inl ⟨Nat.le_refl _,?_⟩
    rw [<- hn,List.take_length]
    exact fin
end
noncomputable def CalD (P:Program) (w:World) (K:PySem.W.Frag) (mg:Str->Option Value) (base:Heap) (k:Nat) (x:Str) (sp:Sp) (dvs:List V):Prop :=
  ∃ f fd ps ds,mg x=some (.ref f)/\FnOk P w K mg base CX0 k f fd ps sp/\PySem.W.keepIn K (.ref f)=true/\Binds K fd ps ds/\Vals dvs ds
theorem ZmB {X:Cx} {k:Nat} {x:Str} {sp:Sp} {dvs:List V} {p pos:Pos} {e:Expr} {es:List Expr} {t:TA} (c:CalD X.prog X.w X.K X.mg X.base k x sp dvs) (hr:Room k X.A) (hg:Gl X x) (ha:PA X (e :: es) t) (hdb:(x == ("__debug__" : Str))=false:=by decide)
    (he:starEach (e :: es) X.env=(false,eval e X.env) :: starEach es X.env:=by rfl) (hpl:(backTo pos (starEach es X.env)).any (·.1)=false:=by rfl) :
    PE X (.Call (.Name x p) (e :: es) [] pos) (tCall sp dvs E0 t):=by
  obtain ⟨f,fd,ps,ds,m,F,kp,b,v⟩:=c
  exact Zi2 F hr hg m kp b v pass0 ha hdb he hpl
noncomputable def isiSeq:Bool->String->Option Bool
  | true, "tuple" => some true
  | true, "list" => some false
  | true, "int" => some false
  | true, "bool" => some false
  | true, "str" => some false
  | false, "list" => some true
  | false, "tuple" => some false
  | false, "int" => some false
  | false, "bool" => some false
  | false, "str" => some false
  | _,_=>none
noncomputable def rIsiQ (K:PySem.W.Frag):RC:=fun xs H Q=>∃ a T ys b,xs=[.ref a,.ty T]/\((SqT K H a ys/\isiSeq true T=some b)\/(SqL K H a ys/\isiSeq false T=some b))/\Q (.bl b) H
theorem Zji {X:Cx}:CallR X (.builtin "isinstance") (rIsiQ X.K):=by
  intro pins s σ H xs us Q I r h
  obtain ⟨a,T,ys,b,rfl,e,q⟩:=h
  obtain ⟨u,v,rfl,ru,rv⟩:=vals2 r
  obtain rfl:v=Value.type T:=rv
  obtain rfl:u=Value.ref a:=ru
  have kp:∀ b o,s.heap.get? b=some o->s.heap.get? b=some o:=fun _ _ z=>z
  rcases e with ⟨hq,e⟩|⟨hq,e⟩
  . obtain ⟨its,rv,p,hz⟩:=I.tuple hq
    have p':s.heap.IsTuple a its.toArray:=p
    unfold isiSeq at e
    split at e <;> first
      | contradiction
      | (cases e; first
        | exact IsiPair.isTuple_tuple p' kp ⟨.bl true,H,I,rfl,q⟩
        | exact IsiPair.isTuple_list p' kp ⟨.bl false,H,I.tok _,rfl,q⟩
        | exact IsiPair.isTuple_int p' kp ⟨.bl false,H,I.tok _,rfl,q⟩
        | exact IsiPair.isTuple_bool p' kp ⟨.bl false,H,I.tok _,rfl,q⟩
        | exact IsiPair.isTuple_str p' kp ⟨.bl false,H,I.tok _,rfl,q⟩)
      | cases e
      | (rename_i z _; cases z)
  . obtain ⟨its,rv,p,hz⟩:=I.list hq
    have p':s.heap.IsList a its.toArray:=p.isList
    unfold isiSeq at e
    split at e <;> first
      | contradiction
      | (cases e; first
        | exact IsiPair.isList_list p' kp ⟨.bl true,H,I,rfl,q⟩
        | exact IsiPair.isList_tuple p' kp ⟨.bl false,H,I.tok _,rfl,q⟩
        | exact IsiPair.isList_int p' kp ⟨.bl false,H,I.tok _,rfl,q⟩
        | exact IsiPair.isList_bool p' kp ⟨.bl false,H,I.tok _,rfl,q⟩
        | exact IsiPair.isList_str p' kp ⟨.bl false,H,I.tok _,rfl,q⟩)
      | cases e
      | (rename_i z _; cases z)
noncomputable def rIsiA (K:PySem.W.Frag):RC:=fun xs H Q=>rIsi xs H Q\/rIsiQ K xs H Q
theorem ZdU {X:Cx}:CallR X (.builtin "isinstance") (rIsiA X.K):=cn_isi.or Zji
section
variable {H:Hp} {Q:VK} {K:PySem.W.Frag}
theorem ZmC {x:V} {T:String} {b:Bool} (e:isiV x T=some b) (q:Q (.bl b) H):rIsiA K [x,.ty T] H Q:=.inl ⟨x,T,b,rfl,e,q⟩
theorem ZmD {a:Addr} {T:String} {ys:List V} {b:Bool} (h:SqT K H a ys) (e:isiSeq true T=some b) (q:Q (.bl b) H):rIsiA K [.ref a,.ty T] H Q:=.inr ⟨a,T,ys,b,rfl,.inl ⟨h,e⟩,q⟩
theorem ZmE {a:Addr} {T:String} {ys:List V} {b:Bool} (h:SqL K H a ys) (e:isiSeq false T=some b) (q:Q (.bl b) H):rIsiA K [.ref a,.ty T] H Q:=.inr ⟨a,T,ys,b,rfl,.inr ⟨h,e⟩,q⟩
end
noncomputable def cV:Expr->Option V
  | .Constant (.int i) _ _=>some (.int i)
  | .Constant (.str x) _ _=>some (.str x)
  | _=>none
noncomputable def cVs:List Expr->Option (List V)
  | []=>some []
  | e :: es=>match cV e,cVs es with
    | some v,some vs=>some (v :: vs)
    | _,_=>none
noncomputable def tVals (vs:List V):TA:=fun _ H Q=>Q vs H
theorem pe_cV {X:Cx} {e:Expr} {v:V} (h:cV e=some v):PE X e (tC v)/\∀ es,starEach (e :: es) X.env=(false,eval e X.env) :: starEach es X.env:=by
  unfold cV at h
  split at h
  . cases h; exact ⟨Zae,fun _=>rfl⟩
  . cases h; exact ⟨Zas,fun _=>rfl⟩
  . cases h
theorem ZfV {X:Cx}:∀ {es:List Expr} {vs:List V},cVs es=some vs->PA X es (tVals vs)
  | [],vs,h=>by
    cases h
    exact fun _ _ _ _ H Q I h=>Calls.spliced_nil ⟨[],H,I,.nil,h⟩
  | e :: es,vs,h=>by
    unfold cVs at h
    cases he:cV e with
    | none=>rw [he] at h; cases h
    | some v =>
      cases hs:cVs es with
      | none=>rw [he,hs] at h; cases h
      | some us =>
        rw [he,hs] at h
        cases h
        obtain ⟨h1,h2⟩:=pe_cV (X:=X) he
        exact Zaa h1 (ZfV hs) (h2 es)
theorem ZmF {σ:St} {H:Hp} {vs:List V} {R:List V->Hp->Prop} (q:R vs H):tVals vs σ H R:=q
section
variable {σ:St} {H:Hp} {Q:VK} {P:Program} {w:World} {K:PySem.W.Frag} {td ty:TE}
end
noncomputable def rDK (P:Program) (w:World) (K:PySem.W.Frag):R2:=fun x y H Q=>∃ a vs k u v,x=.ref a/\y=kV k/\ZcT P w K a vs/\valueAt vs k=some u/\RelV v u/\Q v H
theorem ZeD {X:Cx} {o i:Expr} {td ty:TE} {pos:Pos} (ho:PE X o td) (hi:PE X i ty) (hs:NoSl i):PE X (.Subscript o i pos) (tOp (rDK X.prog X.w X.K) td ty):=ZkP ho hi hs
section
variable {H:Hp} {Q:VK} {P:Program} {w:World} {K:PySem.W.Frag}
theorem Zjj {a:Addr} {vs:List (Key × Value)} {x:Str} {u:Value} {v:V} (dk:ZcT P w K a vs) (hv:valueAt vs (.inr x)=some u) (r:RelV v u) (q:Q v H):rDK P w K (.ref a) (.str x) H Q:=⟨a,vs,.inr x,u,v,rfl,rfl,dk,hv,r,q⟩
end
section
variable {CX:CXT} {P:Program} {w:World} {K:PySem.W.Frag} {mg:Str->Option Value} {base:Heap} {N:List Str} {q:Str} {sc:Scope} {f:Addr} {cd:Value} {A:Around} {outer:List Env} {s:Shared} {H:Hp} {E:XK}
theorem cxOf_K:(cxOf CX P w K mg base N q sc f cd A outer s H E).K=K:=rfl
theorem cxOf_P:(cxOf CX P w K mg base N q sc f cd A outer s H E).prog=P:=rfl
theorem cxOf_w:(cxOf CX P w K mg base N q sc f cd A outer s H E).w=w:=rfl
theorem ZmG:(cxOf CX P w K mg base N q sc f cd A outer s H E).mg=mg:=rfl
theorem Zjk:(cxOf CX P w K mg base N q sc f cd A outer s H E).base=base:=rfl
end
theorem ZkS:Vals [] []:=.nil
theorem ZkT {i:Int} {t:Tok} {xs:List V} {us:List Value} (h:Vals xs us):Vals (.int i :: xs) (.int i t :: us):=.cons ⟨t,rfl⟩ h
theorem ZkU {x:Str} {t:Tok} {xs:List V} {us:List Value} (h:Vals xs us):Vals (.str x :: xs) (.str x t :: us):=.cons ⟨t,rfl⟩ h
theorem Zjl {K:PySem.W.Frag} {h:Heap} {mg:Str->Option Value} {x:Str} {i:Addr} {xs:List V} {d:Option Addr} {its:Array Value} {n:Nat} {sl:Array (Option Value)} (X:K.In h) (G:h.Ns mainGlobals mg) (a:PySem.W.nsIn K mainGlobals x=some (some (.ref i)))
    (l:K.lookup i=some ⟨.type "tuple", d,.seq its n,sl⟩) (v:Vals xs its.toList) (z:its.size <= sizeLine):∃ a,ZaV mg x (.ref a)/\TupK K a xs:=⟨i,Zcs X G a,ZaJ l v z⟩
structure FunD (K:PySem.W.Frag) (x qual:Str) (st:Stmt) (items:Array Value) (f:Addr) (fd:FuncData):Prop where
  ex:∃ (oc:Value) (od:Option Addr) (T:Addr) (kV doc pm:Value) (an:Option Addr) (cdv ct:Value) (osl:Array (Option Value)) (o:Obj) (n:Nat),
    fd=PySem.W.fnOf x qual (Zaw st) (Zar st) (Zab st) (.ref T) kV doc pm an cdv ct/\K.lookup f=some ⟨oc,od,.func fd,osl⟩/\PySem.W.codeIn K cdv qual=true/\K.lookup T=some o/\o.data=.seq items n
  kp:PySem.W.keepIn K (.ref f)=true
noncomputable def Zjm (K:PySem.W.Frag) (mg:Str->Option Value) (x:Str) (st:Stmt) (items:Array Value):Prop:=∃ f fd,FunD K x x st items f fd/\mg x=some (.ref f)
theorem Zjn {K:PySem.W.Frag} {h:Heap} {mg:Str->Option Value} {x:Str} {st:Stmt} {f T:Addr} {oc c2:Value} {od an d2:Option Addr} {osl s2:Array (Option Value)} {kV doc pm cdv ct:Value} {items:Array Value} {n:Nat} (X:K.In h) (G:h.Ns mainGlobals mg)
    (a:PySem.W.nsIn K mainGlobals x=some (some (.ref f))) (l:K.lookup f=some ⟨oc,od,.func (PySem.W.fnOf x x (Zaw st) (Zar st) (Zab st) (.ref T) kV doc pm an cdv ct),osl⟩)
    (c:PySem.W.codeIn K cdv x=true) (k:PySem.W.keepIn K (.ref f)=true) (d:K.lookup T=some ⟨c2,d2,.seq items n,s2⟩):Zjm K mg x st items :=
  ⟨f,_,⟨⟨oc,od,T,kV,doc,pm,an,cdv,ct,osl,_,n,rfl,l,c,d,rfl⟩,k⟩,PySem.W.mg_of X G a⟩
section
variable {P:Program} {w:World} {K:PySem.W.Frag} {mg:Str->Option Value} {base:Heap}
theorem FunD.fn {x qual:Str} {st:Stmt} {items:Array Value} {f:Addr} {fd:FuncData} {N ps:List Str} {k:Nat} {sp:Sp} (F:FunD K x qual st items f fd) (S:FnScope N ps (Zab st)) (len:∀ vs H Q E,sp vs H Q E->vs.length=ps.length)
    (hbody:∀ (cdv:Value) (A:Around) (outer:List Env) (s:Shared) (H:Hp) (vs:List V) (Q:VK) (E:XK),Room k (A.deeper (envOfC qual (Zab st) s.heap.objs.size f cdv))->sp vs H Q E ->
      ∃ t,PSs (cxOf CX0 P w K mg base N qual (Zab st) f cdv A outer s H E).nox (Zar st) t/\t { nx:=fun _ H'=>Q .non H',rt:=Q } (start N vs) H):FnOk P w K mg base CX0 (k + 1) f fd ps sp:=by
  obtain ⟨oc,od,T,kV,doc,pm,an,cdv,ct,osl,o,n,rfl,lk,hcd,lt,ld⟩:=F.ex
  refine fn_of lk hcd S len fun A outer s H vs Q E hr hsp=>?_
  obtain ⟨t,h,q⟩:=hbody cdv A outer s H vs Q E hr hsp
  exact ⟨t,h.nox,q⟩
theorem FunD.binds {x qual:Str} {st:Stmt} {items:Array Value} {f:Addr} {fd:FuncData} {ps:List Str} (F:FunD K x qual st items f fd) (ds:List Value)
    (h:∀ (T:Addr) (kV doc pm:Value) (an:Option Addr) (cdv ct:Value) (us:List Value),(us ++ ds).length=ps.length->∃ k:Option (Array Value)->Sem (List (Str × Value)),bindArgs (PySem.W.fnOf x qual (Zaw st) (Zar st) (Zab st) (.ref T) kV doc pm an cdv ct) ⟨us,[]⟩=seqItems? (.ref T) >>= k/\k (some items)=pure (ps.zip (us ++ ds))):Binds K fd ps ds:=by
  obtain ⟨oc,od,T,kV,doc,pm,an,cdv,ct,osl,o,n,rfl,lk,hcd,lt,ld⟩:=F.ex
  intro s us X hl
  obtain ⟨k,h1,h2⟩:=h T kV doc pm an cdv ct us hl
  exact BindsTo.of_defaults (fd:=PySem.W.fnOf x qual (Zaw st) (Zar st) (Zab st) (.ref T) kV doc pm an cdv ct) rfl (X _ _ lt) ld h1 h2
end
end L2
namespace L2
open PySem PySem.Spec PyProof.Rows PySem.SeqAt
inductive Dt where
  | non
  | bl (b:Bool)
  | int (i:Int)
  | str (x:Str)
  | lst (ds:List Dt)
  | tup (ds:List Dt)
mutual
noncomputable def Dt.eq:Dt->Dt->Bool
  | .non,.non=>true
  | .bl a,.bl b=>a == b
  | .bl a,.int b=>(if a then 1 else 0) == b
  | .int a,.bl b=>a == (if b then 1 else 0)
  | .int a,.int b=>a == b
  | .str a,.str b=>a == b
  | .lst a,.lst b=>Dt.eqs a b
  | .tup a,.tup b=>Dt.eqs a b
  | _,_=>false
noncomputable def Dt.eqs:List Dt->List Dt->Bool
  | [],[]=>true
  | a :: r,b :: t=>Dt.eq a b && Dt.eqs r t
  | _,_=>false
end
mutual
noncomputable def Dt.dep:Dt->Nat
  | .lst ds=>Dt.deps ds + 1
  | .tup ds=>Dt.deps ds + 1
  | _=>0
noncomputable def Dt.deps:List Dt->Nat
  | []=>0
  | d :: r=>max (Dt.dep d) (Dt.deps r)
end
mutual
noncomputable def DV (K:PySem.W.Frag) (H:Hp):Dt->V->Prop
  | .non,v=>v=.non
  | .bl b,v=>v=.bl b
  | .int i,v=>v=.int i
  | .str x,v=>v=.str x
  | .lst ds,v=>∃ a xs,v=.ref a/\SqL K H a xs/\DVs K H ds xs
  | .tup ds,v=>∃ a xs,v=.ref a/\SqT K H a xs/\DVs K H ds xs
noncomputable def DVs (K:PySem.W.Frag) (H:Hp):List Dt->List V->Prop
  | [],xs=>xs=[]
  | d :: r,xs=>∃ x t,xs=x :: t/\DV K H d x/\DVs K H r t
end
theorem DVs.length {K:PySem.W.Frag} {H:Hp}:∀ {ds:List Dt} {xs:List V},DVs K H ds xs->ds.length=xs.length
  | [],xs,h=>by unfold DVs at h; subst h; rfl
  | d :: r,xs,h=>by
    unfold DVs at h
    obtain ⟨x,t,rfl,_,h⟩:=h
    rw [List.length_cons,List.length_cons,DVs.length h]
theorem DVs.get {K:PySem.W.Frag} {H:Hp}:∀ {ds:List Dt} {xs:List V} {i:Nat} {d:Dt} {x:V},DVs K H ds xs->ds[i]?=some d->xs[i]?=some x->DV K H d x
  | [],xs,i,d,x,h,e,_=>by simp at e
  | d0 :: r,xs,i,d,x,h,e1,e2=>by
    unfold DVs at h
    obtain ⟨x0,t,rfl,h0,h⟩:=h
    cases i with
    | zero=>simp at e1 e2; subst e1 e2; exact h0
    | succ i=>exact DVs.get (i:=i) h (by simpa using e1) (by simpa using e2)
theorem Dt.dep_le:∀ {ds:List Dt} {i:Nat} {d:Dt},ds[i]?=some d->d.dep <= Dt.deps ds
  | [],i,d,e=>by simp at e
  | d0 :: r,i,d,e=>by
    unfold Dt.deps
    cases i with
    | zero=>simp at e; subst e; exact Nat.le_max_left _ _
    | succ i=>exact Nat.le_trans (Dt.dep_le (i:=i) (by simpa using e)) (Nat.le_max_right _ _)
theorem Dt.eqs_range:∀ (ds es:List Dt),ds.length=es.length->(List.range ds.length).all (fun j=>Dt.eq (ds.getD j .non) (es.getD j .non))=Dt.eqs ds es
  | [],[],_=>by unfold Dt.eqs; rfl
  | d :: r,e :: t,h=>by
    have ih:=Dt.eqs_range r t (by simpa using h)
    rw [List.length_cons,List.range_succ_eq_map,List.all_cons,List.all_map]
    unfold Dt.eqs
    rw [<- ih]
    rfl
  | [],_ :: _,h=>by simp at h
  | _ :: _,[],h=>by simp at h
theorem Dt.eqs_len:∀ (ds es:List Dt),ds.length ≠ es.length->Dt.eqs ds es=false
  | [],[],h=>absurd rfl h
  | d :: r,e :: t,h=>by
    unfold Dt.eqs
    rw [Dt.eqs_len r t (by simpa using h),Bool.and_false]
  | [],_ :: _,_=>by unfold Dt.eqs; rfl
  | _ :: _,[],_=>by unfold Dt.eqs; rfl
section
variable {X:Cx} {pins:List (Addr × Obj)} {σ:St} {H:Hp} {s:Shared}
theorem DV.same (I:Inv X pins σ H s):∀ (n:Nat) (d e:Dt) (x:V),d.dep <= n->DV X.K H d x->DV X.K H e x->Dt.eq d e=true:=by
  intro n
  induction n with
  | zero =>
    intro d e x hn h1 h2
    cases d with
    | lst ds=>unfold Dt.dep at hn; omega
    | tup ds=>unfold Dt.dep at hn; omega
    | non=>unfold DV at h1; subst h1; cases e <;> unfold DV at h2 <;> first|(cases h2; done)|(obtain ⟨_,_,z,_⟩:=h2; cases z; done)|(unfold Dt.eq; rfl)
    | bl b=>unfold DV at h1; subst h1; cases e <;> unfold DV at h2 <;> first|(cases h2; unfold Dt.eq; simp; done)|(obtain ⟨_,_,z,_⟩:=h2; cases z; done)|(cases h2; done)
    | int b=>unfold DV at h1; subst h1; cases e <;> unfold DV at h2 <;> first|(cases h2; unfold Dt.eq; simp; done)|(obtain ⟨_,_,z,_⟩:=h2; cases z; done)|(cases h2; done)
    | str b=>unfold DV at h1; subst h1; cases e <;> unfold DV at h2 <;> first|(cases h2; unfold Dt.eq; simp; done)|(obtain ⟨_,_,z,_⟩:=h2; cases z; done)|(cases h2; done)
  | succ n ih =>
    intro d e x hn h1 h2
    have lists:∀ (ds es:List Dt) (xs:List V),Dt.deps ds <= n->DVs X.K H ds xs->DVs X.K H es xs->Dt.eqs ds es=true:=by
      intro ds es xs hd a b
      have l1:=a.length
      have l2:=b.length
      rw [<- Dt.eqs_range ds es (l1.trans l2.symm),List.all_eq_true]
      intro j hj
      have hj':j < ds.length:=List.mem_range.mp hj
      have e1:ds[j]?=some ds[j]:=List.getElem?_eq_getElem hj'
      have e2:es[j]?=some (es[j]'(by omega)):=List.getElem?_eq_getElem (by omega)
      have e3:xs[j]?=some (xs[j]'(by omega)):=List.getElem?_eq_getElem (by omega)
      rw [List.getD_eq_getElem?_getD,List.getD_eq_getElem?_getD,e1,e2]
      exact ih _ _ _ (Nat.le_trans (Dt.dep_le e1) hd) (a.get e1 e3) (b.get e2 e3)
    cases d with
    | lst ds =>
      unfold Dt.dep at hn
      unfold DV at h1
      obtain ⟨a,xs,rfl,q1,r1⟩:=h1
      cases e with
      | lst es =>
        unfold DV at h2
        obtain ⟨b,ys,z,q2,r2⟩:=h2
        cases z
        rw [I.list_inj q2 q1] at r2
        unfold Dt.eq
        exact lists ds es xs (by omega) r1 r2
      | tup es =>
        unfold DV at h2
        obtain ⟨b,ys,z,q2,r2⟩:=h2
        cases z
        obtain ⟨i1,_,p1,_⟩:=I.list q1
        obtain ⟨i2,_,p2,_⟩:=I.tuple q2
        obtain ⟨o1,g1,c1,_⟩:=p1.isList
        have p2':s.heap.IsTuple a i2.toArray:=p2
        obtain ⟨o2,g2,c2,_⟩:=p2'
        rw [g1] at g2
        cases g2
        rw [c1] at c2
        exact absurd c2 (by decide)
      | non=>unfold DV at h2; cases h2
      | bl b=>unfold DV at h2; cases h2
      | int b=>unfold DV at h2; cases h2
      | str b=>unfold DV at h2; cases h2
    | tup ds =>
      unfold Dt.dep at hn
      unfold DV at h1
      obtain ⟨a,xs,rfl,q1,r1⟩:=h1
      cases e with
      | tup es =>
        unfold DV at h2
        obtain ⟨b,ys,z,q2,r2⟩:=h2
        cases z
        rw [I.tuple_inj q2 q1] at r2
        unfold Dt.eq
        exact lists ds es xs (by omega) r1 r2
      | lst es =>
        unfold DV at h2
        obtain ⟨b,ys,z,q2,r2⟩:=h2
        cases z
        obtain ⟨i1,_,p1,_⟩:=I.list q2
        obtain ⟨i2,_,p2,_⟩:=I.tuple q1
        obtain ⟨o1,g1,c1,_⟩:=p1.isList
        have p2':s.heap.IsTuple a i2.toArray:=p2
        obtain ⟨o2,g2,c2,_⟩:=p2'
        rw [g1] at g2
        cases g2
        rw [c1] at c2
        exact absurd c2 (by decide)
      | non=>unfold DV at h2; cases h2
      | bl b=>unfold DV at h2; cases h2
      | int b=>unfold DV at h2; cases h2
      | str b=>unfold DV at h2; cases h2
    | non=>exact ih _ e x (by unfold Dt.dep; omega) h1 h2
    | bl b=>exact ih _ e x (by unfold Dt.dep; omega) h1 h2
    | int b=>exact ih _ e x (by unfold Dt.dep; omega) h1 h2
    | str b=>exact ih _ e x (by unfold Dt.dep; omega) h1 h2
end
end L2
namespace L2
open PySem PySem.Spec PyProof.Rows PySem.SeqAt
section
variable {X:Cx} {pins:List (Addr × Obj)} {σ:St} {H:Hp} {s:Shared}
theorem ZfW {K:PySem.W.Frag} {ds:List Dt} {xs:List V} {its:List Value} (h:DVs K H ds xs) (rv:Vals xs its) {j:Nat} (hj:j < its.toArray.size):∃ d x,ds[j]?=some d/\xs[j]?=some x/\DV K H d x/\RelV x (its.toArray[j])/\ds.getD j .non=d:=by
  have hj':j < its.length:=by simpa using hj
  have l1:=h.length
  have l2:=rv.length
  have e1:ds[j]?=some (ds[j]'(by omega)):=List.getElem?_eq_getElem (by omega)
  have e2:xs[j]?=some (xs[j]'(by omega)):=List.getElem?_eq_getElem (by omega)
  obtain ⟨u,hu,ru⟩:=rv.get e2
  refine ⟨_,_,e1,e2,h.get e1 e2,?_,by rw [List.getD_eq_getElem?_getD,e1]; rfl⟩
  have:its.toArray[j]=u:=by
    have q:its[j]?=some its[j]:=List.getElem?_eq_getElem hj'
    rw [q] at hu
    simpa using Option.some.inj hu
  rw [this]
  exact ru
theorem Zjo (A:Around):A.in1.units=A.units + 1:=rfl
theorem eq_all (I:Inv X pins σ H s):∀ (n:Nat) (d e:Dt) (x y:V) (u v:Value) (A:Around),d.dep <= n->A.units + n < cLine->DV X.K H d x->DV X.K H e y->RelV x u->RelV y v ->
    EqAt A s u v (Dt.eq d e)/\RcAt A s u v (Dt.eq d e)/\RcNeAt A s u v (!Dt.eq d e):=by
  intro n
  induction n with
  | zero =>
    intro d e x y u v A hn hA h1 h2 r1 r2
    have hu:A.units < cLine:=by omega
    cases d with
    | lst ds=>unfold Dt.dep at hn; omega
    | tup ds=>unfold Dt.dep at hn; omega
    | non =>
      unfold DV at h1; subst h1; cases r1
      cases e <;> unfold DV at h2
      case lst es=>obtain ⟨a,xs,rfl,q,_⟩:=h2; cases r2; obtain ⟨its,_,p,_⟩:=I.list q; unfold Dt.eq; exact ⟨EqAt.none_list p.isList hu,RcAt.none_list p.isList hu,RcNeAt.none_list p.isList hu⟩
      case tup es=>obtain ⟨a,xs,rfl,q,_⟩:=h2; cases r2; obtain ⟨its,_,p,_⟩:=I.tuple q; unfold Dt.eq; exact ⟨EqAt.none_tuple (show s.heap.IsTuple a its.toArray from p) hu,RcAt.none_tuple (show s.heap.IsTuple a its.toArray from p) hu,RcNeAt.none_tuple (show s.heap.IsTuple a its.toArray from p) hu⟩
      case non=>subst h2; cases r2; unfold Dt.eq; exact ⟨EqAt.same _,RcAt.none_none,RcNeAt.none_none⟩
      case bl b=>subst h2; cases r2; unfold Dt.eq; exact ⟨EqAt.none_bool _,RcAt.none_bool _,RcNeAt.none_bool _⟩
      case int b=>subst h2; obtain ⟨t,rfl⟩:=r2; unfold Dt.eq; exact ⟨EqAt.none_int _ _,RcAt.none_int _ _,RcNeAt.none_int _ _⟩
      case str b=>subst h2; obtain ⟨t,rfl⟩:=r2; unfold Dt.eq; exact ⟨EqAt.none_str _ _,RcAt.none_str _ _,RcNeAt.none_str _ _⟩
    | bl b0 =>
      unfold DV at h1; subst h1; cases r1
      cases e <;> unfold DV at h2
      case lst es=>obtain ⟨a,xs,rfl,q,_⟩:=h2; cases r2; obtain ⟨its,_,p,_⟩:=I.list q; unfold Dt.eq; exact ⟨EqAt.bool_list _ p.isList hu,RcAt.bool_list _ p.isList hu,RcNeAt.bool_list _ p.isList hu⟩
      case tup es=>obtain ⟨a,xs,rfl,q,_⟩:=h2; cases r2; obtain ⟨its,_,p,_⟩:=I.tuple q; unfold Dt.eq; exact ⟨EqAt.bool_tuple _ (show s.heap.IsTuple a its.toArray from p) hu,RcAt.bool_tuple _ (show s.heap.IsTuple a its.toArray from p) hu,RcNeAt.bool_tuple _ (show s.heap.IsTuple a its.toArray from p) hu⟩
      case non=>subst h2; cases r2; unfold Dt.eq; exact ⟨EqAt.bool_none _,RcAt.bool_none _,RcNeAt.bool_none _⟩
      case bl b=>subst h2; cases r2; unfold Dt.eq; exact ⟨EqAt.bool_bool _ _,RcAt.bool_bool _ _,RcNeAt.bool_bool _ _⟩
      case int b=>subst h2; obtain ⟨t,rfl⟩:=r2; unfold Dt.eq; exact ⟨EqAt.bool_int _ _ _,RcAt.bool_int _ _ _,RcNeAt.bool_int _ _ _⟩
      case str b=>subst h2; obtain ⟨t,rfl⟩:=r2; unfold Dt.eq; exact ⟨EqAt.bool_str _ _ _,RcAt.bool_str _ _ _,RcNeAt.bool_str _ _ _⟩
    | int b0 =>
      unfold DV at h1; subst h1; obtain ⟨t0,rfl⟩:=r1
      cases e <;> unfold DV at h2
      case lst es=>obtain ⟨a,xs,rfl,q,_⟩:=h2; cases r2; obtain ⟨its,_,p,_⟩:=I.list q; unfold Dt.eq; exact ⟨EqAt.int_list _ _ p.isList hu,RcAt.int_list _ _ p.isList hu,RcNeAt.int_list _ _ p.isList hu⟩
      case tup es=>obtain ⟨a,xs,rfl,q,_⟩:=h2; cases r2; obtain ⟨its,_,p,_⟩:=I.tuple q; unfold Dt.eq; exact ⟨EqAt.int_tuple _ _ (show s.heap.IsTuple a its.toArray from p) hu,RcAt.int_tuple _ _ (show s.heap.IsTuple a its.toArray from p) hu,RcNeAt.int_tuple _ _ (show s.heap.IsTuple a its.toArray from p) hu⟩
      case non=>subst h2; cases r2; unfold Dt.eq; exact ⟨EqAt.int_none _ _,RcAt.int_none _ _,RcNeAt.int_none _ _⟩
      case bl b=>subst h2; cases r2; unfold Dt.eq; exact ⟨EqAt.int_bool _ _ _,RcAt.int_bool _ _ _,RcNeAt.int_bool _ _ _⟩
      case int b=>subst h2; obtain ⟨t,rfl⟩:=r2; unfold Dt.eq; exact ⟨EqAt.int_int _ _ _ _,RcAt.int_int _ _ _ _,RcNeAt.int_int _ _ _ _⟩
      case str b=>subst h2; obtain ⟨t,rfl⟩:=r2; unfold Dt.eq; exact ⟨EqAt.int_str _ _ _ _,RcAt.int_str _ _ _ _,RcNeAt.int_str _ _ _ _⟩
    | str b0 =>
      unfold DV at h1; subst h1; obtain ⟨t0,rfl⟩:=r1
      cases e <;> unfold DV at h2
      case lst es=>obtain ⟨a,xs,rfl,q,_⟩:=h2; cases r2; obtain ⟨its,_,p,_⟩:=I.list q; unfold Dt.eq; exact ⟨EqAt.str_list _ _ p.isList hu,RcAt.str_list _ _ p.isList hu,RcNeAt.str_list _ _ p.isList hu⟩
      case tup es=>obtain ⟨a,xs,rfl,q,_⟩:=h2; cases r2; obtain ⟨its,_,p,_⟩:=I.tuple q; unfold Dt.eq; exact ⟨EqAt.str_tuple _ _ (show s.heap.IsTuple a its.toArray from p) hu,RcAt.str_tuple _ _ (show s.heap.IsTuple a its.toArray from p) hu,RcNeAt.str_tuple _ _ (show s.heap.IsTuple a its.toArray from p) hu⟩
      case non=>subst h2; cases r2; unfold Dt.eq; exact ⟨EqAt.str_none _ _,RcAt.str_none _ _,RcNeAt.str_none _ _⟩
      case bl b=>subst h2; cases r2; unfold Dt.eq; exact ⟨EqAt.str_bool _ _ _,RcAt.str_bool _ _ _,RcNeAt.str_bool _ _ _⟩
      case int b=>subst h2; obtain ⟨t,rfl⟩:=r2; unfold Dt.eq; exact ⟨EqAt.str_int _ _ _ _,RcAt.str_int _ _ _ _,RcNeAt.str_int _ _ _ _⟩
      case str b=>subst h2; obtain ⟨t,rfl⟩:=r2; unfold Dt.eq; exact ⟨EqAt.str_str _ _ _ _,RcAt.str_str _ _ _ _,RcNeAt.str_str _ _ _ _⟩
  | succ n ih =>
    intro d e x y u v A hn hA h1 h2 r1 r2
    have hu:A.units < cLine:=by omega
    have wrap:∀ (a b:Addr),u=.ref a->v=.ref b->x=.ref a->y=.ref b->RcAt A s u v (Dt.eq d e)->EqAt A s u v (Dt.eq d e):=fun a b eu ev ex ey rc=>by
      subst eu ev ex ey
      by_cases hab:a=b
      . subst hab
        rw [DV.same I (n + 1) d e (.ref a) hn h1 h2]
        exact EqAt.same _
      . exact EqAt.of_refs hab rc
    have items:∀ (ds es:List Dt) (xs ys:List V) (its jts:List Value),Dt.deps ds <= n->DVs X.K H ds xs->DVs X.K H es ys->Vals xs its->Vals ys jts ->
        ∀ j (g1:j < its.toArray.size) (g2:j < jts.toArray.size),EqAt A.in1 s its.toArray[j] jts.toArray[j] (Dt.eq (ds.getD j .non) (es.getD j .non)):=by
      intro ds es xs ys its jts hd a b ra rb j g1 g2
      obtain ⟨d',x',e1,_,v1,q1,z1⟩:=ZfW a ra g1
      obtain ⟨d'',x'',e2,_,v2,q2,z2⟩:=ZfW b rb g2
      rw [z1,z2]
      exact (ih d' d'' x' x'' _ _ A.in1 (Nat.le_trans (Dt.dep_le e1) hd) (by rw [Zjo]; omega) v1 v2 q1 q2).1
    cases d with
    | lst ds =>
      unfold Dt.dep at hn
      unfold DV at h1
      obtain ⟨a,xs,rfl,q1,w1⟩:=id h1
      cases r1
      obtain ⟨its,rv,p,_⟩:=I.list q1
      cases e with
      | lst es =>
        unfold DV at h2
        obtain ⟨b,ys,rfl,q2,w2⟩:=id h2
        cases r2
        obtain ⟨jts,rv2,p2,_⟩:=I.list q2
        have rcs:RcAt A s (.ref a) (.ref b) (Dt.eq (.lst ds) (.lst es))/\RcNeAt A s (.ref a) (.ref b) (!Dt.eq (.lst ds) (.lst es)):=by
          unfold Dt.eq
          have l1:its.toArray.size=ds.length:=by rw [List.size_toArray,<- rv.length,w1.length]
          have l2:jts.toArray.size=es.length:=by rw [List.size_toArray,<- rv2.length,w2.length]
          by_cases hl:ds.length=es.length
          . have hi:=items ds es xs ys its jts (by omega) w1 w2 rv rv2
            rw [<- Dt.eqs_range ds es hl,<- l1]
            exact ⟨RcAt.lists p.isList p2.isList (by omega) hu hi,RcNeAt.lists p.isList p2.isList (by omega) hu hi⟩
          . have hne:(its.toArray.size != jts.toArray.size)=true:=by rw [l1,l2]; simpa using hl
            rw [Dt.eqs_len ds es hl]
            exact ⟨RcAt.lists_lengths p.isList p2.isList hne hu,RcNeAt.lists_lengths p.isList p2.isList hne hu⟩
        exact ⟨wrap a b rfl rfl rfl rfl rcs.1,rcs⟩
      | tup es =>
        unfold DV at h2
        obtain ⟨b,ys,rfl,q2,w2⟩:=id h2
        cases r2
        obtain ⟨jts,rv2,p2,_⟩:=I.tuple q2
        have p2':s.heap.IsTuple b jts.toArray:=p2
        unfold Dt.eq
        exact ⟨EqAt.list_tuple p.isList p2' hu,RcAt.list_tuple p.isList p2' hu,RcNeAt.list_tuple p.isList p2' hu⟩
      | non=>unfold DV at h2; subst h2; cases r2; unfold Dt.eq; exact ⟨EqAt.list_none p.isList hu,RcAt.list_none p.isList hu,RcNeAt.list_none p.isList hu⟩
      | bl b=>unfold DV at h2; subst h2; cases r2; unfold Dt.eq; exact ⟨EqAt.list_bool _ p.isList hu,RcAt.list_bool _ p.isList hu,RcNeAt.list_bool _ p.isList hu⟩
      | int b=>unfold DV at h2; subst h2; obtain ⟨t,rfl⟩:=r2; unfold Dt.eq; exact ⟨EqAt.list_int _ _ p.isList hu,RcAt.list_int _ _ p.isList hu,RcNeAt.list_int _ _ p.isList hu⟩
      | str b=>unfold DV at h2; subst h2; obtain ⟨t,rfl⟩:=r2; unfold Dt.eq; exact ⟨EqAt.list_str _ _ p.isList hu,RcAt.list_str _ _ p.isList hu,RcNeAt.list_str _ _ p.isList hu⟩
    | tup ds =>
      unfold Dt.dep at hn
      unfold DV at h1
      obtain ⟨a,xs,rfl,q1,w1⟩:=id h1
      cases r1
      obtain ⟨its,rv,p0,_⟩:=I.tuple q1
      have p:s.heap.IsTuple a its.toArray:=p0
      cases e with
      | tup es =>
        unfold DV at h2
        obtain ⟨b,ys,rfl,q2,w2⟩:=id h2
        cases r2
        obtain ⟨jts,rv2,p20,_⟩:=I.tuple q2
        have p2:s.heap.IsTuple b jts.toArray:=p20
        have l1:its.toArray.size=ds.length:=by rw [List.size_toArray,<- rv.length,w1.length]
        have l2:jts.toArray.size=es.length:=by rw [List.size_toArray,<- rv2.length,w2.length]
        have hi:=items ds es xs ys its jts (by omega) w1 w2 rv rv2
        have ev:((List.range (min its.toArray.size jts.toArray.size)).all (fun j=>Dt.eq (ds.getD j .non) (es.getD j .non)) && its.toArray.size == jts.toArray.size)=Dt.eqs ds es:=by
          rw [l1,l2]
          by_cases hl:ds.length=es.length
          . rw [<- Dt.eqs_range ds es hl,hl,Nat.min_self]
            simp
          . rw [Dt.eqs_len ds es hl]
            simp [hl]
        have rcs:RcAt A s (.ref a) (.ref b) (Dt.eq (.tup ds) (.tup es))/\RcNeAt A s (.ref a) (.ref b) (!Dt.eq (.tup ds) (.tup es)):=by
          unfold Dt.eq
          rw [<- ev]
          exact ⟨RcAt.tuples p p2 hu hi,RcNeAt.tuples p p2 hu hi⟩
        exact ⟨wrap a b rfl rfl rfl rfl rcs.1,rcs⟩
      | lst es =>
        unfold DV at h2
        obtain ⟨b,ys,rfl,q2,w2⟩:=id h2
        cases r2
        obtain ⟨jts,rv2,p2,_⟩:=I.list q2
        unfold Dt.eq
        exact ⟨EqAt.tuple_list p p2.isList hu,RcAt.tuple_list p p2.isList hu,RcNeAt.tuple_list p p2.isList hu⟩
      | non=>unfold DV at h2; subst h2; cases r2; unfold Dt.eq; exact ⟨EqAt.tuple_none p hu,RcAt.tuple_none p hu,RcNeAt.tuple_none p hu⟩
      | bl b=>unfold DV at h2; subst h2; cases r2; unfold Dt.eq; exact ⟨EqAt.tuple_bool _ p hu,RcAt.tuple_bool _ p hu,RcNeAt.tuple_bool _ p hu⟩
      | int b=>unfold DV at h2; subst h2; obtain ⟨t,rfl⟩:=r2; unfold Dt.eq; exact ⟨EqAt.tuple_int _ _ p hu,RcAt.tuple_int _ _ p hu,RcNeAt.tuple_int _ _ p hu⟩
      | str b=>unfold DV at h2; subst h2; obtain ⟨t,rfl⟩:=r2; unfold Dt.eq; exact ⟨EqAt.tuple_str _ _ p hu,RcAt.tuple_str _ _ p hu,RcNeAt.tuple_str _ _ p hu⟩
    | non=>exact ih _ e x y u v A (by unfold Dt.dep; omega) (by omega) h1 h2 r1 r2
    | bl b=>exact ih _ e x y u v A (by unfold Dt.dep; omega) (by omega) h1 h2 r1 r2
    | int b=>exact ih _ e x y u v A (by unfold Dt.dep; omega) (by omega) h1 h2 r1 r2
    | str b=>exact ih _ e x y u v A (by unfold Dt.dep; omega) (by omega) h1 h2 r1 r2
end
noncomputable def rEqD (K:PySem.W.Frag):R2:=fun x y H Q=>∃ d e,DV K H d x/\DV K H e y/\d.dep <= 64/\Q (.bl (Dt.eq d e)) H
section
variable {X:Cx}
theorem op_eqD (hu:X.A.units + 64 < cLine):OpR X (compareOp .Eq) (rEqD X.K):=by
  intro pins s σ H x y v u Q I rx ry h
  obtain ⟨d,e,h1,h2,hd,q⟩:=h
  exact (eq_all I 64 d e x y v u X.A hd hu h1 h2 rx ry).2.1 _ _ _ _ ⟨.bl (Dt.eq d e),H,I,rfl,q⟩
end
noncomputable def Dt.ints (ns:List Int):List Dt:=ns.map Dt.int
theorem dvs_ints {K:PySem.W.Frag} {H:Hp}:∀ ns:List Int,DVs K H (Dt.ints ns) (ns.map V.int)
  | []=>by unfold Dt.ints DVs; rfl
  | n :: r=>by
    show DVs K H (Dt.int n :: Dt.ints r) (V.int n :: r.map V.int)
    unfold DVs
    exact ⟨_,_,rfl,by unfold DV; rfl,dvs_ints r⟩
theorem deps_ints:∀ ns:List Int,Dt.deps (Dt.ints ns)=0
  | []=>by unfold Dt.ints Dt.deps; rfl
  | n :: r=>by
    show Dt.deps (Dt.int n :: Dt.ints r)=0
    unfold Dt.deps
    rw [deps_ints r]
    unfold Dt.dep
    rfl
section
variable {H:Hp} {Q:VK} {K:PySem.W.Frag} {a b:Addr}
end
mutual
theorem DV.keep {K:PySem.W.Frag} {H H':Hp} (s:Same H H'):∀ {d:Dt} {v:V},DV K H d v->DV K H' d v
  | .non,v,h=>by unfold DV at h |-; exact h
  | .bl b,v,h=>by unfold DV at h |-; exact h
  | .int i,v,h=>by unfold DV at h |-; exact h
  | .str x,v,h=>by unfold DV at h |-; exact h
  | .lst ds,v,h=>by
    unfold DV at h |-
    obtain ⟨a,xs,e,q,r⟩:=h
    exact ⟨a,xs,e,s.seq q,DVs.keep s r⟩
  | .tup ds,v,h=>by
    unfold DV at h |-
    obtain ⟨a,xs,e,q,r⟩:=h
    exact ⟨a,xs,e,s.tup q,DVs.keep s r⟩
theorem DVs.keep {K:PySem.W.Frag} {H H':Hp} (s:Same H H'):∀ {ds:List Dt} {xs:List V},DVs K H ds xs->DVs K H' ds xs
  | [],xs,h=>by unfold DVs at h |-; exact h
  | d :: r,xs,h=>by
    unfold DVs at h |-
    obtain ⟨x,t,e,h1,h2⟩:=h
    exact ⟨x,t,e,DV.keep s h1,DVs.keep s h2⟩
end
end L2
namespace L2
open PySem PySem.Spec PyProof.Rows Builtin Builtin.Str
end L2
namespace L2
open PySem PySem.Spec PyProof.Rows Builtin Builtin.Str
noncomputable abbrev RM:=V->List V->Hp->VK->Prop
section
variable {X:Cx}
variable {o e:Expr} {es:List Expr} {to:TE} {t:TA} {apos cpos:Pos}
end
section
variable {X:Cx} {H:Hp} {Q:VK} {K:PySem.W.Frag} {z y:Str} {p:Addr} {ts:List Str}
end
end L2
namespace L2
open PySem PySem.Spec PyProof.Rows Builtin Builtin.Str
end L2
namespace L2
open PySem PySem.Spec PyProof.Rows Builtin Builtin.Str
noncomputable def rIsN:R2:=fun x y H Q=>y=.non/\Q (.bl (decide (x=.non))) H
section
variable {X:Cx} {σ:St} {H:Hp} {Q:VK} {K:PySem.W.Frag} {z y:Str} {R:Prop}
theorem ZdV:OpR X (compareOp .Is) rIsN:=op_isN
theorem ZmH (q:Q (.bl true) H):rIsN .non .non H Q:=⟨rfl,by rw [decide_eq_true rfl]; exact q⟩
theorem ZmI {p:Addr} (q:Q (.bl false) H):rIsN (.ref p) .non H Q:=⟨rfl,by rw [decide_eq_false (fun e=>nomatch e)]; exact q⟩
end
theorem ZkV {α:Type} {xs:List α} {i:Int} (h0:0 <= i) (h:i < xs.length):∃ c,atI xs i=some c/\xs[i.toNat]?=some c:=by
  have hl:i.toNat < xs.length:=by omega
  exact ⟨xs[i.toNat],ZcU (i:=i.toNat) (by simp [hl]) (by omega),by simp [hl]⟩
section
variable {H:Hp} {Q:VK} {z y:Str} {i:Int} {lo hi:Option Int}
end
end L2
namespace L2
open PySem PySem.Spec PyProof.Rows
noncomputable def Zjp (K:PySem.W.Frag):RC:=fun xs H Q=>∃ p ys,xs=[.ref p]/\(SqL K H p ys\/SqT K H p ys)/\∀ l,H l=none->Q (.ref l) (upd H l (.lst ys))
theorem Zjq {X:Cx}:CallR X (.type "list") (Zjp X.K):=ZfI
section
variable {H:Hp} {Q:VK} {K:PySem.W.Frag} {p:Addr} {xs:List V}
theorem ZeS (h:SqL K H p xs) (q:∀ l,H l=none->Q (.ref l) (upd H l (.lst xs))):Zjp K [.ref p] H Q:=⟨p,xs,rfl,.inl h,q⟩
end
end L2
namespace L2
open PySem PySem.Spec PyProof.Rows
structure ClsF (K:PySem.W.Frag) (mg:Str->Option Value) (x:Str) (C:Addr):Prop where
  cl:Cls K C
  ms:PySem.W.makesIn K C=true
  kc:PySem.W.keepIn K (.ref C)=true
  mgC:mg x=some (.ref C)
noncomputable def Zan (K:PySem.W.Frag) (C:Addr) (m qual:Str) (st:Stmt):Prop:=∃ f fd,Fun K m qual st f fd/\PySem.W.findIn K (.ref C) m=some (some (.ref f))/\PySem.W.isFn K (.ref f)=true
noncomputable def MCal (P:Program) (w:World) (K:PySem.W.Frag) (mg:Str->Option Value) (base:Heap) (k:Nat) (C:Addr) (m:Str) (sp:Sp):Prop :=
  Cls K C/\∃ f fd ps,Meth K C m f/\FnOk P w K mg base CX0 k f fd ps sp/\Binds K fd ps []
noncomputable def ICal (P:Program) (w:World) (K:PySem.W.Frag) (mg:Str->Option Value) (base:Heap) (k:Nat) (x:Str) (C:Addr) (sp:Sp):Prop :=
  mg x=some (.ref C)/\∃ f fd ps,Mk K C f/\FnOk P w K mg base CX0 k f fd ps sp/\Binds K fd ps []
section
variable {P:Program} {w:World} {K:PySem.W.Frag} {mg:Str->Option Value} {base:Heap}
theorem ZaC {C:Addr} {m qual:Str} {st:Stmt} {f:Addr} {oc:Value} {od an:Option Addr} {osl:Array (Option Value)} {kV doc pm cdv ct:Value}
    (a:PySem.W.findIn K (.ref C) m=some (some (.ref f))) (i:PySem.W.isFn K (.ref f)=true) (l:K.lookup f=some ⟨oc,od,.func (PySem.W.fnOf m qual (Zaw st) (Zar st) (Zab st) .none kV doc pm an cdv ct),osl⟩)
    (c:PySem.W.codeIn K cdv qual=true) (k:PySem.W.keepIn K (.ref f)=true):Zan K C m qual st:=⟨f,_,ZlU l c k,a,i⟩
theorem Za3 {C:Addr} {m qual:Str} {st:Stmt} {N ps:List Str} {k:Nat} {sp:Sp} (D:Zan K C m qual st) (c:Cls K C) (S:FnScope N ps (Zab st)) (len:∀ vs H Q E,sp vs H Q E->vs.length=ps.length)
    (hb:∀ (kV doc pm:Value) (an:Option Addr) (cdv ct:Value) (us:List Value),us.length=ps.length->bindArgs (PySem.W.fnOf m qual (Zaw st) (Zar st) (Zab st) .none kV doc pm an cdv ct) ⟨us,[]⟩=pure (ps.zip us))
    (hbody:∀ (f:Addr) (cdv:Value) (A:Around) (outer:List Env) (s:Shared) (H:Hp) (vs:List V) (Q:VK) (E:XK),Room k (A.deeper (envOfC qual (Zab st) s.heap.objs.size f cdv))->sp vs H Q E ->
      ∃ t,PSs (cxOf CX0 P w K mg base N qual (Zab st) f cdv A outer s H E).nox (Zar st) t/\t { nx:=fun _ H'=>Q .non H',rt:=Q } (start N vs) H):MCal P w K mg base (k + 1) C m sp:=by
  obtain ⟨f,fd,F,a,i⟩:=D
  exact ⟨c,f,fd,ps,⟨a,i,F.kp⟩,F.ok S len (hbody f),F.binds hb⟩
theorem ZdW {C:Addr} {x qual:Str} {st:Stmt} {N ps:List Str} {k:Nat} {sp:Sp} (D:Zan K C "__init__" qual st) (c:ClsF K mg x C) (S:FnScope N ps (Zab st)) (len:∀ vs H Q E,sp vs H Q E->vs.length=ps.length)
    (hb:∀ (kV doc pm:Value) (an:Option Addr) (cdv ct:Value) (us:List Value),us.length=ps.length->bindArgs (PySem.W.fnOf "__init__" qual (Zaw st) (Zar st) (Zab st) .none kV doc pm an cdv ct) ⟨us,[]⟩=pure (ps.zip us))
    (hbody:∀ (f:Addr) (cdv:Value) (A:Around) (outer:List Env) (s:Shared) (H:Hp) (vs:List V) (Q:VK) (E:XK),Room k (A.deeper (envOfC qual (Zab st) s.heap.objs.size f cdv))->sp vs H Q E ->
      ∃ t,PSs (cxOf CX0 P w K mg base N qual (Zab st) f cdv A outer s H E).nox (Zar st) t/\t { nx:=fun _ H'=>Q .non H',rt:=Q } (start N vs) H):ICal P w K mg base (k + 1) x C sp:=by
  obtain ⟨f,fd,F,a,i⟩:=D
  exact ⟨c.mgC,f,fd,ps,⟨c.ms,a,i,c.kc⟩,F.ok S len (hbody f),F.binds hb⟩
theorem MCal.mono {j k:Nat} {C:Addr} {m:Str} {sp:Sp} (c:MCal P w K mg base j C m sp) (h:j <= k):MCal P w K mg base k C m sp :=
  let ⟨cl,f,fd,ps,M,F,b⟩:=c
  ⟨cl,f,fd,ps,M,F.mono h,b⟩
end
section
variable {X:Cx} {k:Nat} {C:Addr} {sp:Sp} {x m:Str} {p pos apos:Pos} {e o:Expr} {es:List Expr} {ta:TE} {t:TA}
theorem ZaH {pl:Sem Bool} (c:MCal X.prog X.w X.K X.mg X.base k C m sp) (hr:Room k X.A) (he:PE X o ta) (ha:PA X (e :: es) t)
    (hst:starEach (e :: es) X.env=(false,eval e X.env) :: starEach es X.env:=by rfl) (hpl:(backTo pos (starEach es X.env)).any (·.1)=false:=by rfl)
    (ht:eval (.Call (.Attribute o m apos) (e :: es) [] pos) X.env=(do
      let ov <- eval o X.env
      standAt apos.atName
      let (f,first) <- holding [ov] (getMethod ov m pl)
      callWith pos f first (backTo pos (starEach (e :: es) X.env)) (backToKw pos (keywordEach [] X.env))):=by rfl) :
    PE X (.Call (.Attribute o m apos) (e :: es) [] pos) (tMeth C m sp [] E0 ta t):=by
  obtain ⟨cl,f,fd,ps,M,F,b⟩:=c
  exact Zmg he cl M F hr b .nil pass0 ha hst hpl ht
theorem ZcV {pl:Sem Bool} (c:MCal X.prog X.w X.K X.mg X.base k C m sp) (hr:Room k X.A) (he:PE X o ta)
    (ht:eval (.Call (.Attribute o m apos) [] [] pos) X.env=(do
      let ov <- eval o X.env
      standAt apos.atName
      let (f,first) <- holding [ov] (getMethod ov m pl)
      callWith pos f first (backTo pos (starEach [] X.env)) (backToKw pos (keywordEach [] X.env))):=by rfl) :
    PE X (.Call (.Attribute o m apos) [] [] pos) (tMeth C m sp [] E0 ta tNil):=by
  obtain ⟨cl,f,fd,ps,M,F,b⟩:=c
  exact ZkA he cl M F hr b .nil pass0 ht
theorem ZcE (c:ICal X.prog X.w X.K X.mg X.base k x C sp) (hr:Room (k + 1) X.A) (hg:Gl X x) (ha:PA X (e :: es) t) (hdb:(x == ("__debug__" : Str))=false:=by decide)
    (he:starEach (e :: es) X.env=(false,eval e X.env) :: starEach es X.env:=by rfl) (hpl:(backTo pos (starEach es X.env)).any (·.1)=false:=by rfl) :
    PE X (.Call (.Name x p) (e :: es) [] pos) (tMake C sp [] E0 t):=by
  obtain ⟨m,f,fd,ps,M,F,b⟩:=c
  exact Zi3 M F hr hg m b .nil pass0 ha hdb he hpl
noncomputable def tMethD (T:Addr->Sp->Prop) (m:Str) (ta:TE) (t:TA):TE:=fun σ H Q=>ta σ H fun x H1=>∃ a C dx fs sp,x=.ref a/\H1 a=some (.ins C dx fs)/\fs.lookup m=none/\T C sp/\t σ H1 fun vs H2=>sp (x :: vs) H2 Q E0
theorem ZhP {pl:Sem Bool} {T:Addr->Sp->Prop} (c:∀ C sp,T C sp->MCal X.prog X.w X.K X.mg X.base k C m sp) (hr:Room k X.A) (he:PE X o ta) (ha:PA X (e :: es) t)
    (hst:starEach (e :: es) X.env=(false,eval e X.env) :: starEach es X.env:=by rfl) (hpl:(backTo pos (starEach es X.env)).any (·.1)=false:=by rfl)
    (ht:eval (.Call (.Attribute o m apos) (e :: es) [] pos) X.env=(do
      let ov <- eval o X.env
      standAt apos.atName
      let (f,first) <- holding [ov] (getMethod ov m pl)
      callWith pos f first (backTo pos (starEach (e :: es) X.env)) (backToKw pos (keywordEach [] X.env))):=by rfl) :
    PE X (.Call (.Attribute o m apos) (e :: es) [] pos) (tMethD T m ta t):=by
  intro pins s σ H Q I h
  refine PySem.W.methodCall_KW (pl:=pl) (thn (he pins s σ H _ I h) fun u s1 ⟨x,H1,I1,rx,a,C,dx,fs,sp,ex,ea,l,hT,q⟩=>?_) ht
  obtain ⟨cl,f,fd,ps,M,F,b⟩:=c C sp hT
  subst ex
  obtain rfl:u=Value.ref a:=rx
  refine ZbX I1 ea cl M l ?_
  refine PySem.W.callWith_K (first:=[.ref a]) (h₀:=X.base) I.ok.mod.kin M.kp (thn (ha pos pins s1 σ H1 _ I1 q) fun us s2 ⟨vs,H2,I2,r,q2⟩=>⟨I2.kIn,?_⟩) hst hpl
  exact ZdR (us:=.ref a :: us) (vs:=.ref a :: vs) (dvs:=[]) (E:=E0) F hr b .nil pass0 I2 (.cons rfl r) (by rw [List.append_nil]; exact q2)
theorem ZfX {pl:Sem Bool} {T:Addr->Sp->Prop} (c:∀ C sp,T C sp->MCal X.prog X.w X.K X.mg X.base k C m sp) (hr:Room k X.A) (he:PE X o ta)
    (ht:eval (.Call (.Attribute o m apos) [] [] pos) X.env=(do
      let ov <- eval o X.env
      standAt apos.atName
      let (f,first) <- holding [ov] (getMethod ov m pl)
      callWith pos f first (backTo pos (starEach [] X.env)) (backToKw pos (keywordEach [] X.env))):=by rfl) :
    PE X (.Call (.Attribute o m apos) [] [] pos) (tMethD T m ta tNil):=by
  intro pins s σ H Q I h
  refine PySem.W.methodCall_KW (pl:=pl) (thn (he pins s σ H _ I h) fun u s1 ⟨x,H1,I1,rx,a,C,dx,fs,sp,ex,ea,l,hT,q⟩=>?_) ht
  obtain ⟨cl,f,fd,ps,M,F,b⟩:=c C sp hT
  subst ex
  obtain rfl:u=Value.ref a:=rx
  refine ZbX I1 ea cl M l ?_
  exact PySem.W.callWith_K0 (first:=[.ref a]) I1.kIn M.kp (ZdR (us:=[.ref a]) (vs:=[.ref a]) (dvs:=[]) (E:=E0) F hr b .nil pass0 I1 (.cons rfl .nil) q)
end
section
variable {σ:St} {H:Hp} {Q:VK} {K:PySem.W.Frag} {a C dx:Addr} {fs:List (Str × V)} {f m:Str} {v:V} {D:Ends} {sp:Sp}
theorem rd_fld {ta:TE} (q:ta σ H fun x H1=>∃ a C dx fs v,x=.ref a/\H1 a=some (.ins C dx fs)/\Cls K C/\NoAttr K C f/\fs.lookup f=some v/\Q v H1):tFld K ta f σ H Q:=q
theorem Zah {R:V->Prop} (h:H a=some (.ins C dx fs)) (c:Cls K C) (n:NoAttr K C f) (l:fs.lookup f=some v) (q:R v):∃ a' C dx fs v,V.ref a=.ref a'/\H a'=some (.ins C dx fs)/\Cls K C/\NoAttr K C f/\fs.lookup f=some v/\R v:=⟨a,C,dx,fs,v,rfl,h,c,n,l,q⟩
theorem ZmJ {ta tv:TE} (q:tv σ H fun y H1=>ta σ H1 fun x H2=>∃ a C dx fs,x=.ref a/\H2 a=some (.ins C dx fs)/\Cls K C/\NoAttr K C f/\fs.length < 1000/\D.nx σ (upd H2 a (.ins C dx (putF f y fs)))):sFld K ta tv f D σ H:=q
theorem Zau {R:Hp->Prop} {y:V} (h:H a=some (.ins C dx fs)) (c:Cls K C) (n:NoAttr K C f) (l:fs.length < 1000) (q:R (upd H a (.ins C dx (putF f y fs)))):∃ a' C dx fs,V.ref a=.ref a'/\H a'=some (.ins C dx fs)/\Cls K C/\NoAttr K C f/\fs.length < 1000/\R (upd H a' (.ins C dx (putF f y fs))):=⟨a,C,dx,fs,rfl,h,c,n,l,q⟩
theorem ZmK {ta:TE} {t:TA} (q:ta σ H fun x H1=>∃ a dx fs,x=.ref a/\H1 a=some (.ins C dx fs)/\fs.lookup m=none/\t σ H1 fun vs H2=>sp (x :: (vs ++ [])) H2 Q E0):tMeth C m sp [] E0 ta t σ H Q:=q
theorem Zap {R:Prop} (h:H a=some (.ins C dx fs)) (l:fs.lookup m=none) (q:R):∃ a' dx fs,V.ref a=.ref a'/\H a'=some (.ins C dx fs)/\fs.lookup m=none/\R:=⟨a,dx,fs,rfl,h,l,q⟩
theorem ZkW (q:∀ p,H p=none->Q (.ref p) (upd H p (.dK []))):tDNewK σ H Q:=q
theorem ZkX {td ty tx:TE} (q:td σ H fun x H1=>∃ a,x=.ref a/\IsD H1 a/\ty σ H1 fun y H2=>tx σ H2 fun z H3=>∃ o,DGet H3 a y o/\Q (o.getD z) H3):tDGet2 td ty tx σ H Q:=q
theorem isD_k {kvs:List (Key × V)} (h:H a=some (.dK kvs)):IsD H a:=.inl ⟨kvs,.inl h⟩
end
section
variable {σ:St} {H:Hp} {Q:VK} {a:Addr} {kvs:List (Key × V)} {k:Key} {v:V} {R:Prop}
theorem ZmL {td ty tv:TE} {D:Ends} (q:tv σ H fun v H1=>td σ H1 fun x H2=>ty σ H2 fun y H3=>∃ a H4,x=.ref a/\DPut H3 a y v H4/\D.nx σ H4):sDPut td ty tv D σ H:=q
theorem ZkY {S:Hp->Prop} {i:Int} (h:H a=some (.dK kvs)) (hl:kvs.length < sizeLine) (q:S (upd H a (.dK (putK kvs (Sum.inl i) v)))):∃ a' H4,V.ref a=.ref a'/\DPut H a' (.int i) v H4/\S H4:=⟨a,_,rfl,DPut.k (k:=Sum.inl i) h hl,q⟩
end
theorem SqL.updI {K:PySem.W.Frag} {H:Hp} {a p C dx:Addr} {fs:List (Str × V)} {xs:List V} {o:HO} (h:SqL K H a xs) (n:H p=some (.ins C dx fs)):SqL K (upd H p o) a xs:=by
  rcases h with (h|⟨ob,h⟩)|h
  . exact .inl (.inl (by rw [Zai (Zbe h n (by intro z; cases z))]; exact h))
  . exact .inl (.inr ⟨ob,by rw [Zai (Zbe h n (by intro z; cases z))]; exact h⟩)
  . exact .inr h
end L2
namespace L2
open PySem PySem.Spec PyProof.Rows
theorem Same.wr {H H':Hp} {l:Addr} {o:HO} (s:Same H H') (n:H l=none):Same H (upd H' l o):=fun b u e=>by rw [Zai (Zaj e n)]; exact s b u e
theorem Same.fresh {H H':Hp} {q:Addr} (s:Same H H') (hq:H' q=none):H q=none:=by
  cases e:H q with
  | none=>rfl
  | some o=>rw [s _ _ e] at hq; cases hq
end L2
namespace L2
open PySem PySem.Spec PyProof.Rows
section
variable {σ:St} {H:Hp} {p:Addr}
end
section
variable {σ:St} {H:Hp} {p:Addr} {xs:List V} {v:V}
theorem ZmM {to ti:TE} {t:TSet} {Q:St->Hp->Prop} (q:to σ H fun o H1=>ti σ H1 fun i H2=>t o i v H2 fun H3=>Q σ H3):gSub to ti t v σ H Q:=q
theorem ZeT {Q:Hp->Prop} {k:Int} {j:Nat} (h:H p=some (.lst xs)) (hj:ixN xs.length k=some j) (q:Q (upd H p (.lst (xs.set j v)))):rSetL (.ref p) (.int k) v H Q:=⟨p,xs,k,j,rfl,rfl,h,hj,q⟩
theorem ZgL {n j:Nat} {k:Int} (e:k=(j:Int)) (h:j < n):ixN n k=some j:=by
  unfold ixN
  rw [if_pos (by omega),if_pos (by omega),e,Int.toNat_natCast]
theorem Zjr {n j:Nat} {k:Int} (hk:k < 0) (e:k + n=(j:Int)):ixN n k=some j:=by
  unfold ixN
  rw [if_neg (by omega),if_pos (by omega),e,Int.toNat_natCast]
end
section
variable {σ:St} {H:Hp} {p a:Addr} {K:PySem.W.Frag} {xs:List V}
end
end L2
namespace L2
open PySem PySem.Spec PyProof.Rows
mutual
theorem Dt.eq_self:∀ d:Dt,Dt.eq d d=true
  | .non=>by unfold Dt.eq; rfl
  | .bl b=>by unfold Dt.eq; exact beq_self_eq_true b
  | .int i=>by unfold Dt.eq; exact beq_self_eq_true i
  | .str x=>by unfold Dt.eq; exact beq_self_eq_true x
  | .lst ds=>by unfold Dt.eq; exact Dt.eqs_self ds
  | .tup ds=>by unfold Dt.eq; exact Dt.eqs_self ds
theorem Dt.eqs_self:∀ ds:List Dt,Dt.eqs ds ds=true
  | []=>by unfold Dt.eqs; rfl
  | d :: r=>by unfold Dt.eqs; rw [Dt.eq_self d,Dt.eqs_self r]; rfl
end
section
variable {K:PySem.W.Frag} {H:Hp} {Q:VK} {x y:V} {d:Dt}
theorem ZmN (h1:DV K H d x) (h2:DV K H d y) (hd:d.dep <= 64) (q:Q (.bl true) H):rEqD K x y H Q:=⟨d,d,h1,h2,hd,by rw [Dt.eq_self]; exact q⟩
theorem Zbp {i:Int}:DV K H (.int i) (.int i):=by unfold DV; rfl
theorem ZdX {i:Str}:DV K H (.str i) (.str i):=by unfold DV; rfl
theorem ZbD:DVs K H [] []:=by unfold DVs; rfl
theorem ZaB {d:Dt} {r:List Dt} {x:V} {t:List V} (h:DV K H d x) (h2:DVs K H r t):DVs K H (d :: r) (x :: t):=by unfold DVs; exact ⟨x,t,rfl,h,h2⟩
theorem ZfY {a:Addr} {xs:List V} {ds:List Dt} (h:SqT K H a xs) (h2:DVs K H ds xs):DV K H (.tup ds) (.ref a):=by unfold DV; exact ⟨a,xs,rfl,h,h2⟩
theorem Zjs {a:Addr} {xs:List V} {ds:List Dt} (h:SqL K H a xs) (h2:DVs K H ds xs):DV K H (.lst ds) (.ref a):=by unfold DV; exact ⟨a,xs,rfl,h,h2⟩
end
theorem ZkZ {σ σ':St} {H:Hp} {i:Nat} {v:V} {R:St->Hp->Prop} (e:σ.set i (some v)=σ') (q:R σ' H):gName i v σ H R:=by subst e; exact q
theorem ZmO {σ:St} {H:Hp} {Q:VK} {C:Addr} {sp:Sp} {t:TA} (q:t σ H fun vs H1=>∀ x dx,H1 x=none->H1 dx=none->dx ≠ x->sp (.ref x :: (vs ++ [])) (upd (upd H1 dx (.own x)) x (.ins C dx [])) (fun v H2=>v=.non/\Q (.ref x) H2) E0):tMake C sp [] E0 t σ H Q:=q
theorem Same.made {H H':Hp} {x dx C:Addr} {o:HO} (hx:H x=none) (hd:H dx=none) (k:∀ b u,(upd (upd H dx o) x (.ins C dx [])) b=some u->b ≠ x->H' b=some u):Same H H':=fun b u e =>
  k b u (by rw [Zai (Zaj e hx),Zai (Zaj e hd)]; exact e) (Zaj e hx)
end L2
namespace L2
open PySem PySem.Spec PyProof.Rows
noncomputable def Imm (u:HO):Prop:=(∃ xs,u=.tup xs)\/∃ o w,u=.frz o w
noncomputable def SameI (H H':Hp):Prop:=∀ b u,H b=some u->Imm u->H' b=some u
theorem SameI.refl (H:Hp):SameI H H:=fun _ _ h _=>h
theorem SameI.trans {H H1 H2:Hp} (a:SameI H H1) (b:SameI H1 H2):SameI H H2:=fun c u h i=>b c u (a c u h i) i
theorem Same.imm {H H':Hp} (s:Same H H'):SameI H H':=fun b u h _=>s b u h
theorem SameI.upd {H:Hp} {a:Addr} {u o:HO} (h:H a=some u) (n:¬ Imm u):SameI H (upd H a o):=fun b v e i=>by
  rw [Zai (Zbe e h (fun z=>n (z ▸ i)))]; exact e
theorem SameI.new {H:Hp} {a:Addr} {o:HO} (h:H a=none):SameI H (L2.upd H a o):=(Same.new h).imm
theorem SameI.tup {K:PySem.W.Frag} {H H':Hp} {a:Addr} {xs:List V} (e:SameI H H') (h:SqT K H a xs):SqT K H' a xs:=by
  rcases h with (h|⟨o,h⟩)|h
  . exact .inl (.inl (e _ _ h (.inl ⟨_,rfl⟩)))
  . exact .inl (.inr ⟨o,e _ _ h (.inr ⟨_,_,rfl⟩)⟩)
  . exact .inr h
theorem ZbB {xs:List V}:¬ Imm (.lst xs):=by rintro (⟨_,z⟩|⟨_,_,z⟩) <;> cases z
theorem ZfZ {kvs:List (Key × V)}:¬ Imm (.dK kvs):=by rintro (⟨_,z⟩|⟨_,_,z⟩) <;> cases z
theorem Zct {C dx:Addr} {fs:List (Str × V)}:¬ Imm (.ins C dx fs):=by rintro (⟨_,z⟩|⟨_,_,z⟩) <;> cases z
noncomputable def SameND (H H':Hp):Prop:=∀ b u,H b=some u->(∀ kvs,u ≠ .dK kvs)->H' b=some u
theorem SameND.refl (H:Hp):SameND H H:=fun _ _ h _=>h
theorem SameND.trans {H H1 H2:Hp} (a:SameND H H1) (b:SameND H1 H2):SameND H H2:=fun c u h i=>b c u (a c u h i) i
theorem Same.nd {H H':Hp} (s:Same H H'):SameND H H':=fun b u h _=>s b u h
theorem SameND.imm {H H':Hp} (s:SameND H H'):SameI H H':=fun b u h i=>s b u h (by
  rintro kvs rfl
  exact ZfZ i)
theorem SameND.seq {K:PySem.W.Frag} {H H':Hp} {a:Addr} {xs:List V} (e:SameND H H') (h:SqL K H a xs):SqL K H' a xs:=by
  rcases h with (h|⟨o,h⟩)|h
  . exact .inl (.inl (e _ _ h (by intro _ z; cases z)))
  . exact .inl (.inr ⟨o,e _ _ h (by intro _ z; cases z)⟩)
  . exact .inr h
noncomputable abbrev Row:=Str × Option Int
noncomputable def rowVs:Row->List V
  | (w,none)=>[.str w]
  | (w,some n)=>[.str w,.int n]
noncomputable def rowD:Row->Dt
  | (w,none)=>.tup [.str w]
  | (w,some n)=>.tup [.str w,.int n]
noncomputable def RowAt (K:PySem.W.Frag) (H:Hp) (r:Row) (v:V):Prop:=∃ t,v=.ref t/\SqT K H t (rowVs r)
noncomputable def RowsAt (K:PySem.W.Frag) (H:Hp) (rs:List Row) (xs:List V):Prop:=rs.length=xs.length/\∀ (i:Nat) (r:Row) (x:V),rs[i]?=some r->xs[i]?=some x->RowAt K H r x
theorem RowAt.keep {K:PySem.W.Frag} {H H':Hp} {r:Row} {v:V} (h:RowAt K H r v) (s:SameI H H'):RowAt K H' r v:=let ⟨t,e,q⟩:=h; ⟨t,e,s.tup q⟩
theorem RowsAt.keep {K:PySem.W.Frag} {H H':Hp} {rs:List Row} {xs:List V} (h:RowsAt K H rs xs) (s:SameI H H'):RowsAt K H' rs xs:=⟨h.1,fun i r x h1 h2=>(h.2 i r x h1 h2).keep s⟩
theorem RowsAt.nil {K:PySem.W.Frag} {H:Hp}:RowsAt K H [] []:=⟨rfl,fun i r x h=>by simp at h⟩
theorem RowsAt.tail {K:PySem.W.Frag} {H:Hp} {r:Row} {rs:List Row} {x:V} {xs:List V} (h:RowsAt K H (r :: rs) (x :: xs)):RowAt K H r x/\RowsAt K H rs xs :=
  ⟨h.2 0 r x rfl rfl,by have:=h.1; simpa using this,fun i r' x' h1 h2=>h.2 (i + 1) r' x' (by simpa using h1) (by simpa using h2)⟩
theorem RowsAt.cons {K:PySem.W.Frag} {H:Hp} {r:Row} {rs:List Row} {x:V} {xs:List V} (h1:RowAt K H r x) (h:RowsAt K H rs xs):RowsAt K H (r :: rs) (x :: xs):=by
  refine ⟨by simp [h.1],fun i r' x' e1 e2=>?_⟩
  cases i with
  | zero=>cases e1; cases e2; exact h1
  | succ i=>exact h.2 i r' x' (by simpa using e1) (by simpa using e2)
theorem RowAt.dv {K:PySem.W.Frag} {H:Hp} {r:Row} {v:V} (h:RowAt K H r v):DV K H (rowD r) v:=by
  obtain ⟨t,rfl,q⟩:=h
  obtain ⟨w,o⟩:=r
  cases o with
  | none=>exact ZfY q (ZaB ZdX ZbD)
  | some n=>exact ZfY q (ZaB ZdX (ZaB Zbp ZbD))
theorem RowsAt.dvs {K:PySem.W.Frag} {H:Hp}:∀ {rs:List Row} {xs:List V},RowsAt K H rs xs->DVs K H (rs.map rowD) xs
  | [],[],_=>ZbD
  | r :: rs,x :: xs,h=>ZaB h.tail.1.dv h.tail.2.dvs
  | [],x :: xs,h=>by have:=h.1; simp at this
  | r :: rs,[],h=>by have:=h.1; simp at this
noncomputable def putFn (f:Int->Int) (i v:Int):Int->Int:=fun j=>if j=i then v else f j
noncomputable def DictF (H:Hp) (d:Addr) (f:Int->Int) (m:Nat):Prop:=∃ kvs,H d=some (.dK kvs)/\kvs.length <= m/\∀ i:Int,(valV kvs (Sum.inl i:Key)).getD (.int 0)=.int (f i)
noncomputable def StoreAt (H:Hp) (d:Addr) (f:Int->Int) (m:Nat):Prop:=∃ kvs,H d=some (.dK kvs)/\kvs.length <= m/\(kvs.map (·.1)).Nodup/\(∀ p ∈ kvs,∃ i n:Int,p=(Sum.inl i,.int n)/\n ≠ 0)/\∀ i:Int,(valV kvs (Sum.inl i:Key)).getD (.int 0)=.int (f i)
theorem DictF.put {H:Hp} {d:Addr} {kvs:List (Key × V)} {f:Int->Int} {m:Nat} (hl:kvs.length <= m) (hf:∀ i:Int,(valV kvs (Sum.inl i:Key)).getD (.int 0)=.int (f i)) (i v:Int):DictF (upd H d (.dK (putK kvs (Sum.inl i) (.int v)))) d (putFn f i v) (m + 1):=by
  refine ⟨_,Zag,Nat.le_trans (ZcD ..) (Nat.add_le_add_right hl 1),fun j=>?_⟩
  rw [ZkE]
  unfold putFn
  by_cases e:j=i
  . subst e
    rw [if_pos rfl,if_pos rfl]
    rfl
  . rw [if_neg (fun z=>e (Sum.inl.inj z)),if_neg e]
    exact hf j
theorem Zf0 {κ:Type} [DecidableEq κ] (k j:κ):∀ kvs:List (κ × V),valV (dropK kvs k) j=if j=k then none else valV kvs j
  | []=>by
    have:dropK ([]:List (κ × V)) k=[]:=rfl
    rw [this,ZkD]
    split <;> rfl
  | p :: r=>by
    have ih:=Zf0 k j r
    by_cases e:p.1=k
    . rw [ZfP e,ih]
      by_cases z:j=k
      . rw [if_pos z,if_pos z]
      . rw [if_neg z,if_neg z,Zbf (fun q=>z (q.symm.trans e))]
    . rw [ZfQ e]
      by_cases q:p.1=j
      . rw [Zbl q,Zbl q,if_neg (fun z=>e (q.trans z))]
      . rw [Zbf q,Zbf q,ih]
theorem Zjt {κ:Type} [DecidableEq κ] {kvs:List (κ × V)} {k:κ} (v:V) (hn:(kvs.map (·.1)).Nodup):((putK kvs k v).map (·.1)).Nodup:=by
  cases e:valV kvs k with
  | none=>exact Zmp v hn e
  | some u =>
    have hk:(kvs.any fun kv=>decide (kv.1=k))=true:=by rw [Zb0,e]; rfl
    unfold putK
    rw [if_pos hk,List.map_map]
    have:((fun x:κ × V=>x.1) ∘ fun kv:κ × V=>if kv.1=k then (kv.1,v) else kv)=fun x=>x.1:=by
      funext x
      show (if x.1=k then (x.1,v) else x).1=x.1
      split <;> rfl
    rw [this]
    exact hn
theorem Zk0 {κ:Type} [DecidableEq κ] {kvs:List (κ × V)} {k:κ} {v:V} {p:κ × V} (h:p ∈ putK kvs k v):p=(k,v)\/p ∈ kvs:=by
  unfold putK at h
  split at h
  . obtain ⟨q,hq,e⟩:=List.mem_map.mp h
    by_cases z:q.1=k
    . rw [if_pos z] at e; left; rw [<- e,z]
    . rw [if_neg z] at e; right; rw [<- e]; exact hq
  . rcases List.mem_append.mp h with h|h
    . exact .inr h
    . exact .inl (List.mem_singleton.mp h)
theorem StoreAt.put {H:Hp} {d:Addr} {kvs:List (Key × V)} {f:Int->Int} {m:Nat} (hl:kvs.length <= m) (hn:(kvs.map (·.1)).Nodup) (hz:∀ p ∈ kvs,∃ i n:Int,p=(Sum.inl i,.int n)/\n ≠ 0) (hf:∀ i:Int,(valV kvs (Sum.inl i:Key)).getD (.int 0)=.int (f i)) (i v:Int) (hv:v ≠ 0) :
    StoreAt (upd H d (.dK (putK kvs (Sum.inl i) (.int v)))) d (putFn f i v) (m + 1):=by
  obtain ⟨kvs',e1,e2,e3⟩:=DictF.put (H:=H) (d:=d) hl hf i v
  rw [Zag] at e1
  cases e1
  refine ⟨_,Zag,e2,Zjt _ hn,fun p hp=>?_,e3⟩
  rcases Zk0 hp with rfl|hp
  . exact ⟨i,v,rfl,hv⟩
  . exact hz p hp
theorem StoreAt.drop {H:Hp} {d:Addr} {kvs:List (Key × V)} {f:Int->Int} {m:Nat} (hl:kvs.length <= m) (hn:(kvs.map (·.1)).Nodup) (hz:∀ p ∈ kvs,∃ i n:Int,p=(Sum.inl i,.int n)/\n ≠ 0) (hf:∀ i:Int,(valV kvs (Sum.inl i:Key)).getD (.int 0)=.int (f i)) (i:Int) :
    StoreAt (upd H d (.dK (dropK kvs (Sum.inl i)))) d (putFn f i 0) (m + 1):=by
  refine ⟨_,Zag,Nat.le_trans (ZeN ..) (Nat.le_trans hl (Nat.le_succ _)),ZeP hn,fun p hp=>hz p (ZfR hp),fun j=>?_⟩
  rw [Zf0]
  unfold putFn
  by_cases e:j=i
  . subst e
    rw [if_pos rfl,if_pos rfl]
    rfl
  . rw [if_neg (fun z=>e (Sum.inl.inj z)),if_neg e]
    exact hf j
theorem StoreAt.same {H H':Hp} {d:Addr} {f:Int->Int} {m:Nat} (h:StoreAt H d f m) (e:H' d=H d):StoreAt H' d f m:=let ⟨kvs,a,b⟩:=h; ⟨kvs,e.trans a,b⟩
theorem DictF.same {H H':Hp} {d:Addr} {f:Int->Int} {m:Nat} (h:DictF H d f m) (e:H' d=H d):DictF H' d f m:=let ⟨kvs,a,b⟩:=h; ⟨kvs,e.trans a,b⟩
theorem StoreAt.le {H:Hp} {d:Addr} {f:Int->Int} {m m':Nat} (h:StoreAt H d f m) (e:m <= m'):StoreAt H d f m':=let ⟨kvs,a,b,c⟩:=h; ⟨kvs,a,Nat.le_trans b e,c⟩
theorem DictF.le {H:Hp} {d:Addr} {f:Int->Int} {m m':Nat} (h:DictF H d f m) (e:m <= m'):DictF H d f m':=let ⟨kvs,a,b,c⟩:=h; ⟨kvs,a,Nat.le_trans b e,c⟩
section
variable {σ:St} {H:Hp} {Q:VK} {a:Addr} {kvs:List (Key × V)}
theorem Zk1 {td ty tx:TE} (q:td σ H fun x H1=>∃ a,x=.ref a/\IsD H1 a/\ty σ H1 fun y H2=>tx σ H2 fun z H3=>∃ kvs k,H3 a=some (.dK kvs)/\y=kV k/\(∀ v,valV kvs k=some v->Q v (upd H3 a (.dK (dropK kvs k))))/\(valV kvs k=none->Q z H3)):tDPop2 td ty tx σ H Q:=q
end
end L2
namespace L2
open PySem PySem.Spec PyProof.Rows
section
variable {σ:St} {H:Hp} {K:PySem.W.Frag} {a l:Addr} {xs:List V} {n:Nat} {t:TGs} {Q:St->Hp->Prop} {v:V} {r:List V} {g:TG} {u:TGs}
theorem Zju (h:SqT K H a xs) (hl:xs.length=n) (q:t xs σ H Q):gTup K n t (.ref a) σ H Q:=⟨a,xs,rfl,h,hl,q⟩
theorem ZhQ (q:g v σ H fun σ' H'=>u r σ' H' Q):gCons g u (v :: r) σ H Q:=⟨v,r,rfl,q⟩
theorem ZmP (q:Q σ H):gNil [] σ H Q:=⟨rfl,q⟩
end
end L2
namespace L2
open PySem PySem.Spec PyProof.Rows
section
variable {σ:St} {H:Hp} {p a:Addr} {K:PySem.W.Frag} {xs:List V}
noncomputable def compNx (Pv:Nat->Hp->Prop) (i:Nat) (σ:St):St->Hp->Prop:=fun σ2 H2=>Pv i H2/\∃ v,σ2=v :: σ
theorem Zf1 {tc:TT} {te:TE} {R:Hp->Prop} (Pv:Nat->Hp->Prop) (h0:Pv 0 (upd H p (.lst []))) (hl:∀ i H',Pv i H'->SqL K H' a xs)
    (hs:∀ (i:Nat) (x:V) (H':Hp),xs[i]?=some x->Pv i H'->tc (some x :: σ) H' fun b H1=>if b=true then te (some x :: σ) H1 fun y H2=>∃ ys,H2 p=some (.lst ys)/\ys.length < sizeLine/\compNx Pv (i + 1) σ (some x :: σ) (upd H2 p (.lst (ys ++ [y]))) else compNx Pv (i + 1) σ (some x :: σ) H1)
    (fin:∀ H',Pv xs.length H'->R H'):tLoopC 1 (gName 0) tc te (Itl K a) p R σ H:=by
  refine ⟨fun i m σ' H'=>m=xs.length - i/\i <= xs.length/\Pv i H'/\∃ v,σ'=v :: σ,⟨xs.length,by omega,Nat.zero_le _,h0,none,rfl⟩,?_⟩
  rintro i m σ' H' ⟨rfl,hi,hp,v,rfl⟩
  have hs':=hl i H' hp
  by_cases hlt:i < xs.length
  . refine .inr ⟨⟨xs,xs[i],hs',by simp [hlt]⟩,compNx Pv (i + 1) σ,fun σ2 H2 ⟨e,v',e'⟩=>⟨xs.length - (i + 1),by omega,rfl,hlt,e,v',e'⟩,fun x H1 ⟨e,y⟩=>?_⟩
    subst e
    have hx:=y xs hs'
    refine Zjd ?_
    simp only [List.set_cons_zero]
    exact hs i x _ hx hp
  . have e:i=xs.length:=by omega
    subst e
    exact .inl ⟨⟨xs,hs',Nat.le_refl _⟩,fin H' hp⟩
theorem Zjv {σ:St} {H:Hp} {R:Bool->Hp->Prop} (q:R true H):tNoIf σ H R:=q
end
theorem RowsAt.snoc {K:PySem.W.Frag} {H:Hp} {rs:List Row} {xs:List V} {r:Row} {x:V} (h:RowsAt K H rs xs) (h1:RowAt K H r x):RowsAt K H (rs ++ [r]) (xs ++ [x]):=by
  refine ⟨by simp [h.1],fun i r' x' e1 e2=>?_⟩
  by_cases hi:i < rs.length
  . rw [List.getElem?_append_left hi] at e1
    rw [List.getElem?_append_left (by rw [<- h.1]; exact hi)] at e2
    exact h.2 i r' x' e1 e2
  . have hi2:i=rs.length:=by
      have:=(List.getElem?_eq_some_iff.mp e1).1
      simp at this
      omega
    subst hi2
    rw [List.getElem?_append_right (Nat.le_refl _),Nat.sub_self] at e1
    rw [List.getElem?_append_right (by rw [h.1]; exact Nat.le_refl _),h.1,Nat.sub_self] at e2
    cases e1
    cases e2
    exact h1
theorem RowsAt.ins {K:PySem.W.Frag} {H:Hp} {rs:List Row} {xs:List V} {r:Row} {x:V} (h:RowsAt K H rs xs) (h1:RowAt K H r x) (k:Nat):RowsAt K H (rs.take k ++ r :: rs.drop k) (xs.take k ++ x :: xs.drop k):=by
  have ht:RowsAt K H (rs.take k) (xs.take k):=⟨by simp [h.1],fun i r' x' e1 e2=>by
    rw [List.getElem?_take] at e1 e2
    split at e1
    . rename_i hk
      rw [if_pos hk] at e2
      exact h.2 i r' x' e1 e2
    . cases e1⟩
  have hd:RowsAt K H (r :: rs.drop k) (x :: xs.drop k):=.cons h1 ⟨by simp [h.1],fun i r' x' e1 e2=>by
    rw [List.getElem?_drop] at e1 e2
    exact h.2 _ r' x' e1 e2⟩
  refine ⟨by rw [List.length_append,List.length_append,ht.1,hd.1],fun i r' x' e1 e2=>?_⟩
  by_cases hi:i < (rs.take k).length
  . rw [List.getElem?_append_left hi] at e1
    rw [List.getElem?_append_left (by rw [<- ht.1]; exact hi)] at e2
    exact ht.2 i r' x' e1 e2
  . rw [List.getElem?_append_right (by omega)] at e1
    rw [List.getElem?_append_right (by rw [<- ht.1]; omega),<- ht.1] at e2
    exact hd.2 _ r' x' e1 e2
end L2
namespace L2
open PySem PySem.Spec PyProof.Rows PySem.Calls PySem.W
section
variable {Pr:Program} {wo:World} {Ar:Around} {Ex:Value->Shared->Prop} {sh:Shared} {Ty:String} {ro di:Addr} {cnt:Nat} {Pp:Nat->Value->Prop} {Okd:Heap->Prop}
end
section
variable {K:PySem.W.Frag} {H:Hp} {Q:VK} {d:Addr} {ns:List Int}
end
section
variable {K:PySem.W.Frag} {H:Hp} {Q:VK} {t l b:Addr}
end
end L2
namespace L2
open PySem PySem.Builtin PySem.Builtin.Str PySem.StrLaws
noncomputable def Gap (w:Nat):List Nat->Prop
  | []=>True
  | [_]=>True
  | a :: b :: r=>a + w <= b/\Gap w (b :: r)
theorem Gap.tail {w a:Nat} {r:List Nat} (h:Gap w (a :: r)):Gap w r:=by
  cases r with
  | nil=>trivial
  | cons b r=>exact h.2
theorem Gap.ge {w a:Nat}:∀ {r:List Nat},Gap w (a :: r)->∀ b ∈ r,a + w <= b
  | [],_,b,hb=>by simp at hb
  | c :: r,h,b,hb=>by
    rcases List.mem_cons.mp hb with rfl|hb
    . exact h.1
    . have:=Gap.ge (r:=r) h.2 b hb
      have:=h.1
      omega
end L2
namespace L2
open PySem PySem.Builtin PySem.Builtin.Str PySem.StrLaws
end L2
namespace L2
open PySem PySem.Spec PyProof.Rows
section
variable {X:Cx} {pins:List (Addr × Obj)} {σ:St} {H:Hp} {s:Shared} {a:Addr} {o:Obj} {kvs:List (Key × V)}
end
end L2
namespace L2
open PySem PySem.Spec PyProof.Rows
section
variable {σ:St} {H:Hp} {Q:VK} {D:Ends} {td:TE} {g:TG} {tc:TT} {te:TE} {tb:TS} {k:Nat} {a:Addr} {o:Obj} {kvs:List (Key × V)} {p:Addr}
theorem DGet.frz {k:Key} (e:H a=some (.frz o (.dK kvs))):DGet H a (kV k) (valV kvs k):=.inl ⟨kvs,k,.inr ⟨o,e⟩,rfl,rfl⟩
end
section
variable {K:PySem.W.Frag} {σ:St} {H:Hp} {D:Ends} {a C dx:Addr} {fs:List (Str × V)} {f:Str} {i j:Int}
theorem Zjw {ta tv:TE} {rd:V->V->Hp->VK->Prop} (q:ta σ H fun x H1=>∃ a C dx fs v,x=.ref a/\H1 a=some (.ins C dx fs)/\Cls K C/\NoAttr K C f/\fs.lookup f=some v/\tv σ H1 fun y H2=>rd v y H2 fun z H3=>∃ dx' fs',H3 a=some (.ins C dx' fs')/\fs'.length < 1000/\D.nx σ (upd H3 a (.ins C dx' (putF f z fs')))):Zi1 K ta tv rd f D σ H:=q
theorem ZcW {v:V} {R:Addr->Addr->V->Prop} (h:H a=some (.ins C dx fs)) (c:Cls K C) (n:NoAttr K C f) (l:fs.lookup f=some v) (q:R a C v):∃ a' C dx fs v,V.ref a=.ref a'/\H a'=some (.ins C dx fs)/\Cls K C/\NoAttr K C f/\fs.lookup f=some v/\R a' C v:=⟨a,C,dx,fs,v,rfl,h,c,n,l,q⟩
theorem ZmQ {Q:VK} (q:Q (.int (i + j)) H):rAdd (.int i) (.int j) H Q:=⟨i,j,rfl,rfl,q⟩
theorem ZmR {Q:VK} (q:Q (.int (i - j)) H):rSub (.int i) (.int j) H Q:=⟨i,j,rfl,rfl,q⟩
end
end L2
namespace L2
open PySem PySem.Spec PyProof.Rows
end L2
namespace L2
open PySem PySem.Spec PyProof.Rows PySem.Calls
section
variable {H:Hp} {Q:VK} {σ:St}
end
section
variable {H:Hp} {Q:VK} {σ:St} {K:PySem.W.Frag} {p a:Addr} {xs ys:List V}
end
end L2
namespace L2
open PySem PySem.Spec PyProof.Rows PySem.Calls
theorem KV.at {kvs:List (Key × V)} {vs:List (Key × Value)}:KV kvs vs->∀ {i:Nat} {p:Key × V},kvs[i]?=some p->∃ u,vs[i]?=some (p.1,u)/\RelV p.2 u:=by
  intro h
  unfold KV at h
  induction h with
  | nil=>intro i p e; simp at e
  | @cons a b as bs ab _ ih =>
    intro i p e
    cases i with
    | zero =>
      cases e
      refine ⟨b.2,?_,ab.2⟩
      rw [ab.1]
      rfl
    | succ i=>exact ih (by simpa using e)
section
variable {σ:St} {H:Hp} {Q:VK} {D:Ends} {td:TE} {g:TG} {tb:TS} {a:Addr} {o:Obj} {kvs:List (Key × V)}
end
section
variable {σ:St} {H:Hp} {Q:VK}
end
end L2
namespace L2
open PySem PySem.Spec PyProof.Rows PySem.Calls
structure Fly (base h:Heap) (e T:Addr) (cls:Value):Prop where
  x:∃ oe vs oT ts,h.get? e=some oe/\oe.cls=cls/\oe.data=.fields vs/\vs[1]?=some (.ref T)/\h.get? T=some oT/\oT.data=.fields ts/\ts[3]?=some .none
  nT:base.get? T=none
  ne:T ≠ e
  dn:∀ o,h.get? e=some o->o.dict=none
structure Gone (base:Heap) (l:List Env) (e:Addr) (cls:Value) (ch:List Addr) (h h':Heap):Prop where
  st:base.StaysIn h'
  fr:h'.FunFrames base l
  fly:∃ T,Fly base h' e T cls/\(T ∈ ch\/h.objs.size <= T)
  keep:∀ b o,b ∉ l.filterMap (·.frame)->b ≠ e->b ∉ ch->h.get? b=some o->h'.get? b=some o
  slot:∀ b o,b ∈ l.filterMap (·.frame)->h.get? b=some o->∃ sl,h'.get? b=some { o with slots:=sl }
section
variable {M:Model} {A:Around} {E:Value->Shared->Prop} {s:Shared} {base:Heap} {env:Env} {outer:List Env} {L e:Addr} {Q:Unit->Shared->Prop}
end
noncomputable def CXE (P:Program) (w:World) (base:Heap):CXT:=fun outer H s E e s'=>∃ (a T C:Addr) (H':Hp),e=.ref a/\Fly base s'.heap a T (.ref C)/\base.get? a=none/\H' a=none/\H' T=none/\s.heap.get? a=none/\s.heap.get? T=none /\
  s'.os=s.os/\AllBare s'.gens/\Un (frs outer) [] H H' s.heap s'.heap/\HOk P w H' s'.heap/\E e (some C) H'
theorem ObjOk.is {P:Program} {w:World} {H:Hp} {h:Heap} {a:Addr} {o:HO} (x:ObjOk P w H h a o):∃ q,h.get? a=some q:=by
  cases o with
  | lst xs=>obtain ⟨_,_,_,_,e⟩:=x; exact ⟨_,e⟩
  | tup xs=>obtain ⟨_,_,_,p⟩:=x; obtain ⟨_,e,_⟩:=p; exact ⟨_,e⟩
  | dK kvs=>obtain ⟨_,_,_,_,o,_,_,e,_⟩:=x; exact ⟨_,e⟩
  | dT kvs=>obtain ⟨_,_,_,_,o,_,_,e,_⟩:=x; exact ⟨_,e⟩
  | set S n=>obtain ⟨o,_,_,_,e,_⟩:=x; exact ⟨_,e⟩
  | ins C dx fs=>obtain ⟨_,_,_,e,_⟩:=x; exact ⟨_,e⟩
  | own y=>exact x
  | xd fs=>obtain ⟨_,⟨_,_,_,e,_⟩,_⟩:=x; exact ⟨_,e⟩
  | rng lo hi=>obtain ⟨_,_,_,e⟩:=x; exact ⟨_,e⟩
  | frz ob u=>exact ⟨_,x.1⟩
  | tbl ps=>exact ⟨_,x⟩
  | met f y=>exact ⟨_,x⟩
  | ext φ=>exact x.2.1
section
variable {X:Cx} {pins:List (Addr × Obj)} {σ:St} {H':Hp} {s':Shared} {h':Heap} {a:Addr} {cls:Value} {ch:List Addr}
end
end L2
namespace L2
open PySem PySem.Spec PyProof.Rows PySem.Calls
noncomputable def CalE (P:Program) (w:World) (K:PySem.W.Frag) (mg:Str->Option Value) (base:Heap) (k:Nat) (x:Str) (sp:Sp):Prop :=
  ∃ f,mg x=some (.ref f)/\∃ fd ps,FnOk P w K mg base (CXE P w base) k f fd ps sp/\PySem.W.keepIn K (.ref f)=true/\Binds K fd ps []
theorem CalE.mono {P:Program} {w:World} {K:PySem.W.Frag} {mg:Str->Option Value} {base:Heap} {j k:Nat} {x:Str} {sp:Sp} (c:CalE P w K mg base j x sp) (h:j <= k):CalE P w K mg base k x sp :=
  let ⟨f,m,fd,ps,F,kp,b⟩:=c
  ⟨f,m,fd,ps,F.mono h,kp,b⟩
section
variable {X:Cx} {pins pins':List (Addr × Obj)} {σ σ':St} {H:Hp} {s:Shared} {E:XK}
end
section
variable {X:Cx} {pins pins':List (Addr × Obj)} {σ:St} {H:Hp} {s s':Shared} {E:XK} {e:Value}
end
end L2
namespace L2
open PySem PySem.Spec PyProof.Rows PySem.Calls
end L2
namespace L2
open PySem PySem.Spec PyProof.Rows PySem.Calls
theorem ZgM:typeLookup (.type "list_reverseiterator") "__length_hint__" = pure (some (.builtin "list_reverseiterator.__length_hint__")):=by
  rw [typeLookup_type,builtinLookup_eq_fast]
  kernel_rfl
theorem ZmS:typeLookup (.type "list_reverseiterator") "__len__" = pure none:=by
  rw [typeLookup_type,builtinLookup_eq_fast]
  kernel_rfl
section
variable {prog:Program} {w:World} {A:Around} {E:Value->Shared->Prop} {s:Shared} {r:Addr}
theorem Zk2 {Q:Bool->Shared->Prop} (hT:s.TypeIs (.ref r) "list_reverseiterator") (h:Q false s):wpAny (model prog w) A (Builtin.List.listLengthHint (.ref r)) Q E s:=by
  unfold Builtin.List.listLengthHint
  refine wpAny_bind (wpAny_specialOf hT ZmS ?_)
  dsimp only
  refine wpAny_ite_split (fun hab=>absurd hab (by decide)) (fun _=>?_)
  refine wpAny_ite_split (fun hab=>absurd hab (by decide)) (fun _=>?_)
  refine wpAny_bind (wpAny_specialOf hT ZgM ?_)
  generalize hid:("list_reverseiterator.__length_hint__" : String)=id0
  wp_delta
  rw [show splitId id0=some ("list_reverseiterator", "__length_hint__") from by subst hid; decide +kernel]
  subst hid
  refine wpAny_bind (wpAny_isInstance (T := "list_reverseiterator") (b:=true) hT (by rw [isSubtype_type]; kernel_rfl) ?_)
  refine wpAny_ite_split (fun hab=>absurd hab (by decide)) (fun _=>?_)
  refine wpAny_ite_split (fun _=>?_) (fun hab=>absurd (by decide +kernel) hab)
  refine wpAny_ite_split (fun hab=>absurd hab (by decide)) (fun _=>?_)
  exact wpAny_pure h
theorem ZeU {l:Addr} {items:Array Value} {Q:Value->Shared->Prop} (hh:A.handled=none) (hit:s.heap.IsRevIter r l ((items.size:Int) - 1)) (hl:s.heap.IsList l items) (hlr:l ≠ r) (hn:items.size <= sizeLine)
    (hQ:∀ h' tk acc c,(∀ b o,b ≠ r->s.heap.get? b=some o->h'.get? b=some o)->h'.get? s.heap.objs.size=some { cls:=.type "list", dict:=none,data:=.seq acc c,slots:=#[] } ->
      ItemsOf (fun i v=>items[items.size - 1 - i]?=some v) acc items.size->Q (.ref s.heap.objs.size) { s with heap:=h',toks:=tk }):wpAny (model prog w) A (call (.type "list") [.ref r]) Q E s:=by
  refine callType_codes (Q₁:=fun obj s₁=>s₁={ s with heap:=s.heap.push { cls:=.type "list", data:=.seq #[] } }/\obj=.ref s.heap.objs.size) PySem.F.called_list (PySem.F.typeCall_list_1 _) PySem.F.entry_list_init (code_list_new _ ⟨rfl,rfl⟩) ?_
  rintro obj s₁ ⟨rfl,rfl⟩
  have hS:(s.heap.push { cls:=.type "list", data:=.seq #[] }).get? s.heap.objs.size=some { cls:=.type "list", data:=.seq #[] }:=Heap.get?_push_size _ rfl
  have rlt:r < s.heap.objs.size:=by obtain ⟨o,e,_⟩:=hit; exact Heap.lt_size e
  have llt:l < s.heap.objs.size:=by obtain ⟨o,e,_⟩:=hl; exact Heap.lt_size e
  generalize hz:s.heap.objs.size=S at hS rlt llt hQ |-
  have hSr:S ≠ r:=Nat.ne_of_gt rlt
  have hSl:S ≠ l:=Nat.ne_of_gt llt
  refine ⟨⟨_,hS,rfl⟩,PySem.F.args_list_init_2 _ _,?_⟩
  have up1:∀ b o,s.heap.get? b=some o->(s.heap.push { cls:=.type "list", data:=.seq #[] }).get? b=some o:=fun b o e=>Heap.get?_push_of_some _ e
  generalize s.heap.push { cls:=.type "list", data:=.seq #[] }=h1 at hS up1 |-
  show wpAny _ _ (Builtin.List.listItems (.ref S) >>= fun old=>Builtin.List.listUpdate (.ref S) (fun _=>#[]) >>= fun _=>letGo old.toList.reverse >>= fun _=>Builtin.List.listExtendWith (.ref S) (.ref r) .none) _ _ _
  unfold Builtin.List.listItems
  refine wpAny_bind (wpAny_bind (wpAny_seqItems hS rfl (wpAny_pure ?_)))
  refine wpAny_bind (wpAny_updateSeq hS rfl ?_)
  have hS2:=Heap.get?_update_self (Obj.mapSeq (fun _=>(#[]:Array Value))) hS rfl
  have up2:∀ b o,b ≠ S->h1.get? b=some o->(h1.update S (Obj.mapSeq (fun _=>(#[]:Array Value)))).get? b=some o:=fun b o hb e=>by
    rw [Heap.get?_update_other _ _ (Ne.symm hb)]
    exact e
  generalize h1.update S (Obj.mapSeq (fun _=>(#[]:Array Value)))=h2 at hS2 up2 |-
  refine wpAny_bind (wpAny_letGo ?_)
  have it2:h2.IsRevIter r l ((items.size:Int) - 1):=hit.at fun o e=>up2 _ _ (Ne.symm hSr) (up1 _ _ e)
  have l2:h2.IsList l items:=hl.at fun o e=>up2 _ _ (Ne.symm hSl) (up1 _ _ e)
  have ty2:({ s with heap:=h2 }:Shared).TypeIs (.ref r) "list_reverseiterator" := Heap.IsRevIter.typeIs (s:={ s with heap:=h2 }) it2
  unfold Builtin.List.listExtendWith
  refine wpAny_bind (wpAny_typeOf ty2 ?_)
  have ns:Builtin.List.listSameRef (.ref S) (.ref r)=false:=by simp [Builtin.List.listSameRef,hSr]
  rw [ns]
  refine wpAny_ite_split (fun hab=>absurd hab (by decide)) (fun _=>?_)
  refine wpAny_bind (wpAny_pyIter_revIter (s:={ s with heap:=h2 }) it2 ?_)
  refine wpAny_bind (wpAny_holding (Zk2 ty2 ?_))
  refine wpAny_ite_split (fun hab=>absurd hab (by decide)) (fun _=>?_)
  have W:=fun B:Around=>fun (hB:B.handled=none)=>Walks.listRev (prog:=prog) (w:=w) (A:=B) hB r l hlr items
  have e0:(items.size:Int) - 1 - ((0:Nat):Int)=(items.size:Int) - 1:=by omega
  refine wpAny_pure ⟨plainId_quiet PySem.F.plain_extend_loop _,codeAny_extend_loopS (W A.in1.in1 hh).toS hn S ?_ .none items.size 0 _ #[] _ rfl (Nat.zero_le _) ⟨Nat.zero_le _,by rw [e0]; exact it2,l2⟩ hS2 (ItemsOf.nil _) fun s' acc c mv hS' ok=>?_⟩
  . simp [hSr,hSl]
  . rw [Moved.eq_with mv]
    refine ⟨rfl,hQ s'.heap s'.toks acc c (fun b o hb e=>?_) hS' ok⟩
    have hbS:b ≠ S:=by rw [<- hz]; exact Nat.ne_of_lt (Heap.lt_size e)
    exact mv.heap b o (by simp [hb,hbS]) (up2 b o hbS (up1 b o e))
end
noncomputable def ZhR (K:PySem.W.Frag) (ta:TA):TE:=fun σ H Q=>ta σ H fun vs H1=>∃ b xs,vs=[.ref b]/\SqL K H1 b xs/\∀ l,H1 l=none->Q (.ref l) (upd H1 l (.lst xs.reverse))
theorem Ziq {K:PySem.W.Frag} {ta:TA} {σ:St} {H:Hp} {Q:VK} (q:ta σ H fun vs H1=>∃ b xs,vs=[.ref b]/\SqL K H1 b xs/\∀ l,H1 l=none->Q (.ref l) (upd H1 l (.lst xs.reverse))):ZhR K ta σ H Q:=q
theorem Zjx:∀ (xs:List V) (us:List Value),xs.length=us.length->(∀ (j:Nat) (x:V) (u:Value),xs[j]?=some x->us[j]?=some u->RelV x u)->Vals xs us
  | [],[],_,_=>.nil
  | [],_ :: _,h,_=>by simp at h
  | _ :: _,[],h,_=>by simp at h
  | x :: xs,u :: us,h,g=>.cons (g 0 x u rfl rfl) (Zjx xs us (by simpa using h) fun j y v h1 h2=>g (j + 1) y v (by simpa using h1) (by simpa using h2))
theorem Zir {X:Cx} {a:Expr} {ta:TA} {p p2 pos pos2:Pos} (hc:X.calm=true) (hgl:Gl X "list") (hml:X.mg "list" = none) (hgr:Gl X "reversed") (hmr:X.mg "reversed" = none) (ha:PA X [a] ta) (hs:starEach [a] X.env=[(false,eval a X.env)]:=by rfl)
    (hs2:starEach [.Call (.Name "reversed" p2) [a] [] pos2] X.env=[(false,eval (.Call (.Name "reversed" p2) [a] [] pos2) X.env)]:=by rfl):PE X (.Call (.Name "list" p) [.Call (.Name "reversed" p2) [a] [] pos2] [] pos) (ZhR X.K ta):=by
  intro pins s σ H Q I h
  refine Call_ (Zey I hgl hml boot_list (PyProof.Rows.callWith_type1 (PyProof.Rows.spliced_more (Call_ (Zey I hgr hmr boot_reversed (PyProof.Rows.callWith_type1 (thn (ha pos2 pins s σ H _ I h) fun us s1 ⟨vs,H1,I1,r1,q1⟩=>?_) hs rfl))) hs2) hs2 rfl))
  obtain ⟨l,xs,e,hq,q⟩:=q1
  subst e
  cases r1 with
  | cons r rr =>
    cases rr
    cases r
    obtain ⟨its,rv,pl,hz⟩:=I1.list hq
    refine call_reversed_list pl.isList ?_
    have en:its.toArray.size=xs.length:=by rw [List.size_toArray,rv.length]
    have st:(s1.heap.push (revObj l ((its.toArray.size:Int) - 1))).IsRevIter s1.heap.objs.size l ((its.toArray.size:Int) - 1):=⟨_,Heap.get?_push_size _ rfl,rfl,rfl⟩
    have llt:l < s1.heap.objs.size:=by obtain ⟨_,e,_⟩:=pl.isList; exact Heap.lt_size e
    refine PyProof.Rows.spliced_none ?_
    refine ZeU (s:={ s1 with heap:=s1.heap.push (revObj l ((its.toArray.size:Int) - 1)) }) (I1.ok.hd hc) st (pl.isList.at fun o e=>Heap.get?_push_of_some _ e) (Nat.ne_of_lt llt) (by rw [en]; exact hz) fun h' tk acc c kp hS ok=>?_
    have ge:s1.heap.objs.size <= (s1.heap.push (revObj l ((its.toArray.size:Int) - 1))).objs.size:=by rw [Heap.size_push]; exact Nat.le_succ _
    refine ⟨.ref _,_,I1.laid (t':=tk) (h':=h') (o:=.lst xs.reverse) (fun b u e=>kp b u (Nat.ne_of_lt (Heap.lt_size e)) (Heap.get?_push_of_some _ e)) ge ?_,rfl,q _ (I1.hok.fresh ge)⟩
    refine ⟨by rw [List.length_reverse]; exact hz,acc.toList,c,Zjx _ _ ?_ fun j x u h1 h2=>?_,hS⟩
    . have k1:=ok.1
      have k2:acc.toList.length=acc.size:=Array.length_toList
      have k3:xs.reverse.length=xs.length:=List.length_reverse
      omega
    . have h3:=ok.2 j u (by rw [<- Array.getElem?_toList]; exact h2)
      have hj:j < xs.length:=by
        have:=(List.getElem?_eq_some_iff.mp h1).1
        rwa [List.length_reverse] at this
      rw [List.getElem?_reverse hj] at h1
      rw [en] at h3
      obtain ⟨v,hv,rr⟩:=rv.get h1
      have h4:its[xs.length - 1 - j]?=some u:=by simpa using h3
      rw [hv] at h4
      cases h4
      exact rr
noncomputable abbrev Exc (x:Str) (C:Addr) (mg:Str->Option Value) (base:Heap):Prop:=OwnCls x C [.type "ValueError", .type "Exception", .type "BaseException", .type "object"] "ValueError.__new__" mg base
end L2
namespace L2
open PySem PySem.Spec PyProof.Rows
noncomputable def Zcg (K:PySem.W.Frag) (C:Addr) (m qual:Str) (st:Stmt) (items:Array Value):Prop:=∃ f fd,FunD K m qual st items f fd/\PySem.W.findIn K (.ref C) m=some (some (.ref f))/\PySem.W.isFn K (.ref f)=true
noncomputable def ZgN (P:Program) (w:World) (K:PySem.W.Frag) (mg:Str->Option Value) (base:Heap) (k:Nat) (x:Str) (C:Addr) (sp:Sp) (dvs:List V):Prop :=
  mg x=some (.ref C)/\∃ f fd ps ds,Mk K C f/\FnOk P w K mg base CX0 k f fd ps sp/\Binds K fd ps ds/\Vals dvs ds
section
variable {P:Program} {w:World} {K:PySem.W.Frag} {mg:Str->Option Value} {base:Heap}
theorem Zis {C:Addr} {m qual:Str} {st:Stmt} {f T:Addr} {oc c2:Value} {od an d2:Option Addr} {osl s2:Array (Option Value)} {kV doc pm cdv ct:Value} {items:Array Value} {n:Nat}
    (a:PySem.W.findIn K (.ref C) m=some (some (.ref f))) (i:PySem.W.isFn K (.ref f)=true) (l:K.lookup f=some ⟨oc,od,.func (PySem.W.fnOf m qual (Zaw st) (Zar st) (Zab st) (.ref T) kV doc pm an cdv ct),osl⟩)
    (c:PySem.W.codeIn K cdv qual=true) (k:PySem.W.keepIn K (.ref f)=true) (d:K.lookup T=some ⟨c2,d2,.seq items n,s2⟩):Zcg K C m qual st items :=
  ⟨f,_,⟨⟨oc,od,T,kV,doc,pm,an,cdv,ct,osl,_,n,rfl,l,c,d,rfl⟩,k⟩,a,i⟩
theorem Zk3 {C:Addr} {x qual:Str} {st:Stmt} {items:Array Value} {N ps:List Str} {k:Nat} {sp:Sp} (D:Zcg K C "__init__" qual st items) (c:ClsF K mg x C) (S:FnScope N ps (Zab st)) (len:∀ vs H Q E,sp vs H Q E->vs.length=ps.length)
    (hbody:∀ (f:Addr) (cdv:Value) (A:Around) (outer:List Env) (s:Shared) (H:Hp) (vs:List V) (Q:VK) (E:XK),Room k (A.deeper (envOfC qual (Zab st) s.heap.objs.size f cdv))->sp vs H Q E ->
      ∃ t,PSs (cxOf CX0 P w K mg base N qual (Zab st) f cdv A outer s H E).nox (Zar st) t/\t { nx:=fun _ H'=>Q .non H',rt:=Q } (start N vs) H)
    (ds:List Value) {dvs:List V} (v:Vals dvs ds)
    (hb:∀ (T:Addr) (kV doc pm:Value) (an:Option Addr) (cdv ct:Value) (us:List Value),(us ++ ds).length=ps.length->∃ k:Option (Array Value)->Sem (List (Str × Value)),bindArgs (PySem.W.fnOf "__init__" qual (Zaw st) (Zar st) (Zab st) (.ref T) kV doc pm an cdv ct) ⟨us,[]⟩=seqItems? (.ref T) >>= k/\k (some items)=pure (ps.zip (us ++ ds))):ZgN P w K mg base (k + 1) x C sp dvs:=by
  obtain ⟨f,fd,F,a,i⟩:=D
  exact ⟨c.mgC,f,fd,ps,ds,⟨c.ms,a,i,c.kc⟩,F.fn S len (hbody f),F.binds ds hb,v⟩
end
section
variable {X:Cx} {k:Nat} {C:Addr} {sp:Sp} {x:Str} {p pos:Pos} {e:Expr} {es:List Expr} {t:TA} {dvs:List V}
theorem ZdF (c:ZgN X.prog X.w X.K X.mg X.base k x C sp dvs) (hr:Room (k + 1) X.A) (hg:Gl X x) (ha:PA X (e :: es) t) (hdb:(x == ("__debug__" : Str))=false:=by decide)
    (he:starEach (e :: es) X.env=(false,eval e X.env) :: starEach es X.env:=by rfl) (hpl:(backTo pos (starEach es X.env)).any (·.1)=false:=by rfl) :
    PE X (.Call (.Name x p) (e :: es) [] pos) (tMake C sp dvs E0 t):=by
  obtain ⟨m,f,fd,ps,ds,M,F,b,v⟩:=c
  exact Zi3 M F hr hg m b v pass0 ha hdb he hpl
end
theorem Zk4 {σ:St} {H:Hp} {Q:VK} {C:Addr} {sp:Sp} {t:TA} {dvs:List V} (q:t σ H fun vs H1=>∀ x dx,H1 x=none->H1 dx=none->dx ≠ x->sp (.ref x :: (vs ++ dvs)) (upd (upd H1 dx (.own x)) x (.ins C dx [])) (fun v H2=>v=.non/\Q (.ref x) H2) E0):tMake C sp dvs E0 t σ H Q:=q
noncomputable def KeptX (X:Addr->Prop) (H H':Hp):Prop:=∀ b o,H b=some o->¬ X b->H' b=some o
section
variable {X Y:Addr->Prop} {H H1 H2:Hp}
theorem KeptX.refl:KeptX X H H:=fun _ _ e _=>e
theorem KeptX.trans (a:KeptX X H H1) (b:KeptX X H1 H2):KeptX X H H2:=fun c o e n=>b c o (a c o e n) n
theorem KeptX.mono (a:KeptX X H H1) (h:∀ b,X b->Y b):KeptX Y H H1:=fun c o e n=>a c o e fun z=>n (h c z)
theorem Same.keptX (s:Same H H1):KeptX X H H1:=fun c o e _=>s c o e
theorem KeptX.upd {b:Addr} {o:HO} (h:X b):KeptX X H (L2.upd H b o):=fun c u e n=>by
  have hc:c ≠ b:=fun z=>by rw [z] at n; exact n h
  rw [Zai hc]; exact e
theorem KeptX.new {b:Addr} {o:HO} (h:H b=none):KeptX X H (L2.upd H b o):=(Same.new h).keptX
theorem KeptX.imm (a:KeptX X H H1) (h:∀ b o,X b->H b=some o->¬ Imm o):SameI H H1:=fun b u e i=>a b u e fun z=>h b u z e i
end
end L2
local macro_rules|`(tactic| walk_at "settle")=>`(tactic| first
  | (simp only [L2.start,List.map_cons,List.map_nil,List.length_cons,List.length_nil,List.replicate,List.cons_append,List.nil_append,List.append_nil,List.set_cons_zero,List.set_cons_succ,Nat.reduceAdd,Nat.reduceSub]; done)
  | (simp only [L2.start,List.map_cons,List.map_nil,List.length_cons,List.length_nil,List.replicate,List.cons_append,List.nil_append,List.append_nil,List.set_cons_zero,List.set_cons_succ,Nat.reduceAdd,Nat.reduceSub]; rfl)
  | rfl
  | fail)
local macro_rules|`(tactic| walk_at "side")=>`(tactic| first
  | exact ⟨by decide,by decide⟩
  | exact ⟨by decide,by decide,by decide⟩
  | (show (0:Int) < _; first|decide|omega)
  | (show (0:Int) <= _; first|decide|omega)
  | (show (0:Int) < _/\_ < _; refine ⟨by omega,by omega⟩)
  | (show (_/\_)\/_; refine .inl ⟨by omega,by omega⟩)
  | (show _\/(_/\_); refine .inr ⟨by omega,by omega⟩)
  | fail)
local macro_rules|`(tactic| walk_at "rd")=>`(tactic| first
  | with_reducible refine L2.rd_seq ?_
  | with_reducible refine L2.rd_asg ?_
  | ((with_reducible refine' L2.ZkZ ?e ?_); (case e=>walk_at "settle"))
  | with_reducible refine L2.rd_C ?_
  | ((with_reducible refine' L2.rd_V ?e ?_); (case e=>rfl))
  | with_reducible refine L2.rd_op ?_
  | with_reducible refine L2.rd_I0 ?_
  | ((with_reducible refine' L2.rd_I ?c ?_); (case c=>walk_at "side"))
  | with_reducible refine L2.rd_eqI ?_
  | with_reducible refine L2.rd_eqS ?_
  | with_reducible refine L2.rd_neI ?_
  | with_reducible refine L2.rd_neS ?_
  | with_reducible refine L2.rd_eqB ?_
  | with_reducible refine L2.rd_neB ?_
  | with_reducible refine L2.Zmt ?_
  | with_reducible refine L2.rd_B ?_
  | with_reducible refine L2.rd_bl ?_
  | with_reducible refine L2.rd_ifS ?_
  | with_reducible refine L2.rd_if ?_
  | with_reducible refine L2.Zc5 (fun _=>?_) (fun _=>?_)
  | with_reducible refine L2.Zcq (fun _=>?_) (fun _=>?_)
  | with_reducible refine L2.rd_iteNND (fun _=>?_) (fun _=>?_)
  | with_reducible refine L2.iteT ?_
  | with_reducible refine L2.iteF ?_
  | with_reducible refine L2.iteNT ?_
  | with_reducible refine L2.iteNF ?_
  | with_reducible refine L2.ZlV ?_
  | with_reducible refine L2.Zms ?_
  | with_reducible refine L2.Zje ?_
  | with_reducible refine L2.rd_and ?_
  | with_reducible refine L2.rd_or ?_
  | with_reducible refine L2.rd_not ?_
  | with_reducible refine L2.Zmu ?_
  | with_reducible refine L2.rd_orV ?_
  | with_reducible refine L2.Zmv ?_
  | with_reducible refine L2.Zmw ?_
  | with_reducible refine L2.rd_nil ?_
  | with_reducible refine L2.ZmF ?_
  | with_reducible refine L2.Zmx ?_
  | with_reducible refine L2.rd_CB ?_
  | with_reducible refine L2.ZkQ ?_
  | with_reducible refine L2.rd_un ?_
  | with_reducible refine L2.rd_U ?_
  | with_reducible refine L2.rd_tup ?_
  | with_reducible refine L2.rd_lst ?_
  | fail)
local macro_rules|`(tactic| walk_at "sql")=>`(tactic| first
  | assumption
  | exact L2.sql_new
  | exact L2.ZgI
  | exact L2.ZaE (by assumption)
  | exact L2.Zbg (by assumption)
  | exact L2.TupK.sqt (by assumption) _
  | (refine L2.SqL.updN ?_ (by assumption); walk_at "sql")
  | (refine L2.SqT.updN ?_ (by assumption); walk_at "sql")
  | fail)
local macro_rules|`(tactic| walk_at "hp")=>`(tactic| first
  | assumption
  | exact L2.Zag
  | exact Eq.trans (L2.Zai (L2.Zaj L2.Zag (by assumption))) L2.Zag
  | fail)
local macro_rules|`(tactic| walk_at "rdl")=>`(tactic| first
  | walk_at "rd"
  | ((with_reducible refine' L2.Za8 ?h ?e ?_); (case h=>walk_at "sql"); (case e=>rfl))
  | ((with_reducible refine' L2.ZbY ?h ?e ?_); (case h=>walk_at "sql"); (case e=>rfl))
  | with_reducible refine L2.rd_sl ?_
  | with_reducible refine L2.rd_noPart ?_
  | with_reducible refine L2.rd_part ?_
  | with_reducible refine L2.rd_ei ?_
  | ((with_reducible refine' L2.rd_slL ?h ?_); (case h=>walk_at "sql"))
  | fail)
local macro_rules|`(tactic| walk_at "rda")=>`(tactic| first
  | walk_at "rdl"
  | ((with_reducible refine' L2.rd_aug ?e ?_); (case e=>rfl))
  | with_reducible refine L2.rd_ipI ?_
  | with_reducible refine L2.ZgK ?_
  | with_reducible refine L2.Zjh ?_
  | with_reducible refine L2.rd_abs ?_
  | ((with_reducible refine' L2.rd_isi ?e ?_); (case e=>rfl))
  | ((with_reducible refine' L2.ZmC ?e ?_); (case e=>rfl))
  | ((with_reducible refine' L2.ZmD ?h ?e ?_); (case h=>walk_at "sql"); (case e=>rfl))
  | ((with_reducible refine' L2.ZmE ?h ?e ?_); (case h=>walk_at "sql"); (case e=>rfl))
  | ((with_reducible refine' L2.Zmy ?h ?_); (case h=>walk_at "sql"))
  | ((with_reducible refine' L2.Zmz ?h ?_); (case h=>walk_at "sql"))
  | fail)
local macro_rules|`(tactic| walk_at "sz")=>`(tactic| first
  | assumption
  | exact Nat.le_trans (by assumption) (by decide)
  | decide
  | fail)
local macro_rules|`(tactic| walk_at "rdt")=>`(tactic| first
  | walk_at "rda"
  | with_reducible refine L2.rd_bm ?_
  | with_reducible refine L2.rd_bm0 ?_
  | with_reducible refine L2.rd_tyS ?_
  | with_reducible refine L2.rd_find ?_
  | with_reducible refine L2.rd_inS ?_
  | with_reducible refine L2.rd_notInS ?_
  | with_reducible refine L2.rd_sb ?_
  | with_reducible refine L2.rd_ord ?_
  | with_reducible refine L2.ZmH ?_
  | with_reducible refine L2.rd_isNi ?_
  | with_reducible refine L2.ZmI ?_
  | with_reducible refine L2.rd_notN0 ?_
  | with_reducible refine L2.rd_notNi ?_
  | with_reducible refine L2.rd_notNr ?_
  | ((with_reducible refine' L2.rd_lenZ ?h ?_); (case h=>walk_at "sz"))
  | ((with_reducible refine' L2.rd_slS ?h ?_); (case h=>walk_at "sz"))
  | fail)
local macro_rules|`(tactic| walk_at "rdq")=>`(tactic| first
  | ((with_reducible refine L2.Zc5 (fun _=>?_) (fun _=>?_)) <;> (try (exfalso; omega)))
  | ((with_reducible refine L2.Zcq (fun _=>?_) (fun _=>?_)) <;> (try (exfalso; omega)))
  | ((with_reducible refine L2.rd_iteNND (fun _=>?_) (fun _=>?_)) <;> (try (exfalso; omega)))
  | walk_at "rdt"
  | fail)
local macro_rules|`(tactic| walk_at "rdj")=>`(tactic| first
  | ((with_reducible refine' L2.rd_addJ ?h (fun _ _=>?_)); (case h=>omega))
  | ((with_reducible refine' L2.rd_slJ ?h (fun _ _=>?_)); (case h=>omega))
  | walk_at "rdq"
  | fail)
local macro_rules|`(tactic| walk_at "rdm")=>`(tactic| first
  | walk_at "rdt"
  | ((with_reducible refine' L2.ZeS ?h (fun _ _=>?_)); (case h=>walk_at "sql"))
  | ((with_reducible refine' L2.rd_listT ?h (fun _ _=>?_)); (case h=>walk_at "sql"))
  | with_reducible refine L2.ZmM ?_
  | fail)
local macro_rules|`(tactic| walk_at "rdk")=>`(tactic| first
  | walk_at "rdm"
  | with_reducible refine L2.rd_fld ?_
  | with_reducible refine L2.ZmJ ?_
  | with_reducible refine L2.Zjw ?_
  | with_reducible refine L2.ZmQ ?_
  | with_reducible refine L2.ZmR ?_
  | with_reducible refine L2.ZmK ?_
  | with_reducible refine L2.ZmO ?_
  | ((with_reducible refine' L2.rd_sum ?h ?_); (case h=>walk_at "sql"))
  | with_reducible refine L2.ZkX ?_
  | with_reducible refine L2.ZkW (fun _ _=>?_)
  | with_reducible refine L2.rd_din ?_
  | with_reducible refine L2.rd_dnotin ?_
  | with_reducible refine L2.rd_dget ?_
  | with_reducible refine L2.ZmL ?_
  | with_reducible refine L2.rd_dpop1 ?_
  | with_reducible refine L2.Zk1 ?_
  | with_reducible refine L2.ZhQ ?_
  | with_reducible refine L2.ZmP ?_
  | ((with_reducible refine' L2.Zju ?h ?e ?_); (case h=>walk_at "sql"); (case e=>rfl))
  | fail)
local macro_rules|`(tactic| walk_at "rdz")=>`(tactic| first
  | ((with_reducible refine L2.Zc5 (fun _=>?_) (fun _=>?_)) <;> (try (exfalso; omega)))
  | ((with_reducible refine L2.Zcq (fun _=>?_) (fun _=>?_)) <;> (try (exfalso; omega)))
  | ((with_reducible refine L2.rd_iteNND (fun _=>?_) (fun _=>?_)) <;> (try (exfalso; omega)))
  | walk_at "rdk"
  | fail)
local macro_rules|`(tactic| walk_at "rdx")=>`(tactic| first
  | with_reducible refine L2.Zc5 (fun h=>absurd h (by decide)) (fun _=>?_)
  | with_reducible refine L2.Zc5 (fun _=>?_) (fun h=>absurd (by decide) h)
  | with_reducible refine L2.Zcq (fun h=>absurd (by decide) h) (fun _=>?_)
  | with_reducible refine L2.Zcq (fun _=>?_) (fun h=>absurd h (by decide))
  | walk_at "rdk"
  | fail)
namespace My
open PySem L2
local macro_rules|`(tactic| walk_at "nx")=>`(tactic| try simp only [L2.nox_K,L2.nox_P,L2.nox_w,L2.nox_mg,L2.ZkR,L2.cxOf_K,L2.cxOf_P,L2.cxOf_w,L2.ZmG,L2.Zjk])
noncomputable def top (i:Nat):Stmt:=PySem.Challenge.pw_meterhouse_k33_how_calls_end.main.body.getD i (.Pass ⟨0,0,0,0⟩)
noncomputable abbrev s__wall:Stmt:=top 0
noncomputable abbrev ZgO:Stmt:=top 5
noncomputable abbrev ZgP:Stmt:=top 6
noncomputable abbrev ZeV:Stmt:=top 7
noncomputable abbrev ZgQ:Stmt:=top 8
noncomputable abbrev Zch:Stmt:=top 11
noncomputable abbrev Zci:Stmt:=top 13
noncomputable abbrev ZgR:Stmt:=top 23
noncomputable abbrev Zc6:Stmt:=top 24
noncomputable abbrev Zcj:Stmt:=top 25
noncomputable abbrev ZcF:Stmt:=top 26
noncomputable abbrev ZcG:Stmt:=top 27
noncomputable abbrev Zc7:Stmt:=top 28
noncomputable abbrev ZdY:Stmt:=top 29
noncomputable abbrev ZdZ:Stmt:=top 30
noncomputable abbrev ZcH:Stmt:=top 31
noncomputable abbrev Zb3:Stmt:=top 32
noncomputable abbrev Zd0:Stmt:=top 33
noncomputable abbrev ZeW:Stmt:=top 34
noncomputable abbrev ZeX:Stmt:=top 36
noncomputable abbrev Zck:Stmt:=top 38
noncomputable abbrev Zc8:Stmt:=top 39
noncomputable abbrev Zc9:Stmt:=top 40
noncomputable abbrev Zda:Stmt:=top 41
noncomputable abbrev Zdb:Stmt:=top 42
noncomputable abbrev Zcl:Stmt:=top 43
noncomputable abbrev Zdc:Stmt:=top 44
noncomputable abbrev Zcm:Stmt:=top 45
noncomputable abbrev Zdd:Stmt:=top 46
noncomputable abbrev Zde:Stmt:=top 47
noncomputable abbrev ZeY:Stmt:=top 48
noncomputable abbrev Zdf:Stmt:=top 49
noncomputable abbrev Zdg:Stmt:=top 50
noncomputable abbrev Zdh:Stmt:=top 51
noncomputable abbrev Zdi:Stmt:=top 52
noncomputable abbrev Zdj:Stmt:=top 53
noncomputable abbrev Zdk:Stmt:=top 54
noncomputable abbrev Zdl:Stmt:=top 55
noncomputable abbrev ZeZ:Stmt:=top 57
noncomputable abbrev Zb4:Stmt:=top 61
noncomputable abbrev Zb5:Stmt:=top 62
noncomputable abbrev ZcI:Stmt:=top 63
noncomputable abbrev ZcJ:Stmt:=top 64
noncomputable abbrev ZbU:Stmt:=top 65
noncomputable abbrev Zcn:Stmt:=top 66
noncomputable abbrev Zbs:Stmt:=top 67
noncomputable abbrev Zcu:Stmt:=top 68
noncomputable abbrev ZdG:Stmt:=top 69
noncomputable abbrev Ze0:Stmt:=top 70
noncomputable abbrev s_go:Stmt:=top 71
noncomputable abbrev ZgS:Stmt:=top 72
noncomputable abbrev Zdm:Stmt:=top 76
noncomputable abbrev Ze1:Stmt:=top 77
noncomputable abbrev Ze2:Stmt:=top 78
noncomputable abbrev Zjy:Stmt:=top 79
noncomputable abbrev Ze3:Stmt:=top 80
noncomputable abbrev ZgT:Stmt:=top 81
noncomputable abbrev Ze4:Stmt:=top 82
noncomputable abbrev Zjz:Stmt:=top 83
noncomputable abbrev ZgU:Stmt:=top 84
noncomputable abbrev ZjA:Stmt:=top 85
noncomputable abbrev ZaL:Stmt:=ZaD (top 10) 0
noncomputable abbrev ZaU:Stmt:=ZaD (top 10) 1
noncomputable abbrev Za4:Stmt:=ZaD (top 10) 2
noncomputable abbrev ZjB:Stmt:=ZaD (top 10) 3
noncomputable abbrev s_Deed_do:Stmt:=ZaD (top 14) 0
noncomputable abbrev ZmT:Stmt:=ZaD (top 14) 1
noncomputable abbrev ZmU:Stmt:=ZaD (top 14) 2
noncomputable abbrev ZlX:Stmt:=ZaD (top 14) 3
noncomputable abbrev Zkq:Stmt:=ZaD (top 14) 4
noncomputable abbrev ZaY:Stmt:=ZaD (top 15) 0
noncomputable abbrev ZbM:Stmt:=ZaD (top 15) 1
noncomputable abbrev Zbt:Stmt:=ZaD (top 15) 2
noncomputable abbrev Zbu:Stmt:=ZaD (top 15) 3
noncomputable abbrev ZlY:Stmt:=ZaD (top 15) 4
noncomputable abbrev Zkr:Stmt:=ZaD (top 15) 5
noncomputable abbrev ZaZ:Stmt:=ZaD (top 16) 0
noncomputable abbrev ZbN:Stmt:=ZaD (top 16) 1
noncomputable abbrev Zbv:Stmt:=ZaD (top 16) 2
noncomputable abbrev Zbw:Stmt:=ZaD (top 16) 3
noncomputable abbrev Zks:Stmt:=ZaD (top 16) 4
noncomputable abbrev Za0:Stmt:=ZaD (top 17) 0
noncomputable abbrev Zbx:Stmt:=ZaD (top 17) 1
noncomputable abbrev Zax:Stmt:=ZaD (top 20) 0
noncomputable abbrev Zbh:Stmt:=ZaD (top 20) 1
noncomputable abbrev ZaQ:Stmt:=ZaD (top 20) 2
noncomputable abbrev ZaK:Stmt:=ZaD (top 20) 3
noncomputable abbrev Zbd:Stmt:=ZaD (top 20) 4
noncomputable abbrev Zby:Stmt:=ZaD (top 20) 5
noncomputable abbrev Za5:Stmt:=ZaD (top 20) 6
noncomputable abbrev Zbi:Stmt:=ZaD (top 20) 7
noncomputable abbrev ZaM:Stmt:=ZaD (top 74) 0
noncomputable abbrev Za1:Stmt:=ZaD (top 74) 1
noncomputable abbrev Za6:Stmt:=ZaD (top 74) 2
noncomputable abbrev Za7:Stmt:=ZaD (top 74) 3
noncomputable abbrev ZaW:Stmt:=ZaD (top 74) 4
noncomputable abbrev ZjC:Stmt:=ZaD (top 74) 5
noncomputable abbrev Zit:Stmt:=ZaD (top 74) 6
noncomputable abbrev ZbO:Stmt:=ZaD (top 14) 0
noncomputable abbrev Zbz:Stmt:=ZaD (top 14) 1
structure T_Account (K:PySem.W.Frag) (mg:Str->Option Value) (C:Addr):Prop where
  k:ClsF K mg "Account" C
  n_coin:NoAttr K C "coin"
  n_purse:NoAttr K C "purse"
  n_count:NoAttr K C "count"
  n_program:NoAttr K C "program"
  n_store:NoAttr K C "store"
structure T_Deed (K:PySem.W.Frag) (mg:Str->Option Value) (C:Addr):Prop where
  k:ClsF K mg "Deed" C
structure T_Save (K:PySem.W.Frag) (mg:Str->Option Value) (C:Addr):Prop where
  k:ClsF K mg "Save" C
  n_slot:NoAttr K C "slot"
  n_place:NoAttr K C "place"
  n_old:NoAttr K C "old"
  n_new:NoAttr K C "new"
structure T_Move (K:PySem.W.Frag) (mg:Str->Option Value) (C:Addr):Prop where
  k:ClsF K mg "Move" C
  n_slot:NoAttr K C "slot"
  n_taker:NoAttr K C "taker"
  n_many:NoAttr K C "many"
structure T_Note (K:PySem.W.Frag) (mg:Str->Option Value) (C:Addr):Prop where
  k:ClsF K mg "Note" C
  n_slot:NoAttr K C "slot"
  n_number:NoAttr K C "number"
structure T_Frame (K:PySem.W.Frag) (mg:Str->Option Value) (C:Addr):Prop where
  k:ClsF K mg "Frame" C
  n_kind:NoAttr K C "kind"
  n_who:NoAttr K C "who"
  n_whose:NoAttr K C "whose"
  n_caller:NoAttr K C "caller"
  n_coin:NoAttr K C "coin"
  n_word:NoAttr K C "word"
  n_given:NoAttr K C "given"
  n_depth:NoAttr K C "depth"
  n_looking:NoAttr K C "looking"
  n_used:NoAttr K C "used"
  n_stack:NoAttr K C "stack"
  n_row:NoAttr K C "row"
  n_steps:NoAttr K C "steps"
  n_end:NoAttr K C "end"
  n_answer:NoAttr K C "answer"
structure T_Journal (K:PySem.W.Frag) (mg:Str->Option Value) (C:Addr):Prop where
  k:ClsF K mg "Journal" C
  n_rooms:NoAttr K C "rooms"
  n_deeds:NoAttr K C "deeds"
theorem bd1 {R:List Value->Prop} (h:∀ a,R [a]) (us:List Value) (hl:us.length=1):R us:=by
  cases us with
  | nil=>cases hl
  | cons a r =>
    cases r with
    | nil=>exact h a
    | cons b r=>cases hl
theorem bdS {R:List Value->Prop} {n:Nat} (h:∀ a (r:List Value),r.length=n->R (a :: r)) (us:List Value) (hl:us.length=n + 1):R us:=by
  cases us with
  | nil=>cases hl
  | cons a r=>exact h a r (Nat.succ.inj hl)
theorem bd2 {R:List Value->Prop} (h:∀ a b,R [a,b]) (us:List Value) (hl:us.length=2):R us:=bdS (n:=1) (fun a r hr=>bd1 (R:=fun r=>R (a :: r)) (h a) r hr) us hl
theorem bd3 {R:List Value->Prop} (h:∀ a b c,R [a,b,c]) (us:List Value) (hl:us.length=3):R us:=bdS (n:=2) (fun a r hr=>bd2 (R:=fun r=>R (a :: r)) (h a) r hr) us hl
theorem bd4 {R:List Value->Prop} (h:∀ a b c d,R [a,b,c,d]) (us:List Value) (hl:us.length=4):R us:=bdS (n:=3) (fun a r hr=>bd3 (R:=fun r=>R (a :: r)) (h a) r hr) us hl
theorem bd5 {R:List Value->Prop} (h:∀ a b c d e,R [a,b,c,d,e]) (us:List Value) (hl:us.length=5):R us:=bdS (n:=4) (fun a r hr=>bd4 (R:=fun r=>R (a :: r)) (h a) r hr) us hl
theorem bd6 {R:List Value->Prop} (h:∀ a0 a1 a2 a3 a4 a5,R [a0,a1,a2,a3,a4,a5]) (us:List Value) (hl:us.length=6):R us:=bdS (n:=5) (fun a r hr=>bd5 (R:=fun r=>R (a :: r)) (h a) r hr) us hl
theorem bd7 {R:List Value->Prop} (h:∀ a0 a1 a2 a3 a4 a5 a6,R [a0,a1,a2,a3,a4,a5,a6]) (us:List Value) (hl:us.length=7):R us:=bdS (n:=6) (fun a r hr=>bd6 (R:=fun r=>R (a :: r)) (h a) r hr) us hl
theorem bd8 {R:List Value->Prop} (h:∀ a0 a1 a2 a3 a4 a5 a6 a7,R [a0,a1,a2,a3,a4,a5,a6,a7]) (us:List Value) (hl:us.length=8):R us:=bdS (n:=7) (fun a r hr=>bd7 (R:=fun r=>R (a :: r)) (h a) r hr) us hl
theorem bd9 {R:List Value->Prop} (h:∀ a0 a1 a2 a3 a4 a5 a6 a7 a8,R [a0,a1,a2,a3,a4,a5,a6,a7,a8]) (us:List Value) (hl:us.length=9):R us:=bdS (n:=8) (fun a r hr=>bd8 (R:=fun r=>R (a :: r)) (h a) r hr) us hl
theorem bd10 {R:List Value->Prop} (h:∀ a0 a1 a2 a3 a4 a5 a6 a7 a8 a9,R [a0,a1,a2,a3,a4,a5,a6,a7,a8,a9]) (us:List Value) (hl:us.length=10):R us:=bdS (n:=9) (fun a r hr=>bd9 (R:=fun r=>R (a :: r)) (h a) r hr) us hl
noncomputable def sCut (t:TS):TS:=fun D σ H=>∃ P:St->Hp->Prop,t { D with nx:=P } σ H/\∀ σ' H',P σ' H'->D.nx σ' H'
theorem ZjD {t:TS} {D:Ends} {σ:St} {H:Hp} (P:St->Hp->Prop) (q:t { D with nx:=P } σ H) (m:∀ σ' H',P σ' H'->D.nx σ' H'):sCut t D σ H:=⟨P,q,m⟩
theorem ZjE {X:Cx} {st:Stmt} {t:TS} (h:PS X st t):PS X st (sCut t):=by
  intro pins s σ H D I q
  obtain ⟨P,q,m⟩:=q
  refine wpAny_mono (h pins s σ H { D with nx:=P } I q) (fun f s' z=>?_) fun _ _ z=>z
  cases f with
  | next=>obtain ⟨σ',H',I',q'⟩:=z; exact ⟨σ',H',I',m _ _ q'⟩
  | brk=>exact z
  | cont=>exact z
  | ret u=>exact z
noncomputable abbrev W64:Int:=18446744073709551616
noncomputable def sp2 (f:Int->Int->Int) (C:Int->Int->Prop):Sp:=fun vs H Q _=>∃ a b,vs=[.int a,.int b]/\C a b/\Q (.int (f a b)) H
noncomputable def In64 (a:Int):Prop:=0 <= a/\a < 18446744073709551616
noncomputable def rkAdd (a b:Int):Int:=(a + b) % 18446744073709551616
noncomputable def rkSub (a b:Int):Int:=(a - b) % 18446744073709551616
noncomputable def rkMul (a b:Int):Int:=a * b % 18446744073709551616
noncomputable def rkDiv (a b:Int):Int:=if b=0 then 0 else a / b
noncomputable def rkMod (a b:Int):Int:=if b=0 then 0 else a % b
noncomputable def rkLt (a b:Int):Int:=if a < b then 1 else 0
noncomputable def rkEq (a b:Int):Int:=if a=b then 1 else 0
noncomputable def rkAnd (a b:Int):Int:=Builtin.bitAnd a b
noncomputable def rkOr (a b:Int):Int:=Builtin.bitOr a b
noncomputable def rkXor (a b:Int):Int:=Builtin.bitXor a b
noncomputable def rkUp (a b:Int):Int:=if 64 <= b then 0 else a * 2 ^ b.toNat % 18446744073709551616
noncomputable def rkDown (a b:Int):Int:=if 64 <= b then 0 else a / 2 ^ b.toNat
noncomputable def Zbb (a b:Int):Prop:=In64 a/\In64 b
noncomputable def RK:List (Str × (Int->Int->Int)):=[("add", rkAdd),("minus", rkSub),("times", rkMul),("over", rkDiv),("rest", rkMod),("below", rkLt),("same", rkEq),("both", rkAnd),("either", rkOr),("unlike", rkXor),("up", rkUp),("down", rkDown)]
noncomputable def ZhS:Sp:=fun vs H Q _=>∃ x a b f,vs=[.str x,.int a,.int b]/\RK.lookup x=some f/\Zbb a b/\Q (.int (f a b)) H
noncomputable def ZlZ (P:Program) (w:World) (K:PySem.W.Frag) (mg:Str->Option Value) (base:Heap) (aS:Addr):Prop :=
  ∃ vs,ZcT P w K aS vs/\∀ x f,RK.lookup x=some f->∃ fa,valueAt vs (.inr x)=some (.ref fa)/\CalF P w K mg base 1 fa (sp2 f Zbb)
section
variable {P:Program} {w:World} {K:PySem.W.Frag} {mg:Str->Option Value} {base:Heap}
theorem Zk5:FnScope ["one", "other"] ["one", "other"] (Zab ZgR):=⟨rfl,rfl,rfl,by decide +kernel,rfl,by decide +kernel,by decide +kernel⟩
theorem Zk6    (D:Zao K mg "added" ZgR) (g_WIDE:ZaV mg "WIDE" (.int 18446744073709551616)):Cal P w K mg base 1 "added" (sp2 rkAdd Zbb):=by
  refine Zaz (N:=["one", "other"]) (ps:=["one", "other"]) D Zk5 (fun vs H Q E h=>?_) (fun _ _ _ _ _ _ us hl=>bd2 (R:=fun us=>bindArgs _ ⟨us,[]⟩=pure (List.zip _ us)) (fun _ _=>rfl) us hl) (fun f cdv A outer s H vs Q E hr h=>?_)
  . obtain ⟨a,b,rfl,_⟩:=h; rfl
  . obtain ⟨a,b,rfl,⟨⟨ha0,ha1⟩,hb0,hb1⟩,k⟩:=h
    refine ⟨_,(Zad (Zam (ZaN ZbS (ZaN ZbA (pv 0) (pv 1)) (ZbK rfl g_WIDE)))),?_⟩
    walk_at "nx"
    repeat' walk_at "rd"
    exact k
theorem ZgV:FnScope ["one", "other"] ["one", "other"] (Zab Zc6):=⟨rfl,rfl,rfl,by decide +kernel,rfl,by decide +kernel,by decide +kernel⟩
theorem ZgW    (D:Zao K mg "lessened" Zc6) (g_WIDE:ZaV mg "WIDE" (.int 18446744073709551616)):Cal P w K mg base 1 "lessened" (sp2 rkSub Zbb):=by
  refine Zaz (N:=["one", "other"]) (ps:=["one", "other"]) D ZgV (fun vs H Q E h=>?_) (fun _ _ _ _ _ _ us hl=>bd2 (R:=fun us=>bindArgs _ ⟨us,[]⟩=pure (List.zip _ us)) (fun _ _=>rfl) us hl) (fun f cdv A outer s H vs Q E hr h=>?_)
  . obtain ⟨a,b,rfl,_⟩:=h; rfl
  . obtain ⟨a,b,rfl,⟨⟨ha0,ha1⟩,hb0,hb1⟩,k⟩:=h
    refine ⟨_,(Zad (Zam (ZaN ZbS (ZaN ZdL (pv 0) (pv 1)) (ZbK rfl g_WIDE)))),?_⟩
    walk_at "nx"
    repeat' walk_at "rd"
    exact k
theorem Ze5:FnScope ["one", "other"] ["one", "other"] (Zab Zcj):=⟨rfl,rfl,rfl,by decide +kernel,rfl,by decide +kernel,by decide +kernel⟩
theorem Ze6    (D:Zao K mg "multiplied" Zcj) (g_WIDE:ZaV mg "WIDE" (.int 18446744073709551616)):Cal P w K mg base 1 "multiplied" (sp2 rkMul Zbb):=by
  refine Zaz (N:=["one", "other"]) (ps:=["one", "other"]) D Ze5 (fun vs H Q E h=>?_) (fun _ _ _ _ _ _ us hl=>bd2 (R:=fun us=>bindArgs _ ⟨us,[]⟩=pure (List.zip _ us)) (fun _ _=>rfl) us hl) (fun f cdv A outer s H vs Q E hr h=>?_)
  . obtain ⟨a,b,rfl,_⟩:=h; rfl
  . obtain ⟨a,b,rfl,⟨⟨ha0,ha1⟩,hb0,hb1⟩,k⟩:=h
    refine ⟨_,(Zad (Zam (ZaN ZbS (ZaN ZiS (pv 0) (pv 1)) (ZbK rfl g_WIDE)))),?_⟩
    walk_at "nx"
    repeat' walk_at "rd"
    exact k
theorem Zf2:FnScope ["one", "other"] ["one", "other"] (Zab ZcF):=⟨rfl,rfl,rfl,by decide +kernel,rfl,by decide +kernel,by decide +kernel⟩
theorem Zf3    (D:Zao K mg "contained" ZcF):Cal P w K mg base 1 "contained" (sp2 rkDiv Zbb):=by
  refine Zaz (N:=["one", "other"]) (ps:=["one", "other"]) D Zf2 (fun vs H Q E h=>?_) (fun _ _ _ _ _ _ us hl=>bd2 (R:=fun us=>bindArgs _ ⟨us,[]⟩=pure (List.zip _ us)) (fun _ _=>rfl) us hl) (fun f cdv A outer s H vs Q E hr h=>?_)
  . obtain ⟨a,b,rfl,_⟩:=h; rfl
  . obtain ⟨a,b,rfl,⟨⟨ha0,ha1⟩,hb0,hb1⟩,k⟩:=h
    refine ⟨_,(Zac (ZaP (Zaq ZbF (pv 1) Zae (nomark _)) (Zad (Zam Zae)) Zat)
      (Zad (Zam (ZaN ZeQ (pv 0) (pv 1))))),?_⟩
    walk_at "nx"
    repeat' walk_at "rd"
    . rename_i e; exact ZbJ (by unfold rkDiv; rw [if_pos e]) k
    . rename_i e; exact ZbJ (by unfold rkDiv; rw [if_neg e]) k
theorem Zf4:FnScope ["one", "other"] ["one", "other"] (Zab ZcG):=⟨rfl,rfl,rfl,by decide +kernel,rfl,by decide +kernel,by decide +kernel⟩
theorem Zf5    (D:Zao K mg "left_over" ZcG):Cal P w K mg base 1 "left_over" (sp2 rkMod Zbb):=by
  refine Zaz (N:=["one", "other"]) (ps:=["one", "other"]) D Zf4 (fun vs H Q E h=>?_) (fun _ _ _ _ _ _ us hl=>bd2 (R:=fun us=>bindArgs _ ⟨us,[]⟩=pure (List.zip _ us)) (fun _ _=>rfl) us hl) (fun f cdv A outer s H vs Q E hr h=>?_)
  . obtain ⟨a,b,rfl,_⟩:=h; rfl
  . obtain ⟨a,b,rfl,⟨⟨ha0,ha1⟩,hb0,hb1⟩,k⟩:=h
    refine ⟨_,(Zac (ZaP (Zaq ZbF (pv 1) Zae (nomark _)) (Zad (Zam Zae)) Zat)
      (Zad (Zam (ZaN ZbS (pv 0) (pv 1))))),?_⟩
    walk_at "nx"
    repeat' walk_at "rd"
    . rename_i e; exact ZbJ (by unfold rkMod; rw [if_pos e]) k
    . rename_i e; exact ZbJ (by unfold rkMod; rw [if_neg e]) k
theorem ZgX:FnScope ["one", "other"] ["one", "other"] (Zab Zc7):=⟨rfl,rfl,rfl,by decide +kernel,rfl,by decide +kernel,by decide +kernel⟩
theorem ZgY    (D:Zao K mg "is_below" Zc7):Cal P w K mg base 1 "is_below" (sp2 rkLt Zbb):=by
  refine Zaz (N:=["one", "other"]) (ps:=["one", "other"]) D ZgX (fun vs H Q E h=>?_) (fun _ _ _ _ _ _ us hl=>bd2 (R:=fun us=>bindArgs _ ⟨us,[]⟩=pure (List.zip _ us)) (fun _ _=>rfl) us hl) (fun f cdv A outer s H vs Q E hr h=>?_)
  . obtain ⟨a,b,rfl,_⟩:=h; rfl
  . obtain ⟨a,b,rfl,⟨⟨ha0,ha1⟩,hb0,hb1⟩,k⟩:=h
    refine ⟨_,(Zad (Zam (ZdC (Zaq ZiW (pv 0) (pv 1) (nomark _)) Zae Zae))),?_⟩
    walk_at "nx"
    repeat' walk_at "rd"
    . rename_i e; exact ZbJ (by unfold rkLt; rw [if_pos e]) k
    . rename_i e; exact ZbJ (by unfold rkLt; rw [if_neg e]) k
theorem Ziu:FnScope ["one", "other"] ["one", "other"] (Zab ZdY):=⟨rfl,rfl,rfl,by decide +kernel,rfl,by decide +kernel,by decide +kernel⟩
theorem Ziv    (D:Zao K mg "is_same" ZdY):Cal P w K mg base 1 "is_same" (sp2 rkEq Zbb):=by
  refine Zaz (N:=["one", "other"]) (ps:=["one", "other"]) D Ziu (fun vs H Q E h=>?_) (fun _ _ _ _ _ _ us hl=>bd2 (R:=fun us=>bindArgs _ ⟨us,[]⟩=pure (List.zip _ us)) (fun _ _=>rfl) us hl) (fun f cdv A outer s H vs Q E hr h=>?_)
  . obtain ⟨a,b,rfl,_⟩:=h; rfl
  . obtain ⟨a,b,rfl,⟨⟨ha0,ha1⟩,hb0,hb1⟩,k⟩:=h
    refine ⟨_,(Zad (Zam (ZdC (Zaq ZbF (pv 0) (pv 1) (nomark _)) Zae Zae))),?_⟩
    walk_at "nx"
    repeat' walk_at "rd"
    . rename_i e; exact ZbJ (by unfold rkEq; rw [if_pos e]) k
    . rename_i e; exact ZbJ (by unfold rkEq; rw [if_neg e]) k
theorem Ziw:FnScope ["one", "other"] ["one", "other"] (Zab ZdZ):=⟨rfl,rfl,rfl,by decide +kernel,rfl,by decide +kernel,by decide +kernel⟩
theorem Zix    (D:Zao K mg "in_both" ZdZ):Cal P w K mg base 1 "in_both" (sp2 rkAnd Zbb):=by
  refine Zaz (N:=["one", "other"]) (ps:=["one", "other"]) D Ziw (fun vs H Q E h=>?_) (fun _ _ _ _ _ _ us hl=>bd2 (R:=fun us=>bindArgs _ ⟨us,[]⟩=pure (List.zip _ us)) (fun _ _=>rfl) us hl) (fun f cdv A outer s H vs Q E hr h=>?_)
  . obtain ⟨a,b,rfl,_⟩:=h; rfl
  . obtain ⟨a,b,rfl,⟨⟨ha0,ha1⟩,hb0,hb1⟩,k⟩:=h
    refine ⟨_,(Zad (Zam (ZaN op_and (pv 0) (pv 1)))),?_⟩
    walk_at "nx"
    repeat' walk_at "rd"
    exact k
theorem Zf6:FnScope ["one", "other"] ["one", "other"] (Zab ZcH):=⟨rfl,rfl,rfl,by decide +kernel,rfl,by decide +kernel,by decide +kernel⟩
theorem Zf7    (D:Zao K mg "in_either" ZcH):Cal P w K mg base 1 "in_either" (sp2 rkOr Zbb):=by
  refine Zaz (N:=["one", "other"]) (ps:=["one", "other"]) D Zf6 (fun vs H Q E h=>?_) (fun _ _ _ _ _ _ us hl=>bd2 (R:=fun us=>bindArgs _ ⟨us,[]⟩=pure (List.zip _ us)) (fun _ _=>rfl) us hl) (fun f cdv A outer s H vs Q E hr h=>?_)
  . obtain ⟨a,b,rfl,_⟩:=h; rfl
  . obtain ⟨a,b,rfl,⟨⟨ha0,ha1⟩,hb0,hb1⟩,k⟩:=h
    refine ⟨_,(Zad (Zam (ZaN op_or (pv 0) (pv 1)))),?_⟩
    walk_at "nx"
    repeat' walk_at "rd"
    exact k
theorem Zer:FnScope ["one", "other"] ["one", "other"] (Zab Zb3):=⟨rfl,rfl,rfl,by decide +kernel,rfl,by decide +kernel,by decide +kernel⟩
theorem Zes    (D:Zao K mg "in_just_one" Zb3):Cal P w K mg base 1 "in_just_one" (sp2 rkXor Zbb):=by
  refine Zaz (N:=["one", "other"]) (ps:=["one", "other"]) D Zer (fun vs H Q E h=>?_) (fun _ _ _ _ _ _ us hl=>bd2 (R:=fun us=>bindArgs _ ⟨us,[]⟩=pure (List.zip _ us)) (fun _ _=>rfl) us hl) (fun f cdv A outer s H vs Q E hr h=>?_)
  . obtain ⟨a,b,rfl,_⟩:=h; rfl
  . obtain ⟨a,b,rfl,⟨⟨ha0,ha1⟩,hb0,hb1⟩,k⟩:=h
    refine ⟨_,(Zad (Zam (ZaN op_xor (pv 0) (pv 1)))),?_⟩
    walk_at "nx"
    repeat' walk_at "rd"
    exact k
theorem Ziy:FnScope ["one", "other"] ["one", "other"] (Zab Zd0):=⟨rfl,rfl,rfl,by decide +kernel,rfl,by decide +kernel,by decide +kernel⟩
theorem Ziz    (D:Zao K mg "doubled" Zd0) (n_max:mg "max" = none) (g_FIGURES:ZaV mg "FIGURES" (.int 64)) (g_WIDE:ZaV mg "WIDE" (.int 18446744073709551616)):Cal P w K mg base 1 "doubled" (sp2 rkUp Zbb):=by
  refine Zaz (N:=["one", "other"]) (ps:=["one", "other"]) D Ziy (fun vs H Q E h=>?_) (fun _ _ _ _ _ _ us hl=>bd2 (R:=fun us=>bindArgs _ ⟨us,[]⟩=pure (List.zip _ us)) (fun _ _=>rfl) us hl) (fun f cdv A outer s H vs Q E hr h=>?_)
  . obtain ⟨a,b,rfl,_⟩:=h; rfl
  . obtain ⟨a,b,rfl,⟨⟨ha0,ha1⟩,hb0,hb1⟩,k⟩:=h
    refine ⟨_,(Zac (ZaP (Zaq Zmb (pv 1) (ZbK rfl g_FIGURES) (nomark _)) (Zad (Zam Zae)) Zat)
      (Zad (Zam (ZaN ZbS (ZaN op_shl (pv 0) (ZaR (Zjg rfl) rfl n_max PyProof.Rows.boot_max (Zaa (pv 1) (Zaa Zae Zaf)))) (ZbK rfl g_WIDE))))),?_⟩
    walk_at "nx"
    repeat' walk_at "rd"
    . rename_i e; exact ZbJ (by unfold rkUp; rw [if_pos e]) k
    . rename_i e
      refine ZgK ?_
      have m0:(if (0:Int) > b then (0:Int) else b)=b:=if_neg (by omega)
      rw [m0]
      refine rd_I ⟨hb0,by omega,by omega⟩ ?_
      repeat walk_at "rd"
      exact ZbJ (by unfold rkUp; rw [if_neg e]) k
theorem ZjF:FnScope ["one", "other"] ["one", "other"] (Zab ZeW):=⟨rfl,rfl,rfl,by decide +kernel,rfl,by decide +kernel,by decide +kernel⟩
theorem ZjG    (D:Zao K mg "halved" ZeW) (n_max:mg "max" = none) (g_FIGURES:ZaV mg "FIGURES" (.int 64)):Cal P w K mg base 1 "halved" (sp2 rkDown Zbb):=by
  refine Zaz (N:=["one", "other"]) (ps:=["one", "other"]) D ZjF (fun vs H Q E h=>?_) (fun _ _ _ _ _ _ us hl=>bd2 (R:=fun us=>bindArgs _ ⟨us,[]⟩=pure (List.zip _ us)) (fun _ _=>rfl) us hl) (fun f cdv A outer s H vs Q E hr h=>?_)
  . obtain ⟨a,b,rfl,_⟩:=h; rfl
  . obtain ⟨a,b,rfl,⟨⟨ha0,ha1⟩,hb0,hb1⟩,k⟩:=h
    refine ⟨_,(Zac (ZaP (Zaq Zmb (pv 1) (ZbK rfl g_FIGURES) (nomark _)) (Zad (Zam Zae)) Zat)
      (Zad (Zam (ZaN op_shr (pv 0) (ZaR (Zjg rfl) rfl n_max PyProof.Rows.boot_max (Zaa (pv 1) (Zaa Zae Zaf))))))),?_⟩
    walk_at "nx"
    repeat' walk_at "rd"
    . rename_i e; exact ZbJ (by unfold rkDown; rw [if_pos e]) k
    . rename_i e
      refine ZgK ?_
      have m0:(if (0:Int) > b then (0:Int) else b)=b:=if_neg (by omega)
      rw [m0]
      refine rd_I hb0 ?_
      repeat walk_at "rd"
      exact ZbJ (by unfold rkDown; rw [if_neg e]) k
theorem ZmV {aS:Addr} {u1 u2 u3 u4 u5 u6 u7 u8 u9 u10 u11 u12:Value} (dk:ZcT P w K aS [(Sum.inr "add", u1),(Sum.inr "minus", u2),(Sum.inr "times", u3),(Sum.inr "over", u4),(Sum.inr "rest", u5),(Sum.inr "below", u6),(Sum.inr "same", u7),(Sum.inr "both", u8),(Sum.inr "either", u9),(Sum.inr "unlike", u10),(Sum.inr "up", u11),(Sum.inr "down", u12)])
    (m1:mg "added" = some u1) (m2:mg "lessened" = some u2) (m3:mg "multiplied" = some u3) (m4:mg "contained" = some u4) (m5:mg "left_over" = some u5) (m6:mg "is_below" = some u6) (m7:mg "is_same" = some u7) (m8:mg "in_both" = some u8) (m9:mg "in_either" = some u9) (m10:mg "in_just_one" = some u10) (m11:mg "doubled" = some u11) (m12:mg "halved" = some u12)
    (c1:Cal P w K mg base 1 "added" (sp2 rkAdd Zbb)) (c2:Cal P w K mg base 1 "lessened" (sp2 rkSub Zbb)) (c3:Cal P w K mg base 1 "multiplied" (sp2 rkMul Zbb)) (c4:Cal P w K mg base 1 "contained" (sp2 rkDiv Zbb)) (c5:Cal P w K mg base 1 "left_over" (sp2 rkMod Zbb)) (c6:Cal P w K mg base 1 "is_below" (sp2 rkLt Zbb)) (c7:Cal P w K mg base 1 "is_same" (sp2 rkEq Zbb)) (c8:Cal P w K mg base 1 "in_both" (sp2 rkAnd Zbb)) (c9:Cal P w K mg base 1 "in_either" (sp2 rkOr Zbb)) (c10:Cal P w K mg base 1 "in_just_one" (sp2 rkXor Zbb)) (c11:Cal P w K mg base 1 "doubled" (sp2 rkUp Zbb)) (c12:Cal P w K mg base 1 "halved" (sp2 rkDown Zbb)):ZlZ P w K mg base aS:=by
  refine ⟨_,dk,fun x f h=>?_⟩
  have hm:=ZcS h
  simp only [RK,List.mem_cons,Prod.mk.injEq,List.not_mem_nil,or_false] at hm
  rcases hm with ⟨rfl,rfl⟩|⟨rfl,rfl⟩|⟨rfl,rfl⟩|⟨rfl,rfl⟩|⟨rfl,rfl⟩|⟨rfl,rfl⟩|⟨rfl,rfl⟩|⟨rfl,rfl⟩|⟨rfl,rfl⟩|⟨rfl,rfl⟩|⟨rfl,rfl⟩|⟨rfl,rfl⟩
  . obtain ⟨fa,m,c⟩:=c1
    rw [m1] at m
    cases m
    exact ⟨fa,rfl,c⟩
  . obtain ⟨fa,m,c⟩:=c2
    rw [m2] at m
    cases m
    exact ⟨fa,rfl,c⟩
  . obtain ⟨fa,m,c⟩:=c3
    rw [m3] at m
    cases m
    exact ⟨fa,rfl,c⟩
  . obtain ⟨fa,m,c⟩:=c4
    rw [m4] at m
    cases m
    exact ⟨fa,rfl,c⟩
  . obtain ⟨fa,m,c⟩:=c5
    rw [m5] at m
    cases m
    exact ⟨fa,rfl,c⟩
  . obtain ⟨fa,m,c⟩:=c6
    rw [m6] at m
    cases m
    exact ⟨fa,rfl,c⟩
  . obtain ⟨fa,m,c⟩:=c7
    rw [m7] at m
    cases m
    exact ⟨fa,rfl,c⟩
  . obtain ⟨fa,m,c⟩:=c8
    rw [m8] at m
    cases m
    exact ⟨fa,rfl,c⟩
  . obtain ⟨fa,m,c⟩:=c9
    rw [m9] at m
    cases m
    exact ⟨fa,rfl,c⟩
  . obtain ⟨fa,m,c⟩:=c10
    rw [m10] at m
    cases m
    exact ⟨fa,rfl,c⟩
  . obtain ⟨fa,m,c⟩:=c11
    rw [m11] at m
    cases m
    exact ⟨fa,rfl,c⟩
  . obtain ⟨fa,m,c⟩:=c12
    rw [m12] at m
    cases m
    exact ⟨fa,rfl,c⟩
theorem ZjH:FnScope ["word", "one", "other"] ["word", "one", "other"] (Zab ZeX):=⟨rfl,rfl,rfl,by decide +kernel,rfl,by decide +kernel,by decide +kernel⟩
theorem ZjI  {aS:Addr} (S:ZlZ P w K mg base aS)  (D:Zao K mg "reckon" ZeX) (g_SUMS:ZaV mg "SUMS" (.ref aS)):Cal P w K mg base 2 "reckon" ZhS:=by
  refine Zaz (N:=["word", "one", "other"]) (ps:=["word", "one", "other"]) D ZjH (fun vs H Q E h=>?_) (fun _ _ _ _ _ _ us hl=>bd3 (R:=fun us=>bindArgs _ ⟨us,[]⟩=pure (List.zip _ us)) (fun _ _ _=>rfl) us hl) (fun f cdv A outer s H vs Q E hr h=>?_)
  . obtain ⟨x,a,b,f,rfl,_⟩:=h; rfl
  . obtain ⟨x,a,b,fn,rfl,hx,hc,k⟩:=h
    refine ⟨_,(Zad (Zam (ZhN (k:=1) (hr.mono (by decide)) (ZeD (ZbK rfl g_SUMS) (pv 0) (fun _ _=>rfl)) (Zaa (pv 1) (Zaa (pv 2) Zaf))))),?_⟩
    walk_at "nx"
    obtain ⟨ws,dk,al⟩:=S
    obtain ⟨fa,hv,cf⟩:=al x fn hx
    refine ZlV ?_
    show tCallV _ _ _ _ _ _ _ _ _ _ _
    refine ⟨_,rfl,aS,ws,.inr x,.ref fa,.ref fa,rfl,rfl,dk,hv,rfl,fa,_,rfl,cf,?_⟩
    repeat walk_at "rd"
    exact ⟨a,b,rfl,hc,k⟩
end
noncomputable def RT:List (Str × Int × Int × Int × Int):=[("push", 0,1,1,1),("drop", 1,0,1,1),("copy", 1,2,1,1),("swap", 1,1,1,1),("add", 2,1,1,1),("minus", 2,1,1,1),("times", 2,1,2,2),("over", 2,1,2,2),("rest", 2,1,2,2),("below", 2,1,1,1),("same", 2,1,1,1),("both", 2,1,1,1),("either", 2,1,1,1),("unlike", 2,1,1,1),("up", 2,1,1,1),("down", 2,1,1,1),("jump", 0,0,1,1),("jumpif", 1,0,1,1),("load", 1,1,3,3),("save", 2,0,5,12),("me", 0,1,1,1),("from", 0,1,1,1),("sent", 0,1,1,1),("word", 0,1,1,1),("coin", 1,1,3,3),("note", 1,0,4,4),("call", 4,2,8,12),("borrow", 3,2,6,6),("look", 3,2,6,6),("give", 1,0,1,1),("fail", 1,0,1,1)]
noncomputable def rowV (x:Str) (n:Option Int):List V:=rowVs (x,n)
noncomputable def Zbq (x:Str) (n:Option Int):Option Int:=if inS x ["copy", "swap"]=true then n else some 0
noncomputable def Zf8 (P:Program) (w:World) (K:PySem.W.Frag) (aT:Addr):Prop :=
  ∃ vs,ZcT P w K aT vs/\∀ x t l p d,RT.lookup x=some (t,l,p,d)->∃ ta,valueAt vs (.inr x)=some (.ref ta)/\TupK K ta [.int t,.int l,.int p,.int d]
noncomputable def Zbj (K:PySem.W.Frag) (H:Hp) (p:Addr) (x:Str) (n:Option Int):Prop:=SqT K H p (rowV x n)
theorem ZgZ {x:Str} {n:Option Int}:atI (rowV x n) 0=some (.str x):=by cases n <;> rfl
noncomputable def Zg0 (K:PySem.W.Frag):Sp:=fun vs H Q _=>∃ p x n r,vs=[.ref p]/\Zbj K H p x n/\Zbq x n=some r/\Q (.int r) H
noncomputable def Ze7 (K:PySem.W.Frag):Sp:=fun vs H Q _=>∃ p x n r t l pr d,vs=[.ref p]/\Zbj K H p x n/\Zbq x n=some r/\RT.lookup x=some (t,l,pr,d)/\Q (.int (t + r)) H
noncomputable def ZhT (K:PySem.W.Frag):Sp:=fun vs H Q _=>∃ p x n r t l pr d,vs=[.ref p]/\Zbj K H p x n/\Zbq x n=some r/\RT.lookup x=some (t,l,pr,d)/\Q (.int (l + r)) H
noncomputable def ZjJ (K:PySem.W.Frag):Sp:=fun vs H Q _=>∃ p x n t l pr d b,vs=[.ref p,.bl b]/\Zbj K H p x n/\RT.lookup x=some (t,l,pr,d)/\Q (.int (if b=true then d else pr)) H
local macro_rules|`(tactic| walk_at "rw")=>`(tactic| first
  | walk_at "rdk"
  | ((with_reducible refine' L2.ZbY ?h ?e ?_); (case h=>assumption); (case e=>exact My.ZgZ))
  | fail)
local macro_rules|`(tactic| walk_at "rz")=>`(tactic| first
  | ((with_reducible refine L2.Zc5 (fun _=>?_) (fun _=>?_)) <;> (try (exfalso; omega)))
  | ((with_reducible refine L2.Zcq (fun _=>?_) (fun _=>?_)) <;> (try (exfalso; omega)))
  | ((with_reducible refine L2.rd_iteNND (fun _=>?_) (fun _=>?_)) <;> (try (exfalso; omega)))
  | walk_at "rw"
  | fail)
section
variable {P:Program} {w:World} {K:PySem.W.Frag} {mg:Str->Option Value} {base:Heap}
theorem Zk7:FnScope ["row"] ["row"] (Zab ZgO):=⟨rfl,rfl,rfl,by decide +kernel,rfl,by decide +kernel,by decide +kernel⟩
theorem Zk8  {aR:Addr} (tR:TupK K aR ((["copy", "swap"]:List Str).map V.str))  (D:Zao K mg "reach" ZgO) (g_REACHING:ZaV mg "REACHING" (.ref aR)):Cal P w K mg base 1 "reach" (Zg0 K):=by
  refine Zaz (N:=["row"]) (ps:=["row"]) D Zk7 (fun vs H Q E h=>?_) (fun _ _ _ _ _ _ us hl=>bd1 (R:=fun us=>bindArgs _ ⟨us,[]⟩=pure (List.zip _ us)) (fun _=>rfl) us hl) (fun f cdv A outer s H vs Q E hr h=>?_)
  . obtain ⟨p,x,n,r,rfl,_⟩:=h; rfl
  . obtain ⟨p,x,n,r,rfl,hp,hr',k⟩:=h
    refine ⟨_,(Zac (ZaP (Zaq Zba (Zay ZaF (pv 0) Zae (fun _ _=>rfl)) (ZbK rfl g_REACHING) rfl) (Zad (Zam (Zay ZaF (pv 0) Zae (fun _ _=>rfl)))) Zat)
      (Zad (Zam Zae))),?_⟩
    walk_at "nx"
    repeat walk_at "rd"
    refine ZbY hp ZgZ ?_
    repeat walk_at "rd"
    refine ZbZ (tR.sqt H) ?_
    repeat walk_at "rd"
    unfold Zbq at hr'
    cases e:inS x ["copy", "swap"] with
    | true =>
      rw [e,if_pos rfl] at hr'
      subst hr'
      repeat walk_at "rd"
      refine ZbY hp rfl ?_
      exact k
    | false =>
      rw [e,if_neg (by decide)] at hr'
      cases hr'
      repeat walk_at "rd"
      exact k
theorem Zk9:FnScope ["row"] ["row"] (Zab ZgP):=⟨rfl,rfl,rfl,by decide +kernel,rfl,by decide +kernel,by decide +kernel⟩
theorem Zla  {aT:Addr} (R:Zf8 P w K aT)  (D:Zao K mg "takes" ZgP) (c_reach:Cal P w K mg base 1 "reach" (Zg0 K)) (g_ROWS:ZaV mg "ROWS" (.ref aT)):Cal P w K mg base 2 "takes" (Ze7 K):=by
  refine Zaz (N:=["row"]) (ps:=["row"]) D Zk9 (fun vs H Q E h=>?_) (fun _ _ _ _ _ _ us hl=>bd1 (R:=fun us=>bindArgs _ ⟨us,[]⟩=pure (List.zip _ us)) (fun _=>rfl) us hl) (fun f cdv A outer s H vs Q E hr h=>?_)
  . obtain ⟨p,x,n,r,t,l,pr,d,rfl,_⟩:=h; rfl
  . obtain ⟨p,x,n,r,t,l,pr,d,rfl,hp,hr',ht,k⟩:=h
    refine ⟨_,(Zad (Zam (ZaN ZbA (Zay ZaF (ZeD (ZbK rfl g_ROWS) (Zay ZaF (pv 0) Zae (fun _ _=>rfl)) (fun _ _=>rfl)) Zae (fun _ _=>rfl)) (ZaG c_reach (hr.mono (by decide)) rfl (Zaa (pv 0) Zaf))))),?_⟩
    walk_at "nx"
    obtain ⟨ws,dk,al⟩:=R
    obtain ⟨ta,hv,tk⟩:=al x t l pr d ht
    have tk':=tk.sqt H
    repeat walk_at "rw"
    refine Zjj (v:=.ref ta) dk hv rfl ?_
    repeat walk_at "rw"
    refine ⟨p,x,n,r,rfl,hp,hr',?_⟩
    repeat walk_at "rw"
    exact k
theorem ZjK:FnScope ["row"] ["row"] (Zab ZeV):=⟨rfl,rfl,rfl,by decide +kernel,rfl,by decide +kernel,by decide +kernel⟩
theorem ZjL  {aT:Addr} (R:Zf8 P w K aT)  (D:Zao K mg "leaves" ZeV) (c_reach:Cal P w K mg base 1 "reach" (Zg0 K)) (g_ROWS:ZaV mg "ROWS" (.ref aT)):Cal P w K mg base 2 "leaves" (ZhT K):=by
  refine Zaz (N:=["row"]) (ps:=["row"]) D ZjK (fun vs H Q E h=>?_) (fun _ _ _ _ _ _ us hl=>bd1 (R:=fun us=>bindArgs _ ⟨us,[]⟩=pure (List.zip _ us)) (fun _=>rfl) us hl) (fun f cdv A outer s H vs Q E hr h=>?_)
  . obtain ⟨p,x,n,r,t,l,pr,d,rfl,_⟩:=h; rfl
  . obtain ⟨p,x,n,r,t,l,pr,d,rfl,hp,hr',ht,k⟩:=h
    refine ⟨_,(Zad (Zam (ZaN ZbA (Zay ZaF (ZeD (ZbK rfl g_ROWS) (Zay ZaF (pv 0) Zae (fun _ _=>rfl)) (fun _ _=>rfl)) Zae (fun _ _=>rfl)) (ZaG c_reach (hr.mono (by decide)) rfl (Zaa (pv 0) Zaf))))),?_⟩
    walk_at "nx"
    obtain ⟨ws,dk,al⟩:=R
    obtain ⟨ta,hv,tk⟩:=al x t l pr d ht
    have tk':=tk.sqt H
    repeat walk_at "rw"
    refine Zjj (v:=.ref ta) dk hv rfl ?_
    repeat walk_at "rw"
    refine ⟨p,x,n,r,rfl,hp,hr',?_⟩
    repeat walk_at "rw"
    exact k
theorem Zlb:FnScope ["row", "dear"] ["row", "dear"] (Zab ZgQ):=⟨rfl,rfl,rfl,by decide +kernel,rfl,by decide +kernel,by decide +kernel⟩
theorem Zlc {aT:Addr} (R:Zf8 P w K aT) (D:Zjm K mg "price" ZgQ #[.bool false]) (g_ROWS:ZaV mg "ROWS" (.ref aT)):CalD P w K mg base 1 "price" (ZjJ K) []:=by
  obtain ⟨f,fd,F,m⟩:=D
  refine ⟨f,fd,_,[],m,F.fn (N:=["row", "dear"]) (ps:=["row", "dear"]) Zlb (fun vs H Q E h=>?_) (fun cdv A outer s H vs Q E hr h=>?_),F.kp,F.binds (ps:=["row", "dear"]) [] (fun T kV doc pm an cdv ct us hl=>bd2 (R:=fun us=>∃ k:Option (Array Value)->Sem (List (Str × Value)),bindArgs _ ⟨us,[]⟩=seqItems? (.ref T) >>= k/\k (some _)=pure (List.zip _ (us ++ []))) (fun _ _=>⟨_,rfl,rfl⟩) us (by simpa using hl)),.nil⟩
  . obtain ⟨p,x,n,t,l,pr,d,b,rfl,_⟩:=h; rfl
  . obtain ⟨p,x,n,t,l,pr,d,b,rfl,hp,ht,k⟩:=h
    refine ⟨_,(Zac (ZaP (Zcb (pv 1)) (Zad (Zam (Zay ZaF (ZeD (ZbK rfl g_ROWS) (Zay ZaF (pv 0) Zae (fun _ _=>rfl)) (fun _ _=>rfl)) Zae (fun _ _=>rfl)))) Zat)
      (Zad (Zam (Zay ZaF (ZeD (ZbK rfl g_ROWS) (Zay ZaF (pv 0) Zae (fun _ _=>rfl)) (fun _ _=>rfl)) Zae (fun _ _=>rfl))))),?_⟩
    walk_at "nx"
    obtain ⟨ws,dk,al⟩:=R
    obtain ⟨ta,hv,tk⟩:=al x t l pr d ht
    have tk':=tk.sqt H
    repeat walk_at "rw"
    cases b with
    | true =>
      repeat walk_at "rw"
      refine Zjj (v:=.ref ta) dk hv rfl ?_
      repeat walk_at "rw"
      exact k
    | false =>
      repeat walk_at "rw"
      refine Zjj (v:=.ref ta) dk hv rfl ?_
      repeat walk_at "rw"
      exact k
end
noncomputable def accF (c p n:Int) (pr st:Addr):List (Str × V):=[("coin", .int c),("purse", .int p),("count", .int n),("program", .ref pr),("store", .ref st)]
structure AcAt (K:PySem.W.Frag) (C:Addr) (H:Hp) (a dx pr st:Addr) (c p n:Int) (rs:List Row) (f:Int->Int) (m:Nat):Prop where
  ob:H a=some (.ins C dx (accF c p n pr st))
  pg:∃ xs,H pr=some (.lst xs)/\RowsAt K H rs xs
  sto:StoreAt H st f m
noncomputable def spInit (K:PySem.W.Frag) (C:Addr):Sp:=fun vs H Q _=>∃ (a dx pr0:Addr) (c p:Int) (xs:List V) (rs:List Row),vs=[.ref a,.int c,.int p,.ref pr0]/\H a=some (.ins C dx [])/\SqL K H pr0 xs/\RowsAt K H rs xs /\
  ∀ (pr st:Addr) (H':Hp),H pr=none->H st=none->pr ≠ st->AcAt K C H' a dx pr st c p 0 rs (fun _=>0) 0->(∀ b o,H b=some o->b ≠ a->H' b=some o)->Q .non H'
noncomputable def ZdH (K:PySem.W.Frag) (C:Addr):Sp:=fun vs H Q _=>∃ (a dx pr st:Addr) (c p n:Int) (rs:List Row) (f:Int->Int) (m:Nat) (i:Int),vs=[.ref a,.int i]/\AcAt K C H a dx pr st c p n rs f m/\Q (.int (f i)) H
noncomputable def spKeep (K:PySem.W.Frag) (C:Addr):Sp:=fun vs H Q _=>∃ (a dx pr st:Addr) (c p n:Int) (rs:List Row) (f:Int->Int) (m:Nat) (i v:Int),vs=[.ref a,.int i,.int v]/\AcAt K C H a dx pr st c p n rs f m/\m <= 1000000 /\
  ∀ H',(∀ b,b ≠ st->H' b=H b)->StoreAt H' st (putFn f i v) (m + 1)->Q .non H'
theorem AcAt.nd {K:PySem.W.Frag} {C:Addr} {H H':Hp} {a dx pr st:Addr} {c p n:Int} {rs:List Row} {f g:Int->Int} {m m':Nat} (h:AcAt K C H a dx pr st c p n rs f m) (s:SameND H H') (e:StoreAt H' st g m'):AcAt K C H' a dx pr st c p n rs g m' :=
  ⟨s _ _ h.ob (by intro _ z; cases z),let ⟨xs,e1,e2⟩:=h.pg; ⟨xs,s _ _ e1 (by intro _ z; cases z),e2.keep s.imm⟩,e⟩
theorem SameND.but {H H':Hp} {st:Addr} {kvs:List (Key × V)} (h:H st=some (.dK kvs)) (k:∀ b,b ≠ st->H' b=H b):SameND H H':=fun b u e n=>by
  rw [k b (fun z=>by rw [z,h] at e; exact n kvs (Option.some.inj e).symm)]; exact e
structure AcI where
  a:Addr
  dx:Addr
  pr:Addr
  st:Addr
structure AcS where
  coin:Int
  purse:Int
  count:Int
  rows:List Row
  store:Int->Int
noncomputable def roomV:Option AcI->V
  | none=>.non
  | some x=>.ref x.a
noncomputable def Acc (K:PySem.W.Frag) (C:Addr) (H:Hp) (x:AcI) (S:AcS) (m:Nat):Prop:=AcAt K C H x.a x.dx x.pr x.st S.coin S.purse S.count S.rows S.store m
structure Rooms (K:PySem.W.Frag) (C:Addr) (H:Hp) (R:Addr) (A:Nat->Option AcI) (S:Nat->AcS) (m:Nat):Prop where
  ob:H R=some (.lst ((List.range 16).map fun i=>roomV (A i)))
  ac:∀ i x,i < 16->A i=some x->Acc K C H x (S i) m
  da:∀ i j x y,i < 16->j < 16->A i=some x->A j=some y->x.a=y.a->i=j
  ds:∀ i j x y,i < 16->j < 16->A i=some x->A j=some y->x.st=y.st->i=j
noncomputable def setS (S:Nat->AcS) (i:Nat) (v:AcS):Nat->AcS:=fun j=>if j=i then v else S j
theorem Rooms.at {K:PySem.W.Frag} {C:Addr} {H:Hp} {R:Addr} {A:Nat->Option AcI} {S:Nat->AcS} {m:Nat} (r:Rooms K C H R A S m) {i:Nat} (hi:i < 16) {x:AcI} (hx:A i=some x):atI ((List.range 16).map fun i=>roomV (A i)) (i:Int)=some (.ref x.a) :=
  ZcU (i:=i) (by rw [List.getElem?_map,List.getElem?_range hi]; show some (roomV (A i))=_; rw [hx]; rfl) rfl
theorem Acc.le {K:PySem.W.Frag} {C:Addr} {H:Hp} {x:AcI} {S:AcS} {m m':Nat} (h:Acc K C H x S m) (e:m <= m'):Acc K C H x S m':=⟨h.ob,h.pg,h.sto.le e⟩
theorem Rooms.keep {K:PySem.W.Frag} {C:Addr} {H H':Hp} {R:Addr} {A:Nat->Option AcI} {S:Nat->AcS} {m:Nat} (r:Rooms K C H R A S m) {i:Nat} (hi:i < 16) {x:AcI} (hx:A i=some x) (k:∀ b,b ≠ x.st->H' b=H b) {p v:Int} (e:StoreAt H' x.st (putFn (S i).store p v) (m + 1)) :
    Rooms K C H' R A (setS S i { S i with store:=putFn (S i).store p v }) (m + 1):=by
  have ai:=r.ac i x hi hx
  obtain ⟨kvs,hs,_⟩:=ai.sto
  have nd:=SameND.but hs k
  refine ⟨by rw [k R (Zbe r.ob hs (by intro z; cases z))]; exact r.ob,fun j y hj hy=>?_,r.da,r.ds⟩
  unfold setS
  by_cases z:j=i
  . subst z
    rw [hx] at hy
    cases hy
    rw [if_pos rfl]
    exact AcAt.nd ai nd e
  . rw [if_neg z]
    have aj:=(r.ac j y hj hy).le (Nat.le_succ m)
    have hne:y.st ≠ x.st:=fun q=>z (r.ds j i y x hj hi hy hx q)
    exact AcAt.nd aj nd (aj.sto.same (k _ hne))
theorem Rooms.coin {K:PySem.W.Frag} {C:Addr} {H:Hp} {R:Addr} {A:Nat->Option AcI} {S:Nat->AcS} {m:Nat} (r:Rooms K C H R A S m) {i:Nat} (hi:i < 16) {x:AcI} (hx:A i=some x) (c:Int) :
    Rooms K C (upd H x.a (.ins C x.dx (accF c (S i).purse (S i).count x.pr x.st))) R A (setS S i { S i with coin:=c }) m:=by
  have ai:=r.ac i x hi hx
  have im:SameI H (upd H x.a (.ins C x.dx (accF c (S i).purse (S i).count x.pr x.st))):=SameI.upd ai.ob Zct
  refine ⟨by rw [Zai (Zbe r.ob ai.ob (by intro z; cases z))]; exact r.ob,fun j y hj hy=>?_,r.da,r.ds⟩
  have aj:=r.ac j y hj hy
  obtain ⟨xs,e1,e2⟩:=aj.pg
  obtain ⟨kvs,e3,e4⟩:=aj.sto
  have f1:(upd H x.a (.ins C x.dx (accF c (S i).purse (S i).count x.pr x.st))) y.pr=some (.lst xs):=by rw [Zai (Zbe e1 ai.ob (by intro z; cases z))]; exact e1
  have f2:(upd H x.a (.ins C x.dx (accF c (S i).purse (S i).count x.pr x.st))) y.st=some (.dK kvs):=by rw [Zai (Zbe e3 ai.ob (by intro z; cases z))]; exact e3
  unfold setS
  by_cases z:j=i
  . subst z
    rw [hx] at hy
    cases hy
    rw [if_pos rfl]
    exact ⟨Zag,⟨xs,f1,e2.keep im⟩,kvs,f2,e4⟩
  . rw [if_neg z]
    have hne:y.a ≠ x.a:=fun q=>z (r.da j i y x hj hi hy hx q)
    exact ⟨by rw [Zai hne]; exact aj.ob,⟨xs,f1,e2.keep im⟩,kvs,f2,e4⟩
noncomputable def moved (S:Nat->AcS) (i j:Nat) (k:Int):Nat->AcS:=let S1:=setS S i { S i with coin:=(S i).coin - k }; setS S1 j { S1 j with coin:=(S1 j).coin + k }
noncomputable def Zg1 (K:PySem.W.Frag) (C:Addr):Sp:=fun vs H Q _=>∃ (R:Addr) (A:Nat->Option AcI) (S:Nat->AcS) (m i j:Nat) (x y:AcI) (k:Int),vs=[.ref x.a,.ref y.a,.int k]/\Rooms K C H R A S m/\i < 16/\j < 16/\A i=some x/\A j=some y /\
  ∀ H',(∀ b,b ≠ x.a->b ≠ y.a->H' b=H b)->Rooms K C H' R A (moved S i j k) m->Q .non H'
section
variable {P:Program} {w:World} {K:PySem.W.Frag} {mg:Str->Option Value} {base:Heap}
theorem ZcK:FnScope ["self", "coin", "purse", "program"] ["self", "coin", "purse", "program"] (Zab ZaL):=⟨rfl,rfl,rfl,by decide +kernel,rfl,by decide +kernel,by decide +kernel⟩
theorem ZcL   {cAccount:Addr} (D:Zan K cAccount "__init__" "Account.__init__" ZaL) (tAccount:T_Account K mg cAccount) (n_list:mg "list" = none):ICal P w K mg base 1 "Account" cAccount (spInit K cAccount):=by
  refine ZdW (N:=["self", "coin", "purse", "program"]) (ps:=["self", "coin", "purse", "program"]) D tAccount.k ZcK (fun vs H Q E h=>?_) (fun _ _ _ _ _ _ us hl=>bd4 (R:=fun us=>bindArgs _ ⟨us,[]⟩=pure (List.zip _ us)) (fun _ _ _ _=>rfl) us hl) (fun f cdv A outer s H vs Q E hr h=>?_)
  . obtain ⟨a,dx,pr0,c,p,xs,rs,rfl,_⟩:=h; rfl
  . obtain ⟨a,dx,pr0,c,p,xs,rs,rfl,ha,hl,hR,k⟩:=h
    refine ⟨_,(Zac (ZaO (pv 0) (pv 1) rfl)
      (Zac (ZaO (pv 0) (pv 2) rfl)
      (Zac (ZaO (pv 0) Zae rfl)
      (Zac (ZaO (pv 0) (Zce Zjq rfl n_list PyProof.Rows.boot_list (Zaa (pv 3) Zaf)) rfl)
      (Zad (ZaO (pv 0) ZkI rfl)))))),?_⟩
    walk_at "nx"
    repeat walk_at "rdk"
    refine Zau ha tAccount.k.cl tAccount.n_coin (by decide) ?_
    repeat walk_at "rdk"
    refine Zau Zag tAccount.k.cl tAccount.n_purse (by show 1 < 1000; decide) ?_
    rw [ZaS]
    repeat walk_at "rdk"
    refine Zau Zag tAccount.k.cl tAccount.n_count (by show 2 < 1000; decide) ?_
    rw [ZaS]
    repeat walk_at "rdk"
    refine ZeS (hl.updI ha) fun pr hpr=>?_
    have hn:H pr=none:=by
      by_cases e:pr=a
      . subst e; rw [Zag] at hpr; cases hpr
      . rw [Zai e] at hpr; exact hpr
    have na:a ≠ pr:=Zaj ha hn
    repeat walk_at "rdk"
    refine Zau (by rw [Zai na,Zag]) tAccount.k.cl tAccount.n_program (by show 3 < 1000; decide) ?_
    repeat walk_at "rdk"
    rename_i st hst
    have ns:st ≠ a:=fun e=>by subst e; rw [Zag] at hst; cases hst
    have np:st ≠ pr:=fun e=>by subst e; rw [Zai ns,Zag] at hst; cases hst
    have hn2:H st=none:=by rw [Zai ns,Zai np,Zai ns] at hst; exact hst
    refine Zau (by rw [Zai ns.symm,Zag]) tAccount.k.cl tAccount.n_store (by show 4 < 1000; decide) ?_
    have kp:∀ b o,H b=some o->b ≠ a->(upd (upd (upd (upd (upd H a (.ins cAccount dx [("coin", .int c),("purse", .int p),("count", .int 0)])) pr (.lst xs)) a (.ins cAccount dx [("coin", .int c),("purse", .int p),("count", .int 0),("program", .ref pr)])) st (.dK [])) a (.ins cAccount dx (accF c p 0 pr st))) b=some o:=by
      intro b o e hb
      have h1:b ≠ pr:=Zaj e hn
      have h2:b ≠ st:=Zaj e hn2
      rw [Zai hb,Zai h2,Zai hb,Zai h1,Zai hb]
      exact e
    refine k pr st _ hn hn2 np.symm ⟨?_,⟨xs,?_,?_⟩,⟨[],?_,by decide,by simp,by simp,fun i=>rfl⟩⟩ ?_
    . rw [Zag]; rfl
    . rw [Zai na.symm,Zai np.symm,Zai na.symm,Zag]
    . refine hR.keep fun b u e i=>?_
      have hb:b ≠ a:=fun z=>by rw [z,ha] at e; cases e; exact Zct i
      exact kp b u e hb
    . rw [Zai ns,Zag]
    . exact kp
theorem Zdn:FnScope ["self", "place"] ["self", "place"] (Zab ZaU):=⟨rfl,rfl,rfl,by decide +kernel,rfl,by decide +kernel,by decide +kernel⟩
theorem Zdo   {cAccount:Addr} (D:Zan K cAccount "loaded" "Account.loaded" ZaU) (tAccount:T_Account K mg cAccount):MCal P w K mg base 1 cAccount "loaded" (ZdH K cAccount):=by
  refine Za3 (N:=["self", "place"]) (ps:=["self", "place"]) D tAccount.k.cl Zdn (fun vs H Q E h=>?_) (fun _ _ _ _ _ _ us hl=>bd2 (R:=fun us=>bindArgs _ ⟨us,[]⟩=pure (List.zip _ us)) (fun _ _=>rfl) us hl) (fun f cdv A outer s H vs Q E hr h=>?_)
  . obtain ⟨a,dx,pr,st,c,p,n,rs,f,m,i,rfl,_⟩:=h; rfl
  . obtain ⟨a,dx,pr,st,c,p,n,rs,fn,m,i,rfl,A,k⟩:=h
    refine ⟨_,(Zad (Zam (ZkJ (hu_of hr) (Zal (pv 0) rfl) (pv 1) Zae ⟨rfl,rfl,rfl,rfl⟩))),?_⟩
    walk_at "nx"
    obtain ⟨kvs,hs,_,_,_,hf⟩:=A.sto
    repeat walk_at "rdk"
    refine Zah A.ob tAccount.k.cl tAccount.n_store rfl ?_
    refine ⟨st,rfl,isD_k hs,?_⟩
    repeat walk_at "rdk"
    exact ⟨_,DGet.k (k:=Sum.inl i) hs,by rw [hf i]; exact k⟩
theorem Zd1:FnScope ["self", "place", "number"] ["self", "place", "number"] (Zab Za4):=⟨rfl,rfl,rfl,by decide +kernel,rfl,by decide +kernel,by decide +kernel⟩
theorem Zd2   {cAccount:Addr} (D:Zan K cAccount "keep" "Account.keep" Za4) (tAccount:T_Account K mg cAccount):MCal P w K mg base 1 cAccount "keep" (spKeep K cAccount):=by
  refine Za3 (N:=["self", "place", "number"]) (ps:=["self", "place", "number"]) D tAccount.k.cl Zd1 (fun vs H Q E h=>?_) (fun _ _ _ _ _ _ us hl=>bd3 (R:=fun us=>bindArgs _ ⟨us,[]⟩=pure (List.zip _ us)) (fun _ _ _=>rfl) us hl) (fun f cdv A outer s H vs Q E hr h=>?_)
  . obtain ⟨a,dx,pr,st,c,p,n,rs,f,m,i,v,rfl,_⟩:=h; rfl
  . obtain ⟨a,dx,pr,st,c,p,n,rs,fn,m,i,v,rfl,A,hm,k⟩:=h
    refine ⟨_,(Zad (ZaP (Zaq ZbF (pv 2) Zae (nomark _)) (Zad (Zav (ZkK (Zal (pv 0) rfl) (pv 1) Zca ⟨rfl,rfl,rfl,rfl⟩))) (Zad (Zmn (hu_of hr) (Zal (pv 0) rfl) (pv 1) (pv 2) rfl)))),?_⟩
    walk_at "nx"
    obtain ⟨kvs,hs,hl,hn,hz,hf⟩:=A.sto
    repeat' walk_at "rdk"
    . rename_i hv
      subst hv
      refine Zah A.ob tAccount.k.cl tAccount.n_store rfl ⟨st,rfl,isD_k hs,?_⟩
      repeat walk_at "rdk"
      refine ⟨kvs,Sum.inl i,hs,rfl,fun v hv=>?_,fun hv=>?_⟩
      . dsimp only
        repeat walk_at "rdk"
        exact k _ (fun b hb=>Zai hb) (StoreAt.drop hl hn hz hf i)
      . dsimp only
        repeat walk_at "rdk"
        refine k _ (fun b hb=>rfl) ⟨kvs,hs,Nat.le_trans hl (Nat.le_succ _),hn,hz,fun j=>?_⟩
        unfold putFn
        by_cases e:j=i
        . subst e
          rw [if_pos rfl,hv]
          rfl
        . rw [if_neg e]
          exact hf j
    . rename_i hv
      refine Zah A.ob tAccount.k.cl tAccount.n_store rfl ?_
      repeat walk_at "rdk"
      exact ZkY hs (Nat.lt_of_le_of_lt (Nat.le_trans hl hm) (by decide)) (k _ (fun b hb=>Zai hb) (StoreAt.put hl hn hz hf i v hv))
theorem Ze8:FnScope ["giver", "taker", "many"] ["giver", "taker", "many"] (Zab Zci):=⟨rfl,rfl,rfl,by decide +kernel,rfl,by decide +kernel,by decide +kernel⟩
theorem Ze9   {cAccount:Addr} (D:Zao K mg "shift_coin" Zci) (tAccount:T_Account K mg cAccount):Cal P w K mg base 1 "shift_coin" (Zg1 K cAccount):=by
  refine Zaz (N:=["giver", "taker", "many"]) (ps:=["giver", "taker", "many"]) D Ze8 (fun vs H Q E h=>?_) (fun _ _ _ _ _ _ us hl=>bd3 (R:=fun us=>bindArgs _ ⟨us,[]⟩=pure (List.zip _ us)) (fun _ _ _=>rfl) us hl) (fun f cdv A outer s H vs Q E hr h=>?_)
  . obtain ⟨R,A,S,m,i,j,x,y,k,rfl,_⟩:=h; rfl
  . obtain ⟨R,Ar,S,m,i,j,x,y,kk,rfl,r,hi,hj,hx,hy,k⟩:=h
    refine ⟨_,(Zac (Zcd (pv 0) (pv 2) in_sub)
      (Zad (Zcd (pv 1) (pv 2) ZhI))),?_⟩
    walk_at "nx"
    have ax:=r.ac i x hi hx
    repeat walk_at "rdk"
    refine ZcW ax.ob tAccount.k.cl tAccount.n_coin rfl ?_
    repeat walk_at "rdk"
    refine ⟨x.dx,_,ax.ob,by show 5 < 1000; decide,?_⟩
    have r1:=r.coin hi hx ((S i).coin - kk)
    have fr1:∀ b,b ≠ x.a->(upd H x.a (.ins cAccount x.dx (accF ((S i).coin - kk) (S i).purse (S i).count x.pr x.st))) b=H b:=fun b hb=>Zai hb
    have ep:∀ (c c' p n:Int) (pr st:Addr),putF "coin" (.int c') (accF c p n pr st)=accF c' p n pr st:=fun _ _ _ _ _ _=>rfl
    rw [ep]
    generalize upd H x.a _=H1 at r1 fr1
    generalize hS1:setS S i { S i with coin:=(S i).coin - kk }=S1 at r1
    have ay:=r1.ac j y hj hy
    dsimp only
    repeat walk_at "rdk"
    refine ZcW ay.ob tAccount.k.cl tAccount.n_coin rfl ?_
    repeat walk_at "rdk"
    refine ⟨y.dx,_,ay.ob,by show 5 < 1000; decide,?_⟩
    rw [ep]
    have r2:=r1.coin hj hy ((S1 j).coin + kk)
    refine k _ (fun b h1 h2=>by rw [Zai h2]; exact fr1 b h1) ?_
    unfold moved
    rw [hS1]
    exact r2
end
inductive Dd where
  | save (s p o n:Int)
  | move (s t k:Int)
  | note (s n:Int)
noncomputable def saveF (s p o n:Int):List (Str × V):=[("slot", .int s),("place", .int p),("old", .int o),("new", .int n)]
noncomputable def moveF (s t k:Int):List (Str × V):=[("slot", .int s),("taker", .int t),("many", .int k)]
noncomputable def noteF (s n:Int):List (Str × V):=[("slot", .int s),("number", .int n)]
noncomputable def doneS (S:Nat->AcS):Dd->Nat->AcS
  | .save s p _ n=>setS S s.toNat { S s.toNat with store:=putFn (S s.toNat).store p n }
  | .move s t k=>moved S s.toNat t.toNat k
  | .note _ _=>S
noncomputable def fitsD (A:Nat->Option AcI):Dd->Prop
  | .save s _ _ _=>∃ i x,s=((i:Nat):Int)/\i < 16/\A i=some x
  | .move s t _=>(∃ i x,s=((i:Nat):Int)/\i < 16/\A i=some x)/\∃ i x,t=((i:Nat):Int)/\i < 16/\A i=some x
  | .note _ _=>True
noncomputable def Out (A:Nat->Option AcI) (b:Addr):Prop:=∀ i x,i < 16->A i=some x->b ≠ x.a/\b ≠ x.st
theorem Rooms.le {K:PySem.W.Frag} {C:Addr} {H:Hp} {R:Addr} {A:Nat->Option AcI} {S:Nat->AcS} {m m':Nat} (r:Rooms K C H R A S m) (e:m <= m'):Rooms K C H R A S m':=⟨r.ob,fun i x hi hx=>(r.ac i x hi hx).le e,r.da,r.ds⟩
noncomputable def ZhU (C:Addr):Sp:=fun vs H Q _=>∃ (a dx:Addr) (s p o n:Int),vs=[.ref a,.int s,.int p,.int o,.int n]/\H a=some (.ins C dx [])/\Q .non (upd H a (.ins C dx (saveF s p o n)))
noncomputable def Zfa (C:Addr):Sp:=fun vs H Q _=>∃ (a dx:Addr) (s t k:Int),vs=[.ref a,.int s,.int t,.int k]/\H a=some (.ins C dx [])/\Q .non (upd H a (.ins C dx (moveF s t k)))
noncomputable def ZhV (C:Addr):Sp:=fun vs H Q _=>∃ (a dx:Addr) (s n:Int),vs=[.ref a,.int s,.int n]/\H a=some (.ins C dx [])/\Q .non (upd H a (.ins C dx (noteF s n)))
noncomputable def fldD:Dd->List (Str × V)
  | .save s p o n=>saveF s p o n
  | .move s t k=>moveF s t k
  | .note s n=>noteF s n
noncomputable def spDo (K:PySem.W.Frag) (C CD:Addr) (ok:Dd->Prop):Sp:=fun vs H Q _=>∃ (a dx R:Addr) (d:Dd) (A:Nat->Option AcI) (S:Nat->AcS) (m:Nat),vs=[.ref a,.ref R]/\ok d/\H a=some (.ins CD dx (fldD d))/\Rooms K C H R A S m/\fitsD A d/\m <= 1000000 /\
  ∀ H',(∀ b,Out A b->H' b=H b)->Rooms K C H' R A (doneS S d) (m + 1)->Q .non H'
noncomputable def isSave (d:Dd):Prop:=∃ s p o n,d=.save s p o n
noncomputable def isMove (d:Dd):Prop:=∃ s t k,d=.move s t k
noncomputable def isNote (d:Dd):Prop:=∃ s n,d=.note s n
noncomputable def Zfb (S:Nat->AcS):Dd->Nat->AcS
  | .save s p o _=>setS S s.toNat { S s.toNat with store:=putFn (S s.toNat).store p o }
  | .move s t k=>moved S t.toNat s.toNat k
  | .note _ _=>S
noncomputable def spUndo (K:PySem.W.Frag) (C CD:Addr) (ok:Dd->Prop):Sp:=fun vs H Q _=>∃ (a dx R:Addr) (d:Dd) (A:Nat->Option AcI) (S:Nat->AcS) (m:Nat),vs=[.ref a,.ref R]/\ok d/\H a=some (.ins CD dx (fldD d))/\Rooms K C H R A S m/\fitsD A d/\m <= 1000000 /\
  ∀ H',(∀ b,Out A b->H' b=H b)->Rooms K C H' R A (Zfb S d) (m + 1)->Q .non H'
noncomputable def rightD (S:Nat->AcS):Dd->Prop
  | .save s p o _=>(S s.toNat).store p=o
  | .move _ _ _=>True
  | .note _ _=>True
theorem Zd3 (S:Nat->AcS) (i:Nat) (v:AcS):setS S i v i=v:=by unfold setS; rw [if_pos rfl]
theorem ZmW (S:Nat->AcS) {i j:Nat} (v:AcS) (h:j ≠ i):setS S i v j=S j:=by unfold setS; rw [if_neg h]
theorem ZjM (S:Nat->AcS) (i:Nat) (v w:AcS):setS (setS S i v) i w=setS S i w:=by
  funext j
  unfold setS
  by_cases h:j=i
  . rw [if_pos h,if_pos h]
  . rw [if_neg h,if_neg h,if_neg h]
theorem ZmX (S:Nat->AcS) (i:Nat):setS S i (S i)=S:=by
  funext j
  unfold setS
  by_cases h:j=i
  . rw [if_pos h,h]
  . rw [if_neg h]
theorem ZiA {f:Int->Int} {p o n:Int} (h:f p=o):putFn (putFn f p n) p o=f:=by
  funext j
  unfold putFn
  by_cases e:j=p
  . rw [if_pos e,e,h]
  . rw [if_neg e,if_neg e]
theorem Zcv (S:Nat->AcS) (i j:Nat) (k:Int) (n:Nat):moved S i j k n={ S n with coin:=(S n).coin - (if n=i then k else 0) + (if n=j then k else 0) }:=by
  unfold moved setS
  dsimp only
  by_cases h1:n=j
  . subst h1
    by_cases h2:n=i
    . subst h2; simp
    . simp [h2]
  . by_cases h2:n=i
    . subst h2; simp [h1]
    . simp [h1,h2]
theorem Zg2 {S:Nat->AcS} {d:Dd} (h:rightD S d):Zfb (doneS S d) d=S:=by
  cases d with
  | save s p o n =>
    have e:doneS S (.save s p o n) s.toNat={ S s.toNat with store:=putFn (S s.toNat).store p n }:=Zd3 ..
    show setS (setS S s.toNat _) s.toNat { doneS S (.save s p o n) s.toNat with store:=putFn (doneS S (.save s p o n) s.toNat).store p o }=S
    rw [ZjM,e]
    dsimp only
    rw [ZiA h]
    exact ZmX S _
  | move s t k =>
    show moved (moved S _ _ k) _ _ k=S
    funext n
    rw [Zcv,Zcv]
    dsimp only
    have:(S n).coin - (if n=s.toNat then k else 0) + (if n=t.toNat then k else 0) - (if n=t.toNat then k else 0) + (if n=s.toNat then k else 0)=(S n).coin:=by omega
    rw [this]
  | note s n=>rfl
section
variable {P:Program} {w:World} {K:PySem.W.Frag} {mg:Str->Option Value} {base:Heap}
theorem Zdt:FnScope ["self", "slot", "place", "old", "new"] ["self", "slot", "place", "old", "new"] (Zab ZaY):=⟨rfl,rfl,rfl,by decide +kernel,rfl,by decide +kernel,by decide +kernel⟩
theorem Zdu   {cSave:Addr} (D:Zan K cSave "__init__" "Save.__init__" ZaY) (tSave:T_Save K mg cSave):ICal P w K mg base 1 "Save" cSave (ZhU cSave):=by
  refine ZdW (N:=["self", "slot", "place", "old", "new"]) (ps:=["self", "slot", "place", "old", "new"]) D tSave.k Zdt (fun vs H Q E h=>?_) (fun _ _ _ _ _ _ us hl=>bd5 (R:=fun us=>bindArgs _ ⟨us,[]⟩=pure (List.zip _ us)) (fun _ _ _ _ _=>rfl) us hl) (fun f cdv A outer s H vs Q E hr h=>?_)
  . obtain ⟨a,dx,s0,p,o,n,rfl,_⟩:=h; rfl
  . obtain ⟨a,dx,s0,p,o,n,rfl,ha,k⟩:=h
    refine ⟨_,(Zac (ZaO (pv 0) (pv 1) rfl)
      (Zac (ZaO (pv 0) (pv 2) rfl)
      (Zac (ZaO (pv 0) (pv 3) rfl)
      (Zad (ZaO (pv 0) (pv 4) rfl))))),?_⟩
    walk_at "nx"
    repeat walk_at "rdk"
    refine Zau ha tSave.k.cl tSave.n_slot (by decide) ?_
    repeat walk_at "rdk"
    refine Zau Zag tSave.k.cl tSave.n_place (by show 1 < 1000; decide) ?_
    rw [ZaS]
    repeat walk_at "rdk"
    refine Zau Zag tSave.k.cl tSave.n_old (by show 2 < 1000; decide) ?_
    rw [ZaS]
    repeat walk_at "rdk"
    refine Zau Zag tSave.k.cl tSave.n_new (by show 3 < 1000; decide) ?_
    rw [ZaS]
    exact k
theorem Zdv:FnScope ["self", "slot", "taker", "many"] ["self", "slot", "taker", "many"] (Zab ZaZ):=⟨rfl,rfl,rfl,by decide +kernel,rfl,by decide +kernel,by decide +kernel⟩
theorem Zdw   {cMove:Addr} (D:Zan K cMove "__init__" "Move.__init__" ZaZ) (tMove:T_Move K mg cMove):ICal P w K mg base 1 "Move" cMove (Zfa cMove):=by
  refine ZdW (N:=["self", "slot", "taker", "many"]) (ps:=["self", "slot", "taker", "many"]) D tMove.k Zdv (fun vs H Q E h=>?_) (fun _ _ _ _ _ _ us hl=>bd4 (R:=fun us=>bindArgs _ ⟨us,[]⟩=pure (List.zip _ us)) (fun _ _ _ _=>rfl) us hl) (fun f cdv A outer s H vs Q E hr h=>?_)
  . obtain ⟨a,dx,s0,t0,kk,rfl,_⟩:=h; rfl
  . obtain ⟨a,dx,s0,t0,kk,rfl,ha,k⟩:=h
    refine ⟨_,(Zac (ZaO (pv 0) (pv 1) rfl)
      (Zac (ZaO (pv 0) (pv 2) rfl)
      (Zad (ZaO (pv 0) (pv 3) rfl)))),?_⟩
    walk_at "nx"
    repeat walk_at "rdk"
    refine Zau ha tMove.k.cl tMove.n_slot (by decide) ?_
    repeat walk_at "rdk"
    refine Zau Zag tMove.k.cl tMove.n_taker (by show 1 < 1000; decide) ?_
    rw [ZaS]
    repeat walk_at "rdk"
    refine Zau Zag tMove.k.cl tMove.n_many (by show 2 < 1000; decide) ?_
    rw [ZaS]
    exact k
theorem Zdx:FnScope ["self", "slot", "number"] ["self", "slot", "number"] (Zab Za0):=⟨rfl,rfl,rfl,by decide +kernel,rfl,by decide +kernel,by decide +kernel⟩
theorem Zdy   {cNote:Addr} (D:Zan K cNote "__init__" "Note.__init__" Za0) (tNote:T_Note K mg cNote):ICal P w K mg base 1 "Note" cNote (ZhV cNote):=by
  refine ZdW (N:=["self", "slot", "number"]) (ps:=["self", "slot", "number"]) D tNote.k Zdx (fun vs H Q E h=>?_) (fun _ _ _ _ _ _ us hl=>bd3 (R:=fun us=>bindArgs _ ⟨us,[]⟩=pure (List.zip _ us)) (fun _ _ _=>rfl) us hl) (fun f cdv A outer s H vs Q E hr h=>?_)
  . obtain ⟨a,dx,s0,n,rfl,_⟩:=h; rfl
  . obtain ⟨a,dx,s0,n,rfl,ha,k⟩:=h
    refine ⟨_,(Zac (ZaO (pv 0) (pv 1) rfl)
      (Zad (ZaO (pv 0) (pv 2) rfl))),?_⟩
    walk_at "nx"
    repeat walk_at "rdk"
    refine Zau ha tNote.k.cl tNote.n_slot (by decide) ?_
    repeat walk_at "rdk"
    refine Zau Zag tNote.k.cl tNote.n_number (by show 1 < 1000; decide) ?_
    rw [ZaS]
    exact k
theorem ZiB:FnScope ["self", "rooms"] ["self", "rooms"] (Zab ZbM):=⟨rfl,rfl,rfl,by decide +kernel,rfl,by decide +kernel,by decide +kernel⟩
theorem ZiC   {cSave:Addr} {cAccount:Addr} (D:Zan K cSave "do" "Save.do" ZbM) (tSave:T_Save K mg cSave) (tAccount:T_Account K mg cAccount) (m_Account_keep:MCal P w K mg base 1 cAccount "keep" (spKeep K cAccount)):MCal P w K mg base 2 cSave "do" (spDo K cAccount cSave isSave):=by
  refine Za3 (N:=["self", "rooms"]) (ps:=["self", "rooms"]) D tSave.k.cl ZiB (fun vs H Q E h=>?_) (fun _ _ _ _ _ _ us hl=>bd2 (R:=fun us=>bindArgs _ ⟨us,[]⟩=pure (List.zip _ us)) (fun _ _=>rfl) us hl) (fun f cdv A outer s H vs Q E hr h=>?_)
  . obtain ⟨a,dx,R,d,A,S,m,rfl,_⟩:=h; rfl
  . obtain ⟨a,dx,R,d,Ar,S,m,rfl,⟨s0,p,o,n,rfl⟩,ha,r,⟨i,x,rfl,hi,hx⟩,hm,k⟩:=h
    refine ⟨_,(Zad (Zav (ZaH m_Account_keep (hr.mono (by decide)) (Zay ZaA (pv 1) (Zal (pv 0) rfl) (fun _ _=>rfl)) (Zaa (Zal (pv 0) rfl) (Zaa (Zal (pv 0) rfl) Zaf))))),?_⟩
    walk_at "nx"
    have ax:=r.ac i x hi hx
    repeat walk_at "rdk"
    refine Zah ha tSave.k.cl tSave.n_slot rfl ?_
    refine Za8 (ZaE r.ob) (r.at hi hx) ?_
    refine Zap ax.ob rfl ?_
    repeat walk_at "rdk"
    refine Zah ha tSave.k.cl tSave.n_place rfl ?_
    repeat walk_at "rdk"
    refine Zah ha tSave.k.cl tSave.n_new rfl ?_
    repeat walk_at "rdk"
    refine ⟨x.a,x.dx,x.pr,x.st,_,_,_,_,_,m,p,n,rfl,ax,hm,fun H' k1 e1=>?_⟩
    repeat walk_at "rdk"
    refine k H' (fun b hb=>k1 b (hb i x hi hx).2) ?_
    have:=r.keep hi hx k1 e1
    exact this
theorem ZiD:FnScope ["self", "rooms"] ["self", "rooms"] (Zab ZbN):=⟨rfl,rfl,rfl,by decide +kernel,rfl,by decide +kernel,by decide +kernel⟩
theorem ZiE   {cMove:Addr} (D:Zan K cMove "do" "Move.do" ZbN) (tMove:T_Move K mg cMove) (c_shift_coin:Cal P w K mg base 1 "shift_coin" (Zg1 K cAccount)):MCal P w K mg base 2 cMove "do" (spDo K cAccount cMove isMove):=by
  refine Za3 (N:=["self", "rooms"]) (ps:=["self", "rooms"]) D tMove.k.cl ZiD (fun vs H Q E h=>?_) (fun _ _ _ _ _ _ us hl=>bd2 (R:=fun us=>bindArgs _ ⟨us,[]⟩=pure (List.zip _ us)) (fun _ _=>rfl) us hl) (fun f cdv A outer s H vs Q E hr h=>?_)
  . obtain ⟨a,dx,R,d,A,S,m,rfl,_⟩:=h; rfl
  . obtain ⟨a,dx,R,d,Ar,S,m,rfl,⟨s0,t0,kk,rfl⟩,ha,r,⟨⟨i,x,rfl,hi,hx⟩,j,y,rfl,hj,hy⟩,hm,k⟩:=h
    refine ⟨_,(Zad (Zav (ZaG c_shift_coin (hr.mono (by decide)) rfl (Zaa (Zay ZaA (pv 1) (Zal (pv 0) rfl) (fun _ _=>rfl)) (Zaa (Zay ZaA (pv 1) (Zal (pv 0) rfl) (fun _ _=>rfl)) (Zaa (Zal (pv 0) rfl) Zaf)))))),?_⟩
    walk_at "nx"
    repeat walk_at "rdk"
    refine Zah ha tMove.k.cl tMove.n_slot rfl ?_
    refine Za8 (ZaE r.ob) (r.at hi hx) ?_
    repeat walk_at "rdk"
    refine Zah ha tMove.k.cl tMove.n_taker rfl ?_
    refine Za8 (ZaE r.ob) (r.at hj hy) ?_
    repeat walk_at "rdk"
    refine Zah ha tMove.k.cl tMove.n_many rfl ?_
    repeat walk_at "rdk"
    refine ⟨R,Ar,S,m,i,j,x,y,kk,rfl,r,hi,hj,hx,hy,fun H' k1 r1=>?_⟩
    repeat walk_at "rdk"
    refine k H' (fun b hb=>k1 b (hb i x hi hx).1 (hb j y hj hy).1) ?_
    exact r1.le (Nat.le_succ m)
theorem ZiF:FnScope ["self", "rooms"] ["self", "rooms"] (Zab ZbO):=⟨rfl,rfl,rfl,by decide +kernel,rfl,by decide +kernel,by decide +kernel⟩
theorem ZiG   {cNote:Addr} (D:Zan K cNote "do" "Deed.do" ZbO) (tNote:T_Note K mg cNote):MCal P w K mg base 2 cNote "do" (spDo K cAccount cNote isNote):=by
  refine Za3 (N:=["self", "rooms"]) (ps:=["self", "rooms"]) D tNote.k.cl ZiF (fun vs H Q E h=>?_) (fun _ _ _ _ _ _ us hl=>bd2 (R:=fun us=>bindArgs _ ⟨us,[]⟩=pure (List.zip _ us)) (fun _ _=>rfl) us hl) (fun f cdv A outer s H vs Q E hr h=>?_)
  . obtain ⟨a,dx,R,d,A,S,m,rfl,_⟩:=h; rfl
  . obtain ⟨a,dx,R,d,Ar,S,m,rfl,⟨s0,n,rfl⟩,ha,r,_,hm,k⟩:=h
    refine ⟨_,(Zad ZiP),?_⟩
    walk_at "nx"
    exact k H (fun b _=>rfl) (r.le (Nat.le_succ m))
theorem Zf9:FnScope ["self", "rooms"] ["self", "rooms"] (Zab Zbt):=⟨rfl,rfl,rfl,by decide +kernel,rfl,by decide +kernel,by decide +kernel⟩
theorem Zga   {cSave:Addr} {cAccount:Addr} (D:Zan K cSave "undo" "Save.undo" Zbt) (tSave:T_Save K mg cSave) (tAccount:T_Account K mg cAccount) (m_Account_keep:MCal P w K mg base 1 cAccount "keep" (spKeep K cAccount)):MCal P w K mg base 2 cSave "undo" (spUndo K cAccount cSave isSave):=by
  refine Za3 (N:=["self", "rooms"]) (ps:=["self", "rooms"]) D tSave.k.cl Zf9 (fun vs H Q E h=>?_) (fun _ _ _ _ _ _ us hl=>bd2 (R:=fun us=>bindArgs _ ⟨us,[]⟩=pure (List.zip _ us)) (fun _ _=>rfl) us hl) (fun f cdv A outer s H vs Q E hr h=>?_)
  . obtain ⟨a,dx,R,d,A,S,m,rfl,_⟩:=h; rfl
  . obtain ⟨a,dx,R,d,Ar,S,m,rfl,⟨s0,p,o,n,rfl⟩,ha,r,⟨i,x,rfl,hi,hx⟩,hm,k⟩:=h
    refine ⟨_,(Zad (Zav (ZaH m_Account_keep (hr.mono (by decide)) (Zay ZaA (pv 1) (Zal (pv 0) rfl) (fun _ _=>rfl)) (Zaa (Zal (pv 0) rfl) (Zaa (Zal (pv 0) rfl) Zaf))))),?_⟩
    walk_at "nx"
    have ax:=r.ac i x hi hx
    repeat walk_at "rdk"
    refine Zah ha tSave.k.cl tSave.n_slot rfl ?_
    refine Za8 (ZaE r.ob) (r.at hi hx) ?_
    refine Zap ax.ob rfl ?_
    repeat walk_at "rdk"
    refine Zah ha tSave.k.cl tSave.n_place rfl ?_
    repeat walk_at "rdk"
    refine Zah ha tSave.k.cl tSave.n_old rfl ?_
    repeat walk_at "rdk"
    refine ⟨x.a,x.dx,x.pr,x.st,_,_,_,_,_,m,p,o,rfl,ax,hm,fun H' k1 e1=>?_⟩
    repeat walk_at "rdk"
    refine k H' (fun b hb=>k1 b (hb i x hi hx).2) ?_
    have:=r.keep hi hx k1 e1
    exact this
theorem Zgb:FnScope ["self", "rooms"] ["self", "rooms"] (Zab Zbv):=⟨rfl,rfl,rfl,by decide +kernel,rfl,by decide +kernel,by decide +kernel⟩
theorem Zgc   {cMove:Addr} (D:Zan K cMove "undo" "Move.undo" Zbv) (tMove:T_Move K mg cMove) (c_shift_coin:Cal P w K mg base 1 "shift_coin" (Zg1 K cAccount)):MCal P w K mg base 2 cMove "undo" (spUndo K cAccount cMove isMove):=by
  refine Za3 (N:=["self", "rooms"]) (ps:=["self", "rooms"]) D tMove.k.cl Zgb (fun vs H Q E h=>?_) (fun _ _ _ _ _ _ us hl=>bd2 (R:=fun us=>bindArgs _ ⟨us,[]⟩=pure (List.zip _ us)) (fun _ _=>rfl) us hl) (fun f cdv A outer s H vs Q E hr h=>?_)
  . obtain ⟨a,dx,R,d,A,S,m,rfl,_⟩:=h; rfl
  . obtain ⟨a,dx,R,d,Ar,S,m,rfl,⟨s0,t0,kk,rfl⟩,ha,r,⟨⟨i,x,rfl,hi,hx⟩,j,y,rfl,hj,hy⟩,hm,k⟩:=h
    refine ⟨_,(Zad (Zav (ZaG c_shift_coin (hr.mono (by decide)) rfl (Zaa (Zay ZaA (pv 1) (Zal (pv 0) rfl) (fun _ _=>rfl)) (Zaa (Zay ZaA (pv 1) (Zal (pv 0) rfl) (fun _ _=>rfl)) (Zaa (Zal (pv 0) rfl) Zaf)))))),?_⟩
    walk_at "nx"
    repeat walk_at "rdk"
    refine Zah ha tMove.k.cl tMove.n_taker rfl ?_
    refine Za8 (ZaE r.ob) (r.at hj hy) ?_
    repeat walk_at "rdk"
    refine Zah ha tMove.k.cl tMove.n_slot rfl ?_
    refine Za8 (ZaE r.ob) (r.at hi hx) ?_
    repeat walk_at "rdk"
    refine Zah ha tMove.k.cl tMove.n_many rfl ?_
    repeat walk_at "rdk"
    refine ⟨R,Ar,S,m,j,i,y,x,kk,rfl,r,hj,hi,hy,hx,fun H' k1 r1=>?_⟩
    repeat walk_at "rdk"
    refine k H' (fun b hb=>k1 b (hb j y hj hy).1 (hb i x hi hx).1) ?_
    exact r1.le (Nat.le_succ m)
theorem Zgd:FnScope ["self", "rooms"] ["self", "rooms"] (Zab Zbz):=⟨rfl,rfl,rfl,by decide +kernel,rfl,by decide +kernel,by decide +kernel⟩
theorem Zge   {cNote:Addr} (D:Zan K cNote "undo" "Deed.undo" Zbz) (tNote:T_Note K mg cNote):MCal P w K mg base 2 cNote "undo" (spUndo K cAccount cNote isNote):=by
  refine Za3 (N:=["self", "rooms"]) (ps:=["self", "rooms"]) D tNote.k.cl Zgd (fun vs H Q E h=>?_) (fun _ _ _ _ _ _ us hl=>bd2 (R:=fun us=>bindArgs _ ⟨us,[]⟩=pure (List.zip _ us)) (fun _ _=>rfl) us hl) (fun f cdv A outer s H vs Q E hr h=>?_)
  . obtain ⟨a,dx,R,d,A,S,m,rfl,_⟩:=h; rfl
  . obtain ⟨a,dx,R,d,Ar,S,m,rfl,⟨s0,n,rfl⟩,ha,r,_,hm,k⟩:=h
    refine ⟨_,(Zad ZiP),?_⟩
    walk_at "nx"
    exact k H (fun b _=>rfl) (r.le (Nat.le_succ m))
end
noncomputable def clsD (cS cM cN:Addr):Dd->Addr
  | .save ..=>cS
  | .move ..=>cM
  | .note ..=>cN
noncomputable def T3 (a b c:Addr) (s1 s2 s3:Sp) (C:Addr) (sp:Sp):Prop:=(C=a/\sp=s1)\/(C=b/\sp=s2)\/(C=c/\sp=s3)
theorem Zld {P:Program} {w:World} {K:PySem.W.Frag} {mg:Str->Option Value} {base:Heap} {n:Nat} {m:Str} {a b c:Addr} {s1 s2 s3:Sp} (m1:MCal P w K mg base n a m s1) (m2:MCal P w K mg base n b m s2) (m3:MCal P w K mg base n c m s3) (C:Addr) (sp:Sp) (h:T3 a b c s1 s2 s3 C sp):MCal P w K mg base n C m sp:=by
  rcases h with ⟨rfl,rfl⟩|⟨rfl,rfl⟩|⟨rfl,rfl⟩
  . exact m1
  . exact m2
  . exact m3
theorem ZdI {T:Addr->Sp->Prop} {m:Str} {ta:TE} {t:TA} {σ:St} {H:Hp} {Q:VK} (q:ta σ H fun x H1=>∃ a C dx fs sp,x=.ref a/\H1 a=some (.ins C dx fs)/\fs.lookup m=none/\T C sp/\t σ H1 fun vs H2=>sp (x :: vs) H2 Q E0):tMethD T m ta t σ H Q:=q
noncomputable def TDo (K:PySem.W.Frag) (cA cS cM cN:Addr):Addr->Sp->Prop:=T3 cS cM cN (spDo K cA cS isSave) (spDo K cA cM isMove) (spDo K cA cN isNote)
noncomputable def TUn (K:PySem.W.Frag) (cA cS cM cN:Addr):Addr->Sp->Prop:=T3 cS cM cN (spUndo K cA cS isSave) (spUndo K cA cM isMove) (spUndo K cA cN isNote)
noncomputable def okOf:Dd->Dd->Prop
  | .save ..=>isSave
  | .move ..=>isMove
  | .note ..=>isNote
theorem ZcX (d:Dd):okOf d d:=by
  cases d with
  | save=>exact ⟨_,_,_,_,rfl⟩
  | move=>exact ⟨_,_,_,rfl⟩
  | note=>exact ⟨_,_,rfl⟩
theorem tdo_of (K:PySem.W.Frag) (cA cS cM cN:Addr) (d:Dd):TDo K cA cS cM cN (clsD cS cM cN d) (spDo K cA (clsD cS cM cN d) (okOf d)):=by
  cases d with
  | save=>exact .inl ⟨rfl,rfl⟩
  | move=>exact .inr (.inl ⟨rfl,rfl⟩)
  | note=>exact .inr (.inr ⟨rfl,rfl⟩)
theorem tun_of (K:PySem.W.Frag) (cA cS cM cN:Addr) (d:Dd):TUn K cA cS cM cN (clsD cS cM cN d) (spUndo K cA (clsD cS cM cN d) (okOf d)):=by
  cases d with
  | save=>exact .inl ⟨rfl,rfl⟩
  | move=>exact .inr (.inl ⟨rfl,rfl⟩)
  | note=>exact .inr (.inr ⟨rfl,rfl⟩)
theorem fld_do (d:Dd):(fldD d).lookup (Str.ofString "do")=none:=by cases d <;> rfl
theorem Zle (d:Dd):(fldD d).lookup (Str.ofString "undo")=none:=by cases d <;> rfl
noncomputable def runS (S:Nat->AcS) (ds:List Dd):Nat->AcS:=ds.foldl doneS S
theorem Zgf (S:Nat->AcS) (ds:List Dd) (d:Dd):runS S (ds ++ [d])=doneS (runS S ds) d:=by unfold runS; rw [List.foldl_append]; rfl
noncomputable def ZbE:(Nat->AcS)->List Dd->Prop
  | _,[]=>True
  | S,d :: ds=>rightD S d/\ZbE (doneS S d) ds
theorem Zb6:∀ (S:Nat->AcS) (ds:List Dd) (d:Dd),ZbE S (ds ++ [d]) ↔ ZbE S ds/\rightD (runS S ds) d
  | S,[],d=>by simp [ZbE,runS]
  | S,e :: ds,d=>by
    show rightD S e/\ZbE (doneS S e) (ds ++ [d]) ↔ (rightD S e/\ZbE (doneS S e) ds)/\rightD (runS S (e :: ds)) d
    rw [Zb6 (doneS S e) ds d,and_assoc]
    rfl
structure DI where
  o:Addr
  dx:Addr
  d:Dd
noncomputable def jF (R L:Addr):List (Str × V):=[("rooms", .ref R),("deeds", .ref L)]
structure Jr (cJ cS cM cN:Addr) (H:Hp) (j dx R L:Addr) (A:Nat->Option AcI) (es:List DI):Prop where
  ob:H j=some (.ins cJ dx (jF R L))
  li:H L=some (.lst (es.map fun e=>V.ref e.o))
  de:∀ e ∈ es,H e.o=some (.ins (clsD cS cM cN e.d) e.dx (fldD e.d))/\fitsD A e.d
  nR:L ≠ R
  np:∀ i x,i < 16->A i=some x->L ≠ x.pr
theorem ZhW {H:Hp} {a b C C' dx dx':Addr} {fs gs:List (Str × V)} (h:H a=some (.ins C dx fs)) (h':H b=some (.ins C' dx' gs)) (n:fs.length ≠ gs.length):a ≠ b:=fun z=>by
  rw [z,h'] at h
  cases h
  exact n rfl
theorem Zfc (d:Dd):(fldD d).length < 5:=by
  cases d with
  | save=>show 4 < 5; decide
  | move=>show 3 < 5; decide
  | note=>show 2 < 5; decide
section
variable {K:PySem.W.Frag} {C cJ cS cM cN:Addr} {H H':Hp} {j dx R L:Addr} {A:Nat->Option AcI} {S:Nat->AcS} {m:Nat} {es:List DI}
theorem Rooms.same {K:PySem.W.Frag} {C:Addr} {H H':Hp} {R:Addr} {A:Nat->Option AcI} {S:Nat->AcS} {m:Nat} (r:Rooms K C H R A S m) (s:Same H H'):Rooms K C H' R A S m :=
  ⟨s _ _ r.ob,fun i x hi hx=>let h:=r.ac i x hi hx; ⟨s _ _ h.ob,let ⟨xs,e1,e2⟩:=h.pg; ⟨xs,s _ _ e1,e2.keep s.imm⟩,let ⟨k,a,b⟩:=h.sto; ⟨k,s _ _ a,b⟩⟩,r.da,r.ds⟩
theorem Rooms.outI (r:Rooms K C H R A S m) {a C' dx':Addr} {fs:List (Str × V)} (h:H a=some (.ins C' dx' fs)) (n:fs.length < 5):Out A a:=fun i x hi hx =>
  ⟨ZhW h (r.ac i x hi hx).ob (by show fs.length ≠ 5; omega),let ⟨_,g,_⟩:=(r.ac i x hi hx).sto; Zbe h g (by intro z; cases z)⟩
theorem Rooms.outL (r:Rooms K C H R A S m) {a:Addr} {xs:List V} (h:H a=some (.lst xs)):Out A a:=fun i x hi hx =>
  ⟨Zbe h (r.ac i x hi hx).ob (by intro z; cases z),let ⟨_,g,_⟩:=(r.ac i x hi hx).sto; Zbe h g (by intro z; cases z)⟩
theorem Rooms.outN (r:Rooms K C H R A S m) {a:Addr} (h:H a=none):Out A a:=fun i x hi hx =>
  ⟨Ne.symm (Zaj (r.ac i x hi hx).ob h),let ⟨_,g,_⟩:=(r.ac i x hi hx).sto; Ne.symm (Zaj g h)⟩
theorem Jr.same (J:Jr cJ cS cM cN H j dx R L A es) (s:Same H H'):Jr cJ cS cM cN H' j dx R L A es:=⟨s _ _ J.ob,s _ _ J.li,fun e he=>⟨s _ _ (J.de e he).1,(J.de e he).2⟩,J.nR,J.np⟩
theorem Jr.out (J:Jr cJ cS cM cN H j dx R L A es) (r:Rooms K C H R A S m) (k:∀ b,Out A b->H' b=H b):Jr cJ cS cM cN H' j dx R L A es :=
  ⟨by rw [k _ (r.outI J.ob (by show 2 < 5; decide))]; exact J.ob,by rw [k _ (r.outL J.li)]; exact J.li,fun e he=>⟨by rw [k _ (r.outI (J.de e he).1 (Zfc _))]; exact (J.de e he).1,(J.de e he).2⟩,J.nR,J.np⟩
theorem Rooms.lst (r:Rooms K C H R A S m) {L:Addr} {xs ys:List V} (hL:H L=some (.lst xs)) (nR:L ≠ R) (np:∀ i x,i < 16->A i=some x->L ≠ x.pr):Rooms K C (upd H L (.lst ys)) R A S m:=by
  have im:SameI H (upd H L (.lst ys)):=SameI.upd hL ZbB
  refine ⟨by rw [Zai (Ne.symm nR)]; exact r.ob,fun i x hi hx=>?_,r.da,r.ds⟩
  have h:=r.ac i x hi hx
  obtain ⟨zs,e1,e2⟩:=h.pg
  obtain ⟨kvs,e3,e4⟩:=h.sto
  exact ⟨by rw [Zai (Zbe h.ob hL (by intro z; cases z))]; exact h.ob,⟨zs,by rw [Zai (Ne.symm (np i x hi hx))]; exact e1,e2.keep im⟩,kvs,by rw [Zai (Zbe e3 hL (by intro z; cases z))]; exact e3,e4⟩
theorem Jr.push (J:Jr cJ cS cM cN H j dx R L A es) {e:DI} (he:H e.o=some (.ins (clsD cS cM cN e.d) e.dx (fldD e.d))) (hf:fitsD A e.d):Jr cJ cS cM cN (upd H L (.lst ((es.map fun e=>V.ref e.o) ++ [.ref e.o]))) j dx R L A (es ++ [e]):=by
  refine ⟨by rw [Zai (Zbe J.ob J.li (by intro z; cases z))]; exact J.ob,by rw [Zag,List.map_append]; rfl,fun u hu=>?_,J.nR,J.np⟩
  rcases List.mem_append.mp hu with hu|hu
  . have h:=J.de u hu
    exact ⟨by rw [Zai (Zbe h.1 J.li (by intro z; cases z))]; exact h.1,h.2⟩
  . rw [List.mem_singleton] at hu
    subst hu
    exact ⟨by rw [Zai (Zbe he J.li (by intro z; cases z))]; exact he,hf⟩
theorem Jr.pop {e:DI} (J:Jr cJ cS cM cN H j dx R L A (es ++ [e])):Jr cJ cS cM cN (upd H L (.lst (es.map fun e=>V.ref e.o))) j dx R L A es :=
  ⟨by rw [Zai (Zbe J.ob J.li (by intro z; cases z))]; exact J.ob,Zag,fun u hu=>let h:=J.de u (List.mem_append.mpr (.inl hu)); ⟨by rw [Zai (Zbe h.1 J.li (by intro z; cases z))]; exact h.1,h.2⟩,J.nR,J.np⟩
end
theorem jb2 {m n:Nat} (h:m < n):n=(n - 1) + 1:=by omega
theorem jb3 {m e p:Nat} (h:m + e <= 1000000):m + (e - p) <= 1000000:=by omega
theorem jb5 {m e p:Nat} (h:p < e):m + (e - (p + 1)) + 1=m + (e - p):=by omega
noncomputable def ZjN (cJ:Addr):Sp:=fun vs H Q _=>∃ (j dx R:Addr),vs=[.ref j,.ref R]/\H j=some (.ins cJ dx [])/\∀ L,H L=none->Q .non (upd (upd H L (.lst [])) j (.ins cJ dx (jF R L)))
noncomputable def spMark (cJ:Addr):Sp:=fun vs H Q _=>∃ (j dx R L:Addr) (xs:List V),vs=[.ref j]/\H j=some (.ins cJ dx (jF R L))/\H L=some (.lst xs)/\Q (.int (xs.length:Nat)) H
noncomputable def ZjO (K:PySem.W.Frag) (C cJ cS cM cN:Addr):Sp:=fun vs H Q _=>∃ (j dx R L:Addr) (A:Nat->Option AcI) (S:Nat->AcS) (m:Nat) (es:List DI) (e:DI),vs=[.ref j,.ref e.o]/\Jr cJ cS cM cN H j dx R L A es/\Rooms K C H R A S m/\H e.o=some (.ins (clsD cS cM cN e.d) e.dx (fldD e.d))/\fitsD A e.d/\m <= 1000000/\es.length < 1000000 /\
  ∀ H',(∀ b,Out A b->b ≠ L->H' b=H b)->Rooms K C H' R A (doneS S e.d) (m + 1)->Jr cJ cS cM cN H' j dx R L A (es ++ [e])->Q .non H'
noncomputable def spBack (K:PySem.W.Frag) (C cJ cS cM cN:Addr):Sp:=fun vs H Q _=>∃ (j dx R L:Addr) (A:Nat->Option AcI) (S0:Nat->AcS) (m:Nat) (es:List DI) (mk:Int),vs=[.ref j,.int mk]/\Jr cJ cS cM cN H j dx R L A es/\Rooms K C H R A (runS S0 (es.map (·.d))) m/\ZbE S0 (es.map (·.d))/\m + es.length <= 1000000 /\
  ∀ H',(∀ b,Out A b->b ≠ L->H' b=H b)->Rooms K C H' R A (runS S0 ((es.take mk.toNat).map (·.d))) (m + es.length)->ZbE S0 ((es.take mk.toNat).map (·.d))->Jr cJ cS cM cN H' j dx R L A (es.take mk.toNat)->Q .non H'
section
variable {P:Program} {w:World} {K:PySem.W.Frag} {mg:Str->Option Value} {base:Heap}
theorem ZcM:FnScope ["self", "rooms"] ["self", "rooms"] (Zab ZaM):=⟨rfl,rfl,rfl,by decide +kernel,rfl,by decide +kernel,by decide +kernel⟩
theorem ZcN   {cJournal:Addr} (D:Zan K cJournal "__init__" "Journal.__init__" ZaM) (tJournal:T_Journal K mg cJournal):ICal P w K mg base 1 "Journal" cJournal (ZjN cJournal):=by
  refine ZdW (N:=["self", "rooms"]) (ps:=["self", "rooms"]) D tJournal.k ZcM (fun vs H Q E h=>?_) (fun _ _ _ _ _ _ us hl=>bd2 (R:=fun us=>bindArgs _ ⟨us,[]⟩=pure (List.zip _ us)) (fun _ _=>rfl) us hl) (fun f cdv A outer s H vs Q E hr h=>?_)
  . obtain ⟨j,dx,R,rfl,_⟩:=h; rfl
  . obtain ⟨j,dx,R,rfl,ha,k⟩:=h
    refine ⟨_,(Zac (ZaO (pv 0) (pv 1) rfl)
      (Zad (ZaO (pv 0) (ZbT Zaf) rfl))),?_⟩
    walk_at "nx"
    repeat walk_at "rdk"
    refine Zau ha tJournal.k.cl tJournal.n_rooms (by decide) ?_
    repeat walk_at "rdk"
    refine ⟨by decide,fun l hl=>?_⟩
    have nl:l ≠ j:=fun z=>by rw [z,Zag] at hl; cases hl
    have hlH:H l=none:=by rw [Zai nl] at hl; exact hl
    repeat walk_at "rdk"
    refine Zau (by rw [Zai (Ne.symm nl)]; exact Zag) tJournal.k.cl tJournal.n_deeds (by show 1 < 1000; decide) ?_
    have e:upd (upd (upd H j (.ins cJournal dx (putF "rooms" (.ref R) []))) l (.lst [])) j (.ins cJournal dx (putF "deeds" (.ref l) (putF "rooms" (.ref R) [])))=upd (upd H l (.lst [])) j (.ins cJournal dx (jF R l)):=by
      funext b
      unfold upd
      by_cases z:b=j
      . rw [if_pos z,if_pos z]; rfl
      . rw [if_neg z,if_neg z,if_neg z]
    rw [e]
    exact k l hlH
theorem Zd4:FnScope ["self"] ["self"] (Zab Za6):=⟨rfl,rfl,rfl,by decide +kernel,rfl,by decide +kernel,by decide +kernel⟩
theorem Zd5   {cJournal:Addr} (D:Zan K cJournal "mark" "Journal.mark" Za6) (tJournal:T_Journal K mg cJournal) (n_len:mg "len" = none):MCal P w K mg base 1 cJournal "mark" (spMark cJournal):=by
  refine Za3 (N:=["self"]) (ps:=["self"]) D tJournal.k.cl Zd4 (fun vs H Q E h=>?_) (fun _ _ _ _ _ _ us hl=>bd1 (R:=fun us=>bindArgs _ ⟨us,[]⟩=pure (List.zip _ us)) (fun _=>rfl) us hl) (fun f cdv A outer s H vs Q E hr h=>?_)
  . obtain ⟨j,dx,R,L,xs,rfl,_⟩:=h; rfl
  . obtain ⟨j,dx,R,L,xs,rfl,ha,hl,k⟩:=h
    refine ⟨_,(Zad (Zam (ZaR Zb9 rfl n_len PySem.boot_len (Zaa (Zal (pv 0) rfl) Zaf)))),?_⟩
    walk_at "nx"
    repeat walk_at "rdk"
    refine Zah ha tJournal.k.cl tJournal.n_deeds rfl ?_
    repeat walk_at "rdk"
    exact k
theorem Zdz:FnScope ["self", "deed"] ["self", "deed"] (Zab Za1):=⟨rfl,rfl,rfl,by decide +kernel,rfl,by decide +kernel,by decide +kernel⟩
theorem ZdA   {cJournal:Addr} {cSave:Addr} {cMove:Addr} {cNote:Addr} {cAccount:Addr} (D:Zan K cJournal "write" "Journal.write" Za1) (tJournal:T_Journal K mg cJournal) (tSave:T_Save K mg cSave) (tMove:T_Move K mg cMove) (tNote:T_Note K mg cNote) (tAccount:T_Account K mg cAccount) (m_Save_do:MCal P w K mg base 2 cSave "do" (spDo K cAccount cSave isSave)) (m_Move_do:MCal P w K mg base 2 cMove "do" (spDo K cAccount cMove isMove)) (m_Note_do:MCal P w K mg base 2 cNote "do" (spDo K cAccount cNote isNote)):MCal P w K mg base 3 cJournal "write" (ZjO K cAccount cJournal cSave cMove cNote):=by
  refine Za3 (N:=["self", "deed"]) (ps:=["self", "deed"]) D tJournal.k.cl Zdz (fun vs H Q E h=>?_) (fun _ _ _ _ _ _ us hl=>bd2 (R:=fun us=>bindArgs _ ⟨us,[]⟩=pure (List.zip _ us)) (fun _ _=>rfl) us hl) (fun f cdv A outer s H vs Q E hr h=>?_)
  . obtain ⟨j,dx,R,L,A,S,m,es,e,rfl,_⟩:=h; rfl
  . obtain ⟨j,dx,R,L,Ar,S,m,es,e,rfl,J,r,he,fit,hm,hel,k⟩:=h
    refine ⟨_,(Zac (Zav (ZhP (T:=TDo K cAccount cSave cMove cNote) (Zld m_Save_do m_Move_do m_Note_do) (hr.mono (by decide)) (pv 1) (Zaa (Zal (pv 0) rfl) Zaf)))
      (Zad (Zav (ZeM PySem.F.plainAttrs_list PySem.F.slot_list_append PySem.F.type_list_append Zbr (Zal (pv 0) rfl) (Zaa (pv 1) Zaf))))),?_⟩
    walk_at "nx"
    repeat walk_at "rdk"
    refine ZdI ?_
    repeat walk_at "rdk"
    refine ⟨e.o,clsD cSave cMove cNote e.d,e.dx,fldD e.d,_,rfl,he,fld_do e.d,tdo_of K cAccount cSave cMove cNote e.d,?_⟩
    repeat walk_at "rdk"
    refine Zah J.ob tJournal.k.cl tJournal.n_rooms rfl ?_
    repeat walk_at "rdk"
    refine ⟨e.o,e.dx,R,e.d,Ar,S,m,rfl,ZcX e.d,he,r,fit,hm,fun H1 k1 r1=>?_⟩
    have J1:=J.out r k1
    have he1:H1 e.o=some (.ins (clsD cSave cMove cNote e.d) e.dx (fldD e.d)):=by rw [k1 _ (r.outI he (Zfc _))]; exact he
    repeat walk_at "rdk"
    refine Zah J1.ob tJournal.k.cl tJournal.n_deeds rfl ?_
    refine ⟨ZbL (ZaE J1.li),?_⟩
    repeat walk_at "rdk"
    refine ZbC J1.li (by rw [List.length_map]; exact Nat.lt_of_lt_of_le hel (by decide)) ?_
    repeat walk_at "rdk"
    exact k _ (fun b h1 h2=>by rw [Zai h2]; exact k1 b h1) (r1.lst J1.li J1.nR J1.np) (J1.push he1 fit)
theorem Zco:FnScope ["self", "mark", "deed"] ["self", "mark"] (Zab Za7):=⟨rfl,rfl,rfl,by decide +kernel,rfl,by decide +kernel,by decide +kernel⟩
theorem Zd6   {cJournal:Addr} {cSave:Addr} {cMove:Addr} {cNote:Addr} {cAccount:Addr} (D:Zan K cJournal "back" "Journal.back" Za7) (tJournal:T_Journal K mg cJournal) (tSave:T_Save K mg cSave) (tMove:T_Move K mg cMove) (tNote:T_Note K mg cNote) (tAccount:T_Account K mg cAccount) (m_Save_undo:MCal P w K mg base 2 cSave "undo" (spUndo K cAccount cSave isSave)) (m_Move_undo:MCal P w K mg base 2 cMove "undo" (spUndo K cAccount cMove isMove)) (m_Note_undo:MCal P w K mg base 2 cNote "undo" (spUndo K cAccount cNote isNote)) (n_len:mg "len" = none) (n_max:mg "max" = none):MCal P w K mg base 3 cJournal "back" (spBack K cAccount cJournal cSave cMove cNote):=by
  refine Za3 (N:=["self", "mark", "deed"]) (ps:=["self", "mark"]) D tJournal.k.cl Zco (fun vs H Q E h=>?_) (fun _ _ _ _ _ _ us hl=>bd2 (R:=fun us=>bindArgs _ ⟨us,[]⟩=pure (List.zip _ us)) (fun _ _=>rfl) us hl) (fun f cdv A outer s H vs Q E hr h=>?_)
  . obtain ⟨j,dx,R,L,A,S0,m,es,mk,rfl,_⟩:=h; rfl
  . obtain ⟨j,dx,R,L,Ar,S0,m,es,mk,rfl,J,r,ri,hm,k⟩:=h
    refine ⟨_,(Zad (ZhF PassesOwn.never (Zaq ZdM (ZaR Zb9 rfl n_len PySem.boot_len (Zaa (Zal (pv 0) rfl) Zaf)) (ZaR (Zjg rfl) rfl n_max PyProof.Rows.boot_max (Zaa (pv 1) (Zaa Zae Zaf))) (nomark _))
      (Zac (ZaI (i:=2) Zco.nd rfl (by first|exact Or.inl rfl|exact Or.inr rfl) (ZlR PySem.F.plainAttrs_list PySem.F.slot_list_pop PySem.F.type_list_pop ZlS (Zal (pv 0) rfl)))
      (Zad (Zav (ZhP (T:=TUn K cAccount cSave cMove cNote) (Zld m_Save_undo m_Move_undo m_Note_undo) (hr.mono (by decide)) (pv 2) (Zaa (Zal (pv 0) rfl) Zaf))))))),?_⟩
    walk_at "nx"
    refine ⟨fun n σ' H'=>∃ q v,n=q/\min mk.toNat es.length <= q/\q <= es.length/\(∀ b,Out Ar b->b ≠ L->H' b=H b)/\Rooms K cAccount H' R Ar (runS S0 ((es.take q).map (·.d))) (m + (es.length - q))/\ZbE S0 ((es.take q).map (·.d))/\Jr cJournal cSave cMove cNote H' j dx R L Ar (es.take q)/\σ'=[some (.ref j),some (.int mk),v],⟨es.length,es.length,none,rfl,Nat.min_le_right _ _,Nat.le_refl _,fun _ _ _=>rfl,by rw [List.take_length,Nat.sub_self]; exact r,by rw [List.take_length]; exact ri,by rw [List.take_length]; exact J,rfl⟩,?_⟩
    rintro n σ' H' ⟨q,v,rfl,hq0,hq1,fr,r',ri',J',rfl⟩
    have hL:=J'.li
    repeat walk_at "rdk"
    refine Zah J'.ob tJournal.k.cl tJournal.n_deeds rfl ?_
    repeat walk_at "rdk"
    . rename_i hgt
      rw [List.length_map,List.length_take,Nat.min_eq_left hq1] at hgt
      have hgt2:mk.toNat < n:=by split at hgt <;> omega
      obtain ⟨p,rfl⟩:∃ p,n=p + 1:=⟨n - 1,jb2 hgt2⟩
      have hp:p < es.length:=hq1
      have htk:es.take (p + 1)=es.take p ++ [es[p]]:=List.take_succ_eq_append_getElem hp
      refine ⟨fun σ' H'=>∃ m',m' < p + 1/\_,fun _ _ h=>h,?_⟩
      rw [htk] at J' ri' r' hL
      rw [List.map_append] at ri' r'
      obtain ⟨de,fit⟩:=J'.de es[p] (List.mem_append.mpr (.inr (List.mem_singleton.mpr rfl)))
      generalize es[p]=e at *
      have J2:=J'.pop
      have r2:=r'.lst (ys:=(es.take p).map fun e=>V.ref e.o) hL J'.nR J'.np
      rw [List.map_append] at hL
      repeat walk_at "rdk"
      refine Zah J'.ob tJournal.k.cl tJournal.n_deeds rfl ?_
      refine ⟨ZbL (ZaE hL),?_⟩
      refine ZlW hL ?_
      have fr2:∀ b,Out Ar b->b ≠ L->(upd H' L (.lst ((es.take p).map fun e=>V.ref e.o))) b=H b:=fun b h1 h2=>by rw [Zai h2]; exact fr b h1 h2
      have de2:(upd H' L (.lst ((es.take p).map fun e=>V.ref e.o))) e.o=some (.ins (clsD cSave cMove cNote e.d) e.dx (fldD e.d)):=by rw [Zai (Zbe de hL (by intro z; cases z))]; exact de
      generalize upd H' L _=H2 at J2 r2 fr2 de2
      repeat walk_at "rdk"
      refine ZdI ?_
      repeat walk_at "rdk"
      refine ⟨e.o,clsD cSave cMove cNote e.d,e.dx,fldD e.d,_,rfl,de2,Zle e.d,tun_of K cAccount cSave cMove cNote e.d,?_⟩
      repeat walk_at "rdk"
      refine Zah J2.ob tJournal.k.cl tJournal.n_rooms rfl ?_
      repeat walk_at "rdk"
      refine ⟨e.o,e.dx,R,e.d,Ar,_,_,rfl,ZcX e.d,de2,r2,fit,jb3 hm,fun H3 k3 r3=>?_⟩
      have J3:=J2.out r2 k3
      obtain ⟨ri2,rd2⟩:=(Zb6 _ _ _).mp ri'
      have e1:Zfb (runS S0 ((es.take p).map (·.d) ++ [e].map (·.d))) e.d=runS S0 ((es.take p).map (·.d)):=by
        show Zfb (runS S0 ((es.take p).map (·.d) ++ [e.d])) e.d=_
        rw [Zgf]
        exact Zg2 rd2
      rw [e1] at r3
      repeat walk_at "rdk"
      refine ⟨p,Nat.lt_succ_self p,p,_,rfl,Nat.le_trans (Nat.min_le_left ..) (Nat.le_of_lt_succ hgt2),Nat.le_of_lt hp,fun b h1 h2=>by rw [k3 b h1]; exact fr2 b h1 h2,?_,ri2,J3,rfl⟩
      have em:m + (es.length - (p + 1)) + 1=m + (es.length - p):=jb5 hp
      rw [em] at r3
      exact r3
    . rename_i hgt
      rw [List.length_map,List.length_take,Nat.min_eq_left hq1] at hgt
      have hgt2:n <= mk.toNat:=by split at hgt <;> omega
      have et:es.take n=es.take mk.toNat:=by
        by_cases z:mk.toNat <= es.length
        . rw [show n=mk.toNat by omega]
        . rw [List.take_of_length_le (by omega),List.take_of_length_le (by omega)]
      rw [et] at r' ri' J'
      exact k H' fr (r'.le (by omega)) ri' J'
end
noncomputable def tellV:Dd->List V
  | .save s p o n=>[.str "save", .int s,.int p,.int o,.int n]
  | .move s t k=>[.str "move", .int s,.int t,.int k]
  | .note s n=>[.str "note", .int s,.int n]
noncomputable def tellDs:Dd->List Dt
  | .save s p o n=>[.str "save", .int s,.int p,.int o,.int n]
  | .move s t k=>[.str "move", .int s,.int t,.int k]
  | .note s n=>[.str "note", .int s,.int n]
noncomputable def tellD (d:Dd):Dt:=.tup (tellDs d)
theorem ZhX {K:PySem.W.Frag} {H:Hp} (d:Dd):DVs K H (tellDs d) (tellV d):=by
  cases d with
  | save=>exact ZaB ZdX (ZaB Zbp (ZaB Zbp (ZaB Zbp (ZaB Zbp ZbD))))
  | move=>exact ZaB ZdX (ZaB Zbp (ZaB Zbp (ZaB Zbp ZbD)))
  | note=>exact ZaB ZdX (ZaB Zbp (ZaB Zbp ZbD))
theorem ZhY {K:PySem.W.Frag} {H:Hp}:∀ (ds:List Dt) (xs:List V),ds.length=xs.length->(∀ (i:Nat) (d:Dt) (x:V),ds[i]?=some d->xs[i]?=some x->DV K H d x)->DVs K H ds xs
  | [],[],_,_=>ZbD
  | d :: ds,x :: xs,hl,h=>ZaB (h 0 d x rfl rfl) (ZhY ds xs (by simpa using hl) fun i d' x' h1 h2=>h (i + 1) d' x' (by simpa using h1) (by simpa using h2))
  | [],x :: xs,hl,_=>by simp at hl
  | d :: ds,[],hl,_=>by simp at hl
theorem ZjP {K:PySem.W.Frag} {H:Hp}:∀ {ds:List Dt} {xs:List V},DVs K H ds xs->ds.length=xs.length/\∀ (i:Nat) (d:Dt) (x:V),ds[i]?=some d->xs[i]?=some x->DV K H d x
  | [],xs,h=>by
    unfold DVs at h
    subst h
    exact ⟨rfl,fun i d x h=>by simp at h⟩
  | d :: ds,xs,h=>by
    unfold DVs at h
    obtain ⟨x,t,rfl,h1,h2⟩:=h
    obtain ⟨a,b⟩:=ZjP h2
    refine ⟨by simp [a],fun i d' x' e1 e2=>?_⟩
    cases i with
    | zero=>cases e1; cases e2; exact h1
    | succ i=>exact b i d' x' (by simpa using e1) (by simpa using e2)
theorem DVs.take {K:PySem.W.Frag} {H:Hp} {ds:List Dt} {xs:List V} (h:DVs K H ds xs) (n:Nat):DVs K H (ds.take n) (xs.take n):=by
  obtain ⟨a,b⟩:=ZjP h
  refine ZhY _ _ (by rw [List.length_take,List.length_take,a]) fun i d x h1 h2=>?_
  rw [List.getElem?_take] at h1 h2
  split at h1
  . rename_i hi
    rw [if_pos hi] at h2
    exact b i d x h1 h2
  . cases h1
theorem DVs.snoc {K:PySem.W.Frag} {H:Hp} {ds:List Dt} {xs:List V} {d:Dt} {x:V} (h:DVs K H ds xs) (h1:DV K H d x):DVs K H (ds ++ [d]) (xs ++ [x]):=by
  obtain ⟨a,b⟩:=ZjP h
  refine ZhY _ _ (by rw [List.length_append,List.length_append,a]; rfl) fun i d' x' e1 e2=>?_
  by_cases hi:i < ds.length
  . rw [List.getElem?_append_left hi] at e1
    rw [List.getElem?_append_left (by rw [<- a]; exact hi)] at e2
    exact b i d' x' e1 e2
  . rw [List.getElem?_append_right (by omega)] at e1
    rw [List.getElem?_append_right (by omega),<- a] at e2
    generalize i - ds.length=n at e1 e2
    cases n with
    | zero=>cases e1; cases e2; exact h1
    | succ n=>simp at e1
noncomputable def TupsAt (H:Hp) (ds:List Dd) (ts:List Addr):Prop:=ds.length=ts.length/\∀ (n:Nat) (d:Dd) (t:Addr),ds[n]?=some d->ts[n]?=some t->H t=some (.tup (tellV d))
theorem TupsAt.nil {H:Hp}:TupsAt H [] []:=⟨rfl,fun n d t h=>by simp at h⟩
theorem TupsAt.mono {H H':Hp} {ds:List Dd} {ts:List Addr} (h:TupsAt H ds ts) (k:∀ b xs,H b=some (.tup xs)->H' b=some (.tup xs)):TupsAt H' ds ts:=⟨h.1,fun n d t h1 h2=>k _ _ (h.2 n d t h1 h2)⟩
theorem TupsAt.snoc {H:Hp} {ds:List Dd} {ts:List Addr} {d:Dd} {t:Addr} (h:TupsAt H ds ts) (h1:H t=some (.tup (tellV d))):TupsAt H (ds ++ [d]) (ts ++ [t]):=by
  refine ⟨by rw [List.length_append,List.length_append,h.1]; rfl,fun n d' t' e1 e2=>?_⟩
  by_cases hi:n < ds.length
  . rw [List.getElem?_append_left hi] at e1
    rw [List.getElem?_append_left (by rw [<- h.1]; exact hi)] at e2
    exact h.2 n d' t' e1 e2
  . rw [List.getElem?_append_right (by omega)] at e1
    rw [List.getElem?_append_right (by have:=h.1; omega),<- h.1] at e2
    generalize n - ds.length=n at e1 e2
    cases n with
    | zero=>cases e1; cases e2; exact h1
    | succ n=>simp at e1
theorem TupsAt.take {H:Hp} {ds:List Dd} {ts:List Addr} (h:TupsAt H ds ts) (n:Nat):TupsAt H (ds.take n) (ts.take n):=by
  refine ⟨by rw [List.length_take,List.length_take,h.1],fun i d t e1 e2=>?_⟩
  rw [List.getElem?_take] at e1 e2
  split at e1
  . rename_i hi
    rw [if_pos hi] at e2
    exact h.2 i d t e1 e2
  . cases e1
theorem TupsAt.dv {K:PySem.W.Frag} {H:Hp} {ds:List Dd} {ts:List Addr} {q:Addr} (h:TupsAt H ds ts) (hq:H q=some (.lst (ts.map V.ref))):DV K H (.lst (ds.map tellD)) (.ref q):=by
  refine Zjs (ZaE hq) (ZhY _ _ (by rw [List.length_map,List.length_map,h.1]) fun i d x e1 e2=>?_)
  rw [List.getElem?_map] at e1 e2
  obtain ⟨d',h1,rfl⟩:=Option.map_eq_some_iff.mp e1
  obtain ⟨t,h2,rfl⟩:=Option.map_eq_some_iff.mp e2
  exact ZfY (Zbg (h.2 i d' t h1 h2)) (ZhX d')
noncomputable def spTold (CD:Addr) (ok:Dd->Prop):Sp:=fun vs H Q _=>∃ (a dx:Addr) (d:Dd),vs=[.ref a]/\ok d/\H a=some (.ins CD dx (fldD d))/\∀ t,H t=none->Q (.ref t) (upd H t (.tup (tellV d)))
noncomputable def TTo (cS cM cN:Addr):Addr->Sp->Prop:=T3 cS cM cN (spTold cS isSave) (spTold cM isMove) (spTold cN isNote)
theorem Zl0 (cS cM cN:Addr) (d:Dd):TTo cS cM cN (clsD cS cM cN d) (spTold (clsD cS cM cN d) (okOf d)):=by
  cases d with
  | save=>exact .inl ⟨rfl,rfl⟩
  | move=>exact .inr (.inl ⟨rfl,rfl⟩)
  | note=>exact .inr (.inr ⟨rfl,rfl⟩)
theorem ZhZ (d:Dd):(fldD d).lookup (Str.ofString "told")=none:=by cases d <;> rfl
noncomputable def ZmY (cJ cS cM cN:Addr):Sp:=fun vs H Q _=>∃ (j dx R L:Addr) (A:Nat->Option AcI) (es:List DI),vs=[.ref j]/\Jr cJ cS cM cN H j dx R L A es/\es.length <= 1000 /\
  ∀ q ts H',Same H H'->H q=none->H' q=some (.lst (ts.map V.ref))->TupsAt H' (es.map (·.d)) ts->Q (.ref q) H'
section
variable {P:Program} {w:World} {K:PySem.W.Frag} {mg:Str->Option Value} {base:Heap}
theorem Zgg:FnScope ["self"] ["self"] (Zab Zbu):=⟨rfl,rfl,rfl,by decide +kernel,rfl,by decide +kernel,by decide +kernel⟩
theorem Zgh   {cSave:Addr} (D:Zan K cSave "told" "Save.told" Zbu) (tSave:T_Save K mg cSave):MCal P w K mg base 1 cSave "told" (spTold cSave isSave):=by
  refine Za3 (N:=["self"]) (ps:=["self"]) D tSave.k.cl Zgg (fun vs H Q E h=>?_) (fun _ _ _ _ _ _ us hl=>bd1 (R:=fun us=>bindArgs _ ⟨us,[]⟩=pure (List.zip _ us)) (fun _=>rfl) us hl) (fun f cdv A outer s H vs Q E hr h=>?_)
  . obtain ⟨a,dx,d,rfl,_⟩:=h; rfl
  . obtain ⟨a,dx,d,rfl,⟨s0,p,o,n,rfl⟩,ha,k⟩:=h
    refine ⟨_,(Zad (Zam (ZaT (Zaa Zas (Zaa (Zal (pv 0) rfl) (Zaa (Zal (pv 0) rfl) (Zaa (Zal (pv 0) rfl) (Zaa (Zal (pv 0) rfl) Zaf)))))))),?_⟩
    walk_at "nx"
    repeat walk_at "rdk"
    refine Zah ha tSave.k.cl tSave.n_slot rfl ?_
    repeat walk_at "rdk"
    refine Zah ha tSave.k.cl tSave.n_place rfl ?_
    repeat walk_at "rdk"
    refine Zah ha tSave.k.cl tSave.n_old rfl ?_
    repeat walk_at "rdk"
    refine Zah ha tSave.k.cl tSave.n_new rfl ?_
    repeat walk_at "rdk"
    refine ⟨show 5 <= sizeLine by decide,fun t ht=>?_⟩
    exact k t ht
theorem Zgi:FnScope ["self"] ["self"] (Zab Zbw):=⟨rfl,rfl,rfl,by decide +kernel,rfl,by decide +kernel,by decide +kernel⟩
theorem Zgj   {cMove:Addr} (D:Zan K cMove "told" "Move.told" Zbw) (tMove:T_Move K mg cMove):MCal P w K mg base 1 cMove "told" (spTold cMove isMove):=by
  refine Za3 (N:=["self"]) (ps:=["self"]) D tMove.k.cl Zgi (fun vs H Q E h=>?_) (fun _ _ _ _ _ _ us hl=>bd1 (R:=fun us=>bindArgs _ ⟨us,[]⟩=pure (List.zip _ us)) (fun _=>rfl) us hl) (fun f cdv A outer s H vs Q E hr h=>?_)
  . obtain ⟨a,dx,d,rfl,_⟩:=h; rfl
  . obtain ⟨a,dx,d,rfl,⟨s0,t0,kk,rfl⟩,ha,k⟩:=h
    refine ⟨_,(Zad (Zam (ZaT (Zaa Zas (Zaa (Zal (pv 0) rfl) (Zaa (Zal (pv 0) rfl) (Zaa (Zal (pv 0) rfl) Zaf))))))),?_⟩
    walk_at "nx"
    repeat walk_at "rdk"
    refine Zah ha tMove.k.cl tMove.n_slot rfl ?_
    repeat walk_at "rdk"
    refine Zah ha tMove.k.cl tMove.n_taker rfl ?_
    repeat walk_at "rdk"
    refine Zah ha tMove.k.cl tMove.n_many rfl ?_
    repeat walk_at "rdk"
    refine ⟨show 4 <= sizeLine by decide,fun t ht=>?_⟩
    exact k t ht
theorem Zgk:FnScope ["self"] ["self"] (Zab Zbx):=⟨rfl,rfl,rfl,by decide +kernel,rfl,by decide +kernel,by decide +kernel⟩
theorem Zgl   {cNote:Addr} (D:Zan K cNote "told" "Note.told" Zbx) (tNote:T_Note K mg cNote):MCal P w K mg base 1 cNote "told" (spTold cNote isNote):=by
  refine Za3 (N:=["self"]) (ps:=["self"]) D tNote.k.cl Zgk (fun vs H Q E h=>?_) (fun _ _ _ _ _ _ us hl=>bd1 (R:=fun us=>bindArgs _ ⟨us,[]⟩=pure (List.zip _ us)) (fun _=>rfl) us hl) (fun f cdv A outer s H vs Q E hr h=>?_)
  . obtain ⟨a,dx,d,rfl,_⟩:=h; rfl
  . obtain ⟨a,dx,d,rfl,⟨s0,n,rfl⟩,ha,k⟩:=h
    refine ⟨_,(Zad (Zam (ZaT (Zaa Zas (Zaa (Zal (pv 0) rfl) (Zaa (Zal (pv 0) rfl) Zaf)))))),?_⟩
    walk_at "nx"
    repeat walk_at "rdk"
    refine Zah ha tNote.k.cl tNote.n_slot rfl ?_
    repeat walk_at "rdk"
    refine Zah ha tNote.k.cl tNote.n_number rfl ?_
    repeat walk_at "rdk"
    refine ⟨show 3 <= sizeLine by decide,fun t ht=>?_⟩
    exact k t ht
theorem Zd7:FnScope ["self"] ["self"] (Zab ZaW):=⟨rfl,rfl,rfl,by decide +kernel,rfl,by decide +kernel,by decide +kernel⟩
theorem Zd8   {cJournal:Addr} {cSave:Addr} {cMove:Addr} {cNote:Addr} (D:Zan K cJournal "told" "Journal.told" ZaW) (tJournal:T_Journal K mg cJournal) (tSave:T_Save K mg cSave) (tMove:T_Move K mg cMove) (tNote:T_Note K mg cNote) (m_Save_told:MCal P w K mg base 1 cSave "told" (spTold cSave isSave)) (m_Move_told:MCal P w K mg base 1 cMove "told" (spTold cMove isMove)) (m_Note_told:MCal P w K mg base 1 cNote "told" (spTold cNote isNote)):MCal P w K mg base 2 cJournal "told" (ZmY cJournal cSave cMove cNote):=by
  refine Za3 (N:=["self"]) (ps:=["self"]) D tJournal.k.cl Zd7 (fun vs H Q E h=>?_) (fun _ _ _ _ _ _ us hl=>bd1 (R:=fun us=>bindArgs _ ⟨us,[]⟩=pure (List.zip _ us)) (fun _=>rfl) us hl) (fun f cdv A outer s H vs Q E hr h=>?_)
  . obtain ⟨j,dx,R,L,A,es,rfl,_⟩:=h; rfl
  . obtain ⟨j,dx,R,L,Ar,es,rfl,J,hel,k⟩:=h
    refine ⟨_,(Zad (Zam (Zjc ["deed"] rfl (show CompScope (Zab ZaW) ["self"] ["deed"] _ from ⟨rfl,by decide +kernel,by decide +kernel,by decide +kernel,by decide +kernel,by decide +kernel⟩) (ZeI (Zal (pv 0) rfl)) (fun _ _ _ _ _=>(Zcc (i:=0) (show (["deed", "self"]:List Str).Nodup by decide +kernel) rfl (Or.inl rfl) (.inr rfl))) (fun _ _ _ _ _=>ZgH) (fun _ _ _ _ _=>(ZfX (T:=TTo cSave cMove cNote) (Zld m_Save_told m_Move_told m_Note_told) (hr.mono (by decide)) (pv 0)))))),?_⟩
    walk_at "nx"
    have big:(1001:Nat) <= sizeLine:=by decide
    repeat walk_at "rdk"
    refine ZgJ (ZdE ?_)
    repeat walk_at "rdk"
    refine Zah J.ob tJournal.k.cl tJournal.n_deeds rfl ?_
    refine ⟨L,rfl,⟨_,ZaE J.li⟩,fun q hq=>?_⟩
    refine Zf1 (fun i H'=>Same H H'/\∃ ts,H' q=some (.lst (ts.map V.ref))/\TupsAt H' ((es.take i).map (·.d)) ts) ⟨Same.new hq,[],Zag,TupsAt.nil⟩ (fun i H' ⟨s,_⟩=>ZaE (s _ _ J.li)) ?_ ?_
    . rintro i x H' hx ⟨s1,ts,hts,T⟩
      rw [List.getElem?_map] at hx
      obtain ⟨e,he,rfl⟩:=Option.map_eq_some_iff.mp hx
      obtain ⟨hi,ei⟩:=List.getElem?_eq_some_iff.mp he
      have de:=s1 _ _ (J.de e (List.mem_of_getElem? he)).1
      refine Zjv ?_
      refine iteT ?_
      refine ZdI ?_
      repeat walk_at "rdk"
      refine ⟨e.o,clsD cSave cMove cNote e.d,e.dx,fldD e.d,_,rfl,de,ZhZ e.d,Zl0 cSave cMove cNote e.d,?_⟩
      repeat walk_at "rdk"
      refine ⟨e.o,e.dx,e.d,rfl,ZcX e.d,de,fun t ht=>?_⟩
      have hl:ts.length <= 1000:=by
        rw [<- T.1,List.length_map,List.length_take]
        omega
      have hq2:=(Same.new ht (o:=.tup (tellV e.d))) _ _ hts
      refine ⟨_,hq2,by rw [List.length_map]; omega,⟨(s1.newT ht).wr hq,ts ++ [t],by rw [Zag,List.map_append]; rfl,?_⟩,_,rfl⟩
      have im:∀ b xs,H' b=some (.tup xs)->(upd (upd H' t (.tup (tellV e.d))) q (.lst (ts.map V.ref ++ [.ref t]))) b=some (.tup xs):=fun b xs h=>by
        rw [Zai (Zbe h hts (by intro z; cases z))]
        exact (Same.new ht) _ _ h
      have ht2:(upd (upd H' t (.tup (tellV e.d))) q (.lst (ts.map V.ref ++ [.ref t]))) t=some (.tup (tellV e.d)):=by
        rw [Zai (fun z=>by rw [z] at ht; rw [ht] at hts; cases hts)]; exact Zag
      rw [List.take_succ_eq_append_getElem hi,ei,List.map_append]
      exact (T.mono im).snoc ht2
    . rintro H' ⟨s1,ts,hts,T⟩
      rw [List.length_map,List.take_length] at T
      repeat walk_at "rdk"
      exact k q ts H' s1 hq hts T
end
structure FrS where
  kind:Str
  who:Int
  whose:Int
  caller:Int
  coin:Int
  word:Int
  given:Int
  depth:Int
  looking:Bool
  used:Int
  stack:List Int
  row:Int
  fin:Option Str
  answer:Int
structure FrI where
  a:Addr
  dx:Addr
  ST:Addr
  SS:Addr
noncomputable def endV:Option Str->V
  | none=>.non
  | some s=>.str s
noncomputable def fldF (f:FrI) (x:FrS):List (Str × V):=[("kind", .str x.kind),("who", .int x.who),("whose", .int x.whose),("caller", .int x.caller),("coin", .int x.coin),("word", .int x.word),("given", .int x.given),("depth", .int x.depth),("looking", .bl x.looking),("used", .int x.used),("stack", .ref f.ST),("row", .int x.row),("steps", .ref f.SS),("end", endV x.fin),("answer", .int x.answer)]
structure FrAt (cF:Addr) (H:Hp) (f:FrI) (x:FrS) (vs:List V):Prop where
  ob:H f.a=some (.ins cF f.dx (fldF f x))
  st:H f.ST=some (.lst (x.stack.map V.int))
  ss:H f.SS=some (.lst vs)
  ne:f.ST ≠ f.SS
section
variable {cF:Addr} {H H':Hp} {f:FrI} {x:FrS} {vs:List V}
theorem FrAt.aST (F:FrAt cF H f x vs):f.a ≠ f.ST:=Zbe F.ob F.st (by intro z; cases z)
theorem FrAt.aSS (F:FrAt cF H f x vs):f.a ≠ f.SS:=Zbe F.ob F.ss (by intro z; cases z)
theorem FrAt.setST (F:FrAt cF H f x vs) (s:List Int):FrAt cF (upd H f.ST (.lst (s.map V.int))) f { x with stack:=s } vs :=
  ⟨by rw [Zai F.aST]; exact F.ob,Zag,by rw [Zai (Ne.symm F.ne)]; exact F.ss,F.ne⟩
theorem FrAt.setSS (F:FrAt cF H f x vs) (ws:List V):FrAt cF (upd H f.SS (.lst ws)) f x ws :=
  ⟨by rw [Zai F.aSS]; exact F.ob,by rw [Zai F.ne]; exact F.st,Zag,F.ne⟩
theorem FrAt.setF (F:FrAt cF H f x vs) (y:FrS) (e:y.stack=x.stack):FrAt cF (upd H f.a (.ins cF f.dx (fldF f y))) f y vs :=
  ⟨Zag,by rw [Zai (Ne.symm F.aST),e]; exact F.st,by rw [Zai (Ne.symm F.aSS)]; exact F.ss,F.ne⟩
theorem FrAt.kept {X:Addr->Prop} (F:FrAt cF H f x vs) (k:KeptX X H H') (h1:¬ X f.a) (h2:¬ X f.ST) (h3:¬ X f.SS):FrAt cF H' f x vs :=
  ⟨k _ _ F.ob h1,k _ _ F.st h2,k _ _ F.ss h3,F.ne⟩
theorem FrAt.same (F:FrAt cF H f x vs) (s:Same H H'):FrAt cF H' f x vs:=⟨s _ _ F.ob,s _ _ F.st,s _ _ F.ss,F.ne⟩
theorem FrAt.put (F:FrAt cF H f x vs) {s:List Int} (k:KeptX (·=f.ST) H H') (e:H' f.ST=some (.lst (s.map V.int))):FrAt cF H' f { x with stack:=s } vs :=
  ⟨k _ _ F.ob F.aST,e,k _ _ F.ss (Ne.symm F.ne),F.ne⟩
end
noncomputable def frame0 (kind:Str) (who whose caller coin word given depth:Int) (looking:Bool):FrS:=⟨kind,who,whose,caller,coin,word,given,depth,looking,0,[],0,none,0⟩
noncomputable def Zd9 (cF:Addr):Sp:=fun vs H Q _=>∃ (a dx:Addr) (kind:Str) (who whose caller coin word given depth:Int) (looking:Bool),vs=[.ref a,.str kind,.int who,.int whose,.int caller,.int coin,.int word,.int given,.int depth,.bl looking]/\H a=some (.ins cF dx []) /\
  ∀ ST SS H',H ST=none->H SS=none->FrAt cF H' ⟨a,dx,ST,SS⟩ (frame0 kind who whose caller coin word given depth looking) []->KeptX (·=a) H H'->Q .non H'
noncomputable def spLeft (cF:Addr):Sp:=fun vs H Q _=>∃ (f:FrI) (x:FrS) (ws:List V),vs=[.ref f.a]/\FrAt cF H f x ws/\Q (.int (x.given - x.used)) H
noncomputable def ZjQ (K:PySem.W.Frag) (cF:Addr):Sp:=fun vs H Q _=>∃ (f:FrI) (x:FrS) (ws:List V) (p:Addr) (w:Str) (n:Option Int) (r t l pr d:Int),vs=[.ref f.a,.ref p]/\FrAt cF H f x ws/\Zbj K H p w n/\Zbq w n=some r/\RT.lookup w=some (t,l,pr,d)/\Q (.bl (decide ((x.stack.length:Int) < t + r))) H
noncomputable def spFull (K:PySem.W.Frag) (cF:Addr):Sp:=fun vs H Q _=>∃ (f:FrI) (x:FrS) (ws:List V) (p:Addr) (w:Str) (n:Option Int) (r t l pr d:Int),vs=[.ref f.a,.ref p]/\FrAt cF H f x ws/\Zbj K H p w n/\Zbq w n=some r/\RT.lookup w=some (t,l,pr,d)/\Q (.bl (decide (24 < (x.stack.length:Int) - (t + r) + (l + r)))) H
noncomputable def ZbP (cF:Addr):Sp:=fun vs H Q _=>∃ (f:FrI) (x:FrS) (ws:List V) (s t:List Int),vs=[.ref f.a,.int (t.length:Nat)]/\FrAt cF H f x ws/\x.stack=s ++ t/\t.length <= 1000 /\
  ∀ p H',H p=none->KeptX (·=f.ST) H H'->FrAt cF H' f { x with stack:=s } ws->H' p=some (.lst (t.map V.int))->Q (.ref p) H'
noncomputable def spLay (cF:Addr):Sp:=fun vs H Q _=>∃ (f:FrI) (x:FrS) (ws:List V) (k:Int),vs=[.ref f.a,.int k]/\FrAt cF H f x ws/\x.stack.length <= 1000/\∀ H',KeptX (·=f.ST) H H'->FrAt cF H' f { x with stack:=x.stack ++ [k] } ws->Q .non H'
noncomputable def Zcw (cF:Addr):Sp:=fun vs H Q _=>∃ (f:FrI) (x:FrS) (ws:List V) (e:Str) (k:Int),vs=[.ref f.a,.str e,.int k]/\FrAt cF H f x ws/\∀ H',KeptX (·=f.a) H H'->FrAt cF H' f { x with fin:=some e,answer:=k } ws->Q .non H'
noncomputable def treeV (x:FrS) (L:Addr):List V:=[.str x.kind,.int x.who,.int x.whose,.int x.caller,.int x.coin,.int x.word,.int x.given,endV x.fin,.int x.answer,.int x.used,.ref L]
noncomputable def spTree (cF:Addr):Sp:=fun vs H Q _=>∃ (f:FrI) (x:FrS) (ws:List V),vs=[.ref f.a]/\FrAt cF H f x ws/\∀ p L H',Same H H'->H p=none->H L=none->H' L=some (.lst ws)->H' p=some (.tup (treeV x L))->Q (.ref p) H'
section
variable {P:Program} {w:World} {K:PySem.W.Frag} {mg:Str->Option Value} {base:Heap}
theorem Zfd:FnScope ["self"] ["self"] (Zab Zbh):=⟨rfl,rfl,rfl,by decide +kernel,rfl,by decide +kernel,by decide +kernel⟩
theorem Zfe   {cFrame:Addr} (D:Zan K cFrame "left" "Frame.left" Zbh) (tFrame:T_Frame K mg cFrame):MCal P w K mg base 1 cFrame "left" (spLeft cFrame):=by
  refine Za3 (N:=["self"]) (ps:=["self"]) D tFrame.k.cl Zfd (fun vs H Q E h=>?_) (fun _ _ _ _ _ _ us hl=>bd1 (R:=fun us=>bindArgs _ ⟨us,[]⟩=pure (List.zip _ us)) (fun _=>rfl) us hl) (fun f cdv A outer s H vs Q E hr h=>?_)
  . obtain ⟨f,x,ws,rfl,_⟩:=h; rfl
  . obtain ⟨fr,x,ws,rfl,F,k⟩:=h
    refine ⟨_,(Zad (Zam (ZaN ZdL (Zal (pv 0) rfl) (Zal (pv 0) rfl)))),?_⟩
    walk_at "nx"
    repeat walk_at "rdk"
    refine Zah F.ob tFrame.k.cl tFrame.n_given rfl ?_
    repeat walk_at "rdk"
    refine Zah F.ob tFrame.k.cl tFrame.n_used rfl ?_
    repeat walk_at "rdk"
    exact k
theorem ZcY:FnScope ["self", "row"] ["self", "row"] (Zab ZaQ):=⟨rfl,rfl,rfl,by decide +kernel,rfl,by decide +kernel,by decide +kernel⟩
theorem ZcZ   {cFrame:Addr} (D:Zan K cFrame "short_for" "Frame.short_for" ZaQ) (tFrame:T_Frame K mg cFrame) (c_takes:Cal P w K mg base 2 "takes" (Ze7 K)) (n_len:mg "len" = none):MCal P w K mg base 3 cFrame "short_for" (ZjQ K cFrame):=by
  refine Za3 (N:=["self", "row"]) (ps:=["self", "row"]) D tFrame.k.cl ZcY (fun vs H Q E h=>?_) (fun _ _ _ _ _ _ us hl=>bd2 (R:=fun us=>bindArgs _ ⟨us,[]⟩=pure (List.zip _ us)) (fun _ _=>rfl) us hl) (fun f cdv A outer s H vs Q E hr h=>?_)
  . obtain ⟨f,x,ws,p,w,n,r,t,l,pr,d,rfl,_⟩:=h; rfl
  . obtain ⟨fr,x,ws,p,wd,n,r,t,l,pr,d,rfl,F,hp,e1,e2,k⟩:=h
    refine ⟨_,(Zad (Zam (ZbG ZiW (ZaR Zb9 rfl n_len PySem.boot_len (Zaa (Zal (pv 0) rfl) Zaf)) (ZaG c_takes (hr.mono (by decide)) rfl (Zaa (pv 1) Zaf)) (nomark _)))),?_⟩
    walk_at "nx"
    have hST:=F.st
    repeat walk_at "rdk"
    refine Zah F.ob tFrame.k.cl tFrame.n_stack rfl ?_
    repeat walk_at "rdk"
    refine ⟨p,wd,n,r,t,l,pr,d,rfl,hp,e1,e2,?_⟩
    repeat walk_at "rdk"
    rw [List.length_map]
    exact k
theorem Zcz:FnScope ["self", "row"] ["self", "row"] (Zab ZaK):=⟨rfl,rfl,rfl,by decide +kernel,rfl,by decide +kernel,by decide +kernel⟩
theorem ZcA   {cFrame:Addr} (D:Zan K cFrame "full_behind" "Frame.full_behind" ZaK) (tFrame:T_Frame K mg cFrame) (c_leaves:Cal P w K mg base 2 "leaves" (ZhT K)) (c_takes:Cal P w K mg base 2 "takes" (Ze7 K)) (n_len:mg "len" = none) (g_MOST_ON_STACK:ZaV mg "MOST_ON_STACK" (.int 24)):MCal P w K mg base 3 cFrame "full_behind" (spFull K cFrame):=by
  refine Za3 (N:=["self", "row"]) (ps:=["self", "row"]) D tFrame.k.cl Zcz (fun vs H Q E h=>?_) (fun _ _ _ _ _ _ us hl=>bd2 (R:=fun us=>bindArgs _ ⟨us,[]⟩=pure (List.zip _ us)) (fun _ _=>rfl) us hl) (fun f cdv A outer s H vs Q E hr h=>?_)
  . obtain ⟨f,x,ws,p,w,n,r,t,l,pr,d,rfl,_⟩:=h; rfl
  . obtain ⟨fr,x,ws,p,wd,n,r,t,l,pr,d,rfl,F,hp,e1,e2,k⟩:=h
    refine ⟨_,(Zad (Zam (ZbG ZdM (ZaN ZbA (ZaN ZdL (ZaR Zb9 rfl n_len PySem.boot_len (Zaa (Zal (pv 0) rfl) Zaf)) (ZaG c_takes (hr.mono (by decide)) rfl (Zaa (pv 1) Zaf))) (ZaG c_leaves (hr.mono (by decide)) rfl (Zaa (pv 1) Zaf))) (ZbK rfl g_MOST_ON_STACK) (nomark _)))),?_⟩
    walk_at "nx"
    have hST:=F.st
    repeat walk_at "rdk"
    refine Zah F.ob tFrame.k.cl tFrame.n_stack rfl ?_
    repeat walk_at "rdk"
    refine ⟨p,wd,n,r,t,l,pr,d,rfl,hp,e1,e2,?_⟩
    repeat walk_at "rdk"
    refine ⟨p,wd,n,r,t,l,pr,d,rfl,hp,e1,e2,?_⟩
    repeat walk_at "rdk"
    rw [List.length_map]
    exact k
theorem ZbV:FnScope ["self", "many", "numbers", "turn"] ["self", "many"] (Zab Zbd):=⟨rfl,rfl,rfl,by decide +kernel,rfl,by decide +kernel,by decide +kernel⟩
theorem Zet   {cFrame:Addr} (D:Zan K cFrame "taken" "Frame.taken" Zbd) (tFrame:T_Frame K mg cFrame) (n_range:mg "range" = none) (n_list:mg "list" = none) (n_reversed:mg "reversed" = none):MCal P w K mg base 1 cFrame "taken" (ZbP cFrame):=by
  refine Za3 (N:=["self", "many", "numbers", "turn"]) (ps:=["self", "many"]) D tFrame.k.cl ZbV (fun vs H Q E h=>?_) (fun _ _ _ _ _ _ us hl=>bd2 (R:=fun us=>bindArgs _ ⟨us,[]⟩=pure (List.zip _ us)) (fun _ _=>rfl) us hl) (fun f cdv A outer s H vs Q E hr h=>?_)
  . obtain ⟨f,x,ws,s,t,rfl,_⟩:=h; rfl
  . obtain ⟨fr,x,ws,s1,t,rfl,F,hx,ht,k⟩:=h
    refine ⟨_,(Zac (ZaI (i:=2) ZbV.nd rfl (by first|exact Or.inl rfl|exact Or.inr rfl) (ZbT Zaf))
      (Zac (ZhG PassesOwn.never rfl (ZdK rfl n_range (Zaa (pv 1) Zaf)) (Zcc (i:=3) ZbV.nd rfl (by first|exact Or.inl rfl|exact Or.inr rfl))
      (Zad (Zav (ZeM PySem.F.plainAttrs_list PySem.F.slot_list_append PySem.F.type_list_append Zbr (pv 2) (Zaa (ZlR PySem.F.plainAttrs_list PySem.F.slot_list_pop PySem.F.type_list_pop ZlS (Zal (pv 0) rfl)) Zaf)))))
      (Zad (Zam (Zir rfl rfl n_list rfl n_reversed (Zaa (pv 2) Zaf)))))),?_⟩
    walk_at "nx"
    repeat walk_at "rdk"
    refine ⟨by decide,fun nl hnl=>?_⟩
    repeat walk_at "rdk"
    refine ZhO (ZeR ?_)
    repeat walk_at "rdk"
    refine ⟨_,rfl,by omega,by omega,?_⟩
    rw [Int.toNat_natCast]
    refine ZfA (fun i σ' H'=>KeptX (·=fr.ST) H H'/\H' nl=some (.lst (((t.drop (t.length - i)).reverse).map V.int))/\H' fr.ST=some (.lst ((s1 ++ t.take (t.length - i)).map V.int))/\∃ v,σ'=[some (.ref fr.a),some (.int (t.length:Nat)),some (.ref nl),v]) ⟨KeptX.new hnl,?_,?_,_,rfl⟩ ?_ ?_
    . rw [Nat.sub_zero,List.drop_length]; exact Zag
    . rw [Nat.sub_zero,List.take_length,Zai (Zaj F.st hnl),<- hx]; exact F.st
    . rintro i σ' H' hi ⟨k1,h1,h2,v,rfl⟩
      obtain ⟨j,hj⟩:∃ j,t.length - i=j + 1:=⟨t.length - i - 1,by omega⟩
      have hjl:j < t.length:=by omega
      have e1:t.take (t.length - i)=t.take j ++ [t[j]]:=by rw [hj]; exact List.take_succ_eq_append_getElem hjl
      have e2:t.drop j=t[j] :: t.drop (t.length - i):=by rw [hj]; exact List.drop_eq_getElem_cons hjl
      have e3:t.length - (i + 1)=j:=by omega
      rw [e3,e2]
      rw [e1,<- List.append_assoc,List.map_append] at h2
      have hob:H' fr.a=some (.ins cFrame fr.dx (fldF fr x)):=k1 _ _ F.ob F.aST
      generalize t[j]=z at *
      have nln:nl ≠ fr.ST:=Ne.symm (Zaj F.st hnl)
      repeat walk_at "rdk"
      refine ⟨ZbL (ZaE h1),?_⟩
      repeat walk_at "rdk"
      refine Zah hob tFrame.k.cl tFrame.n_stack rfl ?_
      refine ⟨ZbL (ZaE h2),?_⟩
      refine ZlW h2 ?_
      repeat walk_at "rdk"
      refine ZbC (xs:=((t.drop (t.length - i)).reverse).map V.int) (by rw [Zai nln]; exact h1) (by rw [List.length_map,List.length_reverse,List.length_drop]; exact Nat.lt_of_le_of_lt (show _ <= 1000 by omega) (by decide)) ?_
      repeat walk_at "rdk"
      refine ⟨fun b o e n=>by rw [Zai (Zaj e hnl),Zai n]; exact k1 b o e n,?_,?_,_,rfl⟩
      . rw [Zag,List.reverse_cons,List.map_append]; rfl
      . rw [Zai (Ne.symm nln),Zag]
    . rintro σ' H' ⟨k1,h1,h2,v,rfl⟩
      rw [Nat.sub_self,List.drop_zero] at h1
      rw [Nat.sub_self,List.take_zero,List.append_nil] at h2
      have F1:=F.put k1 h2
      repeat walk_at "rdk"
      refine Ziq ?_
      repeat walk_at "rdk"
      refine ⟨nl,_,rfl,ZaE h1,fun l hl=>?_⟩
      rw [<- List.map_reverse,List.reverse_reverse]
      have hlH:H l=none:=by
        cases e:H l with
        | none=>rfl
        | some o =>
          by_cases q:l=fr.ST
          . rw [q,h2] at hl; cases hl
          . rw [k1 l o e q] at hl; cases hl
      exact k l _ hlH (k1.trans (KeptX.new hl)) (F1.same (Same.new hl)) Zag
theorem Zgm:FnScope ["self", "number"] ["self", "number"] (Zab Zby):=⟨rfl,rfl,rfl,by decide +kernel,rfl,by decide +kernel,by decide +kernel⟩
theorem Zgn   {cFrame:Addr} (D:Zan K cFrame "lay" "Frame.lay" Zby) (tFrame:T_Frame K mg cFrame):MCal P w K mg base 1 cFrame "lay" (spLay cFrame):=by
  refine Za3 (N:=["self", "number"]) (ps:=["self", "number"]) D tFrame.k.cl Zgm (fun vs H Q E h=>?_) (fun _ _ _ _ _ _ us hl=>bd2 (R:=fun us=>bindArgs _ ⟨us,[]⟩=pure (List.zip _ us)) (fun _ _=>rfl) us hl) (fun f cdv A outer s H vs Q E hr h=>?_)
  . obtain ⟨f,x,ws,k,rfl,_⟩:=h; rfl
  . obtain ⟨fr,x,ws,n,rfl,F,hl,k⟩:=h
    refine ⟨_,(Zad (Zav (ZeM PySem.F.plainAttrs_list PySem.F.slot_list_append PySem.F.type_list_append Zbr (Zal (pv 0) rfl) (Zaa (pv 1) Zaf)))),?_⟩
    walk_at "nx"
    repeat walk_at "rdk"
    refine Zah F.ob tFrame.k.cl tFrame.n_stack rfl ?_
    refine ⟨ZbL (ZaE F.st),?_⟩
    repeat walk_at "rdk"
    refine ZbC F.st (by rw [List.length_map]; exact Nat.lt_of_le_of_lt hl (by decide)) ?_
    repeat walk_at "rdk"
    have:=F.setST (x.stack ++ [n])
    rw [List.map_append] at this
    exact k _ (KeptX.upd rfl) this
theorem Zea:FnScope ["self", "end", "answer"] ["self", "end", "answer"] (Zab Za5):=⟨rfl,rfl,rfl,by decide +kernel,rfl,by decide +kernel,by decide +kernel⟩
theorem Zeb   {cFrame:Addr} (D:Zan K cFrame "finish" "Frame.finish" Za5) (tFrame:T_Frame K mg cFrame):MCal P w K mg base 1 cFrame "finish" (Zcw cFrame):=by
  refine Za3 (N:=["self", "end", "answer"]) (ps:=["self", "end", "answer"]) D tFrame.k.cl Zea (fun vs H Q E h=>?_) (fun _ _ _ _ _ _ us hl=>bd3 (R:=fun us=>bindArgs _ ⟨us,[]⟩=pure (List.zip _ us)) (fun _ _ _=>rfl) us hl) (fun f cdv A outer s H vs Q E hr h=>?_)
  . obtain ⟨f,x,ws,e,k,rfl,_⟩:=h; rfl
  . obtain ⟨fr,x,ws,e,n,rfl,F,k⟩:=h
    refine ⟨_,(Zac (ZaO (pv 0) (pv 1) rfl)
      (Zad (ZaO (pv 0) (pv 2) rfl))),?_⟩
    walk_at "nx"
    repeat walk_at "rdk"
    refine Zau F.ob tFrame.k.cl tFrame.n_end (by show 15 < 1000; decide) ?_
    repeat walk_at "rdk"
    refine Zau Zag tFrame.k.cl tFrame.n_answer (by show 15 < 1000; decide) ?_
    rw [ZaS]
    exact k _ (KeptX.upd rfl) (F.setF { x with fin:=some e,answer:=n } rfl)
theorem Zff:FnScope ["self"] ["self"] (Zab Zbi):=⟨rfl,rfl,rfl,by decide +kernel,rfl,by decide +kernel,by decide +kernel⟩
theorem Zfg   {cFrame:Addr} (D:Zan K cFrame "tree" "Frame.tree" Zbi) (tFrame:T_Frame K mg cFrame) (n_list:mg "list" = none):MCal P w K mg base 1 cFrame "tree" (spTree cFrame):=by
  refine Za3 (N:=["self"]) (ps:=["self"]) D tFrame.k.cl Zff (fun vs H Q E h=>?_) (fun _ _ _ _ _ _ us hl=>bd1 (R:=fun us=>bindArgs _ ⟨us,[]⟩=pure (List.zip _ us)) (fun _=>rfl) us hl) (fun f cdv A outer s H vs Q E hr h=>?_)
  . obtain ⟨f,x,ws,rfl,_⟩:=h; rfl
  . obtain ⟨fr,x,ws,rfl,F,k⟩:=h
    refine ⟨_,(Zad (Zam (ZaT (Zaa (Zal (pv 0) rfl) (Zaa (Zal (pv 0) rfl) (Zaa (Zal (pv 0) rfl) (Zaa (Zal (pv 0) rfl) (Zaa (Zal (pv 0) rfl) (Zaa (Zal (pv 0) rfl) (Zaa (Zal (pv 0) rfl) (Zaa (Zal (pv 0) rfl) (Zaa (Zal (pv 0) rfl) (Zaa (Zal (pv 0) rfl) (Zaa (Zce Zjq rfl n_list PyProof.Rows.boot_list (Zaa (Zal (pv 0) rfl) Zaf)) Zaf)))))))))))))),?_⟩
    walk_at "nx"
    repeat walk_at "rdk"
    refine Zah F.ob tFrame.k.cl tFrame.n_kind rfl ?_
    repeat walk_at "rdk"
    refine Zah F.ob tFrame.k.cl tFrame.n_who rfl ?_
    repeat walk_at "rdk"
    refine Zah F.ob tFrame.k.cl tFrame.n_whose rfl ?_
    repeat walk_at "rdk"
    refine Zah F.ob tFrame.k.cl tFrame.n_caller rfl ?_
    repeat walk_at "rdk"
    refine Zah F.ob tFrame.k.cl tFrame.n_coin rfl ?_
    repeat walk_at "rdk"
    refine Zah F.ob tFrame.k.cl tFrame.n_word rfl ?_
    repeat walk_at "rdk"
    refine Zah F.ob tFrame.k.cl tFrame.n_given rfl ?_
    repeat walk_at "rdk"
    refine Zah F.ob tFrame.k.cl tFrame.n_end rfl ?_
    repeat walk_at "rdk"
    refine Zah F.ob tFrame.k.cl tFrame.n_answer rfl ?_
    repeat walk_at "rdk"
    refine Zah F.ob tFrame.k.cl tFrame.n_used rfl ?_
    repeat walk_at "rdk"
    refine Zah F.ob tFrame.k.cl tFrame.n_steps rfl ?_
    repeat walk_at "rd"
    refine ZeS (ZaE F.ss) fun L hL=>?_
    repeat walk_at "rdk"
    refine ⟨by show 11 <= sizeLine; decide,fun p hp=>?_⟩
    have s1:Same H (upd H L (.lst ws)):=Same.new hL
    exact k p L _ (s1.newT hp) (s1.fresh hp) hL (by rw [Zai (Zaj Zag hp),Zag]) Zag
end
noncomputable abbrev RD:=FrS->Str->Option Int->FrS->Prop
noncomputable def rPush:RD:=fun x _ n x'=>∃ k,n=some k/\x'={ x with stack:=x.stack ++ [k] }
noncomputable def rDrop:RD:=fun x _ _ x'=>∃ s k,x.stack=s ++ [k]/\x'={ x with stack:=s }
noncomputable def rCopy:RD:=fun x _ n x'=>∃ (k:Nat) (v:Int),n=some (k:Int)/\k < x.stack.length/\x.stack[x.stack.length - 1 - k]?=some v/\x'={ x with stack:=x.stack ++ [v] }
noncomputable def rSwap:RD:=fun x _ n x'=>∃ (s m:List Int) (a b:Int),n=some ((m.length + 1:Nat):Int)/\x.stack=s ++ a :: (m ++ [b])/\x'={ x with stack:=s ++ b :: (m ++ [a]) }
noncomputable def rReck:RD:=fun x w _ x'=>∃ (f:Int->Int->Int) (s:List Int) (a b:Int),RK.lookup w=some f/\x.stack=s ++ [a,b]/\Zbb a b/\x'={ x with stack:=s ++ [f a b] }
noncomputable def rMe:RD:=fun x _ _ x'=>x'={ x with stack:=x.stack ++ [x.who] }
noncomputable def rFrom:RD:=fun x _ _ x'=>x'={ x with stack:=x.stack ++ [x.caller] }
noncomputable def rSent:RD:=fun x _ _ x'=>x'={ x with stack:=x.stack ++ [x.coin] }
noncomputable def rWord:RD:=fun x _ _ x'=>x'={ x with stack:=x.stack ++ [x.word] }
noncomputable def rJump:RD:=fun x _ n x'=>∃ k,n=some k/\x'={ x with row:=k }
noncomputable def Zfh:RD:=fun x _ n x'=>∃ (k:Int) (s:List Int) (t:Int),n=some k/\x.stack=s ++ [t]/\x'={ x with stack:=s,row:=if t=0 then x.row else k }
noncomputable def rGive:RD:=fun x _ _ x'=>∃ (s:List Int) (t:Int),x.stack=s ++ [t]/\x'={ x with stack:=s,fin:=some ("well" : Str),answer:=t }
noncomputable def rFail:RD:=fun x _ _ x'=>∃ (s:List Int) (t:Int),x.stack=s ++ [t]/\x'={ x with stack:=s,fin:=some ("fail" : Str),answer:=t }
noncomputable def inF (f:FrI) (b:Addr):Prop:=b=f.a\/b=f.ST
noncomputable def spD (K:PySem.W.Frag) (cF:Addr) (R:RD):Sp:=fun vs H Q _=>∃ (vR vJ:V) (f:FrI) (x x':FrS) (ws:List V) (p:Addr) (w:Str) (n:Option Int),vs=[vR,vJ,.ref f.a,.ref p]/\FrAt cF H f x ws/\Zbj K H p w n/\R x w n x'/\x.stack.length <= 900 /\
  ∀ H',KeptX (inF f) H H'->FrAt cF H' f x' ws->Q .non H'
theorem k_st {f:FrI} {H H':Hp} (k:KeptX (·=f.ST) H H'):KeptX (inF f) H H':=k.mono fun _ h=>.inr h
theorem k_a {f:FrI} {H H':Hp} (k:KeptX (·=f.a) H H'):KeptX (inF f) H H':=k.mono fun _ h=>.inl h
theorem Zb7 {K:PySem.W.Frag} {f:FrI} {cF:Addr} {H H':Hp} {x:FrS} {ws:List V} {p:Addr} {w:Str} {n:Option Int} (h:Zbj K H p w n) (F:FrAt cF H f x ws) (k:KeptX (inF f) H H'):Zbj K H' p w n:=by
  unfold Zbj at h |-
  refine SameI.tup (k.imm fun b o z e i=>?_) h
  rcases z with rfl|rfl
  . rw [F.ob] at e; cases e; exact Zct i
  . rw [F.st] at e; cases e; exact ZbB i
theorem sw1 (s m:List Int) (a b c:Int):(List.map V.int (s ++ a :: (m ++ [b]))).set s.length (.int c)=List.map V.int (s ++ c :: (m ++ [b])):=by
  rw [List.map_append,List.set_append_right _ _ (by rw [List.length_map]; exact Nat.le_refl _),List.length_map,Nat.sub_self,List.map_append]; rfl
theorem sw2 (s m:List Int) (a b c:Int):(List.map V.int (s ++ a :: (m ++ [b]))).set (s.length + 1 + m.length) (.int c)=List.map V.int (s ++ a :: (m ++ [c])):=by
  rw [List.map_append,List.set_append_right _ _ (by rw [List.length_map]; omega),List.length_map,List.map_append,List.map_cons,List.map_cons]
  rw [show s.length + 1 + m.length - s.length=m.length + 1 by omega,List.set_cons_succ,List.map_append,List.set_append_right _ _ (by rw [List.length_map]; omega),List.length_map,Nat.sub_self,List.map_append]; rfl
theorem Zfi {xs:List Int} {k:Nat} {v:Int} (hk:k < xs.length) (e:xs[xs.length - 1 - k]?=some v):atI (xs.map V.int) (-1 - (k:Int))=some (.int v):=by
  unfold atI
  rw [List.length_map,Zjr (j:=xs.length - 1 - k) (by omega) (by omega)]
  show (xs.map V.int)[xs.length - 1 - k]?=_
  rw [List.getElem?_map,e]; rfl
section
variable {P:Program} {w:World} {K:PySem.W.Frag} {mg:Str->Option Value} {base:Heap}
theorem Zg3:FnScope ["rooms", "journal", "frame", "row"] ["rooms", "journal", "frame", "row"] (Zab Zc8):=⟨rfl,rfl,rfl,by decide +kernel,rfl,by decide +kernel,by decide +kernel⟩
theorem Zg4   {cFrame:Addr} (D:Zao K mg "push_row" Zc8) (tFrame:T_Frame K mg cFrame) (m_Frame_lay:MCal P w K mg base 1 cFrame "lay" (spLay cFrame)):Cal P w K mg base 2 "push_row" (spD K cFrame rPush):=by
  refine Zaz (N:=["rooms", "journal", "frame", "row"]) (ps:=["rooms", "journal", "frame", "row"]) D Zg3 (fun vs H Q E h=>?_) (fun _ _ _ _ _ _ us hl=>bd4 (R:=fun us=>bindArgs _ ⟨us,[]⟩=pure (List.zip _ us)) (fun _ _ _ _=>rfl) us hl) (fun f cdv A outer s H vs Q E hr h=>?_)
  . obtain ⟨vR,vJ,f,x,x',ws,p,w,n,rfl,_⟩:=h; rfl
  . obtain ⟨vR,vJ,fr,x,x',ws,p,wd,n,rfl,F,hp,hR,hl,k⟩:=h
    obtain ⟨n0,rfl,rfl⟩:=hR
    refine ⟨_,(Zad (Zav (ZaH m_Frame_lay (hr.mono (by decide)) (pv 2) (Zaa (Zay ZaF (pv 3) Zae (fun _ _=>rfl)) Zaf)))),?_⟩
    walk_at "nx"
    have hp':SqT K H p [.str wd,.int n0]:=hp
    repeat walk_at "rdk"
    refine Zap F.ob rfl ?_
    repeat walk_at "rdk"
    refine ⟨fr,_,ws,_,rfl,F,by show _ <= 1000; omega,fun H1 k1 F1=>?_⟩
    repeat walk_at "rdk"
    exact k _ (k_st k1) F1
theorem Zg5:FnScope ["rooms", "journal", "frame", "row"] ["rooms", "journal", "frame", "row"] (Zab Zc9):=⟨rfl,rfl,rfl,by decide +kernel,rfl,by decide +kernel,by decide +kernel⟩
theorem Zg6   {cFrame:Addr} (D:Zao K mg "drop_row" Zc9) (tFrame:T_Frame K mg cFrame) (m_Frame_taken:MCal P w K mg base 1 cFrame "taken" (ZbP cFrame)):Cal P w K mg base 2 "drop_row" (spD K cFrame rDrop):=by
  refine Zaz (N:=["rooms", "journal", "frame", "row"]) (ps:=["rooms", "journal", "frame", "row"]) D Zg5 (fun vs H Q E h=>?_) (fun _ _ _ _ _ _ us hl=>bd4 (R:=fun us=>bindArgs _ ⟨us,[]⟩=pure (List.zip _ us)) (fun _ _ _ _=>rfl) us hl) (fun f cdv A outer s H vs Q E hr h=>?_)
  . obtain ⟨vR,vJ,f,x,x',ws,p,w,n,rfl,_⟩:=h; rfl
  . obtain ⟨vR,vJ,fr,x,x',ws,p,wd,n,rfl,F,hp,hR,hl,k⟩:=h
    obtain ⟨s0,n0,e0,rfl⟩:=hR
    refine ⟨_,(Zad (Zav (ZaH m_Frame_taken (hr.mono (by decide)) (pv 2) (Zaa Zae Zaf)))),?_⟩
    walk_at "nx"
    repeat walk_at "rdk"
    refine Zap F.ob rfl ?_
    repeat walk_at "rdk"
    refine ⟨fr,x,ws,s0,[n0],rfl,F,e0,by show 1 <= 1000; decide,fun q H1 _ k1 F1 _=>?_⟩
    repeat walk_at "rdk"
    exact k _ (k_st k1) F1
theorem Zg7:FnScope ["rooms", "journal", "frame", "row"] ["rooms", "journal", "frame", "row"] (Zab Zda):=⟨rfl,rfl,rfl,by decide +kernel,rfl,by decide +kernel,by decide +kernel⟩
theorem Zg8   {cFrame:Addr} (D:Zao K mg "copy_row" Zda) (tFrame:T_Frame K mg cFrame) (m_Frame_lay:MCal P w K mg base 1 cFrame "lay" (spLay cFrame)):Cal P w K mg base 2 "copy_row" (spD K cFrame rCopy):=by
  refine Zaz (N:=["rooms", "journal", "frame", "row"]) (ps:=["rooms", "journal", "frame", "row"]) D Zg7 (fun vs H Q E h=>?_) (fun _ _ _ _ _ _ us hl=>bd4 (R:=fun us=>bindArgs _ ⟨us,[]⟩=pure (List.zip _ us)) (fun _ _ _ _=>rfl) us hl) (fun f cdv A outer s H vs Q E hr h=>?_)
  . obtain ⟨vR,vJ,f,x,x',ws,p,w,n,rfl,_⟩:=h; rfl
  . obtain ⟨vR,vJ,fr,x,x',ws,p,wd,n,rfl,F,hp,hR,hl,k⟩:=h
    obtain ⟨n0,v0,rfl,hk,e0,rfl⟩:=hR
    refine ⟨_,(Zad (Zav (ZaH m_Frame_lay (hr.mono (by decide)) (pv 2) (Zaa (Zay ZaA (Zal (pv 2) rfl) (ZaN ZdL (Zc4 ZbW Zae) (Zay ZaF (pv 3) Zae (fun _ _=>rfl))) (fun _ _=>rfl)) Zaf)))),?_⟩
    walk_at "nx"
    have hp':SqT K H p [.str wd,.int n0]:=hp
    repeat walk_at "rdk"
    refine Zap F.ob rfl ?_
    repeat walk_at "rdk"
    refine Zah F.ob tFrame.k.cl tFrame.n_stack rfl ?_
    repeat walk_at "rdk"
    refine Za8 (ZaE F.st) (Zfi hk e0) ?_
    repeat walk_at "rdk"
    refine ⟨fr,_,ws,_,rfl,F,by show _ <= 1000; omega,fun H1 k1 F1=>?_⟩
    repeat walk_at "rdk"
    exact k _ (k_st k1) F1
theorem Zb8:FnScope ["rooms", "journal", "frame", "row", "stack", "under", "deeper"] ["rooms", "journal", "frame", "row"] (Zab Zdb):=⟨rfl,rfl,rfl,by decide +kernel,rfl,by decide +kernel,by decide +kernel⟩
theorem Zg9   {cFrame:Addr} (D:Zao K mg "swap_row" Zdb) (tFrame:T_Frame K mg cFrame) (n_len:mg "len" = none):Cal P w K mg base 1 "swap_row" (spD K cFrame rSwap):=by
  refine Zaz (N:=["rooms", "journal", "frame", "row", "stack", "under", "deeper"]) (ps:=["rooms", "journal", "frame", "row"]) D Zb8 (fun vs H Q E h=>?_) (fun _ _ _ _ _ _ us hl=>bd4 (R:=fun us=>bindArgs _ ⟨us,[]⟩=pure (List.zip _ us)) (fun _ _ _ _=>rfl) us hl) (fun f cdv A outer s H vs Q E hr h=>?_)
  . obtain ⟨vR,vJ,f,x,x',ws,p,w,n,rfl,_⟩:=h; rfl
  . obtain ⟨vR,vJ,fr,x,x',ws,p,wd,n,rfl,F,hp,hR,hl,k⟩:=h
    obtain ⟨s0,m0,a0,b0,rfl,e0,rfl⟩:=hR
    refine ⟨_,(Zac (ZaI (i:=4) Zb8.nd rfl (by first|exact Or.inl rfl|exact Or.inr rfl) (Zal (pv 2) rfl))
      (Zac (ZaI (i:=5) Zb8.nd rfl (by first|exact Or.inl rfl|exact Or.inr rfl) (ZaN ZdL (ZaN ZdL (ZaR Zb9 rfl n_len PySem.boot_len (Zaa (pv 4) Zaf)) Zae) (Zay ZaF (pv 3) Zae (fun _ _=>rfl))))
      (Zac (ZaI (i:=6) Zb8.nd rfl (by first|exact Or.inl rfl|exact Or.inr rfl) (Zay ZaA (pv 4) (pv 5) (fun _ _=>rfl)))
      (Zac (ZhE (Zay ZaA (pv 4) (Zc4 ZbW Zae) (fun _ _=>rfl)) (ZhD (pv 4) (pv 5) ZdD))
      (Zad (ZhE (pv 6) (ZhD (pv 4) (Zc4 ZbW Zae) ZdD))))))),?_⟩
    walk_at "nx"
    have hp':SqT K H p [.str wd,.int ((m0.length + 1:Nat):Int)]:=hp
    have hST:=F.st
    rw [e0] at hST
    repeat walk_at "rdk"
    refine Zah F.ob tFrame.k.cl tFrame.n_stack rfl ?_
    repeat walk_at "rdk"
    have eu:((List.map V.int (s0 ++ a0 :: (m0 ++ [b0]))).length:Int) - 1 - ((m0.length + 1:Nat):Int)=(s0.length:Int):=by
      simp only [List.length_map,List.length_append,List.length_cons,List.length_nil]; omega
    have em:List.map V.int (s0 ++ a0 :: (m0 ++ [b0]))=List.map V.int (s0 ++ a0 :: m0) ++ [V.int b0]:=by simp
    rw [eu]
    refine Za8 (v:=.int a0) (ZaE hST) (ZeJ (j:=s0.length) (by rw [List.getElem?_map,List.getElem?_append_right (Nat.le_refl _),Nat.sub_self]; rfl)) ?_
    repeat walk_at "rdk"
    refine Za8 (v:=.int b0) (ZaE hST) (by rw [em]; exact ZkC _ _) ?_
    repeat walk_at "rdk"
    refine ZeT hST (ZgL rfl (by simp only [List.length_map,List.length_append,List.length_cons,List.length_nil]; omega)) ?_
    rw [sw1]
    repeat walk_at "rdk"
    refine ZeT Zag (Zjr (j:=s0.length + 1 + m0.length) (by decide) (by simp only [List.length_map,List.length_append,List.length_cons,List.length_nil]; omega)) ?_
    rw [sw2,ZaS]
    exact k _ (k_st (KeptX.upd rfl)) (F.setST _)
theorem Zc0:FnScope ["rooms", "journal", "frame", "row", "taken"] ["rooms", "journal", "frame", "row"] (Zab Zcl):=⟨rfl,rfl,rfl,by decide +kernel,rfl,by decide +kernel,by decide +kernel⟩
theorem Zfj   {cFrame:Addr} (D:Zao K mg "reckon_row" Zcl) (tFrame:T_Frame K mg cFrame) (m_Frame_taken:MCal P w K mg base 1 cFrame "taken" (ZbP cFrame)) (m_Frame_lay:MCal P w K mg base 1 cFrame "lay" (spLay cFrame)) (c_reckon:Cal P w K mg base 2 "reckon" ZhS):Cal P w K mg base 3 "reckon_row" (spD K cFrame rReck):=by
  refine Zaz (N:=["rooms", "journal", "frame", "row", "taken"]) (ps:=["rooms", "journal", "frame", "row"]) D Zc0 (fun vs H Q E h=>?_) (fun _ _ _ _ _ _ us hl=>bd4 (R:=fun us=>bindArgs _ ⟨us,[]⟩=pure (List.zip _ us)) (fun _ _ _ _=>rfl) us hl) (fun f cdv A outer s H vs Q E hr h=>?_)
  . obtain ⟨vR,vJ,f,x,x',ws,p,w,n,rfl,_⟩:=h; rfl
  . obtain ⟨vR,vJ,fr,x,x',ws,p,wd,n,rfl,F,hp,hR,hl,k⟩:=h
    obtain ⟨f0,s0,a0,b0,hf,e0,hi,rfl⟩:=hR
    refine ⟨_,(Zac (ZaI (i:=4) Zc0.nd rfl (by first|exact Or.inl rfl|exact Or.inr rfl) (ZaH m_Frame_taken (hr.mono (by decide)) (pv 2) (Zaa Zae Zaf)))
      (Zad (Zav (ZaH m_Frame_lay (hr.mono (by decide)) (pv 2) (Zaa (ZaG c_reckon (hr.mono (by decide)) rfl (Zaa (Zay ZaF (pv 3) Zae (fun _ _=>rfl)) (Zaa (Zay ZaA (pv 4) Zae (fun _ _=>rfl)) (Zaa (Zay ZaA (pv 4) Zae (fun _ _=>rfl)) Zaf)))) Zaf))))),?_⟩
    walk_at "nx"
    repeat walk_at "rdk"
    refine Zap F.ob rfl ?_
    repeat walk_at "rdk"
    refine ⟨fr,x,ws,s0,[a0,b0],rfl,F,e0,by show 2 <= 1000; decide,fun q H1 _ k1 F1 e1=>?_⟩
    have hp1:=Zb7 hp F (k_st k1)
    have e1':H1 q=some (.lst [.int a0,.int b0]):=e1
    repeat walk_at "rdk"
    refine Zap F1.ob rfl ?_
    repeat walk_at "rw"
    refine ⟨wd,a0,b0,f0,rfl,hf,hi,?_⟩
    repeat walk_at "rdk"
    have hl1:s0.length <= 900:=by rw [e0,List.length_append] at hl; omega
    refine ⟨fr,_,ws,_,rfl,F1,Nat.le_trans hl1 (by decide),fun H2 k2 F2=>?_⟩
    repeat walk_at "rdk"
    exact k _ (k_st (k1.trans k2)) F2
theorem Zha:FnScope ["rooms", "journal", "frame", "row"] ["rooms", "journal", "frame", "row"] (Zab Zdc):=⟨rfl,rfl,rfl,by decide +kernel,rfl,by decide +kernel,by decide +kernel⟩
theorem Zhb   {cFrame:Addr} (D:Zao K mg "jump_row" Zdc) (tFrame:T_Frame K mg cFrame):Cal P w K mg base 1 "jump_row" (spD K cFrame rJump):=by
  refine Zaz (N:=["rooms", "journal", "frame", "row"]) (ps:=["rooms", "journal", "frame", "row"]) D Zha (fun vs H Q E h=>?_) (fun _ _ _ _ _ _ us hl=>bd4 (R:=fun us=>bindArgs _ ⟨us,[]⟩=pure (List.zip _ us)) (fun _ _ _ _=>rfl) us hl) (fun f cdv A outer s H vs Q E hr h=>?_)
  . obtain ⟨vR,vJ,f,x,x',ws,p,w,n,rfl,_⟩:=h; rfl
  . obtain ⟨vR,vJ,fr,x,x',ws,p,wd,n,rfl,F,hp,hR,hl,k⟩:=h
    obtain ⟨n0,rfl,rfl⟩:=hR
    refine ⟨_,(Zad (ZaO (pv 2) (Zay ZaF (pv 3) Zae (fun _ _=>rfl)) rfl)),?_⟩
    walk_at "nx"
    have hp':SqT K H p [.str wd,.int n0]:=hp
    repeat walk_at "rdk"
    refine Zau F.ob tFrame.k.cl tFrame.n_row (by show 15 < 1000; decide) ?_
    exact k _ (k_a (KeptX.upd rfl)) (F.setF { x with row:=n0 } rfl)
theorem Zc1:FnScope ["rooms", "journal", "frame", "row", "taken"] ["rooms", "journal", "frame", "row"] (Zab Zcm):=⟨rfl,rfl,rfl,by decide +kernel,rfl,by decide +kernel,by decide +kernel⟩
theorem Zfk   {cFrame:Addr} (D:Zao K mg "jumpif_row" Zcm) (tFrame:T_Frame K mg cFrame) (m_Frame_taken:MCal P w K mg base 1 cFrame "taken" (ZbP cFrame)):Cal P w K mg base 2 "jumpif_row" (spD K cFrame Zfh):=by
  refine Zaz (N:=["rooms", "journal", "frame", "row", "taken"]) (ps:=["rooms", "journal", "frame", "row"]) D Zc1 (fun vs H Q E h=>?_) (fun _ _ _ _ _ _ us hl=>bd4 (R:=fun us=>bindArgs _ ⟨us,[]⟩=pure (List.zip _ us)) (fun _ _ _ _=>rfl) us hl) (fun f cdv A outer s H vs Q E hr h=>?_)
  . obtain ⟨vR,vJ,f,x,x',ws,p,w,n,rfl,_⟩:=h; rfl
  . obtain ⟨vR,vJ,fr,x,x',ws,p,wd,n,rfl,F,hp,hR,hl,k⟩:=h
    obtain ⟨n0,s0,t0,rfl,e0,rfl⟩:=hR
    refine ⟨_,(Zac (ZaI (i:=4) Zc1.nd rfl (by first|exact Or.inl rfl|exact Or.inr rfl) (ZaH m_Frame_taken (hr.mono (by decide)) (pv 2) (Zaa Zae Zaf)))
      (Zad (ZaP (Zaq ZfB (Zay ZaA (pv 4) Zae (fun _ _=>rfl)) Zae (nomark _)) (Zad (ZaO (pv 2) (Zay ZaF (pv 3) Zae (fun _ _=>rfl)) rfl)) Zat))),?_⟩
    walk_at "nx"
    repeat walk_at "rdk"
    refine Zap F.ob rfl ?_
    repeat walk_at "rdk"
    refine ⟨fr,x,ws,s0,[t0],rfl,F,e0,by show 1 <= 1000; decide,fun q H1 _ k1 F1 e1=>?_⟩
    have hp1:SqT K H1 p [.str wd,.int n0]:=Zb7 hp F (k_st k1)
    have e1':H1 q=some (.lst [.int t0]):=e1
    repeat walk_at "rdk"
    . rename_i ht
      refine Zau F1.ob tFrame.k.cl tFrame.n_row (by show 15 < 1000; decide) ?_
      have:=F1.setF { x with stack:=s0,row:=n0 } rfl
      rw [if_neg ht] at k
      exact k _ ((k_st k1).trans (k_a (KeptX.upd rfl))) this
    . rename_i ht
      rw [if_pos ht] at k
      exact k _ (k_st k1) F1
theorem ZjR:FnScope ["rooms", "journal", "frame", "row"] ["rooms", "journal", "frame", "row"] (Zab ZeY):=⟨rfl,rfl,rfl,by decide +kernel,rfl,by decide +kernel,by decide +kernel⟩
theorem ZjS   {cFrame:Addr} (D:Zao K mg "me_row" ZeY) (tFrame:T_Frame K mg cFrame) (m_Frame_lay:MCal P w K mg base 1 cFrame "lay" (spLay cFrame)):Cal P w K mg base 2 "me_row" (spD K cFrame rMe):=by
  refine Zaz (N:=["rooms", "journal", "frame", "row"]) (ps:=["rooms", "journal", "frame", "row"]) D ZjR (fun vs H Q E h=>?_) (fun _ _ _ _ _ _ us hl=>bd4 (R:=fun us=>bindArgs _ ⟨us,[]⟩=pure (List.zip _ us)) (fun _ _ _ _=>rfl) us hl) (fun f cdv A outer s H vs Q E hr h=>?_)
  . obtain ⟨vR,vJ,f,x,x',ws,p,w,n,rfl,_⟩:=h; rfl
  . obtain ⟨vR,vJ,fr,x,x',ws,p,wd,n,rfl,F,hp,hR,hl,k⟩:=h
    obtain rfl:=hR
    refine ⟨_,(Zad (Zav (ZaH m_Frame_lay (hr.mono (by decide)) (pv 2) (Zaa (Zal (pv 2) rfl) Zaf)))),?_⟩
    walk_at "nx"
    repeat walk_at "rdk"
    refine Zap F.ob rfl ?_
    repeat walk_at "rdk"
    refine Zah F.ob tFrame.k.cl tFrame.n_who rfl ?_
    repeat walk_at "rdk"
    refine ⟨fr,_,ws,_,rfl,F,by show _ <= 1000; omega,fun H1 k1 F1=>?_⟩
    repeat walk_at "rdk"
    exact k _ (k_st k1) F1
theorem Zhc:FnScope ["rooms", "journal", "frame", "row"] ["rooms", "journal", "frame", "row"] (Zab Zdf):=⟨rfl,rfl,rfl,by decide +kernel,rfl,by decide +kernel,by decide +kernel⟩
theorem Zhd   {cFrame:Addr} (D:Zao K mg "from_row" Zdf) (tFrame:T_Frame K mg cFrame) (m_Frame_lay:MCal P w K mg base 1 cFrame "lay" (spLay cFrame)):Cal P w K mg base 2 "from_row" (spD K cFrame rFrom):=by
  refine Zaz (N:=["rooms", "journal", "frame", "row"]) (ps:=["rooms", "journal", "frame", "row"]) D Zhc (fun vs H Q E h=>?_) (fun _ _ _ _ _ _ us hl=>bd4 (R:=fun us=>bindArgs _ ⟨us,[]⟩=pure (List.zip _ us)) (fun _ _ _ _=>rfl) us hl) (fun f cdv A outer s H vs Q E hr h=>?_)
  . obtain ⟨vR,vJ,f,x,x',ws,p,w,n,rfl,_⟩:=h; rfl
  . obtain ⟨vR,vJ,fr,x,x',ws,p,wd,n,rfl,F,hp,hR,hl,k⟩:=h
    obtain rfl:=hR
    refine ⟨_,(Zad (Zav (ZaH m_Frame_lay (hr.mono (by decide)) (pv 2) (Zaa (Zal (pv 2) rfl) Zaf)))),?_⟩
    walk_at "nx"
    repeat walk_at "rdk"
    refine Zap F.ob rfl ?_
    repeat walk_at "rdk"
    refine Zah F.ob tFrame.k.cl tFrame.n_caller rfl ?_
    repeat walk_at "rdk"
    refine ⟨fr,_,ws,_,rfl,F,by show _ <= 1000; omega,fun H1 k1 F1=>?_⟩
    repeat walk_at "rdk"
    exact k _ (k_st k1) F1
theorem Zhe:FnScope ["rooms", "journal", "frame", "row"] ["rooms", "journal", "frame", "row"] (Zab Zdg):=⟨rfl,rfl,rfl,by decide +kernel,rfl,by decide +kernel,by decide +kernel⟩
theorem Zhf   {cFrame:Addr} (D:Zao K mg "sent_row" Zdg) (tFrame:T_Frame K mg cFrame) (m_Frame_lay:MCal P w K mg base 1 cFrame "lay" (spLay cFrame)):Cal P w K mg base 2 "sent_row" (spD K cFrame rSent):=by
  refine Zaz (N:=["rooms", "journal", "frame", "row"]) (ps:=["rooms", "journal", "frame", "row"]) D Zhe (fun vs H Q E h=>?_) (fun _ _ _ _ _ _ us hl=>bd4 (R:=fun us=>bindArgs _ ⟨us,[]⟩=pure (List.zip _ us)) (fun _ _ _ _=>rfl) us hl) (fun f cdv A outer s H vs Q E hr h=>?_)
  . obtain ⟨vR,vJ,f,x,x',ws,p,w,n,rfl,_⟩:=h; rfl
  . obtain ⟨vR,vJ,fr,x,x',ws,p,wd,n,rfl,F,hp,hR,hl,k⟩:=h
    obtain rfl:=hR
    refine ⟨_,(Zad (Zav (ZaH m_Frame_lay (hr.mono (by decide)) (pv 2) (Zaa (Zal (pv 2) rfl) Zaf)))),?_⟩
    walk_at "nx"
    repeat walk_at "rdk"
    refine Zap F.ob rfl ?_
    repeat walk_at "rdk"
    refine Zah F.ob tFrame.k.cl tFrame.n_coin rfl ?_
    repeat walk_at "rdk"
    refine ⟨fr,_,ws,_,rfl,F,by show _ <= 1000; omega,fun H1 k1 F1=>?_⟩
    repeat walk_at "rdk"
    exact k _ (k_st k1) F1
theorem Zhg:FnScope ["rooms", "journal", "frame", "row"] ["rooms", "journal", "frame", "row"] (Zab Zdh):=⟨rfl,rfl,rfl,by decide +kernel,rfl,by decide +kernel,by decide +kernel⟩
theorem Zhh   {cFrame:Addr} (D:Zao K mg "word_row" Zdh) (tFrame:T_Frame K mg cFrame) (m_Frame_lay:MCal P w K mg base 1 cFrame "lay" (spLay cFrame)):Cal P w K mg base 2 "word_row" (spD K cFrame rWord):=by
  refine Zaz (N:=["rooms", "journal", "frame", "row"]) (ps:=["rooms", "journal", "frame", "row"]) D Zhg (fun vs H Q E h=>?_) (fun _ _ _ _ _ _ us hl=>bd4 (R:=fun us=>bindArgs _ ⟨us,[]⟩=pure (List.zip _ us)) (fun _ _ _ _=>rfl) us hl) (fun f cdv A outer s H vs Q E hr h=>?_)
  . obtain ⟨vR,vJ,f,x,x',ws,p,w,n,rfl,_⟩:=h; rfl
  . obtain ⟨vR,vJ,fr,x,x',ws,p,wd,n,rfl,F,hp,hR,hl,k⟩:=h
    obtain rfl:=hR
    refine ⟨_,(Zad (Zav (ZaH m_Frame_lay (hr.mono (by decide)) (pv 2) (Zaa (Zal (pv 2) rfl) Zaf)))),?_⟩
    walk_at "nx"
    repeat walk_at "rdk"
    refine Zap F.ob rfl ?_
    repeat walk_at "rdk"
    refine Zah F.ob tFrame.k.cl tFrame.n_word rfl ?_
    repeat walk_at "rdk"
    refine ⟨fr,_,ws,_,rfl,F,by show _ <= 1000; omega,fun H1 k1 F1=>?_⟩
    repeat walk_at "rdk"
    exact k _ (k_st k1) F1
theorem Zec:FnScope ["rooms", "journal", "frame", "row", "taken"] ["rooms", "journal", "frame", "row"] (Zab Zdk):=⟨rfl,rfl,rfl,by decide +kernel,rfl,by decide +kernel,by decide +kernel⟩
theorem Zhi   {cFrame:Addr} (D:Zao K mg "give_row" Zdk) (tFrame:T_Frame K mg cFrame) (m_Frame_taken:MCal P w K mg base 1 cFrame "taken" (ZbP cFrame)) (m_Frame_finish:MCal P w K mg base 1 cFrame "finish" (Zcw cFrame)):Cal P w K mg base 2 "give_row" (spD K cFrame rGive):=by
  refine Zaz (N:=["rooms", "journal", "frame", "row", "taken"]) (ps:=["rooms", "journal", "frame", "row"]) D Zec (fun vs H Q E h=>?_) (fun _ _ _ _ _ _ us hl=>bd4 (R:=fun us=>bindArgs _ ⟨us,[]⟩=pure (List.zip _ us)) (fun _ _ _ _=>rfl) us hl) (fun f cdv A outer s H vs Q E hr h=>?_)
  . obtain ⟨vR,vJ,f,x,x',ws,p,w,n,rfl,_⟩:=h; rfl
  . obtain ⟨vR,vJ,fr,x,x',ws,p,wd,n,rfl,F,hp,hR,hl,k⟩:=h
    obtain ⟨s0,t0,e0,rfl⟩:=hR
    refine ⟨_,(Zac (ZaI (i:=4) Zec.nd rfl (by first|exact Or.inl rfl|exact Or.inr rfl) (ZaH m_Frame_taken (hr.mono (by decide)) (pv 2) (Zaa Zae Zaf)))
      (Zad (Zav (ZaH m_Frame_finish (hr.mono (by decide)) (pv 2) (Zaa Zas (Zaa (Zay ZaA (pv 4) Zae (fun _ _=>rfl)) Zaf)))))),?_⟩
    walk_at "nx"
    repeat walk_at "rdk"
    refine Zap F.ob rfl ?_
    repeat walk_at "rdk"
    refine ⟨fr,x,ws,s0,[t0],rfl,F,e0,by show 1 <= 1000; decide,fun q H1 _ k1 F1 e1=>?_⟩
    have e1':H1 q=some (.lst [.int t0]):=e1
    repeat walk_at "rdk"
    refine Zap F1.ob rfl ?_
    repeat walk_at "rdk"
    refine ⟨fr,_,ws, "well", t0,rfl,F1,fun H2 k2 F2=>?_⟩
    repeat walk_at "rdk"
    exact k _ ((k_st k1).trans (k_a k2)) F2
theorem Zed:FnScope ["rooms", "journal", "frame", "row", "taken"] ["rooms", "journal", "frame", "row"] (Zab Zdl):=⟨rfl,rfl,rfl,by decide +kernel,rfl,by decide +kernel,by decide +kernel⟩
theorem Zhj   {cFrame:Addr} (D:Zao K mg "fail_row" Zdl) (tFrame:T_Frame K mg cFrame) (m_Frame_taken:MCal P w K mg base 1 cFrame "taken" (ZbP cFrame)) (m_Frame_finish:MCal P w K mg base 1 cFrame "finish" (Zcw cFrame)):Cal P w K mg base 2 "fail_row" (spD K cFrame rFail):=by
  refine Zaz (N:=["rooms", "journal", "frame", "row", "taken"]) (ps:=["rooms", "journal", "frame", "row"]) D Zed (fun vs H Q E h=>?_) (fun _ _ _ _ _ _ us hl=>bd4 (R:=fun us=>bindArgs _ ⟨us,[]⟩=pure (List.zip _ us)) (fun _ _ _ _=>rfl) us hl) (fun f cdv A outer s H vs Q E hr h=>?_)
  . obtain ⟨vR,vJ,f,x,x',ws,p,w,n,rfl,_⟩:=h; rfl
  . obtain ⟨vR,vJ,fr,x,x',ws,p,wd,n,rfl,F,hp,hR,hl,k⟩:=h
    obtain ⟨s0,t0,e0,rfl⟩:=hR
    refine ⟨_,(Zac (ZaI (i:=4) Zed.nd rfl (by first|exact Or.inl rfl|exact Or.inr rfl) (ZaH m_Frame_taken (hr.mono (by decide)) (pv 2) (Zaa Zae Zaf)))
      (Zad (Zav (ZaH m_Frame_finish (hr.mono (by decide)) (pv 2) (Zaa Zas (Zaa (Zay ZaA (pv 4) Zae (fun _ _=>rfl)) Zaf)))))),?_⟩
    walk_at "nx"
    repeat walk_at "rdk"
    refine Zap F.ob rfl ?_
    repeat walk_at "rdk"
    refine ⟨fr,x,ws,s0,[t0],rfl,F,e0,by show 1 <= 1000; decide,fun q H1 _ k1 F1 e1=>?_⟩
    have e1':H1 q=some (.lst [.int t0]):=e1
    repeat walk_at "rdk"
    refine Zap F1.ob rfl ?_
    repeat walk_at "rdk"
    refine ⟨fr,_,ws, "fail", t0,rfl,F1,fun H2 k2 F2=>?_⟩
    repeat walk_at "rdk"
    exact k _ ((k_st k1).trans (k_a k2)) F2
end
noncomputable def ZbH (x:FrS) (w:Str) (b:Bool):Prop:=(w ≠ "call" /\ b=false)\/(w = "call" /\ ∃ s c u v,x.stack=s ++ [c,u,v]/\b=decide (0 < c))
noncomputable def fillsR (A:Nat->Option AcI) (S:Nat->AcS) (x:FrS) (w:Str) (b:Bool):Prop:=(w ≠ "save" /\ b=false)\/(w = "save" /\ ∃ s p v,x.stack=s ++ [p,v]/\((v=0/\b=false)\/(v ≠ 0/\∃ i y,x.who=((i:Nat):Int)/\i < 16/\A i=some y/\b=decide ((S i).store p=0))))
noncomputable def Zfl (K:PySem.W.Frag) (cF:Addr):Sp:=fun vs H Q _=>∃ (f:FrI) (x:FrS) (ws:List V) (p:Addr) (w:Str) (n:Option Int) (b:Bool),vs=[.ref f.a,.ref p]/\FrAt cF H f x ws/\Zbj K H p w n/\ZbH x w b/\Q (.bl b) H
noncomputable def ZjT (K:PySem.W.Frag) (C cF:Addr):Sp:=fun vs H Q _=>∃ (R:Addr) (A:Nat->Option AcI) (S:Nat->AcS) (m:Nat) (f:FrI) (x:FrS) (ws:List V) (p:Addr) (w:Str) (n:Option Int) (b:Bool),vs=[.ref R,.ref f.a,.ref p]/\Rooms K C H R A S m/\FrAt cF H f x ws/\Zbj K H p w n/\fillsR A S x w b/\Q (.bl b) H
noncomputable def Zcx (K:PySem.W.Frag) (C cF:Addr):Sp:=fun vs H Q _=>∃ (R:Addr) (A:Nat->Option AcI) (S:Nat->AcS) (m:Nat) (f:FrI) (x:FrS) (ws:List V) (p:Addr) (w:Str) (n:Option Int) (b1 b2:Bool) (t l pr d:Int),vs=[.ref R,.ref f.a,.ref p]/\Rooms K C H R A S m/\FrAt cF H f x ws/\Zbj K H p w n/\ZbH x w b1/\fillsR A S x w b2/\RT.lookup w=some (t,l,pr,d)/\Q (.int (if (b1 || b2)=true then d else pr)) H
noncomputable def barB (x:FrS) (w:Str) (b1:Bool):Bool:=x.looking && (inS w ["save", "note"] || b1)
noncomputable def Zh0 (K:PySem.W.Frag) (cF:Addr):Sp:=fun vs H Q _=>∃ (f:FrI) (x:FrS) (ws:List V) (p:Addr) (w:Str) (n:Option Int) (b1:Bool),vs=[.ref f.a,.ref p]/\FrAt cF H f x ws/\Zbj K H p w n/\ZbH x w b1/\∀ H',Same H H'->Q (.bl (barB x w b1)) H'
noncomputable def aheadR (A:Nat->Option AcI) (S:Nat->AcS) (x:FrS) (w:Str) (n:Option Int) (e:Option Str):Prop:=∃ r t l pr d,Zbq w n=some r/\RT.lookup w=some (t,l,pr,d) /\
  (((x.stack.length:Int) < t + r/\e=some ("short" : Str))\/(¬ (x.stack.length:Int) < t + r/\24 < (x.stack.length:Int) - (t + r) + (l + r)/\e=some ("full" : Str))\/(¬ (x.stack.length:Int) < t + r/\¬ 24 < (x.stack.length:Int) - (t + r) + (l + r) /\
    ∃ b1 b2,ZbH x w b1/\fillsR A S x w b2/\((barB x w b1=true/\e=some ("barred" : Str))\/(barB x w b1=false/\x.given - x.used < (if (b1 || b2)=true then d else pr)/\e=some ("dry" : Str))\/(barB x w b1=false/\¬ x.given - x.used < (if (b1 || b2)=true then d else pr)/\e=none))))
noncomputable def Zhk (K:PySem.W.Frag) (C cF:Addr):Sp:=fun vs H Q _=>∃ (R:Addr) (A:Nat->Option AcI) (S:Nat->AcS) (m:Nat) (f:FrI) (x:FrS) (ws:List V) (p:Addr) (w:Str) (n:Option Int) (e:Option Str),vs=[.ref R,.ref f.a,.ref p]/\Rooms K C H R A S m/\FrAt cF H f x ws/\Zbj K H p w n/\aheadR A S x w n e/\∀ H',Same H H'->Q (endV e) H'
theorem ZmZ {xs s:List Int} {c u v:Int} (e:xs=s ++ [c,u,v]):atI (xs.map V.int) (-3)=some (.int c):=by
  have h:atI (xs.map V.int) (-1 - ((2:Nat):Int))=some (.int c):=Zfi (by rw [e]; simp) (by rw [e]; simp)
  exact h
theorem at_m2 {xs s:List Int} {u v:Int} (e:xs=s ++ [u,v]):atI (xs.map V.int) (-2)=some (.int u):=by
  have h:atI (xs.map V.int) (-1 - ((1:Nat):Int))=some (.int u):=Zfi (by rw [e]; simp) (by rw [e]; simp)
  exact h
theorem Zlf {xs s:List Int} {v:Int} (e:xs=s ++ [v]):atI (xs.map V.int) (-1)=some (.int v):=by
  have h:atI (xs.map V.int) (-1 - ((0:Nat):Int))=some (.int v):=Zfi (by rw [e]; simp) (by rw [e]; simp)
  exact h
section
variable {P:Program} {w:World} {K:PySem.W.Frag} {mg:Str->Option Value} {base:Heap}
theorem Zeu:FnScope ["frame", "row"] ["frame", "row"] (Zab Zb4):=⟨rfl,rfl,rfl,by decide +kernel,rfl,by decide +kernel,by decide +kernel⟩
theorem Zev   {cFrame:Addr} (D:Zao K mg "brings_coin" Zb4) (tFrame:T_Frame K mg cFrame):Cal P w K mg base 1 "brings_coin" (Zfl K cFrame):=by
  refine Zaz (N:=["frame", "row"]) (ps:=["frame", "row"]) D Zeu (fun vs H Q E h=>?_) (fun _ _ _ _ _ _ us hl=>bd2 (R:=fun us=>bindArgs _ ⟨us,[]⟩=pure (List.zip _ us)) (fun _ _=>rfl) us hl) (fun f cdv A outer s H vs Q E hr h=>?_)
  . obtain ⟨f,x,ws,p,w,n,b,rfl,_⟩:=h; rfl
  . obtain ⟨fr,x,ws,p,wd,n,b,rfl,F,hp,hb,k⟩:=h
    refine ⟨_,(Zad (Zam (Zfz (ZbG ZbF (Zay ZaF (pv 1) Zae (fun _ _=>rfl)) Zas (nomark _)) (Zez (ZbG ZdM (Zay ZaA (Zal (pv 0) rfl) (Zc4 ZbW Zae) (fun _ _=>rfl)) Zae (nomark _)))))),?_⟩
    walk_at "nx"
    rcases hb with ⟨hw,rfl⟩|⟨rfl,s0,c,u,v,e0,rfl⟩
    . repeat' walk_at "rw"
      . exact absurd (by assumption) hw
      . exact k
    . repeat' walk_at "rw"
      . refine Zah F.ob tFrame.k.cl tFrame.n_stack rfl ?_
        repeat walk_at "rw"
        refine Za8 (ZaE F.st) (ZmZ e0) ?_
        repeat walk_at "rw"
        exact k
      . rename_i z; exact absurd rfl z
theorem Zew:FnScope ["rooms", "frame", "row"] ["rooms", "frame", "row"] (Zab Zb5):=⟨rfl,rfl,rfl,by decide +kernel,rfl,by decide +kernel,by decide +kernel⟩
theorem Zex   {cFrame:Addr} {cAccount:Addr} (D:Zao K mg "fills_place" Zb5) (tFrame:T_Frame K mg cFrame) (tAccount:T_Account K mg cAccount) (m_Account_loaded:MCal P w K mg base 1 cAccount "loaded" (ZdH K cAccount)):Cal P w K mg base 2 "fills_place" (ZjT K cAccount cFrame):=by
  refine Zaz (N:=["rooms", "frame", "row"]) (ps:=["rooms", "frame", "row"]) D Zew (fun vs H Q E h=>?_) (fun _ _ _ _ _ _ us hl=>bd3 (R:=fun us=>bindArgs _ ⟨us,[]⟩=pure (List.zip _ us)) (fun _ _ _=>rfl) us hl) (fun f cdv A outer s H vs Q E hr h=>?_)
  . obtain ⟨R,A,S,m,f,x,ws,p,w,n,b,rfl,_⟩:=h; rfl
  . obtain ⟨R,Ar,S,m,fr,x,ws,p,wd,n,b,rfl,r,F,hp,hb,k⟩:=h
    refine ⟨_,(Zac (ZaP (PW.pt (ZiO (Zaq ZfB (Zay ZaF (pv 2) Zae (fun _ _=>rfl)) Zas (nomark _)) (ZhA (Zaq ZbF (Zay ZaA (Zal (pv 1) rfl) (Zc4 ZbW Zae) (fun _ _=>rfl)) Zae (nomark _))))) (Zad (Zam Zie)) Zat)
      (Zad (Zam (ZbG ZbF (ZaH m_Account_loaded (hr.mono (by decide)) (Zay ZaA (pv 0) (Zal (pv 1) rfl) (fun _ _=>rfl)) (Zaa (Zay ZaA (Zal (pv 1) rfl) (Zc4 ZbW Zae) (fun _ _=>rfl)) Zaf)) Zae (nomark _))))),?_⟩
    walk_at "nx"
    rcases hb with ⟨hw,rfl⟩|⟨rfl,s0,pl,v,e0,hb⟩
    . repeat' walk_at "rw"
      . exact k
      . exact absurd (by assumption) hw
    . have e1:x.stack=(s0 ++ [pl]) ++ [v]:=by rw [e0]; simp
      repeat' walk_at "rw"
      . rename_i z; exact absurd rfl z
      . refine Zah F.ob tFrame.k.cl tFrame.n_stack rfl ?_
        repeat walk_at "rw"
        refine Za8 (ZaE F.st) (Zlf e1) ?_
        repeat' walk_at "rw"
        . rename_i z
          rcases hb with ⟨_,rfl⟩|⟨hv,_⟩
          . exact k
          . exact absurd z hv
        . rename_i z
          rcases hb with ⟨hv,_⟩|⟨_,i,y,ew,hi,hy,rfl⟩
          . exact absurd hv z
          . refine Zah F.ob tFrame.k.cl tFrame.n_who rfl ?_
            rw [ew]
            refine Za8 (ZaE r.ob) (r.at hi hy) ?_
            have ay:=r.ac i y hi hy
            refine Zap ay.ob rfl ?_
            repeat walk_at "rw"
            refine Zah F.ob tFrame.k.cl tFrame.n_stack rfl ?_
            repeat walk_at "rw"
            refine Za8 (ZaE F.st) (at_m2 e0) ?_
            repeat walk_at "rw"
            refine ⟨y.a,y.dx,y.pr,y.st,_,_,_,_,_,m,pl,rfl,ay,?_⟩
            repeat walk_at "rw"
            exact k
theorem Zgo:FnScope ["rooms", "frame", "row"] ["rooms", "frame", "row"] (Zab ZcI):=⟨rfl,rfl,rfl,by decide +kernel,rfl,by decide +kernel,by decide +kernel⟩
theorem Zgp    (D:Zao K mg "row_price" ZcI) (cd2_price:CalD P w K mg base 1 "price" (ZjJ K) []) (c_brings_coin:Cal P w K mg base 1 "brings_coin" (Zfl K cFrame)) (c_fills_place:Cal P w K mg base 2 "fills_place" (ZjT K cAccount cFrame)):Cal P w K mg base 3 "row_price" (Zcx K cAccount cFrame):=by
  refine Zaz (N:=["rooms", "frame", "row"]) (ps:=["rooms", "frame", "row"]) D Zgo (fun vs H Q E h=>?_) (fun _ _ _ _ _ _ us hl=>bd3 (R:=fun us=>bindArgs _ ⟨us,[]⟩=pure (List.zip _ us)) (fun _ _ _=>rfl) us hl) (fun f cdv A outer s H vs Q E hr h=>?_)
  . obtain ⟨R,A,S,m,f,x,ws,p,w,n,b1,b2,t,l,pr,d,rfl,_⟩:=h; rfl
  . obtain ⟨R,Ar,S,m,fr,x,ws,p,wd,n,b1,b2,t,l,pr,d,rfl,r,F,hp,hb1,hb2,ht,k⟩:=h
    refine ⟨_,(Zad (Zam (ZmB cd2_price (hr.mono (by decide)) rfl (Zaa (pv 2) (Zaa (pe_or (ZaG c_brings_coin (hr.mono (by decide)) rfl (Zaa (pv 1) (Zaa (pv 2) Zaf))) (Zez (ZaG c_fills_place (hr.mono (by decide)) rfl (Zaa (pv 0) (Zaa (pv 1) (Zaa (pv 2) Zaf)))))) Zaf))))),?_⟩
    walk_at "nx"
    repeat walk_at "rw"
    refine ⟨fr,x,ws,p,wd,n,b1,rfl,F,hp,hb1,?_⟩
    cases b1 with
    | true =>
      repeat walk_at "rw"
      exact ⟨p,wd,n,t,l,pr,d,true,rfl,hp,ht,k⟩
    | false =>
      repeat walk_at "rw"
      refine ⟨R,Ar,S,m,fr,x,ws,p,wd,n,b2,rfl,r,F,hp,hb2,?_⟩
      repeat walk_at "rw"
      exact ⟨p,wd,n,t,l,pr,d,b2,rfl,hp,ht,k⟩
theorem Zgq:FnScope ["frame", "row"] ["frame", "row"] (Zab ZcJ):=⟨rfl,rfl,rfl,by decide +kernel,rfl,by decide +kernel,by decide +kernel⟩
theorem Zgr   {cFrame:Addr} (D:Zao K mg "is_barred" ZcJ) (tFrame:T_Frame K mg cFrame) (c_brings_coin:Cal P w K mg base 1 "brings_coin" (Zfl K cFrame)):Cal P w K mg base 2 "is_barred" (Zh0 K cFrame):=by
  refine Zaz (N:=["frame", "row"]) (ps:=["frame", "row"]) D Zgq (fun vs H Q E h=>?_) (fun _ _ _ _ _ _ us hl=>bd2 (R:=fun us=>bindArgs _ ⟨us,[]⟩=pure (List.zip _ us)) (fun _ _=>rfl) us hl) (fun f cdv A outer s H vs Q E hr h=>?_)
  . obtain ⟨f,x,ws,p,w,n,b,rfl,_⟩:=h; rfl
  . obtain ⟨fr,x,ws,p,wd,n,b,rfl,F,hp,hb,k⟩:=h
    refine ⟨_,(Zad (Zam (Zfz (Zal (pv 0) rfl) (Zez (pe_or (ZbG Zba (Zay ZaF (pv 1) Zae (fun _ _=>rfl)) (ZaT (Zaa Zas (Zaa Zas Zaf))) rfl) (Zez (ZaG c_brings_coin (hr.mono (by decide)) rfl (Zaa (pv 0) (Zaa (pv 1) Zaf))))))))),?_⟩
    walk_at "nx"
    repeat walk_at "rw"
    refine Zah F.ob tFrame.k.cl tFrame.n_looking rfl ?_
    unfold barB at k
    cases e:x.looking with
    | false =>
      rw [e] at k
      repeat walk_at "rw"
      exact k H (Same.refl H)
    | true =>
      rw [e] at k
      repeat walk_at "rw"
      refine ⟨by decide,fun q hq=>?_⟩
      have s1:Same H (upd H q (.tup [.str "save", .str "note"])):=Same.new hq
      refine ZbZ (xs:=["save", "note"]) ZgI ?_
      have F1:=F.same s1
      have hp1:Zbj K _ p wd n:=s1.tup hp
      generalize upd H q _=H1 at s1 F1 hp1
      cases e2:inS wd ["save", "note"] with
      | true =>
        rw [e2] at k
        repeat walk_at "rw"
        exact k H1 s1
      | false =>
        rw [e2] at k
        repeat walk_at "rw"
        exact ⟨fr,x,ws,p,wd,n,b,rfl,F1,hp1,hb,k H1 s1⟩
theorem Zee:FnScope ["rooms", "frame", "row"] ["rooms", "frame", "row"] (Zab ZbU):=⟨rfl,rfl,rfl,by decide +kernel,rfl,by decide +kernel,by decide +kernel⟩
theorem Zef   {cFrame:Addr} (D:Zao K mg "end_ahead_of" ZbU) (tFrame:T_Frame K mg cFrame) (m_Frame_short_for:MCal P w K mg base 3 cFrame "short_for" (ZjQ K cFrame)) (m_Frame_full_behind:MCal P w K mg base 3 cFrame "full_behind" (spFull K cFrame)) (m_Frame_left:MCal P w K mg base 1 cFrame "left" (spLeft cFrame)) (c_is_barred:Cal P w K mg base 2 "is_barred" (Zh0 K cFrame)) (c_row_price:Cal P w K mg base 3 "row_price" (Zcx K cAccount cFrame)):Cal P w K mg base 4 "end_ahead_of" (Zhk K cAccount cFrame):=by
  refine Zaz (N:=["rooms", "frame", "row"]) (ps:=["rooms", "frame", "row"]) D Zee (fun vs H Q E h=>?_) (fun _ _ _ _ _ _ us hl=>bd3 (R:=fun us=>bindArgs _ ⟨us,[]⟩=pure (List.zip _ us)) (fun _ _ _=>rfl) us hl) (fun f cdv A outer s H vs Q E hr h=>?_)
  . obtain ⟨R,A,S,m,f,x,ws,p,w,n,e,rfl,_⟩:=h; rfl
  . obtain ⟨R,Ar,S,m,fr,x,ws,p,wd,n,e,rfl,r,F,hp,⟨rr,t,l,pr,d,hr1,hr2,ha⟩,k⟩:=h
    refine ⟨_,(Zac (ZaP (Zcb (ZaH m_Frame_short_for (hr.mono (by decide)) (pv 1) (Zaa (pv 2) Zaf))) (Zad (Zam Zas)) Zat)
      (Zac (ZaP (Zcb (ZaH m_Frame_full_behind (hr.mono (by decide)) (pv 1) (Zaa (pv 2) Zaf))) (Zad (Zam Zas)) Zat)
      (Zac (ZaP (Zcb (ZaG c_is_barred (hr.mono (by decide)) rfl (Zaa (pv 1) (Zaa (pv 2) Zaf)))) (Zad (Zam Zas)) Zat)
      (Zac (ZaP (Zaq ZdM (ZaG c_row_price (hr.mono (by decide)) rfl (Zaa (pv 0) (Zaa (pv 1) (Zaa (pv 2) Zaf)))) (ZcV m_Frame_left (hr.mono (by decide)) (pv 1)) (nomark _)) (Zad (Zam Zas)) Zat)
      (Zad (Zam Zca)))))),?_⟩
    walk_at "nx"
    rcases ha with ⟨h1,rfl⟩|⟨h1,h2,rfl⟩|⟨h1,h2,b1,b2,hb1,hb2,ha⟩
    . skip
      repeat walk_at "rz"
      refine Zap F.ob rfl ?_
      repeat walk_at "rz"
      refine ⟨fr,x,ws,p,wd,n,rr,t,l,pr,d,rfl,F,hp,hr1,hr2,?_⟩
      repeat walk_at "rz"
      exact k H (Same.refl H)
    . skip
      repeat walk_at "rz"
      refine Zap F.ob rfl ?_
      repeat walk_at "rz"
      refine ⟨fr,x,ws,p,wd,n,rr,t,l,pr,d,rfl,F,hp,hr1,hr2,?_⟩
      repeat walk_at "rz"
      refine Zap F.ob rfl ?_
      repeat walk_at "rz"
      refine ⟨fr,x,ws,p,wd,n,rr,t,l,pr,d,rfl,F,hp,hr1,hr2,?_⟩
      repeat walk_at "rz"
      exact k H (Same.refl H)
    . skip
      repeat walk_at "rz"
      refine Zap F.ob rfl ?_
      repeat walk_at "rz"
      refine ⟨fr,x,ws,p,wd,n,rr,t,l,pr,d,rfl,F,hp,hr1,hr2,?_⟩
      repeat walk_at "rz"
      refine Zap F.ob rfl ?_
      repeat walk_at "rz"
      refine ⟨fr,x,ws,p,wd,n,rr,t,l,pr,d,rfl,F,hp,hr1,hr2,?_⟩
      repeat walk_at "rz"
      refine ⟨fr,x,ws,p,wd,n,b1,rfl,F,hp,hb1,fun H1 s1=>?_⟩
      have F1:=F.same s1
      have r1:=r.same s1
      have hp1:Zbj K H1 p wd n:=s1.tup hp
      rcases ha with ⟨hbar,rfl⟩|⟨hbar,hdr,rfl⟩|⟨hbar,hdr,rfl⟩
      . rw [hbar]
        repeat walk_at "rz"
        exact k H1 s1
      . skip
        rw [hbar]
        repeat walk_at "rz"
        refine ⟨R,Ar,S,m,fr,x,ws,p,wd,n,b1,b2,t,l,pr,d,rfl,r1,F1,hp1,hb1,hb2,hr2,?_⟩
        generalize (if (b1 || b2)=true then d else pr)=z at hdr |-
        repeat walk_at "rz"
        refine Zap F1.ob rfl ?_
        refine ⟨fr,x,ws,rfl,F1,?_⟩
        repeat walk_at "rz"
        exact k H1 s1
      . skip
        rw [hbar]
        repeat walk_at "rz"
        refine ⟨R,Ar,S,m,fr,x,ws,p,wd,n,b1,b2,t,l,pr,d,rfl,r1,F1,hp1,hb1,hb2,hr2,?_⟩
        generalize (if (b1 || b2)=true then d else pr)=z at hdr |-
        repeat walk_at "rz"
        refine Zap F1.ob rfl ?_
        refine ⟨fr,x,ws,rfl,F1,?_⟩
        repeat walk_at "rz"
        exact k H1 s1
end
noncomputable def inF3 (f:FrI) (b:Addr):Prop:=b=f.a\/b=f.ST\/b=f.SS
theorem k_F3 {f:FrI} {H H':Hp} (k:KeptX (inF f) H H'):KeptX (inF3 f) H H':=k.mono fun _ h=>h.elim .inl fun z=>.inr (.inl z)
noncomputable def Zdp (x:FrS) (c:Int):FrS:={ x with used:=x.used + c,row:=x.row + 1 }
structure Ap (R L:Addr) (A:Nat->Option AcI) (f:FrI):Prop where
  tR:f.ST ≠ R
  sR:f.SS ≠ R
  tL:f.ST ≠ L
  sL:f.SS ≠ L
  p:∀ i y,i < 16->A i=some y->f.ST ≠ y.pr/\f.SS ≠ y.pr
noncomputable def goX (A:Nat->Option AcI) (L:Addr) (f:FrI) (b:Addr):Prop:=¬ Out A b\/b=L\/inF3 f b
section
variable {K:PySem.W.Frag} {C cJ cS cM cN cF:Addr} {H H':Hp} {j dx R L:Addr} {A:Nat->Option AcI} {S:Nat->AcS} {m:Nat} {es:List DI} {f:FrI} {x:FrS} {ws:List V}
theorem Zc2 (k:KeptX (inF3 f) H H'):KeptX (goX A L f) H H':=k.mono fun _ h=>.inr (.inr h)
theorem ZjU (k:∀ b,Out A b->b ≠ L->H' b=H b):KeptX (goX A L f) H H':=fun b o e n=>by
  have h1:Out A b:=Classical.byContradiction fun z=>n (.inl z)
  have h2:b ≠ L:=fun z=>n (.inr (.inl z))
  rw [k b h1 h2]; exact e
theorem imm_F3 (F:FrAt cF H f x ws) (k:KeptX (inF3 f) H H'):SameI H H':=k.imm fun b o z e i=>by
  rcases z with rfl|rfl|rfl
  . rw [F.ob] at e; cases e; exact Zct i
  . rw [F.st] at e; cases e; exact ZbB i
  . rw [F.ss] at e; cases e; exact ZbB i
theorem Zdq (F:FrAt cF H f x ws) {b C' dx':Addr} {fs:List (Str × V)} (h:H b=some (.ins C' dx' fs)) (n:fs.length ≠ 15):¬ inF3 f b:=by
  rintro (z|z|z)
  . exact ZhW h F.ob n z
  . exact Zbe h F.st (by intro z; cases z) z
  . exact Zbe h F.ss (by intro z; cases z) z
theorem ZjV (F:FrAt cF H f x ws) {b:Addr} {kvs:List (Key × V)} (h:H b=some (.dK kvs)):¬ inF3 f b:=by
  rintro (z|z|z)
  . exact Zbe h F.ob (by intro z; cases z) z
  . exact Zbe h F.st (by intro z; cases z) z
  . exact Zbe h F.ss (by intro z; cases z) z
theorem Zdr (F:FrAt cF H f x ws) {b:Addr} {xs:List V} (h:H b=some (.lst xs)) (n1:f.ST ≠ b) (n2:f.SS ≠ b):¬ inF3 f b:=by
  rintro (z|z|z)
  . exact Zbe h F.ob (by intro z; cases z) z
  . exact n1 z.symm
  . exact n2 z.symm
theorem Rooms.frame (r:Rooms K C H R A S m) (F:FrAt cF H f x ws) (a:Ap R L A f) (k:KeptX (inF3 f) H H'):Rooms K C H' R A S m:=by
  have im:=imm_F3 F k
  refine ⟨k _ _ r.ob (Zdr F r.ob a.tR a.sR),fun i y hi hy=>?_,r.da,r.ds⟩
  have h:=r.ac i y hi hy
  obtain ⟨zs,e1,e2⟩:=h.pg
  obtain ⟨kvs,e3,e4⟩:=h.sto
  exact ⟨k _ _ h.ob (Zdq F h.ob (by show 5 ≠ 15; decide)),⟨zs,k _ _ e1 (Zdr F e1 (a.p i y hi hy).1 (a.p i y hi hy).2),e2.keep im⟩,kvs,k _ _ e3 (ZjV F e3),e4⟩
theorem Jr.frame (J:Jr cJ cS cM cN H j dx R L A es) (F:FrAt cF H f x ws) (a:Ap R L A f) (k:KeptX (inF3 f) H H'):Jr cJ cS cM cN H' j dx R L A es :=
  ⟨k _ _ J.ob (Zdq F J.ob (by show 2 ≠ 15; decide)),k _ _ J.li (Zdr F J.li a.tL a.sL),fun e he=>⟨k _ _ (J.de e he).1 (Zdq F (J.de e he).1 (by have:=Zfc e.d; omega)),(J.de e he).2⟩,J.nR,J.np⟩
theorem FrAt.out (F:FrAt cF H f x ws) (r:Rooms K C H R A S m) (a:Ap R L A f) (lL:H L=some (.lst (es.map fun e=>V.ref e.o))) (k:∀ b,Out A b->b ≠ L->H' b=H b):FrAt cF H' f x ws:=by
  have oa:Out A f.a:=fun i y hi hy=>⟨ZhW F.ob (r.ac i y hi hy).ob (by show 15 ≠ 5; decide),let ⟨_,g,_⟩:=(r.ac i y hi hy).sto; Zbe F.ob g (by intro z; cases z)⟩
  exact ⟨by rw [k _ oa (Zbe F.ob lL (by intro z; cases z))]; exact F.ob,by rw [k _ (r.outL F.st) a.tL]; exact F.st,by rw [k _ (r.outL F.ss) a.sL]; exact F.ss,F.ne⟩
end
noncomputable def ZbQ (K:PySem.W.Frag) (C cJ cS cM cN cF:Addr):Sp:=fun vs H Q _=>∃ (j dx R L:Addr) (A:Nat->Option AcI) (S:Nat->AcS) (m:Nat) (es:List DI) (e:DI) (f:FrI) (x:FrS) (ws:List V),vs=[.ref j,.ref f.a,.ref e.o]/\Jr cJ cS cM cN H j dx R L A es/\Rooms K C H R A S m/\H e.o=some (.ins (clsD cS cM cN e.d) e.dx (fldD e.d))/\fitsD A e.d/\m <= 1000000/\es.length < 1000000/\FrAt cF H f x ws/\Ap R L A f/\ws.length <= 100000 /\
  ∀ t H',H t=none->KeptX (goX A L f) H H'->Rooms K C H' R A (doneS S e.d) (m + 1)->Jr cJ cS cM cN H' j dx R L A (es ++ [e])->FrAt cF H' f x (ws ++ [.ref t])->H' t=some (.tup (tellV e.d))->Q .non H'
section
variable {P:Program} {w:World} {K:PySem.W.Frag} {mg:Str->Option Value} {base:Heap}
theorem Zfm:FnScope ["journal", "frame", "deed"] ["journal", "frame", "deed"] (Zab Zck):=⟨rfl,rfl,rfl,by decide +kernel,rfl,by decide +kernel,by decide +kernel⟩
theorem Zfn   {cJournal:Addr} {cFrame:Addr} {cSave:Addr} {cMove:Addr} {cNote:Addr} (D:Zao K mg "write_step" Zck) (tJournal:T_Journal K mg cJournal) (tFrame:T_Frame K mg cFrame) (tSave:T_Save K mg cSave) (tMove:T_Move K mg cMove) (tNote:T_Note K mg cNote) (m_Journal_write:MCal P w K mg base 3 cJournal "write" (ZjO K cAccount cJournal cSave cMove cNote)) (m_Save_told:MCal P w K mg base 1 cSave "told" (spTold cSave isSave)) (m_Move_told:MCal P w K mg base 1 cMove "told" (spTold cMove isMove)) (m_Note_told:MCal P w K mg base 1 cNote "told" (spTold cNote isNote)):Cal P w K mg base 4 "write_step" (ZbQ K cAccount cJournal cSave cMove cNote cFrame):=by
  refine Zaz (N:=["journal", "frame", "deed"]) (ps:=["journal", "frame", "deed"]) D Zfm (fun vs H Q E h=>?_) (fun _ _ _ _ _ _ us hl=>bd3 (R:=fun us=>bindArgs _ ⟨us,[]⟩=pure (List.zip _ us)) (fun _ _ _=>rfl) us hl) (fun f cdv A outer s H vs Q E hr h=>?_)
  . obtain ⟨j,dx,R,L,A,S,m,es,e,f,x,ws,rfl,_⟩:=h; rfl
  . obtain ⟨j,dx,R,L,Ar,S,m,es,e,fr,x,ws,rfl,J,r,he,fit,hm,hel,F,ap,hw,k⟩:=h
    refine ⟨_,(Zac (Zav (ZaH m_Journal_write (hr.mono (by decide)) (pv 0) (Zaa (pv 2) Zaf)))
      (Zad (Zav (ZeM PySem.F.plainAttrs_list PySem.F.slot_list_append PySem.F.type_list_append Zbr (Zal (pv 1) rfl) (Zaa (ZfX (T:=TTo cSave cMove cNote) (Zld m_Save_told m_Move_told m_Note_told) (hr.mono (by decide)) (pv 2)) Zaf))))),?_⟩
    walk_at "nx"
    repeat walk_at "rdk"
    refine Zap J.ob rfl ?_
    repeat walk_at "rdk"
    refine ⟨j,dx,R,L,Ar,S,m,es,e,rfl,J,r,he,fit,hm,hel,fun H1 k1 r1 J1=>?_⟩
    have F1:=F.out r ap J.li k1
    have he1:=(J1.de e (List.mem_append.mpr (.inr (List.mem_singleton.mpr rfl)))).1
    repeat walk_at "rdk"
    refine Zah F1.ob tFrame.k.cl tFrame.n_steps rfl ?_
    refine ⟨ZbL (ZaE F1.ss),?_⟩
    repeat walk_at "rdk"
    refine ZdI ?_
    repeat walk_at "rdk"
    refine ⟨e.o,clsD cSave cMove cNote e.d,e.dx,fldD e.d,_,rfl,he1,ZhZ e.d,Zl0 cSave cMove cNote e.d,?_⟩
    repeat walk_at "rdk"
    refine ⟨e.o,e.dx,e.d,rfl,ZcX e.d,he1,fun t ht=>?_⟩
    have s1:Same H1 (upd H1 t (.tup (tellV e.d))):=Same.new ht
    have r2:=r1.same s1
    have J2:=J1.same s1
    have F2:=F1.same s1
    have k2:KeptX (goX Ar L fr) H (upd H1 t (.tup (tellV e.d))):=(ZjU k1).trans s1.keptX
    have et:(upd H1 t (.tup (tellV e.d))) t=some (.tup (tellV e.d)):=Zag
    have htH:H t=none:=by
      cases z:H t with
      | none=>rfl
      | some o =>
        exfalso
        by_cases q:Out Ar t/\t ≠ L
        . rw [k1 t q.1 q.2,z] at ht; cases ht
        . by_cases q2:t=L
          . rw [q2,J1.li] at ht; cases ht
          . refine q ⟨fun i y hi hy=>⟨?_,?_⟩,q2⟩
            . intro z2; rw [z2,(r1.ac i y hi hy).ob] at ht; cases ht
            . intro z2; obtain ⟨kv,g1,_⟩:=(r1.ac i y hi hy).sto; rw [z2,g1] at ht; cases ht
    generalize upd H1 t _=H2 at s1 r2 J2 F2 k2 et
    repeat walk_at "rdk"
    refine ZbC F2.ss (Nat.lt_of_le_of_lt hw (by decide)) ?_
    repeat walk_at "rdk"
    have k3:KeptX (inF3 fr) H2 (upd H2 fr.SS (.lst (ws ++ [.ref t]))):=KeptX.upd (.inr (.inr rfl))
    exact k t _ htH (k2.trans (Zc2 k3)) (r2.frame F2 ap k3) (J2.frame F2 ap k3) (F2.setSS _) (by rw [Zai (Zbe et F2.ss (by intro z; cases z))]; exact et)
end
noncomputable def spAt (K:PySem.W.Frag) (C:Addr):Sp:=fun vs H Q _=>∃ (R:Addr) (A:Nat->Option AcI) (S:Nat->AcS) (m:Nat) (s:Int),vs=[.ref R,.int s]/\Rooms K C H R A S m/\Q (if 0 <= s/\s < 16 then roomV (A s.toNat) else .non) H
noncomputable def Zeg (K:PySem.W.Frag) (C cF:Addr):Sp:=fun vs H Q _=>∃ (R L:Addr) (vJ:V) (A:Nat->Option AcI) (S:Nat->AcS) (m:Nat) (f:FrI) (x:FrS) (ws:List V) (vp:V) (i:Nat) (y:AcI) (s:List Int) (pl:Int),vs=[.ref R,vJ,.ref f.a,vp]/\Rooms K C H R A S m/\FrAt cF H f x ws/\Ap R L A f/\x.who=(i:Int)/\i < 16/\A i=some y/\x.stack=s ++ [pl]/\x.stack.length <= 900 /\
  ∀ H',KeptX (inF3 f) H H'->FrAt cF H' f { x with stack:=s ++ [(S i).store pl] } ws->Q .non H'
noncomputable def Zhl (A:Nat->Option AcI) (S:Nat->AcS) (s:Int):Int:=if 0 <= s/\s < 16 then (match A s.toNat with|some _=>(S s.toNat).coin|none=>0) else 0
noncomputable def Zeh (K:PySem.W.Frag) (C cF:Addr):Sp:=fun vs H Q _=>∃ (R L:Addr) (vJ:V) (A:Nat->Option AcI) (S:Nat->AcS) (m:Nat) (f:FrI) (x:FrS) (ws:List V) (vp:V) (s:List Int) (sl:Int),vs=[.ref R,vJ,.ref f.a,vp]/\Rooms K C H R A S m/\FrAt cF H f x ws/\Ap R L A f/\x.stack=s ++ [sl]/\x.stack.length <= 900 /\
  ∀ H',KeptX (inF3 f) H H'->FrAt cF H' f { x with stack:=s ++ [Zhl A S sl] } ws->Q .non H'
noncomputable def Zl1 (K:PySem.W.Frag) (C cJ cS cM cN cF:Addr) (H:Hp) (j dx R L:Addr) (A:Nat->Option AcI) (S:Nat->AcS) (m:Nat) (es:List DI) (f:FrI) (x:FrS) (ws:List V) (d:Dd) (Q:VK):Prop :=
  ∀ t e H',e.d=d->H t=none->KeptX (goX A L f) H H'->Rooms K C H' R A (doneS S d) (m + 1)->Jr cJ cS cM cN H' j dx R L A (es ++ [e])->FrAt cF H' f x (ws ++ [.ref t])->H' t=some (.tup (tellV d))->Q .non H'
noncomputable def Zei (K:PySem.W.Frag) (C cJ cS cM cN cF:Addr):Sp:=fun vs H Q _=>∃ (j dx R L:Addr) (A:Nat->Option AcI) (S:Nat->AcS) (m:Nat) (es:List DI) (f:FrI) (x:FrS) (ws:List V) (vp:V) (i:Nat) (y:AcI) (s:List Int) (pl v:Int),vs=[.ref R,.ref j,.ref f.a,vp]/\Jr cJ cS cM cN H j dx R L A es/\Rooms K C H R A S m/\m <= 1000000/\es.length < 1000000/\FrAt cF H f x ws/\Ap R L A f/\ws.length <= 100000/\x.who=(i:Int)/\i < 16/\A i=some y/\x.stack=s ++ [pl,v] /\
  Zl1 K C cJ cS cM cN cF H j dx R L A S m es f { x with stack:=s } ws (.save (i:Int) pl ((S i).store pl) v) Q
noncomputable def Zej (K:PySem.W.Frag) (C cJ cS cM cN cF:Addr):Sp:=fun vs H Q _=>∃ (j dx R L:Addr) (A:Nat->Option AcI) (S:Nat->AcS) (m:Nat) (es:List DI) (f:FrI) (x:FrS) (ws:List V) (vp:V) (s:List Int) (v:Int),vs=[.ref R,.ref j,.ref f.a,vp]/\Jr cJ cS cM cN H j dx R L A es/\Rooms K C H R A S m/\m <= 1000000/\es.length < 1000000/\FrAt cF H f x ws/\Ap R L A f/\ws.length <= 100000/\x.stack=s ++ [v] /\
  Zl1 K C cJ cS cM cN cF H j dx R L A S m es f { x with stack:=s } ws (.note x.who v) Q
section
variable {P:Program} {w:World} {K:PySem.W.Frag} {mg:Str->Option Value} {base:Heap}
theorem Zfo:FnScope ["rooms", "slot"] ["rooms", "slot"] (Zab Zch):=⟨rfl,rfl,rfl,by decide +kernel,rfl,by decide +kernel,by decide +kernel⟩
theorem Zfp    (D:Zao K mg "account_at" Zch) (n_len:mg "len" = none):Cal P w K mg base 1 "account_at" (spAt K cAccount):=by
  refine Zaz (N:=["rooms", "slot"]) (ps:=["rooms", "slot"]) D Zfo (fun vs H Q E h=>?_) (fun _ _ _ _ _ _ us hl=>bd2 (R:=fun us=>bindArgs _ ⟨us,[]⟩=pure (List.zip _ us)) (fun _ _=>rfl) us hl) (fun f cdv A outer s H vs Q E hr h=>?_)
  . obtain ⟨R,A,S,m,s,rfl,_⟩:=h; rfl
  . obtain ⟨R,Ar,S,m,s0,rfl,r,k⟩:=h
    refine ⟨_,(Zac (ZaP (Zkw op_le ZiW Zae (pv 1) (ZaR Zb9 rfl n_len PySem.boot_len (Zaa (pv 0) Zaf))) (Zad (Zam (Zay ZaA (pv 0) (pv 1) (fun _ _=>rfl)))) Zat)
      (Zad (Zam Zca))),?_⟩
    walk_at "nx"
    have hRs:=ZaE (K:=K) r.ob
    have hl16:(((List.range 16).map fun i=>roomV (Ar i)).length:Int)=16:=by rw [List.length_map,List.length_range]; rfl
    repeat' walk_at "rdk"
    . rename_i h1 h2
      rw [hl16] at h2
      rw [if_pos ⟨h1,h2⟩] at k
      refine Za8 hRs (ZcU (i:=s0.toNat) (by rw [List.getElem?_map,List.getElem?_range (by omega)]; rfl) (by omega)) ?_
      exact k
    . rename_i h1 h2
      rw [hl16] at h2
      rw [if_neg (fun z=>h2 z.2)] at k
      exact k
    . rename_i h1
      rw [if_neg (fun z=>h1 z.1)] at k
      exact k
theorem Zek:FnScope ["rooms", "journal", "frame", "row", "taken"] ["rooms", "journal", "frame", "row"] (Zab Zdd):=⟨rfl,rfl,rfl,by decide +kernel,rfl,by decide +kernel,by decide +kernel⟩
theorem Zhm   {cFrame:Addr} {cAccount:Addr} (D:Zao K mg "load_row" Zdd) (tFrame:T_Frame K mg cFrame) (tAccount:T_Account K mg cAccount) (m_Frame_taken:MCal P w K mg base 1 cFrame "taken" (ZbP cFrame)) (m_Frame_lay:MCal P w K mg base 1 cFrame "lay" (spLay cFrame)) (m_Account_loaded:MCal P w K mg base 1 cAccount "loaded" (ZdH K cAccount)):Cal P w K mg base 2 "load_row" (Zeg K cAccount cFrame):=by
  refine Zaz (N:=["rooms", "journal", "frame", "row", "taken"]) (ps:=["rooms", "journal", "frame", "row"]) D Zek (fun vs H Q E h=>?_) (fun _ _ _ _ _ _ us hl=>bd4 (R:=fun us=>bindArgs _ ⟨us,[]⟩=pure (List.zip _ us)) (fun _ _ _ _=>rfl) us hl) (fun f cdv A outer s H vs Q E hr h=>?_)
  . obtain ⟨R,L,vJ,A,S,m,f,x,ws,vp,i,y,s,pl,rfl,_⟩:=h; rfl
  . obtain ⟨R,L,vJ,Ar,S,m,fr,x,ws,vp,i,y,s0,pl,rfl,r,F,ap,ew,hi,hy,e0,hl,k⟩:=h
    refine ⟨_,(Zac (ZaI (i:=4) Zek.nd rfl (by first|exact Or.inl rfl|exact Or.inr rfl) (ZaH m_Frame_taken (hr.mono (by decide)) (pv 2) (Zaa Zae Zaf)))
      (Zad (Zav (ZaH m_Frame_lay (hr.mono (by decide)) (pv 2) (Zaa (ZaH m_Account_loaded (hr.mono (by decide)) (Zay ZaA (pv 0) (Zal (pv 2) rfl) (fun _ _=>rfl)) (Zaa (Zay ZaA (pv 4) Zae (fun _ _=>rfl)) Zaf)) Zaf))))),?_⟩
    walk_at "nx"
    repeat walk_at "rdk"
    refine Zap F.ob rfl ?_
    repeat walk_at "rdk"
    refine ⟨fr,x,ws,s0,[pl],rfl,F,e0,by show 1 <= 1000; decide,fun q H1 _ k1 F1 e1=>?_⟩
    have e1':H1 q=some (.lst [.int pl]):=e1
    have k1':KeptX (inF3 fr) H H1:=k1.mono fun _ h=>.inr (.inl h)
    have r1:=r.frame F ap k1'
    have ay:=r1.ac i y hi hy
    repeat walk_at "rdk"
    refine Zap F1.ob rfl ?_
    repeat walk_at "rdk"
    refine Zah F1.ob tFrame.k.cl tFrame.n_who rfl ?_
    rw [ew]
    refine Za8 (ZaE r1.ob) (r1.at hi hy) ?_
    refine Zap ay.ob rfl ?_
    repeat walk_at "rdk"
    refine ⟨y.a,y.dx,y.pr,y.st,_,_,_,_,_,m,pl,rfl,ay,?_⟩
    repeat walk_at "rdk"
    have hl1:s0.length <= 1000:=by rw [e0,List.length_append] at hl; omega
    refine ⟨fr,_,ws,_,rfl,F1,hl1,fun H2 k2 F2=>?_⟩
    repeat walk_at "rdk"
    exact k H2 (k1'.trans (k2.mono fun _ h=>.inr (.inl h))) F2
theorem ZcO:FnScope ["rooms", "journal", "frame", "row", "taken", "account"] ["rooms", "journal", "frame", "row"] (Zab Zdi):=⟨rfl,rfl,rfl,by decide +kernel,rfl,by decide +kernel,by decide +kernel⟩
theorem Zhn   {cFrame:Addr} {cAccount:Addr} (D:Zao K mg "coin_row" Zdi) (tFrame:T_Frame K mg cFrame) (tAccount:T_Account K mg cAccount) (m_Frame_taken:MCal P w K mg base 1 cFrame "taken" (ZbP cFrame)) (m_Frame_lay:MCal P w K mg base 1 cFrame "lay" (spLay cFrame)) (c_account_at:Cal P w K mg base 1 "account_at" (spAt K cAccount)):Cal P w K mg base 2 "coin_row" (Zeh K cAccount cFrame):=by
  refine Zaz (N:=["rooms", "journal", "frame", "row", "taken", "account"]) (ps:=["rooms", "journal", "frame", "row"]) D ZcO (fun vs H Q E h=>?_) (fun _ _ _ _ _ _ us hl=>bd4 (R:=fun us=>bindArgs _ ⟨us,[]⟩=pure (List.zip _ us)) (fun _ _ _ _=>rfl) us hl) (fun f cdv A outer s H vs Q E hr h=>?_)
  . obtain ⟨R,L,vJ,A,S,m,f,x,ws,vp,s,sl,rfl,_⟩:=h; rfl
  . obtain ⟨R,L,vJ,Ar,S,m,fr,x,ws,vp,s0,sl,rfl,r,F,ap,e0,hl,k⟩:=h
    refine ⟨_,(Zac (ZaI (i:=4) ZcO.nd rfl (by first|exact Or.inl rfl|exact Or.inr rfl) (ZaH m_Frame_taken (hr.mono (by decide)) (pv 2) (Zaa Zae Zaf)))
      (Zac (ZaI (i:=5) ZcO.nd rfl (by first|exact Or.inl rfl|exact Or.inr rfl) (ZaG c_account_at (hr.mono (by decide)) rfl (Zaa (pv 0) (Zaa (Zay ZaA (pv 4) Zae (fun _ _=>rfl)) Zaf))))
      (Zad (Zav (ZaH m_Frame_lay (hr.mono (by decide)) (pv 2) (Zaa (ZdC (Zaq ZdV (pv 5) Zca (nomark _)) Zae (Zal (pv 5) rfl)) Zaf)))))),?_⟩
    walk_at "nx"
    repeat walk_at "rdk"
    refine Zap F.ob rfl ?_
    repeat walk_at "rdk"
    refine ⟨fr,x,ws,s0,[sl],rfl,F,e0,by show 1 <= 1000; decide,fun q H1 _ k1 F1 e1=>?_⟩
    have e1':H1 q=some (.lst [.int sl]):=e1
    have k1':KeptX (inF3 fr) H H1:=k1.mono fun _ h=>.inr (.inl h)
    have r1:=r.frame F ap k1'
    have hl1:s0.length <= 1000:=by rw [e0,List.length_append] at hl; omega
    repeat walk_at "rdk"
    refine ⟨R,Ar,S,m,sl,rfl,r1,?_⟩
    unfold Zhl at k
    by_cases h0:0 <= sl/\sl < 16
    . rw [if_pos h0] at k |-
      cases hA:Ar sl.toNat with
      | none =>
        rw [hA] at k
        rw [show roomV none=V.non from rfl]
        repeat walk_at "rdk"
        refine Zap F1.ob rfl ?_
        repeat walk_at "rdk"
        refine ⟨fr,_,ws,_,rfl,F1,hl1,fun H2 k2 F2=>?_⟩
        repeat walk_at "rdk"
        exact k H2 (k1'.trans (k2.mono fun _ h=>.inr (.inl h))) F2
      | some y =>
        rw [hA] at k
        rw [show roomV (some y)=V.ref y.a from rfl]
        have ay:=r1.ac sl.toNat y (by omega) hA
        repeat walk_at "rdk"
        refine Zap F1.ob rfl ?_
        repeat walk_at "rdk"
        refine Zah ay.ob tAccount.k.cl tAccount.n_coin rfl ?_
        repeat walk_at "rdk"
        refine ⟨fr,_,ws,_,rfl,F1,hl1,fun H2 k2 F2=>?_⟩
        repeat walk_at "rdk"
        exact k H2 (k1'.trans (k2.mono fun _ h=>.inr (.inl h))) F2
    . rw [if_neg h0] at k |-
      repeat walk_at "rdk"
      refine Zap F1.ob rfl ?_
      repeat walk_at "rdk"
      refine ⟨fr,_,ws,_,rfl,F1,hl1,fun H2 k2 F2=>?_⟩
      repeat walk_at "rdk"
      exact k H2 (k1'.trans (k2.mono fun _ h=>.inr (.inl h))) F2
theorem ZcP:FnScope ["rooms", "journal", "frame", "row", "taken", "old"] ["rooms", "journal", "frame", "row"] (Zab Zde):=⟨rfl,rfl,rfl,by decide +kernel,rfl,by decide +kernel,by decide +kernel⟩
theorem Zho   {cFrame:Addr} {cAccount:Addr} {cSave:Addr} (D:Zao K mg "save_row" Zde) (tFrame:T_Frame K mg cFrame) (tAccount:T_Account K mg cAccount) (tSave:T_Save K mg cSave) (m_Frame_taken:MCal P w K mg base 1 cFrame "taken" (ZbP cFrame)) (m_Account_loaded:MCal P w K mg base 1 cAccount "loaded" (ZdH K cAccount)) (i_Save:ICal P w K mg base 1 "Save" cSave (ZhU cSave)) (c_write_step:Cal P w K mg base 4 "write_step" (ZbQ K cAccount cJournal cSave cMove cNote cFrame)):Cal P w K mg base 5 "save_row" (Zei K cAccount cJournal cSave cMove cNote cFrame):=by
  refine Zaz (N:=["rooms", "journal", "frame", "row", "taken", "old"]) (ps:=["rooms", "journal", "frame", "row"]) D ZcP (fun vs H Q E h=>?_) (fun _ _ _ _ _ _ us hl=>bd4 (R:=fun us=>bindArgs _ ⟨us,[]⟩=pure (List.zip _ us)) (fun _ _ _ _=>rfl) us hl) (fun f cdv A outer s H vs Q E hr h=>?_)
  . obtain ⟨j,dx,R,L,A,S,m,es,f,x,ws,vp,i,y,s,pl,v,rfl,_⟩:=h; rfl
  . obtain ⟨j,dx,R,L,Ar,S,m,es,fr,x,ws,vp,i,y,s0,pl,v,rfl,J,r,hm,hel,F,ap,hw,ew,hi,hy,e0,k⟩:=h
    refine ⟨_,(Zac (ZaI (i:=4) ZcP.nd rfl (by first|exact Or.inl rfl|exact Or.inr rfl) (ZaH m_Frame_taken (hr.mono (by decide)) (pv 2) (Zaa Zae Zaf)))
      (Zac (ZaI (i:=5) ZcP.nd rfl (by first|exact Or.inl rfl|exact Or.inr rfl) (ZaH m_Account_loaded (hr.mono (by decide)) (Zay ZaA (pv 0) (Zal (pv 2) rfl) (fun _ _=>rfl)) (Zaa (Zay ZaA (pv 4) Zae (fun _ _=>rfl)) Zaf)))
      (Zad (Zav (ZaG c_write_step (hr.mono (by decide)) rfl (Zaa (pv 1) (Zaa (pv 2) (Zaa (ZcE i_Save (hr.mono (by decide)) rfl (Zaa (Zal (pv 2) rfl) (Zaa (Zay ZaA (pv 4) Zae (fun _ _=>rfl)) (Zaa (pv 5) (Zaa (Zay ZaA (pv 4) Zae (fun _ _=>rfl)) Zaf))))) Zaf)))))))),?_⟩
    walk_at "nx"
    repeat walk_at "rdk"
    refine Zap F.ob rfl ?_
    repeat walk_at "rdk"
    refine ⟨fr,x,ws,s0,[pl,v],rfl,F,e0,by show 2 <= 1000; decide,fun q H1 _ k1 F1 e1=>?_⟩
    have e1':H1 q=some (.lst [.int pl,.int v]):=e1
    have k1':KeptX (inF3 fr) H H1:=k1.mono fun _ h=>.inr (.inl h)
    have r1:=r.frame F ap k1'
    have J1:=J.frame F ap k1'
    have ay:=r1.ac i y hi hy
    repeat walk_at "rdk"
    refine Zah F1.ob tFrame.k.cl tFrame.n_who rfl ?_
    rw [ew]
    refine Za8 (ZaE r1.ob) (r1.at hi hy) ?_
    refine Zap ay.ob rfl ?_
    repeat walk_at "rdk"
    refine ⟨y.a,y.dx,y.pr,y.st,_,_,_,_,_,m,pl,rfl,ay,?_⟩
    repeat walk_at "rdk"
    refine Zah F1.ob tFrame.k.cl tFrame.n_who rfl ?_
    rw [ew]
    repeat walk_at "rdk"
    intro ob odx hx hdx hne
    have hx2:(upd H1 odx (.own ob)) ob=none:=by rw [Zai (Ne.symm hne)]; exact hx
    refine ⟨ob,odx,(i:Int),pl,(S i).store pl,v,rfl,Zag,rfl,?_⟩
    rw [ZaS]
    have s1:Same H1 (upd (upd H1 odx (.own ob)) ob (.ins cSave odx (saveF (i:Int) pl ((S i).store pl) v))):=(Same.new hdx).newT hx2
    have eo:(upd (upd H1 odx (.own ob)) ob (.ins cSave odx (saveF (i:Int) pl ((S i).store pl) v))) ob=some (.ins cSave odx (saveF (i:Int) pl ((S i).store pl) v)):=Zag
    have J2:=J1.same s1
    have r2:=r1.same s1
    have F2:=F1.same s1
    generalize upd (upd H1 odx (.own ob)) ob (.ins cSave odx (saveF (i:Int) pl ((S i).store pl) v))=H2 at s1 eo J2 r2 F2
    repeat walk_at "rdk"
    refine ⟨j,dx,R,L,Ar,S,m,es,⟨ob,odx,.save (i:Int) pl ((S i).store pl) v⟩,fr,_,ws,rfl,J2,r2,eo,⟨i,y,rfl,hi,hy⟩,hm,hel,F2,ap,hw,fun t H3 ht k3 r3 J3 F3 et=>?_⟩
    repeat walk_at "rdk"
    have sk:KeptX (goX Ar L fr) H H2:=(Zc2 k1').trans s1.keptX
    refine k t ⟨ob,odx,.save (i:Int) pl ((S i).store pl) v⟩ H3 rfl ?_ (sk.trans k3) r3 J3 F3 et
    cases z:H t with
    | none=>rfl
    | some oo =>
      exfalso
      by_cases q:t=fr.ST
      . rw [q,F2.st] at ht; cases ht
      . rw [s1 _ _ (k1 t oo z q)] at ht; cases ht
theorem Zel:FnScope ["rooms", "journal", "frame", "row", "taken"] ["rooms", "journal", "frame", "row"] (Zab Zdj):=⟨rfl,rfl,rfl,by decide +kernel,rfl,by decide +kernel,by decide +kernel⟩
theorem Zhp   {cFrame:Addr} {cNote:Addr} (D:Zao K mg "note_row" Zdj) (tFrame:T_Frame K mg cFrame) (tNote:T_Note K mg cNote) (m_Frame_taken:MCal P w K mg base 1 cFrame "taken" (ZbP cFrame)) (i_Note:ICal P w K mg base 1 "Note" cNote (ZhV cNote)) (c_write_step:Cal P w K mg base 4 "write_step" (ZbQ K cAccount cJournal cSave cMove cNote cFrame)):Cal P w K mg base 5 "note_row" (Zej K cAccount cJournal cSave cMove cNote cFrame):=by
  refine Zaz (N:=["rooms", "journal", "frame", "row", "taken"]) (ps:=["rooms", "journal", "frame", "row"]) D Zel (fun vs H Q E h=>?_) (fun _ _ _ _ _ _ us hl=>bd4 (R:=fun us=>bindArgs _ ⟨us,[]⟩=pure (List.zip _ us)) (fun _ _ _ _=>rfl) us hl) (fun f cdv A outer s H vs Q E hr h=>?_)
  . obtain ⟨j,dx,R,L,A,S,m,es,f,x,ws,vp,s,v,rfl,_⟩:=h; rfl
  . obtain ⟨j,dx,R,L,Ar,S,m,es,fr,x,ws,vp,s0,v,rfl,J,r,hm,hel,F,ap,hw,e0,k⟩:=h
    refine ⟨_,(Zac (ZaI (i:=4) Zel.nd rfl (by first|exact Or.inl rfl|exact Or.inr rfl) (ZaH m_Frame_taken (hr.mono (by decide)) (pv 2) (Zaa Zae Zaf)))
      (Zad (Zav (ZaG c_write_step (hr.mono (by decide)) rfl (Zaa (pv 1) (Zaa (pv 2) (Zaa (ZcE i_Note (hr.mono (by decide)) rfl (Zaa (Zal (pv 2) rfl) (Zaa (Zay ZaA (pv 4) Zae (fun _ _=>rfl)) Zaf))) Zaf))))))),?_⟩
    walk_at "nx"
    repeat walk_at "rdk"
    refine Zap F.ob rfl ?_
    repeat walk_at "rdk"
    refine ⟨fr,x,ws,s0,[v],rfl,F,e0,by show 1 <= 1000; decide,fun q H1 _ k1 F1 e1=>?_⟩
    have e1':H1 q=some (.lst [.int v]):=e1
    have k1':KeptX (inF3 fr) H H1:=k1.mono fun _ h=>.inr (.inl h)
    have r1:=r.frame F ap k1'
    have J1:=J.frame F ap k1'
    repeat walk_at "rdk"
    refine Zah F1.ob tFrame.k.cl tFrame.n_who rfl ?_
    repeat walk_at "rdk"
    intro ob odx hx hdx hne
    have hx2:(upd H1 odx (.own ob)) ob=none:=by rw [Zai (Ne.symm hne)]; exact hx
    refine ⟨ob,odx,x.who,v,rfl,Zag,rfl,?_⟩
    rw [ZaS]
    have s1:Same H1 (upd (upd H1 odx (.own ob)) ob (.ins cNote odx (noteF x.who v))):=(Same.new hdx).newT hx2
    have eo:(upd (upd H1 odx (.own ob)) ob (.ins cNote odx (noteF x.who v))) ob=some (.ins cNote odx (noteF x.who v)):=Zag
    have J2:=J1.same s1
    have r2:=r1.same s1
    have F2:=F1.same s1
    generalize upd (upd H1 odx (.own ob)) ob (.ins cNote odx (noteF x.who v))=H2 at s1 eo J2 r2 F2
    repeat walk_at "rdk"
    refine ⟨j,dx,R,L,Ar,S,m,es,⟨ob,odx,.note x.who v⟩,fr,_,ws,rfl,J2,r2,eo,trivial,hm,hel,F2,ap,hw,fun t H3 ht k3 r3 J3 F3 et=>?_⟩
    repeat walk_at "rdk"
    have sk:KeptX (goX Ar L fr) H H2:=(Zc2 k1').trans s1.keptX
    refine k t ⟨ob,odx,.note x.who v⟩ H3 rfl ?_ (sk.trans k3) r3 J3 F3 et
    cases z:H t with
    | none=>rfl
    | some oo =>
      exfalso
      by_cases q:t=fr.ST
      . rw [q,F2.st] at ht; cases ht
      . rw [s1 _ _ (k1 t oo z q)] at ht; cases ht
end
noncomputable def Zh1 (x:FrS) (w:Str) (s:List Int) (y:FrS):Prop :=
  (w = "call" /\ ∃ slot c asks word,x.stack=s ++ [slot,c,asks,word]/\y=frame0 "call" slot slot x.who c word asks (x.depth + 1) x.looking) \/
  (w = "borrow" /\ ∃ slot asks word,x.stack=s ++ [slot,asks,word]/\y=frame0 "borrow" x.who slot x.caller x.coin word asks (x.depth + 1) x.looking) \/
  (w = "look" /\ ∃ slot asks word,x.stack=s ++ [slot,asks,word]/\y=frame0 "look" slot slot x.who 0 word asks (x.depth + 1) true)
noncomputable def Zhq (K:PySem.W.Frag) (cF:Addr):Sp:=fun vs H Q _=>∃ (f:FrI) (x y:FrS) (ws:List V) (p:Addr) (w:Str) (n:Option Int) (s:List Int),vs=[.ref f.a,.ref p]/\FrAt cF H f x ws/\Zbj K H p w n/\Zh1 x w s y /\
  ∀ g H',H g.a=none->H g.ST=none->H g.SS=none->KeptX (·=f.ST) H H'->FrAt cF H' f { x with stack:=s } ws->FrAt cF H' g y []->Q (.ref g.a) H'
noncomputable def Zem (A:Nat->Option AcI) (S:Nat->AcS) (y:FrS) (e:Option Str):Prop :=
  ((if 0 <= y.whose/\y.whose < 16 then roomV (A y.whose.toNat) else .non)=.non/\e=some ("nobody" : Str)) \/
  (∃ ac,0 <= y.whose/\y.whose < 16/\A y.whose.toNat=some ac/\((8 < y.depth/\e=some ("deep" : Str))\/(¬ 8 < y.depth/\y.kind ≠ "call" /\ e=none) \/
    (¬ 8 < y.depth/\y.kind = "call" /\ ∃ i z,y.caller=((i:Nat):Int)/\i < 16/\A i=some z/\(((S i).coin < y.coin/\e=some ("poor" : Str))\/(¬ (S i).coin < y.coin/\e=none)))))
noncomputable def Zfq (K:PySem.W.Frag) (C cF:Addr):Sp:=fun vs H Q _=>∃ (R:Addr) (A:Nat->Option AcI) (S:Nat->AcS) (m:Nat) (f:FrI) (y:FrS) (ws:List V) (e:Option Str),vs=[.ref R,.ref f.a]/\Rooms K C H R A S m/\FrAt cF H f y ws/\Zem A S y e/\Q (endV e) H
section
variable {P:Program} {w:World} {K:PySem.W.Frag} {mg:Str->Option Value} {base:Heap}
local macro_rules|`(tactic| walk_at "rwx")=>`(tactic| first
  | walk_at "rdx"
  | ((with_reducible refine' L2.ZbY ?h ?e ?_); (case h=>assumption); (case e=>exact My.ZgZ))
  | fail)
theorem Zbm:FnScope ["frame", "row", "taken", "slot", "asks", "word", "depth"] ["frame", "row"] (Zab Zcn):=⟨rfl,rfl,rfl,by decide +kernel,rfl,by decide +kernel,by decide +kernel⟩
theorem Zfr   {cFrame:Addr} (D:Zao K mg "other_call" Zcn) (tFrame:T_Frame K mg cFrame) (m_Frame_taken:MCal P w K mg base 1 cFrame "taken" (ZbP cFrame)) (c_takes:Cal P w K mg base 2 "takes" (Ze7 K)) (iD9_Frame:ZgN P w K mg base 1 "Frame" cFrame (Zd9 cFrame) []):Cal P w K mg base 3 "other_call" (Zhq K cFrame):=by
  refine Zaz (N:=["frame", "row", "taken", "slot", "asks", "word", "depth"]) (ps:=["frame", "row"]) D Zbm (fun vs H Q E h=>?_) (fun _ _ _ _ _ _ us hl=>bd2 (R:=fun us=>bindArgs _ ⟨us,[]⟩=pure (List.zip _ us)) (fun _ _=>rfl) us hl) (fun f cdv A outer s H vs Q E hr h=>?_)
  . obtain ⟨f,x,y,ws,p,w,n,s,rfl,_⟩:=h; rfl
  . obtain ⟨fr,x,y,ws,p,wd,n,s0,rfl,F,hp,hO,k⟩:=h
    refine ⟨_,(Zac (ZaI (i:=2) Zbm.nd rfl (by first|exact Or.inl rfl|exact Or.inr rfl) (ZaH m_Frame_taken (hr.mono (by decide)) (pv 0) (Zaa (ZaG c_takes (hr.mono (by decide)) rfl (Zaa (pv 1) Zaf)) Zaf)))
      (Zac (ZaI (i:=3) Zbm.nd rfl (by first|exact Or.inl rfl|exact Or.inr rfl) (Zay ZaA (pv 2) Zae (fun _ _=>rfl)))
      (Zac (ZaI (i:=4) Zbm.nd rfl (by first|exact Or.inl rfl|exact Or.inr rfl) (Zay ZaA (pv 2) (Zc4 ZbW Zae) (fun _ _=>rfl)))
      (Zac (ZaI (i:=5) Zbm.nd rfl (by first|exact Or.inl rfl|exact Or.inr rfl) (Zay ZaA (pv 2) (Zc4 ZbW Zae) (fun _ _=>rfl)))
      (Zac (ZaI (i:=6) Zbm.nd rfl (by first|exact Or.inl rfl|exact Or.inr rfl) (ZaN ZbA (Zal (pv 0) rfl) Zae))
      (Zac (ZaP (Zaq ZbF (Zay ZaF (pv 1) Zae (fun _ _=>rfl)) Zas (nomark _)) (Zad (Zam (ZdF iD9_Frame (hr.mono (by decide)) rfl (Zaa Zas (Zaa (pv 3) (Zaa (pv 3) (Zaa (Zal (pv 0) rfl) (Zaa (Zay ZaA (pv 2) Zae (fun _ _=>rfl)) (Zaa (pv 5) (Zaa (pv 4) (Zaa (pv 6) (Zaa (Zal (pv 0) rfl) Zaf)))))))))))) Zat)
      (Zac (ZaP (Zaq ZbF (Zay ZaF (pv 1) Zae (fun _ _=>rfl)) Zas (nomark _)) (Zad (Zam (ZdF iD9_Frame (hr.mono (by decide)) rfl (Zaa Zas (Zaa (Zal (pv 0) rfl) (Zaa (pv 3) (Zaa (Zal (pv 0) rfl) (Zaa (Zal (pv 0) rfl) (Zaa (pv 5) (Zaa (pv 4) (Zaa (pv 6) (Zaa (Zal (pv 0) rfl) Zaf)))))))))))) Zat)
      (Zad (Zam (ZdF iD9_Frame (hr.mono (by decide)) rfl (Zaa Zas (Zaa (pv 3) (Zaa (pv 3) (Zaa (Zal (pv 0) rfl) (Zaa Zae (Zaa (pv 5) (Zaa (pv 4) (Zaa (pv 6) (Zaa Zie Zaf))))))))))))))))))),?_⟩
    walk_at "nx"
    rcases hO with ⟨rfl,slot,c,asks,word,e0,rfl⟩|⟨rfl,slot,asks,word,e0,rfl⟩|⟨rfl,slot,asks,word,e0,rfl⟩
    . skip
      have hp0:=hp
      repeat walk_at "rw"
      refine Zap F.ob rfl ?_
      repeat walk_at "rw"
      refine ⟨p,_,n,0,4,2,8,12,rfl,hp,rfl,rfl,?_⟩
      rw [show (4:Int) + 0=(([slot,c,asks,word]:List Int).length:Nat) from rfl]
      repeat walk_at "rw"
      refine ⟨fr,x,ws,s0,[slot,c,asks,word],rfl,F,e0,by show 4 <= 1000; decide,fun q H1 _ k1 F1 e1=>?_⟩
      have e1':H1 q=some (.lst [.int slot,.int c,.int asks,.int word]):=e1
      have hp1:=Zb7 hp F (k_st k1)
      repeat' walk_at "rw"
      refine Zah F1.ob tFrame.k.cl tFrame.n_depth rfl ?_
      repeat walk_at "rwx"
      refine Zah F1.ob tFrame.k.cl tFrame.n_who rfl ?_
      repeat walk_at "rwx"
      refine Zah F1.ob tFrame.k.cl tFrame.n_looking rfl ?_
      repeat walk_at "rwx"
      intro ga gdx hga hgdx hgne
      have hga2:(upd H1 gdx (.own ga)) ga=none:=by rw [Zai (Ne.symm hgne)]; exact hga
      have s1:Same H1 (upd (upd H1 gdx (.own ga)) ga (.ins cFrame gdx [])):=(Same.new hgdx).newT hga2
      refine ⟨ga,gdx, "call", slot,slot,x.who,c,word,asks,x.depth + 1,x.looking,rfl,Zag,fun ST SS H2 hST hSS G2 kk=>⟨rfl,?_⟩⟩
      have sa:Same H1 H2:=fun b o e=>kk b o (s1 b o e) (Zaj e hga)
      have fr1:∀ b,H1 b=none->H b=none:=fun b hb=>by
        cases z:H b with
        | none=>rfl
        | some oo =>
          exfalso
          by_cases q:b=fr.ST
          . rw [q,F1.st] at hb; cases hb
          . rw [k1 b oo z q] at hb; cases hb
      exact k ⟨ga,gdx,ST,SS⟩ H2 (fr1 _ hga) (fr1 _ (s1.fresh hST)) (fr1 _ (s1.fresh hSS)) (k1.trans sa.keptX) (F1.same sa) G2
    . skip
      have hp0:=hp
      repeat walk_at "rw"
      refine Zap F.ob rfl ?_
      repeat walk_at "rw"
      refine ⟨p,_,n,0,3,2,6,6,rfl,hp,rfl,rfl,?_⟩
      rw [show (3:Int) + 0=(([slot,asks,word]:List Int).length:Nat) from rfl]
      repeat walk_at "rw"
      refine ⟨fr,x,ws,s0,[slot,asks,word],rfl,F,e0,by show 3 <= 1000; decide,fun q H1 _ k1 F1 e1=>?_⟩
      have e1':H1 q=some (.lst [.int slot,.int asks,.int word]):=e1
      have hp1:=Zb7 hp F (k_st k1)
      repeat' walk_at "rw"
      refine Zah F1.ob tFrame.k.cl tFrame.n_depth rfl ?_
      repeat walk_at "rwx"
      refine Zah F1.ob tFrame.k.cl tFrame.n_who rfl ?_
      repeat walk_at "rwx"
      refine Zah F1.ob tFrame.k.cl tFrame.n_caller rfl ?_
      repeat walk_at "rwx"
      refine Zah F1.ob tFrame.k.cl tFrame.n_coin rfl ?_
      repeat walk_at "rwx"
      refine Zah F1.ob tFrame.k.cl tFrame.n_looking rfl ?_
      repeat walk_at "rwx"
      intro ga gdx hga hgdx hgne
      have hga2:(upd H1 gdx (.own ga)) ga=none:=by rw [Zai (Ne.symm hgne)]; exact hga
      have s1:Same H1 (upd (upd H1 gdx (.own ga)) ga (.ins cFrame gdx [])):=(Same.new hgdx).newT hga2
      refine ⟨ga,gdx, "borrow", x.who,slot,x.caller,x.coin,word,asks,x.depth + 1,x.looking,rfl,Zag,fun ST SS H2 hST hSS G2 kk=>⟨rfl,?_⟩⟩
      have sa:Same H1 H2:=fun b o e=>kk b o (s1 b o e) (Zaj e hga)
      have fr1:∀ b,H1 b=none->H b=none:=fun b hb=>by
        cases z:H b with
        | none=>rfl
        | some oo =>
          exfalso
          by_cases q:b=fr.ST
          . rw [q,F1.st] at hb; cases hb
          . rw [k1 b oo z q] at hb; cases hb
      exact k ⟨ga,gdx,ST,SS⟩ H2 (fr1 _ hga) (fr1 _ (s1.fresh hST)) (fr1 _ (s1.fresh hSS)) (k1.trans sa.keptX) (F1.same sa) G2
    . skip
      have hp0:=hp
      repeat walk_at "rw"
      refine Zap F.ob rfl ?_
      repeat walk_at "rw"
      refine ⟨p,_,n,0,3,2,6,6,rfl,hp,rfl,rfl,?_⟩
      rw [show (3:Int) + 0=(([slot,asks,word]:List Int).length:Nat) from rfl]
      repeat walk_at "rw"
      refine ⟨fr,x,ws,s0,[slot,asks,word],rfl,F,e0,by show 3 <= 1000; decide,fun q H1 _ k1 F1 e1=>?_⟩
      have e1':H1 q=some (.lst [.int slot,.int asks,.int word]):=e1
      have hp1:=Zb7 hp F (k_st k1)
      repeat' walk_at "rw"
      refine Zah F1.ob tFrame.k.cl tFrame.n_depth rfl ?_
      repeat walk_at "rwx"
      refine Zah F1.ob tFrame.k.cl tFrame.n_who rfl ?_
      repeat walk_at "rwx"
      intro ga gdx hga hgdx hgne
      have hga2:(upd H1 gdx (.own ga)) ga=none:=by rw [Zai (Ne.symm hgne)]; exact hga
      have s1:Same H1 (upd (upd H1 gdx (.own ga)) ga (.ins cFrame gdx [])):=(Same.new hgdx).newT hga2
      refine ⟨ga,gdx, "look", slot,slot,x.who,0,word,asks,x.depth + 1,true,rfl,Zag,fun ST SS H2 hST hSS G2 kk=>⟨rfl,?_⟩⟩
      have sa:Same H1 H2:=fun b o e=>kk b o (s1 b o e) (Zaj e hga)
      have fr1:∀ b,H1 b=none->H b=none:=fun b hb=>by
        cases z:H b with
        | none=>rfl
        | some oo =>
          exfalso
          by_cases q:b=fr.ST
          . rw [q,F1.st] at hb; cases hb
          . rw [k1 b oo z q] at hb; cases hb
      exact k ⟨ga,gdx,ST,SS⟩ H2 (fr1 _ hga) (fr1 _ (s1.fresh hST)) (fr1 _ (s1.fresh hSS)) (k1.trans sa.keptX) (F1.same sa) G2
theorem ZcB:FnScope ["rooms", "other"] ["rooms", "other"] (Zab Zbs):=⟨rfl,rfl,rfl,by decide +kernel,rfl,by decide +kernel,by decide +kernel⟩
theorem ZcC   {cFrame:Addr} {cAccount:Addr} (D:Zao K mg "end_ahead_of_call" Zbs) (tFrame:T_Frame K mg cFrame) (tAccount:T_Account K mg cAccount) (c_account_at:Cal P w K mg base 1 "account_at" (spAt K cAccount)) (g_MOST_CALLS:ZaV mg "MOST_CALLS" (.int 8)):Cal P w K mg base 2 "end_ahead_of_call" (Zfq K cAccount cFrame):=by
  refine Zaz (N:=["rooms", "other"]) (ps:=["rooms", "other"]) D ZcB (fun vs H Q E h=>?_) (fun _ _ _ _ _ _ us hl=>bd2 (R:=fun us=>bindArgs _ ⟨us,[]⟩=pure (List.zip _ us)) (fun _ _=>rfl) us hl) (fun f cdv A outer s H vs Q E hr h=>?_)
  . obtain ⟨R,A,S,m,f,y,ws,e,rfl,_⟩:=h; rfl
  . obtain ⟨R,Ar,S,m,fr,y,ws,e,rfl,r,F,ha,k⟩:=h
    refine ⟨_,(Zac (ZaP (Zaq ZdV (ZaG c_account_at (hr.mono (by decide)) rfl (Zaa (pv 0) (Zaa (Zal (pv 1) rfl) Zaf))) Zca (nomark _)) (Zad (Zam Zas)) Zat)
      (Zac (ZaP (Zaq ZdM (Zal (pv 1) rfl) (ZbK rfl g_MOST_CALLS) (nomark _)) (Zad (Zam Zas)) Zat)
      (Zac (ZaP (PW.pt (ZhB (Zaq ZbF (Zal (pv 1) rfl) Zas (nomark _)) (ZeH (Zaq ZdM (Zal (pv 1) rfl) (Zal (Zay ZaA (pv 0) (Zal (pv 1) rfl) (fun _ _=>rfl)) rfl) (nomark _))))) (Zad (Zam Zas)) Zat)
      (Zad (Zam Zca))))),?_⟩
    walk_at "nx"
    repeat walk_at "rz"
    refine Zah F.ob tFrame.k.cl tFrame.n_whose rfl ?_
    repeat walk_at "rz"
    refine ⟨R,Ar,S,m,y.whose,rfl,r,?_⟩
    rcases ha with ⟨h1,rfl⟩|⟨ac,w0,w1,hA,ha⟩
    . rw [h1]
      repeat walk_at "rz"
      exact k
    . rw [if_pos ⟨w0,w1⟩,hA,show roomV (some ac)=V.ref ac.a from rfl]
      repeat walk_at "rz"
      refine Zah F.ob tFrame.k.cl tFrame.n_depth rfl ?_
      rcases ha with ⟨h2,rfl⟩|⟨h2,h3,rfl⟩|⟨h2,h3,i,z,ei,hi,hz,ha⟩
      . repeat walk_at "rz"
        exact k
      . repeat walk_at "rz"
        refine Zah F.ob tFrame.k.cl tFrame.n_kind rfl ?_
        repeat' walk_at "rz"
        . exact absurd (by assumption) h3
        . exact k
      . have az:=r.ac i z hi hz
        repeat walk_at "rz"
        refine Zah F.ob tFrame.k.cl tFrame.n_kind rfl ?_
        repeat' walk_at "rz"
        . refine Zah F.ob tFrame.k.cl tFrame.n_coin rfl ?_
          repeat walk_at "rz"
          refine Zah F.ob tFrame.k.cl tFrame.n_caller rfl ?_
          rw [ei]
          refine Za8 (ZaE r.ob) (r.at hi hz) ?_
          refine Zah az.ob tAccount.k.cl tAccount.n_coin rfl ?_
          rcases ha with ⟨h4,rfl⟩|⟨h4,rfl⟩
          . repeat walk_at "rz"
            exact k
          . repeat walk_at "rz"
            exact k
        . rename_i hq; exact absurd h3 hq
end
noncomputable def RDL:List (Str × RD):=[("push", rPush),("drop", rDrop),("copy", rCopy),("swap", rSwap),("add", rReck),("minus", rReck),("times", rReck),("over", rReck),("rest", rReck),("below", rReck),("same", rReck),("both", rReck),("either", rReck),("unlike", rReck),("up", rReck),("down", rReck),("jump", rJump),("jumpif", Zfh),("me", rMe),("from", rFrom),("sent", rSent),("word", rWord),("give", rGive),("fail", rFail)]
noncomputable def DoSp (K:PySem.W.Frag) (C cJ cS cM cN cF:Addr) (w:Str) (sp:Sp):Prop:=(∃ R,RDL.lookup w=some R/\sp=spD K cF R)\/(w = "load" /\ sp=Zeg K C cF)\/(w = "coin" /\ sp=Zeh K C cF)\/(w = "save" /\ sp=Zei K C cJ cS cM cN cF)\/(w = "note" /\ sp=Zej K C cJ cS cM cN cF)
noncomputable def DoOk (P:Program) (w:World) (K:PySem.W.Frag) (C cJ cS cM cN cF:Addr) (mg:Str->Option Value) (base:Heap) (aD:Addr):Prop :=
  ∃ vs,ZcT P w K aD vs/\∀ x sp,DoSp K C cJ cS cM cN cF x sp->∃ fa,valueAt vs (.inr x)=some (.ref fa)/\CalF P w K mg base 5 fa sp
noncomputable def Zhr (K:PySem.W.Frag) (C cJ cS cM cN cF:Addr):Sp:=fun vs H Q _=>∃ (vR vJ:V) (a p:Addr) (w:Str) (n:Option Int) (sp:Sp),vs=[vR,vJ,.ref a,.ref p]/\Zbj K H p w n/\DoSp K C cJ cS cM cN cF w sp/\sp vs H (fun _ H'=>Q .non H') E0
theorem Za9 {P:Program} {w:World} {K:PySem.W.Frag} {mg:Str->Option Value} {base:Heap} {x f:Str} {u:Value} {vs:List (Key × Value)} {sp:Sp} {k:Nat} (m:mg f=some u) (c:Cal P w K mg base k f sp) (hk:k <= 5) (e:valueAt vs (.inr x)=some u):∃ fa,valueAt vs (.inr x)=some (.ref fa)/\CalF P w K mg base 5 fa sp:=by
  obtain ⟨fa,m',c'⟩:=Cal.mono c (k:=5) hk
  rw [m] at m'
  cases m'
  exact ⟨fa,e,c'⟩
section
variable {P:Program} {w:World} {K:PySem.W.Frag} {mg:Str->Option Value} {base:Heap}
theorem do_ok {cAccount cJournal cSave cMove cNote cFrame aD:Addr} {u1 u2 u3 u4 u5 u6 u7 u8 u9 u10 u11 u12 u13 u14 u15 u16 u17:Value} (dk:ZcT P w K aD [(Sum.inr "push", u1),(Sum.inr "drop", u2),(Sum.inr "copy", u3),(Sum.inr "swap", u4),(Sum.inr "add", u5),(Sum.inr "minus", u5),(Sum.inr "times", u5),(Sum.inr "over", u5),(Sum.inr "rest", u5),(Sum.inr "below", u5),(Sum.inr "same", u5),(Sum.inr "both", u5),(Sum.inr "either", u5),(Sum.inr "unlike", u5),(Sum.inr "up", u5),(Sum.inr "down", u5),(Sum.inr "jump", u6),(Sum.inr "jumpif", u7),(Sum.inr "load", u8),(Sum.inr "save", u9),(Sum.inr "me", u10),(Sum.inr "from", u11),(Sum.inr "sent", u12),(Sum.inr "word", u13),(Sum.inr "coin", u14),(Sum.inr "note", u15),(Sum.inr "give", u16),(Sum.inr "fail", u17)])
    (m_push_row:mg "push_row" = some u1) (m_drop_row:mg "drop_row" = some u2) (m_copy_row:mg "copy_row" = some u3) (m_swap_row:mg "swap_row" = some u4) (m_reckon_row:mg "reckon_row" = some u5) (m_jump_row:mg "jump_row" = some u6) (m_jumpif_row:mg "jumpif_row" = some u7) (m_load_row:mg "load_row" = some u8) (m_save_row:mg "save_row" = some u9) (m_me_row:mg "me_row" = some u10) (m_from_row:mg "from_row" = some u11) (m_sent_row:mg "sent_row" = some u12) (m_word_row:mg "word_row" = some u13) (m_coin_row:mg "coin_row" = some u14) (m_note_row:mg "note_row" = some u15) (m_give_row:mg "give_row" = some u16) (m_fail_row:mg "fail_row" = some u17)
    (c_push_row:Cal P w K mg base 2 "push_row" (spD K cFrame rPush)) (c_drop_row:Cal P w K mg base 2 "drop_row" (spD K cFrame rDrop)) (c_copy_row:Cal P w K mg base 2 "copy_row" (spD K cFrame rCopy)) (c_swap_row:Cal P w K mg base 1 "swap_row" (spD K cFrame rSwap)) (c_reckon_row:Cal P w K mg base 3 "reckon_row" (spD K cFrame rReck)) (c_jump_row:Cal P w K mg base 1 "jump_row" (spD K cFrame rJump)) (c_jumpif_row:Cal P w K mg base 2 "jumpif_row" (spD K cFrame Zfh)) (c_load_row:Cal P w K mg base 2 "load_row" (Zeg K cAccount cFrame)) (c_save_row:Cal P w K mg base 5 "save_row" (Zei K cAccount cJournal cSave cMove cNote cFrame)) (c_me_row:Cal P w K mg base 2 "me_row" (spD K cFrame rMe)) (c_from_row:Cal P w K mg base 2 "from_row" (spD K cFrame rFrom)) (c_sent_row:Cal P w K mg base 2 "sent_row" (spD K cFrame rSent)) (c_word_row:Cal P w K mg base 2 "word_row" (spD K cFrame rWord)) (c_coin_row:Cal P w K mg base 2 "coin_row" (Zeh K cAccount cFrame)) (c_note_row:Cal P w K mg base 5 "note_row" (Zej K cAccount cJournal cSave cMove cNote cFrame)) (c_give_row:Cal P w K mg base 2 "give_row" (spD K cFrame rGive)) (c_fail_row:Cal P w K mg base 2 "fail_row" (spD K cFrame rFail)):DoOk P w K cAccount cJournal cSave cMove cNote cFrame mg base aD:=by
  refine ⟨_,dk,fun x sp h=>?_⟩
  rcases h with ⟨R,h,rfl⟩|⟨rfl,rfl⟩|⟨rfl,rfl⟩|⟨rfl,rfl⟩|⟨rfl,rfl⟩
  . have hm:=ZcS h
    simp only [RDL,List.mem_cons,Prod.mk.injEq,List.not_mem_nil,or_false] at hm
    rcases hm with ⟨rfl,rfl⟩|⟨rfl,rfl⟩|⟨rfl,rfl⟩|⟨rfl,rfl⟩|⟨rfl,rfl⟩|⟨rfl,rfl⟩|⟨rfl,rfl⟩|⟨rfl,rfl⟩|⟨rfl,rfl⟩|⟨rfl,rfl⟩|⟨rfl,rfl⟩|⟨rfl,rfl⟩|⟨rfl,rfl⟩|⟨rfl,rfl⟩|⟨rfl,rfl⟩|⟨rfl,rfl⟩|⟨rfl,rfl⟩|⟨rfl,rfl⟩|⟨rfl,rfl⟩|⟨rfl,rfl⟩|⟨rfl,rfl⟩|⟨rfl,rfl⟩|⟨rfl,rfl⟩|⟨rfl,rfl⟩
    . exact Za9 m_push_row c_push_row (by decide) rfl
    . exact Za9 m_drop_row c_drop_row (by decide) rfl
    . exact Za9 m_copy_row c_copy_row (by decide) rfl
    . exact Za9 m_swap_row c_swap_row (by decide) rfl
    . exact Za9 m_reckon_row c_reckon_row (by decide) rfl
    . exact Za9 m_reckon_row c_reckon_row (by decide) rfl
    . exact Za9 m_reckon_row c_reckon_row (by decide) rfl
    . exact Za9 m_reckon_row c_reckon_row (by decide) rfl
    . exact Za9 m_reckon_row c_reckon_row (by decide) rfl
    . exact Za9 m_reckon_row c_reckon_row (by decide) rfl
    . exact Za9 m_reckon_row c_reckon_row (by decide) rfl
    . exact Za9 m_reckon_row c_reckon_row (by decide) rfl
    . exact Za9 m_reckon_row c_reckon_row (by decide) rfl
    . exact Za9 m_reckon_row c_reckon_row (by decide) rfl
    . exact Za9 m_reckon_row c_reckon_row (by decide) rfl
    . exact Za9 m_reckon_row c_reckon_row (by decide) rfl
    . exact Za9 m_jump_row c_jump_row (by decide) rfl
    . exact Za9 m_jumpif_row c_jumpif_row (by decide) rfl
    . exact Za9 m_me_row c_me_row (by decide) rfl
    . exact Za9 m_from_row c_from_row (by decide) rfl
    . exact Za9 m_sent_row c_sent_row (by decide) rfl
    . exact Za9 m_word_row c_word_row (by decide) rfl
    . exact Za9 m_give_row c_give_row (by decide) rfl
    . exact Za9 m_fail_row c_fail_row (by decide) rfl
  . exact Za9 m_load_row c_load_row (by decide) rfl
  . exact Za9 m_coin_row c_coin_row (by decide) rfl
  . exact Za9 m_save_row c_save_row (by decide) rfl
  . exact Za9 m_note_row c_note_row (by decide) rfl
theorem ZjW:FnScope ["rooms", "journal", "frame", "row"] ["rooms", "journal", "frame", "row"] (Zab ZeZ):=⟨rfl,rfl,rfl,by decide +kernel,rfl,by decide +kernel,by decide +kernel⟩
theorem ZjX  {cAccount cJournal cSave cMove cNote cFrame aD:Addr} (DO:DoOk P w K cAccount cJournal cSave cMove cNote cFrame mg base aD)  (D:Zao K mg "do_row" ZeZ) (g_DOINGS:ZaV mg "DOINGS" (.ref aD)):Cal P w K mg base 6 "do_row" (Zhr K cAccount cJournal cSave cMove cNote cFrame):=by
  refine Zaz (N:=["rooms", "journal", "frame", "row"]) (ps:=["rooms", "journal", "frame", "row"]) D ZjW (fun vs H Q E h=>?_) (fun _ _ _ _ _ _ us hl=>bd4 (R:=fun us=>bindArgs _ ⟨us,[]⟩=pure (List.zip _ us)) (fun _ _ _ _=>rfl) us hl) (fun f cdv A outer s H vs Q E hr h=>?_)
  . obtain ⟨vR,vJ,a,p,w,n,sp,rfl,_⟩:=h; rfl
  . obtain ⟨vR,vJ,a,p,wd,n,sp,rfl,hp,hS,k⟩:=h
    refine ⟨_,(Zad (Zav (ZhN (k:=5) (hr.mono (by decide)) (ZeD (ZbK rfl g_DOINGS) (Zay ZaF (pv 3) Zae (fun _ _=>rfl)) (fun _ _=>rfl)) (Zaa (pv 0) (Zaa (pv 1) (Zaa (pv 2) (Zaa (pv 3) Zaf))))))),?_⟩
    walk_at "nx"
    obtain ⟨ts,dk,al⟩:=DO
    obtain ⟨fa,hv,cf⟩:=al wd sp hS
    refine Zje ?_
    unfold tCallV
    repeat walk_at "rw"
    refine Zjj (v:=.ref fa) dk hv rfl ?_
    refine ⟨fa,_,rfl,cf,?_⟩
    repeat walk_at "rdk"
    exact k
end
theorem Zh2:∀ (kvs:List (Key × V)),(∀ p ∈ kvs,∃ i n:Int,p=(Sum.inl i,.int n)/\n ≠ 0)->∃ ks:List Int,kvs.map (·.1)=ks.map Sum.inl
  | [],_=>⟨[],rfl⟩
  | p :: r,h=>by
    obtain ⟨i,n,rfl,_⟩:=h p (by simp)
    obtain ⟨ks,e⟩:=Zh2 r fun q hq=>h q (by simp [hq])
    exact ⟨i :: ks,by rw [List.map_cons,e]; rfl⟩
theorem Zlg {kvs:List (Key × V)} {k:Key} {v:V} (h:valV kvs k=some v):(k,v) ∈ kvs:=by
  unfold valV at h
  obtain ⟨p,hp,rfl⟩:=Option.map_eq_some_iff.mp h
  have h1:=List.find?_some hp
  have h2:=List.mem_of_find?_eq_some hp
  simp only [decide_eq_true_eq] at h1
  rw [<- h1]
  exact h2
noncomputable def placeD:Dd->Option Int
  | .save _ p _ _=>some p
  | _=>none
theorem ZjY (S:Nat->AcS) (d:Dd) (i:Nat) (p:Int) (h:(doneS S d i).store p ≠ 0):(S i).store p ≠ 0\/placeD d=some p:=by
  cases d with
  | save s q o n =>
    by_cases e:q=p
    . exact .inr (by rw [<- e]; rfl)
    . refine .inl fun z=>h ?_
      show (setS S s.toNat _ i).store p=0
      unfold setS
      by_cases w:i=s.toNat
      . rw [if_pos w]
        show putFn _ q n p=0
        unfold putFn
        rw [if_neg (Ne.symm e),<- w]
        exact z
      . rw [if_neg w]
        exact z
  | move s t k =>
    refine .inl fun z=>h ?_
    show (moved S _ _ k i).store p=0
    rw [Zcv]
    exact z
  | note s n=>exact .inl h
theorem Zh3:∀ (ds:List Dd) (S:Nat->AcS) (i:Nat) (p:Int),(runS S ds i).store p ≠ 0->(S i).store p ≠ 0\/p ∈ ds.filterMap placeD
  | [],S,i,p,h=>.inl h
  | d :: ds,S,i,p,h=>by
    rcases Zh3 ds (doneS S d) i p h with h|h
    . rcases ZjY S d i p h with h|h
      . exact .inl h
      . exact .inr (List.mem_filterMap.mpr ⟨d,by simp,h⟩)
    . obtain ⟨e,he,ep⟩:=List.mem_filterMap.mp h
      exact .inr (List.mem_filterMap.mpr ⟨e,by simp [he],ep⟩)
theorem Zgs:∀ (ks ps:List Int),ks.Nodup->(∀ k ∈ ks,k ∈ ps)->ks.length <= ps.length
  | [],ps,_,_=>Nat.zero_le _
  | k :: ks,ps,hn,h=>by
    obtain ⟨n1,n2⟩:=List.nodup_cons.mp hn
    have hk:=h k (by simp)
    have:=Zgs ks (ps.erase k) n2 fun x hx=>(List.mem_erase_of_ne (fun z=>n1 (by rw [<- z]; exact hx))).mpr (h x (by simp [hx]))
    rw [List.length_erase_of_mem hk] at this
    have:0 < ps.length:=List.length_pos_of_mem hk
    simp only [List.length_cons]
    omega
theorem StoreAt.tight {H:Hp} {d:Addr} {f:Int->Int} {m:Nat} (h:StoreAt H d f m) {ps:List Int} (hp:∀ p,f p ≠ 0->p ∈ ps):StoreAt H d f ps.length:=by
  obtain ⟨kvs,e1,e2,e3,e4,e5⟩:=h
  refine ⟨kvs,e1,?_,e3,e4,e5⟩
  obtain ⟨ks,hk⟩:=Zh2 kvs e4
  have hkn:ks.Nodup:=by
    rw [hk] at e3
    exact (List.pairwise_map.mp e3).imp fun h e=>h (by rw [e])
  have hl:kvs.length=ks.length:=by
    have:=congrArg List.length hk
    rw [List.length_map,List.length_map] at this
    exact this
  rw [hl]
  refine Zgs ks ps hkn fun k hk'=>hp k ?_
  have hm:(Sum.inl k:Key) ∈ kvs.map (·.1):=by rw [hk]; exact List.mem_map.mpr ⟨k,hk',rfl⟩
  cases e:valV kvs (Sum.inl k:Key) with
  | none=>exact absurd hm (ZhM e)
  | some v =>
    obtain ⟨j,n,z,hn0⟩:=e4 _ (Zlg e)
    cases z
    have:=e5 k
    rw [e] at this
    rw [<- V.int.inj (show V.int n=V.int (f k) from this)]
    exact hn0
noncomputable def SupB (S0:Nat->AcS) (m0:Nat):Prop:=∀ i,∃ ps:List Int,ps.length <= m0/\∀ p,(S0 i).store p ≠ 0->p ∈ ps
theorem Rooms.tight2 {K:PySem.W.Frag} {C:Addr} {H:Hp} {R:Addr} {A:Nat->Option AcI} {S0:Nat->AcS} {ds:List Dd} {m m0:Nat} (r:Rooms K C H R A (runS S0 ds) m) (z:SupB S0 m0):Rooms K C H R A (runS S0 ds) (m0 + ds.length) :=
  ⟨r.ob,fun i x hi hx=>let h:=r.ac i x hi hx; let ⟨ps,e0,e9⟩:=z i; ⟨h.ob,h.pg,let ⟨kvs,e1,e2,e3⟩:=StoreAt.tight h.sto (ps:=ps ++ ds.filterMap placeD) (fun p hp=>List.mem_append.mpr ((Zh3 ds S0 i p hp).imp (e9 p) id)); ⟨kvs,e1,Nat.le_trans e2 (by rw [List.length_append]; exact Nat.add_le_add e0 (List.length_filterMap_le _ _)),e3⟩⟩,r.da,r.ds⟩
structure Wd (K:PySem.W.Frag) (C cJ cS cM cN:Addr) (H:Hp) (j dx R L:Addr) (A:Nat->Option AcI) (S0:Nat->AcS) (m0:Nat) (ds:List Dd):Prop where
  J:∃ es,es.map (·.d)=ds/\Jr cJ cS cM cN H j dx R L A es
  r:Rooms K C H R A (runS S0 ds) (m0 + ds.length)
  ri:ZbE S0 ds
  ti:SupB S0 m0
  b:m0 <= 100000
noncomputable def newP (H0 H:Hp):Hp:=fun b=>match H0 b with
  | none=>H b
  | some _=>none
noncomputable def Stp (K:PySem.W.Frag) (H0 H:Hp) (st:List Dt) (vs:List V):Prop:=DVs K (newP H0 H) st vs
theorem Zen {H0 H:Hp} {b:Addr} {o:HO} (h0:H0 b=none) (h:H b=some o):newP H0 H b=some o:=by unfold newP; rw [h0]; exact h
theorem Zhs {H0 H:Hp} {b:Addr} {o:HO} (h:newP H0 H b=some o):H0 b=none/\H b=some o:=by
  unfold newP at h
  split at h
  . rename_i e; exact ⟨e,h⟩
  . cases h
theorem ZjZ {K:PySem.W.Frag} {H:Hp}:∀ {ds es:List Dt} {xs ys:List V},DVs K H ds xs->DVs K H es ys->DVs K H (ds ++ es) (xs ++ ys)
  | [],es,xs,ys,h,q=>by unfold DVs at h; subst h; exact q
  | d :: ds,es,xs,ys,h,q=>by
    unfold DVs at h
    obtain ⟨x,t,rfl,h1,h2⟩:=h
    exact ZaB h1 (ZjZ h2 q)
section
variable {K:PySem.W.Frag} {C cJ cS cM cN cF:Addr} {H H0 H1 H':Hp} {j dx R L:Addr} {A:Nat->Option AcI} {S0:Nat->AcS} {m0:Nat} {ds:List Dd} {f g:FrI} {x y:FrS} {ws vs:List V} {st:List Dt}
theorem Stp.nil:Stp K H0 H [] []:=ZbD
theorem Stp.int (i:Int):Stp K H0 H [.int i] [.int i]:=ZaB Zbp ZbD
theorem Stp.app {s2:List Dt} {v2:List V} (a:Stp K H0 H st vs) (b:Stp K H0 H s2 v2):Stp K H0 H (st ++ s2) (vs ++ v2):=ZjZ a b
theorem Stp.kept {Y:Addr->Prop} (a:Stp K H0 H st vs) (k:KeptX Y H H') (d:∀ b,Y b->H0 b ≠ none):Stp K H0 H' st vs :=
  DVs.keep (fun b o e=>let ⟨e1,e2⟩:=Zhs e; Zen e1 (k b o e2 fun z=>d b z e1)) a
theorem Stp.same (a:Stp K H0 H st vs) (s:Same H H'):Stp K H0 H' st vs:=a.kept (Y:=fun _=>False) s.keptX fun _ z=>z.elim
theorem Stp.base (a:Stp K H1 H st vs) (d:∀ b,H1 b=none->H0 b=none):Stp K H0 H st vs:=DVs.keep (fun b o e=>let ⟨e1,e2⟩:=Zhs e; Zen (d b e1) e2) a
theorem Stp.tell {t:Addr} {d:Dd} (h0:H0 t=none) (h:H t=some (.tup (tellV d))):Stp K H0 H [tellD d] [.ref t]:=ZaB (ZfY (Zbg (Zen h0 h)) (ZhX d)) ZbD
theorem Stp.dv {d:Dt} {v:V} (a:Stp K H0 H [d] [v]):DV K H d v:=by
  have h:DVs K H [d] [v]:=DVs.keep (fun b o e=>(Zhs e).2) a
  unfold DVs at h
  obtain ⟨x,t,e,h,_⟩:=h
  cases e
  exact h
theorem Wd.same (W:Wd K C cJ cS cM cN H j dx R L A S0 m0 ds) (s:Same H H'):Wd K C cJ cS cM cN H' j dx R L A S0 m0 ds:=⟨let ⟨es,e,J⟩:=W.J; ⟨es,e,J.same s⟩,W.r.same s,W.ri,W.ti,W.b⟩
theorem Wd.frame (W:Wd K C cJ cS cM cN H j dx R L A S0 m0 ds) (F:FrAt cF H f x ws) (a:Ap R L A f) (k:KeptX (inF3 f) H H'):Wd K C cJ cS cM cN H' j dx R L A S0 m0 ds:=⟨let ⟨es,e,J⟩:=W.J; ⟨es,e,J.frame F a k⟩,W.r.frame F a k,W.ri,W.ti,W.b⟩
theorem Wd.wrote {e:DI} {es:List DI} {m:Nat} (W:Wd K C cJ cS cM cN H j dx R L A S0 m0 ds) (he:es.map (·.d)=ds) (r:Rooms K C H' R A (doneS (runS S0 ds) e.d) m) (J:Jr cJ cS cM cN H' j dx R L A (es ++ [e])) (h:rightD (runS S0 ds) e.d):Wd K C cJ cS cM cN H' j dx R L A S0 m0 (ds ++ [e.d]) :=
  ⟨⟨_,by rw [List.map_append,he]; rfl,J⟩,Rooms.tight2 (by rw [Zgf]; exact r) W.ti,(Zb6 _ _ _).mpr ⟨W.ri,h⟩,W.ti,W.b⟩
theorem ZdB (F:FrAt cF H f x ws) {b:Addr} (h:inF3 f b):H b ≠ none:=by
  rcases h with rfl|rfl|rfl
  . rw [F.ob]; intro z; cases z
  . rw [F.st]; intro z; cases z
  . rw [F.ss]; intro z; cases z
theorem Zl2 (W:Wd K C cJ cS cM cN H j dx R L A S0 m0 ds) {b:Addr} (h:¬ Out A b\/b=L):H b ≠ none:=fun z=>by
  rcases h with h|rfl
  . exact h (W.r.outN z)
  . obtain ⟨es,_,J⟩:=W.J
    rw [J.li] at z; cases z
theorem ZeE (W:Wd K C cJ cS cM cN H j dx R L A S0 m0 ds) (F:FrAt cF H f x ws) {b:Addr} (h:goX A L f b):H b ≠ none:=by
  rcases h with h|h|h
  . exact Zl2 W (.inl h)
  . exact Zl2 W (.inr h)
  . exact ZdB F h
theorem Zeo {Y:Addr->Prop} (k:KeptX Y H0 H) (d:∀ b,Y b->H b ≠ none) (b:Addr) (h:H b=none):H0 b=none:=by
  cases z:H0 b with
  | none=>rfl
  | some o =>
    exfalso
    by_cases q:Y b
    . exact d b q h
    . rw [k b o z q] at h; cases h
structure NewF (H:Hp) (g:FrI):Prop where
  a:H g.a=none
  t:H g.ST=none
  s:H g.SS=none
theorem NewF.not (n:NewF H g) {b:Addr} (h:H b ≠ none):¬ inF3 g b:=by
  rintro (rfl|rfl|rfl)
  . exact h n.a
  . exact h n.t
  . exact h n.s
theorem NewF.ap (n:NewF H g) (W:Wd K C cJ cS cM cN H j dx R L A S0 m0 ds):Ap R L A g:=by
  obtain ⟨es,_,J⟩:=W.J
  exact ⟨Ne.symm (Zaj W.r.ob n.t),Ne.symm (Zaj W.r.ob n.s),Ne.symm (Zaj J.li n.t),Ne.symm (Zaj J.li n.s),fun i y hi hy=>by
      obtain ⟨xs,e1,_⟩:=(W.r.ac i y hi hy).pg
      exact ⟨Ne.symm (Zaj e1 n.t),Ne.symm (Zaj e1 n.s)⟩⟩
theorem FrAt.callee (F:FrAt cF H f x ws) (W:Wd K C cJ cS cM cN H j dx R L A S0 m0 ds) (a:Ap R L A f) (n:NewF H g) {x1:FrS} {ws1:List V} (F1:FrAt cF H1 f x1 ws1) (k:KeptX (goX A L g) H1 H'):FrAt cF H' f x1 ws1:=by
  obtain ⟨es,_,J⟩:=W.J
  have oa:Out A f.a:=fun i y hi hy=>⟨ZhW F.ob (W.r.ac i y hi hy).ob (by show 15 ≠ 5; decide),let ⟨_,g,_⟩:=(W.r.ac i y hi hy).sto; Zbe F.ob g (by intro z; cases z)⟩
  refine F1.kept k ?_ ?_ ?_
  . rintro (z|z|z)
    . exact z oa
    . exact Zbe F.ob J.li (by intro z; cases z) z
    . exact n.not (ZdB F (.inl rfl)) z
  . rintro (z|z|z)
    . exact z (W.r.outL F.st)
    . exact a.tL z
    . exact n.not (ZdB F (.inr (.inl rfl))) z
  . rintro (z|z|z)
    . exact z (W.r.outL F.ss)
    . exact a.sL z
    . exact n.not (ZdB F (.inr (.inr rfl))) z
theorem Zgt (k1:KeptX (inF3 f) H H1) (n:NewF H g) (k:KeptX (goX A L g) H1 H'):KeptX (goX A L f) H H':=fun b o e nb=>k b o (k1 b o e fun z=>nb (.inr (.inr z))) fun z=>by
  rcases z with z|z|z
  . exact nb (.inl z)
  . exact nb (.inr (.inl z))
  . exact n.not (by rw [e]; intro q; cases q) z
end
noncomputable def endD:Option Str->Dt
  | none=>.non
  | some s=>.str s
noncomputable def treeD (x:FrS) (st:List Dt):Dt:=.tup [.str x.kind,.int x.who,.int x.whose,.int x.caller,.int x.coin,.int x.word,.int x.given,endD x.fin,.int x.answer,.int x.used,.lst st]
theorem Stp.tree {K:PySem.W.Frag} {H0 H:Hp} {x:FrS} {st:List Dt} {vs:List V} {p T:Addr} (a:Stp K H0 H st vs) (hT:H0 T=none) (h1:H T=some (.lst vs)) (hp:H0 p=none) (h2:H p=some (.tup (treeV x T))):Stp K H0 H [treeD x st] [.ref p]:=by
  refine ZaB (ZfY (Zbg (Zen hp h2)) (ZaB ZdX (ZaB Zbp (ZaB Zbp (ZaB Zbp (ZaB Zbp (ZaB Zbp (ZaB Zbp (ZaB ?_ (ZaB Zbp (ZaB Zbp (ZaB (Zjs (ZaE (Zen hT h1)) a) ZbD)))))))))))) ZbD
  cases e:x.fin with
  | none=>unfold endD DV; rfl
  | some s=>exact ZdX
noncomputable def wellI (e:Option Str):Int:=if e=some ("well" : Str) then 1 else 0
noncomputable abbrev GR:=List Dd->FrS->List Dd->FrS->List Dt->Prop
noncomputable def Zj0 (A:Nat->Option AcI) (S0:Nat->AcS) (G:GR) (w:Str) (ds:List Dd) (x:FrS) (ds':List Dd) (x':FrS) (d:Dt):Prop:=∃ (s:List Int) (y y':FrS) (st:List Dt) (e:Option Str),Zh1 x w s y/\x'={ x with stack:=s ++ [y'.answer,wellI y'.fin],used:=x.used + y'.used }/\d=treeD y' st/\s.length <= 900/\Zem A (runS S0 ds) y e /\
  ((∃ e1,e=some e1/\ds'=ds/\y'={ y with given:=0,fin:=some e1,answer:=0 }/\st=[])\/(e=none/\G ds { y with given:=if x.given - x.used < y.given then x.given - x.used else y.given } ds' y' st))
inductive DoW (A:Nat->Option AcI) (S0:Nat->AcS) (G:GR):Str->Option Int->List Dd->FrS->List Dd->FrS->List Dt->Prop
  | pure {w:Str} {n:Option Int} {ds:List Dd} {x x':FrS} {D:RD} (hC:inS w ["call", "borrow", "look"]=false) (h:RDL.lookup w=some D) (hD:D x w n x'):DoW A S0 G w n ds x ds x' []
  | load {n:Option Int} {ds:List Dd} {x:FrS} {s:List Int} {pl:Int} {i:Nat} {y:AcI} (ew:x.who=(i:Int)) (hi:i < 16) (hy:A i=some y) (e:x.stack=s ++ [pl]):DoW A S0 G "load" n ds x ds { x with stack:=s ++ [(runS S0 ds i).store pl] } []
  | coin {n:Option Int} {ds:List Dd} {x:FrS} {s:List Int} {sl:Int} (e:x.stack=s ++ [sl]):DoW A S0 G "coin" n ds x ds { x with stack:=s ++ [Zhl A (runS S0 ds) sl] } []
  | save {n:Option Int} {ds:List Dd} {x:FrS} {s:List Int} {pl v:Int} {i:Nat} {y:AcI} (ew:x.who=(i:Int)) (hi:i < 16) (hy:A i=some y) (e:x.stack=s ++ [pl,v]):DoW A S0 G "save" n ds x (ds ++ [.save (i:Int) pl ((runS S0 ds i).store pl) v]) { x with stack:=s } [tellD (.save (i:Int) pl ((runS S0 ds i).store pl) v)]
  | note {n:Option Int} {ds:List Dd} {x:FrS} {s:List Int} {v:Int} (e:x.stack=s ++ [v]):DoW A S0 G "note" n ds x (ds ++ [.note x.who v]) { x with stack:=s } [tellD (.note x.who v)]
  | call {w:Str} {n:Option Int} {ds ds':List Dd} {x x':FrS} {d:Dt} (hC:inS w ["call", "borrow", "look"]=true) (h:Zj0 A S0 G w ds x ds' x' d):DoW A S0 G w n ds x ds' x' [d]
noncomputable def OnW (A:Nat->Option AcI) (S0:Nat->AcS) (G:GR) (rows:List Row) (ds:List Dd) (x:FrS) (ds':List Dd) (x':FrS) (add:List Dt):Prop :=
  ((rows.length:Int) <= x.row/\ds'=ds/\x'={ x with fin:=some ("well" : Str),answer:=0 }/\add=[])\/∃ (i:Nat) (w:Str) (n:Option Int),x.row=(i:Int)/\rows[i]?=some (w,n) /\
    ((∃ e,aheadR A (runS S0 ds) x w n (some e)/\ds'=ds/\x'={ x with fin:=some e,answer:=0 }/\add=[]) \/
     (aheadR A (runS S0 ds) x w n none/\∃ (b1 b2:Bool) (t l pr d:Int) (ad:List Dt),ZbH x w b1/\fillsR A (runS S0 ds) x w b2/\RT.lookup w=some (t,l,pr,d)/\DoW A S0 G w n ds (Zdp x (if (b1 || b2)=true then d else pr)) ds' x' ad/\add=.int x.row :: ad))
inductive RunW (A:Nat->Option AcI) (S0:Nat->AcS) (G:GR) (rows:List Row):Nat->List Dd->FrS->List Dd->FrS->List Dt->Prop
  | done {ds:List Dd} {x:FrS} (h:x.fin ≠ none):RunW A S0 G rows 0 ds x ds x []
  | step {n:Nat} {ds ds1 ds2:List Dd} {x x' y:FrS} {add st:List Dt} (h:x.fin=none) (o:OnW A S0 G rows ds x ds1 x' add) (l:x.stack.length <= 900) (e:x'.whose=x.whose) (q:RunW A S0 G rows n ds1 x' ds2 y st):RunW A S0 G rows (n + 1) ds x ds2 y (add ++ st)
noncomputable def mvD (x:FrS):Option Dd:=if x.kind = "call" /\ 0 < x.coin then some (.move x.caller x.who x.coin) else none
noncomputable def GoW (A:Nat->Option AcI) (S0:Nat->AcS):Nat->GR
  | 0=>fun _ _ _ _ _=>False
  | n + 1=>fun ds x ds' y st=>∃ (i:Nat) (ac:AcI) (k:Nat) (ds1:List Dd) (st1:List Dt),x.fin=none/\x.whose=(i:Int)/\i < 16/\A i=some ac/\(∀ d,mvD x=some d->fitsD A d)/\RunW A S0 (GoW A S0 n) (S0 i).rows k (ds ++ (mvD x).toList) x ds1 y st1/\k <= 40000/\ds1.length <= 100000/\ds'=(if y.fin=some ("well" : Str) then ds1 else ds)/\st=(mvD x).toList.map tellD ++ st1
noncomputable def PreG (G:GR):Prop:=∀ ds x ds' y st,G ds x ds' y st->ds <+: ds'/\∃ e,y.fin=some e
theorem DoW.pre {A:Nat->Option AcI} {S0:Nat->AcS} {G:GR} (hG:PreG G) {w:Str} {n:Option Int} {ds ds':List Dd} {x x':FrS} {ad:List Dt} (h:DoW A S0 G w n ds x ds' x' ad):ds <+: ds'/\ad.length <= 1:=by
  cases h with
  | pure=>exact ⟨List.prefix_rfl,Nat.zero_le _⟩
  | load=>exact ⟨List.prefix_rfl,Nat.zero_le _⟩
  | coin=>exact ⟨List.prefix_rfl,Nat.zero_le _⟩
  | save=>exact ⟨List.prefix_append _ _,Nat.le_refl _⟩
  | note=>exact ⟨List.prefix_append _ _,Nat.le_refl _⟩
  | call hC h =>
    obtain ⟨s,y,y',st,e,_,_,_,_,_,h⟩:=h
    rcases h with ⟨_,_,rfl,_⟩|⟨_,h⟩
    . exact ⟨List.prefix_rfl,Nat.le_refl _⟩
    . exact ⟨(hG _ _ _ _ _ h).1,Nat.le_refl _⟩
theorem OnW.pre {A:Nat->Option AcI} {S0:Nat->AcS} {G:GR} (hG:PreG G) {rows:List Row} {ds ds':List Dd} {x x':FrS} {ad:List Dt} (h:OnW A S0 G rows ds x ds' x' ad):ds <+: ds'/\ad.length <= 2:=by
  rcases h with ⟨_,rfl,_,rfl⟩|⟨_,_,_,_,_,⟨_,_,rfl,_,rfl⟩|⟨_,_,_,_,_,_,_,_,_,_,_,h,rfl⟩⟩
  . exact ⟨List.prefix_rfl,Nat.zero_le _⟩
  . exact ⟨List.prefix_rfl,Nat.zero_le _⟩
  . exact ⟨(h.pre hG).1,Nat.succ_le_succ (h.pre hG).2⟩
theorem RunW.pre {A:Nat->Option AcI} {S0:Nat->AcS} {G:GR} (hG:PreG G) {rows:List Row}:∀ {n:Nat} {ds ds':List Dd} {x y:FrS} {st:List Dt},RunW A S0 G rows n ds x ds' y st->ds <+: ds'/\∃ e,y.fin=some e
  | _,_,_,_,_,_,.done h=>by
    rename_i x
    refine ⟨List.prefix_rfl,?_⟩
    cases e:x.fin with
    | none=>exact absurd e h
    | some e'=>exact ⟨e',rfl⟩
  | _,_,_,_,_,_,.step _ o _ _ q=>⟨(o.pre hG).1.trans (q.pre hG).1,(q.pre hG).2⟩
theorem GoW.pre {A:Nat->Option AcI} {S0:Nat->AcS}:∀ n,PreG (GoW A S0 n)
  | 0=>fun _ _ _ _ _ h=>h.elim
  | n + 1=>fun ds x ds' y st h=>by
    obtain ⟨i,ac,k,ds1,st1,_,_,_,_,_,h,_,_,rfl,_⟩:=h
    have:=h.pre (GoW.pre n)
    refine ⟨?_,this.2⟩
    split
    . exact (List.prefix_append _ _).trans this.1
    . exact List.prefix_rfl
theorem Zj1 (S:Nat->AcS) (d:Dd) (i:Nat):(doneS S d i).rows=(S i).rows:=by
  cases d with
  | save s p o n =>
    show (setS S s.toNat _ i).rows=_
    unfold setS
    by_cases w:i=s.toNat
    . rw [if_pos w,<- w]
    . rw [if_neg w]
  | move s t k=>show (moved S _ _ k i).rows=_; rw [Zcv]
  | note s n=>rfl
theorem Zh4:∀ (ds:List Dd) (S:Nat->AcS) (i:Nat),(runS S ds i).rows=(S i).rows
  | [],_,_=>rfl
  | d :: ds,S,i=>(Zh4 ds (doneS S d) i).trans (Zj1 S d i)
noncomputable def Post (K:PySem.W.Frag) (C cJ cS cM cN cF:Addr) (H:Hp) (j dx R L:Addr) (A:Nat->Option AcI) (S0:Nat->AcS) (m0:Nat) (f:FrI) (ws:List V) (ds':List Dd) (x':FrS) (add:List Dt) (Q:VK):Prop :=
  ∀ vs H',Wd K C cJ cS cM cN H' j dx R L A S0 m0 ds'->FrAt cF H' f x' (ws ++ vs)->Stp K H H' add vs->KeptX (goX A L f) H H'->Q .non H'
noncomputable def spGoW (K:PySem.W.Frag) (C cJ cS cM cN cF:Addr) (n:Nat):Sp:=fun vs H Q _=>∃ (j dx R L:Addr) (A:Nat->Option AcI) (S0:Nat->AcS) (m0:Nat) (ds:List Dd) (f:FrI) (x:FrS) (ds':List Dd) (y:FrS) (st:List Dt),vs=[.ref R,.ref j,.ref f.a]/\Wd K C cJ cS cM cN H j dx R L A S0 m0 ds/\FrAt cF H f x []/\Ap R L A f/\GoW A S0 n ds x ds' y st/\Post K C cJ cS cM cN cF H j dx R L A S0 m0 f [] ds' y st Q
noncomputable def Zgu (K:PySem.W.Frag) (C cJ cS cM cN cF:Addr) (n:Nat):Sp:=fun vs H Q _=>∃ (j dx R L:Addr) (A:Nat->Option AcI) (S0:Nat->AcS) (m0:Nat) (ds:List Dd) (f:FrI) (x:FrS) (ws:List V) (p:Addr) (w:Str) (nn:Option Int) (ds':List Dd) (x':FrS) (d:Dt),vs=[.ref R,.ref j,.ref f.a,.ref p]/\Wd K C cJ cS cM cN H j dx R L A S0 m0 ds/\FrAt cF H f x ws/\Ap R L A f/\Zbj K H p w nn/\Zj0 A S0 (GoW A S0 n) w ds x ds' x' d/\ws.length <= 99000/\Post K C cJ cS cM cN cF H j dx R L A S0 m0 f ws ds' x' [d] Q
noncomputable def Zh5 (K:PySem.W.Frag) (C cJ cS cM cN cF:Addr) (n:Nat):Sp:=fun vs H Q _=>∃ (j dx R L:Addr) (A:Nat->Option AcI) (S0:Nat->AcS) (m0:Nat) (ds:List Dd) (f:FrI) (x:FrS) (ws:List V) (p:Addr) (w:Str) (nn:Option Int) (ds':List Dd) (x':FrS) (ad:List Dt) (b1 b2:Bool) (t l pr d:Int),vs=[.ref R,.ref j,.ref f.a,.ref p]/\Wd K C cJ cS cM cN H j dx R L A S0 m0 ds/\FrAt cF H f x ws/\Ap R L A f/\Zbj K H p w nn/\ZbH x w b1/\fillsR A (runS S0 ds) x w b2/\RT.lookup w=some (t,l,pr,d)/\DoW A S0 (GoW A S0 n) w nn ds (Zdp x (if (b1 || b2)=true then d else pr)) ds' x' ad/\x.stack.length <= 900/\ws.length <= 90000/\ds.length <= 100000/\Post K C cJ cS cM cN cF H j dx R L A S0 m0 f ws ds' x' (.int x.row :: ad) Q
noncomputable def Zj2 (K:PySem.W.Frag) (C cJ cS cM cN cF:Addr) (n:Nat):Sp:=fun vs H Q _=>∃ (j dx R L:Addr) (A:Nat->Option AcI) (S0:Nat->AcS) (m0:Nat) (ds:List Dd) (f:FrI) (x:FrS) (ws:List V) (ds':List Dd) (x':FrS) (add:List Dt) (i:Nat) (y:AcI),vs=[.ref R,.ref j,.ref f.a]/\Wd K C cJ cS cM cN H j dx R L A S0 m0 ds/\FrAt cF H f x ws/\Ap R L A f/\x.whose=(i:Int)/\i < 16/\A i=some y/\OnW A S0 (GoW A S0 n) (S0 i).rows ds x ds' x' add/\x.stack.length <= 900/\ws.length <= 90000/\ds.length <= 100000/\Post K C cJ cS cM cN cF H j dx R L A S0 m0 f ws ds' x' add Q
section
end
section
variable {P:Program} {w:World} {K:PySem.W.Frag} {mg:Str->Option Value} {base:Heap}
theorem ZcQ:FnScope ["rooms", "journal", "frame", "row", "other", "end"] ["rooms", "journal", "frame", "row"] (Zab Zcu):=⟨rfl,rfl,rfl,by decide +kernel,rfl,by decide +kernel,by decide +kernel⟩
theorem Zht  {k n:Nat} {cAccount cJournal cSave cMove cNote:Addr} {cFrame:Addr} (D:Zao K mg "call_row" Zcu) (tFrame:T_Frame K mg cFrame) (m_Frame_left:MCal P w K mg base 1 cFrame "left" (spLeft cFrame)) (m_Frame_finish:MCal P w K mg base 1 cFrame "finish" (Zcw cFrame)) (m_Frame_tree:MCal P w K mg base 1 cFrame "tree" (spTree cFrame)) (m_Frame_lay:MCal P w K mg base 1 cFrame "lay" (spLay cFrame)) (c_other_call:Cal P w K mg base 3 "other_call" (Zhq K cFrame)) (c_end_ahead_of_call:Cal P w K mg base 2 "end_ahead_of_call" (Zfq K cAccount cFrame)) (c_go:Cal P w K mg base (k + 8) "go" (spGoW K cAccount cJournal cSave cMove cNote cFrame n)) (n_min:mg "min" = none):Cal P w K mg base (k + 9) "call_row" (Zgu K cAccount cJournal cSave cMove cNote cFrame n):=by
  refine Zaz (N:=["rooms", "journal", "frame", "row", "other", "end"]) (ps:=["rooms", "journal", "frame", "row"]) D ZcQ (fun vs H Q E h=>?_) (fun _ _ _ _ _ _ us hl=>bd4 (R:=fun us=>bindArgs _ ⟨us,[]⟩=pure (List.zip _ us)) (fun _ _ _ _=>rfl) us hl) (fun f cdv A outer s H vs Q E hr h=>?_)
  . obtain ⟨j,dx,R,L,A,S0,m0,ds,f,x,ws,p,w,nn,ds',x',d,rfl,_⟩:=h; rfl
  . obtain ⟨j,dx,R,L,Ar,S0,m0,ds,fr,x,ws,p,wd,nn,ds',x',d,rfl,W,F,ap,hp,⟨s0,y,y',st,e,hO,rfl,rfl,hs,ha,hC⟩,hw,kk⟩:=h
    refine ⟨_,(Zac (ZaI (i:=4) ZcQ.nd rfl (by first|exact Or.inl rfl|exact Or.inr rfl) (ZaG c_other_call (hr.mono (by omega)) rfl (Zaa (pv 2) (Zaa (pv 3) Zaf))))
      (Zac (ZaI (i:=5) ZcQ.nd rfl (by first|exact Or.inl rfl|exact Or.inr rfl) (ZaG c_end_ahead_of_call (hr.mono (by omega)) rfl (Zaa (pv 0) (Zaa (pv 4) Zaf))))
      (Zac (ZjE (ZaP (Zaq ZdV (pv 5) Zca (nomark _)) (Zac (ZaO (pv 4) (ZaR (cn_min rfl) rfl n_min PyProof.Rows.boot_min (Zaa (Zal (pv 4) rfl) (Zaa (ZcV m_Frame_left (hr.mono (by omega)) (pv 2)) Zaf))) rfl)
      (Zad (Zav (ZaG c_go (hr.mono (by omega)) rfl (Zaa (pv 0) (Zaa (pv 1) (Zaa (pv 4) Zaf))))))) (Zac (ZaO (pv 4) Zae rfl)
      (Zad (Zav (ZaH m_Frame_finish (hr.mono (by omega)) (pv 4) (Zaa (pv 5) (Zaa Zae Zaf))))))))
      (Zac (Zcd (pv 2) (Zal (pv 4) rfl) ZhI)
      (Zac (Zav (ZeM PySem.F.plainAttrs_list PySem.F.slot_list_append PySem.F.type_list_append Zbr (Zal (pv 2) rfl) (Zaa (ZcV m_Frame_tree (hr.mono (by omega)) (pv 4)) Zaf)))
      (Zac (Zav (ZaH m_Frame_lay (hr.mono (by omega)) (pv 2) (Zaa (Zal (pv 4) rfl) Zaf)))
      (Zad (Zav (ZaH m_Frame_lay (hr.mono (by omega)) (pv 2) (Zaa (ZdC (Zaq ZbF (Zal (pv 4) rfl) Zas (nomark _)) Zae Zae) Zaf)))))))))),?_⟩
    walk_at "nx"
    obtain ⟨e0,he0⟩:∃ e0,y'.fin=some e0:=by
      rcases hC with ⟨e1,_,_,rfl,_⟩|⟨_,h⟩
      . exact ⟨e1,rfl⟩
      . exact (GoW.pre n _ _ _ _ _ h).2
    repeat walk_at "rw"
    refine ⟨fr,x,y,ws,p,wd,nn,s0,rfl,F,hp,hO,fun gf H1 ga gt gs k1 F1 G1=>?_⟩
    have nf:NewF H gf:=⟨ga,gt,gs⟩
    have k1':KeptX (inF3 fr) H H1:=k1.mono fun _ h=>.inr (.inl h)
    have W1:=W.frame F ap k1'
    have apg:=nf.ap W
    have d1:=Zeo k1' fun b z=>ZdB F1 z
    repeat walk_at "rw"
    refine ⟨R,Ar,_,_,gf,y,[],e,rfl,W1.r,G1,ha,?_⟩
    repeat walk_at "rw"
    refine ZjD (fun σ' H'=>∃ vs v,Wd K cAccount cJournal cSave cMove cNote H' j dx R L Ar S0 m0 ds'/\FrAt cFrame H' fr { x with stack:=s0 } ws/\FrAt cFrame H' gf y' vs/\Stp K H H' st vs/\KeptX (goX Ar L fr) H H'/\σ'=[some (.ref R),some (.ref j),some (.ref fr.a),some (.ref p),some (.ref gf.a),v]) ?_ ?_
    . rcases hC with ⟨e1,rfl,rfl,rfl,rfl⟩|⟨rfl,hG⟩
      . rw [show endV (some e1)=V.str e1 from rfl]
        repeat walk_at "rw"
        refine ⟨rfl,?_⟩
        rw [decide_eq_false (show ¬ V.str e1=V.non by intro z; cases z)]
        repeat walk_at "rw"
        refine Zau G1.ob tFrame.k.cl tFrame.n_given (by show 15 < 1000; decide) ?_
        have G2:=G1.setF { y with given:=0 } rfl
        have e2:putF "given" (.int 0) (fldF gf y)=fldF gf { y with given:=0 }:=rfl
        rw [e2]
        have k2:KeptX (inF3 gf) H1 (upd H1 gf.a (.ins cFrame gf.dx (fldF gf { y with given:=0 }))):=KeptX.upd (.inl rfl)
        generalize upd H1 gf.a _=H2 at G2 k2
        repeat walk_at "rw"
        refine Zap G2.ob rfl ?_
        repeat walk_at "rw"
        refine ⟨gf,_,[],e1,0,rfl,G2,fun H3 k3 G3=>?_⟩
        have k3':KeptX (inF3 gf) H1 H3:=k2.trans (k3.mono fun _ h=>.inl h)
        repeat walk_at "rw"
        exact ⟨[],_,W1.frame G1 apg k3',F.callee W ap nf F1 (Zc2 k3'),G3,Stp.nil,Zgt k1' nf (Zc2 k3'),rfl⟩
      . rw [show endV none=V.non from rfl]
        repeat walk_at "rw"
        refine Zah G1.ob tFrame.k.cl tFrame.n_given rfl ?_
        repeat walk_at "rw"
        refine Zap F1.ob rfl ?_
        refine ⟨fr,_,ws,rfl,F1,?_⟩
        generalize hgv:(if x.given - x.used < y.given then x.given - x.used else y.given)=gv at hG
        repeat walk_at "rw"
        try (refine Zjh ?_; repeat walk_at "rw")
        refine Zau G1.ob tFrame.k.cl tFrame.n_given (by show 15 < 1000; decide) ?_
        have G2:=G1.setF { y with given:=gv } rfl
        have e2:putF "given" (.int (if x.given - x.used < y.given then x.given - x.used else y.given)) (fldF gf y)=fldF gf { y with given:=gv }:=by rw [hgv]; rfl
        rw [e2]
        have k2:KeptX (inF3 gf) H1 (upd H1 gf.a (.ins cFrame gf.dx (fldF gf { y with given:=gv }))):=KeptX.upd (.inl rfl)
        generalize upd H1 gf.a _=H2 at G2 k2
        have W2:=W1.frame G1 apg k2
        have d2:∀ b,H2 b=none->H b=none:=fun b h=>d1 b (Zeo k2 (fun b z=>ZdB G2 z) b h)
        repeat walk_at "rw"
        refine ⟨j,dx,R,L,Ar,S0,m0,ds,gf,_,ds',y',st,rfl,W2,G2,apg,hG,fun vs H3 W3 G3 S3 k3=>?_⟩
        have k3':=(Zc2 (A:=Ar) (L:=L) k2).trans k3
        repeat walk_at "rw"
        exact ⟨vs,_,W3,F.callee W ap nf F1 k3',G3,S3.base d2,Zgt k1' nf k3',rfl⟩
    rintro σ3 H3 ⟨vs,v,W3,F3,G3,S3,k3,rfl⟩
    have fl:∀ fs,fs=fldF gf y'->fs.lookup (Str.ofString "end")=some (V.str e0):=fun fs q=>by rw [q]; show some (endV y'.fin)=_; rw [he0]; rfl
    have d3:=Zeo k3 fun b z=>ZeE W3 F3 z
    repeat walk_at "rw"
    refine ZcW F3.ob tFrame.k.cl tFrame.n_used rfl ?_
    repeat walk_at "rw"
    refine Zah G3.ob tFrame.k.cl tFrame.n_used rfl ?_
    repeat walk_at "rw"
    refine ⟨fr.dx,_,F3.ob,by show 15 < 1000; decide,?_⟩
    have F4:=F3.setF { x with stack:=s0,used:=x.used + y'.used } rfl
    have e4:putF "used" (.int (x.used + y'.used)) (fldF fr { x with stack:=s0 })=fldF fr { x with stack:=s0,used:=x.used + y'.used }:=rfl
    rw [e4]
    have k4:KeptX (inF3 fr) H3 (upd H3 fr.a (.ins cFrame fr.dx (fldF fr { x with stack:=s0,used:=x.used + y'.used }))):=KeptX.upd (.inl rfl)
    generalize upd H3 fr.a _=H4 at F4 k4
    have gk:∀ {Ha Hb:Hp} {xs:List V},FrAt cFrame Ha gf y' xs->KeptX (inF3 fr) Ha Hb->FrAt cFrame Hb gf y' xs:=fun q kq=>q.kept kq (fun z=>nf.not (ZdB F z) (.inl rfl)) (fun z=>nf.not (ZdB F z) (.inr (.inl rfl))) (fun z=>nf.not (ZdB F z) (.inr (.inr rfl)))
    have G4:=gk G3 k4
    have W4:=W3.frame F3 ap k4
    have S4:=S3.kept k4 fun b z=>ZdB F z
    have kk4:=k3.trans (Zc2 k4)
    have d4:=Zeo kk4 fun b z=>ZeE W4 F4 z
    repeat walk_at "rw"
    refine Zah F4.ob tFrame.k.cl tFrame.n_steps rfl ?_
    refine ⟨ZbL (ZaE F4.ss),?_⟩
    repeat walk_at "rw"
    refine Zap G4.ob rfl ?_
    refine ⟨gf,y',vs,rfl,G4,fun q T H5 s5 hq hT h1 h2=>?_⟩
    have F5:=F4.same s5
    have G5:=G4.same s5
    have W5:=W4.same s5
    have S5:=(S4.same s5).tree (d4 _ hT) h1 (d4 _ hq) h2
    repeat walk_at "rw"
    refine ZbC F5.ss (Nat.lt_of_le_of_lt hw (by decide)) ?_
    have F6:=F5.setSS (ws ++ [.ref q])
    have k6:KeptX (inF3 fr) H5 (upd H5 fr.SS (.lst (ws ++ [.ref q]))):=KeptX.upd (.inr (.inr rfl))
    have G6:=gk G5 k6
    generalize upd H5 fr.SS _=H6 at F6 k6 G6
    repeat walk_at "rw"
    refine Zap F6.ob rfl ?_
    repeat walk_at "rw"
    refine Zah G6.ob tFrame.k.cl tFrame.n_answer rfl ?_
    repeat walk_at "rw"
    refine ⟨fr,_,_,_,rfl,F6,Nat.le_trans hs (by decide),fun H7 k7 F7=>?_⟩
    have k7':KeptX (inF3 fr) H5 H7:=k6.trans (k7.mono fun _ h=>.inr (.inl h))
    have G7:=gk G5 k7'
    have fin:∀ z H8,z=wellI y'.fin->KeptX (·=fr.ST) H7 H8->FrAt cFrame H8 fr { x with stack:=s0 ++ [y'.answer] ++ [z],used:=x.used + y'.used } (ws ++ [.ref q])->Q .non H8:=fun z H8 ez k8 F8=>by
      have k8':=k7'.trans (k8.mono fun _ h=>.inr (.inl h))
      rw [List.append_assoc,ez] at F8
      exact kk [.ref q] H8 (W5.frame F5 ap k8') F8 (S5.kept k8' fun b z=>ZdB F z) (kk4.trans (s5.keptX.trans (Zc2 k8')))
    have hl7:(s0 ++ [y'.answer]).length <= 1000:=by rw [List.length_append]; exact Nat.add_le_add hs (by show 1 <= 100; decide)
    repeat walk_at "rw"
    refine Zap F7.ob rfl ?_
    repeat walk_at "rw"
    refine Zah G7.ob tFrame.k.cl tFrame.n_end (fl _ rfl) ?_
    repeat' walk_at "rw"
    . rename_i hz
      refine ⟨fr,_,_,_,rfl,F7,hl7,fun H8 k8 F8=>?_⟩
      repeat walk_at "rw"
      exact fin 1 H8 (by unfold wellI; rw [he0,hz,if_pos rfl]) k8 F8
    . rename_i hz
      refine ⟨fr,_,_,_,rfl,F7,hl7,fun H8 k8 F8=>?_⟩
      repeat walk_at "rw"
      exact fin 0 H8 (by unfold wellI; rw [he0,if_neg (fun q=>hz (Option.some.inj q))]) k8 F8
end
section
variable {P:Program} {w:World} {K:PySem.W.Frag} {mg:Str->Option Value} {base:Heap}
theorem Zj3:FnScope ["rooms", "journal", "frame", "row"] ["rooms", "journal", "frame", "row"] (Zab ZdG):=⟨rfl,rfl,rfl,by decide +kernel,rfl,by decide +kernel,by decide +kernel⟩
theorem Zj4  {k n:Nat} {cAccount cJournal cSave cMove cNote:Addr} {aC:Addr} (tC3:TupK K aC ((["call", "borrow", "look"]:List Str).map V.str)) {cFrame:Addr} (D:Zao K mg "go_row" ZdG) (tFrame:T_Frame K mg cFrame) (c_row_price:Cal P w K mg base 3 "row_price" (Zcx K cAccount cFrame)) (c_call_row:Cal P w K mg base (k + 9) "call_row" (Zgu K cAccount cJournal cSave cMove cNote cFrame n)) (c_do_row:Cal P w K mg base 6 "do_row" (Zhr K cAccount cJournal cSave cMove cNote cFrame)) (g_CALLING:ZaV mg "CALLING" (.ref aC)):Cal P w K mg base (k + 10) "go_row" (Zh5 K cAccount cJournal cSave cMove cNote cFrame n):=by
  refine Zaz (N:=["rooms", "journal", "frame", "row"]) (ps:=["rooms", "journal", "frame", "row"]) D Zj3 (fun vs H Q E h=>?_) (fun _ _ _ _ _ _ us hl=>bd4 (R:=fun us=>bindArgs _ ⟨us,[]⟩=pure (List.zip _ us)) (fun _ _ _ _=>rfl) us hl) (fun f cdv A outer s H vs Q E hr h=>?_)
  . obtain ⟨j,dx,R,L,A,S0,m0,ds,f,x,ws,p,w,nn,ds',x',ad,b1,b2,t,l,pr,d,rfl,_⟩:=h; rfl
  . obtain ⟨j,dx,R,L,Ar,S0,m0,ds,fr,x,ws,p,wd,nn,ds',x',ad,b1,b2,t,l,pr,d,rfl,W,F,ap,hp,hb1,hb2,hT,hD,hl,hw,hdl,kk⟩:=h
    refine ⟨_,(Zac (Zcd (pv 2) (ZaG c_row_price (hr.mono (by omega)) rfl (Zaa (pv 0) (Zaa (pv 2) (Zaa (pv 3) Zaf)))) ZhI)
      (Zac (Zav (ZeM PySem.F.plainAttrs_list PySem.F.slot_list_append PySem.F.type_list_append Zbr (Zal (pv 2) rfl) (Zaa (Zal (pv 2) rfl) Zaf)))
      (Zac (Zcd (pv 2) Zae ZhI)
      (Zad (ZaP (Zaq Zba (Zay ZaF (pv 3) Zae (fun _ _=>rfl)) (ZbK rfl g_CALLING) rfl) (Zad (Zav (ZaG c_call_row (hr.mono (by omega)) rfl (Zaa (pv 0) (Zaa (pv 1) (Zaa (pv 2) (Zaa (pv 3) Zaf))))))) (Zad (Zav (ZaG c_do_row (hr.mono (by omega)) rfl (Zaa (pv 0) (Zaa (pv 1) (Zaa (pv 2) (Zaa (pv 3) Zaf)))))))))))),?_⟩
    walk_at "nx"
    repeat walk_at "rw"
    refine ZcW F.ob tFrame.k.cl tFrame.n_used rfl ?_
    repeat walk_at "rw"
    refine ⟨R,Ar,_,_,fr,x,ws,p,wd,nn,b1,b2,t,l,pr,d,rfl,W.r,F,hp,hb1,hb2,hT,?_⟩
    generalize (if (b1 || b2)=true then d else pr)=c at hD |-
    repeat walk_at "rw"
    refine ⟨fr.dx,_,F.ob,by show 15 < 1000; decide,?_⟩
    have F1:=F.setF { x with used:=x.used + c } rfl
    have e1:putF "used" (.int (x.used + c)) (fldF fr x)=fldF fr { x with used:=x.used + c }:=rfl
    rw [e1]
    have k1:KeptX (inF3 fr) H (upd H fr.a (.ins cFrame fr.dx (fldF fr { x with used:=x.used + c }))):=KeptX.upd (.inl rfl)
    have hp1:Zbj K (upd H fr.a (.ins cFrame fr.dx (fldF fr { x with used:=x.used + c }))) p wd nn:=Zb7 hp F (KeptX.upd (.inl rfl))
    generalize upd H fr.a _=H1 at F1 k1 hp1
    repeat walk_at "rw"
    refine Zah F1.ob tFrame.k.cl tFrame.n_steps rfl ?_
    refine ⟨ZbL (ZaE F1.ss),?_⟩
    repeat walk_at "rw"
    refine Zah F1.ob tFrame.k.cl tFrame.n_row rfl ?_
    repeat walk_at "rw"
    refine ZbC F1.ss (Nat.lt_of_le_of_lt hw (by decide)) ?_
    have F2:=F1.setSS (ws ++ [.int x.row])
    have k2:KeptX (inF3 fr) H (upd H1 fr.SS (.lst (ws ++ [.int x.row]))):=k1.trans (KeptX.upd (.inr (.inr rfl)))
    have hp2:Zbj K (upd H1 fr.SS (.lst (ws ++ [.int x.row]))) p wd nn:=(SameI.upd F1.ss ZbB).tup hp1
    generalize upd H1 fr.SS _=H2 at F2 k2 hp2
    repeat walk_at "rw"
    refine ZcW F2.ob tFrame.k.cl tFrame.n_row rfl ?_
    repeat walk_at "rw"
    refine ⟨fr.dx,_,F2.ob,by show 15 < 1000; decide,?_⟩
    have F3:=F2.setF (Zdp x c) rfl
    have e3:putF "row" (.int (x.row + 1)) (fldF fr { x with used:=x.used + c })=fldF fr (Zdp x c):=rfl
    rw [e3]
    have k3:KeptX (inF3 fr) H (upd H2 fr.a (.ins cFrame fr.dx (fldF fr (Zdp x c)))):=k2.trans (KeptX.upd (.inl rfl))
    have hp3:Zbj K (upd H2 fr.a (.ins cFrame fr.dx (fldF fr (Zdp x c)))) p wd nn:=Zb7 hp2 F2 (KeptX.upd (.inl rfl))
    generalize upd H2 fr.a _=H3 at F3 k3 hp3
    have W3:=W.frame F ap k3
    have d3:=Zeo k3 fun b z=>ZdB F3 z
    obtain ⟨es,hes,J3⟩:=W3.J
    have pure:∀ H4,KeptX (inF3 fr) H3 H4->ds'=ds->ad=[]->FrAt cFrame H4 fr x' (ws ++ [.int x.row])->Q .non H4:=fun H4 k4 e1 e2 F4=>by
      subst e1 e2
      exact kk _ H4 (W3.frame F3 ap k4) F4 (Stp.int x.row) (Zc2 (k3.trans k4))
    repeat walk_at "rw"
    refine ZbZ (tC3.sqt H3) ?_
    cases hD with
    | pure hC hR hDx =>
      rw [hC]
      repeat walk_at "rw"
      refine ⟨.ref R,.ref j,fr.a,p,_,nn,_,rfl,hp3,.inl ⟨_,hR,rfl⟩,?_⟩
      exact ⟨.ref R,.ref j,fr,_,x',_,p,wd,nn,rfl,F3,hp3,hDx,hl,fun H4 k4 F4=>pure H4 (k_F3 k4) rfl rfl F4⟩
    | load ew hi hy e =>
      rw [show inS "load" ["call", "borrow", "look"]=false from rfl]
      repeat walk_at "rw"
      refine ⟨.ref R,.ref j,fr.a,p,_,nn,_,rfl,hp3,.inr (.inl ⟨rfl,rfl⟩),?_⟩
      exact ⟨R,L,.ref j,Ar,_,_,fr,_,_,.ref p,_,_,_,_,rfl,W3.r,F3,ap,ew,hi,hy,e,hl,fun H4 k4 F4=>pure H4 k4 rfl rfl F4⟩
    | coin e =>
      rw [show inS "coin" ["call", "borrow", "look"]=false from rfl]
      repeat walk_at "rw"
      refine ⟨.ref R,.ref j,fr.a,p,_,nn,_,rfl,hp3,.inr (.inr (.inl ⟨rfl,rfl⟩)),?_⟩
      exact ⟨R,L,.ref j,Ar,_,_,fr,_,_,.ref p,_,_,rfl,W3.r,F3,ap,e,hl,fun H4 k4 F4=>pure H4 k4 rfl rfl F4⟩
    | save ew hi hy e =>
      rename_i s0 pl v i yy
      rw [show inS "save" ["call", "borrow", "look"]=false from rfl]
      repeat walk_at "rw"
      refine ⟨.ref R,.ref j,fr.a,p,_,nn,_,rfl,hp3,.inr (.inr (.inr (.inl ⟨rfl,rfl⟩))),?_⟩
      refine ⟨j,dx,R,L,Ar,_,_,es,fr,_,_,.ref p,i,yy,s0,pl,v,rfl,J3,W3.r,by have:=W.b; omega,by rw [<- hes,List.length_map] at hdl; omega,F3,ap,by rw [List.length_append]; show ws.length + 1 <= _; omega,ew,hi,hy,e,fun t e H4 he ht k4 r4 J4 F4 et=>?_⟩
      have W4:=W3.wrote hes (e:=e) (by rw [he]; exact r4) J4 (by rw [he]; show (runS S0 ds (i:Int).toNat).store pl=_; rw [Int.toNat_natCast])
      rw [he] at W4
      rw [List.append_assoc] at F4
      exact kk _ H4 W4 F4 ((Stp.int x.row).app (Stp.tell (d3 _ ht) et)) ((Zc2 k3).trans k4)
    | note e =>
      rename_i s0 v
      rw [show inS "note" ["call", "borrow", "look"]=false from rfl]
      repeat walk_at "rw"
      refine ⟨.ref R,.ref j,fr.a,p,_,nn,_,rfl,hp3,.inr (.inr (.inr (.inr ⟨rfl,rfl⟩))),?_⟩
      refine ⟨j,dx,R,L,Ar,_,_,es,fr,_,_,.ref p,s0,v,rfl,J3,W3.r,by have:=W.b; omega,by rw [<- hes,List.length_map] at hdl; omega,F3,ap,by rw [List.length_append]; show ws.length + 1 <= _; omega,e,fun t e H4 he ht k4 r4 J4 F4 et=>?_⟩
      have W4:=W3.wrote hes (e:=e) (by rw [he]; exact r4) J4 (by rw [he]; trivial)
      rw [he] at W4
      rw [List.append_assoc] at F4
      exact kk _ H4 W4 F4 ((Stp.int x.row).app (Stp.tell (d3 _ ht) et)) ((Zc2 k3).trans k4)
    | call hC hX =>
      rw [hC]
      repeat walk_at "rw"
      refine ⟨j,dx,R,L,Ar,S0,m0,ds,fr,_,_,p,wd,nn,ds',x',_,rfl,W3,F3,ap,hp3,hX,by rw [List.length_append]; show ws.length + 1 <= _; omega,fun vs H4 W4 F4 S4 k4=>?_⟩
      repeat walk_at "rw"
      rw [List.append_assoc] at F4
      exact kk _ H4 W4 F4 ((Stp.int x.row).app (S4.base d3)) ((Zc2 k3).trans k4)
end
section
variable {P:Program} {w:World} {K:PySem.W.Frag} {mg:Str->Option Value} {base:Heap}
theorem ZdJ:FnScope ["rooms", "journal", "frame", "program", "row", "end"] ["rooms", "journal", "frame"] (Zab Ze0):=⟨rfl,rfl,rfl,by decide +kernel,rfl,by decide +kernel,by decide +kernel⟩
theorem Zlh  {k n:Nat} {cJournal cSave cMove cNote:Addr} {cAccount:Addr} {cFrame:Addr} (D:Zao K mg "go_on" Ze0) (tAccount:T_Account K mg cAccount) (tFrame:T_Frame K mg cFrame) (m_Frame_finish:MCal P w K mg base 1 cFrame "finish" (Zcw cFrame)) (c_end_ahead_of:Cal P w K mg base 4 "end_ahead_of" (Zhk K cAccount cFrame)) (c_go_row:Cal P w K mg base (k + 10) "go_row" (Zh5 K cAccount cJournal cSave cMove cNote cFrame n)) (n_len:mg "len" = none):Cal P w K mg base (k + 11) "go_on" (Zj2 K cAccount cJournal cSave cMove cNote cFrame n):=by
  refine Zaz (N:=["rooms", "journal", "frame", "program", "row", "end"]) (ps:=["rooms", "journal", "frame"]) D ZdJ (fun vs H Q E h=>?_) (fun _ _ _ _ _ _ us hl=>bd3 (R:=fun us=>bindArgs _ ⟨us,[]⟩=pure (List.zip _ us)) (fun _ _ _=>rfl) us hl) (fun f cdv A outer s H vs Q E hr h=>?_)
  . obtain ⟨j,dx,R,L,A,S0,m0,ds,f,x,ws,ds',x',add,i,y,rfl,_⟩:=h; rfl
  . obtain ⟨j,dx,R,L,Ar,S0,m0,ds,fr,x,ws,ds',x',add,iw,y,rfl,W,F,ap,ew,hi,hy,ho,hl,hw,hdl,kk⟩:=h
    refine ⟨_,(Zac (ZaI (i:=3) ZdJ.nd rfl (by first|exact Or.inl rfl|exact Or.inr rfl) (Zal (Zay ZaA (pv 0) (Zal (pv 2) rfl) (fun _ _=>rfl)) rfl))
      (Zac (ZaP (Zaq Zmb (Zal (pv 2) rfl) (ZaR Zb9 rfl n_len PySem.boot_len (Zaa (pv 3) Zaf)) (nomark _)) (Zac (Zav (ZaH m_Frame_finish (hr.mono (by omega)) (pv 2) (Zaa Zas (Zaa Zae Zaf))))
      (Zad Zl9)) Zat)
      (Zac (ZaI (i:=4) ZdJ.nd rfl (by first|exact Or.inl rfl|exact Or.inr rfl) (Zay ZaA (pv 3) (Zal (pv 2) rfl) (fun _ _=>rfl)))
      (Zac (ZaI (i:=5) ZdJ.nd rfl (by first|exact Or.inl rfl|exact Or.inr rfl) (ZaG c_end_ahead_of (hr.mono (by omega)) rfl (Zaa (pv 0) (Zaa (pv 2) (Zaa (pv 4) Zaf)))))
      (Zad (ZaP (Zaq ZdV (pv 5) Zca (nomark _)) (Zad (Zav (ZaG c_go_row (hr.mono (by omega)) rfl (Zaa (pv 0) (Zaa (pv 1) (Zaa (pv 2) (Zaa (pv 4) Zaf))))))) (Zad (Zav (ZaH m_Frame_finish (hr.mono (by omega)) (pv 2) (Zaa (pv 5) (Zaa Zae Zaf))))))))))),?_⟩
    walk_at "nx"
    have ay:=W.r.ac iw y hi hy
    obtain ⟨xs,hx1,hx2⟩:=ay.pg
    rw [Zh4] at hx2
    have hlen:=hx2.1
    repeat walk_at "rw"
    refine Zah F.ob tFrame.k.cl tFrame.n_whose rfl ?_
    rw [ew]
    refine Za8 (ZaE W.r.ob) (W.r.at hi hy) ?_
    refine Zah ay.ob tAccount.k.cl tAccount.n_program rfl ?_
    repeat walk_at "rw"
    refine Zah F.ob tFrame.k.cl tFrame.n_row rfl ?_
    rcases ho with ⟨h1,rfl,rfl,rfl⟩|⟨i,wd,nn,er,hrow,ho⟩
    . repeat walk_at "rz"
      refine Zap F.ob rfl ?_
      repeat walk_at "rw"
      refine ⟨fr,x,ws, "well", 0,rfl,F,fun H1 k1 F1=>?_⟩
      repeat walk_at "rw"
      have k1':KeptX (inF3 fr) H H1:=k1.mono fun _ h=>.inl h
      exact kk [] H1 (W.frame F ap k1') (by rw [List.append_nil]; exact F1) Stp.nil (Zc2 k1')
    . have hil:i < (S0 iw).rows.length:=(List.getElem?_eq_some_iff.mp hrow).1
      obtain ⟨pt,ep,hpt⟩:=hx2.2 i _ _ hrow (List.getElem?_eq_getElem (by rw [<- hlen]; exact hil))
      have exi:atI xs x.row=some (.ref pt):=ZcU (i:=i) (by rw [List.getElem?_eq_getElem (by rw [<- hlen]; exact hil),ep]) er
      have hp:Zbj K H pt wd nn:=hpt
      repeat walk_at "rz"
      refine Zah F.ob tFrame.k.cl tFrame.n_row rfl ?_
      refine Za8 (ZaE hx1) exi ?_
      repeat walk_at "rw"
      rcases ho with ⟨e,ha,rfl,rfl,rfl⟩|⟨ha,b1,b2,t,l,pr,d,ad,hb1,hb2,hT,hD,rfl⟩
      . refine ⟨R,Ar,_,_,fr,x,ws,pt,wd,nn,some e,rfl,W.r,F,hp,ha,fun H1 s1=>?_⟩
        have F1:=F.same s1
        rw [show endV (some e)=V.str e from rfl]
        repeat walk_at "rw"
        refine ⟨rfl,?_⟩
        rw [decide_eq_false (show ¬ V.str e=V.non by intro z; cases z)]
        repeat walk_at "rw"
        refine Zap F1.ob rfl ?_
        repeat walk_at "rw"
        refine ⟨fr,x,ws,e,0,rfl,F1,fun H2 k2 F2=>?_⟩
        repeat walk_at "rw"
        have k2':KeptX (inF3 fr) H1 H2:=k2.mono fun _ h=>.inl h
        exact kk [] H2 ((W.same s1).frame F1 ap k2') (by rw [List.append_nil]; exact F2) Stp.nil (s1.keptX.trans (Zc2 k2'))
      . refine ⟨R,Ar,_,_,fr,x,ws,pt,wd,nn,none,rfl,W.r,F,hp,ha,fun H1 s1=>?_⟩
        have F1:=F.same s1
        have hp1:Zbj K H1 pt wd nn:=s1.tup hp
        rw [show endV none=V.non from rfl]
        repeat walk_at "rw"
        refine ⟨j,dx,R,L,Ar,S0,m0,ds,fr,x,ws,pt,wd,nn,ds',x',ad,b1,b2,t,l,pr,d,rfl,W.same s1,F1,ap,hp1,hb1,hb2,hT,hD,hl,hw,hdl,fun vs H2 W2 F2 S2 k2=>?_⟩
        repeat walk_at "rw"
        exact kk vs H2 W2 F2 (S2.base fun b h=>s1.fresh h) (s1.keptX.trans k2)
end
section
variable {P:Program} {w:World} {K:PySem.W.Frag} {mg:Str->Option Value} {base:Heap}
theorem Zm0:FnScope ["rooms", "journal", "frame", "mark"] ["rooms", "journal", "frame"] (Zab s_go):=⟨rfl,rfl,rfl,by decide +kernel,rfl,by decide +kernel,by decide +kernel⟩
theorem Zm1  {k n:Nat} {cAccount cSave cNote:Addr} {cJournal:Addr} {cFrame:Addr} {cMove:Addr} (D:Zao K mg "go" s_go) (tJournal:T_Journal K mg cJournal) (tFrame:T_Frame K mg cFrame) (tMove:T_Move K mg cMove) (m_Journal_mark:MCal P w K mg base 1 cJournal "mark" (spMark cJournal)) (i_Move:ICal P w K mg base 1 "Move" cMove (Zfa cMove)) (m_Journal_back:MCal P w K mg base 3 cJournal "back" (spBack K cAccount cJournal cSave cMove cNote)) (c_write_step:Cal P w K mg base 4 "write_step" (ZbQ K cAccount cJournal cSave cMove cNote cFrame)) (c_go_on:Cal P w K mg base (k + 11) "go_on" (Zj2 K cAccount cJournal cSave cMove cNote cFrame n)):Cal P w K mg base (k + 12) "go" (spGoW K cAccount cJournal cSave cMove cNote cFrame (n + 1)):=by
  refine Zaz (N:=["rooms", "journal", "frame", "mark"]) (ps:=["rooms", "journal", "frame"]) D Zm0 (fun vs H Q E h=>?_) (fun _ _ _ _ _ _ us hl=>bd3 (R:=fun us=>bindArgs _ ⟨us,[]⟩=pure (List.zip _ us)) (fun _ _ _=>rfl) us hl) (fun f cdv A outer s H vs Q E hr h=>?_)
  . obtain ⟨j,dx,R,L,A,S0,m0,ds,f,x,ds',y,st,rfl,_⟩:=h; rfl
  . obtain ⟨j,dx,R,L,Ar,S0,m0,ds,fr,x,ds',y,st,rfl,W,F,ap,⟨iw,ac,kt,ds1,st1,hfin,ew,hi,hac,hfit,hrun,hkt,hd1,rfl,rfl⟩,kk⟩:=h
    refine ⟨_,(Zac (ZaI (i:=3) Zm0.nd rfl (by first|exact Or.inl rfl|exact Or.inr rfl) (ZcV m_Journal_mark (hr.mono (by omega)) (pv 1)))
      (Zac (ZjE (ZaP (PW.pt (ZhB (Zaq ZbF (Zal (pv 2) rfl) Zas (nomark _)) (ZeH (Zaq ZdM (Zal (pv 2) rfl) Zae (nomark _))))) (Zad (Zav (ZaG c_write_step (hr.mono (by omega)) rfl (Zaa (pv 1) (Zaa (pv 2) (Zaa (ZcE i_Move (hr.mono (by omega)) rfl (Zaa (Zal (pv 2) rfl) (Zaa (Zal (pv 2) rfl) (Zaa (Zal (pv 2) rfl) Zaf)))) Zaf)))))) Zat))
      (Zac (ZhF PassesOwn.never (Zaq ZdV (Zal (pv 2) rfl) Zca (nomark _))
      (Zad (Zav (ZaG c_go_on (hr.mono (by omega)) rfl (Zaa (pv 0) (Zaa (pv 1) (Zaa (pv 2) Zaf)))))))
      (Zad (ZaP (Zaq ZfB (Zal (pv 2) rfl) Zas (nomark _)) (Zad (Zav (ZaH m_Journal_back (hr.mono (by omega)) (pv 1) (Zaa (pv 3) Zaf)))) Zat))))),?_⟩
    walk_at "nx"
    obtain ⟨es,hes,J⟩:=W.J
    have hpr:=(hrun.pre (GoW.pre n)).1
    have hdl:ds.length <= 100000:=Nat.le_trans (((List.prefix_append _ _).trans hpr).length_le) hd1
    have hel:es.length=ds.length:=by rw [<- hes,List.length_map]
    have hb:=W.b
    repeat walk_at "rw"
    refine Zap J.ob rfl ?_
    repeat walk_at "rw"
    refine ⟨j,dx,R,L,_,rfl,J.ob,J.li,?_⟩
    rw [List.length_map]
    repeat walk_at "rw"
    refine ZjD (fun σ' H'=>∃ pre,Wd K cAccount cJournal cSave cMove cNote H' j dx R L Ar S0 m0 (ds ++ (mvD x).toList)/\FrAt cFrame H' fr x pre/\Stp K H H' ((mvD x).toList.map tellD) pre/\KeptX (goX Ar L fr) H H'/\σ'=[some (.ref R),some (.ref j),some (.ref fr.a),some (.int (es.length:Nat))]) ?_ ?_
    . have nomv:mvD x=none->(∃ pre,Wd K cAccount cJournal cSave cMove cNote H j dx R L Ar S0 m0 (ds ++ (mvD x).toList)/\FrAt cFrame H fr x pre/\Stp K H H ((mvD x).toList.map tellD) pre/\KeptX (goX Ar L fr) H H/\[some (V.ref R),some (V.ref j),some (V.ref fr.a),some (V.int (es.length:Nat))]=[some (.ref R),some (.ref j),some (.ref fr.a),some (.int (es.length:Nat))]):=fun e=>by
        rw [e]
        exact ⟨[],by rw [show (none:Option Dd).toList=[] from rfl,List.append_nil]; exact W,F,Stp.nil,KeptX.refl,rfl⟩
      repeat walk_at "rw"
      refine Zah F.ob tFrame.k.cl tFrame.n_kind rfl ?_
      repeat' walk_at "rw"
      . rename_i hk
        refine Zah F.ob tFrame.k.cl tFrame.n_coin rfl ?_
        repeat' walk_at "rw"
        . rename_i hc
          have hmv:mvD x=some (.move x.caller x.who x.coin):=by unfold mvD; rw [if_pos ⟨hk,hc⟩]
          refine Zah F.ob tFrame.k.cl tFrame.n_caller rfl ?_
          repeat walk_at "rw"
          refine Zah F.ob tFrame.k.cl tFrame.n_who rfl ?_
          repeat walk_at "rw"
          refine Zah F.ob tFrame.k.cl tFrame.n_coin rfl ?_
          repeat walk_at "rw"
          intro o odx hx hdx hne
          have hx2:(upd H odx (.own o)) o=none:=by rw [Zai (Ne.symm hne)]; exact hx
          refine ⟨o,odx,x.caller,x.who,x.coin,rfl,Zag,rfl,?_⟩
          rw [ZaS]
          have s1:Same H (upd (upd H odx (.own o)) o (.ins cMove odx (moveF x.caller x.who x.coin))):=(Same.new hdx).newT hx2
          have eo:(upd (upd H odx (.own o)) o (.ins cMove odx (moveF x.caller x.who x.coin))) o=some (.ins cMove odx (moveF x.caller x.who x.coin)):=Zag
          have J1:=J.same s1
          have W1:=W.same s1
          have F1:=F.same s1
          generalize upd (upd H odx (.own o)) o (.ins cMove odx (moveF x.caller x.who x.coin))=H1 at s1 eo J1 W1 F1
          repeat walk_at "rw"
          refine ⟨j,dx,R,L,Ar,_,_,es,⟨o,odx,.move x.caller x.who x.coin⟩,fr,x,[],rfl,J1,W1.r,eo,hfit _ hmv,by omega,by omega,F1,ap,Nat.zero_le _,fun t H2 ht k2 r2 J2 F2 et=>?_⟩
          repeat walk_at "rw"
          rw [hmv]
          exact ⟨[.ref t],W1.wrote hes r2 J2 trivial,F2,Stp.tell (s1.fresh ht) et,s1.keptX.trans k2,rfl⟩
        . rename_i hc
          exact nomv (by unfold mvD; rw [if_neg (fun z=>hc z.2)])
      . rename_i hk
        exact nomv (by unfold mvD; rw [if_neg (fun z=>hk z.1)])
    rintro σ1 H1 ⟨pre,W1,F1,S1,k1,rfl⟩
    have hpl:pre.length <= 1:=by
      have:=DVs.length S1
      rw [List.length_map] at this
      cases e:mvD x with
      | none=>rw [e] at this; rw [<- this]; exact Nat.zero_le _
      | some d=>rw [e] at this; rw [<- this]; exact Nat.le_refl _
    generalize (mvD x).toList.map tellD=st0 at S1 kk
    repeat walk_at "rw"
    refine ⟨fun nn σ' H'=>∃ dx1 xx wz sa sb,RunW Ar S0 (GoW Ar S0 n) (S0 iw).rows nn dx1 xx ds1 y sb/\ds <+: dx1/\sa ++ sb=st0 ++ st1/\Stp K H H' sa wz/\xx.whose=(iw:Int)/\2 * nn + wz.length <= 80001/\Wd K cAccount cJournal cSave cMove cNote H' j dx R L Ar S0 m0 dx1/\FrAt cFrame H' fr xx wz/\KeptX (goX Ar L fr) H H'/\σ'=[some (.ref R),some (.ref j),some (.ref fr.a),some (.int (es.length:Nat))],⟨kt,_,x,pre,st0,st1,hrun,List.prefix_append _ _,rfl,S1,ew,by omega,W1,F1,k1,rfl⟩,?_⟩
    rintro nn σ' H2 ⟨dx1,xx,wz,sa,sb,hrun2,hp2,esb,S2,ew2,hl2,W2,F2,k2,rfl⟩
    have hob:=F2.ob
    cases hrun2 with
    | done hf =>
      obtain ⟨ee,hee⟩:∃ e,y.fin=some e:=by
        cases e:y.fin with
        | none=>exact absurd e hf
        | some e'=>exact ⟨e',rfl⟩
      rw [List.append_nil] at esb
      subst esb
      have fl:(fldF fr y).lookup (Str.ofString "end")=some (V.str ee):=by show some (endV y.fin)=_; rw [hee]; rfl
      repeat walk_at "rw"
      refine Zah F2.ob tFrame.k.cl tFrame.n_end fl ?_
      repeat walk_at "rw"
      refine ⟨rfl,?_⟩
      rw [decide_eq_false (show ¬ V.str ee=V.non by intro z; cases z)]
      repeat walk_at "rw"
      refine Zah F2.ob tFrame.k.cl tFrame.n_end fl ?_
      repeat' walk_at "rw"
      . rename_i hne
        have hw:¬ y.fin=some ("well" : Str):=by rw [hee]; intro z; exact hne (Option.some.inj z)
        rw [if_neg hw] at kk
        obtain ⟨es2,hes2,J2⟩:=W2.J
        have hel2:es2.length=ds1.length:=by rw [<- hes2,List.length_map]
        refine Zap J2.ob rfl ?_
        repeat walk_at "rw"
        have r2:=W2.r
        have ri2:=W2.ri
        rw [<- hes2] at r2 ri2
        refine ⟨j,dx,R,L,Ar,S0,_,es2,(es.length:Nat),rfl,J2,r2,ri2,by rw [List.length_map]; omega,fun H3 k3 r3 ri3 J3=>?_⟩
        have etk:(es2.take es.length).map (·.d)=ds:=by rw [List.map_take,hes2,hel]; exact (List.prefix_iff_eq_take.mp hp2).symm
        rw [Int.toNat_natCast] at r3 ri3 J3
        rw [etk] at r3 ri3
        repeat walk_at "rw"
        have F3:=F2.out W2.r ap J2.li k3
        exact kk wz H3 ⟨⟨_,etk,J3⟩,r3.tight2 W.ti,ri3,W.ti,W.b⟩ F3 (S2.kept (ZjU (f:=fr) k3) fun b z=>ZeE W F z) (k2.trans (ZjU k3))
      . rename_i he
        subst he
        rw [if_pos hee] at kk
        exact kk wz H2 W2 F2 S2 k2
    | step hf o hl e q =>
      rename_i n1 dsn x' add sn
      have fl:(fldF fr xx).lookup (Str.ofString "end")=some V.non:=by show some (endV xx.fin)=_; rw [hf]; rfl
      have op:=o.pre (GoW.pre n)
      have hdn:dx1.length <= 100000:=Nat.le_trans ((op.1.trans (q.pre (GoW.pre n)).1).length_le) hd1
      repeat walk_at "rw"
      refine Zah F2.ob tFrame.k.cl tFrame.n_end fl ?_
      repeat walk_at "rw"
      refine ⟨fun σ' H'=>∃ m',m' < n1 + 1/\_,fun _ _ h=>h,?_⟩
      repeat walk_at "rw"
      refine ⟨j,dx,R,L,Ar,S0,m0,dx1,fr,xx,wz,dsn,x',add,iw,ac,rfl,W2,F2,ap,ew2,hi,hac,o,hl,by omega,hdn,fun vs H3 W3 F3 S3 k3=>?_⟩
      have d2:=Zeo k2 fun b z=>ZeE W2 F2 z
      have ln:=DVs.length S3
      have ol:=op.2
      repeat walk_at "rw"
      exact ⟨n1,Nat.lt_succ_self _,dsn,x',wz ++ vs,sa ++ add,sn,q,hp2.trans op.1,by rw [List.append_assoc]; exact esb,(S2.kept k3 fun b z=>ZeE W F z).app (S3.base d2),by rw [e]; exact ew2,by rw [List.length_append]; omega,W3,F3,k2.trans k3,rfl⟩
theorem go_no {cAccount cJournal cSave cMove cNote cFrame:Addr} (D:Zao K mg "go" s_go):Cal P w K mg base 8 "go" (spGoW K cAccount cJournal cSave cMove cNote cFrame 0) :=
  Zaz (N:=["rooms", "journal", "frame", "mark"]) (ps:=["rooms", "journal", "frame"]) D Zm0 (fun vs H Q E h=>by obtain ⟨j,dx,R,L,A,S0,m0,ds,f,x,ds',y,st,rfl,_⟩:=h; rfl) (fun _ _ _ _ _ _ us hl=>bd3 (R:=fun us=>bindArgs _ ⟨us,[]⟩=pure (List.zip _ us)) (fun _ _ _=>rfl) us hl) (fun _ _ _ _ _ _ _ _ _ _ h=>by obtain ⟨_,_,_,_,_,_,_,_,_,_,_,_,_,_,_,_,_,h,_⟩:=h; exact h.elim)
theorem Zl3 {cAccount cJournal cSave cMove cNote cFrame aC:Addr} (tC3:TupK K aC ((["call", "borrow", "look"]:List Str).map V.str)) (D_call_row:Zao K mg "call_row" Zcu) (tFrame:T_Frame K mg cFrame) (m_Frame_left:MCal P w K mg base 1 cFrame "left" (spLeft cFrame)) (m_Frame_finish:MCal P w K mg base 1 cFrame "finish" (Zcw cFrame)) (m_Frame_tree:MCal P w K mg base 1 cFrame "tree" (spTree cFrame)) (m_Frame_lay:MCal P w K mg base 1 cFrame "lay" (spLay cFrame)) (c_other_call:Cal P w K mg base 3 "other_call" (Zhq K cFrame)) (c_end_ahead_of_call:Cal P w K mg base 2 "end_ahead_of_call" (Zfq K cAccount cFrame)) (n_min:mg "min" = none) (D_go_row:Zao K mg "go_row" ZdG) (c_row_price:Cal P w K mg base 3 "row_price" (Zcx K cAccount cFrame)) (c_do_row:Cal P w K mg base 6 "do_row" (Zhr K cAccount cJournal cSave cMove cNote cFrame)) (g_CALLING:ZaV mg "CALLING" (.ref aC)) (D_go_on:Zao K mg "go_on" Ze0) (tAccount:T_Account K mg cAccount) (c_end_ahead_of:Cal P w K mg base 4 "end_ahead_of" (Zhk K cAccount cFrame)) (n_len:mg "len" = none) (D_go:Zao K mg "go" s_go) (tJournal:T_Journal K mg cJournal) (tMove:T_Move K mg cMove) (m_Journal_mark:MCal P w K mg base 1 cJournal "mark" (spMark cJournal)) (i_Move:ICal P w K mg base 1 "Move" cMove (Zfa cMove)) (m_Journal_back:MCal P w K mg base 3 cJournal "back" (spBack K cAccount cJournal cSave cMove cNote)) (c_write_step:Cal P w K mg base 4 "write_step" (ZbQ K cAccount cJournal cSave cMove cNote cFrame)):∀ n,Cal P w K mg base (4 * n + 8) "go" (spGoW K cAccount cJournal cSave cMove cNote cFrame n)
  | 0=>go_no D_go
  | n + 1 =>
    have c:=Zl3 tC3 D_call_row tFrame m_Frame_left m_Frame_finish m_Frame_tree m_Frame_lay c_other_call c_end_ahead_of_call n_min D_go_row c_row_price c_do_row g_CALLING D_go_on tAccount c_end_ahead_of n_len D_go tJournal tMove m_Journal_mark i_Move m_Journal_back c_write_step n
    have c1:=Zht (k:=4 * n) (n:=n) D_call_row tFrame m_Frame_left m_Frame_finish m_Frame_tree m_Frame_lay c_other_call c_end_ahead_of_call (c) n_min
    have c2:=Zj4 (k:=4 * n) (n:=n) tC3 D_go_row tFrame c_row_price (c1) c_do_row g_CALLING
    have c3:=Zlh (k:=4 * n) (n:=n) D_go_on tAccount tFrame m_Frame_finish c_end_ahead_of (c2) n_len
    Zm1 (k:=4 * n) (n:=n) D_go tJournal tFrame tMove m_Journal_mark i_Move m_Journal_back c_write_step (c3)
end
noncomputable def Zh6 (K:PySem.W.Frag) (C cJ cS cM cN:Addr):Sp:=fun vs H Q _=>∃ (j dx R L:Addr) (A:Nat->Option AcI) (S0:Nat->AcS) (m0:Nat) (ds:List Dd) (caller who coin word given:Int) (ds':List Dd) (y:FrS) (st:List Dt),vs=[.ref R,.ref j,.int caller,.int who,.int coin,.int word,.int given]/\Wd K C cJ cS cM cN H j dx R L A S0 m0 ds/\GoW A S0 10 ds (frame0 "call" who who caller coin word given 1 false) ds' y st /\
  ∀ p H',Wd K C cJ cS cM cN H' j dx R L A S0 m0 ds'->Stp K H H' [treeD y st] [.ref p]->KeptX (fun b=>¬ Out A b\/b=L) H H'->Q (.ref p) H'
section
variable {P:Program} {w:World} {K:PySem.W.Frag} {mg:Str->Option Value} {base:Heap}
theorem Zh7:FnScope ["rooms", "journal", "caller", "who", "coin", "word", "given", "frame"] ["rooms", "journal", "caller", "who", "coin", "word", "given"] (Zab ZgS):=⟨rfl,rfl,rfl,by decide +kernel,rfl,by decide +kernel,by decide +kernel⟩
theorem Zli   {cFrame:Addr} (D:Zao K mg "enter" ZgS) (tFrame:T_Frame K mg cFrame) (m_Frame_tree:MCal P w K mg base 1 cFrame "tree" (spTree cFrame)) (c_go:Cal P w K mg base 48 "go" (spGoW K cAccount cJournal cSave cMove cNote cFrame 10)) (iD7_Frame:ZgN P w K mg base 1 "Frame" cFrame (Zd9 cFrame) [.int 1,.bl false]):Cal P w K mg base 49 "enter" (Zh6 K cAccount cJournal cSave cMove cNote):=by
  refine Zaz (N:=["rooms", "journal", "caller", "who", "coin", "word", "given", "frame"]) (ps:=["rooms", "journal", "caller", "who", "coin", "word", "given"]) D Zh7 (fun vs H Q E h=>?_) (fun _ _ _ _ _ _ us hl=>bd7 (R:=fun us=>bindArgs _ ⟨us,[]⟩=pure (List.zip _ us)) (fun _ _ _ _ _ _ _=>rfl) us hl) (fun f cdv A outer s H vs Q E hr h=>?_)
  . obtain ⟨j,dx,R,L,A,S0,m0,ds,caller,who,coin,word,given,ds',y,st,rfl,_⟩:=h; rfl
  . obtain ⟨j,dx,R,L,Ar,S0,m0,ds,caller,who,coin,word,given,ds',y,st,rfl,W,hG,k⟩:=h
    refine ⟨_,(Zac (ZaI (i:=7) Zh7.nd rfl (by first|exact Or.inl rfl|exact Or.inr rfl) (ZdF iD7_Frame (hr.mono (by decide)) rfl (Zaa Zas (Zaa (pv 3) (Zaa (pv 3) (Zaa (pv 2) (Zaa (pv 4) (Zaa (pv 5) (Zaa (pv 6) Zaf)))))))))
      (Zac (Zav (ZaG c_go (hr.mono (by decide)) rfl (Zaa (pv 0) (Zaa (pv 1) (Zaa (pv 7) Zaf)))))
      (Zad (Zam (ZcV m_Frame_tree (hr.mono (by decide)) (pv 7)))))),?_⟩
    walk_at "nx"
    repeat walk_at "rw"
    refine Zk4 ?_
    repeat walk_at "rw"
    intro a adx ha hadx hne
    have ha2:(upd H adx (.own a)) a=none:=by rw [Zai (Ne.symm hne)]; exact ha
    have s1:Same H (upd (upd H adx (.own a)) a (.ins cFrame adx [])):=(Same.new hadx).newT ha2
    refine ⟨a,adx, "call", who,who,caller,coin,word,given,1,false,rfl,Zag,fun ST SS H1 hST hSS F1 k1=>?_⟩
    have nf:NewF H ⟨a,adx,ST,SS⟩:=⟨ha,s1.fresh hST,s1.fresh hSS⟩
    have sa:Same H H1:=fun b o e=>k1 b o (s1 b o e) (Zaj e ha)
    have W1:=W.same sa
    refine ⟨rfl,?_⟩
    repeat walk_at "rw"
    refine ⟨j,dx,R,L,Ar,S0,m0,ds,⟨a,adx,ST,SS⟩,_,ds',y,st,rfl,W1,F1,nf.ap W,hG,fun vs H2 W2 F2 S2 k2=>?_⟩
    rw [List.nil_append] at F2
    have d2:∀ b,H2 b=none->H b=none:=fun b h=>sa.fresh (Zeo k2 (fun b z=>ZeE W2 F2 z) b h)
    have kX:KeptX (fun b=>¬ Out Ar b\/b=L) H H2:=fun b o e nb=>k2 b o (sa b o e) fun z=>by
      rcases z with z|z|z
      . exact nb (.inl z)
      . exact nb (.inr z)
      . exact nf.not (by rw [e]; intro q; cases q) z
    repeat walk_at "rw"
    refine Zap F2.ob rfl ?_
    refine ⟨⟨a,adx,ST,SS⟩,y,_,rfl,F2,fun p T H3 s3 hp hT e1 e2=>?_⟩
    exact k p H3 (W2.same s3) (((S2.base fun b h=>sa.fresh h).same s3).tree (d2 _ hT) e1 (d2 _ hp) e2) (kX.trans s3.keptX)
end
noncomputable def atS (x:FrS) (st:List Int) (row used:Int):FrS:={ x with stack:=st,row:=row,used:=used }
noncomputable def endS (x:FrS) (st:List Int) (row used:Int) (e:Str) (a:Int):FrS:={ x with stack:=st,row:=row,used:=used,fin:=some e,answer:=a }
section
variable {A:Nat->Option AcI} {S0:Nat->AcS} {G:GR} {rows:List Row} {n i i':Nat} {ds ds' ds1 ds2:List Dd} {x x' y:FrS} {s:List Dt} {st st':List Int} {w:Str} {nn:Option Int} {u u' r t l c:Int}
theorem Zj5 {ad:List Dt} {pr d:Int} {b1 b2:Bool} (hf:x.fin=none) (hw:rows[i]?=some (w,nn)) (e1:Zbq w nn=some r) (e2:RT.lookup w=some (t,l,pr,d)) (h1:t + r <= (st.length:Int)) (h2:(st.length:Int) - t + l <= 24) (hl:st.length <= 24)
    (hb1:ZbH (atS x st i u) w b1) (hb2:fillsR A (runS S0 ds) (atS x st i u) w b2) (hb:barB (atS x st i u) w b1=false) (hc:(if (b1 || b2)=true then d else pr)=c) (hu:u + c=u') (hg:u' <= x.given) (hD:DoW A S0 G w nn ds (atS x st ((i:Int) + 1) u') ds' x' ad) (hx:x'.whose=x.whose) (q:RunW A S0 G rows n ds' x' ds2 y s) :
    RunW A S0 G rows (n + 1) ds (atS x st i u) ds2 y (.int (i:Int) :: (ad ++ s)):=by
  refine RunW.step (add:=.int (i:Int) :: ad) hf (.inr ⟨i,w,nn,rfl,hw,.inr ⟨⟨r,t,l,pr,d,e1,e2,.inr (.inr ⟨?_,?_,b1,b2,hb1,hb2,.inr (.inr ⟨hb,?_,rfl⟩)⟩)⟩,b1,b2,t,l,pr,d,ad,hb1,hb2,e2,?_,rfl⟩⟩) (Nat.le_trans hl (by decide)) hx q
  . show ¬ (st.length:Int) < _; omega
  . show ¬ 24 < (st.length:Int) - _ + _; omega
  . rw [hc]; show ¬ x.given - u < c; omega
  . rw [hc,<- hu] at *; exact hD
theorem Zj6 {D:RD} (hf:x.fin=none) (hw:rows[i]?=some (w,nn)) (e1:Zbq w nn=some r) (e2:RT.lookup w=some (t,l,c,c)) (h1:t + r <= (st.length:Int)) (h2:(st.length:Int) - t + l <= 24) (hl:st.length <= 24) (nc:w ≠ "call" /\ w ≠ "save" /\ inS w ["save", "note"]=false/\inS w ["call", "borrow", "look"]=false) (hR:RDL.lookup w=some D) (hu:u + c=u') (hg:u' <= x.given)
    (hD:D (atS x st ((i:Int) + 1) u') w nn x') (hx:x'.whose=x.whose) (q:RunW A S0 G rows n ds x' ds2 y s):RunW A S0 G rows (n + 1) ds (atS x st i u) ds2 y (.int (i:Int) :: s) :=
  Zj5 (b1:=false) (b2:=false) (ad:=[]) hf hw e1 e2 h1 h2 hl (.inl ⟨nc.1,rfl⟩) (.inl ⟨nc.2.1,rfl⟩) (by unfold barB; rw [nc.2.2.1]; cases (atS x st i u).looking <;> rfl) rfl hu hg (.pure nc.2.2.2 hR hD) hx q
theorem Zfs {k:Int} (hf:x.fin=none) (hw:rows[i]?=some (("push" : Str),some k)) (hl:st.length < 24) (hu:u + 1=u') (hg:u' <= x.given) (q:RunW A S0 G rows n ds (atS x (st ++ [k]) ((i + 1:Nat):Int) u') ds2 y s):RunW A S0 G rows (n + 1) ds (atS x st i u) ds2 y (.int (i:Int) :: s) :=
  Zj6 hf hw rfl rfl (by omega) (by omega) (by omega) ⟨by decide,by decide,rfl,rfl⟩ rfl hu hg ⟨k,rfl,rfl⟩ rfl q
theorem Zbk (a:List Int) (b:Int):(a ++ [b]).length=a.length + 1:=by rw [List.length_append]; rfl
theorem Zm2 {v:Int} (hf:x.fin=none) (hw:rows[i]?=some (("drop" : Str),none)) (hl:st.length < 24) (hu:u + 1=u') (hg:u' <= x.given) (q:RunW A S0 G rows n ds (atS x st ((i + 1:Nat):Int) u') ds2 y s):RunW A S0 G rows (n + 1) ds (atS x (st ++ [v]) i u) ds2 y (.int (i:Int) :: s) :=
  Zj6 (D:=rDrop) hf hw rfl rfl (by rw [Zbk]; omega) (by rw [Zbk]; omega) (by rw [Zbk]; omega) ⟨by decide,by decide,rfl,rfl⟩ rfl hu hg ⟨st,v,rfl,rfl⟩ rfl q
theorem Zm3 {d:Dt} {pr dd:Int} {b1:Bool} {u2:Int} (hf:x.fin=none) (hw:rows[i]?=some (w,none)) (e2:RT.lookup w=some (t,2,pr,dd)) (e1:Zbq w none=some 0) (h1:t <= (st.length:Int)) (h3:2 <= t) (hl:st.length <= 24) (hb1:ZbH (atS x st i u) w b1) (n2:w ≠ "save") (hb:barB (atS x st i u) w b1=false) (hc:(if b1=true then dd else pr)=c) (hu:u + c=u') (hg:u' <= x.given) (hC:inS w ["call", "borrow", "look"]=true)
    (h:Zj0 A S0 G w ds (atS x st ((i + 1:Nat):Int) u') ds1 (atS x st' ((i + 1:Nat):Int) u2) d) (q:RunW A S0 G rows n ds1 (atS x st' ((i + 1:Nat):Int) u2) ds2 y s):RunW A S0 G rows (n + 1) ds (atS x st i u) ds2 y (.int (i:Int) :: d :: s) :=
  Zj5 (b1:=b1) (b2:=false) (ad:=[d]) hf hw e1 e2 (by omega) (by omega) hl hb1 (.inl ⟨n2,rfl⟩) hb (by rw [Bool.or_false]; exact hc) hu hg (.call hC h) rfl q
theorem en_of (hf:x.fin=none) (h:(rows.length:Int) <= (i:Int)) (hl:st.length <= 24):RunW A S0 G rows 1 ds (atS x st i u) ds (endS x st i u "well" 0) [] :=
  RunW.step (add:=[]) (st:=[]) hf (.inl ⟨h,rfl,rfl,rfl⟩) (Nat.le_trans hl (by decide)) rfl (.done (by intro z; cases z))
theorem en_dry {pr d:Int} {b1 b2:Bool} (hf:x.fin=none) (hw:rows[i]?=some (w,nn)) (e1:Zbq w nn=some r) (e2:RT.lookup w=some (t,l,pr,d)) (h1:t + r <= (st.length:Int)) (h2:(st.length:Int) - t + l <= 24) (hl:st.length <= 24)
    (hb1:ZbH (atS x st i u) w b1) (hb2:fillsR A (runS S0 ds) (atS x st i u) w b2) (hb:barB (atS x st i u) w b1=false) (hc:(if (b1 || b2)=true then d else pr)=c) (hg:x.given < u + c):RunW A S0 G rows 1 ds (atS x st i u) ds (endS x st i u "dry" 0) []:=by
  refine RunW.step (add:=[]) (st:=[]) hf (.inr ⟨i,w,nn,rfl,hw,.inl ⟨"dry", ⟨r,t,l,pr,d,e1,e2,.inr (.inr ⟨?_,?_,b1,b2,hb1,hb2,.inr (.inl ⟨hb,?_,rfl⟩)⟩)⟩,rfl,rfl,rfl⟩⟩) (Nat.le_trans hl (by decide)) rfl (.done (by intro z; cases z))
  . show ¬ (st.length:Int) < _; omega
  . show ¬ 24 < (st.length:Int) - _ + _; omega
  . rw [hc]; show x.given - u < c; omega
end
section
end
noncomputable def Has (H:Hp):List (Addr × HO)->Prop
  | []=>True
  | p :: r=>H p.1=some p.2/\Has H r
theorem Has.same {H H':Hp} (s:Same H H'):∀ {fs:List (Addr × HO)},Has H fs->Has H' fs
  | [],_=>trivial
  | _ :: _,h=>⟨s _ _ h.1,Has.same s h.2⟩
structure Gw (H0 H:Hp) (fs:List (Addr × HO)):Prop where
  s:Same H0 H
  h:Has H fs
section
variable {H0 H H':Hp} {fs:List (Addr × HO)} {p:Addr} {o:HO}
theorem Gw.start:Gw H H []:=⟨Same.refl _,trivial⟩
theorem Gw.new (g:Gw H0 H fs) (n:H p=none):Gw H0 (upd H p o) ((p,o) :: fs):=⟨g.s.newT n,Zag,g.h.same (Same.new n)⟩
theorem Gw.newE (g:Gw H0 H fs) (n:H p=none) (e:upd H p o=H'):Gw H0 H' ((p,o) :: fs):=by rw [<- e]; exact g.new n
theorem Gw.same (g:Gw H0 H fs) (s:Same H H'):Gw H0 H' fs:=⟨g.s.trans s,g.h.same s⟩
theorem Gw.add (g:Gw H0 H fs) (e:H p=some o):Gw H0 H ((p,o) :: fs):=⟨g.s,e,g.h⟩
theorem Gw.fresh (g:Gw H0 H fs) (n:H p=none):H0 p=none:=g.s.fresh n
end
noncomputable abbrev rw0 (w:Str):Row:=(w,none)
noncomputable abbrev rw1 (w:Str) (k:Int):Row:=(w,some k)
theorem Zlj {A:Nat->Option AcI} {S0:Nat->AcS} {G:GR} {w:Str} {ds ds':List Dd} {x y y':FrS} {s:List Int} {st:List Dt} (gv:Int) (hO:Zh1 x w s y) (hl:s.length <= 900) (ha:Zem A (runS S0 ds) y none) (hgv:(if x.given - x.used < y.given then x.given - x.used else y.given)=gv) (hG:G ds { y with given:=gv } ds' y' st):Zj0 A S0 G w ds x ds' { x with stack:=s ++ [y'.answer,wellI y'.fin],used:=x.used + y'.used } (treeD y' st) :=
  ⟨s,y,y',st,none,hO,rfl,rfl,hl,ha,.inr ⟨rfl,by rw [hgv]; exact hG⟩⟩
theorem Zft {A:Nat->Option AcI} {S0:Nat->AcS} {G:GR} {w:Str} {ds:List Dd} {x y:FrS} {s:List Int} {e:Str} (hO:Zh1 x w s y) (hl:s.length <= 900) (ha:Zem A (runS S0 ds) y (some e)):Zj0 A S0 G w ds x ds { x with stack:=s ++ [0,wellI (some e)],used:=x.used + y.used } (treeD { y with given:=0,fin:=some e,answer:=0 } []) :=
  ⟨s,y,_,[],some e,hO,rfl,rfl,hl,ha,.inl ⟨e,rfl,rfl,rfl,rfl⟩⟩
noncomputable def upI (i:Nat):Nat->List Dt
  | 0=>[]
  | n + 1=>.int (i:Int) :: upI (i + 1) n
section
variable {A:Nat->Option AcI} {S0:Nat->AcS} {G:GR} {rows:List Row} {n:Nat} {ds ds2:List Dd} {x y:FrS} {s:List Dt} {w:Str} {nn:Option Int} {r t l:Int}
theorem Zh8 (hf:x.fin=none):∀ (ns st:List Int) (i:Nat) (u:Int),(∀ j,j < ns.length->rows[i + j]?=(ns[j]?).map (rw1 "push"))->st.length + ns.length <= 24->u + (ns.length:Int) <= x.given->RunW A S0 G rows n ds (atS x (st ++ ns) ((i + ns.length:Nat):Int) (u + (ns.length:Int))) ds2 y s->RunW A S0 G rows (ns.length + n) ds (atS x st (i:Int) u) ds2 y (upI i ns.length ++ s)
  | [],st,i,u,_,_,_,q=>by
    rw [List.append_nil] at q
    have e1:u + (([]:List Int).length:Int)=u:=Int.add_zero u
    rw [e1] at q
    show RunW A S0 G rows (0 + n) _ _ _ _ _
    rw [Nat.zero_add]
    exact q
  | k :: ns,st,i,u,hr,hl,hg,q=>by
    have hlen:((k :: ns).length:Int)=(ns.length:Int) + 1:=by rw [List.length_cons]; omega
    have h0:rows[i]?=some (("push" : Str),some k):=by have:=hr 0 (by rw [List.length_cons]; omega); simpa using this
    have hl':st.length + (ns.length + 1) <= 24:=hl
    rw [hlen] at hg
    have q2:=Zh8 hf ns (st ++ [k]) (i + 1) (u + 1) (fun j hj=>by have:=hr (j + 1) (by rw [List.length_cons]; omega); rw [show i + 1 + j=i + (j + 1) by omega,this]; rfl) (by rw [List.length_append]; show st.length + 1 + ns.length <= 24; omega) (by omega) (by
      rw [List.append_assoc,show u + 1 + (ns.length:Int)=u + ((k :: ns).length:Int) by rw [hlen]; omega,show i + 1 + ns.length=i + (k :: ns).length by rw [List.length_cons]; omega]
      exact q)
    have e:(k :: ns).length + n=(ns.length + n) + 1:=by rw [List.length_cons]; omega
    rw [e]
    exact Zfs hf h0 (by omega) rfl (by omega) q2
theorem Zlk {i:Nat} {u pr d:Int} {st:List Int} (hf:x.fin=none) (hw:rows[i]?=some (w,nn)) (e1:Zbq w nn=some r) (e2:RT.lookup w=some (t,l,pr,d)) (h1:(st.length:Int) < t + r) (hl:st.length <= 24):RunW A S0 G rows 1 ds (atS x st i u) ds (endS x st i u "short" 0) [] :=
  RunW.step (add:=[]) (st:=[]) hf (.inr ⟨i,w,nn,rfl,hw,.inl ⟨"short", ⟨r,t,l,pr,d,e1,e2,.inl ⟨h1,rfl⟩⟩,rfl,rfl,rfl⟩⟩) (Nat.le_trans hl (by decide)) rfl (.done (by intro z; cases z))
theorem Zm4 {i:Nat} {u pr d:Int} {st:List Int} (hf:x.fin=none) (hw:rows[i]?=some (w,nn)) (e1:Zbq w nn=some r) (e2:RT.lookup w=some (t,l,pr,d)) (h1:t + r <= (st.length:Int)) (h2:24 < (st.length:Int) - t + l) (hl:st.length <= 24):RunW A S0 G rows 1 ds (atS x st i u) ds (endS x st i u "full" 0) [] :=
  RunW.step (add:=[]) (st:=[]) hf (.inr ⟨i,w,nn,rfl,hw,.inl ⟨"full", ⟨r,t,l,pr,d,e1,e2,.inr (.inl ⟨by show ¬ (st.length:Int) < _; omega,by show 24 < (st.length:Int) - _ + _; omega,rfl⟩)⟩,rfl,rfl,rfl⟩⟩) (Nat.le_trans hl (by decide)) rfl (.done (by intro z; cases z))
theorem en_bar {i:Nat} {u pr d:Int} {st:List Int} {b1 b2:Bool} (hf:x.fin=none) (hw:rows[i]?=some (w,nn)) (e1:Zbq w nn=some r) (e2:RT.lookup w=some (t,l,pr,d)) (h1:t + r <= (st.length:Int)) (h2:(st.length:Int) - t + l <= 24) (hl:st.length <= 24) (hb1:ZbH (atS x st i u) w b1) (hb2:fillsR A (runS S0 ds) (atS x st i u) w b2) (hb:barB (atS x st i u) w b1=true):RunW A S0 G rows 1 ds (atS x st i u) ds (endS x st i u "barred" 0) [] :=
  RunW.step (add:=[]) (st:=[]) hf (.inr ⟨i,w,nn,rfl,hw,.inl ⟨"barred", ⟨r,t,l,pr,d,e1,e2,.inr (.inr ⟨by show ¬ (st.length:Int) < _; omega,by show ¬ 24 < (st.length:Int) - _ + _; omega,b1,b2,hb1,hb2,.inl ⟨hb,rfl⟩⟩)⟩,rfl,rfl,rfl⟩⟩) (Nat.le_trans hl (by decide)) rfl (.done (by intro z; cases z))
end
section
end
noncomputable def WL33:List Str:=["push", "drop", "copy", "swap", "add", "minus", "times", "over", "rest", "below", "same", "both", "either", "unlike", "up", "down", "jump", "jumpif", "load", "save", "me", "from", "sent", "word", "coin", "note", "call", "borrow", "look", "give", "fail"]
noncomputable def takesW (w:Str) (n:Int):Int:=if inS w ["copy", "swap"]=true then n + 1 else if inS w ["push", "me", "from", "sent", "word", "jump"]=true then 0 else if inS w ["drop", "jumpif", "note", "give", "fail", "load", "coin"]=true then 1 else if w = "call" then 4 else if inS w ["borrow", "look"]=true then 3 else 2
noncomputable def moreW (w:Str):Int:=if inS w ["push", "copy", "me", "from", "sent", "word"]=true then 1 else 0
noncomputable def Zh9 (K:PySem.W.Frag):Sp:=fun vs H Q _=>∃ (p:Addr) (w:Str) (n:Option Int),vs=[.ref p]/\Zbj K H p w n/\(inS w ["copy", "swap"]=true->∃ k,n=some k)/\∀ H',Same H H'->Q (.int (takesW w (n.getD 0))) H'
noncomputable def Zj7 (K:PySem.W.Frag):Sp:=fun vs H Q _=>∃ (p:Addr) (w:Str) (n:Option Int),vs=[.ref p]/\Zbj K H p w n/\∀ H',Same H H'->Q (.int (moreW w)) H'
noncomputable def Zj8 (K:PySem.W.Frag):Sp:=fun vs H Q _=>vs=[]/\∀ q H',Same H H'->H q=none->H' q=some (.lst (WL33.map V.str))->Q (.ref q) H'
section
variable {P:Program} {w:World} {K:PySem.W.Frag} {mg:Str->Option Value} {base:Heap}
theorem Zgv:FnScope ["_law_row_here", "_law_word"] ["_law_row_here"] (Zab Ze3):=⟨rfl,rfl,rfl,by decide +kernel,rfl,by decide +kernel,by decide +kernel⟩
theorem Zj9    (D:Zao K mg "_law_takes" Ze3):Cal P w K mg base 1 "_law_takes" (Zh9 K):=by
  refine Zaz (N:=["_law_row_here", "_law_word"]) (ps:=["_law_row_here"]) D Zgv (fun vs H Q E h=>?_) (fun _ _ _ _ _ _ us hl=>bd1 (R:=fun us=>bindArgs _ ⟨us,[]⟩=pure (List.zip _ us)) (fun _=>rfl) us hl) (fun f cdv A outer s H vs Q E hr h=>?_)
  . obtain ⟨p,w,n,rfl,_⟩:=h; rfl
  . obtain ⟨p,wd,n,rfl,hp,hn,k⟩:=h
    refine' ⟨_,?der,?_⟩
    case der =>
      refine' Zac ?h23 ?h24
      case h23 =>
        exact (ZaI (i:=1) Zgv.nd rfl (by first|exact Or.inl rfl|exact Or.inr rfl) (Zay ZaF (pv 0) Zae (fun _ _=>rfl)))
      case h24 =>
        refine' Zac ?h21 ?h22
        case h21 =>
          refine' ZaP ?h1 ?h2 ?h3
          case h1 =>
            exact (Zaq Zba (pv 1) (ZaT (Zaa Zas (Zaa Zas Zaf))) rfl)
          case h2 =>
            exact (Zad (Zam (ZaN ZbA (Zay ZaF (pv 0) Zae (fun _ _=>rfl)) Zae)))
          case h3 =>
            exact Zat
        case h22 =>
          refine' Zac ?h19 ?h20
          case h19 =>
            refine' ZaP ?h4 ?h5 ?h6
            case h4 =>
              exact (Zaq Zba (pv 1) (ZaT (ZfV (vs:=[.str "push", .str "me", .str "from", .str "sent", .str "word", .str "jump"]) (by rfl))) rfl)
            case h5 =>
              exact (Zad (Zam Zae))
            case h6 =>
              exact Zat
          case h20 =>
            refine' Zac ?h17 ?h18
            case h17 =>
              refine' ZaP ?h7 ?h8 ?h9
              case h7 =>
                exact (Zaq Zba (pv 1) (ZaT (ZfV (vs:=[.str "drop", .str "jumpif", .str "note", .str "give", .str "fail", .str "load", .str "coin"]) (by rfl))) rfl)
              case h8 =>
                exact (Zad (Zam Zae))
              case h9 =>
                exact Zat
            case h18 =>
              refine' Zac ?h15 ?h16
              case h15 =>
                exact (ZaP (Zaq ZbF (pv 1) Zas (nomark _)) (Zad (Zam Zae)) Zat)
              case h16 =>
                refine' Zac ?h13 ?h14
                case h13 =>
                  refine' ZaP ?h10 ?h11 ?h12
                  case h10 =>
                    exact (Zaq Zba (pv 1) (ZaT (Zaa Zas (Zaa Zas Zaf))) rfl)
                  case h11 =>
                    exact (Zad (Zam Zae))
                  case h12 =>
                    exact Zat
                case h14 =>
                  exact (Zad (Zam Zae))
    walk_at "nx"
    unfold takesW at k
    have z0:Gw H H []:=Gw.start
    repeat walk_at "rw"
    refine ⟨by show 2 <= sizeLine; decide,fun q1 p1=>?_⟩
    generalize e_:upd _ q1 _=Z1; have z1:=z0.newE p1 e_; clear e_
    refine ZbZ (xs:=["copy", "swap"]) (Zbg z1.h.1) ?_
    cases h1:inS wd ["copy", "swap"] with
    | true =>
      obtain ⟨kk,rfl⟩:=hn h1
      rw [h1,if_pos rfl] at k
      have hp1:SqT K Z1 p [.str wd,.int kk]:=z1.s.tup hp
      repeat walk_at "rw"
      exact k _ z1.s
    | false =>
      rw [h1,if_neg (by decide)] at k
      repeat walk_at "rw"
      refine ⟨by show 6 <= sizeLine; decide,fun q2 p2=>?_⟩
      generalize e_:upd _ q2 _=Z2; have z2:=z1.newE p2 e_; clear e_
      refine ZbZ (xs:=["push", "me", "from", "sent", "word", "jump"]) (Zbg z2.h.1) ?_
      cases h2:inS wd ["push", "me", "from", "sent", "word", "jump"] with
      | true =>
        rw [h2,if_pos rfl] at k
        repeat walk_at "rw"
        exact k _ z2.s
      | false =>
        rw [h2,if_neg (by decide)] at k
        repeat walk_at "rw"
        refine ⟨by show 7 <= sizeLine; decide,fun q3 p3=>?_⟩
        generalize e_:upd _ q3 _=Z3; have z3:=z2.newE p3 e_; clear e_
        refine ZbZ (xs:=["drop", "jumpif", "note", "give", "fail", "load", "coin"]) (Zbg z3.h.1) ?_
        cases h3:inS wd ["drop", "jumpif", "note", "give", "fail", "load", "coin"] with
        | true =>
          rw [h3,if_pos rfl] at k
          repeat walk_at "rw"
          exact k _ z3.s
        | false =>
          rw [h3,if_neg (by decide)] at k
          repeat' walk_at "rw"
          . rename_i hc
            rw [if_pos hc] at k
            exact k _ z3.s
          . rename_i hc
            rw [if_neg hc] at k
            refine ⟨by show 2 <= sizeLine; decide,fun q4 p4=>?_⟩
            generalize e_:upd _ q4 _=Z4; have z4:=z3.newE p4 e_; clear e_
            refine ZbZ (xs:=["borrow", "look"]) (Zbg z4.h.1) ?_
            cases h4:inS wd ["borrow", "look"] with
            | true =>
              rw [h4,if_pos rfl] at k
              repeat walk_at "rw"
              exact k _ z4.s
            | false =>
              rw [h4,if_neg (by decide)] at k
              repeat walk_at "rw"
              exact k _ z4.s
theorem Zll:FnScope ["_law_row_here"] ["_law_row_here"] (Zab ZgT):=⟨rfl,rfl,rfl,by decide +kernel,rfl,by decide +kernel,by decide +kernel⟩
theorem Zlm    (D:Zao K mg "_law_more" ZgT):Cal P w K mg base 1 "_law_more" (Zj7 K):=by
  refine Zaz (N:=["_law_row_here"]) (ps:=["_law_row_here"]) D Zll (fun vs H Q E h=>?_) (fun _ _ _ _ _ _ us hl=>bd1 (R:=fun us=>bindArgs _ ⟨us,[]⟩=pure (List.zip _ us)) (fun _=>rfl) us hl) (fun f cdv A outer s H vs Q E hr h=>?_)
  . obtain ⟨p,w,n,rfl,_⟩:=h; rfl
  . obtain ⟨p,wd,n,rfl,hp,k⟩:=h
    refine' ⟨_,?der,?_⟩
    case der =>
      refine' Zac ?h28 ?h29
      case h28 =>
        refine' ZaP ?h25 ?h26 ?h27
        case h25 =>
          exact (Zaq Zba (Zay ZaF (pv 0) Zae (fun _ _=>rfl)) (ZaT (ZfV (vs:=[.str "push", .str "copy", .str "me", .str "from", .str "sent", .str "word"]) (by rfl))) rfl)
        case h26 =>
          exact (Zad (Zam Zae))
        case h27 =>
          exact Zat
      case h29 =>
        exact (Zad (Zam Zae))
    walk_at "nx"
    unfold moreW at k
    have z0:Gw H H []:=Gw.start
    repeat walk_at "rw"
    refine ⟨by show 6 <= sizeLine; decide,fun q1 p1=>?_⟩
    generalize e_:upd _ q1 _=Z1; have z1:=z0.newE p1 e_; clear e_
    refine ZbZ (xs:=["push", "copy", "me", "from", "sent", "word"]) (Zbg z1.h.1) ?_
    cases h1:inS wd ["push", "copy", "me", "from", "sent", "word"] with
    | true =>
      rw [h1,if_pos rfl] at k
      repeat walk_at "rw"
      exact k _ z1.s
    | false =>
      rw [h1,if_neg (by decide)] at k
      repeat walk_at "rw"
      exact k _ z1.s
end
theorem bd0 {R:List Value->Prop} (h:R []) (us:List Value) (hl:us.length=0):R us:=by
  cases us with
  | nil=>exact h
  | cons a l=>simp at hl
noncomputable def priceW (w:Str) (st:List Int):Int:=if w = "save" then 5 + 7 * (if decide (¬ st.getLastD 0=0)=true then (1:Int) else 0) else if w = "call" then 8 + 4 * (if decide (¬ (st.reverse.getD 2 0)=0)=true then (1:Int) else 0) else if inS w ["borrow", "look"]=true then 6 else if w = "note" then 4 else if inS w ["load", "coin"]=true then 3 else if inS w ["times", "over", "rest"]=true then 2 else 1
inductive RowK33 (many:Nat):Str->Option Int->Prop
  | push {k:Int} (h:0 <= k) (h2:k < 18446744073709551616):RowK33 many "push" (some k)
  | copy {k:Int} (h:0 <= k) (h2:k < 16):RowK33 many "copy" (some k)
  | swap {k:Int} (h:1 <= k) (h2:k < 16):RowK33 many "swap" (some k)
  | jump:RowK33 many "jump" (some ((many:Int) + 1))
  | jumpif:RowK33 many "jumpif" (some ((many:Int) + 1))
  | bare {w:Str} (h:w ∈ WL33) (h2:inS w ["push", "copy", "swap", "jump", "jumpif"]=false):RowK33 many w none
noncomputable def spRowL (K:PySem.W.Frag):Sp:=fun vs H Q _=>∃ (c:Int) (many:Nat),vs=[.int c,.int (many:Int)]/\∀ t w n H',Same H H'->H t=none->RowK33 many w n->H' t=some (.tup (rowV w n))->Q (.ref t) H'
noncomputable def Zia (K:PySem.W.Frag):Sp:=fun vs H Q _=>∃ (d:Dt) (v:V),vs=[v]/\d ≠ .non/\(∀ b,d ≠ .bl b)/\DV K H d v/\Q (.bl (match d with|.int _=>true|_=>false)) H
theorem w31_at (c:Int):∃ w ∈ WL33,atI (WL33.map V.str) (c % 31)=some (.str w):=by
  obtain ⟨i,hi,e⟩:∃ i:Nat,i < 31/\c % 31=(i:Int):=⟨(c % 31).toNat,by omega,by omega⟩
  have hl:WL33.length=31:=rfl
  refine ⟨WL33[i]'(by rw [hl]; exact hi),List.getElem_mem _,?_⟩
  rw [e]
  exact ZeJ (by rw [List.getElem?_map,List.getElem?_eq_getElem (by rw [hl]; exact hi)]; rfl)
section
variable {P:Program} {w:World} {K:PySem.W.Frag} {mg:Str->Option Value} {base:Heap}
theorem Zep:FnScope ["_law_some"] [] (Zab Ze2):=⟨rfl,rfl,rfl,by decide +kernel,rfl,by decide +kernel,by decide +kernel⟩
theorem Zka    (D:Zao K mg "_law_words" Ze2):Cal P w K mg base 1 "_law_words" (Zj8 K):=by
  refine Zaz (N:=["_law_some"]) (ps:=[]) D Zep (fun vs H Q E h=>?_) (fun _ _ _ _ _ _ us hl=>bd0 (R:=fun us=>bindArgs _ ⟨us,[]⟩=pure (List.zip _ us)) rfl us hl) (fun f cdv A outer s H vs Q E hr h=>?_)
  . obtain ⟨rfl,_⟩:=h; rfl
  . obtain ⟨rfl,k⟩:=h
    refine' ⟨_,?der,?_⟩
    case der =>
      refine' Zac ?h54 ?h55
      case h54 =>
        refine' ZaI (i:=0) ?h32 ?h33 ?h34 ?h35
        case h32 =>
          exact Zep.nd
        case h33 =>
          rfl
        case h34 =>
          first|exact Or.inl rfl|exact Or.inr rfl
        case h35 =>
          refine' ZbT ?h31
          case h31 =>
            refine' ZfV (vs:=[.str "push", .str "drop", .str "copy", .str "swap", .str "add", .str "minus", .str "times", .str "over", .str "rest", .str "below", .str "same"]) ?h30
            case h30 =>
              rfl
      case h55 =>
        refine' Zac ?h52 ?h53
        case h52 =>
          refine' ZaI (i:=0) ?h41 ?h42 ?h43 ?h44
          case h41 =>
            exact Zep.nd
          case h42 =>
            rfl
          case h43 =>
            first|exact Or.inl rfl|exact Or.inr rfl
          case h44 =>
            refine' ZaN ?h38 ?h39 ?h40
            case h38 =>
              exact Zi7
            case h39 =>
              exact (pv 0)
            case h40 =>
              refine' ZbT ?h37
              case h37 =>
                refine' ZfV (vs:=[.str "both", .str "either", .str "unlike", .str "up", .str "down", .str "jump", .str "jumpif", .str "load", .str "save", .str "me"]) ?h36
                case h36 =>
                  rfl
        case h53 =>
          refine' Zad ?h51
          case h51 =>
            refine' Zam ?h50
            case h50 =>
              refine' ZaN ?h47 ?h48 ?h49
              case h47 =>
                exact Zi7
              case h48 =>
                exact (pv 0)
              case h49 =>
                refine' ZbT ?h46
                case h46 =>
                  refine' ZfV (vs:=[.str "from", .str "sent", .str "word", .str "coin", .str "note", .str "call", .str "borrow", .str "look", .str "give", .str "fail"]) ?h45
                  case h45 =>
                    rfl
    walk_at "nx"
    have h0:Gw H H []:=Gw.start
    repeat walk_at "rdk"
    refine ⟨by show 11 <= sizeLine; decide,fun A1 q_A1=>?_⟩
    generalize e_:upd _ A1 _=H1; have h1:=h0.newE q_A1 e_; clear e_; repeat walk_at "rdk"
    refine ⟨by show 10 <= sizeLine; decide,fun A2 q_A2=>?_⟩
    generalize e_:upd _ A2 _=H2; have h2:=h1.newE q_A2 e_; clear e_; repeat walk_at "rdk"
    refine Zjf h2.h.2.1 h2.h.1 (by simp only [List.length_append,List.length_cons,List.length_nil]; decide) fun C1 q_C1=>?_
    generalize e_:upd _ C1 _=H3; have h3:=h2.newE q_C1 e_; clear e_; repeat walk_at "rdk"
    refine ⟨by show 10 <= sizeLine; decide,fun A3 q_A3=>?_⟩
    generalize e_:upd _ A3 _=H4; have h4:=h3.newE q_A3 e_; clear e_; repeat walk_at "rdk"
    refine Zjf h4.h.2.1 h4.h.1 (by simp only [List.length_append,List.length_cons,List.length_nil]; decide) fun C2 q_C2=>?_
    generalize e_:upd _ C2 _=H5; have h5:=h4.newE q_C2 e_; clear e_; repeat walk_at "rdk"
    exact k C2 _ h5.s (h4.fresh q_C2) h5.h.1
end
theorem p64L:(2:Int) ^ Int.toNat 64=18446744073709551616:=by decide
section
variable {P:Program} {w:World} {K:PySem.W.Frag} {mg:Str->Option Value} {base:Heap}
theorem Zhu:FnScope ["_law_cell", "_law_many", "_law_word", "_law_number"] ["_law_cell", "_law_many"] (Zab Zjy):=⟨rfl,rfl,rfl,by decide +kernel,rfl,by decide +kernel,by decide +kernel⟩
theorem Zm5    (D:Zao K mg "_law_row" Zjy) (c_Lwords:Cal P w K mg base 1 "_law_words" (Zj8 K)):Cal P w K mg base 2 "_law_row" (spRowL K):=by
  refine Zaz (N:=["_law_cell", "_law_many", "_law_word", "_law_number"]) (ps:=["_law_cell", "_law_many"]) D Zhu (fun vs H Q E h=>?_) (fun _ _ _ _ _ _ us hl=>bd2 (R:=fun us=>bindArgs _ ⟨us,[]⟩=pure (List.zip _ us)) (fun _ _=>rfl) us hl) (fun f cdv A outer s H vs Q E hr h=>?_)
  . obtain ⟨c,many,rfl,_⟩:=h; rfl
  . obtain ⟨c,many,rfl,k⟩:=h
    refine' ⟨_,?der,?_⟩
    case der =>
      refine' Zac ?h111 ?h112
      case h111 =>
        exact (ZaI (i:=2) Zhu.nd rfl (by first|exact Or.inl rfl|exact Or.inr rfl) (Zay ZaA (Zmr c_Lwords (hr.mono (by decide)) rfl) (ZaN ZbS (pv 0) Zae) (fun _ _=>rfl)))
      case h112 =>
        refine' Zac ?h109 ?h110
        case h109 =>
          exact (ZaI (i:=3) Zhu.nd rfl (by first|exact Or.inl rfl|exact Or.inr rfl) (ZaN ZeQ (pv 0) Zae))
        case h110 =>
          refine' Zac ?h107 ?h108
          case h107 =>
            refine' ZaP ?h63 ?h64 ?h65
            case h63 =>
              exact (Zaq ZbF (pv 2) Zas (nomark _))
            case h64 =>
              refine' Zad ?h62
              case h62 =>
                refine' Zam ?h61
                case h61 =>
                  refine' ZaT ?h60
                  case h60 =>
                    refine' Zaa ?h58 ?h59
                    case h58 =>
                      exact (pv 2)
                    case h59 =>
                      refine' Zaa ?h56 ?h57
                      case h56 =>
                        exact (ZaN ZbS (pv 3) (ZaN ZlN Zae Zae))
                      case h57 =>
                        exact Zaf
            case h65 =>
              exact Zat
          case h108 =>
            refine' Zac ?h105 ?h106
            case h105 =>
              refine' ZaP ?h73 ?h74 ?h75
              case h73 =>
                exact (Zaq ZbF (pv 2) Zas (nomark _))
              case h74 =>
                refine' Zad ?h72
                case h72 =>
                  refine' Zam ?h71
                  case h71 =>
                    refine' ZaT ?h70
                    case h70 =>
                      refine' Zaa ?h68 ?h69
                      case h68 =>
                        exact (pv 2)
                      case h69 =>
                        refine' Zaa ?h66 ?h67
                        case h66 =>
                          exact (ZaN ZbS (pv 3) Zae)
                        case h67 =>
                          exact Zaf
              case h75 =>
                exact Zat
            case h106 =>
              refine' Zac ?h103 ?h104
              case h103 =>
                refine' ZaP ?h83 ?h84 ?h85
                case h83 =>
                  exact (Zaq ZbF (pv 2) Zas (nomark _))
                case h84 =>
                  refine' Zad ?h82
                  case h82 =>
                    refine' Zam ?h81
                    case h81 =>
                      refine' ZaT ?h80
                      case h80 =>
                        refine' Zaa ?h78 ?h79
                        case h78 =>
                          exact (pv 2)
                        case h79 =>
                          refine' Zaa ?h76 ?h77
                          case h76 =>
                            exact (ZaN ZbA Zae (ZaN ZbS (pv 3) Zae))
                          case h77 =>
                            exact Zaf
                case h85 =>
                  exact Zat
              case h104 =>
                refine' Zac ?h101 ?h102
                case h101 =>
                  refine' ZaP ?h93 ?h94 ?h95
                  case h93 =>
                    exact (Zaq Zba (pv 2) (ZaT (Zaa Zas (Zaa Zas Zaf))) rfl)
                  case h94 =>
                    refine' Zad ?h92
                    case h92 =>
                      refine' Zam ?h91
                      case h91 =>
                        refine' ZaT ?h90
                        case h90 =>
                          refine' Zaa ?h88 ?h89
                          case h88 =>
                            exact (pv 2)
                          case h89 =>
                            refine' Zaa ?h86 ?h87
                            case h86 =>
                              exact (ZaN ZbA (pv 1) Zae)
                            case h87 =>
                              exact Zaf
                  case h95 =>
                    exact Zat
                case h102 =>
                  refine' Zad ?h100
                  case h100 =>
                    refine' Zam ?h99
                    case h99 =>
                      refine' ZaT ?h98
                      case h98 =>
                        refine' Zaa ?h96 ?h97
                        case h96 =>
                          exact (pv 2)
                        case h97 =>
                          exact Zaf
    walk_at "nx"
    obtain ⟨wd,hwd,ew⟩:=w31_at c
    repeat walk_at "rdk"
    refine ⟨rfl,fun WQ H1 s1 q_WQ e1=>?_⟩
    have z0:Gw H1 H1 []:=Gw.start
    repeat walk_at "rdk"
    refine Za8 (ZaE e1) ew ?_
    by_cases h1:wd = "push"
    . subst h1
      repeat' walk_at "rdk"
      all_goals first|exact absurd rfl (by assumption)|skip
      rw [p64L]
      repeat walk_at "rdk"
      refine ⟨by show 2 <= sizeLine; decide,fun t q_t=>?_⟩
      generalize e_:upd _ t _=Z1; have z1:=z0.newE q_t e_; clear e_; repeat walk_at "rdk"
      exact k t "push" (some _) _ (s1.trans z1.s) (s1.fresh q_t) (.push (by omega) (by omega)) z1.h.1
    by_cases h2:wd = "copy"
    . subst h2
      repeat' walk_at "rdk"
      . rename_i q; exact absurd q (show ¬ ("copy" : Str) = "push" by decide)
      . skip
        refine ⟨by show 2 <= sizeLine; decide,fun t q_t=>?_⟩
        generalize e_:upd _ t _=Z1; have z1:=z0.newE q_t e_; clear e_; repeat walk_at "rdk"
        exact k t "copy" (some _) _ (s1.trans z1.s) (s1.fresh q_t) (.copy (by omega) (by omega)) z1.h.1
      all_goals exact absurd rfl (by assumption)
    by_cases h3:wd = "swap"
    . subst h3
      repeat' walk_at "rdk"
      . rename_i q; exact absurd q (show ¬ ("swap" : Str) = "push" by decide)
      . rename_i q; exact absurd q (show ¬ ("swap" : Str) = "copy" by decide)
      . skip
        refine ⟨by show 2 <= sizeLine; decide,fun t q_t=>?_⟩
        generalize e_:upd _ t _=Z1; have z1:=z0.newE q_t e_; clear e_; repeat walk_at "rdk"
        exact k t "swap" (some _) _ (s1.trans z1.s) (s1.fresh q_t) (.swap (by omega) (by omega)) z1.h.1
      all_goals exact absurd rfl (by assumption)
    repeat' walk_at "rdk"
    . exact absurd (by assumption) h1
    . exact absurd (by assumption) h2
    . exact absurd (by assumption) h3
    refine ⟨by show 2 <= sizeLine; decide,fun J q_J=>?_⟩
    generalize e_:upd _ J _=Z1; have z1:=z0.newE q_J e_; clear e_; repeat walk_at "rdk"
    refine ZbZ (xs:=["jump", "jumpif"]) (Zbg z1.h.1) ?_
    cases h4:inS wd ["jump", "jumpif"] with
    | true =>
      repeat walk_at "rdk"
      refine ⟨by show 2 <= sizeLine; decide,fun t q_t=>?_⟩
      generalize e_:upd _ t _=Z2; have z2:=z1.newE q_t e_; clear e_; repeat walk_at "rdk"
      have hj:wd = "jump" \/ wd = "jumpif" := by
        unfold inS at h4
        simp only [List.any_cons,List.any_nil,Bool.or_false,Bool.or_eq_true,beq_iff_eq] at h4
        exact h4.imp Eq.symm Eq.symm
      rcases hj with rfl|rfl
      . exact k t "jump" (some _) _ (s1.trans z2.s) (s1.fresh (z1.fresh q_t)) .jump z2.h.1
      . exact k t "jumpif" (some _) _ (s1.trans z2.s) (s1.fresh (z1.fresh q_t)) .jumpif z2.h.1
    | false =>
      repeat walk_at "rdk"
      refine ⟨by show 1 <= sizeLine; decide,fun t q_t=>?_⟩
      generalize e_:upd _ t _=Z2; have z2:=z1.newE q_t e_; clear e_; repeat walk_at "rdk"
      refine k t wd none _ (s1.trans z2.s) (s1.fresh (z1.fresh q_t)) (.bare hwd ?_) z2.h.1
      unfold inS at h4 |-
      simp only [List.any_cons,List.any_nil,Bool.or_false,Bool.or_eq_false_iff,beq_eq_false_iff_ne,ne_eq] at h4 |-
      exact ⟨fun z=>h1 z.symm,fun z=>h2 z.symm,fun z=>h3 z.symm,h4.1,h4.2⟩
end
noncomputable def intsD:List Dt->List Int
  | []=>[]
  | .int i :: r=>i :: intsD r
  | _ :: r=>intsD r
noncomputable def okD:Dt->Prop
  | .int _=>True
  | .tup _=>True
  | _=>False
noncomputable def Zfu (k:Int):Prop:=(k=0\/16 <= k)/\k < 18446744073709551616
noncomputable def due33 (w:Str) (n:Option Int) (st:List Int) (left:Int) (still:Bool):Str × Int × Int :=
  if (st.length:Int) < takesW w (n.getD 0) then ("short", 0,0)
  else if 24 < (st.length:Int) + moreW w then ("full", 0,0)
  else if (still && (inS w ["save", "note"] || (decide (w = "call") && decide (0 < st.reverse.getD 2 0))))=true then ("barred", 0,0)
  else if left < priceW w st then ("dry", 0,0)
  else if w = "give" then ("well", st.getLastD 0,1)
  else if w = "fail" then ("fail", st.getLastD 0,1)
  else ("well", 0,priceW w st)
section
variable {A:Nat->Option AcI} {S0:Nat->AcS} {G:GR} {rows:List Row} {many:Nat} {ds:List Dd} {x:FrS} {st:List Int} {u left:Int} {still:Bool} {ac:AcI}
noncomputable def Zbn (A:Nat->Option AcI) (S0:Nat->AcS) (G:GR) (rows:List Row) (ds:List Dd) (x:FrS) (st:List Int) (many:Nat) (u:Int) (q:Str × Int × Int):Prop:=∃ k ds2 y s,k <= 2/\RunW A S0 G rows k ds (atS x st ((many:Nat):Int) u) ds2 y s/\y.fin=some q.1/\y.answer=q.2.1/\y.used=u + q.2.2/\intsD s=(if 0 < q.2.2 then [(many:Int)] else [])/\(∀ d ∈ s,okD d)/\s.length <= 2/\ds2.length <= ds.length + 1
noncomputable def Did33 (A:Nat->Option AcI) (S0:Nat->AcS) (G:GR) (ds:List Dd) (x:FrS) (st:List Int) (many:Nat) (u:Int) (w:Str) (n:Option Int):Prop:=∃ ds' x' ad,DoW A S0 G w n ds (atS x st ((many:Int) + 1) (u + priceW w st)) ds' x' ad/\x'.whose=x.whose/\x'.used=u + priceW w st/\intsD ad=[]/\(∀ d ∈ ad,okD d)/\ad.length <= 1/\ds'.length <= ds.length + 1/\((w ≠ "give" /\ w ≠ "fail" /\ x'.fin=none/\(many:Int) + 1 <= x'.row/\x'.stack.length <= 24)\/(w = "give" /\ x'.fin=some ("well" : Str)/\x'.answer=st.getLastD 0)\/(w = "fail" /\ x'.fin=some ("fail" : Str)/\x'.answer=st.getLastD 0))
theorem beh {w:Str} {n:Option Int} {r t l pr d:Int} (hf:x.fin=none) (hk:x.looking=still) (hw:rows[many]?=some (w,n)) (hlen:rows.length=many + 1) (hl:st.length=many) (hm:many <= 24) (hg:x.given=u + left) (e1:Zbq w n=some r) (e2:RT.lookup w=some (t,l,pr,d)) (ht:takesW w (n.getD 0)=t + r) (hmo:l - t <= moreW w/\(moreW w=0\/moreW w=1/\l - t=1)) (hp:0 < priceW w st/\(w = "give" \/ w = "fail" -> priceW w st=1))
    (hb:t + r <= (st.length:Int)->∃ b1 b2,ZbH (atS x st (many:Int) u) w b1/\fillsR A (runS S0 ds) (atS x st (many:Int) u) w b2/\b1=(decide (w = "call") && decide (0 < st.reverse.getD 2 0))/\(if (b1 || b2)=true then d else pr)=priceW w st)
    (hD:t + r <= (st.length:Int)->(st.length:Int) - t + l <= 24->Did33 A S0 G ds x st many u w n):Zbn A S0 G rows ds x st many u (due33 w n st left still):=by
  have z0:u=u + 0:=(Int.add_zero u).symm
  have l24:st.length <= 24:=by omega
  unfold due33
  by_cases h1:(st.length:Int) < takesW w (n.getD 0)
  . rw [if_pos h1]; rw [ht] at h1
    exact ⟨1,ds,_,[],by decide,Zlk hf hw e1 e2 h1 l24,rfl,rfl,z0,rfl,(fun _ h=>nomatch h),by decide,Nat.le_succ _⟩
  rw [if_neg h1]; rw [ht] at h1
  by_cases h2:24 < (st.length:Int) + moreW w
  . rw [if_pos h2]
    exact ⟨1,ds,_,[],by decide,Zm4 hf hw e1 e2 (by omega) (by omega) l24,rfl,rfl,z0,rfl,(fun _ h=>nomatch h),by decide,Nat.le_succ _⟩
  rw [if_neg h2]
  have c1:t + r <= (st.length:Int):=by omega
  have c2:(st.length:Int) - t + l <= 24:=by omega
  obtain ⟨b1,b2,hb1,hb2,eb,ec⟩:=hb c1
  rw [<- eb]
  have hbar:barB (atS x st (many:Int) u) w b1=(still && (inS w ["save", "note"] || b1)):=by
    unfold barB; show (x.looking && _)=_; rw [hk]
  cases h3:(still && (inS w ["save", "note"] || b1)) with
  | true =>
    rw [if_pos rfl]
    exact ⟨1,ds,_,[],by decide,en_bar hf hw e1 e2 c1 c2 l24 hb1 hb2 (hbar.trans h3),rfl,rfl,z0,rfl,(fun _ h=>nomatch h),by decide,Nat.le_succ _⟩
  | false =>
    rw [if_neg (by decide)]
    rw [h3] at hbar
    by_cases h4:left < priceW w st
    . rw [if_pos h4]
      exact ⟨1,ds,_,[],by decide,en_dry hf hw e1 e2 c1 c2 l24 hb1 hb2 hbar ec (by omega),rfl,rfl,z0,rfl,(fun _ h=>nomatch h),by decide,Nat.le_succ _⟩
    rw [if_neg h4]
    obtain ⟨ds',x',ad,hDo,hx,hu,hi,ho,hal,hds,hz⟩:=hD c1 c2
    have oks:∀ d ∈ (.int (many:Int) :: (ad ++ []):List Dt),okD d:=fun d h=>by
      rw [List.append_nil] at h
      rcases List.mem_cons.1 h with rfl|h
      . trivial
      . exact ho d h
    have ln:(.int (many:Int) :: (ad ++ []):List Dt).length <= 2:=by rw [List.append_nil,List.length_cons]; omega
    have ii:intsD (.int (many:Int) :: (ad ++ []))=[(many:Int)]:=by rw [List.append_nil]; show (many:Int) :: intsD ad=_; rw [hi]
    have hge:u + priceW w st <= x.given:=by omega
    rcases hz with ⟨n1,n2,f1,hr,hsl⟩|⟨rfl,f1,ha⟩|⟨rfl,f1,ha⟩
    . rw [if_neg n1,if_neg n2]
      refine ⟨2,ds',{ x' with fin:=some ("well" : Str),answer:=0 },_,by decide,Zj5 hf hw e1 e2 c1 c2 l24 hb1 hb2 hbar ec rfl hge hDo hx (RunW.step (n:=0) (add:=[]) (st:=[]) f1 (.inl ⟨by rw [hlen]; omega,rfl,rfl,rfl⟩) (Nat.le_trans hsl (by decide)) rfl (.done (by intro z; cases z))),rfl,rfl,hu,?_,oks,ln,hds⟩
      rw [if_pos hp.1]; exact ii
    . rw [if_pos rfl]
      have h1:=hp.2 (.inl rfl)
      refine ⟨1,ds',x',_,by decide,Zj5 hf hw e1 e2 c1 c2 l24 hb1 hb2 hbar ec rfl hge hDo hx (.done (by rw [f1]; intro z; cases z)),f1,ha,by rw [hu,h1],?_,oks,ln,hds⟩
      rw [if_pos (show (0:Int) < 1 by decide)]; exact ii
    . rw [if_neg (by decide),if_pos rfl]
      have h1:=hp.2 (.inr rfl)
      refine ⟨1,ds',x',_,by decide,Zj5 hf hw e1 e2 c1 c2 l24 hb1 hb2 hbar ec rfl hge hDo hx (.done (by rw [f1]; intro z; cases z)),f1,ha,by rw [hu,h1],?_,oks,ln,hds⟩
      rw [if_pos (show (0:Int) < 1 by decide)]; exact ii
theorem sn1 (h:1 <= st.length):∃ s v,st=s ++ [v]:=⟨st.dropLast,st.getLast (by intro z; rw [z] at h; simp at h),(List.dropLast_concat_getLast _).symm⟩
theorem sn2 (h:2 <= st.length):∃ s a b,st=s ++ [a,b]:=by
  obtain ⟨s,v,rfl⟩:=sn1 (st:=st) (by omega)
  obtain ⟨s2,v2,rfl⟩:=sn1 (st:=s) (by rw [Zbk] at h; omega)
  exact ⟨s2,v2,v,by rw [List.append_assoc]; rfl⟩
theorem sn3 (h:3 <= st.length):∃ s a b c,st=s ++ [a,b,c]:=by
  obtain ⟨s,v,rfl⟩:=sn1 (st:=st) (by omega)
  obtain ⟨s2,a,b,rfl⟩:=sn2 (st:=s) (by rw [Zbk] at h; omega)
  exact ⟨s2,a,b,v,by rw [List.append_assoc]; rfl⟩
theorem sn4 (h:4 <= st.length):∃ s a b c d,st=s ++ [a,b,c,d]:=by
  obtain ⟨s,v,rfl⟩:=sn1 (st:=st) (by omega)
  obtain ⟨s2,a,b,c,rfl⟩:=sn3 (st:=s) (by rw [Zbk] at h; omega)
  exact ⟨s2,a,b,c,v,by rw [List.append_assoc]; rfl⟩
theorem Zbo {w:Str} {n:Option Int} {D:RD} {x':FrS} (hC:inS w ["call", "borrow", "look"]=false) (hR:RDL.lookup w=some D) (hD:D (atS x st ((many:Int) + 1) (u + priceW w st)) w n x') (h1:x'.whose=x.whose) (h2:x'.used=u + priceW w st) (hz:(w ≠ "give" /\ w ≠ "fail" /\ x'.fin=none/\(many:Int) + 1 <= x'.row/\x'.stack.length <= 24)\/(w = "give" /\ x'.fin=some ("well" : Str)/\x'.answer=st.getLastD 0)\/(w = "fail" /\ x'.fin=some ("fail" : Str)/\x'.answer=st.getLastD 0)):Did33 A S0 G ds x st many u w n :=
  ⟨ds,x',[],.pure hC hR hD,h1,h2,rfl,(fun _ h=>nomatch h),Nat.zero_le _,Nat.le_succ _,hz⟩
theorem ok1 {l:List Dt}:∀ d ∈ [Dt.tup l],okD d:=fun d h=>by
  rw [List.mem_singleton] at h
  rw [h]; trivial
theorem Zeq (s:List Int) (v:Int):(s ++ [v]).getLastD 0=v:=by simp
theorem Zfv {y:FrS} (hA:A 0=none) (S:Nat->AcS) (h:Zfu y.whose):Zem A S y (some ("nobody" : Str)):=by
  refine .inl ⟨?_,rfl⟩
  rcases h.1 with e|e
  . rw [e,if_pos ⟨by decide,by decide⟩]; show roomV (A 0)=_; rw [hA]; rfl
  . rw [if_neg (by omega)]
structure Pl33 (A:Nat->Option AcI) (S0:Nat->AcS) (ds:List Dd) (x:FrS) (st:List Int) (ac:AcI):Prop where
  f:x.fin=none
  w:x.who=((5:Nat):Int)
  a:A 5=some ac
  n:A 0=none
  s:∀ p,(runS S0 ds 5).store p=0
  g:∀ k ∈ st,Zfu k
theorem noB {w:Str} {pr:Int} (n1:w ≠ "call") (n2:w ≠ "save") (S:Nat->AcS) (i:Int) (hpr:pr=priceW w st) (d:Int):∃ b1 b2,ZbH (atS x st i u) w b1/\fillsR A S (atS x st i u) w b2/\b1=(decide (w = "call") && decide (0 < st.reverse.getD 2 0))/\(if (b1 || b2)=true then d else pr)=priceW w st :=
  ⟨false,false,.inl ⟨n1,rfl⟩,.inl ⟨n2,rfl⟩,by rw [decide_eq_false n1]; rfl,hpr⟩
theorem r33_me (X:Pl33 A S0 ds x st ac) (hk:x.looking=still) (hlen:rows.length=many + 1) (hl:st.length=many) (hm:many <= 24) (hg:x.given=u + left) (hw:rows[many]?=some (("me" : Str),none)):Zbn A S0 G rows ds x st many u (due33 "me" (none) st left still):=by
  refine beh (r:=0) X.f hk hw hlen hl hm hg rfl rfl rfl ⟨by decide,.inr ⟨rfl,rfl⟩⟩ ⟨show (0:Int) < 1 by decide,fun z=>absurd z (by decide)⟩ (fun _=>noB (by decide) (by decide) _ _ rfl _) fun c1 c2=>?_
  exact Zbo (D:=rMe) rfl rfl rfl rfl rfl (.inl ⟨by decide,by decide,X.f,Int.le_refl _,by rw [show (1:Int)=((1:Nat):Int) from rfl] at c2; show (st ++ [_]).length <= 24; rw [Zbk]; omega⟩)
theorem Zln (X:Pl33 A S0 ds x st ac) (hk:x.looking=still) (hlen:rows.length=many + 1) (hl:st.length=many) (hm:many <= 24) (hg:x.given=u + left) (hw:rows[many]?=some (("from" : Str),none)):Zbn A S0 G rows ds x st many u (due33 "from" (none) st left still):=by
  refine beh (r:=0) X.f hk hw hlen hl hm hg rfl rfl rfl ⟨by decide,.inr ⟨rfl,rfl⟩⟩ ⟨show (0:Int) < 1 by decide,fun z=>absurd z (by decide)⟩ (fun _=>noB (by decide) (by decide) _ _ rfl _) fun c1 c2=>?_
  exact Zbo (D:=rFrom) rfl rfl rfl rfl rfl (.inl ⟨by decide,by decide,X.f,Int.le_refl _,by rw [show (1:Int)=((1:Nat):Int) from rfl] at c2; show (st ++ [_]).length <= 24; rw [Zbk]; omega⟩)
theorem Zlo (X:Pl33 A S0 ds x st ac) (hk:x.looking=still) (hlen:rows.length=many + 1) (hl:st.length=many) (hm:many <= 24) (hg:x.given=u + left) (hw:rows[many]?=some (("sent" : Str),none)):Zbn A S0 G rows ds x st many u (due33 "sent" (none) st left still):=by
  refine beh (r:=0) X.f hk hw hlen hl hm hg rfl rfl rfl ⟨by decide,.inr ⟨rfl,rfl⟩⟩ ⟨show (0:Int) < 1 by decide,fun z=>absurd z (by decide)⟩ (fun _=>noB (by decide) (by decide) _ _ rfl _) fun c1 c2=>?_
  exact Zbo (D:=rSent) rfl rfl rfl rfl rfl (.inl ⟨by decide,by decide,X.f,Int.le_refl _,by rw [show (1:Int)=((1:Nat):Int) from rfl] at c2; show (st ++ [_]).length <= 24; rw [Zbk]; omega⟩)
theorem Zlp (X:Pl33 A S0 ds x st ac) (hk:x.looking=still) (hlen:rows.length=many + 1) (hl:st.length=many) (hm:many <= 24) (hg:x.given=u + left) (hw:rows[many]?=some (("word" : Str),none)):Zbn A S0 G rows ds x st many u (due33 "word" (none) st left still):=by
  refine beh (r:=0) X.f hk hw hlen hl hm hg rfl rfl rfl ⟨by decide,.inr ⟨rfl,rfl⟩⟩ ⟨show (0:Int) < 1 by decide,fun z=>absurd z (by decide)⟩ (fun _=>noB (by decide) (by decide) _ _ rfl _) fun c1 c2=>?_
  exact Zbo (D:=rWord) rfl rfl rfl rfl rfl (.inl ⟨by decide,by decide,X.f,Int.le_refl _,by rw [show (1:Int)=((1:Nat):Int) from rfl] at c2; show (st ++ [_]).length <= 24; rw [Zbk]; omega⟩)
theorem Zlq (X:Pl33 A S0 ds x st ac) (hk:x.looking=still) (hlen:rows.length=many + 1) (hl:st.length=many) (hm:many <= 24) (hg:x.given=u + left) {k:Int} (hw:rows[many]?=some (("push" : Str),some k)):Zbn A S0 G rows ds x st many u (due33 "push" (some k) st left still):=by
  refine beh (r:=0) X.f hk hw hlen hl hm hg rfl rfl rfl ⟨by decide,.inr ⟨rfl,rfl⟩⟩ ⟨show (0:Int) < 1 by decide,fun z=>absurd z (by decide)⟩ (fun _=>noB (by decide) (by decide) _ _ rfl _) fun c1 c2=>?_
  exact Zbo (D:=rPush) rfl rfl ⟨k,rfl,rfl⟩ rfl rfl (.inl ⟨by decide,by decide,X.f,Int.le_refl _,by show (st ++ [_]).length <= 24; rw [Zbk]; omega⟩)
theorem Zlr (X:Pl33 A S0 ds x st ac) (hk:x.looking=still) (hlen:rows.length=many + 1) (hl:st.length=many) (hm:many <= 24) (hg:x.given=u + left) (hw:rows[many]?=some (("jump" : Str),some ((many:Int) + 1))):Zbn A S0 G rows ds x st many u (due33 "jump" (some ((many:Int) + 1)) st left still):=by
  refine beh (r:=0) X.f hk hw hlen hl hm hg rfl rfl rfl ⟨by decide,.inl rfl⟩ ⟨show (0:Int) < 1 by decide,fun z=>absurd z (by decide)⟩ (fun _=>noB (by decide) (by decide) _ _ rfl _) fun c1 c2=>?_
  exact Zbo (D:=rJump) rfl rfl ⟨_,rfl,rfl⟩ rfl rfl (.inl ⟨by decide,by decide,X.f,Int.le_refl _,by show st.length <= 24; omega⟩)
theorem Zls (X:Pl33 A S0 ds x st ac) (hk:x.looking=still) (hlen:rows.length=many + 1) (hl:st.length=many) (hm:many <= 24) (hg:x.given=u + left) (hw:rows[many]?=some (("drop" : Str),none)):Zbn A S0 G rows ds x st many u (due33 "drop" (none) st left still):=by
  refine beh (r:=0) X.f hk hw hlen hl hm hg rfl rfl rfl ⟨by decide,.inl rfl⟩ ⟨show (0:Int) < 1 by decide,fun z=>absurd z (by decide)⟩ (fun _=>noB (by decide) (by decide) _ _ rfl _) fun c1 c2=>?_
  obtain ⟨s,v,rfl⟩:=sn1 (st:=st) (by omega)
  exact Zbo (D:=rDrop) (x':={ x with stack:=s,row:=(many:Int) + 1,used:=u + 1 }) rfl rfl ⟨s,v,rfl,rfl⟩ rfl rfl (.inl ⟨by decide,by decide,X.f,Int.le_refl _,by rw [Zbk] at hl; show s.length <= 24; omega⟩)
theorem ZiH (X:Pl33 A S0 ds x st ac) (hk:x.looking=still) (hlen:rows.length=many + 1) (hl:st.length=many) (hm:many <= 24) (hg:x.given=u + left) (hw:rows[many]?=some (("jumpif" : Str),some ((many:Int) + 1))):Zbn A S0 G rows ds x st many u (due33 "jumpif" (some ((many:Int) + 1)) st left still):=by
  refine beh (r:=0) X.f hk hw hlen hl hm hg rfl rfl rfl ⟨by decide,.inl rfl⟩ ⟨show (0:Int) < 1 by decide,fun z=>absurd z (by decide)⟩ (fun _=>noB (by decide) (by decide) _ _ rfl _) fun c1 c2=>?_
  obtain ⟨s,v,rfl⟩:=sn1 (st:=st) (by omega)
  refine Zbo (D:=Zfh) (x':={ x with stack:=s,row:=(many:Int) + 1,used:=u + 1 }) rfl rfl ⟨_,s,v,rfl,rfl,?_⟩ rfl rfl (.inl ⟨by decide,by decide,X.f,Int.le_refl _,by rw [Zbk] at hl; show s.length <= 24; omega⟩)
  show _=({ x with stack:=s,row:=(if v=0 then (many:Int) + 1 else (many:Int) + 1),used:=u + 1 }:FrS)
  rw [show (if v=0 then (many:Int) + 1 else (many:Int) + 1)=(many:Int) + 1 by split <;> rfl]
theorem Zlt (X:Pl33 A S0 ds x st ac) (hk:x.looking=still) (hlen:rows.length=many + 1) (hl:st.length=many) (hm:many <= 24) (hg:x.given=u + left) (hw:rows[many]?=some (("give" : Str),none)):Zbn A S0 G rows ds x st many u (due33 "give" (none) st left still):=by
  refine beh (r:=0) X.f hk hw hlen hl hm hg rfl rfl rfl ⟨by decide,.inl rfl⟩ ⟨show (0:Int) < 1 by decide,fun _=>rfl⟩ (fun _=>noB (by decide) (by decide) _ _ rfl _) fun c1 c2=>?_
  obtain ⟨s,v,rfl⟩:=sn1 (st:=st) (by omega)
  exact Zbo (D:=rGive) rfl rfl ⟨s,v,rfl,rfl⟩ rfl rfl (.inr (.inl ⟨rfl,rfl,(Zeq s v).symm⟩))
theorem Zlu (X:Pl33 A S0 ds x st ac) (hk:x.looking=still) (hlen:rows.length=many + 1) (hl:st.length=many) (hm:many <= 24) (hg:x.given=u + left) (hw:rows[many]?=some (("fail" : Str),none)):Zbn A S0 G rows ds x st many u (due33 "fail" (none) st left still):=by
  refine beh (r:=0) X.f hk hw hlen hl hm hg rfl rfl rfl ⟨by decide,.inl rfl⟩ ⟨show (0:Int) < 1 by decide,fun _=>rfl⟩ (fun _=>noB (by decide) (by decide) _ _ rfl _) fun c1 c2=>?_
  obtain ⟨s,v,rfl⟩:=sn1 (st:=st) (by omega)
  exact Zbo (D:=rFail) rfl rfl ⟨s,v,rfl,rfl⟩ rfl rfl (.inr (.inr ⟨rfl,rfl,(Zeq s v).symm⟩))
theorem Zlv (X:Pl33 A S0 ds x st ac) (hk:x.looking=still) (hlen:rows.length=many + 1) (hl:st.length=many) (hm:many <= 24) (hg:x.given=u + left) {k:Int} (hk0:0 <= k) (hw:rows[many]?=some (("copy" : Str),some k)):Zbn A S0 G rows ds x st many u (due33 "copy" (some k) st left still):=by
  refine beh (r:=k) X.f hk hw hlen hl hm hg rfl rfl (by show k + 1=1 + k; omega) ⟨by decide,.inr ⟨rfl,rfl⟩⟩ ⟨show (0:Int) < 1 by decide,fun z=>absurd z (by decide)⟩ (fun _=>noB (by decide) (by decide) _ _ rfl _) fun c1 c2=>?_
  obtain ⟨k,rfl⟩:∃ m:Nat,k=(m:Int):=⟨k.toNat,by omega⟩
  obtain ⟨v,hv⟩:∃ v,st[st.length - 1 - k]?=some v:=⟨_,List.getElem?_eq_getElem (by omega)⟩
  exact Zbo (D:=rCopy) rfl rfl ⟨k,v,rfl,by show k < st.length; omega,hv,rfl⟩ rfl rfl (.inl ⟨by decide,by decide,X.f,Int.le_refl _,by show (st ++ [_]).length <= 24; rw [Zbk]; omega⟩)
theorem Zlw {k:Nat} (h:k + 1 < st.length):∃ s m a b,m.length=k/\st=s ++ a :: (m ++ [b]):=by
  obtain ⟨s0,b,rfl⟩:=sn1 (st:=st) (by omega)
  rw [Zbk] at h
  refine ⟨s0.take (s0.length - 1 - k),s0.drop (s0.length - k),s0[s0.length - 1 - k]'(by omega),b,by rw [List.length_drop]; omega,?_⟩
  have e:=List.take_append_drop (s0.length - 1 - k) s0
  rw [List.drop_eq_getElem_cons (by omega),show s0.length - 1 - k + 1=s0.length - k by omega] at e
  exact (congrArg (· ++ [b]) e).symm.trans (by rw [List.append_assoc]; rfl)
theorem Zlx (X:Pl33 A S0 ds x st ac) (hk:x.looking=still) (hlen:rows.length=many + 1) (hl:st.length=many) (hm:many <= 24) (hg:x.given=u + left) {k:Int} (hk0:1 <= k) (hw:rows[many]?=some (("swap" : Str),some k)):Zbn A S0 G rows ds x st many u (due33 "swap" (some k) st left still):=by
  refine beh (r:=k) X.f hk hw hlen hl hm hg rfl rfl (by show k + 1=1 + k; omega) ⟨by decide,.inl rfl⟩ ⟨show (0:Int) < 1 by decide,fun z=>absurd z (by decide)⟩ (fun _=>noB (by decide) (by decide) _ _ rfl _) fun c1 c2=>?_
  obtain ⟨k,rfl⟩:∃ m:Nat,k=((m + 1:Nat):Int):=⟨(k - 1).toNat,by omega⟩
  obtain ⟨s,m,a,b,hml,rfl⟩:=Zlw (st:=st) (k:=k) (by omega)
  subst hml
  refine Zbo (D:=rSwap) (x':={ x with stack:=s ++ b :: (m ++ [a]),row:=(many:Int) + 1,used:=u + 1 }) rfl rfl ⟨s,m,a,b,rfl,rfl,rfl⟩ rfl rfl (.inl ⟨by decide,by decide,X.f,Int.le_refl _,by simp at hl; show (s ++ b :: (m ++ [a])).length <= 24; simp; omega⟩)
theorem num64 (X:∀ k ∈ st,Zfu k) {k:Int} (h:k ∈ st):In64 k:=by
  have:=X k h
  unfold Zfu at this
  unfold In64
  omega
theorem ZbI {w:Str} {f:Int->Int->Int} {c:Int} (X:Pl33 A S0 ds x st ac) (hk:x.looking=still) (hlen:rows.length=many + 1) (hl:st.length=many) (hm:many <= 24) (hg:x.given=u + left) (hk':RK.lookup w=some f) (hRD:RDL.lookup w=some rReck) (e2:RT.lookup w=some (2,1,c,c)) (e1:Zbq w none=some 0) (ht:takesW w 0=2) (hmo:moreW w=0) (hp:∀ st,priceW w st=c) (hc:0 < c) (nw:w ≠ "call" /\ w ≠ "save" /\ w ≠ "give" /\ w ≠ "fail" /\ inS w ["call", "borrow", "look"]=false) (hw:rows[many]?=some (w,none)):Zbn A S0 G rows ds x st many u (due33 w none st left still):=by
  refine beh (r:=0) X.f hk hw hlen hl hm hg e1 e2 ht (by rw [hmo]; exact ⟨by decide,.inl rfl⟩) ⟨by rw [hp]; exact hc,fun z=>(z.elim nw.2.2.1 nw.2.2.2.1).elim⟩ (fun _=>noB nw.1 nw.2.1 _ _ (hp _).symm _) fun c1 c2=>?_
  obtain ⟨s,a,b,rfl⟩:=sn2 (st:=st) (by omega)
  refine Zbo (D:=rReck) nw.2.2.2.2 hRD ⟨f,s,a,b,hk',rfl,⟨num64 X.g (by simp),num64 X.g (by simp)⟩,rfl⟩ rfl rfl (.inl ⟨nw.2.2.1,nw.2.2.2.1,X.f,Int.le_refl _,?_⟩)
  simp at hl
  show (s ++ [_]).length <= 24
  rw [Zbk]; omega
theorem Zm6 (X:Pl33 A S0 ds x st ac) (hk:x.looking=still) (hlen:rows.length=many + 1) (hl:st.length=many) (hm:many <= 24) (hg:x.given=u + left) (hw:rows[many]?=some (("add" : Str),none)):Zbn A S0 G rows ds x st many u (due33 "add" (none) st left still):=by
  exact ZbI X hk hlen hl hm hg (w := "add") rfl rfl rfl rfl rfl rfl (fun _=>rfl) (by decide) ⟨by decide,by decide,by decide,by decide,rfl⟩ hw
theorem Zkb (X:Pl33 A S0 ds x st ac) (hk:x.looking=still) (hlen:rows.length=many + 1) (hl:st.length=many) (hm:many <= 24) (hg:x.given=u + left) (hw:rows[many]?=some (("minus" : Str),none)):Zbn A S0 G rows ds x st many u (due33 "minus" (none) st left still):=by
  exact ZbI X hk hlen hl hm hg (w := "minus") rfl rfl rfl rfl rfl rfl (fun _=>rfl) (by decide) ⟨by decide,by decide,by decide,by decide,rfl⟩ hw
theorem Zkc (X:Pl33 A S0 ds x st ac) (hk:x.looking=still) (hlen:rows.length=many + 1) (hl:st.length=many) (hm:many <= 24) (hg:x.given=u + left) (hw:rows[many]?=some (("times" : Str),none)):Zbn A S0 G rows ds x st many u (due33 "times" (none) st left still):=by
  exact ZbI X hk hlen hl hm hg (w := "times") rfl rfl rfl rfl rfl rfl (fun _=>rfl) (by decide) ⟨by decide,by decide,by decide,by decide,rfl⟩ hw
theorem Zly (X:Pl33 A S0 ds x st ac) (hk:x.looking=still) (hlen:rows.length=many + 1) (hl:st.length=many) (hm:many <= 24) (hg:x.given=u + left) (hw:rows[many]?=some (("over" : Str),none)):Zbn A S0 G rows ds x st many u (due33 "over" (none) st left still):=by
  exact ZbI X hk hlen hl hm hg (w := "over") rfl rfl rfl rfl rfl rfl (fun _=>rfl) (by decide) ⟨by decide,by decide,by decide,by decide,rfl⟩ hw
theorem Zlz (X:Pl33 A S0 ds x st ac) (hk:x.looking=still) (hlen:rows.length=many + 1) (hl:st.length=many) (hm:many <= 24) (hg:x.given=u + left) (hw:rows[many]?=some (("rest" : Str),none)):Zbn A S0 G rows ds x st many u (due33 "rest" (none) st left still):=by
  exact ZbI X hk hlen hl hm hg (w := "rest") rfl rfl rfl rfl rfl rfl (fun _=>rfl) (by decide) ⟨by decide,by decide,by decide,by decide,rfl⟩ hw
theorem Zkd (X:Pl33 A S0 ds x st ac) (hk:x.looking=still) (hlen:rows.length=many + 1) (hl:st.length=many) (hm:many <= 24) (hg:x.given=u + left) (hw:rows[many]?=some (("below" : Str),none)):Zbn A S0 G rows ds x st many u (due33 "below" (none) st left still):=by
  exact ZbI X hk hlen hl hm hg (w := "below") rfl rfl rfl rfl rfl rfl (fun _=>rfl) (by decide) ⟨by decide,by decide,by decide,by decide,rfl⟩ hw
theorem ZlA (X:Pl33 A S0 ds x st ac) (hk:x.looking=still) (hlen:rows.length=many + 1) (hl:st.length=many) (hm:many <= 24) (hg:x.given=u + left) (hw:rows[many]?=some (("same" : Str),none)):Zbn A S0 G rows ds x st many u (due33 "same" (none) st left still):=by
  exact ZbI X hk hlen hl hm hg (w := "same") rfl rfl rfl rfl rfl rfl (fun _=>rfl) (by decide) ⟨by decide,by decide,by decide,by decide,rfl⟩ hw
theorem ZlB (X:Pl33 A S0 ds x st ac) (hk:x.looking=still) (hlen:rows.length=many + 1) (hl:st.length=many) (hm:many <= 24) (hg:x.given=u + left) (hw:rows[many]?=some (("both" : Str),none)):Zbn A S0 G rows ds x st many u (due33 "both" (none) st left still):=by
  exact ZbI X hk hlen hl hm hg (w := "both") rfl rfl rfl rfl rfl rfl (fun _=>rfl) (by decide) ⟨by decide,by decide,by decide,by decide,rfl⟩ hw
theorem ZiI (X:Pl33 A S0 ds x st ac) (hk:x.looking=still) (hlen:rows.length=many + 1) (hl:st.length=many) (hm:many <= 24) (hg:x.given=u + left) (hw:rows[many]?=some (("either" : Str),none)):Zbn A S0 G rows ds x st many u (due33 "either" (none) st left still):=by
  exact ZbI X hk hlen hl hm hg (w := "either") rfl rfl rfl rfl rfl rfl (fun _=>rfl) (by decide) ⟨by decide,by decide,by decide,by decide,rfl⟩ hw
theorem ZiJ (X:Pl33 A S0 ds x st ac) (hk:x.looking=still) (hlen:rows.length=many + 1) (hl:st.length=many) (hm:many <= 24) (hg:x.given=u + left) (hw:rows[many]?=some (("unlike" : Str),none)):Zbn A S0 G rows ds x st many u (due33 "unlike" (none) st left still):=by
  exact ZbI X hk hlen hl hm hg (w := "unlike") rfl rfl rfl rfl rfl rfl (fun _=>rfl) (by decide) ⟨by decide,by decide,by decide,by decide,rfl⟩ hw
theorem r33_up (X:Pl33 A S0 ds x st ac) (hk:x.looking=still) (hlen:rows.length=many + 1) (hl:st.length=many) (hm:many <= 24) (hg:x.given=u + left) (hw:rows[many]?=some (("up" : Str),none)):Zbn A S0 G rows ds x st many u (due33 "up" (none) st left still):=by
  exact ZbI X hk hlen hl hm hg (w := "up") rfl rfl rfl rfl rfl rfl (fun _=>rfl) (by decide) ⟨by decide,by decide,by decide,by decide,rfl⟩ hw
theorem ZlC (X:Pl33 A S0 ds x st ac) (hk:x.looking=still) (hlen:rows.length=many + 1) (hl:st.length=many) (hm:many <= 24) (hg:x.given=u + left) (hw:rows[many]?=some (("down" : Str),none)):Zbn A S0 G rows ds x st many u (due33 "down" (none) st left still):=by
  exact ZbI X hk hlen hl hm hg (w := "down") rfl rfl rfl rfl rfl rfl (fun _=>rfl) (by decide) ⟨by decide,by decide,by decide,by decide,rfl⟩ hw
theorem ZlD (X:Pl33 A S0 ds x st ac) (hk:x.looking=still) (hlen:rows.length=many + 1) (hl:st.length=many) (hm:many <= 24) (hg:x.given=u + left) (hw:rows[many]?=some (("load" : Str),none)):Zbn A S0 G rows ds x st many u (due33 "load" (none) st left still):=by
  refine beh (r:=0) X.f hk hw hlen hl hm hg rfl rfl rfl ⟨by decide,.inl rfl⟩ ⟨show (0:Int) < 3 by decide,fun z=>absurd z (by decide)⟩ (fun _=>noB (by decide) (by decide) _ _ rfl _) fun c1 c2=>?_
  obtain ⟨s,v,rfl⟩:=sn1 (st:=st) (by omega)
  exact ⟨ds,_,[],.load X.w (by decide) X.a rfl,rfl,rfl,rfl,(fun _ h=>nomatch h),by decide,Nat.le_succ _,.inl ⟨by decide,by decide,X.f,Int.le_refl _,by rw [Zbk] at hl; show (s ++ [_]).length <= 24; rw [Zbk]; omega⟩⟩
theorem ZlE (X:Pl33 A S0 ds x st ac) (hk:x.looking=still) (hlen:rows.length=many + 1) (hl:st.length=many) (hm:many <= 24) (hg:x.given=u + left) (hw:rows[many]?=some (("coin" : Str),none)):Zbn A S0 G rows ds x st many u (due33 "coin" (none) st left still):=by
  refine beh (r:=0) X.f hk hw hlen hl hm hg rfl rfl rfl ⟨by decide,.inl rfl⟩ ⟨show (0:Int) < 3 by decide,fun z=>absurd z (by decide)⟩ (fun _=>noB (by decide) (by decide) _ _ rfl _) fun c1 c2=>?_
  obtain ⟨s,v,rfl⟩:=sn1 (st:=st) (by omega)
  exact ⟨ds,_,[],.coin rfl,rfl,rfl,rfl,(fun _ h=>nomatch h),by decide,Nat.le_succ _,.inl ⟨by decide,by decide,X.f,Int.le_refl _,by rw [Zbk] at hl; show (s ++ [_]).length <= 24; rw [Zbk]; omega⟩⟩
theorem ZlF (X:Pl33 A S0 ds x st ac) (hk:x.looking=still) (hlen:rows.length=many + 1) (hl:st.length=many) (hm:many <= 24) (hg:x.given=u + left) (hw:rows[many]?=some (("note" : Str),none)):Zbn A S0 G rows ds x st many u (due33 "note" (none) st left still):=by
  refine beh (r:=0) X.f hk hw hlen hl hm hg rfl rfl rfl ⟨by decide,.inl rfl⟩ ⟨show (0:Int) < 4 by decide,fun z=>absurd z (by decide)⟩ (fun _=>noB (by decide) (by decide) _ _ rfl _) fun c1 c2=>?_
  obtain ⟨s,v,rfl⟩:=sn1 (st:=st) (by omega)
  exact ⟨ds ++ [_],_,[_],.note rfl,rfl,rfl,rfl,ok1,Nat.le_refl _,by rw [List.length_append]; exact Nat.le_refl _,.inl ⟨by decide,by decide,X.f,Int.le_refl _,by rw [Zbk] at hl; show s.length <= 24; omega⟩⟩
theorem ZlG (X:Pl33 A S0 ds x st ac) (hk:x.looking=still) (hlen:rows.length=many + 1) (hl:st.length=many) (hm:many <= 24) (hg:x.given=u + left) (hw:rows[many]?=some (("save" : Str),none)):Zbn A S0 G rows ds x st many u (due33 "save" (none) st left still):=by
  have pc:∀ s p v,priceW "save" (s ++ [p,v])=5 + 7 * (if decide (¬ v=0)=true then (1:Int) else 0):=fun s p v=>by
    show 5 + 7 * (if decide (¬ (s ++ [p,v]).getLastD 0=0)=true then (1:Int) else 0)=_
    rw [show (s ++ [p,v]).getLastD 0=v by simp]
  refine beh (r:=0) X.f hk hw hlen hl hm hg rfl rfl rfl ⟨by decide,.inl rfl⟩ ⟨by show 0 < 5 + 7 * (if decide (¬ st.getLastD 0=0)=true then (1:Int) else 0); split <;> decide,fun z=>absurd z (by decide)⟩ (fun c1=>?_) fun c1 c2=>?_
  . obtain ⟨s,p,v,rfl⟩:=sn2 (st:=st) (by omega)
    rw [pc]
    by_cases hv:v=0
    . refine ⟨false,false,.inl ⟨by decide,rfl⟩,.inr ⟨rfl,s,p,v,rfl,.inl ⟨hv,rfl⟩⟩,rfl,?_⟩
      rw [hv]; rfl
    . refine ⟨false,true,.inl ⟨by decide,rfl⟩,.inr ⟨rfl,s,p,v,rfl,.inr ⟨hv,5,ac,X.w,by decide,X.a,(decide_eq_true (X.s p)).symm⟩⟩,rfl,?_⟩
      rw [decide_eq_true hv]; rfl
  . obtain ⟨s,p,v,rfl⟩:=sn2 (st:=st) (by omega)
    exact ⟨ds ++ [_],_,[_],.save X.w (by decide) X.a rfl,rfl,rfl,rfl,ok1,Nat.le_refl _,by rw [List.length_append]; exact Nat.le_refl _,.inl ⟨by decide,by decide,X.f,Int.le_refl _,by simp at hl; show s.length <= 24; omega⟩⟩
theorem ZiK (X:Pl33 A S0 ds x st ac) (hk:x.looking=still) (hlen:rows.length=many + 1) (hl:st.length=many) (hm:many <= 24) (hg:x.given=u + left) (hw:rows[many]?=some (("borrow" : Str),none)):Zbn A S0 G rows ds x st many u (due33 "borrow" (none) st left still):=by
  refine beh (r:=0) X.f hk hw hlen hl hm hg rfl rfl rfl ⟨by decide,.inl rfl⟩ ⟨show (0:Int) < 6 by decide,fun z=>absurd z (by decide)⟩ (fun _=>noB (by decide) (by decide) _ _ rfl _) fun c1 c2=>?_
  obtain ⟨s,a,b,c,rfl⟩:=sn3 (st:=st) (by omega)
  have hs:s.length + 2 <= 24:=by simp at hl; omega
  have hC:=Zft (A:=A) (S0:=S0) (G:=G) (w := "borrow") (ds:=ds) (x:=atS x (s ++ [a,b,c]) ((many:Int) + 1) (u + 6)) (s:=s) (.inr <| .inl ⟨rfl,a,b,c,rfl,rfl⟩) (Nat.le_trans (Nat.le_trans (Nat.le_add_right _ 2) hs) (by decide)) (Zfv X.n _ (X.g a (by simp)))
  exact ⟨ds,_,[_],.call rfl hC,rfl,Int.add_zero _,rfl,ok1,Nat.le_refl _,Nat.le_succ _,.inl ⟨by decide,by decide,X.f,Int.le_refl _,by show (s ++ [_,_]).length <= 24; rw [List.length_append]; exact hs⟩⟩
theorem ZlH (X:Pl33 A S0 ds x st ac) (hk:x.looking=still) (hlen:rows.length=many + 1) (hl:st.length=many) (hm:many <= 24) (hg:x.given=u + left) (hw:rows[many]?=some (("look" : Str),none)):Zbn A S0 G rows ds x st many u (due33 "look" (none) st left still):=by
  refine beh (r:=0) X.f hk hw hlen hl hm hg rfl rfl rfl ⟨by decide,.inl rfl⟩ ⟨show (0:Int) < 6 by decide,fun z=>absurd z (by decide)⟩ (fun _=>noB (by decide) (by decide) _ _ rfl _) fun c1 c2=>?_
  obtain ⟨s,a,b,c,rfl⟩:=sn3 (st:=st) (by omega)
  have hs:s.length + 2 <= 24:=by simp at hl; omega
  have hC:=Zft (A:=A) (S0:=S0) (G:=G) (w := "look") (ds:=ds) (x:=atS x (s ++ [a,b,c]) ((many:Int) + 1) (u + 6)) (s:=s) (.inr <| .inr ⟨rfl,a,b,c,rfl,rfl⟩) (Nat.le_trans (Nat.le_trans (Nat.le_add_right _ 2) hs) (by decide)) (Zfv X.n _ (X.g a (by simp)))
  exact ⟨ds,_,[_],.call rfl hC,rfl,Int.add_zero _,rfl,ok1,Nat.le_refl _,Nat.le_succ _,.inl ⟨by decide,by decide,X.f,Int.le_refl _,by show (s ++ [_,_]).length <= 24; rw [List.length_append]; exact hs⟩⟩
theorem ZlI (X:Pl33 A S0 ds x st ac) (hk:x.looking=still) (hlen:rows.length=many + 1) (hl:st.length=many) (hm:many <= 24) (hg:x.given=u + left) (hw:rows[many]?=some (("call" : Str),none)):Zbn A S0 G rows ds x st many u (due33 "call" (none) st left still):=by
  have pc:∀ s a b c d,priceW "call" (s ++ [a,b,c,d])=8 + 4 * (if decide (¬ b=0)=true then (1:Int) else 0):=fun s a b c d=>by
    show 8 + 4 * (if decide (¬ ((s ++ [a,b,c,d]).reverse.getD 2 0)=0)=true then (1:Int) else 0)=_
    rw [show (s ++ [a,b,c,d]).reverse.getD 2 0=b by simp]
  refine beh (r:=0) X.f hk hw hlen hl hm hg rfl rfl rfl ⟨by decide,.inl rfl⟩ ⟨by show 0 < 8 + 4 * (if decide (¬ (st.reverse.getD 2 0)=0)=true then (1:Int) else 0); split <;> decide,fun z=>absurd z (by decide)⟩ (fun c1=>?_) fun c1 c2=>?_
  . obtain ⟨s,a,b,c,d,rfl⟩:=sn4 (st:=st) (by omega)
    rw [pc,show (s ++ [a,b,c,d]).reverse.getD 2 0=b by simp]
    refine ⟨decide (0 < b),false,.inr ⟨rfl,s ++ [a],b,c,d,by show s ++ [a,b,c,d]=_; rw [List.append_assoc]; rfl,rfl⟩,.inl ⟨by decide,rfl⟩,rfl,?_⟩
    rw [Bool.or_false]
    have hb:Zfu b:=X.g b (by simp)
    rcases hb.1 with e|e
    . rw [e]; rfl
    . rw [decide_eq_true (show 0 < b by omega),decide_eq_true (show ¬ b=0 by omega)]; rfl
  . obtain ⟨s,a,b,c,d,rfl⟩:=sn4 (st:=st) (by omega)
    have hs:s.length + 2 <= 24:=by simp at hl; omega
    have hC:=Zft (A:=A) (S0:=S0) (G:=G) (w := "call") (ds:=ds) (x:=atS x (s ++ [a,b,c,d]) ((many:Int) + 1) (u + priceW "call" (s ++ [a,b,c,d]))) (s:=s) (.inl ⟨rfl,a,b,c,d,rfl,rfl⟩) (Nat.le_trans (Nat.le_trans (Nat.le_add_right _ 2) hs) (by decide)) (Zfv X.n _ (X.g a (by simp)))
    exact ⟨ds,_,[_],.call rfl hC,rfl,Int.add_zero _,rfl,ok1,Nat.le_refl _,Nat.le_succ _,.inl ⟨by decide,by decide,X.f,Int.le_refl _,by show (s ++ [_,_]).length <= 24; rw [List.length_append]; exact hs⟩⟩
theorem row33 {w:Str} {n:Option Int} (X:Pl33 A S0 ds x st ac) (hk:x.looking=still) (hlen:rows.length=many + 1) (hl:st.length=many) (hm:many <= 24) (hg:x.given=u + left) (hR:RowK33 many w n) (hw:rows[many]?=some (w,n)):Zbn A S0 G rows ds x st many u (due33 w n st left still):=by
  cases hR with
  | push=>exact Zlq X hk hlen hl hm hg hw
  | copy h=>exact Zlv X hk hlen hl hm hg h hw
  | swap h=>exact Zlx X hk hlen hl hm hg h hw
  | jump=>exact Zlr X hk hlen hl hm hg hw
  | jumpif=>exact ZiH X hk hlen hl hm hg hw
  | bare h h2 =>
    unfold WL33 at h
    simp only [List.mem_cons,List.not_mem_nil,or_false] at h
    rcases h with rfl|rfl|rfl|rfl|rfl|rfl|rfl|rfl|rfl|rfl|rfl|rfl|rfl|rfl|rfl|rfl|rfl|rfl|rfl|rfl|rfl|rfl|rfl|rfl|rfl|rfl|rfl|rfl|rfl|rfl|rfl
    . cases h2
    . exact Zls X hk hlen hl hm hg hw
    . cases h2
    . cases h2
    . exact Zm6 X hk hlen hl hm hg hw
    . exact Zkb X hk hlen hl hm hg hw
    . exact Zkc X hk hlen hl hm hg hw
    . exact Zly X hk hlen hl hm hg hw
    . exact Zlz X hk hlen hl hm hg hw
    . exact Zkd X hk hlen hl hm hg hw
    . exact ZlA X hk hlen hl hm hg hw
    . exact ZlB X hk hlen hl hm hg hw
    . exact ZiI X hk hlen hl hm hg hw
    . exact ZiJ X hk hlen hl hm hg hw
    . exact r33_up X hk hlen hl hm hg hw
    . exact ZlC X hk hlen hl hm hg hw
    . cases h2
    . cases h2
    . exact ZlD X hk hlen hl hm hg hw
    . exact ZlG X hk hlen hl hm hg hw
    . exact r33_me X hk hlen hl hm hg hw
    . exact Zln X hk hlen hl hm hg hw
    . exact Zlo X hk hlen hl hm hg hw
    . exact Zlp X hk hlen hl hm hg hw
    . exact ZlE X hk hlen hl hm hg hw
    . exact ZlF X hk hlen hl hm hg hw
    . exact ZlI X hk hlen hl hm hg hw
    . exact ZiK X hk hlen hl hm hg hw
    . exact ZlH X hk hlen hl hm hg hw
    . exact Zlt X hk hlen hl hm hg hw
    . exact Zlu X hk hlen hl hm hg hw
end
section
end
noncomputable def Zib (K:PySem.W.Frag):Sp:=fun vs H Q _=>∃ (p S:Addr) (w:Str) (n:Option Int) (st:List Int),vs=[.ref p,.ref S]/\Zbj K H p w n/\SqL K H S (st.map V.int)/\(takesW w (n.getD 0) <= (st.length:Int))/\∀ H',Same H H'->Q (.int (priceW w st)) H'
theorem rev2 (s:List Int) (a b c d:Int):(s ++ [a,b,c,d]).reverse.getD 2 0=b:=by simp
section
variable {P:Program} {w:World} {K:PySem.W.Frag} {mg:Str->Option Value} {base:Heap}
theorem Zke:FnScope ["_law_found"] ["_law_found"] (Zab Ze1):=⟨rfl,rfl,rfl,by decide +kernel,rfl,by decide +kernel,by decide +kernel⟩
theorem Zkf    (D:Zao K mg "_law_whole" Ze1) (n_isinstance:mg "isinstance" = none) (n_int:mg "int" = none) (n_bool:mg "bool" = none):Cal P w K mg base 1 "_law_whole" (Zia K):=by
  refine Zaz (N:=["_law_found"]) (ps:=["_law_found"]) D Zke (fun vs H Q E h=>?_) (fun _ _ _ _ _ _ us hl=>bd1 (R:=fun us=>bindArgs _ ⟨us,[]⟩=pure (List.zip _ us)) (fun _=>rfl) us hl) (fun f cdv A outer s H vs Q E hr h=>?_)
  . obtain ⟨d,v,rfl,_⟩:=h; rfl
  . obtain ⟨d,v,rfl,hn,hb,hv,k⟩:=h
    refine ⟨_,(Zad (Zam (Zfz (ZaR ZdU rfl n_isinstance PyProof.Rows.boot_isinstance (Zaa (pv 0) (Zaa (ZfT rfl n_int PyProof.Rows.boot_int) Zaf))) (Zez (pe_not (ZaR ZdU rfl n_isinstance PyProof.Rows.boot_isinstance (Zaa (pv 0) (Zaa (ZfT rfl n_bool PyProof.Rows.boot_bool) Zaf)))))))),?_⟩
    walk_at "nx"
    cases d with
    | non=>exact absurd rfl hn
    | bl b=>exact absurd rfl (hb b)
    | int i =>
      unfold DV at hv
      subst hv
      repeat walk_at "rdz"
      all_goals first|exact k|exact ZbJ (by simp) k
    | str z =>
      unfold DV at hv
      subst hv
      repeat walk_at "rdz"
      all_goals first|exact k|exact ZbJ (by simp) k
    | lst ds =>
      unfold DV at hv
      obtain ⟨a1,xs,rfl,h1,d1⟩:=hv
      repeat walk_at "rdz"
      all_goals first|exact k|exact ZbJ (by simp) k
    | tup ds =>
      unfold DV at hv
      obtain ⟨a1,xs,rfl,h1,d1⟩:=hv
      repeat walk_at "rdz"
      all_goals first|exact k|exact ZbJ (by simp) k
theorem Zgw:FnScope ["_law_row_here", "_law_stack", "_law_word"] ["_law_row_here", "_law_stack"] (Zab Ze4):=⟨rfl,rfl,rfl,by decide +kernel,rfl,by decide +kernel,by decide +kernel⟩
theorem Zkg    (D:Zao K mg "_law_price" Ze4) (n_int:mg "int" = none):Cal P w K mg base 1 "_law_price" (Zib K):=by
  refine Zaz (N:=["_law_row_here", "_law_stack", "_law_word"]) (ps:=["_law_row_here", "_law_stack"]) D Zgw (fun vs H Q E h=>?_) (fun _ _ _ _ _ _ us hl=>bd2 (R:=fun us=>bindArgs _ ⟨us,[]⟩=pure (List.zip _ us)) (fun _ _=>rfl) us hl) (fun f cdv A outer s H vs Q E hr h=>?_)
  . obtain ⟨p,S,w,n,st,rfl,_⟩:=h; rfl
  . obtain ⟨p,S,wd,n,st,rfl,hp,hS,ht,k⟩:=h
    refine' ⟨_,?der,?_⟩
    case der =>
      refine' Zac ?h134 ?h135
      case h134 =>
        exact (ZaI (i:=2) Zgw.nd rfl (by first|exact Or.inl rfl|exact Or.inr rfl) (Zay ZaF (pv 0) Zae (fun _ _=>rfl)))
      case h135 =>
        refine' Zac ?h132 ?h133
        case h132 =>
          exact (ZaP (Zaq ZbF (pv 2) Zas (nomark _)) (Zad (Zam (ZaN ZbA Zae (ZaN ZiS Zae (Zce ZdN rfl n_int PyProof.Rows.boot_int (Zaa (ZbG ZfB (Zay ZaA (pv 1) (Zc4 ZbW Zae) (fun _ _=>rfl)) Zae (nomark _)) Zaf)))))) Zat)
        case h133 =>
          refine' Zac ?h130 ?h131
          case h130 =>
            exact (ZaP (Zaq ZbF (pv 2) Zas (nomark _)) (Zad (Zam (ZaN ZbA Zae (ZaN ZiS Zae (Zce ZdN rfl n_int PyProof.Rows.boot_int (Zaa (ZbG ZfB (Zay ZaA (pv 1) (Zc4 ZbW Zae) (fun _ _=>rfl)) Zae (nomark _)) Zaf)))))) Zat)
          case h131 =>
            refine' Zac ?h128 ?h129
            case h128 =>
              refine' ZaP ?h113 ?h114 ?h115
              case h113 =>
                exact (Zaq Zba (pv 2) (ZaT (Zaa Zas (Zaa Zas Zaf))) rfl)
              case h114 =>
                exact (Zad (Zam Zae))
              case h115 =>
                exact Zat
            case h129 =>
              refine' Zac ?h126 ?h127
              case h126 =>
                exact (ZaP (Zaq ZbF (pv 2) Zas (nomark _)) (Zad (Zam Zae)) Zat)
              case h127 =>
                refine' Zac ?h124 ?h125
                case h124 =>
                  refine' ZaP ?h116 ?h117 ?h118
                  case h116 =>
                    exact (Zaq Zba (pv 2) (ZaT (Zaa Zas (Zaa Zas Zaf))) rfl)
                  case h117 =>
                    exact (Zad (Zam Zae))
                  case h118 =>
                    exact Zat
                case h125 =>
                  refine' Zac ?h122 ?h123
                  case h122 =>
                    refine' ZaP ?h119 ?h120 ?h121
                    case h119 =>
                      exact (Zaq Zba (pv 2) (ZaT (Zaa Zas (Zaa Zas (Zaa Zas Zaf)))) rfl)
                    case h120 =>
                      exact (Zad (Zam Zae))
                    case h121 =>
                      exact Zat
                  case h123 =>
                    exact (Zad (Zam Zae))
    walk_at "nx"
    have z0:Gw H H []:=Gw.start
    by_cases h1:wd = "save"
    . subst h1
      have ht2:(2:Int) <= (st.length:Int):=ht
      obtain ⟨s,v,rfl⟩:=sn1 (st:=st) (by omega)
      have pc:priceW "save" (s ++ [v])=5 + 7 * (if (!decide (v=0))=true then (1:Int) else 0):=by
        show 5 + 7 * (if decide (¬ (s ++ [v]).getLastD 0=0)=true then (1:Int) else 0)=_
        rw [Zeq]; by_cases hv:v=0 <;> simp [hv]
      rw [pc] at k
      repeat walk_at "rw"
      refine Za8 hS (Zlf rfl) ?_
      repeat walk_at "rw"
      refine .inr ⟨_,rfl,?_⟩
      repeat walk_at "rw"
      exact k _ (Same.refl _)
      all_goals exact absurd rfl (by assumption)
    by_cases h2:wd = "call"
    . subst h2
      have ht2:(4:Int) <= (st.length:Int):=ht
      obtain ⟨s,a,b,c,d,rfl⟩:=sn4 (st:=st) (by omega)
      have pc:priceW "call" (s ++ [a,b,c,d])=8 + 4 * (if (!decide (b=0))=true then (1:Int) else 0):=by
        show 8 + 4 * (if decide (¬ ((s ++ [a,b,c,d]).reverse.getD 2 0)=0)=true then (1:Int) else 0)=_
        rw [rev2]; by_cases hv:b=0 <;> simp [hv]
      rw [pc] at k
      repeat' walk_at "rw"
      . rename_i q; exact absurd q (show ¬ ("call" : Str) = "save" by decide)
      refine Za8 hS (ZmZ (s:=s ++ [a]) (c:=b) (u:=c) (v:=d) (by rw [List.append_assoc]; rfl)) ?_
      repeat walk_at "rw"
      refine .inr ⟨_,rfl,?_⟩
      repeat walk_at "rw"
      exact k _ (Same.refl _)
      all_goals exact absurd rfl (by assumption)
    unfold priceW at k
    rw [if_neg h1,if_neg h2] at k
    repeat' walk_at "rw"
    . exact absurd (by assumption) h1
    . exact absurd (by assumption) h2
    refine ⟨by show 2 <= sizeLine; decide,fun q1 p1=>?_⟩
    generalize e_:upd _ q1 _=Z1; have z1:=z0.newE p1 e_; clear e_
    refine ZbZ (xs:=["borrow", "look"]) (Zbg z1.h.1) ?_
    cases h3:inS wd ["borrow", "look"] with
    | true =>
      rw [h3,if_pos rfl] at k
      repeat walk_at "rw"
      exact k _ z1.s
    | false =>
      rw [h3,if_neg (by decide)] at k
      by_cases h4:wd = "note"
      . rw [if_pos h4] at k
        repeat' walk_at "rw"
        . exact k _ z1.s
        . exact absurd h4 (by assumption)
      rw [if_neg h4] at k
      repeat' walk_at "rw"
      . exact absurd (by assumption) h4
      refine ⟨by show 2 <= sizeLine; decide,fun q2 p2=>?_⟩
      generalize e_:upd _ q2 _=Z2; have z2:=z1.newE p2 e_; clear e_
      refine ZbZ (xs:=["load", "coin"]) (Zbg z2.h.1) ?_
      cases h5:inS wd ["load", "coin"] with
      | true =>
        rw [h5,if_pos rfl] at k
        repeat walk_at "rw"
        exact k _ z2.s
      | false =>
        rw [h5,if_neg (by decide)] at k
        repeat walk_at "rw"
        refine ⟨by show 3 <= sizeLine; decide,fun q3 p3=>?_⟩
        generalize e_:upd _ q3 _=Z3; have z3:=z2.newE p3 e_; clear e_
        refine ZbZ (xs:=["times", "over", "rest"]) (Zbg z3.h.1) ?_
        cases h6:inS wd ["times", "over", "rest"] with
        | true =>
          rw [h6,if_pos rfl] at k
          repeat walk_at "rw"
          exact k _ z3.s
        | false =>
          rw [h6,if_neg (by decide)] at k
          repeat walk_at "rw"
          exact k _ z3.s
end
noncomputable def spDueL (K:PySem.W.Frag):Sp:=fun vs H Q _=>∃ (p S:Addr) (w:Str) (n:Option Int) (st:List Int) (left:Int) (still:Bool),vs=[.ref p,.ref S,.int left,.bl still]/\Zbj K H p w n/\SqL K H S (st.map V.int)/\(inS w ["copy", "swap"]=true->∃ k,n=some k)/\∀ t H',Same H H'->H' t=some (.tup [.str (due33 w n st left still).1,.int (due33 w n st left still).2.1,.int (due33 w n st left still).2.2])->Q (.ref t) H'
section
variable {P:Program} {w:World} {K:PySem.W.Frag} {mg:Str->Option Value} {base:Heap}
theorem Zm7:FnScope ["_law_row_here", "_law_stack", "_law_left", "_law_still"] ["_law_row_here", "_law_stack", "_law_left", "_law_still"] (Zab Zjz):=⟨rfl,rfl,rfl,by decide +kernel,rfl,by decide +kernel,by decide +kernel⟩
theorem Zm8    (D:Zao K mg "_law_due" Zjz) (c_Ltakes:Cal P w K mg base 1 "_law_takes" (Zh9 K)) (c_Lprice:Cal P w K mg base 1 "_law_price" (Zib K)) (c_Lmore:Cal P w K mg base 1 "_law_more" (Zj7 K)) (n_len:mg "len" = none):Cal P w K mg base 2 "_law_due" (spDueL K):=by
  refine Zaz (N:=["_law_row_here", "_law_stack", "_law_left", "_law_still"]) (ps:=["_law_row_here", "_law_stack", "_law_left", "_law_still"]) D Zm7 (fun vs H Q E h=>?_) (fun _ _ _ _ _ _ us hl=>bd4 (R:=fun us=>bindArgs _ ⟨us,[]⟩=pure (List.zip _ us)) (fun _ _ _ _=>rfl) us hl) (fun f cdv A outer s H vs Q E hr h=>?_)
  . obtain ⟨p,S,w,n,st,left,still,rfl,_⟩:=h; rfl
  . obtain ⟨p,S,wd,n,st,left,still,rfl,hp,hS,hn,k⟩:=h
    refine' ⟨_,?der,?_⟩
    case der =>
      refine' Zac ?h228 ?h229
      case h228 =>
        refine' ZaP ?h145 ?h146 ?h147
        case h145 =>
          exact (Zaq ZiW (ZaR Zb9 rfl n_len PySem.boot_len (Zaa (pv 1) Zaf)) (ZaG c_Ltakes (hr.mono (by decide)) rfl (Zaa (pv 0) Zaf)) (nomark _))
        case h146 =>
          refine' Zad ?h144
          case h144 =>
            refine' Zam ?h143
            case h143 =>
              refine' ZaT ?h142
              case h142 =>
                refine' Zaa ?h140 ?h141
                case h140 =>
                  exact Zas
                case h141 =>
                  refine' Zaa ?h138 ?h139
                  case h138 =>
                    exact Zae
                  case h139 =>
                    refine' Zaa ?h136 ?h137
                    case h136 =>
                      exact Zae
                    case h137 =>
                      exact Zaf
        case h147 =>
          exact Zat
      case h229 =>
        refine' Zac ?h226 ?h227
        case h226 =>
          refine' ZaP ?h157 ?h158 ?h159
          case h157 =>
            exact (Zaq ZdM (ZaN ZbA (ZaR Zb9 rfl n_len PySem.boot_len (Zaa (pv 1) Zaf)) (ZaG c_Lmore (hr.mono (by decide)) rfl (Zaa (pv 0) Zaf))) Zae (nomark _))
          case h158 =>
            refine' Zad ?h156
            case h156 =>
              refine' Zam ?h155
              case h155 =>
                refine' ZaT ?h154
                case h154 =>
                  refine' Zaa ?h152 ?h153
                  case h152 =>
                    exact Zas
                  case h153 =>
                    refine' Zaa ?h150 ?h151
                    case h150 =>
                      exact Zae
                    case h151 =>
                      refine' Zaa ?h148 ?h149
                      case h148 =>
                        exact Zae
                      case h149 =>
                        exact Zaf
          case h159 =>
            exact Zat
        case h227 =>
          refine' Zac ?h224 ?h225
          case h224 =>
            refine' ZjE ?h172
            case h172 =>
              refine' ZaP ?h169 ?h170 ?h171
              case h169 =>
                exact (PW.pt (ZhB (Zcb (pv 3)) (ZeH (PW.pt (ZiO (Zaq Zba (Zay ZaF (pv 0) Zae (fun _ _=>rfl)) (ZaT (Zaa Zas (Zaa Zas Zaf))) rfl) (ZhA (PW.pt (ZhB (Zaq ZbF (Zay ZaF (pv 0) Zae (fun _ _=>rfl)) Zas (nomark _)) (ZeH (Zaq ZdM (Zay ZaA (pv 1) (Zc4 ZbW Zae) (fun _ _=>rfl)) Zae (nomark _)))))))))))
              case h170 =>
                refine' Zad ?h168
                case h168 =>
                  refine' Zam ?h167
                  case h167 =>
                    refine' ZaT ?h166
                    case h166 =>
                      refine' Zaa ?h164 ?h165
                      case h164 =>
                        exact Zas
                      case h165 =>
                        refine' Zaa ?h162 ?h163
                        case h162 =>
                          exact Zae
                        case h163 =>
                          refine' Zaa ?h160 ?h161
                          case h160 =>
                            exact Zae
                          case h161 =>
                            exact Zaf
              case h171 =>
                exact Zat
          case h225 =>
            refine' Zac ?h222 ?h223
            case h222 =>
              refine' ZaP ?h182 ?h183 ?h184
              case h182 =>
                exact (Zaq ZdM (ZaG c_Lprice (hr.mono (by decide)) rfl (Zaa (pv 0) (Zaa (pv 1) Zaf))) (pv 2) (nomark _))
              case h183 =>
                refine' Zad ?h181
                case h181 =>
                  refine' Zam ?h180
                  case h180 =>
                    refine' ZaT ?h179
                    case h179 =>
                      refine' Zaa ?h177 ?h178
                      case h177 =>
                        exact Zas
                      case h178 =>
                        refine' Zaa ?h175 ?h176
                        case h175 =>
                          exact Zae
                        case h176 =>
                          refine' Zaa ?h173 ?h174
                          case h173 =>
                            exact Zae
                          case h174 =>
                            exact Zaf
              case h184 =>
                exact Zat
            case h223 =>
              refine' Zac ?h220 ?h221
              case h220 =>
                refine' ZaP ?h194 ?h195 ?h196
                case h194 =>
                  exact (Zaq ZbF (Zay ZaF (pv 0) Zae (fun _ _=>rfl)) Zas (nomark _))
                case h195 =>
                  refine' Zad ?h193
                  case h193 =>
                    refine' Zam ?h192
                    case h192 =>
                      refine' ZaT ?h191
                      case h191 =>
                        refine' Zaa ?h189 ?h190
                        case h189 =>
                          exact Zas
                        case h190 =>
                          refine' Zaa ?h187 ?h188
                          case h187 =>
                            exact (Zay ZaA (pv 1) (Zc4 ZbW Zae) (fun _ _=>rfl))
                          case h188 =>
                            refine' Zaa ?h185 ?h186
                            case h185 =>
                              exact Zae
                            case h186 =>
                              exact Zaf
                case h196 =>
                  exact Zat
              case h221 =>
                refine' Zac ?h218 ?h219
                case h218 =>
                  refine' ZaP ?h206 ?h207 ?h208
                  case h206 =>
                    exact (Zaq ZbF (Zay ZaF (pv 0) Zae (fun _ _=>rfl)) Zas (nomark _))
                  case h207 =>
                    refine' Zad ?h205
                    case h205 =>
                      refine' Zam ?h204
                      case h204 =>
                        refine' ZaT ?h203
                        case h203 =>
                          refine' Zaa ?h201 ?h202
                          case h201 =>
                            exact Zas
                          case h202 =>
                            refine' Zaa ?h199 ?h200
                            case h199 =>
                              exact (Zay ZaA (pv 1) (Zc4 ZbW Zae) (fun _ _=>rfl))
                            case h200 =>
                              refine' Zaa ?h197 ?h198
                              case h197 =>
                                exact Zae
                              case h198 =>
                                exact Zaf
                  case h208 =>
                    exact Zat
                case h219 =>
                  refine' Zad ?h217
                  case h217 =>
                    refine' Zam ?h216
                    case h216 =>
                      refine' ZaT ?h215
                      case h215 =>
                        refine' Zaa ?h213 ?h214
                        case h213 =>
                          exact Zas
                        case h214 =>
                          refine' Zaa ?h211 ?h212
                          case h211 =>
                            exact Zae
                          case h212 =>
                            refine' Zaa ?h209 ?h210
                            case h209 =>
                              exact (ZaG c_Lprice (hr.mono (by decide)) rfl (Zaa (pv 0) (Zaa (pv 1) Zaf)))
                            case h210 =>
                              exact Zaf
    walk_at "nx"
    unfold due33 at k
    have hlm:(st.map V.int).length=st.length:=List.length_map _
    have fin:∀ {H9:Hp} (e:Str) (a c:Int),Same H H9->(∀ t H',Same H H'->H' t=some (.tup [.str e,.int a,.int c])->Q (.ref t) H')->∀ t,H9 t=none->Q (.ref t) (upd H9 t (.tup [.str e,.int a,.int c])):=fun e a c s9 k9 t ht=>k9 t _ (s9.newT ht) Zag
    have l3:3 <= sizeLine:=by decide
    repeat walk_at "rw"
    refine ⟨p,wd,n,rfl,hp,hn,fun H1 s1=>?_⟩
    have hp1:Zbj K H1 p wd n:=s1.tup hp
    have hS1:=s1.seq hS
    by_cases h1:(st.length:Int) < takesW wd (n.getD 0)
    . rw [if_pos h1] at k
      repeat' walk_at "rw"
      . exact ⟨l3,fin _ _ _ s1 k⟩
      . rename_i q; rw [hlm] at q; exact absurd h1 q
    rw [if_neg h1] at k
    repeat' walk_at "rw"
    . rename_i q; rw [hlm] at q; exact absurd q h1
    rename_i q1
    clear q1
    refine ⟨p,wd,n,rfl,hp1,fun H2 s2=>?_⟩
    have hp2:Zbj K H2 p wd n:=s2.tup hp1
    have hS2:=s2.seq hS1
    have sA:=s1.trans s2
    by_cases h2:24 < (st.length:Int) + moreW wd
    . rw [if_pos h2] at k
      repeat' walk_at "rw"
      . exact ⟨l3,fin _ _ _ sA k⟩
      . rename_i q; rw [hlm] at q; exact absurd h2 (by omega)
    rw [if_neg h2] at k
    repeat' walk_at "rw"
    . rename_i q; rw [hlm] at q; exact absurd q (by omega)
    rename_i q1
    clear q1
    have tk:takesW wd (n.getD 0) <= (st.length:Int):=by omega
    refine ZjD (fun σ' H'=>Same H H'/\(still && (inS wd ["save", "note"] || (decide (wd = "call") && decide (0 < st.reverse.getD 2 0))))=false/\σ'=[some (.ref p),some (.ref S),some (.int left),some (.bl still)]) ?_ ?_
    . cases still with
      | false =>
        repeat walk_at "rw"
        exact ⟨sA,rfl,rfl⟩
      | true =>
        have z0:Gw H2 H2 []:=Gw.start
        repeat walk_at "rw"
        refine ⟨by show 2 <= sizeLine; decide,fun q1 p1=>?_⟩
        generalize e_:upd _ q1 _=Z1; have z1:=z0.newE p1 e_; clear e_
        refine ZbZ (xs:=["save", "note"]) (Zbg z1.h.1) ?_
        cases h3:inS wd ["save", "note"] with
        | true =>
          rw [h3] at k
          rw [if_pos (show (true && (true || _))=true from rfl)] at k
          repeat walk_at "rw"
          exact ⟨l3,fin _ _ _ (sA.trans z1.s) k⟩
        | false =>
          have hp3:Zbj K Z1 p wd n:=z1.s.tup hp2
          have hS3:=z1.s.seq hS2
          by_cases h4:wd = "call"
          . subst h4
            have ht2:(4:Int) <= (st.length:Int):=tk
            obtain ⟨s,a,b,c,d,rfl⟩:=sn4 (st:=st) (by omega)
            rw [rev2] at k
            repeat' walk_at "rw"
            refine Za8 hS3 (ZmZ (s:=s ++ [a]) (c:=b) (u:=c) (v:=d) (by rw [List.append_assoc]; rfl)) ?_
            repeat' walk_at "rw"
            . rename_i q
              rw [decide_eq_true q,h3] at k
              rw [if_pos (by decide)] at k
              exact ⟨l3,fin _ _ _ (sA.trans z1.s) k⟩
            . rename_i q
              exact ⟨sA.trans z1.s,by rw [rev2,decide_eq_false q]; decide,rfl⟩
            . rename_i q; exact absurd rfl q
          . repeat' walk_at "rw"
            . rename_i q; exact absurd q h4
            . exact ⟨sA.trans z1.s,by rw [decide_eq_false h4]; rfl,rfl⟩
    rintro σ1 H3 ⟨s3,hb,rfl⟩
    rw [hb,if_neg (by decide)] at k
    have hp3:Zbj K H3 p wd n:=s3.tup hp
    have hS3:=s3.seq hS
    repeat walk_at "rw"
    refine ⟨p,S,wd,n,st,rfl,hp3,hS3,tk,fun H4 s4=>?_⟩
    have sB:=s3.trans s4
    have hp4:Zbj K H4 p wd n:=s4.tup hp3
    have hS4:=s4.seq hS3
    by_cases h4:left < priceW wd st
    . rw [if_pos h4] at k
      repeat' walk_at "rw"
      . exact ⟨l3,fin _ _ _ sB k⟩
      all_goals exact absurd h4 (by assumption)
    rw [if_neg h4] at k
    by_cases h5:wd = "give"
    . subst h5
      rw [if_pos rfl] at k
      have ht2:(1:Int) <= (st.length:Int):=tk
      obtain ⟨s,v,rfl⟩:=sn1 (st:=st) (by omega)
      rw [Zeq] at k
      repeat' walk_at "rw"
      . rename_i q; exact absurd q h4
      . refine Za8 hS4 (Zlf rfl) ?_
        repeat walk_at "rw"
        exact ⟨l3,fin _ _ _ sB k⟩
      all_goals exact absurd rfl (by assumption)
    rw [if_neg h5] at k
    by_cases h6:wd = "fail"
    . subst h6
      rw [if_pos rfl] at k
      have ht2:(1:Int) <= (st.length:Int):=tk
      obtain ⟨s,v,rfl⟩:=sn1 (st:=st) (by omega)
      rw [Zeq] at k
      repeat' walk_at "rw"
      . rename_i q; exact absurd q h4
      . rename_i q; exact absurd q (show ¬ ("fail" : Str) = "give" by decide)
      . refine Za8 hS4 (Zlf rfl) ?_
        repeat walk_at "rw"
        exact ⟨l3,fin _ _ _ sB k⟩
      all_goals exact absurd rfl (by assumption)
    rw [if_neg h6] at k
    repeat' walk_at "rw"
    . rename_i q; exact absurd q h4
    . exact absurd (by assumption) h5
    . exact absurd (by assumption) h6
    refine ⟨p,S,wd,n,st,rfl,hp4,hS4,tk,fun H5 s5=>?_⟩
    repeat walk_at "rw"
    exact ⟨l3,fin _ _ _ (sB.trans s5) k⟩
end
noncomputable def Zkh (K:PySem.W.Frag):Sp:=fun vs H Q _=>∃ (G:Addr) (v:V) (y:FrS) (st:List Dt) (en:Str) (gs:List Int),vs=[v,.str en,.int y.answer,.int y.used,.ref G]/\DV K H (treeD y st) v/\y.fin=some en/\(∀ d ∈ st,okD d)/\st.length <= 100/\intsD st=gs/\SqL K H G (gs.map V.int)/\∀ H',Same H H'->Q (.bl true) H'
theorem ZeF {K:PySem.W.Frag} {H:Hp} {y:FrS} {st:List Dt} {en:Str} {v:V} (h:DV K H (treeD y st) v) (hf:y.fin=some en):∃ T xs L ws,v=.ref T/\SqT K H T xs/\xs.length=11/\atI xs 7=some (.str en)/\atI xs 8=some (.int y.answer)/\atI xs 9=some (.int y.used)/\atI xs 10=some (.ref L)/\SqL K H L ws/\DVs K H st ws:=by
  unfold treeD DV at h
  rw [hf] at h
  obtain ⟨T,xs,rfl,h1,d1⟩:=h
  simp only [DVs,endD] at d1
  obtain ⟨x0,t0,rfl,e0,x1,t1,rfl,e1,x2,t2,rfl,e2,x3,t3,rfl,e3,x4,t4,rfl,e4,x5,t5,rfl,e5,x6,t6,rfl,e6,x7,t7,rfl,e7,x8,t8,rfl,e8,x9,t9,rfl,e9,x10,t10,rfl,e10,rfl⟩:=d1
  unfold DV at e0 e1 e2 e3 e4 e5 e6 e7 e8 e9 e10
  subst e0 e1 e2 e3 e4 e5 e6 e7 e8 e9
  obtain ⟨L,ws,rfl,hL,dL⟩:=e10
  exact ⟨T,_,L,ws,rfl,h1,rfl,rfl,rfl,rfl,rfl,hL,dL⟩
theorem Zki:∀ st:List Dt,(intsD st).length <= st.length
  | []=>Nat.le_refl _
  | d :: r=>by
    have:=Zki r
    cases d <;> (unfold intsD; simp only [List.length_cons]; omega)
theorem Zgx:∀ (a:List Dt) (d:Dt),intsD (a ++ [d])=intsD a ++ intsD [d]
  | [],d=>rfl
  | e :: a,d=>by
    have:=Zgx a d
    cases e with
    | int i=>exact congrArg (i :: ·) this
    | _=>exact this
theorem dvs_ints {K:PySem.W.Frag} {H:Hp}:∀ gs:List Int,DVs K H (gs.map Dt.int) (gs.map V.int)
  | []=>ZbD
  | _ :: r=>ZaB Zbp (dvs_ints r)
theorem deps_ints:∀ gs:List Int,Dt.deps (gs.map Dt.int)=0
  | []=>rfl
  | _ :: r=>by show max 0 (Dt.deps (r.map Dt.int))=0; rw [deps_ints r]; rfl
theorem Zkj {K:PySem.W.Frag} {H:Hp} {a:Addr} {gs:List Int} (h:SqL K H a (gs.map V.int)):DV K H (.lst (gs.map Dt.int)) (.ref a):=Zjs h (dvs_ints gs)
section
variable {P:Program} {w:World} {K:PySem.W.Frag} {mg:Str->Option Value} {base:Heap}
theorem Zc3:FnScope ["_law_tree", "_law_end", "_law_answer", "_law_used", "_law_gone", "_law_found", "_law_due_here", "_law_some", "_law_step"] ["_law_tree", "_law_end", "_law_answer", "_law_used", "_law_gone"] (Zab ZgU):=⟨rfl,rfl,rfl,by decide +kernel,rfl,by decide +kernel,by decide +kernel⟩
theorem ZlJ    (D:Zao K mg "_law_told" ZgU) (c_Lwhole:Cal P w K mg base 1 "_law_whole" (Zia K)) (n_isinstance:mg "isinstance" = none) (n_str:mg "str" = none) (n_tuple:mg "tuple" = none) (n_len:mg "len" = none) (n_list:mg "list" = none):Cal P w K mg base 2 "_law_told" (Zkh K):=by
  refine Zaz (N:=["_law_tree", "_law_end", "_law_answer", "_law_used", "_law_gone", "_law_found", "_law_due_here", "_law_some", "_law_step"]) (ps:=["_law_tree", "_law_end", "_law_answer", "_law_used", "_law_gone"]) D Zc3 (fun vs H Q E h=>?_) (fun _ _ _ _ _ _ us hl=>bd5 (R:=fun us=>bindArgs _ ⟨us,[]⟩=pure (List.zip _ us)) (fun _ _ _ _ _=>rfl) us hl) (fun f cdv A outer s H vs Q E hr h=>?_)
  . obtain ⟨G,v,y,st,en,gs,rfl,_⟩:=h; rfl
  . obtain ⟨G,v,y,st,en,gs,rfl,hv,hf,ho,hl,hi,hG,k⟩:=h
    refine ⟨_,(Zac (ZaP (PW.pt (ZiO (Zfy (Zcb (ZaR ZdU rfl n_isinstance PyProof.Rows.boot_isinstance (Zaa (pv 0) (Zaa (ZfT rfl n_tuple PyProof.Rows.boot_tuple) Zaf))))) (ZiO (Zaq ZfB (ZaR Zb9 rfl n_len PySem.boot_len (Zaa (pv 0) Zaf)) Zae (nomark _)) (ZhA (Zfy (Zcb (ZaR ZdU rfl n_isinstance PyProof.Rows.boot_isinstance (Zaa (Zay ZaF (pv 0) Zae (fun _ _=>rfl)) (Zaa (ZfT rfl n_list PyProof.Rows.boot_list) Zaf))))))))) (Zad (Zam Zie)) Zat)
      (Zac (ZhG PassesOwn.never rfl (ZeI (ZbT (Zaa (ZaT (Zaa (Zay ZaF (pv 0) Zae (fun _ _=>rfl)) (Zaa (pv 2) Zaf))) (Zaa (ZaT (Zaa (Zay ZaF (pv 0) Zae (fun _ _=>rfl)) (Zaa (pv 3) Zaf))) Zaf)))) (pg_tup (n:=2) rfl (ZhC (Zcc (i:=5) Zc3.nd rfl (by first|exact Or.inl rfl|exact Or.inr rfl)) (ZhC (Zcc (i:=6) Zc3.nd rfl (by first|exact Or.inl rfl|exact Or.inr rfl)) Zma)))
      (Zad (ZaP (PW.pt (ZiO (Zfy (Zcb (ZaG c_Lwhole (hr.mono (by decide)) rfl (Zaa (pv 5) Zaf)))) (ZhA (Zaq ZfB (pv 5) (pv 6) (nomark _))))) (Zad (Zam Zie)) Zat)))
      (Zac (ZaI (i:=7) Zc3.nd rfl (by first|exact Or.inl rfl|exact Or.inr rfl) (ZbT Zaf))
      (Zac (ZhG PassesOwn.never rfl (ZeI (Zay ZaF (pv 0) Zae (fun _ _=>rfl))) (Zcc (i:=8) Zc3.nd rfl (by first|exact Or.inl rfl|exact Or.inr rfl))
      (Zad (ZaP (Zcb (ZaG c_Lwhole (hr.mono (by decide)) rfl (Zaa (pv 8) Zaf))) (Zad (Zav (ZeM PySem.F.plainAttrs_list PySem.F.slot_list_append PySem.F.type_list_append Zbr (pv 7) (Zaa (pv 8) Zaf)))) Zat)))
      (Zad (Zam (Zfz (ZaR ZdU rfl n_isinstance PyProof.Rows.boot_isinstance (Zaa (Zay ZaF (pv 0) Zae (fun _ _=>rfl)) (Zaa (ZfT rfl n_str PyProof.Rows.boot_str) Zaf))) (Zfz (ZbG ZbF (Zay ZaF (pv 0) Zae (fun _ _=>rfl)) (pv 1) (nomark _)) (Zez (ZbG (op_eqD hr.units) (pv 7) (pv 4) (nomark _))))))))))),?_⟩
    walk_at "nx"
    obtain ⟨T,xs,L,ws,rfl,hT,l11,a7,a8,a9,a10,hL,dL⟩:=ZeF hv hf
    have lws:=dL.length
    have z0:Gw H H []:=Gw.start
    repeat walk_at "rdz"
    all_goals try (exfalso; omega)
    refine ZbY hT a10 ?_
    repeat walk_at "rdz"
    refine ZhO (ZdE ?_)
    repeat walk_at "rdz"
    refine ZbY hT a8 ?_
    repeat walk_at "rdz"
    refine ⟨by show 2 <= sizeLine; decide,fun ta q_ta=>?_⟩
    generalize e_:upd _ ta _=Z1; have z1:=z0.newE q_ta e_; clear e_; repeat walk_at "rdk"
    refine ZbY (z1.s.tup hT) a9 ?_
    repeat walk_at "rdz"
    refine ⟨by show 2 <= sizeLine; decide,fun tb q_tb=>?_⟩
    generalize e_:upd _ tb _=Z2; have z2:=z1.newE q_tb e_; clear e_; repeat walk_at "rdk"
    refine ⟨by show 2 <= sizeLine; decide,fun tl q_tl=>?_⟩
    generalize e_:upd _ tl _=Z3; have z3:=z2.newE q_tl e_; clear e_; repeat walk_at "rdk"
    have f3:=z3.h
    have hT3:=z3.s.tup hT
    refine ⟨tl,rfl,⟨_,ZaE f3.1⟩,ZhH (xs:=[V.ref ta,.ref tb]) (fun i σ' H'=>H'=Z3/\∃ v1 v2,σ'=[some (.ref T),some (.str en),some (.int y.answer),some (.int y.used),some (.ref G),v1,v2,none,none]) ⟨rfl,_,_,rfl⟩ (fun i σ' H' _ hz=>by rw [hz.1]; exact ZaE f3.1) ?_ ?_⟩
    . rintro i xx σ' H' hxx ⟨rfl,v1,v2,rfl⟩
      have:∃ j:Int,∃ p,xx=.ref p/\SqT K H' p [.int j,.int j]:=by
        match i,hxx with
        | 0,e=>cases e; exact ⟨_,_,rfl,Zbg f3.2.2.1⟩
        | 1,e=>cases e; exact ⟨_,_,rfl,Zbg f3.2.1⟩
        | _ + 2,e=>cases e
      obtain ⟨j,p,rfl,hp⟩:=this
      refine Zju hp rfl (ZhQ ?_)
      repeat walk_at "rdz"
      refine ⟨.int j,_,rfl,by simp,by simp,Zbp,?_⟩
      repeat' walk_at "rdz"
      all_goals first|exact ⟨rfl,_,_,rfl⟩|exact absurd rfl (by assumption)
    rintro σ' H' ⟨rfl,v1,v2,rfl⟩
    repeat walk_at "rdz"
    refine ⟨by show 0 <= sizeLine; decide,fun B q_B=>?_⟩
    generalize e_:upd _ B _=Z4; have z4:=z3.newE q_B e_; clear e_; repeat walk_at "rdk"
    have nB:=z3.fresh q_B
    have eB:=z4.h.1
    refine ZhO (ZdE ?_)
    repeat walk_at "rdz"
    refine ZbY (z4.s.tup hT) a10 ?_
    refine ⟨L,rfl,⟨_,z4.s.seq hL⟩,ZhH (xs:=ws) (fun i σ' H'=>Same H H'/\H' B=some (.lst ((intsD (st.take i)).map V.int))/\∃ v3,σ'=[some (.ref T),some (.str en),some (.int y.answer),some (.int y.used),some (.ref G),v1,v2,some (.ref B),v3]) ⟨z4.s,eB,_,rfl⟩ (fun i σ' H' _ hz=>hz.1.seq hL) ?_ ?_⟩
    . rintro i xx σ' H' hxx ⟨s5,eB5,v3,rfl⟩
      have hi5:i < ws.length:=(List.getElem?_eq_some_iff.mp hxx).1
      obtain ⟨d,hd⟩:∃ d,st[i]?=some d:=⟨_,List.getElem?_eq_getElem (by omega)⟩
      have dd:=(dL.keep s5).get hd hxx
      have okd:=ho d (List.mem_of_getElem? hd)
      have et:st.take (i + 1)=st.take i ++ [d]:=by rw [List.take_add_one,hd]; rfl
      have hbl:((intsD (st.take i)).map V.int).length < sizeLine:=by
        have:=Zki (st.take i)
        rw [List.length_take] at this
        rw [List.length_map]
        exact Nat.lt_of_le_of_lt (show _ <= 100 by omega) (by decide)
      rw [et,Zgx]
      cases d with
      | int j =>
        unfold DV at dd
        subst dd
        repeat walk_at "rdz"
        refine ⟨.int j,_,rfl,by simp,by simp,Zbp,?_⟩
        repeat walk_at "rdz"
        refine ⟨ZbL (ZaE eB5),?_⟩
        repeat walk_at "rdz"
        refine ZbC eB5 hbl ?_
        repeat walk_at "rdz"
        refine ⟨s5.wr nB,?_,_,rfl⟩
        rw [Zag,List.map_append]; rfl
      | tup l =>
        repeat walk_at "rdz"
        refine ⟨.tup l,_,rfl,by simp,by simp,dd,?_⟩
        repeat walk_at "rdz"
        refine ⟨s5,?_,_,rfl⟩
        rw [eB5,show intsD [Dt.tup l]=[] from rfl,List.append_nil]
      | non=>exact okd.elim
      | bl b=>exact okd.elim
      | str z=>exact okd.elim
      | lst l=>exact okd.elim
    rintro σ' H' ⟨s5,eB5,v3,rfl⟩
    rw [<- lws,List.take_length,hi] at eB5
    have hT5:=s5.tup hT
    repeat walk_at "rdz"
    refine ZbY hT5 a7 ?_
    repeat walk_at "rdz"
    refine ZbY hT5 a7 ?_
    repeat walk_at "rdz"
    refine ZmN (Zkj (ZaE eB5)) (Zkj (s5.seq hG)) (by unfold Dt.dep; rw [deps_ints]; decide) ?_
    repeat walk_at "rdz"
    exact k _ s5
    all_goals exact absurd rfl (by assumption)
end
theorem Zic:∀ a b:List Dt,intsD (a ++ b)=intsD a ++ intsD b
  | [],b=>rfl
  | e :: a,b=>by
    have:=Zic a b
    cases e with
    | int i=>exact congrArg (i :: ·) this
    | _=>exact this
theorem Zkk:∀ n i:Nat,intsD (upI i n)=(List.range' i n).map fun j:Nat=>(j:Int)
  | 0,_=>rfl
  | n + 1,i=>congrArg ((i:Int) :: ·) (Zkk n (i + 1))
theorem Zl4:∀ n i:Nat,(upI i n).length=n
  | 0,_=>rfl
  | n + 1,i=>congrArg (· + 1) (Zl4 n (i + 1))
theorem up_ok:∀ n i:Nat,∀ d ∈ upI i n,okD d
  | 0,_,_,h=>nomatch h
  | n + 1,i,d,h=>by
    rcases List.mem_cons.1 h with rfl|h
    . trivial
    . exact up_ok n (i + 1) d h
noncomputable def gone33 (many:Nat) (c:Int):List Int:=(List.range (many + (if 0 < c then 1 else 0))).map fun j:Nat=>(j:Int)
theorem price0 (w:Str) (st:List Int):0 <= priceW w st:=by
  unfold priceW
  repeat' split
  all_goals decide
theorem due_b (w:Str) (n:Option Int) (st:List Int) (left:Int) (still:Bool) (h:0 <= left):0 <= (due33 w n st left still).2.2/\(due33 w n st left still).2.2 <= left:=by
  have:=price0 w st
  unfold due33
  split
  . exact ⟨Int.le_refl 0,h⟩
  split
  . exact ⟨Int.le_refl 0,h⟩
  split
  . exact ⟨Int.le_refl 0,h⟩
  split
  . exact ⟨Int.le_refl 0,h⟩
  rename_i hp
  split
  . rename_i e; subst e; exact ⟨show (0:Int) <= 1 by decide,Int.not_lt.mp hp⟩
  split
  . rename_i e; subst e; exact ⟨show (0:Int) <= 1 by decide,Int.not_lt.mp hp⟩
  . exact ⟨this,Int.not_lt.mp hp⟩
noncomputable def prg33 (st:List Int) (w:Str) (n:Option Int):List Row:=st.map (rw1 "push") ++ [(w,n)]
section
variable {A:Nat->Option AcI} {S0:Nat->AcS} {many n0:Nat} {x:FrS} {st:List Int} {left g:Int} {still:Bool} {ac a3:AcI} {w:Str} {n:Option Int}
theorem Zm9 (kind:Str) (dep:Int) (hA:A 5=some ac) (hA0:A 0=none) (hs:∀ p,(S0 5).store p=0) (hr:(S0 5).rows=prg33 st w n) (hl:st.length=many) (hm:many <= 24) (hN:∀ k ∈ st,Zfu k) (hR:RowK33 many w n) (h0:0 <= left):∃ ds' y s,GoW A S0 (n0 + 1) [] (frame0 kind 5 5 3 0 8 ((many:Int) + left) dep still) ds' y s/\y.fin=some (due33 w n st left still).1/\y.answer=(due33 w n st left still).2.1/\y.used=(many:Int) + (due33 w n st left still).2.2/\intsD s=gone33 many (due33 w n st left still).2.2/\(∀ d ∈ s,okD d)/\s.length <= 30/\ds'.length <= 1:=by
  subst hl
  have hw:(prg33 st w n)[st.length]?=some (w,n):=by unfold prg33; rw [List.getElem?_append_right (by rw [List.length_map]; exact Nat.le_refl _),List.length_map,Nat.sub_self]; rfl
  have hlen:(prg33 st w n).length=st.length + 1:=by unfold prg33; rw [List.length_append,List.length_map]; rfl
  obtain ⟨k,ds2,y,s,hk,hrun,hf,ha,hu,hi,ho,hsl,hdl⟩:=row33 (G:=GoW A S0 n0) (still:=still) (u:=(st.length:Int)) (x:=frame0 kind 5 5 3 0 8 ((st.length:Int) + left) dep still) (ds:=[]) ⟨rfl,rfl,hA,hA0,hs,hN⟩ rfl hlen rfl hm rfl hR hw
  have q:=Zh8 (A:=A) (S0:=S0) (G:=GoW A S0 n0) (rows:=prg33 st w n) (n:=k) (ds:=[]) (x:=frame0 kind 5 5 3 0 8 ((st.length:Int) + left) dep still) rfl st [] 0 0 (fun j hj=>by
    rw [Nat.zero_add]; unfold prg33; rw [List.getElem?_append_left (by rw [List.length_map]; exact hj),List.getElem?_map]) (by rw [List.length_nil,Nat.zero_add]; exact hm) (by show 0 + (st.length:Int) <= (st.length:Int) + left; omega) (by rw [List.nil_append,Nat.zero_add,Int.zero_add]; exact hrun)
  have hmv:mvD (frame0 kind 5 5 3 0 8 ((st.length:Int) + left) dep still)=none:=if_neg fun z=>absurd z.2 (by show ¬ (0:Int) < 0; decide)
  refine ⟨(if y.fin=some ("well" : Str) then ds2 else []),y,upI 0 st.length ++ s,⟨5,ac,st.length + k,ds2,upI 0 st.length ++ s,rfl,rfl,by decide,hA,fun d hd=>by rw [hmv] at hd; (cases hd),?_,by omega,?_,rfl,by rw [hmv]; rfl⟩,hf,ha,hu,?_,?_,?_,?_⟩
  . rw [hmv,hr]; exact q
  . rw [List.length_nil] at hdl; omega
  . rw [Zic,Zkk,hi]
    unfold gone33
    rw [List.range_eq_range']
    split
    . rw [List.range'_concat,List.map_append]
      show _=_ ++ [((0 + 1 * st.length:Nat):Int)]
      rw [Nat.one_mul,Nat.zero_add]
    . rw [List.append_nil,Nat.add_zero]
  . intro d hd
    rcases List.mem_append.1 hd with h|h
    . exact up_ok _ _ d h
    . exact ho d h
  . rw [List.length_append,Zl4]; omega
  . rw [List.length_nil] at hdl
    split
    . omega
    . exact Nat.zero_le _
theorem Zna (hA:A 5=some ac) (hA3:A 3=some a3) (r3:(S0 3).rows=[rw1 "push" 5,rw1 "push" g,rw1 "push" 8,rw0 "look", rw0 "drop"]) {dsI:List Dd} {y1:FrS} {s1:List Dt} {u1:Int} {e1:Str} (hG:GoW A S0 (n0 + 1) [] (frame0 "look" 5 5 3 0 8 g 2 true) dsI y1 s1) (hf1:y1.fin=some e1) (hu:y1.used=u1) (u0:0 <= u1) (hug:u1 <= g) (hdl:dsI.length <= 1):∃ y,GoW A S0 (n0 + 2) [] (frame0 "call" 3 3 5 0 1 (g + 10) 1 false) dsI y [.int 0,.int 1,.int 2,.int 3,treeD y1 s1,.int 4]/\y.fin=some ("well" : Str)/\y.answer=0/\y.used=10 + u1:=by
  have hmv:mvD (frame0 "call" 3 3 5 0 1 (g + 10) 1 false)=none:=if_neg fun z=>absurd z.2 (by show ¬ (0:Int) < 0; decide)
  refine ⟨endS (frame0 "call" 3 3 5 0 1 (g + 10) 1 false) [y1.answer] ((5:Nat):Int) (9 + u1 + 1) "well" 0,⟨3,a3,6,dsI,[.int 0,.int 1,.int 2,.int 3,treeD y1 s1,.int 4],rfl,rfl,by decide,hA3,fun d hd=>by rw [hmv] at hd; (cases hd),?_,by decide,by omega,(if_pos rfl).symm,by rw [hmv]; rfl⟩,rfl,rfl,by show 9 + u1 + 1=_; omega⟩
  rw [hmv,r3]
  show RunW A S0 (GoW A S0 (n0 + 1)) [rw1 "push" 5,rw1 "push" g,rw1 "push" 8,rw0 "look", rw0 "drop"] 6 [] (atS (frame0 "call" 3 3 5 0 1 (g + 10) 1 false) [] ((0:Nat):Int) 0) _ _ _
  refine Zfs (k:=5) (u':=1) rfl rfl (by show 0 < 24; decide) rfl (by show 1 <= g + 10; omega) ?_
  refine Zfs (k:=g) (u':=2) rfl rfl (by show 1 < 24; decide) rfl (by show 2 <= g + 10; omega) ?_
  refine Zfs (k:=8) (u':=3) rfl rfl (by show 2 < 24; decide) rfl (by show 3 <= g + 10; omega) ?_
  have hC:=Zlj (A:=A) (S0:=S0) (G:=GoW A S0 (n0 + 1)) (ds:=[]) (w := "look") (x:=atS (frame0 "call" 3 3 5 0 1 (g + 10) 1 false) [5,g,8] ((4:Nat):Int) 9) (s:=[]) g (.inr (.inr ⟨rfl,5,g,8,rfl,rfl⟩)) (by decide) (.inr ⟨ac,by show (0:Int) <= 5; decide,by show (5:Int) < 16; decide,hA,.inr (.inl ⟨by show ¬ (8:Int) < 2; decide,by show ("look" : Str) ≠ "call"; decide,rfl⟩)⟩) (by show (if g + 10 - 9 < g then _ else g)=g; exact if_neg (by omega)) hG
  rw [hu] at hC
  refine Zm3 (w := "look") (st':=[y1.answer,wellI y1.fin]) (u':=9) (u2:=9 + u1) (c:=6) rfl rfl rfl rfl (by show (3:Int) <= ((3:Nat):Int); decide) (by decide) (by show 3 <= 24; decide) (.inl ⟨by decide,rfl⟩) (by decide) rfl rfl rfl (by show 9 <= g + 10; omega) rfl hC ?_
  refine Zm2 (st:=[y1.answer]) (v:=wellI y1.fin) (u':=9 + u1 + 1) rfl rfl (by show 1 < 24; decide) rfl (by show 9 + u1 + 1 <= g + 10; omega) ?_
  exact en_of rfl (by show (5:Int) <= 5; decide) (by show 1 <= 24; decide)
end
section
end
noncomputable def cellF (ns:List Int) (k:Int):Int:=(ns[k.toNat]?).getD 0
noncomputable def Zkl (K:PySem.W.Frag):Sp:=fun vs H Q _=>∃ (p:Addr) (ns:List Int) (k:Int),vs=[.ref p,.int k]/\0 <= k/\SqL K H p (ns.map V.int)/\Q (.int (cellF ns k)) H
noncomputable def hasAll (A:Nat->Option AcI) (ss:List Nat):Prop:=∀ i ∈ ss,i < 16/\∃ x,A i=some x
noncomputable def setO (A:Nat->Option AcI) (i:Nat) (x:AcI):Nat->Option AcI:=fun j=>if j=i then some x else A j
theorem Zkm {A:Nat->Option AcI} {i:Nat} {x:AcI} (hi:i < 16):((List.range 16).map fun j=>roomV (A j)).set i (.ref x.a)=(List.range 16).map fun j=>roomV (setO A i x j):=by
  apply List.ext_getElem?
  intro n
  rw [List.getElem?_set]
  by_cases e:i=n
  . subst e
    rw [if_pos rfl,if_pos (by simpa using hi),List.getElem?_map,List.getElem?_range hi]
    show _=some (roomV (setO A i x i))
    unfold setO
    rw [if_pos rfl]
    rfl
  . rw [if_neg e,List.getElem?_map,List.getElem?_map]
    by_cases hn:n < 16
    . rw [List.getElem?_range hn]
      show some _=some (roomV (setO A i x n))
      unfold setO
      rw [if_neg (Ne.symm e)]
    . rw [List.getElem?_eq_none (by simpa using hn)]
      rfl
theorem Zcy {A:Nat->Option AcI} {i:Nat} {x:AcI}:∀ j y,setO A i x j=some y->(j=i/\y=x)\/(j ≠ i/\A j=some y):=fun j y h=>by
  unfold setO at h
  by_cases z:j=i
  . rw [if_pos z] at h; cases h; exact .inl ⟨z,rfl⟩
  . rw [if_neg z] at h; exact .inr ⟨z,h⟩
theorem Rooms.add {K:PySem.W.Frag} {C:Addr} {H H':Hp} {R:Addr} {A:Nat->Option AcI} {S:Nat->AcS} {m:Nat} (r:Rooms K C H R A S m) {i:Nat} (hi:i < 16) {x:AcI} {s:AcS} (e5:H' R=some (.lst (((List.range 16).map fun j=>roomV (A j)).set i (.ref x.a)))) (e6:Acc K C H' x s m)
    (fr:∀ b o,H b=some o->b ≠ R->(∀ kvs,o ≠ .dK kvs)->H' b=some o) (fs:∀ j y,j < 16->A j=some y->H' y.st=H y.st) (np:∀ j y,j < 16->A j=some y->y.pr ≠ R) (n3:H x.a=none) (n4:H x.st=none):Rooms K C H' R (setO A i x) (setS S i s) m:=by
  have hR:=r.ob
  have sne:∀ j y,j < 16->A j=some y->∃ kvs,H y.st=some (.dK kvs):=fun j y hj hy=>let ⟨kvs,a,_⟩:=(r.ac j y hj hy).sto; ⟨kvs,a⟩
  have im:SameI H H':=fun b u e i=>by
    refine fr b u e (fun z=>?_) (fun kvs z=>?_)
    . rw [z,hR] at e; cases e; exact ZbB i
    . rw [z] at i; exact ZfZ i
  refine ⟨by rw [e5,Zkm hi],fun j y hj hy=>?_,fun j j' y y' hj hj' hy hy' e=>?_,fun j j' y y' hj hj' hy hy' e=>?_⟩
  . rcases Zcy j y hy with ⟨rfl,rfl⟩|⟨z,gy⟩
    . unfold setS; rw [if_pos rfl]; exact e6
    . unfold setS; rw [if_neg z]
      have h:=r.ac j y hj gy
      obtain ⟨xs,g1,g2⟩:=h.pg
      obtain ⟨kvs,g3,g4⟩:=h.sto
      exact ⟨fr _ _ h.ob (Zbe h.ob hR (by intro z; cases z)) (by intro _ z; cases z),⟨xs,fr _ _ g1 (np j y hj gy) (by intro _ z; cases z),g2.keep im⟩,kvs,(fs j y hj gy).trans g3,g4⟩
  . rcases Zcy j y hy with ⟨rfl,rfl⟩|⟨z,gy⟩ <;> rcases Zcy j' y' hy' with ⟨rfl,rfl⟩|⟨z',gy'⟩
    . rfl
    . have h:=(r.ac j' y' hj' gy').ob; rw [<- e,n3] at h; cases h
    . have h:=(r.ac j y hj gy).ob; rw [e,n3] at h; cases h
    . exact r.da j j' y y' hj hj' gy gy' e
  . rcases Zcy j y hy with ⟨rfl,rfl⟩|⟨z,gy⟩ <;> rcases Zcy j' y' hy' with ⟨rfl,rfl⟩|⟨z',gy'⟩
    . rfl
    . obtain ⟨_,h⟩:=sne j' y' hj' gy'; rw [<- e,n4] at h; cases h
    . obtain ⟨_,h⟩:=sne j y hj gy; rw [e,n4] at h; cases h
    . exact r.ds j j' y y' hj hj' gy gy' e
theorem Rooms.empty {K:PySem.W.Frag} {C:Addr} {H:Hp} {R:Addr} {m:Nat} (f:H R=some (.lst ((List.range 16).map fun i=>roomV ((fun _=>none:Nat->Option AcI) i)))) (S:Nat->AcS):Rooms K C H R (fun _=>none) S m :=
  ⟨f,fun _ _ _ h=>(nomatch h),fun _ _ _ _ _ _ h=>(nomatch h),fun _ _ _ _ _ _ h=>(nomatch h)⟩
theorem Rooms.made {K:PySem.W.Frag} {C:Addr} {H H2:Hp} {R:Addr} {A:Nat->Option AcI} {S:Nat->AcS} {m:Nat} (r:Rooms K C H R A S m) {i:Nat} (hi:i < 16) (np:∀ j y,j < 16->A j=some y->y.pr ≠ R) {a dx pr st:Addr} {c p:Int} {rs:List Row} (s:Same H H2) (ha:H a=none) (hpr:H pr=none) (hst:H st=none) (ac:AcAt K C H2 a dx pr st c p 0 rs (fun _=>0) 0) :
    Rooms K C (upd H2 R (.lst (((List.range 16).map fun j=>roomV (A j)).set i (.ref a)))) R (setO A i ⟨a,dx,pr,st⟩) (setS S i ⟨c,p,0,rs,fun _=>0⟩) m/\∀ j y,j < 16->setO A i ⟨a,dx,pr,st⟩ j=some y->y.pr ≠ R:=by
  have nR:pr ≠ R:=Ne.symm (Zaj r.ob hpr)
  have im:SameI H2 (upd H2 R (.lst (((List.range 16).map fun j=>roomV (A j)).set i (.ref a)))):=SameI.upd (s _ _ r.ob) ZbB
  obtain ⟨xs,g1,g2⟩:=ac.pg
  obtain ⟨kvs,g3,g4,g5⟩:=ac.sto
  refine ⟨r.add (x:=⟨a,dx,pr,st⟩) hi Zag ⟨by rw [Zai (Zbe ac.ob (s _ _ r.ob) (by intro z; cases z))]; exact ac.ob,⟨xs,by rw [Zai nR]; exact g1,g2.keep im⟩,kvs,by rw [Zai (Zbe g3 (s _ _ r.ob) (by intro z; cases z))]; exact g3,Nat.le_trans g4 (Nat.zero_le _),g5⟩ (fun b o h h1 _=>by rw [Zai h1]; exact s _ _ h) (fun j y hj hy=>?_) np ha hst,fun j y hj hy=>?_⟩
  . obtain ⟨kv,q,_⟩:=(r.ac j y hj hy).sto
    rw [Zai (Zbe q r.ob (by intro z; cases z)),q]
    exact s _ _ q
  . rcases Zcy j y hy with ⟨rfl,rfl⟩|⟨_,gy⟩
    . exact nR
    . exact np j y hj gy
theorem Rooms.put {K:PySem.W.Frag} {C:Addr} {H0 H H2:Hp} {R:Addr} {A:Nat->Option AcI} {S:Nat->AcS} {m:Nat} (r:Rooms K C H R A S m) (n0:H0 R=none) (s0:Same H0 H) {i:Nat} (hi:i < 16) (np:∀ j y,j < 16->A j=some y->y.pr ≠ R) {a dx pr st:Addr} {c p:Int} {rs:List Row} (s:Same H H2) (ha:H a=none) (hpr:H pr=none) (hst:H st=none) (ac:AcAt K C H2 a dx pr st c p 0 rs (fun _=>0) 0) :
    ∃ H',upd H2 R (.lst (((List.range 16).map fun j=>roomV (A j)).set i (.ref a)))=H'/\Rooms K C H' R (setO A i ⟨a,dx,pr,st⟩) (setS S i ⟨c,p,0,rs,fun _=>0⟩) m/\(∀ j y,j < 16->setO A i ⟨a,dx,pr,st⟩ j=some y->y.pr ≠ R)/\Same H0 H'/\KeptX (·=R) H H' :=
  ⟨_,rfl,(r.made hi np s ha hpr hst ac).1,(r.made hi np s ha hpr hst ac).2,(s0.trans s).wr n0,s.keptX.trans (KeptX.upd rfl)⟩
theorem Zgy (A:Nat->Option AcI) (i:Nat) (v:AcI):setO A i v i=some v:=by unfold setO; rw [if_pos rfl]
theorem Zhv (A:Nat->Option AcI) {i j:Nat} (v:AcI) (h:j ≠ i):setO A i v j=A j:=by unfold setO; rw [if_neg h]
noncomputable def Znb (o:HO):Prop:=(∀ xs,o ≠ .lst xs)/\(∀ xs,o ≠ .tup xs)/\∀ q u,o ≠ .frz q u
structure KeptD (H H':Hp):Prop where
  k:∀ b o,H b=some o->H' b=some o\/Znb o
section
variable {K:PySem.W.Frag} {H H':Hp}
theorem KeptD.at (s:KeptD H H') {b:Addr} {o:HO} (h:H b=some o) (n:¬ Znb o):H' b=some o:=(s.k b o h).resolve_right n
theorem KeptD.l (s:KeptD H H') {b:Addr} {xs:List V} (h:H b=some (.lst xs)):H' b=some (.lst xs):=s.at h fun z=>z.1 _ rfl
theorem KeptD.t (s:KeptD H H') {b:Addr} {xs:List V} (h:H b=some (.tup xs)):H' b=some (.tup xs):=s.at h fun z=>z.2.1 _ rfl
theorem KeptD.sl (s:KeptD H H') {a:Addr} {xs:List V} (h:SqL K H a xs):SqL K H' a xs:=by
  rcases h with (h|⟨o,h⟩)|h
  . exact .inl (.inl (s.l h))
  . exact .inl (.inr ⟨o,s.at h fun z=>z.2.2 _ _ rfl⟩)
  . exact .inr h
theorem KeptD.st (s:KeptD H H') {a:Addr} {xs:List V} (h:SqT K H a xs):SqT K H' a xs:=by
  rcases h with (h|⟨o,h⟩)|h
  . exact .inl (.inl (s.t h))
  . exact .inl (.inr ⟨o,s.at h fun z=>z.2.2 _ _ rfl⟩)
  . exact .inr h
mutual
theorem DV.keptD (s:KeptD H H'):∀ {d:Dt} {v:V},DV K H d v->DV K H' d v
  | .non,v,h=>by unfold DV at h |-; exact h
  | .bl b,v,h=>by unfold DV at h |-; exact h
  | .int i,v,h=>by unfold DV at h |-; exact h
  | .str x,v,h=>by unfold DV at h |-; exact h
  | .lst ds,v,h=>by
    unfold DV at h |-
    obtain ⟨a,xs,e,q,r⟩:=h
    exact ⟨a,xs,e,s.sl q,DVs.keptD s r⟩
  | .tup ds,v,h=>by
    unfold DV at h |-
    obtain ⟨a,xs,e,q,r⟩:=h
    exact ⟨a,xs,e,s.st q,DVs.keptD s r⟩
theorem DVs.keptD (s:KeptD H H'):∀ {ds:List Dt} {xs:List V},DVs K H ds xs->DVs K H' ds xs
  | [],xs,h=>by unfold DVs at h |-; exact h
  | d :: r,xs,h=>by
    unfold DVs at h |-
    obtain ⟨x,t,e,h1,h2⟩:=h
    exact ⟨x,t,e,DV.keptD s h1,DVs.keptD s h2⟩
end
theorem Zid {C:Addr} {H1:Hp} {R L:Addr} {A:Nat->Option AcI} {S:Nat->AcS} {m:Nat} (r:Rooms K C H R A S m) (s:Same H H1) (n:H L=none) (k:KeptX (fun b=>¬ Out A b\/b=L) H1 H'):KeptD H H':=⟨fun b o e=>by
  by_cases q:Znb o
  . exact .inr q
  . refine .inl (k b o (s _ _ e) fun z=>?_)
    rcases z with z|rfl
    . refine z fun i x hi hx=>⟨fun w=>q ?_,fun w=>q ?_⟩
      . rw [w,(r.ac i x hi hx).ob] at e; cases e
        exact ⟨fun _ w=>(nomatch w),fun _ w=>(nomatch w),fun _ _ w=>(nomatch w)⟩
      . obtain ⟨kv,g1,_⟩:=(r.ac i x hi hx).sto
        rw [w,g1] at e; cases e
        exact ⟨fun _ w=>(nomatch w),fun _ w=>(nomatch w),fun _ _ w=>(nomatch w)⟩
    . rw [n] at e; cases e⟩
end
noncomputable def spLaw (K:PySem.W.Frag):Sp:=fun vs H Q _=>∃ (a:Addr) (ns:List Int),vs=[.ref a]/\SqL K H a (ns.map V.int)/\ns.length <= 63/\∀ H',Q (.bl true) H'
theorem rk_num {many:Nat} {w:Str} {n:Option Int} (h:RowK33 many w n):inS w ["copy", "swap"]=true->∃ k,n=some k:=by
  intro hi
  cases h with
  | bare h h2 =>
    unfold inS at hi h2
    simp only [List.any_cons,List.any_nil,Bool.or_false,Bool.or_eq_false_iff,Bool.or_eq_true] at hi h2
    rcases hi with e|e
    . rw [h2.2.1] at e; cases e
    . rw [h2.2.2.1] at e; cases e
  | _=>exact ⟨_,rfl⟩
theorem ok6 {d:Dt} (h:okD d):∀ e ∈ [Dt.int 0,.int 1,.int 2,.int 3,d,.int 4],okD e:=by
  intro e he
  simp only [List.mem_cons,List.not_mem_nil,or_false] at he
  rcases he with rfl|rfl|rfl|rfl|rfl|rfl
  all_goals first|exact h|trivial
theorem ZlK (c:Int):Zfu (16 + c / 3 % 18446744073709551600):=by unfold Zfu; omega
section
variable {P:Program} {w:World} {K:PySem.W.Frag} {mg:Str->Option Value} {base:Heap}
theorem Zhw:FnScope ["_law_script", "_law_k"] ["_law_script", "_law_k"] (Zab Zdm):=⟨rfl,rfl,rfl,by decide +kernel,rfl,by decide +kernel,by decide +kernel⟩
theorem Zhx    (D:Zao K mg "_law_cell_at" Zdm) (n_len:mg "len" = none):Cal P w K mg base 1 "_law_cell_at" (Zkl K):=by
  refine Zaz (N:=["_law_script", "_law_k"]) (ps:=["_law_script", "_law_k"]) D Zhw (fun vs H Q E h=>?_) (fun _ _ _ _ _ _ us hl=>bd2 (R:=fun us=>bindArgs _ ⟨us,[]⟩=pure (List.zip _ us)) (fun _ _=>rfl) us hl) (fun f cdv A outer s H vs Q E hr h=>?_)
  . obtain ⟨p,ns,j,rfl,_⟩:=h; rfl
  . obtain ⟨p,ns,j,rfl,hj,hl,k⟩:=h
    refine ⟨_,(Zac (ZaP (Zaq ZiW (pv 1) (ZaR Zb9 rfl n_len PySem.boot_len (Zaa (pv 0) Zaf)) (nomark _)) (Zad (Zam (Zay ZaA (pv 0) (pv 1) (fun _ _=>rfl)))) Zat)
      (Zad (Zam Zae))),?_⟩
    walk_at "nx"
    repeat' walk_at "rdt"
    . rename_i hlt
      rw [List.length_map] at hlt
      obtain ⟨c,e1,e2⟩:=ZkV (xs:=ns) hj hlt
      have e3:(ns.map V.int)[j.toNat]?=some (.int c):=by rw [List.getElem?_map,e2]; rfl
      refine Za8 hl (ZcU e3 (by omega)) ?_
      unfold cellF at k
      rw [e2] at k
      exact k
    . rename_i hlt
      rw [List.length_map] at hlt
      unfold cellF at k
      rw [List.getElem?_eq_none (by omega)] at k
      exact k
end
section
variable {P:Program} {w:World} {K:PySem.W.Frag} {mg:Str->Option Value} {base:Heap}
theorem ZbR:FnScope ["_law_script", "_law_many", "_law_left", "_law_still", "_law_stack", "_law_k", "_law_number", "_law_row_here", "_law_rows", "_law_given", "_law_due_here", "_law_gone", "_law_rooms", "_law_found"] ["_law_script"] (Zab ZjA):=⟨rfl,rfl,rfl,by decide +kernel,rfl,by decide +kernel,by decide +kernel⟩
theorem ok_law   {cAccount:Addr} {cJournal:Addr} {f:Addr} {fd:FuncData} (F:Fun K "law" "law" ZjA f fd) (tAccount:T_Account K mg cAccount) (tJournal:T_Journal K mg cJournal) (i_Account:ICal P w K mg base 1 "Account" cAccount (spInit K cAccount)) (i_Journal:ICal P w K mg base 1 "Journal" cJournal (ZjN cJournal)) (c_Lrow:Cal P w K mg base 2 "_law_row" (spRowL K)) (c_Ldue:Cal P w K mg base 2 "_law_due" (spDueL K)) (c_enter:Cal P w K mg base 49 "enter" (Zh6 K cAccount cJournal cSave cMove cNote)) (c_Ltold:Cal P w K mg base 2 "_law_told" (Zkh K)) (c_Lcell_at:Cal P w K mg base 1 "_law_cell_at" (Zkl K)) (n_range:mg "range" = none) (n_len:mg "len" = none) (n_int:mg "int" = none):FnOk P w K mg base CX0 50 f fd ["_law_script"] (spLaw K):=by
  refine F.ok (N:=["_law_script", "_law_many", "_law_left", "_law_still", "_law_stack", "_law_k", "_law_number", "_law_row_here", "_law_rows", "_law_given", "_law_due_here", "_law_gone", "_law_rooms", "_law_found"]) ZbR (fun vs H Q E h=>?_) (fun cdv A outer s H vs Q E hr h=>?_)
  . obtain ⟨a,ns,rfl,_⟩:=h; rfl
  . obtain ⟨a,ns,rfl,hS,hlen,k⟩:=h
    refine ⟨_,(Zac (ZaI (i:=1) ZbR.nd rfl (by first|exact Or.inl rfl|exact Or.inr rfl) (ZaN ZbS (ZaG c_Lcell_at (hr.mono (by decide)) rfl (Zaa (pv 0) (Zaa Zae Zaf))) Zae))
      (Zac (ZaI (i:=2) ZbR.nd rfl (by first|exact Or.inl rfl|exact Or.inr rfl) (ZaN ZbS (ZaG c_Lcell_at (hr.mono (by decide)) rfl (Zaa (pv 0) (Zaa Zae Zaf))) Zae))
      (Zac (ZaI (i:=3) ZbR.nd rfl (by first|exact Or.inl rfl|exact Or.inr rfl) (ZbG ZbF (ZaN ZbS (ZaG c_Lcell_at (hr.mono (by decide)) rfl (Zaa (pv 0) (Zaa Zae Zaf))) Zae) Zae (nomark _)))
      (Zac (ZaI (i:=4) ZbR.nd rfl (by first|exact Or.inl rfl|exact Or.inr rfl) (ZbT Zaf))
      (Zac (ZhG PassesOwn.never rfl (ZdK rfl n_range (Zaa (pv 1) Zaf)) (Zcc (i:=5) ZbR.nd rfl (by first|exact Or.inl rfl|exact Or.inr rfl))
      (Zac (ZaI (i:=6) ZbR.nd rfl (by first|exact Or.inl rfl|exact Or.inr rfl) (ZaG c_Lcell_at (hr.mono (by decide)) rfl (Zaa (pv 0) (Zaa (ZaN ZbA Zae (pv 5)) Zaf))))
      (Zad (ZaP (Zaq ZbF (ZaN ZbS (pv 6) Zae) Zae (nomark _)) (Zad (Zav (ZeM PySem.F.plainAttrs_list PySem.F.slot_list_append PySem.F.type_list_append Zbr (pv 4) (Zaa Zae Zaf)))) (Zad (Zav (ZeM PySem.F.plainAttrs_list PySem.F.slot_list_append PySem.F.type_list_append Zbr (pv 4) (Zaa (ZaN ZbA Zae (ZaN ZbS (ZaN ZeQ (pv 6) Zae) (ZaN ZdL (ZaN ZlN Zae Zae) Zae))) Zaf))))))))
      (Zac (ZaI (i:=7) ZbR.nd rfl (by first|exact Or.inl rfl|exact Or.inr rfl) (ZaG c_Lrow (hr.mono (by decide)) rfl (Zaa (ZaG c_Lcell_at (hr.mono (by decide)) rfl (Zaa (pv 0) (Zaa Zae Zaf))) (Zaa (pv 1) Zaf))))
      (Zac (ZaI (i:=8) ZbR.nd rfl (by first|exact Or.inl rfl|exact Or.inr rfl) (ZaN Zi7 (Zjc ["_law_number"] rfl (show CompScope (Zab ZjA) ["_law_script", "_law_many", "_law_left", "_law_still", "_law_stack", "_law_k", "_law_number", "_law_row_here", "_law_rows", "_law_given", "_law_due_here", "_law_gone", "_law_rooms", "_law_found"] ["_law_number"] _ from ⟨rfl,by decide +kernel,by decide +kernel,by decide +kernel,by decide +kernel,by decide +kernel⟩) (ZeI (pv 4)) (fun _ _ _ _ _=>(Zcc (i:=0) (show (["_law_number", "_law_script", "_law_many", "_law_left", "_law_still", "_law_stack", "_law_k", "", "_law_row_here", "_law_rows", "_law_given", "_law_due_here", "_law_gone", "_law_rooms", "_law_found"]:List Str).Nodup by decide +kernel) rfl (Or.inl rfl) (.inr rfl))) (fun _ _ _ _ _=>ZgH) (fun _ _ _ _ _=>(ZaT (Zaa Zas (Zaa (pv 0) Zaf))))) (ZbT (Zaa (pv 7) Zaf))))
      (Zac (ZaI (i:=9) ZbR.nd rfl (by first|exact Or.inl rfl|exact Or.inr rfl) (ZaN ZbA (pv 1) (pv 2)))
      (Zac (ZaI (i:=10) ZbR.nd rfl (by first|exact Or.inl rfl|exact Or.inr rfl) (ZaG c_Ldue (hr.mono (by decide)) rfl (Zaa (pv 7) (Zaa (pv 4) (Zaa (pv 2) (Zaa (pv 3) Zaf))))))
      (Zac (Zmq (i:=11) ["_law_k"] ZbR.nd rfl rfl rfl (show CompScope (Zab ZjA) ["_law_script", "_law_many", "_law_left", "_law_still", "_law_stack", "_law_k", "_law_number", "_law_row_here", "_law_rows", "_law_given", "_law_due_here", "_law_gone", "_law_rooms", "_law_found"] ["_law_k"] _ from ⟨rfl,by decide +kernel,by decide +kernel,by decide +kernel,by decide +kernel,by decide +kernel⟩) (ZdK rfl n_range (Zaa (ZaN ZbA (pv 1) (Zce ZdN rfl n_int PyProof.Rows.boot_int (Zaa (ZbG ZdM (Zay ZaF (pv 10) Zae (fun _ _=>rfl)) Zae (nomark _)) Zaf))) Zaf)) (fun _ _ _ _ _=>(Zcc (i:=0) (show (["_law_k", "_law_script", "_law_many", "_law_left", "_law_still", "_law_stack", "", "_law_number", "_law_row_here", "_law_rows", "_law_given", "_law_due_here", "_law_gone", "_law_rooms", "_law_found"]:List Str).Nodup by decide +kernel) rfl (Or.inl rfl) (.inr rfl))) (fun _ _ _ _ _=>ZgH) (fun _ _ _ _ _=>(pv 0)))
      (Zac (ZaI (i:=12) ZbR.nd rfl (by first|exact Or.inl rfl|exact Or.inr rfl) (ZaN op_rep (ZbT (Zaa Zca Zaf)) Zae))
      (Zac (ZhE (ZcE i_Account (hr.mono (by decide)) rfl (Zaa Zae (Zaa Zae (Zaa (pv 8) Zaf)))) (ZhD (pv 12) Zae ZdD))
      (Zac (ZhE (ZcE i_Account (hr.mono (by decide)) rfl (Zaa Zae (Zaa Zae (Zaa (ZbT (Zaa (ZaT (Zaa Zas (Zaa Zae Zaf))) (Zaa (ZaT (Zaa Zas (Zaa (pv 9) Zaf))) (Zaa (ZaT (Zaa Zas (Zaa Zae Zaf))) (Zaa (ZaT (Zaa Zas Zaf)) (Zaa (ZaT (Zaa Zas Zaf)) Zaf)))))) Zaf)))) (ZhD (pv 12) Zae ZdD))
      (Zac (ZaP (Zfy (Zcb (pv 3))) (Zac (ZaI (i:=13) ZbR.nd rfl (by first|exact Or.inl rfl|exact Or.inr rfl) (ZaG c_enter (hr.mono (by decide)) rfl (Zaa (pv 12) (Zaa (ZcE i_Journal (hr.mono (by decide)) rfl (Zaa (pv 12) Zaf)) (Zaa Zae (Zaa Zae (Zaa Zae (Zaa Zae (Zaa (pv 9) Zaf)))))))))
      (Zad (Zam (ZaG c_Ltold (hr.mono (by decide)) rfl (Zaa (pv 13) (Zaa (Zay ZaF (pv 10) Zae (fun _ _=>rfl)) (Zaa (Zay ZaF (pv 10) Zae (fun _ _=>rfl)) (Zaa (ZaN ZbA (pv 1) (Zay ZaF (pv 10) Zae (fun _ _=>rfl))) (Zaa (pv 11) Zaf))))))))) Zat)
      (Zac (ZaI (i:=13) ZbR.nd rfl (by first|exact Or.inl rfl|exact Or.inr rfl) (ZaG c_enter (hr.mono (by decide)) rfl (Zaa (pv 12) (Zaa (ZcE i_Journal (hr.mono (by decide)) rfl (Zaa (pv 12) Zaf)) (Zaa Zae (Zaa Zae (Zaa Zae (Zaa Zae (Zaa (ZaN ZbA (pv 9) Zae) Zaf)))))))))
      (Zac (ZaP (Zfy (Zcb (ZaG c_Ltold (hr.mono (by decide)) rfl (Zaa (pv 13) (Zaa Zas (Zaa Zae (Zaa (ZaN ZbA (ZaN ZbA Zae (pv 1)) (Zay ZaF (pv 10) Zae (fun _ _=>rfl))) (Zaa (ZbT (ZfV (vs:=[.int 0,.int 1,.int 2,.int 3,.int 4]) (by rfl))) Zaf)))))))) (Zad (Zam Zie)) Zat)
      (Zac (ZaP (Zaq ZfB (ZaR Zb9 rfl n_len PySem.boot_len (Zaa (Zay ZaF (pv 13) Zae (fun _ _=>rfl)) Zaf)) Zae (nomark _)) (Zad (Zam Zie)) Zat)
      (Zad (Zam (ZaG c_Ltold (hr.mono (by decide)) rfl (Zaa (Zay ix_seq (Zay ZaF (pv 13) Zae (fun _ _=>rfl)) Zae (fun _ _=>rfl)) (Zaa (Zay ZaF (pv 10) Zae (fun _ _=>rfl)) (Zaa (Zay ZaF (pv 10) Zae (fun _ _=>rfl)) (Zaa (ZaN ZbA (pv 1) (Zay ZaF (pv 10) Zae (fun _ _=>rfl))) (Zaa (pv 11) Zaf))))))))))))))))))))))))),?_⟩
    walk_at "nx"
    have ah0:Gw H H []:=Gw.start
    repeat walk_at "rdk"
    refine ⟨a,ns,0,rfl,by decide,hS,?_⟩
    repeat walk_at "rdk"
    obtain ⟨many,em,hm⟩:∃ z:Nat,cellF ns 0 % 25=(z:Int)/\z <= 24:=⟨(cellF ns 0 % 25).toNat,by omega,by omega⟩
    rw [em]
    refine ⟨a,ns,1,rfl,by decide,hS,?_⟩
    repeat walk_at "rdk"
    obtain ⟨left,el,hl0⟩:∃ z:Int,cellF ns 1 % 14=z/\0 <= z:=⟨_,rfl,by omega⟩
    rw [el]
    refine ⟨a,ns,2,rfl,by decide,hS,?_⟩
    repeat walk_at "rdk"
    obtain ⟨still,es⟩:∃ z:Bool,decide (cellF ns 2 % 2=1)=z:=⟨_,rfl⟩
    rw [es]
    clear em el es
    refine ⟨by show 0 <= sizeLine; decide,fun ST q_ST=>?_⟩
    generalize e_:upd _ ST _=aH1; have ah1:=ah0.newE q_ST e_; clear e_; repeat walk_at "rdk"
    have nST:=ah0.fresh q_ST
    refine ZhO (ZeR ?_)
    repeat walk_at "rdk"
    refine ⟨_,rfl,by omega,by omega,?_⟩
    rw [Int.toNat_natCast]
    refine ZfA (fun i σ' H'=>Same H H'/\∃ st v1 v2,H' ST=some (.lst (st.map V.int))/\st.length=i/\(∀ k ∈ st,Zfu k)/\σ'=[some (.ref a),some (.int (many:Int)),some (.int left),some (.bl still),some (.ref ST),v1,v2,none,none,none,none,none,none,none]) ⟨ah1.s,[],none,none,ah1.h.1,rfl,(fun _ h=>nomatch h),rfl⟩ ?_ ?_
    . rintro i σ' HA hi ⟨sA,st,v1,v2,eS,hl,hN,rfl⟩
      have lz:(st.map V.int).length < sizeLine:=by rw [List.length_map]; exact Nat.lt_of_le_of_lt (show _ <= 100 by omega) (by decide)
      repeat walk_at "rdk"
      refine ⟨a,ns,_,rfl,by omega,sA.seq hS,?_⟩
      repeat' walk_at "rdk"
      . refine ⟨ZbL (ZaE eS),?_⟩
        repeat walk_at "rdk"
        refine ZbC eS lz ?_
        repeat walk_at "rdk"
        refine ⟨sA.wr nST,st ++ [0],_,_,by rw [Zag,List.map_append]; rfl,by rw [Zbk,hl],fun k hk=>?_,rfl⟩
        rcases List.mem_append.1 hk with q|q
        . exact hN k q
        . rw [List.mem_singleton] at q; rw [q]; exact ⟨.inl rfl,by decide⟩
      . refine ⟨ZbL (ZaE eS),?_⟩
        repeat walk_at "rdk"
        rw [p64L]
        repeat walk_at "rdk"
        refine ZbC eS lz ?_
        repeat walk_at "rdk"
        refine ⟨sA.wr nST,st ++ [_],_,_,by rw [Zag,List.map_append]; rfl,by rw [Zbk,hl],fun k hk=>?_,rfl⟩
        rcases List.mem_append.1 hk with q|q
        . exact hN k q
        . rw [List.mem_singleton] at q; rw [q]; exact ZlK _
    rintro σ1 H1 ⟨s1,st,v1,v2,eST,hlst,hN,rfl⟩
    repeat walk_at "rdk"
    refine ⟨a,ns,3,rfl,by decide,s1.seq hS,?_⟩
    repeat walk_at "rdk"
    refine ⟨_,many,rfl,fun RT w n H2 s2 q_RT hRK eRT=>?_⟩
    have s12:=s1.trans s2
    have eST2:=s2 _ _ eST
    repeat walk_at "rdk"
    refine ZgJ (ZdE ?_)
    repeat walk_at "rdk"
    refine ⟨ST,rfl,⟨_,ZaE eST2⟩,fun RL q_RL=>?_⟩
    refine Zf1 (xs:=st.map V.int) (fun i H'=>Same H2 H'/\∃ xs,H' RL=some (.lst xs)/\RowsAt K H' ((st.take i).map (rw1 "push")) xs) ⟨Same.new q_RL,[],Zag,RowsAt.nil⟩ (fun i H' ⟨s,_⟩=>ZaE (s _ _ eST2)) ?_ ?_
    . rintro i x H' hx ⟨s3,xs,hv,hR⟩
      obtain ⟨hi,_⟩:=List.getElem?_eq_some_iff.mp hx
      rw [List.length_map] at hi
      rw [List.getElem?_map] at hx
      obtain ⟨c,hc,rfl⟩:=Option.map_eq_some_iff.mp hx
      refine Zjv ?_
      refine iteT ?_
      repeat walk_at "rdk"
      refine ⟨show 2 <= sizeLine by decide,fun t ht=>?_⟩
      have s4:=Same.new ht (o:=.tup [.str "push", .int c])
      have e4:=s4 _ _ hv
      have hyl:=hR.1
      rw [List.length_map,List.length_take] at hyl
      refine ⟨xs,e4,Nat.lt_of_lt_of_le (show xs.length < 128 by omega) (by decide),⟨(s3.trans s4).wr q_RL,xs ++ [.ref t],Zag,?_⟩,_,rfl⟩
      rw [show st.take (i + 1)=st.take i ++ [c] by rw [List.take_add_one,hc]; rfl,List.map_append]
      exact ((hR.keep s4.imm).snoc ⟨t,rfl,ZgI⟩).keep (SameI.upd e4 ZbB)
    rintro H3 ⟨s3,xs,eRL,hR⟩
    rw [List.length_map,List.take_length] at hR
    have eRT3:=s3 _ _ eRT
    have eST3:=s3 _ _ eST2
    have s13:=s12.trans s3
    have hxl:xs.length <= 24:=by have:=hR.1; rw [List.length_map] at this; omega
    have bh0:Gw H3 H3 []:=Gw.start
    repeat walk_at "rdk"
    refine ⟨by show 1 <= sizeLine; decide,fun R1 q_R1=>?_⟩
    generalize e_:upd _ R1 _=bH1; have bh1:=bh0.newE q_R1 e_; clear e_; repeat walk_at "rdk"
    refine Zjf (bh1.s _ _ eRL) bh1.h.1 (Nat.le_trans (Nat.add_le_add_right hxl 1) (by decide)) fun RW q_RW=>?_
    generalize e_:upd _ RW _=bH2; have bh2:=bh1.newE q_RW e_; clear e_; repeat walk_at "rdk"
    refine ⟨RT,ST,w,n,st,left,still,rfl,Zbg (bh2.s _ _ eRT3),ZaE (bh2.s _ _ eST3),rk_num hRK,fun DT H4 s4 eDT=>?_⟩
    have eRW4:=s4 _ _ bh2.h.1
    have hRW4:RowsAt K H4 (prg33 st w n) (xs ++ [.ref RT]):=((hR.keep (bh2.s.trans s4).imm).snoc (r:=(w,n)) ⟨RT,rfl,Zbg (s4 _ _ (bh2.s _ _ eRT3))⟩)
    have sD:=s13.trans (bh2.s.trans s4)
    have db:=due_b w n st left still hl0
    have inn:=fun (Ar:Nat->Option AcI) (S0:Nat->AcS) (ac:AcI) (kind:Str) (dep:Int) (h1:Ar 5=some ac) (h2:Ar 0=none) (h3:∀ p,(S0 5).store p=0) (h4:(S0 5).rows=prg33 st w n) (n0:Nat)=>Zm9 (still:=still) (n0:=n0) kind dep h1 h2 h3 h4 hlst hm hN hRK hl0
    generalize due33 w n st left still=dq at eDT db inn
    obtain ⟨e0,a0,c0⟩:=dq
    have eDT:H4 DT=some (.tup [.str e0,.int a0,.int c0]):=eDT
    have db:0 <= c0/\c0 <= left:=db
    clear eRT3 eST3 hR eRL eST2 eST eRT hN hRK
    repeat walk_at "rdk"
    refine ZgJ (ZeR ?_)
    repeat walk_at "rdk"
    refine .inr ⟨_,rfl,?_⟩
    repeat walk_at "rdk"
    have e01:(many:Int) + (if decide (0 < c0)=true then (1:Int) else 0)=((many + (if 0 < c0 then 1 else 0):Nat):Int):=by
      by_cases q:0 < c0
      . rw [if_pos (decide_eq_true q),if_pos q]; rfl
      . rw [if_neg (by rw [decide_eq_false q]; decide),if_neg q]; rfl
    have b01:many + (if 0 < c0 then 1 else 0) <= 25:=by split <;> omega
    rw [e01]
    refine ⟨_,rfl,by omega,by omega,fun GL q_GL=>?_⟩
    rw [Int.toNat_natCast]
    refine Zip (ys:=(gone33 many c0).map V.int) q_GL (by unfold gone33; rw [List.length_map,List.length_map,List.length_range]) (Nat.le_trans b01 (by decide)) ?_ ?_
    . intro i y H' Q' hi hy sm q'
      unfold gone33 at hy
      rw [List.getElem?_map,List.getElem?_map,List.getElem?_range hi] at hy
      cases hy
      repeat walk_at "rdk"
      rw [Int.zero_add]
      exact q'
    have dh0:Gw H4 H4 []:=Gw.start
    generalize e_:upd _ GL _=dH1; have dh1:=dh0.newE q_GL e_; clear e_; repeat walk_at "rdk"
    have eGL:=dh1.h.1
    have eRW5:=dh1.s _ _ eRW4
    have hRW5:=hRW4.keep dh1.s.imm
    have eDT5:=dh1.s _ _ eDT
    clear eRW4 hRW4 eDT
    have fh0:Gw dH1 dH1 []:=Gw.start
    repeat walk_at "rdk"
    refine ⟨by show 1 <= sizeLine; decide,fun z q_z=>?_⟩
    generalize e_:upd _ z _=fH1; have fh1:=fh0.newE q_z e_; clear e_; repeat walk_at "rdk"
    refine ⟨z,16,[.non],rfl,rfl,fh1.h.1,by decide,by decide,by decide,fun R q_R=>?_⟩
    have nR:=fh1.fresh q_R
    generalize e_:upd _ R _=fH2; have fh2:=fh1.newE q_R e_; clear e_; repeat walk_at "rdk"
    have r0:Rooms K cAccount fH2 R (fun _=>none) (fun _=>⟨0,0,0,[],fun _=>0⟩) 0:=Rooms.empty fh2.h.1 _
    have np0:∀ j y,j < 16->(fun _=>none:Nat->Option AcI) j=some y->y.pr ≠ R:=fun _ _ _ h=>(nomatch h)
    have sB0:=fh2.s
    have v0h0:Gw fH2 fH2 []:=Gw.start
    have v0h0:=v0h0.add (sB0 _ _ eRW5)
    repeat walk_at "rdk"
    intro x5 dx5 hx5 hdx5 hnx5
    have tx5:(upd fH2 dx5 (.own x5)) x5=none:=by rw [Zai (Ne.symm hnx5)]; exact hx5
    have mx5:Same fH2 (upd (upd fH2 dx5 (.own x5)) x5 (.ins cAccount dx5 [])):=(Same.new hdx5).newT tx5
    refine ⟨x5,dx5,RW,0,9,_,(prg33 st w n),rfl,Zag,mx5.seq (ZaE v0h0.h.1),RowsAt.keep (hRW5.keep sB0.imm) mx5.imm,fun px5 sx5 Ix5 hpx5 hsx5 _ ax5 kx5=>⟨rfl,?_⟩⟩
    have nx5:Same fH2 Ix5:=fun b o e=>kx5 b o (mx5 _ _ e) (Zaj e hx5)
    have gx5:=v0h0.s
    have zx5:=sB0.trans (gx5.trans nx5)
    repeat walk_at "rdk"
    refine ZeT (nx5 _ _ (gx5 _ _ r0.ob)) (ZgL (j:=5) rfl (by rw [List.length_map,List.length_range]; exact (show 5 < 16 by decide))) ?_
    obtain ⟨J1,eJ1,r1,np1,sB1,kB1⟩:=(r0.same gx5).put nR (sB0.trans gx5) (a:=x5) (show 5 < 16 by decide) np0 nx5 hx5 (mx5.fresh hpx5) (mx5.fresh hsx5) ax5
    rw [eJ1]
    clear eJ1
    have v1h0:Gw J1 J1 []:=Gw.start
    repeat walk_at "rdk"
    refine ⟨by show 2 <= sizeLine; decide,fun a0 q_a0=>?_⟩
    generalize e_:upd _ a0 _=v1H1; have v1h1:=v1h0.newE q_a0 e_; clear e_; repeat walk_at "rdk"
    refine ⟨by show 2 <= sizeLine; decide,fun a1 q_a1=>?_⟩
    generalize e_:upd _ a1 _=v1H2; have v1h2:=v1h1.newE q_a1 e_; clear e_; repeat walk_at "rdk"
    refine ⟨by show 2 <= sizeLine; decide,fun a2 q_a2=>?_⟩
    generalize e_:upd _ a2 _=v1H3; have v1h3:=v1h2.newE q_a2 e_; clear e_; repeat walk_at "rdk"
    refine ⟨by show 1 <= sizeLine; decide,fun a3 q_a3=>?_⟩
    generalize e_:upd _ a3 _=v1H4; have v1h4:=v1h3.newE q_a3 e_; clear e_; repeat walk_at "rdk"
    refine ⟨by show 1 <= sizeLine; decide,fun a4 q_a4=>?_⟩
    generalize e_:upd _ a4 _=v1H5; have v1h5:=v1h4.newE q_a4 e_; clear e_; repeat walk_at "rdk"
    refine ⟨by show 5 <= sizeLine; decide,fun la q_la=>?_⟩
    generalize e_:upd _ la _=v1H6; have v1h6:=v1h5.newE q_la e_; clear e_; repeat walk_at "rdk"
    intro x3 dx3 hx3 hdx3 hnx3
    have tx3:(upd v1H6 dx3 (.own x3)) x3=none:=by rw [Zai (Ne.symm hnx3)]; exact hx3
    have mx3:Same v1H6 (upd (upd v1H6 dx3 (.own x3)) x3 (.ins cAccount dx3 [])):=(Same.new hdx3).newT tx3
    refine ⟨x3,dx3,la,0,9,_,[rw1 "push" 5,rw1 "push" ((many:Int) + left),rw1 "push" 8,rw0 "look", rw0 "drop"],rfl,Zag,mx3.seq (ZaE v1h6.h.1),RowsAt.keep (RowsAt.cons ⟨_,rfl,Zbg v1h6.h.2.2.2.2.2.1⟩ (RowsAt.cons ⟨_,rfl,Zbg v1h6.h.2.2.2.2.1⟩ (RowsAt.cons ⟨_,rfl,Zbg v1h6.h.2.2.2.1⟩ (RowsAt.cons ⟨_,rfl,Zbg v1h6.h.2.2.1⟩ (RowsAt.cons ⟨_,rfl,Zbg v1h6.h.2.1⟩ RowsAt.nil))))) mx3.imm,fun px3 sx3 Ix3 hpx3 hsx3 _ ax3 kx3=>⟨rfl,?_⟩⟩
    have nx3:Same v1H6 Ix3:=fun b o e=>kx3 b o (mx3 _ _ e) (Zaj e hx3)
    have gx3:=v1h6.s
    have zx3:=sB1.trans (gx3.trans nx3)
    repeat walk_at "rdk"
    refine ZeT (nx3 _ _ (gx3 _ _ r1.ob)) (ZgL (j:=3) rfl (by rw [List.length_map,List.length_range]; exact (show 3 < 16 by decide))) ?_
    obtain ⟨J2,eJ2,r2,np2,sB2,kB2⟩:=(r1.same gx3).put nR (sB1.trans gx3) (a:=x3) (show 3 < 16 by decide) np1 nx3 hx3 (mx3.fresh hpx3) (mx3.fresh hsx3) ax3
    rw [eJ2]
    clear eJ2
    have v2h0:Gw J2 J2 []:=Gw.start
    obtain ⟨Ar,S0,rr,⟨y5,hA5⟩,⟨y3,hA3⟩,hA0,hr5,hr3,hs0⟩:∃ Ar S0,Rooms K cAccount J2 R Ar S0 0/\(∃ y,Ar 5=some y)/\(∃ y,Ar 3=some y)/\Ar 0=none/\(S0 5).rows=prg33 st w n/\(S0 3).rows=[rw1 "push" 5,rw1 "push" ((many:Int) + left),rw1 "push" 8,rw0 "look", rw0 "drop"]/\∀ i p,(S0 i).store p=0:=⟨_,_,r2,⟨_,by rw [Zhv _ _ (by decide),Zgy]⟩,⟨_,by rw [Zgy]⟩,by rw [Zhv _ _ (by decide),Zhv _ _ (by decide)],by rw [ZmW _ _ (by decide),Zd3],by rw [Zd3],fun i q=>by
      unfold setS
      repeat (split <;> try rfl)⟩
    have fGL:=sB2 _ _ eGL
    have fDT:=sB2 _ _ eDT5
    clear eGL eDT5
    cases still with
    | false =>
      repeat walk_at "rdk"
      intro j jdx hj hjdx hnej
      have hj2:(upd J2 jdx (.own j)) j=none:=by rw [Zai (Ne.symm hnej)]; exact hj
      have sj:Same J2 (upd (upd J2 jdx (.own j)) j (.ins cJournal jdx [])):=(Same.new hjdx).newT hj2
      refine ⟨j,jdx,R,rfl,Zag,fun L hL=>⟨rfl,?_⟩⟩
      have hL12:=sj.fresh hL
      have nLj:L ≠ j:=fun q=>by rw [q,Zag] at hL; cases hL
      have s13:Same J2 (upd (upd (upd (upd J2 jdx (.own j)) j (.ins cJournal jdx [])) L (.lst [])) j (.ins cJournal jdx (jF R L))):=fun b o e=>by
        rw [Zai (Zaj e hj),Zai (Zaj e hL12)]; exact sj b o e
      have J13:Jr cJournal cSave cMove cNote (upd (upd (upd (upd J2 jdx (.own j)) j (.ins cJournal jdx [])) L (.lst [])) j (.ins cJournal jdx (jF R L))) j jdx R L Ar []:=⟨Zag,by rw [Zai nLj,Zag]; rfl,fun _ h=>(nomatch h),Ne.symm (Zaj rr.ob hL12),fun i y hi hy=>by obtain ⟨xs,e1,_⟩:=(rr.ac i y hi hy).pg; exact Ne.symm (Zaj e1 hL12)⟩
      generalize upd (upd (upd (upd J2 jdx (.own j)) j (.ins cJournal jdx [])) L (.lst [])) j _=H13 at s13 J13
      have W13:Wd K cAccount cJournal cSave cMove cNote H13 j jdx R L Ar S0 0 []:=⟨⟨[],rfl,J13⟩,rr.same s13,trivial,fun i=>⟨[],by decide,fun p hp=>absurd (hs0 i p) hp⟩,by decide⟩
      repeat walk_at "rdk"
      obtain ⟨dsF,yF,sF,hG,hf,ha,hu,hi,ho,hsl,hdl⟩:=inn Ar S0 y5 "call" 1 hA5 hA0 (hs0 5) hr5 9
      refine ⟨j,jdx,R,L,Ar,S0,0,[],3,5,0,8,(many:Int) + left,_,yF,sF,rfl,W13,hG,fun pF HF WF SF2 kF=>?_⟩
      have kD:=Zid rr s13 hL12 kF
      have tDT:=kD.t fDT
      have dF:=SF2.dv
      repeat walk_at "rdk"
      refine ⟨GL,_,yF,sF,e0,gone33 many c0,by rw [ha,hu],dF,hf,ho,by omega,hi,ZaE (kD.l fGL),fun H' _=>?_⟩
      repeat walk_at "rdk"
      exact k _
    | true =>
      repeat walk_at "rdk"
      intro j jdx hj hjdx hnej
      have hj2:(upd J2 jdx (.own j)) j=none:=by rw [Zai (Ne.symm hnej)]; exact hj
      have sj:Same J2 (upd (upd J2 jdx (.own j)) j (.ins cJournal jdx [])):=(Same.new hjdx).newT hj2
      refine ⟨j,jdx,R,rfl,Zag,fun L hL=>⟨rfl,?_⟩⟩
      have hL12:=sj.fresh hL
      have nLj:L ≠ j:=fun q=>by rw [q,Zag] at hL; cases hL
      have s13:Same J2 (upd (upd (upd (upd J2 jdx (.own j)) j (.ins cJournal jdx [])) L (.lst [])) j (.ins cJournal jdx (jF R L))):=fun b o e=>by
        rw [Zai (Zaj e hj),Zai (Zaj e hL12)]; exact sj b o e
      have J13:Jr cJournal cSave cMove cNote (upd (upd (upd (upd J2 jdx (.own j)) j (.ins cJournal jdx [])) L (.lst [])) j (.ins cJournal jdx (jF R L))) j jdx R L Ar []:=⟨Zag,by rw [Zai nLj,Zag]; rfl,fun _ h=>(nomatch h),Ne.symm (Zaj rr.ob hL12),fun i y hi hy=>by obtain ⟨xs,e1,_⟩:=(rr.ac i y hi hy).pg; exact Ne.symm (Zaj e1 hL12)⟩
      generalize upd (upd (upd (upd J2 jdx (.own j)) j (.ins cJournal jdx [])) L (.lst [])) j _=H13 at s13 J13
      have W13:Wd K cAccount cJournal cSave cMove cNote H13 j jdx R L Ar S0 0 []:=⟨⟨[],rfl,J13⟩,rr.same s13,trivial,fun i=>⟨[],by decide,fun p hp=>absurd (hs0 i p) hp⟩,by decide⟩
      repeat walk_at "rdk"
      obtain ⟨dsI,y1,s1',hG1,hf1,ha1,hu1,hi1,ho1,hsl1,hdl1⟩:=inn Ar S0 y5 "look" 2 hA5 hA0 (hs0 5) hr5 8
      have hu1:y1.used=(many:Int) + c0:=hu1
      obtain ⟨yF,hG,hf,ha,hu⟩:=Zna hA5 hA3 hr3 hG1 hf1 hu1 (by omega) (by omega) hdl1
      refine ⟨j,jdx,R,L,Ar,S0,0,[],5,3,0,1,(many:Int) + left + 10,_,yF,_,rfl,W13,hG,fun pF HF WF SF2 kF=>?_⟩
      have kD:=Zid rr s13 hL12 kF
      have tDT:=kD.t fDT
      have tGL:=kD.l fGL
      have dF:=SF2.dv
      repeat walk_at "rdk"
      have z0:Gw HF HF []:=Gw.start
      refine ⟨by show 5 <= sizeLine; decide,fun G5 q_G5=>?_⟩
      generalize e_:upd _ G5 _=Z1; have z1:=z0.newE q_G5 e_; clear e_; repeat walk_at "rdk"
      refine ⟨G5,_,yF,_, "well", [0,1,2,3,4],by rw [ha,hu,<- Int.add_assoc],dF.keep z1.s,hf,ok6 trivial,by show 6 <= 100; decide,rfl,ZaE z1.h.1,fun H5 s5=>?_⟩
      obtain ⟨T,ys,L6,ws,hv6,hT,l11,a7,a8,a9,a10,hL6,dL6⟩:=ZeF (dF.keep (z1.s.trans s5)) hf
      cases hv6
      have uDT:=s5 _ _ (z1.s _ _ tDT)
      have uGL:=s5 _ _ (z1.s _ _ tGL)
      have lw:6=ws.length:=dL6.length
      repeat walk_at "rdz"
      refine ZbY hT a10 ?_
      repeat walk_at "rdz"
      all_goals try (exfalso; omega)
      obtain ⟨v4,e4⟩:∃ v4,ws[4]?=some v4:=⟨_,List.getElem?_eq_getElem (by omega)⟩
      have d4:DV K H5 (treeD y1 s1') v4:=dL6.get (i:=4) rfl e4
      refine ZbY hT a10 ?_
      repeat walk_at "rdz"
      refine .inl (Za8 hL6 (ZeJ e4) ?_)
      repeat walk_at "rdz"
      refine ⟨GL,v4,y1,s1',e0,gone33 many c0,by rw [ha1,hu1],d4,hf1,ho1,by omega,hi1,ZaE uGL,fun H' _=>?_⟩
      repeat walk_at "rdz"
      exact k _
end
section
variable {P:Program} {w:World} {K:PySem.W.Frag} {mg:Str->Option Value} {base:Heap}
theorem Znc {h:Heap} {aT:Addr} {es:Array DictEntry} {ep:Nat} {l:List (Str × Tok × Value)} {a1 a2 a3 a4 a5 a6 a7 a8 a9 a10 a11 a12 a13 a14 a15 a16 a17 a18 a19 a20 a21 a22 a23 a24 a25 a26 a27 a28 a29 a30 a31:Addr} (X:K.In h) (G:h.Ns mainGlobals mg) (a:PySem.W.nsIn K mainGlobals "ROWS" = some (some (.ref aT))) (lk:K.lookup aT=some ⟨.type "dict", none,.dict es ep,#[]⟩)
    (he:entsOf es=l) (h2:es=(l.map (sEnt w)).toArray) (h3:l.map (fun p=>(p.1,p.2.2))=[(("push" : Str),Value.ref a1),(("drop" : Str),Value.ref a2),(("copy" : Str),Value.ref a3),(("swap" : Str),Value.ref a4),(("add" : Str),Value.ref a5),(("minus" : Str),Value.ref a6),(("times" : Str),Value.ref a7),(("over" : Str),Value.ref a8),(("rest" : Str),Value.ref a9),(("below" : Str),Value.ref a10),(("same" : Str),Value.ref a11),(("both" : Str),Value.ref a12),(("either" : Str),Value.ref a13),(("unlike" : Str),Value.ref a14),(("up" : Str),Value.ref a15),(("down" : Str),Value.ref a16),(("jump" : Str),Value.ref a17),(("jumpif" : Str),Value.ref a18),(("load" : Str),Value.ref a19),(("save" : Str),Value.ref a20),(("me" : Str),Value.ref a21),(("from" : Str),Value.ref a22),(("sent" : Str),Value.ref a23),(("word" : Str),Value.ref a24),(("coin" : Str),Value.ref a25),(("note" : Str),Value.ref a26),(("call" : Str),Value.ref a27),(("borrow" : Str),Value.ref a28),(("look" : Str),Value.ref a29),(("give" : Str),Value.ref a30),(("fail" : Str),Value.ref a31)])
    (t1:TupK K a1 [.int 0,.int 1,.int 1,.int 1]) (t2:TupK K a2 [.int 1,.int 0,.int 1,.int 1]) (t3:TupK K a3 [.int 1,.int 2,.int 1,.int 1]) (t4:TupK K a4 [.int 1,.int 1,.int 1,.int 1]) (t5:TupK K a5 [.int 2,.int 1,.int 1,.int 1]) (t6:TupK K a6 [.int 2,.int 1,.int 1,.int 1]) (t7:TupK K a7 [.int 2,.int 1,.int 2,.int 2]) (t8:TupK K a8 [.int 2,.int 1,.int 2,.int 2]) (t9:TupK K a9 [.int 2,.int 1,.int 2,.int 2]) (t10:TupK K a10 [.int 2,.int 1,.int 1,.int 1]) (t11:TupK K a11 [.int 2,.int 1,.int 1,.int 1]) (t12:TupK K a12 [.int 2,.int 1,.int 1,.int 1]) (t13:TupK K a13 [.int 2,.int 1,.int 1,.int 1]) (t14:TupK K a14 [.int 2,.int 1,.int 1,.int 1]) (t15:TupK K a15 [.int 2,.int 1,.int 1,.int 1]) (t16:TupK K a16 [.int 2,.int 1,.int 1,.int 1]) (t17:TupK K a17 [.int 0,.int 0,.int 1,.int 1]) (t18:TupK K a18 [.int 1,.int 0,.int 1,.int 1]) (t19:TupK K a19 [.int 1,.int 1,.int 3,.int 3]) (t20:TupK K a20 [.int 2,.int 0,.int 5,.int 12]) (t21:TupK K a21 [.int 0,.int 1,.int 1,.int 1]) (t22:TupK K a22 [.int 0,.int 1,.int 1,.int 1]) (t23:TupK K a23 [.int 0,.int 1,.int 1,.int 1]) (t24:TupK K a24 [.int 0,.int 1,.int 1,.int 1]) (t25:TupK K a25 [.int 1,.int 1,.int 3,.int 3]) (t26:TupK K a26 [.int 1,.int 0,.int 4,.int 4]) (t27:TupK K a27 [.int 4,.int 2,.int 8,.int 12]) (t28:TupK K a28 [.int 3,.int 2,.int 6,.int 6]) (t29:TupK K a29 [.int 3,.int 2,.int 6,.int 6]) (t30:TupK K a30 [.int 1,.int 0,.int 1,.int 1]) (t31:TupK K a31 [.int 1,.int 0,.int 1,.int 1]):∃ aT:Addr,ZaV mg "ROWS" (.ref aT)/\Zf8 P w K aT:=by
  subst he
  have d:=ZdT (P:=P) (w:=w) lk h2 (by
    have e:(entsOf es).map (·.1)=((entsOf es).map (fun p=>(p.1,p.2.2))).map (·.1):=by rw [List.map_map]; rfl
    rw [e,h3]
    show (["push", "drop", "copy", "swap", "add", "minus", "times", "over", "rest", "below", "same", "both", "either", "unlike", "up", "down", "jump", "jumpif", "load", "save", "me", "from", "sent", "word", "coin", "note", "call", "borrow", "look", "give", "fail"]:List Str).Nodup
    decide +kernel)
  have e:((entsOf es).map fun p=>((Sum.inr p.1:Key),p.2.2))=((entsOf es).map (fun p=>(p.1,p.2.2))).map fun q=>((Sum.inr q.1:Key),q.2):=by rw [List.map_map]; rfl
  rw [e,h3] at d
  refine ⟨aT,Zcs X G a,_,d,fun x t l p dd hx=>?_⟩
  have hm:=ZcS hx
  simp only [RT,List.mem_cons,Prod.mk.injEq,List.not_mem_nil,or_false] at hm
  rcases hm with ⟨rfl,rfl,rfl,rfl,rfl⟩|⟨rfl,rfl,rfl,rfl,rfl⟩|⟨rfl,rfl,rfl,rfl,rfl⟩|⟨rfl,rfl,rfl,rfl,rfl⟩|⟨rfl,rfl,rfl,rfl,rfl⟩|⟨rfl,rfl,rfl,rfl,rfl⟩|⟨rfl,rfl,rfl,rfl,rfl⟩|⟨rfl,rfl,rfl,rfl,rfl⟩|⟨rfl,rfl,rfl,rfl,rfl⟩|⟨rfl,rfl,rfl,rfl,rfl⟩|⟨rfl,rfl,rfl,rfl,rfl⟩|⟨rfl,rfl,rfl,rfl,rfl⟩|⟨rfl,rfl,rfl,rfl,rfl⟩|⟨rfl,rfl,rfl,rfl,rfl⟩|⟨rfl,rfl,rfl,rfl,rfl⟩|⟨rfl,rfl,rfl,rfl,rfl⟩|⟨rfl,rfl,rfl,rfl,rfl⟩|⟨rfl,rfl,rfl,rfl,rfl⟩|⟨rfl,rfl,rfl,rfl,rfl⟩|⟨rfl,rfl,rfl,rfl,rfl⟩|⟨rfl,rfl,rfl,rfl,rfl⟩|⟨rfl,rfl,rfl,rfl,rfl⟩|⟨rfl,rfl,rfl,rfl,rfl⟩|⟨rfl,rfl,rfl,rfl,rfl⟩|⟨rfl,rfl,rfl,rfl,rfl⟩|⟨rfl,rfl,rfl,rfl,rfl⟩|⟨rfl,rfl,rfl,rfl,rfl⟩|⟨rfl,rfl,rfl,rfl,rfl⟩|⟨rfl,rfl,rfl,rfl,rfl⟩|⟨rfl,rfl,rfl,rfl,rfl⟩|⟨rfl,rfl,rfl,rfl,rfl⟩
  . exact ⟨_,rfl,t1⟩
  . exact ⟨_,rfl,t2⟩
  . exact ⟨_,rfl,t3⟩
  . exact ⟨_,rfl,t4⟩
  . exact ⟨_,rfl,t5⟩
  . exact ⟨_,rfl,t6⟩
  . exact ⟨_,rfl,t7⟩
  . exact ⟨_,rfl,t8⟩
  . exact ⟨_,rfl,t9⟩
  . exact ⟨_,rfl,t10⟩
  . exact ⟨_,rfl,t11⟩
  . exact ⟨_,rfl,t12⟩
  . exact ⟨_,rfl,t13⟩
  . exact ⟨_,rfl,t14⟩
  . exact ⟨_,rfl,t15⟩
  . exact ⟨_,rfl,t16⟩
  . exact ⟨_,rfl,t17⟩
  . exact ⟨_,rfl,t18⟩
  . exact ⟨_,rfl,t19⟩
  . exact ⟨_,rfl,t20⟩
  . exact ⟨_,rfl,t21⟩
  . exact ⟨_,rfl,t22⟩
  . exact ⟨_,rfl,t23⟩
  . exact ⟨_,rfl,t24⟩
  . exact ⟨_,rfl,t25⟩
  . exact ⟨_,rfl,t26⟩
  . exact ⟨_,rfl,t27⟩
  . exact ⟨_,rfl,t28⟩
  . exact ⟨_,rfl,t29⟩
  . exact ⟨_,rfl,t30⟩
  . exact ⟨_,rfl,t31⟩
theorem Znd {h:Heap} {aS:Addr} {es:Array DictEntry} {ep:Nat} {l:List (Str × Tok × Value)} {u1 u2 u3 u4 u5 u6 u7 u8 u9 u10 u11 u12:Value} (X:K.In h) (G:h.Ns mainGlobals mg) (a:PySem.W.nsIn K mainGlobals "SUMS" = some (some (.ref aS))) (lk:K.lookup aS=some ⟨.type "dict", none,.dict es ep,#[]⟩)
    (he:entsOf es=l) (h2:es=(l.map (sEnt w)).toArray) (h3:l.map (fun p=>(p.1,p.2.2))=[(("add" : Str),u1),(("minus" : Str),u2),(("times" : Str),u3),(("over" : Str),u4),(("rest" : Str),u5),(("below" : Str),u6),(("same" : Str),u7),(("both" : Str),u8),(("either" : Str),u9),(("unlike" : Str),u10),(("up" : Str),u11),(("down" : Str),u12)])
    (a1:PySem.W.nsIn K mainGlobals "added" = some (some u1)) (a2:PySem.W.nsIn K mainGlobals "lessened" = some (some u2)) (a3:PySem.W.nsIn K mainGlobals "multiplied" = some (some u3)) (a4:PySem.W.nsIn K mainGlobals "contained" = some (some u4)) (a5:PySem.W.nsIn K mainGlobals "left_over" = some (some u5)) (a6:PySem.W.nsIn K mainGlobals "is_below" = some (some u6)) (a7:PySem.W.nsIn K mainGlobals "is_same" = some (some u7)) (a8:PySem.W.nsIn K mainGlobals "in_both" = some (some u8)) (a9:PySem.W.nsIn K mainGlobals "in_either" = some (some u9)) (a10:PySem.W.nsIn K mainGlobals "in_just_one" = some (some u10)) (a11:PySem.W.nsIn K mainGlobals "doubled" = some (some u11)) (a12:PySem.W.nsIn K mainGlobals "halved" = some (some u12)):∃ (aS:Addr) (u1 u2 u3 u4 u5 u6 u7 u8 u9 u10 u11 u12:Value),ZaV mg "SUMS" (.ref aS)/\ZcT P w K aS [(Sum.inr "add", u1),(Sum.inr "minus", u2),(Sum.inr "times", u3),(Sum.inr "over", u4),(Sum.inr "rest", u5),(Sum.inr "below", u6),(Sum.inr "same", u7),(Sum.inr "both", u8),(Sum.inr "either", u9),(Sum.inr "unlike", u10),(Sum.inr "up", u11),(Sum.inr "down", u12)]/\mg "added" = some u1/\mg "lessened" = some u2/\mg "multiplied" = some u3/\mg "contained" = some u4/\mg "left_over" = some u5/\mg "is_below" = some u6/\mg "is_same" = some u7/\mg "in_both" = some u8/\mg "in_either" = some u9/\mg "in_just_one" = some u10/\mg "doubled" = some u11/\mg "halved" = some u12:=by
  subst he
  refine ⟨aS,u1,u2,u3,u4,u5,u6,u7,u8,u9,u10,u11,u12,Zcs X G a,?_,PySem.W.mg_of X G a1,PySem.W.mg_of X G a2,PySem.W.mg_of X G a3,PySem.W.mg_of X G a4,PySem.W.mg_of X G a5,PySem.W.mg_of X G a6,PySem.W.mg_of X G a7,PySem.W.mg_of X G a8,PySem.W.mg_of X G a9,PySem.W.mg_of X G a10,PySem.W.mg_of X G a11,PySem.W.mg_of X G a12⟩
  have d:=ZdT (P:=P) (w:=w) lk h2 (by
    have e:(entsOf es).map (·.1)=((entsOf es).map (fun p=>(p.1,p.2.2))).map (·.1):=by rw [List.map_map]; rfl
    rw [e,h3]
    show (["add", "minus", "times", "over", "rest", "below", "same", "both", "either", "unlike", "up", "down"]:List Str).Nodup
    decide +kernel)
  have e:((entsOf es).map fun p=>((Sum.inr p.1:Key),p.2.2))=((entsOf es).map (fun p=>(p.1,p.2.2))).map fun q=>((Sum.inr q.1:Key),q.2):=by rw [List.map_map]; rfl
  rw [e,h3] at d
  exact d
theorem do_at {h:Heap} {aD:Addr} {es:Array DictEntry} {ep:Nat} {l:List (Str × Tok × Value)} {u1 u2 u3 u4 u5 u6 u7 u8 u9 u10 u11 u12 u13 u14 u15 u16 u17:Value} (X:K.In h) (G:h.Ns mainGlobals mg) (a:PySem.W.nsIn K mainGlobals "DOINGS" = some (some (.ref aD))) (lk:K.lookup aD=some ⟨.type "dict", none,.dict es ep,#[]⟩)
    (he:entsOf es=l) (h2:es=(l.map (sEnt w)).toArray) (h3:l.map (fun p=>(p.1,p.2.2))=[(("push" : Str),u1),(("drop" : Str),u2),(("copy" : Str),u3),(("swap" : Str),u4),(("add" : Str),u5),(("minus" : Str),u5),(("times" : Str),u5),(("over" : Str),u5),(("rest" : Str),u5),(("below" : Str),u5),(("same" : Str),u5),(("both" : Str),u5),(("either" : Str),u5),(("unlike" : Str),u5),(("up" : Str),u5),(("down" : Str),u5),(("jump" : Str),u6),(("jumpif" : Str),u7),(("load" : Str),u8),(("save" : Str),u9),(("me" : Str),u10),(("from" : Str),u11),(("sent" : Str),u12),(("word" : Str),u13),(("coin" : Str),u14),(("note" : Str),u15),(("give" : Str),u16),(("fail" : Str),u17)])
    (a_push_row:PySem.W.nsIn K mainGlobals "push_row" = some (some u1)) (a_drop_row:PySem.W.nsIn K mainGlobals "drop_row" = some (some u2)) (a_copy_row:PySem.W.nsIn K mainGlobals "copy_row" = some (some u3)) (a_swap_row:PySem.W.nsIn K mainGlobals "swap_row" = some (some u4)) (a_reckon_row:PySem.W.nsIn K mainGlobals "reckon_row" = some (some u5)) (a_jump_row:PySem.W.nsIn K mainGlobals "jump_row" = some (some u6)) (a_jumpif_row:PySem.W.nsIn K mainGlobals "jumpif_row" = some (some u7)) (a_load_row:PySem.W.nsIn K mainGlobals "load_row" = some (some u8)) (a_save_row:PySem.W.nsIn K mainGlobals "save_row" = some (some u9)) (a_me_row:PySem.W.nsIn K mainGlobals "me_row" = some (some u10)) (a_from_row:PySem.W.nsIn K mainGlobals "from_row" = some (some u11)) (a_sent_row:PySem.W.nsIn K mainGlobals "sent_row" = some (some u12)) (a_word_row:PySem.W.nsIn K mainGlobals "word_row" = some (some u13)) (a_coin_row:PySem.W.nsIn K mainGlobals "coin_row" = some (some u14)) (a_note_row:PySem.W.nsIn K mainGlobals "note_row" = some (some u15)) (a_give_row:PySem.W.nsIn K mainGlobals "give_row" = some (some u16)) (a_fail_row:PySem.W.nsIn K mainGlobals "fail_row" = some (some u17)):∃ (aD:Addr) (u1 u2 u3 u4 u5 u6 u7 u8 u9 u10 u11 u12 u13 u14 u15 u16 u17:Value),ZaV mg "DOINGS" (.ref aD)/\ZcT P w K aD [(Sum.inr "push", u1),(Sum.inr "drop", u2),(Sum.inr "copy", u3),(Sum.inr "swap", u4),(Sum.inr "add", u5),(Sum.inr "minus", u5),(Sum.inr "times", u5),(Sum.inr "over", u5),(Sum.inr "rest", u5),(Sum.inr "below", u5),(Sum.inr "same", u5),(Sum.inr "both", u5),(Sum.inr "either", u5),(Sum.inr "unlike", u5),(Sum.inr "up", u5),(Sum.inr "down", u5),(Sum.inr "jump", u6),(Sum.inr "jumpif", u7),(Sum.inr "load", u8),(Sum.inr "save", u9),(Sum.inr "me", u10),(Sum.inr "from", u11),(Sum.inr "sent", u12),(Sum.inr "word", u13),(Sum.inr "coin", u14),(Sum.inr "note", u15),(Sum.inr "give", u16),(Sum.inr "fail", u17)]/\mg "push_row" = some u1/\mg "drop_row" = some u2/\mg "copy_row" = some u3/\mg "swap_row" = some u4/\mg "reckon_row" = some u5/\mg "jump_row" = some u6/\mg "jumpif_row" = some u7/\mg "load_row" = some u8/\mg "save_row" = some u9/\mg "me_row" = some u10/\mg "from_row" = some u11/\mg "sent_row" = some u12/\mg "word_row" = some u13/\mg "coin_row" = some u14/\mg "note_row" = some u15/\mg "give_row" = some u16/\mg "fail_row" = some u17:=by
  subst he
  refine ⟨aD,u1,u2,u3,u4,u5,u6,u7,u8,u9,u10,u11,u12,u13,u14,u15,u16,u17,Zcs X G a,?_,PySem.W.mg_of X G a_push_row,PySem.W.mg_of X G a_drop_row,PySem.W.mg_of X G a_copy_row,PySem.W.mg_of X G a_swap_row,PySem.W.mg_of X G a_reckon_row,PySem.W.mg_of X G a_jump_row,PySem.W.mg_of X G a_jumpif_row,PySem.W.mg_of X G a_load_row,PySem.W.mg_of X G a_save_row,PySem.W.mg_of X G a_me_row,PySem.W.mg_of X G a_from_row,PySem.W.mg_of X G a_sent_row,PySem.W.mg_of X G a_word_row,PySem.W.mg_of X G a_coin_row,PySem.W.mg_of X G a_note_row,PySem.W.mg_of X G a_give_row,PySem.W.mg_of X G a_fail_row⟩
  have d:=ZdT (P:=P) (w:=w) lk h2 (by
    have e:(entsOf es).map (·.1)=((entsOf es).map (fun p=>(p.1,p.2.2))).map (·.1):=by rw [List.map_map]; rfl
    rw [e,h3]
    show (["push", "drop", "copy", "swap", "add", "minus", "times", "over", "rest", "below", "same", "both", "either", "unlike", "up", "down", "jump", "jumpif", "load", "save", "me", "from", "sent", "word", "coin", "note", "give", "fail"]:List Str).Nodup
    decide +kernel)
  have e:((entsOf es).map fun p=>((Sum.inr p.1:Key),p.2.2))=((entsOf es).map (fun p=>(p.1,p.2.2))).map fun q=>((Sum.inr q.1:Key),q.2):=by rw [List.map_map]; rfl
  rw [e,h3] at d
  exact d
theorem Zkn:FnScope ["self", "kind", "who", "whose", "caller", "coin", "word", "given", "depth", "looking"] ["self", "kind", "who", "whose", "caller", "coin", "word", "given", "depth", "looking"] (Zab Zax):=⟨rfl,rfl,rfl,by decide +kernel,rfl,by decide +kernel,by decide +kernel⟩
theorem Zgz {cFrame:Addr} {tok:Tok} (D:Zcg K cFrame "__init__" "Frame.__init__" Zax #[.int 1 tok,.bool false]) (tFrame:T_Frame K mg cFrame) (ds:List Value) {dvs:List V} (v:Vals dvs ds)
    (hb:∀ (T:Addr) (kV doc pm:Value) (an:Option Addr) (cdv ct:Value) (us:List Value),(us ++ ds).length=10->∃ k:Option (Array Value)->Sem (List (Str × Value)),bindArgs (PySem.W.fnOf "__init__" "Frame.__init__" (Zaw Zax) (Zar Zax) (Zab Zax) (.ref T) kV doc pm an cdv ct) ⟨us,[]⟩=seqItems? (.ref T) >>= k/\k (some #[.int 1 tok,.bool false])=pure ((["self", "kind", "who", "whose", "caller", "coin", "word", "given", "depth", "looking"]:List Str).zip (us ++ ds))):ZgN P w K mg base 1 "Frame" cFrame (Zd9 cFrame) dvs:=by
  refine Zk3 (N:=["self", "kind", "who", "whose", "caller", "coin", "word", "given", "depth", "looking"]) (ps:=["self", "kind", "who", "whose", "caller", "coin", "word", "given", "depth", "looking"]) D tFrame.k Zkn (fun vs H Q E h=>?_) (fun f cdv A outer s H vs Q E hr h=>?_) ds v hb
  . obtain ⟨a,dx,kind,who,whose,caller,coin,word,given,depth,looking,rfl,_⟩:=h; rfl
  . obtain ⟨a,dx,kind,who,whose,caller,coin,word,given,depth,looking,rfl,ha,k⟩:=h
    refine ⟨_,(Zac (ZaO (pv 0) (pv 1) rfl)
      (Zac (ZaO (pv 0) (pv 2) rfl)
      (Zac (ZaO (pv 0) (pv 3) rfl)
      (Zac (ZaO (pv 0) (pv 4) rfl)
      (Zac (ZaO (pv 0) (pv 5) rfl)
      (Zac (ZaO (pv 0) (pv 6) rfl)
      (Zac (ZaO (pv 0) (pv 7) rfl)
      (Zac (ZaO (pv 0) (pv 8) rfl)
      (Zac (ZaO (pv 0) (pv 9) rfl)
      (Zac (ZaO (pv 0) Zae rfl)
      (Zac (ZaO (pv 0) (ZbT Zaf) rfl)
      (Zac (ZaO (pv 0) Zae rfl)
      (Zac (ZaO (pv 0) (ZbT Zaf) rfl)
      (Zac (ZaO (pv 0) Zca rfl)
      (Zad (ZaO (pv 0) Zae rfl)))))))))))))))),?_⟩
    walk_at "nx"
    repeat walk_at "rdk"
    refine Zau ha tFrame.k.cl tFrame.n_kind (by decide) ?_
    repeat walk_at "rdk"
    refine Zau Zag tFrame.k.cl tFrame.n_who (by show 1 < 1000; decide) ?_
    rw [ZaS]
    repeat walk_at "rdk"
    refine Zau Zag tFrame.k.cl tFrame.n_whose (by show 2 < 1000; decide) ?_
    rw [ZaS]
    repeat walk_at "rdk"
    refine Zau Zag tFrame.k.cl tFrame.n_caller (by show 3 < 1000; decide) ?_
    rw [ZaS]
    repeat walk_at "rdk"
    refine Zau Zag tFrame.k.cl tFrame.n_coin (by show 4 < 1000; decide) ?_
    rw [ZaS]
    repeat walk_at "rdk"
    refine Zau Zag tFrame.k.cl tFrame.n_word (by show 5 < 1000; decide) ?_
    rw [ZaS]
    repeat walk_at "rdk"
    refine Zau Zag tFrame.k.cl tFrame.n_given (by show 6 < 1000; decide) ?_
    rw [ZaS]
    repeat walk_at "rdk"
    refine Zau Zag tFrame.k.cl tFrame.n_depth (by show 7 < 1000; decide) ?_
    rw [ZaS]
    repeat walk_at "rdk"
    refine Zau Zag tFrame.k.cl tFrame.n_looking (by show 8 < 1000; decide) ?_
    rw [ZaS]
    repeat walk_at "rdk"
    refine Zau Zag tFrame.k.cl tFrame.n_used (by show 9 < 1000; decide) ?_
    rw [ZaS]
    repeat walk_at "rdk"
    refine ⟨by decide,fun l hl=>?_⟩
    have nl:l ≠ a:=fun z=>by rw [z,Zag] at hl; cases hl
    have hlH:H l=none:=by rw [Zai nl] at hl; exact hl
    repeat walk_at "rdk"
    refine Zau (by rw [Zai (Ne.symm nl)]; exact Zag) tFrame.k.cl tFrame.n_stack (by show 10 < 1000; decide) ?_
    repeat walk_at "rdk"
    refine Zau Zag tFrame.k.cl tFrame.n_row (by show 11 < 1000; decide) ?_
    rw [ZaS]
    repeat walk_at "rdk"
    refine ⟨by decide,fun q hq=>?_⟩
    have nq:q ≠ a:=fun z=>by rw [z,Zag] at hq; cases hq
    have nql:q ≠ l:=fun z=>by rw [Zai nq,z,Zag] at hq; cases hq
    have hqH:H q=none:=by rw [Zai nq,Zai nql,Zai nq] at hq; exact hq
    repeat walk_at "rdk"
    refine Zau (by rw [Zai (Ne.symm nq)]; exact Zag) tFrame.k.cl tFrame.n_steps (by show 12 < 1000; decide) ?_
    repeat walk_at "rdk"
    refine Zau Zag tFrame.k.cl tFrame.n_end (by show 13 < 1000; decide) ?_
    rw [ZaS]
    repeat walk_at "rdk"
    refine Zau Zag tFrame.k.cl tFrame.n_answer (by show 14 < 1000; decide) ?_
    rw [ZaS]
    refine k l q _ hlH hqH ⟨?_,?_,?_,Ne.symm nql⟩ ?_
    . show upd _ a _ a=_
      rw [Zag]; rfl
    . show upd _ a _ l=_
      rw [Zai nl,Zai (Ne.symm nql),Zai nl,Zag]; rfl
    . show upd _ a _ q=_
      rw [Zai nq,Zag]
    . intro b o e n
      rw [Zai n,Zai (Zaj e hqH),Zai n,Zai (Zaj e hlH),Zai n]
      exact e
theorem mkFI {K:PySem.W.Frag} {h:Heap} {mg:Str->Option Value} {C f T:Addr} {oc c2:Value} {od an d2:Option Addr} {osl s2:Array (Option Value)} {kV doc pm cdv ct:Value} {tok:Tok} {n:Nat} (X:K.In h) (G:h.Ns mainGlobals mg) (aC:PySem.W.nsIn K mainGlobals "Frame" = some (some (.ref C)))
    (a:PySem.W.findIn K (.ref C) "__init__" = some (some (.ref f))) (i:PySem.W.isFn K (.ref f)=true) (l:K.lookup f=some ⟨oc,od,.func (PySem.W.fnOf "__init__" "Frame.__init__" (Zaw Zax) (Zar Zax) (Zab Zax) (.ref T) kV doc pm an cdv ct),osl⟩)
    (c:PySem.W.codeIn K cdv "Frame.__init__" = true) (k:PySem.W.keepIn K (.ref f)=true) (d:K.lookup T=some ⟨c2,d2,.seq #[.int 1 tok,.bool false] n,s2⟩):∃ C tok,mg "Frame" = some (.ref C)/\Zcg K C "__init__" "Frame.__init__" Zax #[.int 1 tok,.bool false] :=
  ⟨C,tok,PySem.W.mg_of X G aC,Zis a i l c k d⟩
theorem Zko {P:Program} {w:World} {K:PySem.W.Frag} {mg:Str->Option Value} {base:Heap} {cFrame:Addr} {tok:Tok} (D:Zcg K cFrame "__init__" "Frame.__init__" Zax #[.int 1 tok,.bool false]) (tFrame:T_Frame K mg cFrame):ZgN P w K mg base 1 "Frame" cFrame (Zd9 cFrame) [.int 1,.bl false] :=
  Zgz D tFrame [.int 1 tok,.bool false] (.cons ⟨_,rfl⟩ (.cons rfl .nil)) (fun T kV doc pm an cdv ct us hl=>bd8 (R:=fun us=>∃ k:Option (Array Value)->Sem (List (Str × Value)),bindArgs _ ⟨us,[]⟩=seqItems? (.ref T) >>= k/\k (some _)=pure (List.zip _ (us ++ [.int 1 tok,.bool false]))) (fun _ _ _ _ _ _ _ _=>⟨_,rfl,rfl⟩) us (by rw [List.length_append] at hl; exact Nat.add_right_cancel hl))
theorem Zkp {P:Program} {w:World} {K:PySem.W.Frag} {mg:Str->Option Value} {base:Heap} {cFrame:Addr} {tok:Tok} (D:Zcg K cFrame "__init__" "Frame.__init__" Zax #[.int 1 tok,.bool false]) (tFrame:T_Frame K mg cFrame):ZgN P w K mg base 1 "Frame" cFrame (Zd9 cFrame) [] :=
  Zgz D tFrame [] .nil (fun T kV doc pm an cdv ct us hl=>bd10 (R:=fun us=>∃ k:Option (Array Value)->Sem (List (Str × Value)),bindArgs _ ⟨us,[]⟩=seqItems? (.ref T) >>= k/\k (some _)=pure (List.zip _ (us ++ []))) (fun _ _ _ _ _ _ _ _ _ _=>⟨_,rfl,rfl⟩) us (by rw [List.length_append] at hl; exact hl))
theorem ZiL {K:PySem.W.Frag} {h:Heap} {mg:Str->Option Value} {C:Addr} {f0:Addr} {oc0 kV0 dc0 pm0 cd0 ct0:Value} {od0 an0:Option Addr} {sl0:Array (Option Value)} {f1:Addr} {oc1 kV1 dc1 pm1 cd1 ct1:Value} {od1 an1:Option Addr} {sl1:Array (Option Value)} {f2:Addr} {oc2 kV2 dc2 pm2 cd2 ct2:Value} {od2 an2:Option Addr} {sl2:Array (Option Value)} (X:K.In h) (G:h.Ns mainGlobals mg) (aC:PySem.W.nsIn K mainGlobals "Account" = some (some (.ref C))) (pg:PySem.W.plainGet K C Str.empty=true) (hd:PySem.W.hasDictIn K C=true) (po:PySem.W.plainOver K C=true) (sa:PySem.W.findIn K (.ref C) "__setattr__" = some (some (.builtin "object.__setattr__"))) (mk:PySem.W.makesIn K C=true) (kc:PySem.W.keepIn K (.ref C)=true) (ncoin:PySem.W.findIn K (.ref C) "coin" = some none) (npurse:PySem.W.findIn K (.ref C) "purse" = some none) (ncount:PySem.W.findIn K (.ref C) "count" = some none) (nprogram:PySem.W.findIn K (.ref C) "program" = some none) (nstore:PySem.W.findIn K (.ref C) "store" = some none) (a__init__:PySem.W.findIn K (.ref C) "__init__" = some (some (.ref f0))) (i__init__:PySem.W.isFn K (.ref f0)=true) (l__init__:K.lookup f0=some ⟨oc0,od0,.func (PySem.W.fnOf "__init__" "Account.__init__" (Zaw ZaL) (Zar ZaL) (Zab ZaL) .none kV0 dc0 pm0 an0 cd0 ct0),sl0⟩) (c__init__:PySem.W.codeIn K cd0 "Account.__init__" = true) (k__init__:PySem.W.keepIn K (.ref f0)=true) (aloaded:PySem.W.findIn K (.ref C) "loaded" = some (some (.ref f1))) (iloaded:PySem.W.isFn K (.ref f1)=true) (lloaded:K.lookup f1=some ⟨oc1,od1,.func (PySem.W.fnOf "loaded" "Account.loaded" (Zaw ZaU) (Zar ZaU) (Zab ZaU) .none kV1 dc1 pm1 an1 cd1 ct1),sl1⟩) (cloaded:PySem.W.codeIn K cd1 "Account.loaded" = true) (kloaded:PySem.W.keepIn K (.ref f1)=true) (akeep:PySem.W.findIn K (.ref C) "keep" = some (some (.ref f2))) (ikeep:PySem.W.isFn K (.ref f2)=true) (lkeep:K.lookup f2=some ⟨oc2,od2,.func (PySem.W.fnOf "keep" "Account.keep" (Zaw Za4) (Zar Za4) (Zab Za4) .none kV2 dc2 pm2 an2 cd2 ct2),sl2⟩) (ckeep:PySem.W.codeIn K cd2 "Account.keep" = true) (kkeep:PySem.W.keepIn K (.ref f2)=true):∃ C,T_Account K mg C/\Zan K C "__init__" "Account.__init__" ZaL/\Zan K C "loaded" "Account.loaded" ZaU/\Zan K C "keep" "Account.keep" Za4 :=
  ⟨C,⟨⟨⟨pg,hd,po,sa⟩,mk,kc,PySem.W.mg_of X G aC⟩,ncoin,npurse,ncount,nprogram,nstore⟩,ZaC a__init__ i__init__ l__init__ c__init__ k__init__,ZaC aloaded iloaded lloaded cloaded kloaded,ZaC akeep ikeep lkeep ckeep kkeep⟩
theorem Zne {K:PySem.W.Frag} {h:Heap} {mg:Str->Option Value} {C:Addr} {f0:Addr} {oc0 kV0 dc0 pm0 cd0 ct0:Value} {od0 an0:Option Addr} {sl0:Array (Option Value)} {f1:Addr} {oc1 kV1 dc1 pm1 cd1 ct1:Value} {od1 an1:Option Addr} {sl1:Array (Option Value)} {f2:Addr} {oc2 kV2 dc2 pm2 cd2 ct2:Value} {od2 an2:Option Addr} {sl2:Array (Option Value)} {f3:Addr} {oc3 kV3 dc3 pm3 cd3 ct3:Value} {od3 an3:Option Addr} {sl3:Array (Option Value)} (X:K.In h) (G:h.Ns mainGlobals mg) (aC:PySem.W.nsIn K mainGlobals "Save" = some (some (.ref C))) (pg:PySem.W.plainGet K C Str.empty=true) (hd:PySem.W.hasDictIn K C=true) (po:PySem.W.plainOver K C=true) (sa:PySem.W.findIn K (.ref C) "__setattr__" = some (some (.builtin "object.__setattr__"))) (mk:PySem.W.makesIn K C=true) (kc:PySem.W.keepIn K (.ref C)=true) (nslot:PySem.W.findIn K (.ref C) "slot" = some none) (nplace:PySem.W.findIn K (.ref C) "place" = some none) (nold:PySem.W.findIn K (.ref C) "old" = some none) (nnew:PySem.W.findIn K (.ref C) "new" = some none) (a__init__:PySem.W.findIn K (.ref C) "__init__" = some (some (.ref f0))) (i__init__:PySem.W.isFn K (.ref f0)=true) (l__init__:K.lookup f0=some ⟨oc0,od0,.func (PySem.W.fnOf "__init__" "Save.__init__" (Zaw ZaY) (Zar ZaY) (Zab ZaY) .none kV0 dc0 pm0 an0 cd0 ct0),sl0⟩) (c__init__:PySem.W.codeIn K cd0 "Save.__init__" = true) (k__init__:PySem.W.keepIn K (.ref f0)=true) (ado:PySem.W.findIn K (.ref C) "do" = some (some (.ref f1))) (ido:PySem.W.isFn K (.ref f1)=true) (ldo:K.lookup f1=some ⟨oc1,od1,.func (PySem.W.fnOf "do" "Save.do" (Zaw ZbM) (Zar ZbM) (Zab ZbM) .none kV1 dc1 pm1 an1 cd1 ct1),sl1⟩) (cdo:PySem.W.codeIn K cd1 "Save.do" = true) (kdo:PySem.W.keepIn K (.ref f1)=true) (aundo:PySem.W.findIn K (.ref C) "undo" = some (some (.ref f2))) (iundo:PySem.W.isFn K (.ref f2)=true) (lundo:K.lookup f2=some ⟨oc2,od2,.func (PySem.W.fnOf "undo" "Save.undo" (Zaw Zbt) (Zar Zbt) (Zab Zbt) .none kV2 dc2 pm2 an2 cd2 ct2),sl2⟩) (cundo:PySem.W.codeIn K cd2 "Save.undo" = true) (kundo:PySem.W.keepIn K (.ref f2)=true) (atold:PySem.W.findIn K (.ref C) "told" = some (some (.ref f3))) (itold:PySem.W.isFn K (.ref f3)=true) (ltold:K.lookup f3=some ⟨oc3,od3,.func (PySem.W.fnOf "told" "Save.told" (Zaw Zbu) (Zar Zbu) (Zab Zbu) .none kV3 dc3 pm3 an3 cd3 ct3),sl3⟩) (ctold:PySem.W.codeIn K cd3 "Save.told" = true) (ktold:PySem.W.keepIn K (.ref f3)=true):∃ C,T_Save K mg C/\Zan K C "__init__" "Save.__init__" ZaY/\Zan K C "do" "Save.do" ZbM/\Zan K C "undo" "Save.undo" Zbt/\Zan K C "told" "Save.told" Zbu :=
  ⟨C,⟨⟨⟨pg,hd,po,sa⟩,mk,kc,PySem.W.mg_of X G aC⟩,nslot,nplace,nold,nnew⟩,ZaC a__init__ i__init__ l__init__ c__init__ k__init__,ZaC ado ido ldo cdo kdo,ZaC aundo iundo lundo cundo kundo,ZaC atold itold ltold ctold ktold⟩
theorem Znf {K:PySem.W.Frag} {h:Heap} {mg:Str->Option Value} {C:Addr} {f0:Addr} {oc0 kV0 dc0 pm0 cd0 ct0:Value} {od0 an0:Option Addr} {sl0:Array (Option Value)} {f1:Addr} {oc1 kV1 dc1 pm1 cd1 ct1:Value} {od1 an1:Option Addr} {sl1:Array (Option Value)} {f2:Addr} {oc2 kV2 dc2 pm2 cd2 ct2:Value} {od2 an2:Option Addr} {sl2:Array (Option Value)} {f3:Addr} {oc3 kV3 dc3 pm3 cd3 ct3:Value} {od3 an3:Option Addr} {sl3:Array (Option Value)} (X:K.In h) (G:h.Ns mainGlobals mg) (aC:PySem.W.nsIn K mainGlobals "Move" = some (some (.ref C))) (pg:PySem.W.plainGet K C Str.empty=true) (hd:PySem.W.hasDictIn K C=true) (po:PySem.W.plainOver K C=true) (sa:PySem.W.findIn K (.ref C) "__setattr__" = some (some (.builtin "object.__setattr__"))) (mk:PySem.W.makesIn K C=true) (kc:PySem.W.keepIn K (.ref C)=true) (nslot:PySem.W.findIn K (.ref C) "slot" = some none) (ntaker:PySem.W.findIn K (.ref C) "taker" = some none) (nmany:PySem.W.findIn K (.ref C) "many" = some none) (a__init__:PySem.W.findIn K (.ref C) "__init__" = some (some (.ref f0))) (i__init__:PySem.W.isFn K (.ref f0)=true) (l__init__:K.lookup f0=some ⟨oc0,od0,.func (PySem.W.fnOf "__init__" "Move.__init__" (Zaw ZaZ) (Zar ZaZ) (Zab ZaZ) .none kV0 dc0 pm0 an0 cd0 ct0),sl0⟩) (c__init__:PySem.W.codeIn K cd0 "Move.__init__" = true) (k__init__:PySem.W.keepIn K (.ref f0)=true) (ado:PySem.W.findIn K (.ref C) "do" = some (some (.ref f1))) (ido:PySem.W.isFn K (.ref f1)=true) (ldo:K.lookup f1=some ⟨oc1,od1,.func (PySem.W.fnOf "do" "Move.do" (Zaw ZbN) (Zar ZbN) (Zab ZbN) .none kV1 dc1 pm1 an1 cd1 ct1),sl1⟩) (cdo:PySem.W.codeIn K cd1 "Move.do" = true) (kdo:PySem.W.keepIn K (.ref f1)=true) (aundo:PySem.W.findIn K (.ref C) "undo" = some (some (.ref f2))) (iundo:PySem.W.isFn K (.ref f2)=true) (lundo:K.lookup f2=some ⟨oc2,od2,.func (PySem.W.fnOf "undo" "Move.undo" (Zaw Zbv) (Zar Zbv) (Zab Zbv) .none kV2 dc2 pm2 an2 cd2 ct2),sl2⟩) (cundo:PySem.W.codeIn K cd2 "Move.undo" = true) (kundo:PySem.W.keepIn K (.ref f2)=true) (atold:PySem.W.findIn K (.ref C) "told" = some (some (.ref f3))) (itold:PySem.W.isFn K (.ref f3)=true) (ltold:K.lookup f3=some ⟨oc3,od3,.func (PySem.W.fnOf "told" "Move.told" (Zaw Zbw) (Zar Zbw) (Zab Zbw) .none kV3 dc3 pm3 an3 cd3 ct3),sl3⟩) (ctold:PySem.W.codeIn K cd3 "Move.told" = true) (ktold:PySem.W.keepIn K (.ref f3)=true):∃ C,T_Move K mg C/\Zan K C "__init__" "Move.__init__" ZaZ/\Zan K C "do" "Move.do" ZbN/\Zan K C "undo" "Move.undo" Zbv/\Zan K C "told" "Move.told" Zbw :=
  ⟨C,⟨⟨⟨pg,hd,po,sa⟩,mk,kc,PySem.W.mg_of X G aC⟩,nslot,ntaker,nmany⟩,ZaC a__init__ i__init__ l__init__ c__init__ k__init__,ZaC ado ido ldo cdo kdo,ZaC aundo iundo lundo cundo kundo,ZaC atold itold ltold ctold ktold⟩
theorem Zng {K:PySem.W.Frag} {h:Heap} {mg:Str->Option Value} {C:Addr} {f0:Addr} {oc0 kV0 dc0 pm0 cd0 ct0:Value} {od0 an0:Option Addr} {sl0:Array (Option Value)} {f1:Addr} {oc1 kV1 dc1 pm1 cd1 ct1:Value} {od1 an1:Option Addr} {sl1:Array (Option Value)} {f2:Addr} {oc2 kV2 dc2 pm2 cd2 ct2:Value} {od2 an2:Option Addr} {sl2:Array (Option Value)} {f3:Addr} {oc3 kV3 dc3 pm3 cd3 ct3:Value} {od3 an3:Option Addr} {sl3:Array (Option Value)} (X:K.In h) (G:h.Ns mainGlobals mg) (aC:PySem.W.nsIn K mainGlobals "Note" = some (some (.ref C))) (pg:PySem.W.plainGet K C Str.empty=true) (hd:PySem.W.hasDictIn K C=true) (po:PySem.W.plainOver K C=true) (sa:PySem.W.findIn K (.ref C) "__setattr__" = some (some (.builtin "object.__setattr__"))) (mk:PySem.W.makesIn K C=true) (kc:PySem.W.keepIn K (.ref C)=true) (nslot:PySem.W.findIn K (.ref C) "slot" = some none) (nnumber:PySem.W.findIn K (.ref C) "number" = some none) (a__init__:PySem.W.findIn K (.ref C) "__init__" = some (some (.ref f0))) (i__init__:PySem.W.isFn K (.ref f0)=true) (l__init__:K.lookup f0=some ⟨oc0,od0,.func (PySem.W.fnOf "__init__" "Note.__init__" (Zaw Za0) (Zar Za0) (Zab Za0) .none kV0 dc0 pm0 an0 cd0 ct0),sl0⟩) (c__init__:PySem.W.codeIn K cd0 "Note.__init__" = true) (k__init__:PySem.W.keepIn K (.ref f0)=true) (atold:PySem.W.findIn K (.ref C) "told" = some (some (.ref f1))) (itold:PySem.W.isFn K (.ref f1)=true) (ltold:K.lookup f1=some ⟨oc1,od1,.func (PySem.W.fnOf "told" "Note.told" (Zaw Zbx) (Zar Zbx) (Zab Zbx) .none kV1 dc1 pm1 an1 cd1 ct1),sl1⟩) (ctold:PySem.W.codeIn K cd1 "Note.told" = true) (ktold:PySem.W.keepIn K (.ref f1)=true) (ado:PySem.W.findIn K (.ref C) "do" = some (some (.ref f2))) (ido:PySem.W.isFn K (.ref f2)=true) (ldo:K.lookup f2=some ⟨oc2,od2,.func (PySem.W.fnOf "do" "Deed.do" (Zaw ZbO) (Zar ZbO) (Zab ZbO) .none kV2 dc2 pm2 an2 cd2 ct2),sl2⟩) (cdo:PySem.W.codeIn K cd2 "Deed.do" = true) (kdo:PySem.W.keepIn K (.ref f2)=true) (aundo:PySem.W.findIn K (.ref C) "undo" = some (some (.ref f3))) (iundo:PySem.W.isFn K (.ref f3)=true) (lundo:K.lookup f3=some ⟨oc3,od3,.func (PySem.W.fnOf "undo" "Deed.undo" (Zaw Zbz) (Zar Zbz) (Zab Zbz) .none kV3 dc3 pm3 an3 cd3 ct3),sl3⟩) (cundo:PySem.W.codeIn K cd3 "Deed.undo" = true) (kundo:PySem.W.keepIn K (.ref f3)=true):∃ C,T_Note K mg C/\Zan K C "__init__" "Note.__init__" Za0/\Zan K C "told" "Note.told" Zbx/\Zan K C "do" "Deed.do" ZbO/\Zan K C "undo" "Deed.undo" Zbz :=
  ⟨C,⟨⟨⟨pg,hd,po,sa⟩,mk,kc,PySem.W.mg_of X G aC⟩,nslot,nnumber⟩,ZaC a__init__ i__init__ l__init__ c__init__ k__init__,ZaC atold itold ltold ctold ktold,ZaC ado ido ldo cdo kdo,ZaC aundo iundo lundo cundo kundo⟩
theorem ZiM {K:PySem.W.Frag} {h:Heap} {mg:Str->Option Value} {C:Addr} {f0:Addr} {oc0 kV0 dc0 pm0 cd0 ct0:Value} {od0 an0:Option Addr} {sl0:Array (Option Value)} {f1:Addr} {oc1 kV1 dc1 pm1 cd1 ct1:Value} {od1 an1:Option Addr} {sl1:Array (Option Value)} {f2:Addr} {oc2 kV2 dc2 pm2 cd2 ct2:Value} {od2 an2:Option Addr} {sl2:Array (Option Value)} {f3:Addr} {oc3 kV3 dc3 pm3 cd3 ct3:Value} {od3 an3:Option Addr} {sl3:Array (Option Value)} {f4:Addr} {oc4 kV4 dc4 pm4 cd4 ct4:Value} {od4 an4:Option Addr} {sl4:Array (Option Value)} (X:K.In h) (G:h.Ns mainGlobals mg) (aC:PySem.W.nsIn K mainGlobals "Journal" = some (some (.ref C))) (pg:PySem.W.plainGet K C Str.empty=true) (hd:PySem.W.hasDictIn K C=true) (po:PySem.W.plainOver K C=true) (sa:PySem.W.findIn K (.ref C) "__setattr__" = some (some (.builtin "object.__setattr__"))) (mk:PySem.W.makesIn K C=true) (kc:PySem.W.keepIn K (.ref C)=true) (nrooms:PySem.W.findIn K (.ref C) "rooms" = some none) (ndeeds:PySem.W.findIn K (.ref C) "deeds" = some none) (a__init__:PySem.W.findIn K (.ref C) "__init__" = some (some (.ref f0))) (i__init__:PySem.W.isFn K (.ref f0)=true) (l__init__:K.lookup f0=some ⟨oc0,od0,.func (PySem.W.fnOf "__init__" "Journal.__init__" (Zaw ZaM) (Zar ZaM) (Zab ZaM) .none kV0 dc0 pm0 an0 cd0 ct0),sl0⟩) (c__init__:PySem.W.codeIn K cd0 "Journal.__init__" = true) (k__init__:PySem.W.keepIn K (.ref f0)=true) (awrite:PySem.W.findIn K (.ref C) "write" = some (some (.ref f1))) (iwrite:PySem.W.isFn K (.ref f1)=true) (lwrite:K.lookup f1=some ⟨oc1,od1,.func (PySem.W.fnOf "write" "Journal.write" (Zaw Za1) (Zar Za1) (Zab Za1) .none kV1 dc1 pm1 an1 cd1 ct1),sl1⟩) (cwrite:PySem.W.codeIn K cd1 "Journal.write" = true) (kwrite:PySem.W.keepIn K (.ref f1)=true) (amark:PySem.W.findIn K (.ref C) "mark" = some (some (.ref f2))) (imark:PySem.W.isFn K (.ref f2)=true) (lmark:K.lookup f2=some ⟨oc2,od2,.func (PySem.W.fnOf "mark" "Journal.mark" (Zaw Za6) (Zar Za6) (Zab Za6) .none kV2 dc2 pm2 an2 cd2 ct2),sl2⟩) (cmark:PySem.W.codeIn K cd2 "Journal.mark" = true) (kmark:PySem.W.keepIn K (.ref f2)=true) (aback:PySem.W.findIn K (.ref C) "back" = some (some (.ref f3))) (iback:PySem.W.isFn K (.ref f3)=true) (lback:K.lookup f3=some ⟨oc3,od3,.func (PySem.W.fnOf "back" "Journal.back" (Zaw Za7) (Zar Za7) (Zab Za7) .none kV3 dc3 pm3 an3 cd3 ct3),sl3⟩) (cback:PySem.W.codeIn K cd3 "Journal.back" = true) (kback:PySem.W.keepIn K (.ref f3)=true) (atold:PySem.W.findIn K (.ref C) "told" = some (some (.ref f4))) (itold:PySem.W.isFn K (.ref f4)=true) (ltold:K.lookup f4=some ⟨oc4,od4,.func (PySem.W.fnOf "told" "Journal.told" (Zaw ZaW) (Zar ZaW) (Zab ZaW) .none kV4 dc4 pm4 an4 cd4 ct4),sl4⟩) (ctold:PySem.W.codeIn K cd4 "Journal.told" = true) (ktold:PySem.W.keepIn K (.ref f4)=true):∃ C,T_Journal K mg C/\Zan K C "__init__" "Journal.__init__" ZaM/\Zan K C "write" "Journal.write" Za1/\Zan K C "mark" "Journal.mark" Za6/\Zan K C "back" "Journal.back" Za7/\Zan K C "told" "Journal.told" ZaW :=
  ⟨C,⟨⟨⟨pg,hd,po,sa⟩,mk,kc,PySem.W.mg_of X G aC⟩,nrooms,ndeeds⟩,ZaC a__init__ i__init__ l__init__ c__init__ k__init__,ZaC awrite iwrite lwrite cwrite kwrite,ZaC amark imark lmark cmark kmark,ZaC aback iback lback cback kback,ZaC atold itold ltold ctold ktold⟩
theorem ZlL {K:PySem.W.Frag} {h:Heap} {mg:Str->Option Value} {C:Addr} {f0:Addr} {oc0 kV0 dc0 pm0 cd0 ct0:Value} {od0 an0:Option Addr} {sl0:Array (Option Value)} {f1:Addr} {oc1 kV1 dc1 pm1 cd1 ct1:Value} {od1 an1:Option Addr} {sl1:Array (Option Value)} {f2:Addr} {oc2 kV2 dc2 pm2 cd2 ct2:Value} {od2 an2:Option Addr} {sl2:Array (Option Value)} {f3:Addr} {oc3 kV3 dc3 pm3 cd3 ct3:Value} {od3 an3:Option Addr} {sl3:Array (Option Value)} {f4:Addr} {oc4 kV4 dc4 pm4 cd4 ct4:Value} {od4 an4:Option Addr} {sl4:Array (Option Value)} {f5:Addr} {oc5 kV5 dc5 pm5 cd5 ct5:Value} {od5 an5:Option Addr} {sl5:Array (Option Value)} {f6:Addr} {oc6 kV6 dc6 pm6 cd6 ct6:Value} {od6 an6:Option Addr} {sl6:Array (Option Value)} (X:K.In h) (G:h.Ns mainGlobals mg) (aC:PySem.W.nsIn K mainGlobals "Frame" = some (some (.ref C))) (pg:PySem.W.plainGet K C Str.empty=true) (hd:PySem.W.hasDictIn K C=true) (po:PySem.W.plainOver K C=true) (sa:PySem.W.findIn K (.ref C) "__setattr__" = some (some (.builtin "object.__setattr__"))) (mk:PySem.W.makesIn K C=true) (kc:PySem.W.keepIn K (.ref C)=true) (nkind:PySem.W.findIn K (.ref C) "kind" = some none) (nwho:PySem.W.findIn K (.ref C) "who" = some none) (nwhose:PySem.W.findIn K (.ref C) "whose" = some none) (ncaller:PySem.W.findIn K (.ref C) "caller" = some none) (ncoin:PySem.W.findIn K (.ref C) "coin" = some none) (nword:PySem.W.findIn K (.ref C) "word" = some none) (ngiven:PySem.W.findIn K (.ref C) "given" = some none) (ndepth:PySem.W.findIn K (.ref C) "depth" = some none) (nlooking:PySem.W.findIn K (.ref C) "looking" = some none) (nused:PySem.W.findIn K (.ref C) "used" = some none) (nstack:PySem.W.findIn K (.ref C) "stack" = some none) (nrow:PySem.W.findIn K (.ref C) "row" = some none) (nsteps:PySem.W.findIn K (.ref C) "steps" = some none) (nend:PySem.W.findIn K (.ref C) "end" = some none) (nanswer:PySem.W.findIn K (.ref C) "answer" = some none) (aleft:PySem.W.findIn K (.ref C) "left" = some (some (.ref f0))) (ileft:PySem.W.isFn K (.ref f0)=true) (lleft:K.lookup f0=some ⟨oc0,od0,.func (PySem.W.fnOf "left" "Frame.left" (Zaw Zbh) (Zar Zbh) (Zab Zbh) .none kV0 dc0 pm0 an0 cd0 ct0),sl0⟩) (cleft:PySem.W.codeIn K cd0 "Frame.left" = true) (kleft:PySem.W.keepIn K (.ref f0)=true) (ashort_for:PySem.W.findIn K (.ref C) "short_for" = some (some (.ref f1))) (ishort_for:PySem.W.isFn K (.ref f1)=true) (lshort_for:K.lookup f1=some ⟨oc1,od1,.func (PySem.W.fnOf "short_for" "Frame.short_for" (Zaw ZaQ) (Zar ZaQ) (Zab ZaQ) .none kV1 dc1 pm1 an1 cd1 ct1),sl1⟩) (cshort_for:PySem.W.codeIn K cd1 "Frame.short_for" = true) (kshort_for:PySem.W.keepIn K (.ref f1)=true) (afull_behind:PySem.W.findIn K (.ref C) "full_behind" = some (some (.ref f2))) (ifull_behind:PySem.W.isFn K (.ref f2)=true) (lfull_behind:K.lookup f2=some ⟨oc2,od2,.func (PySem.W.fnOf "full_behind" "Frame.full_behind" (Zaw ZaK) (Zar ZaK) (Zab ZaK) .none kV2 dc2 pm2 an2 cd2 ct2),sl2⟩) (cfull_behind:PySem.W.codeIn K cd2 "Frame.full_behind" = true) (kfull_behind:PySem.W.keepIn K (.ref f2)=true) (ataken:PySem.W.findIn K (.ref C) "taken" = some (some (.ref f3))) (itaken:PySem.W.isFn K (.ref f3)=true) (ltaken:K.lookup f3=some ⟨oc3,od3,.func (PySem.W.fnOf "taken" "Frame.taken" (Zaw Zbd) (Zar Zbd) (Zab Zbd) .none kV3 dc3 pm3 an3 cd3 ct3),sl3⟩) (ctaken:PySem.W.codeIn K cd3 "Frame.taken" = true) (ktaken:PySem.W.keepIn K (.ref f3)=true) (alay:PySem.W.findIn K (.ref C) "lay" = some (some (.ref f4))) (ilay:PySem.W.isFn K (.ref f4)=true) (llay:K.lookup f4=some ⟨oc4,od4,.func (PySem.W.fnOf "lay" "Frame.lay" (Zaw Zby) (Zar Zby) (Zab Zby) .none kV4 dc4 pm4 an4 cd4 ct4),sl4⟩) (clay:PySem.W.codeIn K cd4 "Frame.lay" = true) (klay:PySem.W.keepIn K (.ref f4)=true) (afinish:PySem.W.findIn K (.ref C) "finish" = some (some (.ref f5))) (ifinish:PySem.W.isFn K (.ref f5)=true) (lfinish:K.lookup f5=some ⟨oc5,od5,.func (PySem.W.fnOf "finish" "Frame.finish" (Zaw Za5) (Zar Za5) (Zab Za5) .none kV5 dc5 pm5 an5 cd5 ct5),sl5⟩) (cfinish:PySem.W.codeIn K cd5 "Frame.finish" = true) (kfinish:PySem.W.keepIn K (.ref f5)=true) (atree:PySem.W.findIn K (.ref C) "tree" = some (some (.ref f6))) (itree:PySem.W.isFn K (.ref f6)=true) (ltree:K.lookup f6=some ⟨oc6,od6,.func (PySem.W.fnOf "tree" "Frame.tree" (Zaw Zbi) (Zar Zbi) (Zab Zbi) .none kV6 dc6 pm6 an6 cd6 ct6),sl6⟩) (ctree:PySem.W.codeIn K cd6 "Frame.tree" = true) (ktree:PySem.W.keepIn K (.ref f6)=true):∃ C,T_Frame K mg C/\Zan K C "left" "Frame.left" Zbh/\Zan K C "short_for" "Frame.short_for" ZaQ/\Zan K C "full_behind" "Frame.full_behind" ZaK/\Zan K C "taken" "Frame.taken" Zbd/\Zan K C "lay" "Frame.lay" Zby/\Zan K C "finish" "Frame.finish" Za5/\Zan K C "tree" "Frame.tree" Zbi :=
  ⟨C,⟨⟨⟨pg,hd,po,sa⟩,mk,kc,PySem.W.mg_of X G aC⟩,nkind,nwho,nwhose,ncaller,ncoin,nword,ngiven,ndepth,nlooking,nused,nstack,nrow,nsteps,nend,nanswer⟩,ZaC aleft ileft lleft cleft kleft,ZaC ashort_for ishort_for lshort_for cshort_for kshort_for,ZaC afull_behind ifull_behind lfull_behind cfull_behind kfull_behind,ZaC ataken itaken ltaken ctaken ktaken,ZaC alay ilay llay clay klay,ZaC afinish ifinish lfinish cfinish kfinish,ZaC atree itree ltree ctree ktree⟩
end
end My
namespace L2
open PySem PySem.W
theorem ZlM {q:Program} {loose:List Str} {XP:(Str->Option Value)->Heap->Prop} {r:RowW} {d:DefRec} {kwd:List (Str × PySem.Expr)} {run:Value->List Value->Sem Value} {K:Params->Frag} {as:List Addr} {n t:Nat} (e:∀ P,as=(K P).map (·.1))
    (h:WalkO q loose XP (fun w h=>(K w.params).In h) r d kwd run):WalkX q loose XP (X.obsZ as) (X.valZ K n t) r d kwd run :=
  fun w s₀ s₁ mg mb G y a o pm cd doc dV kV h1 h2 h3 h4 h5 h6 args vals as' L=>h w s₀ s₁ mg mb G (InK.keeps w s₀.heap s₁.heap (X.z_facts e y).2.1 (Laid.keeps L)) a o pm cd doc dV kV h1 h2 h3 h4 h5 h6 args vals as'
end L2
open PySem PySem.W PyProof.Rows
local macro_rules|`(tactic| walk_at "vals")=>`(tactic| first
  | exact L2.ZkS
  | (refine L2.ZkT ?_; walk_at "vals")
  | (refine L2.ZkU ?_; walk_at "vals")
  | fail)
namespace PySem.W.Fast
theorem tw5647809643227619481:True:=⟨⟩
theorem tw2267793272352826205:True:=⟨⟩
theorem tw3393007193851730944:True:=⟨⟩
theorem tw6777229657219165312:True:=⟨⟩
theorem tw13756899745857545408:True:=⟨⟩
theorem tw8553196639725245632:True:=⟨⟩
theorem tw8563089775275499712:True:=⟨⟩
theorem tw1883626181351736576:True:=⟨⟩
theorem tw11402151416582962464:True:=⟨⟩
theorem tw8403356064701694272:True:=⟨⟩
theorem tw7785918388864320896:True:=⟨⟩
theorem tw1016256833184160:True:=⟨⟩
theorem tw2852081888723396000:True:=⟨⟩
theorem tw3744189285392745952:True:=⟨⟩
theorem tw12242900088754565632:True:=⟨⟩
theorem tw13523819946459586080:True:=⟨⟩
theorem tw18095681496710484544:True:=⟨⟩
theorem tw11204930353424588352:True:=⟨⟩
theorem tw11756079276692611744:True:=⟨⟩
theorem tw10764912054078398112:True:=⟨⟩
theorem tw14369236393274654464:True:=⟨⟩
theorem tw18186660754850000704:True:=⟨⟩
theorem tw2689608028147316576:True:=⟨⟩
theorem tw17472214781839157088:True:=⟨⟩
theorem tw10382464782056737793:True:=⟨⟩
theorem tw5361351020295222305:True:=⟨⟩
theorem tw1953451118296958017:True:=⟨⟩
theorem tw4086159537725239361:True:=⟨⟩
theorem tw14948752435536348257:True:=⟨⟩
theorem tw10584397783562819713:True:=⟨⟩
theorem tw14046685251239490753:True:=⟨⟩
theorem tw15877930379535899873:True:=⟨⟩
theorem tw5589210775938257121:True:=⟨⟩
theorem tw10990821752084894049:True:=⟨⟩
theorem tw737152656988327265:True:=⟨⟩
theorem tw8307751656970539393:True:=⟨⟩
theorem tw4514683324095129985:True:=⟨⟩
theorem tw12368681165790325217:True:=⟨⟩
theorem tw1710101050300441089:True:=⟨⟩
theorem tw15329070245047496193:True:=⟨⟩
theorem tw5533918747787140673:True:=⟨⟩
theorem tw3449975800830765665:True:=⟨⟩
theorem tw5026805257141079713:True:=⟨⟩
theorem tw8002450063139064513:True:=⟨⟩
theorem tw13978873771084810049:True:=⟨⟩
theorem tw6914719090950467393:True:=⟨⟩
theorem tw18084515413980926817:True:=⟨⟩
theorem tw9087275493390204769:True:=⟨⟩
theorem tw9470609170782930785:True:=⟨⟩
theorem tw14040918693098908545:True:=⟨⟩
theorem tw12367612032867107777:True:=⟨⟩
theorem tw2118759286408513473:True:=⟨⟩
theorem tw548981483104244673:True:=⟨⟩
theorem tw13374201028305778625:True:=⟨⟩
theorem tw13398330412464035842:True:=⟨⟩
theorem tw5663943127563307042:True:=⟨⟩
theorem tw16360923597586974786:True:=⟨⟩
theorem tw17487124601278971970:True:=⟨⟩
theorem tw14296156805773421698:True:=⟨⟩
theorem tw6812505109741370498:True:=⟨⟩
theorem tw14879166041405444354:True:=⟨⟩
theorem tw2921621376839997698:True:=⟨⟩
theorem tw13009739466948812066:True:=⟨⟩
theorem tw2580784064012139810:True:=⟨⟩
theorem tw17277910229199085858:True:=⟨⟩
theorem tw6985151218326260066:True:=⟨⟩
theorem tw13690144358850355586:True:=⟨⟩
theorem tw15862946792397107650:True:=⟨⟩
theorem tw9134375694443638210:True:=⟨⟩
theorem tw51440552729838050:True:=⟨⟩
theorem tw17549367099654315650:True:=⟨⟩
theorem tw623216959059041922:True:=⟨⟩
theorem tw10825595672105032354:True:=⟨⟩
theorem tw15590563130936827554:True:=⟨⟩
theorem tw4514197916683145922:True:=⟨⟩
theorem tw16721051832983159586:True:=⟨⟩
theorem tw1044160783607973666:True:=⟨⟩
theorem tw18142747690974109570:True:=⟨⟩
theorem tw13718780708605184930:True:=⟨⟩
theorem tw14709118622634607554:True:=⟨⟩
theorem tw11584554514229731266:True:=⟨⟩
theorem tw13489874871783156706:True:=⟨⟩
theorem tw11235969825798709251:True:=⟨⟩
theorem tw14680217914591942691:True:=⟨⟩
theorem tw7388973775159582755:True:=⟨⟩
theorem tw12155115245627684995:True:=⟨⟩
theorem tw14558870700953005187:True:=⟨⟩
theorem tw17763495919510952099:True:=⟨⟩
theorem tw10640875169293953187:True:=⟨⟩
theorem tw4185847217380688035:True:=⟨⟩
theorem tw2029890908205097187:True:=⟨⟩
theorem tw4225199862040592675:True:=⟨⟩
theorem tw3781317343254238499:True:=⟨⟩
theorem tw17626987610957702499:True:=⟨⟩
theorem tw11065829322547130723:True:=⟨⟩
theorem tw15668771208399205763:True:=⟨⟩
theorem tw11349822018756038051:True:=⟨⟩
theorem tw17731598847493916099:True:=⟨⟩
theorem tw18356987763802352099:True:=⟨⟩
theorem tw17897016701625471491:True:=⟨⟩
theorem tw12149248141112409603:True:=⟨⟩
theorem tw16305761865458796099:True:=⟨⟩
theorem tw16460054443430283907:True:=⟨⟩
theorem tw1233126189464455875:True:=⟨⟩
theorem tw148458156117953219:True:=⟨⟩
theorem tw15732801901099716323:True:=⟨⟩
theorem tw12432836704739896035:True:=⟨⟩
theorem tw13723249624433159907:True:=⟨⟩
theorem tw5826813578617631523:True:=⟨⟩
theorem tw18309536039533787971:True:=⟨⟩
theorem tw4234960223882091427:True:=⟨⟩
theorem tw446805934898465731:True:=⟨⟩
theorem tw16033283288872514499:True:=⟨⟩
theorem tw9647742536753456164:True:=⟨⟩
theorem tw479685064629720132:True:=⟨⟩
theorem tw8319260802977588292:True:=⟨⟩
theorem tw804074804434867332:True:=⟨⟩
theorem tw11611354874821660804:True:=⟨⟩
theorem tw5446270803370301572:True:=⟨⟩
theorem tw10371642923396968612:True:=⟨⟩
theorem tw15868043053192218820:True:=⟨⟩
theorem tw9401450263440123172:True:=⟨⟩
theorem tw4344210398260643140:True:=⟨⟩
theorem tw1789481989433581892:True:=⟨⟩
theorem tw6946233583850849636:True:=⟨⟩
theorem tw2009240621156097380:True:=⟨⟩
theorem tw12535085994025684356:True:=⟨⟩
theorem tw8260354148883318148:True:=⟨⟩
theorem tw16215918036992536196:True:=⟨⟩
theorem tw255879848297796292:True:=⟨⟩
theorem tw6317655849685757636:True:=⟨⟩
theorem tw4175703700082507460:True:=⟨⟩
theorem tw5747728293770742500:True:=⟨⟩
theorem tw16399038377671000836:True:=⟨⟩
theorem tw5613125458636346116:True:=⟨⟩
theorem tw2132995698867042084:True:=⟨⟩
theorem tw14638570898862553988:True:=⟨⟩
theorem tw12638087460221386628:True:=⟨⟩
theorem tw7361377950525823908:True:=⟨⟩
theorem tw17247109282019696580:True:=⟨⟩
theorem tw11505268892180739012:True:=⟨⟩
theorem tw27747305830609860:True:=⟨⟩
theorem tw16784729624300653540:True:=⟨⟩
theorem tw414074121086508037:True:=⟨⟩
theorem tw8313664668960636933:True:=⟨⟩
theorem tw6161900961421990949:True:=⟨⟩
theorem tw3324785703713610885:True:=⟨⟩
theorem tw11139858178447061125:True:=⟨⟩
theorem tw16064798368433628293:True:=⟨⟩
theorem tw8689110472461917349:True:=⟨⟩
theorem tw10675131420590743717:True:=⟨⟩
theorem tw12447402745222294757:True:=⟨⟩
theorem tw12852583768106070341:True:=⟨⟩
theorem tw1322816067907006821:True:=⟨⟩
theorem tw12663593857888477573:True:=⟨⟩
theorem tw8284466848841586085:True:=⟨⟩
theorem tw8268966614433035717:True:=⟨⟩
theorem tw12057842158698973701:True:=⟨⟩
theorem tw973186400857014821:True:=⟨⟩
theorem tw2884513158000027237:True:=⟨⟩
theorem tw8931389539197660869:True:=⟨⟩
theorem tw223554131661509:True:=⟨⟩
theorem tw15600888611484781285:True:=⟨⟩
theorem tw991824030113904421:True:=⟨⟩
theorem tw12945142167232607013:True:=⟨⟩
theorem tw17272578327575847749:True:=⟨⟩
theorem tw7872755481824316389:True:=⟨⟩
theorem tw340446225056199653:True:=⟨⟩
theorem tw8000801826411734054:True:=⟨⟩
theorem tw2628801451788008486:True:=⟨⟩
theorem tw5761785757117418566:True:=⟨⟩
theorem tw3122667624501251142:True:=⟨⟩
theorem tw8370174227646341222:True:=⟨⟩
theorem tw18343302288311556230:True:=⟨⟩
theorem tw11318155169280868614:True:=⟨⟩
theorem tw17230453147806072070:True:=⟨⟩
theorem tw1674976996508564838:True:=⟨⟩
theorem tw1493208959718282630:True:=⟨⟩
theorem tw13060268942746612102:True:=⟨⟩
theorem tw12673652444017043910:True:=⟨⟩
theorem tw6039872540444717510:True:=⟨⟩
theorem tw15665556528657249798:True:=⟨⟩
theorem tw18157214437743052326:True:=⟨⟩
theorem tw6727561065581190726:True:=⟨⟩
theorem tw12515357868689829446:True:=⟨⟩
theorem tw18147998157822505638:True:=⟨⟩
theorem tw8356495153218882246:True:=⟨⟩
theorem tw10816559387462731526:True:=⟨⟩
theorem tw6666625300979070758:True:=⟨⟩
theorem tw7508322769199518566:True:=⟨⟩
theorem tw1998390656183645126:True:=⟨⟩
theorem tw6963521487622530119:True:=⟨⟩
theorem tw10614549374354796647:True:=⟨⟩
theorem tw11772619633137213543:True:=⟨⟩
theorem tw13506329659643086983:True:=⟨⟩
theorem tw17034040398058218631:True:=⟨⟩
theorem tw8700366215738329287:True:=⟨⟩
theorem tw14148676286769499367:True:=⟨⟩
theorem tw10165026463891164391:True:=⟨⟩
theorem tw18004037686495905063:True:=⟨⟩
theorem tw7520416112041162055:True:=⟨⟩
theorem tw11016591024276315463:True:=⟨⟩
theorem tw2217496933976941959:True:=⟨⟩
theorem tw4668327450337225127:True:=⟨⟩
theorem tw551286371755887047:True:=⟨⟩
theorem tw17816251520360392231:True:=⟨⟩
theorem tw15305461326376107559:True:=⟨⟩
theorem tw12804363171596838503:True:=⟨⟩
theorem tw959444771177104071:True:=⟨⟩
theorem tw5713907713228545735:True:=⟨⟩
theorem tw13513100565282633511:True:=⟨⟩
theorem tw7782494242958356295:True:=⟨⟩
theorem tw14519635973299072903:True:=⟨⟩
theorem tw16145550834091371656:True:=⟨⟩
theorem tw3570549720512401608:True:=⟨⟩
theorem tw406435563821518024:True:=⟨⟩
theorem tw4524674537424713992:True:=⟨⟩
theorem tw11828014459095902568:True:=⟨⟩
theorem tw11391611044263822728:True:=⟨⟩
theorem tw8391019908956245384:True:=⟨⟩
theorem tw2465253765647058408:True:=⟨⟩
theorem tw3929885048587887112:True:=⟨⟩
theorem tw8191731352859765256:True:=⟨⟩
theorem tw18010191768056558152:True:=⟨⟩
theorem tw8746915787295786600:True:=⟨⟩
theorem tw12492125709264824968:True:=⟨⟩
theorem tw14877653656120059560:True:=⟨⟩
theorem tw8574375739302299368:True:=⟨⟩
theorem tw142684238808133384:True:=⟨⟩
theorem tw7118472877282711336:True:=⟨⟩
theorem tw1070563801505224488:True:=⟨⟩
theorem tw1838667596956169000:True:=⟨⟩
theorem tw10465577301907490632:True:=⟨⟩
theorem tw14662039478553361288:True:=⟨⟩
theorem tw2776716081298040712:True:=⟨⟩
theorem tw5274297952179000232:True:=⟨⟩
theorem tw8436540168054173672:True:=⟨⟩
theorem tw11665298704598274057:True:=⟨⟩
theorem tw15062228689350206473:True:=⟨⟩
theorem tw3014556998186784809:True:=⟨⟩
theorem tw14346764585655382089:True:=⟨⟩
theorem tw814821105767918665:True:=⟨⟩
theorem tw17480393209911805033:True:=⟨⟩
theorem tw9560996178521983081:True:=⟨⟩
theorem tw12662807428881466473:True:=⟨⟩
theorem tw1651222597864251529:True:=⟨⟩
theorem tw12342141821992284361:True:=⟨⟩
theorem tw1095521427022594249:True:=⟨⟩
theorem tw4957463575678330089:True:=⟨⟩
theorem tw7785908760038582569:True:=⟨⟩
theorem tw9970617935971419433:True:=⟨⟩
theorem tw4167793917879092585:True:=⟨⟩
theorem tw5829659177625407881:True:=⟨⟩
theorem tw172959118276006313:True:=⟨⟩
theorem tw9880439939794109865:True:=⟨⟩
theorem tw4352039284965914057:True:=⟨⟩
theorem tw11410238840996491721:True:=⟨⟩
theorem tw11221006166916601321:True:=⟨⟩
theorem tw14391221047805339177:True:=⟨⟩
theorem tw18014174394238003753:True:=⟨⟩
theorem tw6621026238195890729:True:=⟨⟩
theorem tw9528144153523786313:True:=⟨⟩
theorem tw16271755656070909545:True:=⟨⟩
theorem tw69303505013842569:True:=⟨⟩
theorem tw3456239326044875401:True:=⟨⟩
theorem tw3564379510761898825:True:=⟨⟩
theorem tw5253701500250017641:True:=⟨⟩
theorem tw17727247344155940777:True:=⟨⟩
theorem tw12888679055473227786:True:=⟨⟩
theorem tw12665752759109639178:True:=⟨⟩
theorem tw3326074463964529674:True:=⟨⟩
theorem tw9029530197256302698:True:=⟨⟩
theorem tw15564482006205080714:True:=⟨⟩
theorem tw7871874293818993802:True:=⟨⟩
theorem tw1692099086663818:True:=⟨⟩
theorem tw5827215566215729290:True:=⟨⟩
theorem tw2825423868394059978:True:=⟨⟩
theorem tw16843707860728561898:True:=⟨⟩
theorem tw12872266299391595754:True:=⟨⟩
theorem tw13402389646393271530:True:=⟨⟩
theorem tw10260721482538772714:True:=⟨⟩
theorem tw10963563002490685738:True:=⟨⟩
theorem tw14659511994109476138:True:=⟨⟩
theorem tw4953134469472042282:True:=⟨⟩
theorem tw4966641860803385642:True:=⟨⟩
theorem tw1810917905033373066:True:=⟨⟩
theorem tw6507718670451756490:True:=⟨⟩
theorem tw17780023711255095818:True:=⟨⟩
theorem tw15009434009613510218:True:=⟨⟩
theorem tw8811588557112279690:True:=⟨⟩
theorem tw7585097073238732426:True:=⟨⟩
theorem tw15755536824875745962:True:=⟨⟩
theorem tw17045065254543637162:True:=⟨⟩
theorem tw1164142701873449706:True:=⟨⟩
theorem tw3898934641383479114:True:=⟨⟩
theorem tw13369788278482446154:True:=⟨⟩
theorem tw3407617338263279466:True:=⟨⟩
theorem tw11240703315176779626:True:=⟨⟩
theorem tw18393106756845476810:True:=⟨⟩
theorem tw16263184713596750891:True:=⟨⟩
theorem tw8272640203616598091:True:=⟨⟩
theorem tw2847982273504211019:True:=⟨⟩
theorem tw15065616543350955115:True:=⟨⟩
theorem tw4883450919814039659:True:=⟨⟩
theorem tw4839349430579310763:True:=⟨⟩
theorem tw11209170392208779467:True:=⟨⟩
theorem tw16105980303250580715:True:=⟨⟩
theorem tw8720629964007598347:True:=⟨⟩
theorem tw13647249064284181803:True:=⟨⟩
theorem tw8942063244047066443:True:=⟨⟩
theorem tw11248322023436733771:True:=⟨⟩
theorem tw18318833871073108299:True:=⟨⟩
theorem tw3659626176394246539:True:=⟨⟩
theorem tw16333345682835588523:True:=⟨⟩
theorem tw11297988575010736555:True:=⟨⟩
theorem tw16616591429644045803:True:=⟨⟩
theorem tw3644421074671102443:True:=⟨⟩
theorem tw3589068223384855051:True:=⟨⟩
theorem tw705083052231670283:True:=⟨⟩
theorem tw13290642043921162763:True:=⟨⟩
theorem tw9390493881362973323:True:=⟨⟩
theorem tw17298418703545026187:True:=⟨⟩
theorem tw2906847284242813611:True:=⟨⟩
theorem tw7711153172250774187:True:=⟨⟩
theorem tw14460402916827066155:True:=⟨⟩
theorem tw2652951257277080395:True:=⟨⟩
theorem tw2705344863541257067:True:=⟨⟩
theorem tw2998763307702933451:True:=⟨⟩
theorem tw9579783253905945547:True:=⟨⟩
theorem tw5342949208716229708:True:=⟨⟩
theorem tw8279914043078593644:True:=⟨⟩
theorem tw2300847627974489260:True:=⟨⟩
theorem tw8879281475865656492:True:=⟨⟩
theorem tw9116253402405227692:True:=⟨⟩
theorem tw13411398741555966188:True:=⟨⟩
theorem tw2193338730653814028:True:=⟨⟩
theorem tw2762358444634692876:True:=⟨⟩
theorem tw12630790775968924972:True:=⟨⟩
theorem tw316513036157490540:True:=⟨⟩
theorem tw13636559455675586956:True:=⟨⟩
theorem tw15322108876137079180:True:=⟨⟩
theorem tw18413654095203984812:True:=⟨⟩
theorem tw16485313716644730284:True:=⟨⟩
theorem tw7182030378391445996:True:=⟨⟩
theorem tw5158207890595070476:True:=⟨⟩
theorem tw7636013950730256940:True:=⟨⟩
theorem tw2524480784604905100:True:=⟨⟩
theorem tw8531119434867632812:True:=⟨⟩
theorem tw10138128974949934796:True:=⟨⟩
theorem tw12565861435382487788:True:=⟨⟩
theorem tw5646706876788729612:True:=⟨⟩
theorem tw5608910040133100300:True:=⟨⟩
theorem tw16614085491019094860:True:=⟨⟩
theorem tw8050287165404839756:True:=⟨⟩
theorem tw1471613704930267020:True:=⟨⟩
theorem tw5169948978899986348:True:=⟨⟩
theorem tw14559974418810851276:True:=⟨⟩
theorem tw15685937578506338284:True:=⟨⟩
theorem tw12979042240338234413:True:=⟨⟩
theorem tw12033011744701911277:True:=⟨⟩
theorem tw15253702384435135757:True:=⟨⟩
theorem tw13556592242131978541:True:=⟨⟩
theorem tw6961839218934229325:True:=⟨⟩
theorem tw5185266258072444237:True:=⟨⟩
theorem tw15325485934264770957:True:=⟨⟩
theorem tw3202349340791921101:True:=⟨⟩
theorem tw13467309590465707501:True:=⟨⟩
theorem tw16605008379723577901:True:=⟨⟩
theorem tw1176300802354936461:True:=⟨⟩
theorem tw3294344606106364621:True:=⟨⟩
theorem tw1857252089040045805:True:=⟨⟩
theorem tw4946800105160789741:True:=⟨⟩
theorem tw16816140485362946829:True:=⟨⟩
theorem tw13146330751695407885:True:=⟨⟩
theorem tw2279425801534111533:True:=⟨⟩
theorem tw10366376319315502925:True:=⟨⟩
theorem tw3518983751686570829:True:=⟨⟩
theorem tw11958822522786353005:True:=⟨⟩
theorem tw2155329393317953389:True:=⟨⟩
theorem tw7516584512747722669:True:=⟨⟩
theorem tw18051075738480621485:True:=⟨⟩
theorem tw11222216231516976077:True:=⟨⟩
theorem tw8347089266979222574:True:=⟨⟩
theorem tw6662404019563743310:True:=⟨⟩
theorem tw7846966988328528974:True:=⟨⟩
theorem tw11911922860427344974:True:=⟨⟩
theorem tw13015085850352463982:True:=⟨⟩
theorem tw3202698696786238606:True:=⟨⟩
theorem tw2933589444133122286:True:=⟨⟩
theorem tw2760027016102077710:True:=⟨⟩
theorem tw8388937907845962126:True:=⟨⟩
theorem tw14992478944273290638:True:=⟨⟩
theorem tw17497167629976293806:True:=⟨⟩
theorem tw14601489497815525838:True:=⟨⟩
theorem tw7194900632866929134:True:=⟨⟩
theorem tw7664742299915855374:True:=⟨⟩
theorem tw1310740154083184174:True:=⟨⟩
theorem tw11665773674813749806:True:=⟨⟩
theorem tw3014543912277250638:True:=⟨⟩
theorem tw8898696726611545678:True:=⟨⟩
theorem tw15519606282463019630:True:=⟨⟩
theorem tw13589850996100153966:True:=⟨⟩
theorem tw4831936459248199278:True:=⟨⟩
theorem tw14479200921768360590:True:=⟨⟩
theorem tw15974316636878146254:True:=⟨⟩
theorem tw13144311177402507022:True:=⟨⟩
theorem tw7964947798838697806:True:=⟨⟩
theorem tw9228958468798727054:True:=⟨⟩
theorem tw6380426465814688686:True:=⟨⟩
theorem tw14860431927616966703:True:=⟨⟩
theorem tw2730550467008116783:True:=⟨⟩
theorem tw3843838544630774863:True:=⟨⟩
theorem tw7245828837323920495:True:=⟨⟩
theorem tw10055316573959357583:True:=⟨⟩
theorem tw7236642302606917775:True:=⟨⟩
theorem tw2312234597897162927:True:=⟨⟩
theorem tw17750915955724488943:True:=⟨⟩
theorem tw3942964598871748847:True:=⟨⟩
theorem tw15101066761830473999:True:=⟨⟩
theorem tw13242715891261329711:True:=⟨⟩
theorem tw2106385770742135087:True:=⟨⟩
theorem tw12835113037414591823:True:=⟨⟩
theorem tw15028002180274706799:True:=⟨⟩
theorem tw5743916669927766415:True:=⟨⟩
theorem tw3926404432481519023:True:=⟨⟩
theorem tw11994873342402750895:True:=⟨⟩
theorem tw11291507761906093519:True:=⟨⟩
theorem tw2663658355995162063:True:=⟨⟩
theorem tw14993149778505727503:True:=⟨⟩
theorem tw5125469393077077519:True:=⟨⟩
theorem tw371366996441221775:True:=⟨⟩
theorem tw107663700657465999:True:=⟨⟩
theorem tw7569969795338822383:True:=⟨⟩
theorem tw6272474495528890095:True:=⟨⟩
theorem tw8389397069577244463:True:=⟨⟩
theorem tw9784854065942701871:True:=⟨⟩
theorem tw10616666419151238991:True:=⟨⟩
theorem tw7466261895316164463:True:=⟨⟩
theorem tw6631761337991858288:True:=⟨⟩
theorem tw2167859969633720592:True:=⟨⟩
theorem tw10981841600095664432:True:=⟨⟩
theorem tw6238086621153207632:True:=⟨⟩
theorem tw12134400394510070128:True:=⟨⟩
theorem tw6675454238508013968:True:=⟨⟩
theorem tw16471788133834839504:True:=⟨⟩
theorem tw2099299625239015888:True:=⟨⟩
theorem tw16805232742133743088:True:=⟨⟩
theorem tw8710425904455180816:True:=⟨⟩
theorem tw7903543899458994736:True:=⟨⟩
theorem tw9194028393341764208:True:=⟨⟩
theorem tw8255118484640833168:True:=⟨⟩
theorem tw15267142524436192912:True:=⟨⟩
theorem tw8521423339729109648:True:=⟨⟩
theorem tw16166294513585316528:True:=⟨⟩
theorem tw5233622189241546448:True:=⟨⟩
theorem tw6255908437480458992:True:=⟨⟩
theorem tw1268178560800050928:True:=⟨⟩
theorem tw16650417093249033008:True:=⟨⟩
theorem tw2342199881438622512:True:=⟨⟩
theorem tw7528290719741685584:True:=⟨⟩
theorem tw3035618353204362096:True:=⟨⟩
theorem tw1736534288205651888:True:=⟨⟩
theorem tw16772997000975406064:True:=⟨⟩
theorem tw6408162763068431344:True:=⟨⟩
theorem tw17262997070383295505:True:=⟨⟩
theorem tw11141693515790335057:True:=⟨⟩
theorem tw8039835524709411025:True:=⟨⟩
theorem tw9238584761710475473:True:=⟨⟩
theorem tw9915752889882094833:True:=⟨⟩
theorem tw13895423420891961617:True:=⟨⟩
theorem tw1846751464178972977:True:=⟨⟩
theorem tw2256076052133414193:True:=⟨⟩
theorem tw1021254763425147185:True:=⟨⟩
theorem tw15847891791590437201:True:=⟨⟩
theorem tw2952309682964817265:True:=⟨⟩
theorem tw2471717369185577393:True:=⟨⟩
theorem tw18221268354360077745:True:=⟨⟩
theorem tw12164543557195360721:True:=⟨⟩
theorem tw3958982419114606129:True:=⟨⟩
theorem tw16497037104816333361:True:=⟨⟩
theorem tw15118697769390991953:True:=⟨⟩
theorem tw12495022546571541105:True:=⟨⟩
theorem tw12863800111718491761:True:=⟨⟩
theorem tw15828035448035932785:True:=⟨⟩
theorem tw8070853781689581201:True:=⟨⟩
theorem tw12606463732463240881:True:=⟨⟩
theorem tw16105321197074877105:True:=⟨⟩
theorem tw6470524641739969201:True:=⟨⟩
theorem tw3160988891463844593:True:=⟨⟩
theorem tw38520993200678641:True:=⟨⟩
theorem tw6328185119416893169:True:=⟨⟩
theorem tw944144346143331089:True:=⟨⟩
theorem tw7276018089550385969:True:=⟨⟩
theorem tw16667595203846173489:True:=⟨⟩
theorem tw8895588956186880849:True:=⟨⟩
theorem tw4733080497674706769:True:=⟨⟩
theorem tw10766093510570506161:True:=⟨⟩
theorem tw9572939491811825617:True:=⟨⟩
theorem tw7934146475014185937:True:=⟨⟩
theorem tw13102884664969646065:True:=⟨⟩
theorem tw9136606648210185201:True:=⟨⟩
theorem tw13933869583503130674:True:=⟨⟩
theorem tw14817372623278510258:True:=⟨⟩
theorem tw16445639194488257746:True:=⟨⟩
theorem tw1921073173701634258:True:=⟨⟩
theorem tw13191694778178706642:True:=⟨⟩
theorem tw257101829523157330:True:=⟨⟩
theorem tw5021887527352977746:True:=⟨⟩
theorem tw4354550883577122194:True:=⟨⟩
theorem tw8553853561104796050:True:=⟨⟩
theorem tw7643335690928335282:True:=⟨⟩
theorem tw17536793924410495410:True:=⟨⟩
theorem tw12694999766451049906:True:=⟨⟩
theorem tw366107448559396274:True:=⟨⟩
theorem tw6097439721500608978:True:=⟨⟩
theorem tw8254179806848594386:True:=⟨⟩
theorem tw9616957434543607314:True:=⟨⟩
theorem tw9365701185699235378:True:=⟨⟩
theorem tw4228783034750151250:True:=⟨⟩
theorem tw5759274330210565746:True:=⟨⟩
theorem tw6530280402996394610:True:=⟨⟩
theorem tw15289821682761221778:True:=⟨⟩
theorem tw224573401529391794:True:=⟨⟩
theorem tw4546657863494063826:True:=⟨⟩
theorem tw10545957544285330194:True:=⟨⟩
theorem tw5233958344116820754:True:=⟨⟩
theorem tw10303918903310405426:True:=⟨⟩
theorem tw18144430735764811570:True:=⟨⟩
theorem tw4872896686114045746:True:=⟨⟩
theorem tw17047497696164118354:True:=⟨⟩
theorem tw11046327741297248114:True:=⟨⟩
theorem tw2032898748130391954:True:=⟨⟩
theorem tw7369222055884097490:True:=⟨⟩
theorem tw12716384437847003090:True:=⟨⟩
theorem tw9242721731193940946:True:=⟨⟩
theorem tw11031722219751621618:True:=⟨⟩
theorem tw10093426606232163347:True:=⟨⟩
theorem tw8988083704633976947:True:=⟨⟩
theorem tw9896092323262525587:True:=⟨⟩
theorem tw13171048222017426643:True:=⟨⟩
theorem tw4260800455974710483:True:=⟨⟩
theorem tw2503659128712526035:True:=⟨⟩
theorem tw9343979400720897331:True:=⟨⟩
theorem tw10050383289555858803:True:=⟨⟩
theorem tw14485808458596518291:True:=⟨⟩
theorem tw3981801718191202739:True:=⟨⟩
theorem tw2169431041327519219:True:=⟨⟩
theorem tw14372915805626682899:True:=⟨⟩
theorem tw7268320744049778195:True:=⟨⟩
theorem tw14695080818911585843:True:=⟨⟩
theorem tw157194394837402195:True:=⟨⟩
theorem tw2876956528320546387:True:=⟨⟩
theorem tw6748163829048584819:True:=⟨⟩
theorem tw1384834744559062675:True:=⟨⟩
theorem tw5259024973034328947:True:=⟨⟩
theorem tw17981212746304660339:True:=⟨⟩
theorem tw7856313036661669747:True:=⟨⟩
theorem tw11713554565635098579:True:=⟨⟩
theorem tw7186598275357311955:True:=⟨⟩
theorem tw6643239400200013811:True:=⟨⟩
theorem tw5361335067695380500:True:=⟨⟩
theorem tw16978201229418832020:True:=⟨⟩
theorem tw15687836268564968596:True:=⟨⟩
theorem tw16529085131566433492:True:=⟨⟩
theorem tw15508093832543864052:True:=⟨⟩
theorem tw14447627067313482996:True:=⟨⟩
theorem tw15637867180171457780:True:=⟨⟩
theorem tw8781690875991033204:True:=⟨⟩
theorem tw13888270808446392788:True:=⟨⟩
theorem tw1502682762107194868:True:=⟨⟩
theorem tw14785594605532058100:True:=⟨⟩
theorem tw7932021833667875316:True:=⟨⟩
theorem tw15450822125101096436:True:=⟨⟩
theorem tw11055383420868076020:True:=⟨⟩
theorem tw13023685838535298580:True:=⟨⟩
theorem tw13807290103257571860:True:=⟨⟩
theorem tw4173583293213093396:True:=⟨⟩
theorem tw11987459533452722708:True:=⟨⟩
theorem tw5429024108133522036:True:=⟨⟩
theorem tw11353203283378412212:True:=⟨⟩
theorem tw14048299576330353364:True:=⟨⟩
theorem tw3130482347684821812:True:=⟨⟩
theorem tw10092092357301796692:True:=⟨⟩
theorem tw10095316653741779860:True:=⟨⟩
theorem tw9675697560685033396:True:=⟨⟩
theorem tw6029143161889178548:True:=⟨⟩
theorem tw3655674487292618676:True:=⟨⟩
theorem tw1223330171259668468:True:=⟨⟩
theorem tw5884330234334515317:True:=⟨⟩
theorem tw4090406975071231093:True:=⟨⟩
theorem tw2369201557842971765:True:=⟨⟩
theorem tw14993151290218674325:True:=⟨⟩
theorem tw12154270229725953205:True:=⟨⟩
theorem tw6529864676356022581:True:=⟨⟩
theorem tw5873121492800381269:True:=⟨⟩
theorem tw9192781617581624693:True:=⟨⟩
theorem tw3485979611150933397:True:=⟨⟩
theorem tw2008416664624022965:True:=⟨⟩
theorem tw613363620677178901:True:=⟨⟩
theorem tw9553187739387417237:True:=⟨⟩
theorem tw8287977304975591093:True:=⟨⟩
theorem tw7358421712543699637:True:=⟨⟩
theorem tw10266047841864237781:True:=⟨⟩
theorem tw12363525165198117621:True:=⟨⟩
theorem tw4754993447565485845:True:=⟨⟩
theorem tw10152875286858217237:True:=⟨⟩
theorem tw13121397139169782581:True:=⟨⟩
theorem tw213962650666965813:True:=⟨⟩
theorem tw16503121083895256917:True:=⟨⟩
theorem tw7308624927140988757:True:=⟨⟩
theorem tw10617681663944979317:True:=⟨⟩
theorem tw17163020196538847125:True:=⟨⟩
theorem tw5310641695333794709:True:=⟨⟩
theorem tw9893277136443961237:True:=⟨⟩
theorem tw17451458347218175989:True:=⟨⟩
theorem tw10529908747655095285:True:=⟨⟩
theorem tw12289250088813857878:True:=⟨⟩
theorem tw6956163489452800118:True:=⟨⟩
theorem tw7876788564036044918:True:=⟨⟩
theorem tw5195109209352635542:True:=⟨⟩
theorem tw7065612335981439254:True:=⟨⟩
theorem tw2197544781560265046:True:=⟨⟩
theorem tw3490343788854251926:True:=⟨⟩
theorem tw18028080222651424150:True:=⟨⟩
theorem tw6768980705752948118:True:=⟨⟩
theorem tw16457569784825247158:True:=⟨⟩
theorem tw630522440413803958:True:=⟨⟩
theorem tw15378499741107177942:True:=⟨⟩
theorem tw11250878531674198550:True:=⟨⟩
theorem tw7932383485279502902:True:=⟨⟩
theorem tw5306617359794374230:True:=⟨⟩
theorem tw3636326925518178902:True:=⟨⟩
theorem tw3327988372505250390:True:=⟨⟩
theorem tw5227006786641294934:True:=⟨⟩
theorem tw17466838820495629942:True:=⟨⟩
theorem tw1490687774346334838:True:=⟨⟩
theorem tw15772122640180470390:True:=⟨⟩
theorem tw6667758819231298166:True:=⟨⟩
theorem tw13489610499140885142:True:=⟨⟩
theorem tw17525088312649545462:True:=⟨⟩
theorem tw4377009411551277846:True:=⟨⟩
theorem tw16681184934414282518:True:=⟨⟩
theorem tw3774154856667190134:True:=⟨⟩
theorem tw9208010711413268374:True:=⟨⟩
theorem tw14288397954713781174:True:=⟨⟩
theorem tw8679695684097684438:True:=⟨⟩
theorem tw13308747479883284631:True:=⟨⟩
theorem tw17315872268954120343:True:=⟨⟩
theorem tw7630700168279938199:True:=⟨⟩
theorem tw16755309085029235863:True:=⟨⟩
theorem tw5465639274994184375:True:=⟨⟩
theorem tw7884327928748954807:True:=⟨⟩
theorem tw13126788718640519383:True:=⟨⟩
theorem tw12461728303822974327:True:=⟨⟩
theorem tw10601424644138434967:True:=⟨⟩
theorem tw8144052406850015735:True:=⟨⟩
theorem tw3351710335809837591:True:=⟨⟩
theorem tw42352199872806455:True:=⟨⟩
theorem tw5358574784561361559:True:=⟨⟩
theorem tw8941220395957335735:True:=⟨⟩
theorem tw3642280957787911927:True:=⟨⟩
theorem tw13205286948970387223:True:=⟨⟩
theorem tw11886366781707153175:True:=⟨⟩
theorem tw14368042660066897719:True:=⟨⟩
theorem tw7457625693258927927:True:=⟨⟩
theorem tw5448886544110487383:True:=⟨⟩
theorem tw12841831693444218743:True:=⟨⟩
theorem tw11695527672271669111:True:=⟨⟩
theorem tw323320424319512471:True:=⟨⟩
theorem tw14698268317305861015:True:=⟨⟩
theorem tw467656290555221943:True:=⟨⟩
theorem tw13235004630636216376:True:=⟨⟩
theorem tw14595734675103165528:True:=⟨⟩
theorem tw11064483091099141208:True:=⟨⟩
theorem tw12815540743821771896:True:=⟨⟩
theorem tw8417478391603804312:True:=⟨⟩
theorem tw15243155306583078040:True:=⟨⟩
theorem tw16201398105724136632:True:=⟨⟩
theorem tw7341597151700937944:True:=⟨⟩
theorem tw6429524360901820664:True:=⟨⟩
theorem tw4844525808547321080:True:=⟨⟩
theorem tw18389899219707116888:True:=⟨⟩
theorem tw17775645177762993496:True:=⟨⟩
theorem tw15325640264424093048:True:=⟨⟩
theorem tw7688583779493360024:True:=⟨⟩
theorem tw11854056126102632888:True:=⟨⟩
theorem tw7340422333376986584:True:=⟨⟩
theorem tw6952699004889131576:True:=⟨⟩
theorem tw12132925394231753304:True:=⟨⟩
theorem tw6813877308699539096:True:=⟨⟩
theorem tw16698538139473916696:True:=⟨⟩
theorem tw4353101929536716600:True:=⟨⟩
theorem tw198797145904045880:True:=⟨⟩
theorem tw10300813011590233944:True:=⟨⟩
theorem tw3278281303609153400:True:=⟨⟩
theorem tw10473052007065378744:True:=⟨⟩
theorem tw16573886944050731992:True:=⟨⟩
theorem tw9617241767811996632:True:=⟨⟩
theorem tw4272452820977303544:True:=⟨⟩
theorem tw7111344451382586360:True:=⟨⟩
theorem tw3969813347995411481:True:=⟨⟩
theorem tw3847122044777448569:True:=⟨⟩
theorem tw12022768568585343161:True:=⟨⟩
theorem tw1442206462245445849:True:=⟨⟩
theorem tw8091909881854491865:True:=⟨⟩
theorem tw15764743912707426553:True:=⟨⟩
theorem tw374559332372003097:True:=⟨⟩
theorem tw15588694324383537465:True:=⟨⟩
theorem tw5812900612040710457:True:=⟨⟩
theorem tw9285430020642406745:True:=⟨⟩
theorem tw14859602555852924249:True:=⟨⟩
theorem tw16319511089394161113:True:=⟨⟩
theorem tw525763806463647193:True:=⟨⟩
theorem tw5285087597273292281:True:=⟨⟩
theorem tw6029941077664381433:True:=⟨⟩
theorem tw7696705553783057913:True:=⟨⟩
theorem tw15267324073852317209:True:=⟨⟩
theorem tw13536544044786425433:True:=⟨⟩
theorem tw16689649341063259737:True:=⟨⟩
theorem tw10581525020007502585:True:=⟨⟩
theorem tw7718749121845140217:True:=⟨⟩
theorem tw15622879784599281401:True:=⟨⟩
theorem tw5633113074091382585:True:=⟨⟩
theorem tw4049941387946632089:True:=⟨⟩
theorem tw17351125609067792281:True:=⟨⟩
theorem tw12230702722003336185:True:=⟨⟩
theorem tw1395319613173321721:True:=⟨⟩
theorem tw11208916696840738874:True:=⟨⟩
theorem tw12088024865587182650:True:=⟨⟩
theorem tw7520417197817657434:True:=⟨⟩
theorem tw4008813688081097818:True:=⟨⟩
theorem tw15577470374516625562:True:=⟨⟩
theorem tw5840642836929910938:True:=⟨⟩
theorem tw16909957818933036250:True:=⟨⟩
theorem tw7226449449232426234:True:=⟨⟩
theorem tw14968292255378159898:True:=⟨⟩
theorem tw848951579228100922:True:=⟨⟩
theorem tw674144486542535994:True:=⟨⟩
theorem tw6120125058247379354:True:=⟨⟩
theorem tw8445615701157131738:True:=⟨⟩
theorem tw3107209812816302554:True:=⟨⟩
theorem tw1210587582086867482:True:=⟨⟩
theorem tw5114830671553857050:True:=⟨⟩
theorem tw10331901990905841210:True:=⟨⟩
theorem tw15061100273171310394:True:=⟨⟩
theorem tw1335275279561664346:True:=⟨⟩
theorem tw6015829899257338714:True:=⟨⟩
theorem tw13930163979637145466:True:=⟨⟩
theorem tw6422185765607295866:True:=⟨⟩
theorem tw9546732079622776762:True:=⟨⟩
theorem tw8364895056803690458:True:=⟨⟩
theorem tw15694514830922828762:True:=⟨⟩
theorem tw17574274221928505338:True:=⟨⟩
theorem tw3572048522596855835:True:=⟨⟩
theorem tw7370106389836347419:True:=⟨⟩
theorem tw6756288316261630011:True:=⟨⟩
theorem tw16325808940022408251:True:=⟨⟩
theorem tw7166207553406716987:True:=⟨⟩
theorem tw11925543801356229723:True:=⟨⟩
theorem tw5405755910455272571:True:=⟨⟩
theorem tw6792354677028369563:True:=⟨⟩
theorem tw11626512705961872539:True:=⟨⟩
theorem tw517989075466694939:True:=⟨⟩
theorem tw15153760500753258779:True:=⟨⟩
theorem tw3705899334089065787:True:=⟨⟩
theorem tw10520955249073130843:True:=⟨⟩
theorem tw2368154215576444283:True:=⟨⟩
theorem tw11358163572475147707:True:=⟨⟩
theorem tw6746206960961439195:True:=⟨⟩
theorem tw18163131313410072027:True:=⟨⟩
theorem tw15111215229435409883:True:=⟨⟩
theorem tw900507947304629755:True:=⟨⟩
theorem tw14687588337763350107:True:=⟨⟩
theorem tw997103917294948987:True:=⟨⟩
theorem tw1828826274327102107:True:=⟨⟩
theorem tw12932254661576403611:True:=⟨⟩
theorem tw1999416505763413659:True:=⟨⟩
theorem tw17522412983523332859:True:=⟨⟩
theorem tw770093049529988859:True:=⟨⟩
theorem tw3529838907886844699:True:=⟨⟩
theorem tw16412638427487214523:True:=⟨⟩
theorem tw11721785209115285467:True:=⟨⟩
theorem tw1547291293823343611:True:=⟨⟩
theorem tw6952757465272676380:True:=⟨⟩
theorem tw13236471500842176604:True:=⟨⟩
theorem tw11964023844321036412:True:=⟨⟩
theorem tw7842851237935820924:True:=⟨⟩
theorem tw9137318679960874108:True:=⟨⟩
theorem tw16342599551240369276:True:=⟨⟩
theorem tw12443015114815242428:True:=⟨⟩
theorem tw10297353722311657660:True:=⟨⟩
theorem tw2318573590747500732:True:=⟨⟩
theorem tw17808763807896825148:True:=⟨⟩
theorem tw13321800979061733756:True:=⟨⟩
theorem tw10962865318806907420:True:=⟨⟩
theorem tw6588206783884659228:True:=⟨⟩
theorem tw10036294356813290140:True:=⟨⟩
theorem tw17321408583339717308:True:=⟨⟩
theorem tw14184957652670700220:True:=⟨⟩
theorem tw10596862110563801884:True:=⟨⟩
theorem tw3565513979173410620:True:=⟨⟩
theorem tw17826055556156084028:True:=⟨⟩
theorem tw345094409551213404:True:=⟨⟩
theorem tw14764682193049281404:True:=⟨⟩
theorem tw5846070029046589372:True:=⟨⟩
theorem tw10630088677239226300:True:=⟨⟩
theorem tw5105452273323115484:True:=⟨⟩
theorem tw1793165262891732956:True:=⟨⟩
theorem tw3894029968660334621:True:=⟨⟩
theorem tw12891830664504782877:True:=⟨⟩
theorem tw16841615660261192733:True:=⟨⟩
theorem tw9475599458388526109:True:=⟨⟩
theorem tw14906269139500227613:True:=⟨⟩
theorem tw793282245785014365:True:=⟨⟩
theorem tw12797003583433006173:True:=⟨⟩
theorem tw12585422808954922077:True:=⟨⟩
theorem tw17518674137670362333:True:=⟨⟩
theorem tw4877758579702403293:True:=⟨⟩
theorem tw14110425201272540445:True:=⟨⟩
theorem tw4174949738346732861:True:=⟨⟩
theorem tw12444323744534163837:True:=⟨⟩
theorem tw3059915065108696477:True:=⟨⟩
theorem tw17527421499620634013:True:=⟨⟩
theorem tw2377288151014903229:True:=⟨⟩
theorem tw666071337449586109:True:=⟨⟩
theorem tw6827919497815554525:True:=⟨⟩
theorem tw5363951538768316957:True:=⟨⟩
theorem tw6523276566465873533:True:=⟨⟩
theorem tw8590046593811680957:True:=⟨⟩
theorem tw17416311107018566333:True:=⟨⟩
theorem tw12512510992433890013:True:=⟨⟩
theorem tw762159470267549437:True:=⟨⟩
theorem tw6164334347868044029:True:=⟨⟩
theorem tw18066873853415622429:True:=⟨⟩
theorem tw9183276860393988893:True:=⟨⟩
theorem tw9767528033080729405:True:=⟨⟩
theorem tw11314434840302241629:True:=⟨⟩
theorem tw6442023590817196925:True:=⟨⟩
theorem tw58151355618850749:True:=⟨⟩
theorem tw7695122193703272381:True:=⟨⟩
theorem tw7649841530516249565:True:=⟨⟩
theorem tw7183353350235999197:True:=⟨⟩
theorem tw2122905370919352317:True:=⟨⟩
theorem tw11515392203007582205:True:=⟨⟩
theorem tw2745505221643754526:True:=⟨⟩
theorem tw5760843892349463614:True:=⟨⟩
theorem tw11773246705409818718:True:=⟨⟩
theorem tw15872614675589485694:True:=⟨⟩
theorem tw1289045183777252510:True:=⟨⟩
theorem tw12302220924734318782:True:=⟨⟩
theorem tw11453776444219503806:True:=⟨⟩
theorem tw13453082756096054462:True:=⟨⟩
theorem tw6045262649907470526:True:=⟨⟩
theorem tw4023128435507181822:True:=⟨⟩
theorem tw10086831714178539806:True:=⟨⟩
theorem tw16028913145497989438:True:=⟨⟩
theorem tw14483027014360012094:True:=⟨⟩
theorem tw3155063864047981918:True:=⟨⟩
theorem tw9102066890398078334:True:=⟨⟩
theorem tw11319724240875585950:True:=⟨⟩
theorem tw5655947720931868094:True:=⟨⟩
theorem tw7400099293147257310:True:=⟨⟩
theorem tw17148386956309054:True:=⟨⟩
theorem tw8780916396538809982:True:=⟨⟩
theorem tw18294650241084347006:True:=⟨⟩
theorem tw6269230170924315262:True:=⟨⟩
theorem tw13167172233783347998:True:=⟨⟩
theorem tw4401982007570044702:True:=⟨⟩
theorem tw10686089597320260382:True:=⟨⟩
theorem tw16196155616653718334:True:=⟨⟩
theorem tw7427508674530571070:True:=⟨⟩
theorem tw15852947748299840350:True:=⟨⟩
theorem tw1437366623302941534:True:=⟨⟩
theorem tw18001120876552312734:True:=⟨⟩
theorem tw9827714869228335038:True:=⟨⟩
theorem tw15079132833681435582:True:=⟨⟩
theorem tw490174658292010015:True:=⟨⟩
theorem tw11378253952059841631:True:=⟨⟩
theorem tw762815274048530527:True:=⟨⟩
theorem tw11087434543486561503:True:=⟨⟩
theorem tw8442623348879084767:True:=⟨⟩
theorem tw3325672591918016863:True:=⟨⟩
theorem tw13935774002065944959:True:=⟨⟩
theorem tw14243305601596515775:True:=⟨⟩
theorem tw18371858799548086719:True:=⟨⟩
theorem tw9057837642157781471:True:=⟨⟩
theorem tw6854682194526715391:True:=⟨⟩
theorem tw7855459610065640991:True:=⟨⟩
theorem tw18271578555237577247:True:=⟨⟩
theorem tw6099342693092556319:True:=⟨⟩
theorem tw9547625354565592639:True:=⟨⟩
theorem tw9288507673793647263:True:=⟨⟩
theorem tw7896435790640132799:True:=⟨⟩
theorem tw7907563779791747807:True:=⟨⟩
theorem tw5812867358816036607:True:=⟨⟩
theorem tw15118217009588299519:True:=⟨⟩
theorem tw1074508780726135583:True:=⟨⟩
theorem tw338866776940194783:True:=⟨⟩
theorem tw7365877894620914687:True:=⟨⟩
end PySem.W.Fast
set_option maxRecDepth 100000 in
set_option maxHeartbeats 0 in
theorem PySem.Challenge.cw_meterhouse_k33_how_calls_end_holds : PySem.Challenge.rw_meterhouse_k33_how_calls_end.Holds := by
  w_on; o_law; z_head; (case hw=>w_witness2)
  k_fill
  refine L2.ZlM (fun _=>by kernel_rfl) ?_
  refine L2.ZkM (l:=PySem.Challenge.rw_meterhouse_k33_how_calls_end) (n:=63) (k:=50) (x := "_law_script") (CX:=L2.CX0) (sp:=My.spLaw) rfl (by decide) rfl ⟨rfl,by decide,by decide⟩ (fun w h Y=>Y) ?F ?S ?C
  case F =>
    intro w mg fa h KX G hmg
    have D_added:L2.Zao (L2.KOf KX) mg "added" My.ZgR:=by
      dsimp only [L2.KOf]
      refine' L2.Zak KX G ?a ?l ?c ?k
      (case a=>k_is); (case l=>k_is); (case c=>k_is); (case k=>k_is)
    have D_lessened:L2.Zao (L2.KOf KX) mg "lessened" My.Zc6:=by
      dsimp only [L2.KOf]
      refine' L2.Zak KX G ?a ?l ?c ?k
      (case a=>k_is); (case l=>k_is); (case c=>k_is); (case k=>k_is)
    have D_multiplied:L2.Zao (L2.KOf KX) mg "multiplied" My.Zcj:=by
      dsimp only [L2.KOf]
      refine' L2.Zak KX G ?a ?l ?c ?k
      (case a=>k_is); (case l=>k_is); (case c=>k_is); (case k=>k_is)
    have D_contained:L2.Zao (L2.KOf KX) mg "contained" My.ZcF:=by
      dsimp only [L2.KOf]
      refine' L2.Zak KX G ?a ?l ?c ?k
      (case a=>k_is); (case l=>k_is); (case c=>k_is); (case k=>k_is)
    have D_left_over:L2.Zao (L2.KOf KX) mg "left_over" My.ZcG:=by
      dsimp only [L2.KOf]
      refine' L2.Zak KX G ?a ?l ?c ?k
      (case a=>k_is); (case l=>k_is); (case c=>k_is); (case k=>k_is)
    have D_is_below:L2.Zao (L2.KOf KX) mg "is_below" My.Zc7:=by
      dsimp only [L2.KOf]
      refine' L2.Zak KX G ?a ?l ?c ?k
      (case a=>k_is); (case l=>k_is); (case c=>k_is); (case k=>k_is)
    have D_is_same:L2.Zao (L2.KOf KX) mg "is_same" My.ZdY:=by
      dsimp only [L2.KOf]
      refine' L2.Zak KX G ?a ?l ?c ?k
      (case a=>k_is); (case l=>k_is); (case c=>k_is); (case k=>k_is)
    have D_in_both:L2.Zao (L2.KOf KX) mg "in_both" My.ZdZ:=by
      dsimp only [L2.KOf]
      refine' L2.Zak KX G ?a ?l ?c ?k
      (case a=>k_is); (case l=>k_is); (case c=>k_is); (case k=>k_is)
    have D_in_either:L2.Zao (L2.KOf KX) mg "in_either" My.ZcH:=by
      dsimp only [L2.KOf]
      refine' L2.Zak KX G ?a ?l ?c ?k
      (case a=>k_is); (case l=>k_is); (case c=>k_is); (case k=>k_is)
    have D_in_just_one:L2.Zao (L2.KOf KX) mg "in_just_one" My.Zb3:=by
      dsimp only [L2.KOf]
      refine' L2.Zak KX G ?a ?l ?c ?k
      (case a=>k_is); (case l=>k_is); (case c=>k_is); (case k=>k_is)
    have D_doubled:L2.Zao (L2.KOf KX) mg "doubled" My.Zd0:=by
      dsimp only [L2.KOf]
      refine' L2.Zak KX G ?a ?l ?c ?k
      (case a=>k_is); (case l=>k_is); (case c=>k_is); (case k=>k_is)
    have D_halved:L2.Zao (L2.KOf KX) mg "halved" My.ZeW:=by
      dsimp only [L2.KOf]
      refine' L2.Zak KX G ?a ?l ?c ?k
      (case a=>k_is); (case l=>k_is); (case c=>k_is); (case k=>k_is)
    have D_reckon:L2.Zao (L2.KOf KX) mg "reckon" My.ZeX:=by
      dsimp only [L2.KOf]
      refine' L2.Zak KX G ?a ?l ?c ?k
      (case a=>k_is); (case l=>k_is); (case c=>k_is); (case k=>k_is)
    have D_reach:L2.Zao (L2.KOf KX) mg "reach" My.ZgO:=by
      dsimp only [L2.KOf]
      refine' L2.Zak KX G ?a ?l ?c ?k
      (case a=>k_is); (case l=>k_is); (case c=>k_is); (case k=>k_is)
    have D_takes:L2.Zao (L2.KOf KX) mg "takes" My.ZgP:=by
      dsimp only [L2.KOf]
      refine' L2.Zak KX G ?a ?l ?c ?k
      (case a=>k_is); (case l=>k_is); (case c=>k_is); (case k=>k_is)
    have D_leaves:L2.Zao (L2.KOf KX) mg "leaves" My.ZeV:=by
      dsimp only [L2.KOf]
      refine' L2.Zak KX G ?a ?l ?c ?k
      (case a=>k_is); (case l=>k_is); (case c=>k_is); (case k=>k_is)
    have D_shift_coin:L2.Zao (L2.KOf KX) mg "shift_coin" My.Zci:=by
      dsimp only [L2.KOf]
      refine' L2.Zak KX G ?a ?l ?c ?k
      (case a=>k_is); (case l=>k_is); (case c=>k_is); (case k=>k_is)
    have D_push_row:L2.Zao (L2.KOf KX) mg "push_row" My.Zc8:=by
      dsimp only [L2.KOf]
      refine' L2.Zak KX G ?a ?l ?c ?k
      (case a=>k_is); (case l=>k_is); (case c=>k_is); (case k=>k_is)
    have D_drop_row:L2.Zao (L2.KOf KX) mg "drop_row" My.Zc9:=by
      dsimp only [L2.KOf]
      refine' L2.Zak KX G ?a ?l ?c ?k
      (case a=>k_is); (case l=>k_is); (case c=>k_is); (case k=>k_is)
    have D_copy_row:L2.Zao (L2.KOf KX) mg "copy_row" My.Zda:=by
      dsimp only [L2.KOf]
      refine' L2.Zak KX G ?a ?l ?c ?k
      (case a=>k_is); (case l=>k_is); (case c=>k_is); (case k=>k_is)
    have D_swap_row:L2.Zao (L2.KOf KX) mg "swap_row" My.Zdb:=by
      dsimp only [L2.KOf]
      refine' L2.Zak KX G ?a ?l ?c ?k
      (case a=>k_is); (case l=>k_is); (case c=>k_is); (case k=>k_is)
    have D_reckon_row:L2.Zao (L2.KOf KX) mg "reckon_row" My.Zcl:=by
      dsimp only [L2.KOf]
      refine' L2.Zak KX G ?a ?l ?c ?k
      (case a=>k_is); (case l=>k_is); (case c=>k_is); (case k=>k_is)
    have D_jump_row:L2.Zao (L2.KOf KX) mg "jump_row" My.Zdc:=by
      dsimp only [L2.KOf]
      refine' L2.Zak KX G ?a ?l ?c ?k
      (case a=>k_is); (case l=>k_is); (case c=>k_is); (case k=>k_is)
    have D_jumpif_row:L2.Zao (L2.KOf KX) mg "jumpif_row" My.Zcm:=by
      dsimp only [L2.KOf]
      refine' L2.Zak KX G ?a ?l ?c ?k
      (case a=>k_is); (case l=>k_is); (case c=>k_is); (case k=>k_is)
    have D_me_row:L2.Zao (L2.KOf KX) mg "me_row" My.ZeY:=by
      dsimp only [L2.KOf]
      refine' L2.Zak KX G ?a ?l ?c ?k
      (case a=>k_is); (case l=>k_is); (case c=>k_is); (case k=>k_is)
    have D_from_row:L2.Zao (L2.KOf KX) mg "from_row" My.Zdf:=by
      dsimp only [L2.KOf]
      refine' L2.Zak KX G ?a ?l ?c ?k
      (case a=>k_is); (case l=>k_is); (case c=>k_is); (case k=>k_is)
    have D_sent_row:L2.Zao (L2.KOf KX) mg "sent_row" My.Zdg:=by
      dsimp only [L2.KOf]
      refine' L2.Zak KX G ?a ?l ?c ?k
      (case a=>k_is); (case l=>k_is); (case c=>k_is); (case k=>k_is)
    have D_word_row:L2.Zao (L2.KOf KX) mg "word_row" My.Zdh:=by
      dsimp only [L2.KOf]
      refine' L2.Zak KX G ?a ?l ?c ?k
      (case a=>k_is); (case l=>k_is); (case c=>k_is); (case k=>k_is)
    have D_give_row:L2.Zao (L2.KOf KX) mg "give_row" My.Zdk:=by
      dsimp only [L2.KOf]
      refine' L2.Zak KX G ?a ?l ?c ?k
      (case a=>k_is); (case l=>k_is); (case c=>k_is); (case k=>k_is)
    have D_fail_row:L2.Zao (L2.KOf KX) mg "fail_row" My.Zdl:=by
      dsimp only [L2.KOf]
      refine' L2.Zak KX G ?a ?l ?c ?k
      (case a=>k_is); (case l=>k_is); (case c=>k_is); (case k=>k_is)
    have D_brings_coin:L2.Zao (L2.KOf KX) mg "brings_coin" My.Zb4:=by
      dsimp only [L2.KOf]
      refine' L2.Zak KX G ?a ?l ?c ?k
      (case a=>k_is); (case l=>k_is); (case c=>k_is); (case k=>k_is)
    have D_fills_place:L2.Zao (L2.KOf KX) mg "fills_place" My.Zb5:=by
      dsimp only [L2.KOf]
      refine' L2.Zak KX G ?a ?l ?c ?k
      (case a=>k_is); (case l=>k_is); (case c=>k_is); (case k=>k_is)
    have D_row_price:L2.Zao (L2.KOf KX) mg "row_price" My.ZcI:=by
      dsimp only [L2.KOf]
      refine' L2.Zak KX G ?a ?l ?c ?k
      (case a=>k_is); (case l=>k_is); (case c=>k_is); (case k=>k_is)
    have D_is_barred:L2.Zao (L2.KOf KX) mg "is_barred" My.ZcJ:=by
      dsimp only [L2.KOf]
      refine' L2.Zak KX G ?a ?l ?c ?k
      (case a=>k_is); (case l=>k_is); (case c=>k_is); (case k=>k_is)
    have D_end_ahead_of:L2.Zao (L2.KOf KX) mg "end_ahead_of" My.ZbU:=by
      dsimp only [L2.KOf]
      refine' L2.Zak KX G ?a ?l ?c ?k
      (case a=>k_is); (case l=>k_is); (case c=>k_is); (case k=>k_is)
    have D_write_step:L2.Zao (L2.KOf KX) mg "write_step" My.Zck:=by
      dsimp only [L2.KOf]
      refine' L2.Zak KX G ?a ?l ?c ?k
      (case a=>k_is); (case l=>k_is); (case c=>k_is); (case k=>k_is)
    have D_account_at:L2.Zao (L2.KOf KX) mg "account_at" My.Zch:=by
      dsimp only [L2.KOf]
      refine' L2.Zak KX G ?a ?l ?c ?k
      (case a=>k_is); (case l=>k_is); (case c=>k_is); (case k=>k_is)
    have D_load_row:L2.Zao (L2.KOf KX) mg "load_row" My.Zdd:=by
      dsimp only [L2.KOf]
      refine' L2.Zak KX G ?a ?l ?c ?k
      (case a=>k_is); (case l=>k_is); (case c=>k_is); (case k=>k_is)
    have D_coin_row:L2.Zao (L2.KOf KX) mg "coin_row" My.Zdi:=by
      dsimp only [L2.KOf]
      refine' L2.Zak KX G ?a ?l ?c ?k
      (case a=>k_is); (case l=>k_is); (case c=>k_is); (case k=>k_is)
    have D_save_row:L2.Zao (L2.KOf KX) mg "save_row" My.Zde:=by
      dsimp only [L2.KOf]
      refine' L2.Zak KX G ?a ?l ?c ?k
      (case a=>k_is); (case l=>k_is); (case c=>k_is); (case k=>k_is)
    have D_note_row:L2.Zao (L2.KOf KX) mg "note_row" My.Zdj:=by
      dsimp only [L2.KOf]
      refine' L2.Zak KX G ?a ?l ?c ?k
      (case a=>k_is); (case l=>k_is); (case c=>k_is); (case k=>k_is)
    have D_do_row:L2.Zao (L2.KOf KX) mg "do_row" My.ZeZ:=by
      dsimp only [L2.KOf]
      refine' L2.Zak KX G ?a ?l ?c ?k
      (case a=>k_is); (case l=>k_is); (case c=>k_is); (case k=>k_is)
    have D_other_call:L2.Zao (L2.KOf KX) mg "other_call" My.Zcn:=by
      dsimp only [L2.KOf]
      refine' L2.Zak KX G ?a ?l ?c ?k
      (case a=>k_is); (case l=>k_is); (case c=>k_is); (case k=>k_is)
    have D_end_ahead_of_call:L2.Zao (L2.KOf KX) mg "end_ahead_of_call" My.Zbs:=by
      dsimp only [L2.KOf]
      refine' L2.Zak KX G ?a ?l ?c ?k
      (case a=>k_is); (case l=>k_is); (case c=>k_is); (case k=>k_is)
    have D_call_row:L2.Zao (L2.KOf KX) mg "call_row" My.Zcu:=by
      dsimp only [L2.KOf]
      refine' L2.Zak KX G ?a ?l ?c ?k
      (case a=>k_is); (case l=>k_is); (case c=>k_is); (case k=>k_is)
    have D_go_row:L2.Zao (L2.KOf KX) mg "go_row" My.ZdG:=by
      dsimp only [L2.KOf]
      refine' L2.Zak KX G ?a ?l ?c ?k
      (case a=>k_is); (case l=>k_is); (case c=>k_is); (case k=>k_is)
    have D_go_on:L2.Zao (L2.KOf KX) mg "go_on" My.Ze0:=by
      dsimp only [L2.KOf]
      refine' L2.Zak KX G ?a ?l ?c ?k
      (case a=>k_is); (case l=>k_is); (case c=>k_is); (case k=>k_is)
    have D_go:L2.Zao (L2.KOf KX) mg "go" My.s_go:=by
      dsimp only [L2.KOf]
      refine' L2.Zak KX G ?a ?l ?c ?k
      (case a=>k_is); (case l=>k_is); (case c=>k_is); (case k=>k_is)
    have D_enter:L2.Zao (L2.KOf KX) mg "enter" My.ZgS:=by
      dsimp only [L2.KOf]
      refine' L2.Zak KX G ?a ?l ?c ?k
      (case a=>k_is); (case l=>k_is); (case c=>k_is); (case k=>k_is)
    have D_Lcell_at:L2.Zao (L2.KOf KX) mg "_law_cell_at" My.Zdm:=by
      dsimp only [L2.KOf]
      refine' L2.Zak KX G ?a ?l ?c ?k
      (case a=>k_is); (case l=>k_is); (case c=>k_is); (case k=>k_is)
    have D_Lwhole:L2.Zao (L2.KOf KX) mg "_law_whole" My.Ze1:=by
      dsimp only [L2.KOf]
      refine' L2.Zak KX G ?a ?l ?c ?k
      (case a=>k_is); (case l=>k_is); (case c=>k_is); (case k=>k_is)
    have D_Lwords:L2.Zao (L2.KOf KX) mg "_law_words" My.Ze2:=by
      dsimp only [L2.KOf]
      refine' L2.Zak KX G ?a ?l ?c ?k
      (case a=>k_is); (case l=>k_is); (case c=>k_is); (case k=>k_is)
    have D_Lrow:L2.Zao (L2.KOf KX) mg "_law_row" My.Zjy:=by
      dsimp only [L2.KOf]
      refine' L2.Zak KX G ?a ?l ?c ?k
      (case a=>k_is); (case l=>k_is); (case c=>k_is); (case k=>k_is)
    have D_Ltakes:L2.Zao (L2.KOf KX) mg "_law_takes" My.Ze3:=by
      dsimp only [L2.KOf]
      refine' L2.Zak KX G ?a ?l ?c ?k
      (case a=>k_is); (case l=>k_is); (case c=>k_is); (case k=>k_is)
    have D_Lmore:L2.Zao (L2.KOf KX) mg "_law_more" My.ZgT:=by
      dsimp only [L2.KOf]
      refine' L2.Zak KX G ?a ?l ?c ?k
      (case a=>k_is); (case l=>k_is); (case c=>k_is); (case k=>k_is)
    have D_Lprice:L2.Zao (L2.KOf KX) mg "_law_price" My.Ze4:=by
      dsimp only [L2.KOf]
      refine' L2.Zak KX G ?a ?l ?c ?k
      (case a=>k_is); (case l=>k_is); (case c=>k_is); (case k=>k_is)
    have D_Ldue:L2.Zao (L2.KOf KX) mg "_law_due" My.Zjz:=by
      dsimp only [L2.KOf]
      refine' L2.Zak KX G ?a ?l ?c ?k
      (case a=>k_is); (case l=>k_is); (case c=>k_is); (case k=>k_is)
    have D_Ltold:L2.Zao (L2.KOf KX) mg "_law_told" My.ZgU:=by
      dsimp only [L2.KOf]
      refine' L2.Zak KX G ?a ?l ?c ?k
      (case a=>k_is); (case l=>k_is); (case c=>k_is); (case k=>k_is)
    have D_law:L2.Zao (L2.KOf KX) mg "law" My.ZjA:=by
      dsimp only [L2.KOf]
      refine' L2.Zak KX G ?a ?l ?c ?k
      (case a=>k_is); (case l=>k_is); (case c=>k_is); (case k=>k_is)
    have x_Account:∃ C,My.T_Account (L2.KOf KX) mg C/\L2.Zan (L2.KOf KX) C "__init__" "Account.__init__" My.ZaL/\L2.Zan (L2.KOf KX) C "loaded" "Account.loaded" My.ZaU/\L2.Zan (L2.KOf KX) C "keep" "Account.keep" My.Za4:=by
      dsimp only [L2.KOf]
      refine' My.ZiL KX G ?aC ?pg ?hd ?po ?sa ?mk ?kc ?ncoin ?npurse ?ncount ?nprogram ?nstore ?a__init__ ?i__init__ ?l__init__ ?c__init__ ?k__init__ ?aloaded ?iloaded ?lloaded ?cloaded ?kloaded ?akeep ?ikeep ?lkeep ?ckeep ?kkeep
      (case aC=>k_is); (case pg=>k_is); (case hd=>k_is); (case po=>k_is); (case sa=>k_is); (case mk=>k_is); (case kc=>k_is); (case ncoin=>k_is); (case npurse=>k_is); (case ncount=>k_is); (case nprogram=>k_is); (case nstore=>k_is); (case a__init__=>k_is); (case i__init__=>k_is); (case l__init__=>k_is); (case c__init__=>k_is); (case k__init__=>k_is); (case aloaded=>k_is); (case iloaded=>k_is); (case lloaded=>k_is); (case cloaded=>k_is); (case kloaded=>k_is); (case akeep=>k_is); (case ikeep=>k_is); (case lkeep=>k_is); (case ckeep=>k_is); (case kkeep=>k_is)
    obtain ⟨cAccount,tAccount,D_Account___init__,D_Account_loaded,D_Account_keep⟩:=x_Account
    have x_Save:∃ C,My.T_Save (L2.KOf KX) mg C/\L2.Zan (L2.KOf KX) C "__init__" "Save.__init__" My.ZaY/\L2.Zan (L2.KOf KX) C "do" "Save.do" My.ZbM/\L2.Zan (L2.KOf KX) C "undo" "Save.undo" My.Zbt/\L2.Zan (L2.KOf KX) C "told" "Save.told" My.Zbu:=by
      dsimp only [L2.KOf]
      refine' My.Zne KX G ?aC ?pg ?hd ?po ?sa ?mk ?kc ?nslot ?nplace ?nold ?nnew ?a__init__ ?i__init__ ?l__init__ ?c__init__ ?k__init__ ?ado ?ido ?ldo ?cdo ?kdo ?aundo ?iundo ?lundo ?cundo ?kundo ?atold ?itold ?ltold ?ctold ?ktold
      (case aC=>k_is); (case pg=>k_is); (case hd=>k_is); (case po=>k_is); (case sa=>k_is); (case mk=>k_is); (case kc=>k_is); (case nslot=>k_is); (case nplace=>k_is); (case nold=>k_is); (case nnew=>k_is); (case a__init__=>k_is); (case i__init__=>k_is); (case l__init__=>k_is); (case c__init__=>k_is); (case k__init__=>k_is); (case ado=>k_is); (case ido=>k_is); (case ldo=>k_is); (case cdo=>k_is); (case kdo=>k_is); (case aundo=>k_is); (case iundo=>k_is); (case lundo=>k_is); (case cundo=>k_is); (case kundo=>k_is); (case atold=>k_is); (case itold=>k_is); (case ltold=>k_is); (case ctold=>k_is); (case ktold=>k_is)
    obtain ⟨cSave,tSave,D_Save___init__,D_Save_do,D_Save_undo,D_Save_told⟩:=x_Save
    have x_Move:∃ C,My.T_Move (L2.KOf KX) mg C/\L2.Zan (L2.KOf KX) C "__init__" "Move.__init__" My.ZaZ/\L2.Zan (L2.KOf KX) C "do" "Move.do" My.ZbN/\L2.Zan (L2.KOf KX) C "undo" "Move.undo" My.Zbv/\L2.Zan (L2.KOf KX) C "told" "Move.told" My.Zbw:=by
      dsimp only [L2.KOf]
      refine' My.Znf KX G ?aC ?pg ?hd ?po ?sa ?mk ?kc ?nslot ?ntaker ?nmany ?a__init__ ?i__init__ ?l__init__ ?c__init__ ?k__init__ ?ado ?ido ?ldo ?cdo ?kdo ?aundo ?iundo ?lundo ?cundo ?kundo ?atold ?itold ?ltold ?ctold ?ktold
      (case aC=>k_is); (case pg=>k_is); (case hd=>k_is); (case po=>k_is); (case sa=>k_is); (case mk=>k_is); (case kc=>k_is); (case nslot=>k_is); (case ntaker=>k_is); (case nmany=>k_is); (case a__init__=>k_is); (case i__init__=>k_is); (case l__init__=>k_is); (case c__init__=>k_is); (case k__init__=>k_is); (case ado=>k_is); (case ido=>k_is); (case ldo=>k_is); (case cdo=>k_is); (case kdo=>k_is); (case aundo=>k_is); (case iundo=>k_is); (case lundo=>k_is); (case cundo=>k_is); (case kundo=>k_is); (case atold=>k_is); (case itold=>k_is); (case ltold=>k_is); (case ctold=>k_is); (case ktold=>k_is)
    obtain ⟨cMove,tMove,D_Move___init__,D_Move_do,D_Move_undo,D_Move_told⟩:=x_Move
    have x_Note:∃ C,My.T_Note (L2.KOf KX) mg C/\L2.Zan (L2.KOf KX) C "__init__" "Note.__init__" My.Za0/\L2.Zan (L2.KOf KX) C "told" "Note.told" My.Zbx/\L2.Zan (L2.KOf KX) C "do" "Deed.do" My.ZbO/\L2.Zan (L2.KOf KX) C "undo" "Deed.undo" My.Zbz:=by
      dsimp only [L2.KOf]
      refine' My.Zng KX G ?aC ?pg ?hd ?po ?sa ?mk ?kc ?nslot ?nnumber ?a__init__ ?i__init__ ?l__init__ ?c__init__ ?k__init__ ?atold ?itold ?ltold ?ctold ?ktold ?ado ?ido ?ldo ?cdo ?kdo ?aundo ?iundo ?lundo ?cundo ?kundo
      (case aC=>k_is); (case pg=>k_is); (case hd=>k_is); (case po=>k_is); (case sa=>k_is); (case mk=>k_is); (case kc=>k_is); (case nslot=>k_is); (case nnumber=>k_is); (case a__init__=>k_is); (case i__init__=>k_is); (case l__init__=>k_is); (case c__init__=>k_is); (case k__init__=>k_is); (case atold=>k_is); (case itold=>k_is); (case ltold=>k_is); (case ctold=>k_is); (case ktold=>k_is); (case ado=>k_is); (case ido=>k_is); (case ldo=>k_is); (case cdo=>k_is); (case kdo=>k_is); (case aundo=>k_is); (case iundo=>k_is); (case lundo=>k_is); (case cundo=>k_is); (case kundo=>k_is)
    obtain ⟨cNote,tNote,D_Note___init__,D_Note_told,D_Note_do,D_Note_undo⟩:=x_Note
    have x_Journal:∃ C,My.T_Journal (L2.KOf KX) mg C/\L2.Zan (L2.KOf KX) C "__init__" "Journal.__init__" My.ZaM/\L2.Zan (L2.KOf KX) C "write" "Journal.write" My.Za1/\L2.Zan (L2.KOf KX) C "mark" "Journal.mark" My.Za6/\L2.Zan (L2.KOf KX) C "back" "Journal.back" My.Za7/\L2.Zan (L2.KOf KX) C "told" "Journal.told" My.ZaW:=by
      dsimp only [L2.KOf]
      refine' My.ZiM KX G ?aC ?pg ?hd ?po ?sa ?mk ?kc ?nrooms ?ndeeds ?a__init__ ?i__init__ ?l__init__ ?c__init__ ?k__init__ ?awrite ?iwrite ?lwrite ?cwrite ?kwrite ?amark ?imark ?lmark ?cmark ?kmark ?aback ?iback ?lback ?cback ?kback ?atold ?itold ?ltold ?ctold ?ktold
      (case aC=>k_is); (case pg=>k_is); (case hd=>k_is); (case po=>k_is); (case sa=>k_is); (case mk=>k_is); (case kc=>k_is); (case nrooms=>k_is); (case ndeeds=>k_is); (case a__init__=>k_is); (case i__init__=>k_is); (case l__init__=>k_is); (case c__init__=>k_is); (case k__init__=>k_is); (case awrite=>k_is); (case iwrite=>k_is); (case lwrite=>k_is); (case cwrite=>k_is); (case kwrite=>k_is); (case amark=>k_is); (case imark=>k_is); (case lmark=>k_is); (case cmark=>k_is); (case kmark=>k_is); (case aback=>k_is); (case iback=>k_is); (case lback=>k_is); (case cback=>k_is); (case kback=>k_is); (case atold=>k_is); (case itold=>k_is); (case ltold=>k_is); (case ctold=>k_is); (case ktold=>k_is)
    obtain ⟨cJournal,tJournal,D_Journal___init__,D_Journal_write,D_Journal_mark,D_Journal_back,D_Journal_told⟩:=x_Journal
    have x_Frame:∃ C,My.T_Frame (L2.KOf KX) mg C/\L2.Zan (L2.KOf KX) C "left" "Frame.left" My.Zbh/\L2.Zan (L2.KOf KX) C "short_for" "Frame.short_for" My.ZaQ/\L2.Zan (L2.KOf KX) C "full_behind" "Frame.full_behind" My.ZaK/\L2.Zan (L2.KOf KX) C "taken" "Frame.taken" My.Zbd/\L2.Zan (L2.KOf KX) C "lay" "Frame.lay" My.Zby/\L2.Zan (L2.KOf KX) C "finish" "Frame.finish" My.Za5/\L2.Zan (L2.KOf KX) C "tree" "Frame.tree" My.Zbi:=by
      dsimp only [L2.KOf]
      refine' My.ZlL KX G ?aC ?pg ?hd ?po ?sa ?mk ?kc ?nkind ?nwho ?nwhose ?ncaller ?ncoin ?nword ?ngiven ?ndepth ?nlooking ?nused ?nstack ?nrow ?nsteps ?nend ?nanswer ?aleft ?ileft ?lleft ?cleft ?kleft ?ashort_for ?ishort_for ?lshort_for ?cshort_for ?kshort_for ?afull_behind ?ifull_behind ?lfull_behind ?cfull_behind ?kfull_behind ?ataken ?itaken ?ltaken ?ctaken ?ktaken ?alay ?ilay ?llay ?clay ?klay ?afinish ?ifinish ?lfinish ?cfinish ?kfinish ?atree ?itree ?ltree ?ctree ?ktree
      (case aC=>k_is); (case pg=>k_is); (case hd=>k_is); (case po=>k_is); (case sa=>k_is); (case mk=>k_is); (case kc=>k_is); (case nkind=>k_is); (case nwho=>k_is); (case nwhose=>k_is); (case ncaller=>k_is); (case ncoin=>k_is); (case nword=>k_is); (case ngiven=>k_is); (case ndepth=>k_is); (case nlooking=>k_is); (case nused=>k_is); (case nstack=>k_is); (case nrow=>k_is); (case nsteps=>k_is); (case nend=>k_is); (case nanswer=>k_is); (case aleft=>k_is); (case ileft=>k_is); (case lleft=>k_is); (case cleft=>k_is); (case kleft=>k_is); (case ashort_for=>k_is); (case ishort_for=>k_is); (case lshort_for=>k_is); (case cshort_for=>k_is); (case kshort_for=>k_is); (case afull_behind=>k_is); (case ifull_behind=>k_is); (case lfull_behind=>k_is); (case cfull_behind=>k_is); (case kfull_behind=>k_is); (case ataken=>k_is); (case itaken=>k_is); (case ltaken=>k_is); (case ctaken=>k_is); (case ktaken=>k_is); (case alay=>k_is); (case ilay=>k_is); (case llay=>k_is); (case clay=>k_is); (case klay=>k_is); (case afinish=>k_is); (case ifinish=>k_is); (case lfinish=>k_is); (case cfinish=>k_is); (case kfinish=>k_is); (case atree=>k_is); (case itree=>k_is); (case ltree=>k_is); (case ctree=>k_is); (case ktree=>k_is)
    obtain ⟨cFrame,tFrame,D_Frame_left,D_Frame_short_for,D_Frame_full_behind,D_Frame_taken,D_Frame_lay,D_Frame_finish,D_Frame_tree⟩:=x_Frame
    have n_max:mg "max" = none:=by
      refine' PySem.W.mg_none_of KX G ?a
      (case a=>k_is)
    have n_list:mg "list" = none:=by
      refine' PySem.W.mg_none_of KX G ?a
      (case a=>k_is)
    have n_len:mg "len" = none:=by
      refine' PySem.W.mg_none_of KX G ?a
      (case a=>k_is)
    have n_range:mg "range" = none:=by
      refine' PySem.W.mg_none_of KX G ?a
      (case a=>k_is)
    have n_reversed:mg "reversed" = none:=by
      refine' PySem.W.mg_none_of KX G ?a
      (case a=>k_is)
    have n_min:mg "min" = none:=by
      refine' PySem.W.mg_none_of KX G ?a
      (case a=>k_is)
    have n_isinstance:mg "isinstance" = none:=by
      refine' PySem.W.mg_none_of KX G ?a
      (case a=>k_is)
    have n_int:mg "int" = none:=by
      refine' PySem.W.mg_none_of KX G ?a
      (case a=>k_is)
    have n_bool:mg "bool" = none:=by
      refine' PySem.W.mg_none_of KX G ?a
      (case a=>k_is)
    have n_str:mg "str" = none:=by
      refine' PySem.W.mg_none_of KX G ?a
      (case a=>k_is)
    have n_tuple:mg "tuple" = none:=by
      refine' PySem.W.mg_none_of KX G ?a
      (case a=>k_is)
    have g_WIDE:L2.ZaV mg "WIDE" (.int 18446744073709551616):=by
      refine' L2.Zcr KX G ?a
      (case a=>k_is)
    have g_FIGURES:L2.ZaV mg "FIGURES" (.int 64):=by
      refine' L2.Zcr KX G ?a
      (case a=>k_is)
    have g_MOST_ON_STACK:L2.ZaV mg "MOST_ON_STACK" (.int 24):=by
      refine' L2.Zcr KX G ?a
      (case a=>k_is)
    have g_MOST_CALLS:L2.ZaV mg "MOST_CALLS" (.int 8):=by
      refine' L2.Zcr KX G ?a
      (case a=>k_is)
    have D_price:L2.Zjm (L2.KOf KX) mg "price" My.ZgQ #[.bool false]:=by
      dsimp only [L2.KOf]
      refine' L2.Zjn KX G ?a ?l ?c ?k ?d
      (case a=>k_is); (case l=>k_is); (case c=>k_is); (case k=>k_is); (case d=>k_is)
    have RR:∃ aT:Addr,L2.ZaV mg "ROWS" (.ref aT)/\My.Zf8 PySem.Challenge.rw_meterhouse_k33_how_calls_end.prog w (L2.KOf KX) aT:=by
      dsimp only [L2.KOf]
      refine' My.Znc KX G ?a ?l ?e1 ?e2 ?e3 ?t1 ?t2 ?t3 ?t4 ?t5 ?t6 ?t7 ?t8 ?t9 ?t10 ?t11 ?t12 ?t13 ?t14 ?t15 ?t16 ?t17 ?t18 ?t19 ?t20 ?t21 ?t22 ?t23 ?t24 ?t25 ?t26 ?t27 ?t28 ?t29 ?t30 ?t31
      (case a=>k_is); (case l=>k_is); (case e1=>rfl); (case e2=>rfl); (case e3=>rfl)
      case t1 =>
        refine' L2.ZaJ ?l ?v ?z
        (case l=>k_is); (case v=>walk_at "vals"); (case z=>decide)
      case t2 =>
        refine' L2.ZaJ ?l ?v ?z
        (case l=>k_is); (case v=>walk_at "vals"); (case z=>decide)
      case t3 =>
        refine' L2.ZaJ ?l ?v ?z
        (case l=>k_is); (case v=>walk_at "vals"); (case z=>decide)
      case t4 =>
        refine' L2.ZaJ ?l ?v ?z
        (case l=>k_is); (case v=>walk_at "vals"); (case z=>decide)
      case t5 =>
        refine' L2.ZaJ ?l ?v ?z
        (case l=>k_is); (case v=>walk_at "vals"); (case z=>decide)
      case t6 =>
        refine' L2.ZaJ ?l ?v ?z
        (case l=>k_is); (case v=>walk_at "vals"); (case z=>decide)
      case t7 =>
        refine' L2.ZaJ ?l ?v ?z
        (case l=>k_is); (case v=>walk_at "vals"); (case z=>decide)
      case t8 =>
        refine' L2.ZaJ ?l ?v ?z
        (case l=>k_is); (case v=>walk_at "vals"); (case z=>decide)
      case t9 =>
        refine' L2.ZaJ ?l ?v ?z
        (case l=>k_is); (case v=>walk_at "vals"); (case z=>decide)
      case t10 =>
        refine' L2.ZaJ ?l ?v ?z
        (case l=>k_is); (case v=>walk_at "vals"); (case z=>decide)
      case t11 =>
        refine' L2.ZaJ ?l ?v ?z
        (case l=>k_is); (case v=>walk_at "vals"); (case z=>decide)
      case t12 =>
        refine' L2.ZaJ ?l ?v ?z
        (case l=>k_is); (case v=>walk_at "vals"); (case z=>decide)
      case t13 =>
        refine' L2.ZaJ ?l ?v ?z
        (case l=>k_is); (case v=>walk_at "vals"); (case z=>decide)
      case t14 =>
        refine' L2.ZaJ ?l ?v ?z
        (case l=>k_is); (case v=>walk_at "vals"); (case z=>decide)
      case t15 =>
        refine' L2.ZaJ ?l ?v ?z
        (case l=>k_is); (case v=>walk_at "vals"); (case z=>decide)
      case t16 =>
        refine' L2.ZaJ ?l ?v ?z
        (case l=>k_is); (case v=>walk_at "vals"); (case z=>decide)
      case t17 =>
        refine' L2.ZaJ ?l ?v ?z
        (case l=>k_is); (case v=>walk_at "vals"); (case z=>decide)
      case t18 =>
        refine' L2.ZaJ ?l ?v ?z
        (case l=>k_is); (case v=>walk_at "vals"); (case z=>decide)
      case t19 =>
        refine' L2.ZaJ ?l ?v ?z
        (case l=>k_is); (case v=>walk_at "vals"); (case z=>decide)
      case t20 =>
        refine' L2.ZaJ ?l ?v ?z
        (case l=>k_is); (case v=>walk_at "vals"); (case z=>decide)
      case t21 =>
        refine' L2.ZaJ ?l ?v ?z
        (case l=>k_is); (case v=>walk_at "vals"); (case z=>decide)
      case t22 =>
        refine' L2.ZaJ ?l ?v ?z
        (case l=>k_is); (case v=>walk_at "vals"); (case z=>decide)
      case t23 =>
        refine' L2.ZaJ ?l ?v ?z
        (case l=>k_is); (case v=>walk_at "vals"); (case z=>decide)
      case t24 =>
        refine' L2.ZaJ ?l ?v ?z
        (case l=>k_is); (case v=>walk_at "vals"); (case z=>decide)
      case t25 =>
        refine' L2.ZaJ ?l ?v ?z
        (case l=>k_is); (case v=>walk_at "vals"); (case z=>decide)
      case t26 =>
        refine' L2.ZaJ ?l ?v ?z
        (case l=>k_is); (case v=>walk_at "vals"); (case z=>decide)
      case t27 =>
        refine' L2.ZaJ ?l ?v ?z
        (case l=>k_is); (case v=>walk_at "vals"); (case z=>decide)
      case t28 =>
        refine' L2.ZaJ ?l ?v ?z
        (case l=>k_is); (case v=>walk_at "vals"); (case z=>decide)
      case t29 =>
        refine' L2.ZaJ ?l ?v ?z
        (case l=>k_is); (case v=>walk_at "vals"); (case z=>decide)
      case t30 =>
        refine' L2.ZaJ ?l ?v ?z
        (case l=>k_is); (case v=>walk_at "vals"); (case z=>decide)
      case t31 =>
        refine' L2.ZaJ ?l ?v ?z
        (case l=>k_is); (case v=>walk_at "vals"); (case z=>decide)
    obtain ⟨aT,g_ROWS,rok⟩:=RR
    have S1:∃ (aS:Addr) (u1 u2 u3 u4 u5 u6 u7 u8 u9 u10 u11 u12:Value),L2.ZaV mg "SUMS" (.ref aS)/\L2.ZcT PySem.Challenge.rw_meterhouse_k33_how_calls_end.prog w (L2.KOf KX) aS [(Sum.inr "add", u1),(Sum.inr "minus", u2),(Sum.inr "times", u3),(Sum.inr "over", u4),(Sum.inr "rest", u5),(Sum.inr "below", u6),(Sum.inr "same", u7),(Sum.inr "both", u8),(Sum.inr "either", u9),(Sum.inr "unlike", u10),(Sum.inr "up", u11),(Sum.inr "down", u12)]/\mg "added" = some u1/\mg "lessened" = some u2/\mg "multiplied" = some u3/\mg "contained" = some u4/\mg "left_over" = some u5/\mg "is_below" = some u6/\mg "is_same" = some u7/\mg "in_both" = some u8/\mg "in_either" = some u9/\mg "in_just_one" = some u10/\mg "doubled" = some u11/\mg "halved" = some u12:=by
      dsimp only [L2.KOf]
      refine' My.Znd KX G ?a ?l ?e1 ?e2 ?e3 ?m1 ?m2 ?m3 ?m4 ?m5 ?m6 ?m7 ?m8 ?m9 ?m10 ?m11 ?m12
      (case a=>k_is); (case l=>k_is); (case e1=>rfl); (case e2=>rfl); (case e3=>rfl)
      (case m1=>k_is); (case m2=>k_is); (case m3=>k_is); (case m4=>k_is); (case m5=>k_is); (case m6=>k_is); (case m7=>k_is); (case m8=>k_is); (case m9=>k_is); (case m10=>k_is); (case m11=>k_is); (case m12=>k_is)
    obtain ⟨aS,u1,u2,u3,u4,u5,u6,u7,u8,u9,u10,u11,u12,g_SUMS,dk,m1,m2,m3,m4,m5,m6,m7,m8,m9,m10,m11,m12⟩:=S1
    have DO1:∃ (aD:Addr) (u1 u2 u3 u4 u5 u6 u7 u8 u9 u10 u11 u12 u13 u14 u15 u16 u17:Value),L2.ZaV mg "DOINGS" (.ref aD)/\L2.ZcT PySem.Challenge.rw_meterhouse_k33_how_calls_end.prog w (L2.KOf KX) aD [(Sum.inr "push", u1),(Sum.inr "drop", u2),(Sum.inr "copy", u3),(Sum.inr "swap", u4),(Sum.inr "add", u5),(Sum.inr "minus", u5),(Sum.inr "times", u5),(Sum.inr "over", u5),(Sum.inr "rest", u5),(Sum.inr "below", u5),(Sum.inr "same", u5),(Sum.inr "both", u5),(Sum.inr "either", u5),(Sum.inr "unlike", u5),(Sum.inr "up", u5),(Sum.inr "down", u5),(Sum.inr "jump", u6),(Sum.inr "jumpif", u7),(Sum.inr "load", u8),(Sum.inr "save", u9),(Sum.inr "me", u10),(Sum.inr "from", u11),(Sum.inr "sent", u12),(Sum.inr "word", u13),(Sum.inr "coin", u14),(Sum.inr "note", u15),(Sum.inr "give", u16),(Sum.inr "fail", u17)]/\mg "push_row" = some u1/\mg "drop_row" = some u2/\mg "copy_row" = some u3/\mg "swap_row" = some u4/\mg "reckon_row" = some u5/\mg "jump_row" = some u6/\mg "jumpif_row" = some u7/\mg "load_row" = some u8/\mg "save_row" = some u9/\mg "me_row" = some u10/\mg "from_row" = some u11/\mg "sent_row" = some u12/\mg "word_row" = some u13/\mg "coin_row" = some u14/\mg "note_row" = some u15/\mg "give_row" = some u16/\mg "fail_row" = some u17:=by
      dsimp only [L2.KOf]
      refine' My.do_at KX G ?a ?l ?e1 ?e2 ?e3 ?m_push_row ?m_drop_row ?m_copy_row ?m_swap_row ?m_reckon_row ?m_jump_row ?m_jumpif_row ?m_load_row ?m_save_row ?m_me_row ?m_from_row ?m_sent_row ?m_word_row ?m_coin_row ?m_note_row ?m_give_row ?m_fail_row
      (case a=>k_is); (case l=>k_is); (case e1=>rfl); (case e2=>rfl); (case e3=>rfl)
      (case m_push_row=>k_is); (case m_drop_row=>k_is); (case m_copy_row=>k_is); (case m_swap_row=>k_is); (case m_reckon_row=>k_is); (case m_jump_row=>k_is); (case m_jumpif_row=>k_is); (case m_load_row=>k_is); (case m_save_row=>k_is); (case m_me_row=>k_is); (case m_from_row=>k_is); (case m_sent_row=>k_is); (case m_word_row=>k_is); (case m_coin_row=>k_is); (case m_note_row=>k_is); (case m_give_row=>k_is); (case m_fail_row=>k_is)
    obtain ⟨aD,u1,u2,u3,u4,u5,u6,u7,u8,u9,u10,u11,u12,u13,u14,u15,u16,u17,g_DOINGS,dkD,m_push_row,m_drop_row,m_copy_row,m_swap_row,m_reckon_row,m_jump_row,m_jumpif_row,m_load_row,m_save_row,m_me_row,m_from_row,m_sent_row,m_word_row,m_coin_row,m_note_row,m_give_row,m_fail_row⟩:=DO1
    have T_REACHING:∃ a,L2.ZaV mg "REACHING" (.ref a)/\L2.TupK (L2.KOf KX) a ((["copy", "swap"]:List PySem.Str).map L2.V.str):=by
      dsimp only [L2.KOf]
      refine' L2.Zjl KX G ?a ?l ?v ?z
      (case a=>k_is); (case l=>k_is); (case v=>walk_at "vals"); (case z=>decide)
    obtain ⟨a_REACHING,g_REACHING,t_REACHING⟩:=T_REACHING
    have T_CALLING:∃ a,L2.ZaV mg "CALLING" (.ref a)/\L2.TupK (L2.KOf KX) a ((["call", "borrow", "look"]:List PySem.Str).map L2.V.str):=by
      dsimp only [L2.KOf]
      refine' L2.Zjl KX G ?a ?l ?v ?z
      (case a=>k_is); (case l=>k_is); (case v=>walk_at "vals"); (case z=>decide)
    obtain ⟨a_CALLING,g_CALLING,t_CALLING⟩:=T_CALLING
    have x_FI:∃ C tok,mg "Frame" = some (.ref C)/\L2.Zcg (L2.KOf KX) C "__init__" "Frame.__init__" My.Zax #[.int 1 tok,.bool false]:=by
      dsimp only [L2.KOf]
      refine' My.mkFI KX G ?aC ?a ?i ?l ?c ?k ?d
      (case aC=>k_is); (case a=>k_is); (case i=>k_is); (case l=>k_is); (case c=>k_is); (case k=>k_is); (case d=>k_is)
    have y_FI:∃ tok,L2.Zcg (L2.KOf KX) cFrame "__init__" "Frame.__init__" My.Zax #[.int 1 tok,.bool false]:=by
      obtain ⟨C,tok,e1,q⟩:=x_FI
      have h1:=tFrame.k.mgC
      rw [e1] at h1
      cases h1
      exact ⟨tok,q⟩
    obtain ⟨tokF,D_FI⟩:=y_FI
    obtain ⟨fl,fd,FL,ml⟩:=D_law
    have e0:=hmg.symm.trans ml
    cases e0
    refine ⟨fd,L2.Zio FL,fun base KB GB=>?_⟩
    have c_added:=My.Zk6 (P:=PySem.Challenge.rw_meterhouse_k33_how_calls_end.prog) (w:=w) (base:=base)  D_added    g_WIDE
    have c_lessened:=My.ZgW (P:=PySem.Challenge.rw_meterhouse_k33_how_calls_end.prog) (w:=w) (base:=base)  D_lessened    g_WIDE
    have c_multiplied:=My.Ze6 (P:=PySem.Challenge.rw_meterhouse_k33_how_calls_end.prog) (w:=w) (base:=base)  D_multiplied    g_WIDE
    have c_contained:=My.Zf3 (P:=PySem.Challenge.rw_meterhouse_k33_how_calls_end.prog) (w:=w) (base:=base)  D_contained
    have c_left_over:=My.Zf5 (P:=PySem.Challenge.rw_meterhouse_k33_how_calls_end.prog) (w:=w) (base:=base)  D_left_over
    have c_is_below:=My.ZgY (P:=PySem.Challenge.rw_meterhouse_k33_how_calls_end.prog) (w:=w) (base:=base)  D_is_below
    have c_is_same:=My.Ziv (P:=PySem.Challenge.rw_meterhouse_k33_how_calls_end.prog) (w:=w) (base:=base)  D_is_same
    have c_in_both:=My.Zix (P:=PySem.Challenge.rw_meterhouse_k33_how_calls_end.prog) (w:=w) (base:=base)  D_in_both
    have c_in_either:=My.Zf7 (P:=PySem.Challenge.rw_meterhouse_k33_how_calls_end.prog) (w:=w) (base:=base)  D_in_either
    have c_in_just_one:=My.Zes (P:=PySem.Challenge.rw_meterhouse_k33_how_calls_end.prog) (w:=w) (base:=base)  D_in_just_one
    have c_doubled:=My.Ziz (P:=PySem.Challenge.rw_meterhouse_k33_how_calls_end.prog) (w:=w) (base:=base)  D_doubled    n_max g_FIGURES g_WIDE
    have c_halved:=My.ZjG (P:=PySem.Challenge.rw_meterhouse_k33_how_calls_end.prog) (w:=w) (base:=base)  D_halved    n_max g_FIGURES
    have sok:=My.ZmV (P:=PySem.Challenge.rw_meterhouse_k33_how_calls_end.prog) (w:=w) (base:=base) dk m1 m2 m3 m4 m5 m6 m7 m8 m9 m10 m11 m12 c_added c_lessened c_multiplied c_contained c_left_over c_is_below c_is_same c_in_both c_in_either c_in_just_one c_doubled c_halved
    have c_reckon:=My.ZjI (P:=PySem.Challenge.rw_meterhouse_k33_how_calls_end.prog) (w:=w) (base:=base) sok D_reckon    g_SUMS
    have c_reach:=My.Zk8 (P:=PySem.Challenge.rw_meterhouse_k33_how_calls_end.prog) (w:=w) (base:=base) t_REACHING D_reach    g_REACHING
    have c_takes:=My.Zla (P:=PySem.Challenge.rw_meterhouse_k33_how_calls_end.prog) (w:=w) (base:=base) rok D_takes    c_reach g_ROWS
    have c_leaves:=My.ZjL (P:=PySem.Challenge.rw_meterhouse_k33_how_calls_end.prog) (w:=w) (base:=base) rok D_leaves    c_reach g_ROWS
    have cd2_price:=My.Zlc (P:=PySem.Challenge.rw_meterhouse_k33_how_calls_end.prog) (w:=w) (base:=base) rok D_price g_ROWS
    have i_Account:=My.ZcL (P:=PySem.Challenge.rw_meterhouse_k33_how_calls_end.prog) (w:=w) (base:=base)  D_Account___init__ tAccount   n_list
    have m_Account_loaded:=My.Zdo (P:=PySem.Challenge.rw_meterhouse_k33_how_calls_end.prog) (w:=w) (base:=base)  D_Account_loaded tAccount
    have m_Account_keep:=My.Zd2 (P:=PySem.Challenge.rw_meterhouse_k33_how_calls_end.prog) (w:=w) (base:=base)  D_Account_keep tAccount
    have c_shift_coin:=My.Ze9 (P:=PySem.Challenge.rw_meterhouse_k33_how_calls_end.prog) (w:=w) (base:=base)  D_shift_coin tAccount
    have i_Save:=My.Zdu (P:=PySem.Challenge.rw_meterhouse_k33_how_calls_end.prog) (w:=w) (base:=base)  D_Save___init__ tSave
    have i_Move:=My.Zdw (P:=PySem.Challenge.rw_meterhouse_k33_how_calls_end.prog) (w:=w) (base:=base)  D_Move___init__ tMove
    have i_Note:=My.Zdy (P:=PySem.Challenge.rw_meterhouse_k33_how_calls_end.prog) (w:=w) (base:=base)  D_Note___init__ tNote
    have m_Save_do:=My.ZiC (P:=PySem.Challenge.rw_meterhouse_k33_how_calls_end.prog) (w:=w) (base:=base)  D_Save_do tSave tAccount m_Account_keep
    have m_Move_do:=My.ZiE (P:=PySem.Challenge.rw_meterhouse_k33_how_calls_end.prog) (w:=w) (base:=base)  D_Move_do tMove   c_shift_coin
    have m_Note_do:=My.ZiG (P:=PySem.Challenge.rw_meterhouse_k33_how_calls_end.prog) (w:=w) (base:=base) (cAccount:=cAccount) D_Note_do tNote
    have m_Save_undo:=My.Zga (P:=PySem.Challenge.rw_meterhouse_k33_how_calls_end.prog) (w:=w) (base:=base)  D_Save_undo tSave tAccount m_Account_keep
    have m_Move_undo:=My.Zgc (P:=PySem.Challenge.rw_meterhouse_k33_how_calls_end.prog) (w:=w) (base:=base)  D_Move_undo tMove   c_shift_coin
    have m_Note_undo:=My.Zge (P:=PySem.Challenge.rw_meterhouse_k33_how_calls_end.prog) (w:=w) (base:=base) (cAccount:=cAccount) D_Note_undo tNote
    have i_Journal:=My.ZcN (P:=PySem.Challenge.rw_meterhouse_k33_how_calls_end.prog) (w:=w) (base:=base)  D_Journal___init__ tJournal
    have m_Journal_mark:=My.Zd5 (P:=PySem.Challenge.rw_meterhouse_k33_how_calls_end.prog) (w:=w) (base:=base)  D_Journal_mark tJournal   n_len
    have m_Journal_write:=My.ZdA (P:=PySem.Challenge.rw_meterhouse_k33_how_calls_end.prog) (w:=w) (base:=base)  D_Journal_write tJournal tSave tMove tNote tAccount m_Save_do m_Move_do m_Note_do
    have m_Journal_back:=My.Zd6 (P:=PySem.Challenge.rw_meterhouse_k33_how_calls_end.prog) (w:=w) (base:=base)  D_Journal_back tJournal tSave tMove tNote tAccount m_Save_undo m_Move_undo m_Note_undo  n_len n_max
    have m_Save_told:=My.Zgh (P:=PySem.Challenge.rw_meterhouse_k33_how_calls_end.prog) (w:=w) (base:=base)  D_Save_told tSave
    have m_Move_told:=My.Zgj (P:=PySem.Challenge.rw_meterhouse_k33_how_calls_end.prog) (w:=w) (base:=base)  D_Move_told tMove
    have m_Note_told:=My.Zgl (P:=PySem.Challenge.rw_meterhouse_k33_how_calls_end.prog) (w:=w) (base:=base)  D_Note_told tNote
    have m_Journal_told:=My.Zd8 (P:=PySem.Challenge.rw_meterhouse_k33_how_calls_end.prog) (w:=w) (base:=base)  D_Journal_told tJournal tSave tMove tNote m_Save_told m_Move_told m_Note_told
    have m_Frame_left:=My.Zfe (P:=PySem.Challenge.rw_meterhouse_k33_how_calls_end.prog) (w:=w) (base:=base)  D_Frame_left tFrame
    have m_Frame_short_for:=My.ZcZ (P:=PySem.Challenge.rw_meterhouse_k33_how_calls_end.prog) (w:=w) (base:=base)  D_Frame_short_for tFrame   c_takes n_len
    have m_Frame_full_behind:=My.ZcA (P:=PySem.Challenge.rw_meterhouse_k33_how_calls_end.prog) (w:=w) (base:=base)  D_Frame_full_behind tFrame   c_leaves c_takes n_len g_MOST_ON_STACK
    have m_Frame_taken:=My.Zet (P:=PySem.Challenge.rw_meterhouse_k33_how_calls_end.prog) (w:=w) (base:=base)  D_Frame_taken tFrame   n_range n_list n_reversed
    have m_Frame_lay:=My.Zgn (P:=PySem.Challenge.rw_meterhouse_k33_how_calls_end.prog) (w:=w) (base:=base)  D_Frame_lay tFrame
    have m_Frame_finish:=My.Zeb (P:=PySem.Challenge.rw_meterhouse_k33_how_calls_end.prog) (w:=w) (base:=base)  D_Frame_finish tFrame
    have m_Frame_tree:=My.Zfg (P:=PySem.Challenge.rw_meterhouse_k33_how_calls_end.prog) (w:=w) (base:=base)  D_Frame_tree tFrame   n_list
    have c_push_row:=My.Zg4 (P:=PySem.Challenge.rw_meterhouse_k33_how_calls_end.prog) (w:=w) (base:=base)  D_push_row tFrame m_Frame_lay
    have c_drop_row:=My.Zg6 (P:=PySem.Challenge.rw_meterhouse_k33_how_calls_end.prog) (w:=w) (base:=base)  D_drop_row tFrame m_Frame_taken
    have c_copy_row:=My.Zg8 (P:=PySem.Challenge.rw_meterhouse_k33_how_calls_end.prog) (w:=w) (base:=base)  D_copy_row tFrame m_Frame_lay
    have c_swap_row:=My.Zg9 (P:=PySem.Challenge.rw_meterhouse_k33_how_calls_end.prog) (w:=w) (base:=base)  D_swap_row tFrame   n_len
    have c_reckon_row:=My.Zfj (P:=PySem.Challenge.rw_meterhouse_k33_how_calls_end.prog) (w:=w) (base:=base)  D_reckon_row tFrame m_Frame_taken m_Frame_lay  c_reckon
    have c_jump_row:=My.Zhb (P:=PySem.Challenge.rw_meterhouse_k33_how_calls_end.prog) (w:=w) (base:=base)  D_jump_row tFrame
    have c_jumpif_row:=My.Zfk (P:=PySem.Challenge.rw_meterhouse_k33_how_calls_end.prog) (w:=w) (base:=base)  D_jumpif_row tFrame m_Frame_taken
    have c_me_row:=My.ZjS (P:=PySem.Challenge.rw_meterhouse_k33_how_calls_end.prog) (w:=w) (base:=base)  D_me_row tFrame m_Frame_lay
    have c_from_row:=My.Zhd (P:=PySem.Challenge.rw_meterhouse_k33_how_calls_end.prog) (w:=w) (base:=base)  D_from_row tFrame m_Frame_lay
    have c_sent_row:=My.Zhf (P:=PySem.Challenge.rw_meterhouse_k33_how_calls_end.prog) (w:=w) (base:=base)  D_sent_row tFrame m_Frame_lay
    have c_word_row:=My.Zhh (P:=PySem.Challenge.rw_meterhouse_k33_how_calls_end.prog) (w:=w) (base:=base)  D_word_row tFrame m_Frame_lay
    have c_give_row:=My.Zhi (P:=PySem.Challenge.rw_meterhouse_k33_how_calls_end.prog) (w:=w) (base:=base)  D_give_row tFrame m_Frame_taken m_Frame_finish
    have c_fail_row:=My.Zhj (P:=PySem.Challenge.rw_meterhouse_k33_how_calls_end.prog) (w:=w) (base:=base)  D_fail_row tFrame m_Frame_taken m_Frame_finish
    have c_brings_coin:=My.Zev (P:=PySem.Challenge.rw_meterhouse_k33_how_calls_end.prog) (w:=w) (base:=base)  D_brings_coin tFrame
    have c_fills_place:=My.Zex (P:=PySem.Challenge.rw_meterhouse_k33_how_calls_end.prog) (w:=w) (base:=base)  D_fills_place tFrame tAccount m_Account_loaded
    have c_row_price:=My.Zgp (P:=PySem.Challenge.rw_meterhouse_k33_how_calls_end.prog) (w:=w) (base:=base)  D_row_price    cd2_price c_brings_coin c_fills_place
    have c_is_barred:=My.Zgr (P:=PySem.Challenge.rw_meterhouse_k33_how_calls_end.prog) (w:=w) (base:=base)  D_is_barred tFrame   c_brings_coin
    have c_end_ahead_of:=My.Zef (P:=PySem.Challenge.rw_meterhouse_k33_how_calls_end.prog) (w:=w) (base:=base)  D_end_ahead_of tFrame m_Frame_short_for m_Frame_full_behind m_Frame_left  c_is_barred c_row_price
    have c_write_step:=My.Zfn (P:=PySem.Challenge.rw_meterhouse_k33_how_calls_end.prog) (w:=w) (base:=base)  D_write_step tJournal tFrame tSave tMove tNote m_Journal_write m_Save_told m_Move_told m_Note_told
    have c_account_at:=My.Zfp (P:=PySem.Challenge.rw_meterhouse_k33_how_calls_end.prog) (w:=w) (base:=base) (cAccount:=cAccount) D_account_at    n_len
    have c_load_row:=My.Zhm (P:=PySem.Challenge.rw_meterhouse_k33_how_calls_end.prog) (w:=w) (base:=base)  D_load_row tFrame tAccount m_Frame_taken m_Frame_lay m_Account_loaded
    have c_coin_row:=My.Zhn (P:=PySem.Challenge.rw_meterhouse_k33_how_calls_end.prog) (w:=w) (base:=base)  D_coin_row tFrame tAccount m_Frame_taken m_Frame_lay  c_account_at
    have c_save_row:=My.Zho (P:=PySem.Challenge.rw_meterhouse_k33_how_calls_end.prog) (w:=w) (base:=base)  D_save_row tFrame tAccount tSave m_Frame_taken m_Account_loaded i_Save  c_write_step
    have c_note_row:=My.Zhp (P:=PySem.Challenge.rw_meterhouse_k33_how_calls_end.prog) (w:=w) (base:=base)  D_note_row tFrame tNote m_Frame_taken i_Note  c_write_step
    have dok:=My.do_ok (P:=PySem.Challenge.rw_meterhouse_k33_how_calls_end.prog) (w:=w) (base:=base) (cAccount:=cAccount) (cJournal:=cJournal) (cSave:=cSave) (cMove:=cMove) (cNote:=cNote) (cFrame:=cFrame) dkD m_push_row m_drop_row m_copy_row m_swap_row m_reckon_row m_jump_row m_jumpif_row m_load_row m_save_row m_me_row m_from_row m_sent_row m_word_row m_coin_row m_note_row m_give_row m_fail_row c_push_row c_drop_row c_copy_row c_swap_row c_reckon_row c_jump_row c_jumpif_row c_load_row c_save_row c_me_row c_from_row c_sent_row c_word_row c_coin_row c_note_row c_give_row c_fail_row
    have c_do_row:=My.ZjX (P:=PySem.Challenge.rw_meterhouse_k33_how_calls_end.prog) (w:=w) (base:=base) dok D_do_row    g_DOINGS
    have iD9_Frame:=My.Zkp (P:=PySem.Challenge.rw_meterhouse_k33_how_calls_end.prog) (w:=w) (base:=base) D_FI tFrame
    have c_other_call:=My.Zfr (P:=PySem.Challenge.rw_meterhouse_k33_how_calls_end.prog) (w:=w) (base:=base)  D_other_call tFrame m_Frame_taken  c_takes iD9_Frame
    have c_end_ahead_of_call:=My.ZcC (P:=PySem.Challenge.rw_meterhouse_k33_how_calls_end.prog) (w:=w) (base:=base)  D_end_ahead_of_call tFrame tAccount   c_account_at g_MOST_CALLS
    have c_go:=My.Zl3 (P:=PySem.Challenge.rw_meterhouse_k33_how_calls_end.prog) (w:=w) (base:=base) (cAccount:=cAccount) (cJournal:=cJournal) (cSave:=cSave) (cMove:=cMove) (cNote:=cNote) t_CALLING D_call_row tFrame m_Frame_left m_Frame_finish m_Frame_tree m_Frame_lay c_other_call c_end_ahead_of_call n_min D_go_row c_row_price c_do_row g_CALLING D_go_on tAccount c_end_ahead_of n_len D_go tJournal tMove m_Journal_mark i_Move m_Journal_back c_write_step 10
    have iD7_Frame:=My.Zko (P:=PySem.Challenge.rw_meterhouse_k33_how_calls_end.prog) (w:=w) (base:=base) D_FI tFrame
    have c_enter:=My.Zli (P:=PySem.Challenge.rw_meterhouse_k33_how_calls_end.prog) (w:=w) (base:=base)  D_enter tFrame m_Frame_tree  c_go iD7_Frame
    have c_Lcell_at:=My.Zhx (P:=PySem.Challenge.rw_meterhouse_k33_how_calls_end.prog) (w:=w) (base:=base)  D_Lcell_at    n_len
    have c_Lwhole:=My.Zkf (P:=PySem.Challenge.rw_meterhouse_k33_how_calls_end.prog) (w:=w) (base:=base)  D_Lwhole    n_isinstance n_int n_bool
    have c_Lwords:=My.Zka (P:=PySem.Challenge.rw_meterhouse_k33_how_calls_end.prog) (w:=w) (base:=base)  D_Lwords
    have c_Lrow:=My.Zm5 (P:=PySem.Challenge.rw_meterhouse_k33_how_calls_end.prog) (w:=w) (base:=base)  D_Lrow    c_Lwords
    have c_Ltakes:=My.Zj9 (P:=PySem.Challenge.rw_meterhouse_k33_how_calls_end.prog) (w:=w) (base:=base)  D_Ltakes
    have c_Lmore:=My.Zlm (P:=PySem.Challenge.rw_meterhouse_k33_how_calls_end.prog) (w:=w) (base:=base)  D_Lmore
    have c_Lprice:=My.Zkg (P:=PySem.Challenge.rw_meterhouse_k33_how_calls_end.prog) (w:=w) (base:=base)  D_Lprice    n_int
    have c_Ldue:=My.Zm8 (P:=PySem.Challenge.rw_meterhouse_k33_how_calls_end.prog) (w:=w) (base:=base)  D_Ldue    c_Ltakes c_Lprice c_Lmore n_len
    have c_Ltold:=My.ZlJ (P:=PySem.Challenge.rw_meterhouse_k33_how_calls_end.prog) (w:=w) (base:=base)  D_Ltold    c_Lwhole n_isinstance n_str n_tuple n_len n_list
    exact My.ok_law  FL tAccount tJournal i_Account i_Journal  c_Lrow c_Ldue c_enter c_Ltold c_Lcell_at n_range n_len n_int
  case S=>exact fun K H a ns hl hO hS=>⟨a,ns,rfl,hS,hl,fun _=>rfl⟩
  case C=>exact fun _ _ _ _ z=>z
