import PyProof.Rows.All
import Wide.All
import OpenK.AllK
import Wide.FinOn
import Lean
import PyProof.EqAt
import PyProof.EqKinds
import PyProof.TupleCall
import PySem.Challenge.RW_meterhouse_k35_a_call
set_option Elab.async false
set_option linter.all false
set_option maxRecDepth 100000
set_option maxHeartbeats 4000000
namespace L2
open PySem PySem.Spec PyProof.Rows
noncomputable abbrev Key:=Sum Int Str
noncomputable def keyIs:Key->Value->Bool
  | .inl k,v=>Value.isInt k v
  | .inr x,v=>Value.isStrOf x v
noncomputable def keyH (w:World):Key->Int
  | .inl k=>hashInt k
  | .inr x=>hashStr w x
theorem Zbj:∀ {k:Key} {v:Value},keyIs k v=true->(∃ i t,k=Sum.inl i/\v=Value.int i t)\/(∃ x t,k=Sum.inr x/\v=Value.str x t)
  | .inl i,v,h=>by
    obtain ⟨t,e⟩:=Value.isInt_shape (k:=i) (v:=v) h
    exact .inl ⟨i,t,rfl,e⟩
  | .inr x,v,h=>by
    obtain ⟨t,e⟩:=Value.isStrOf_shape (x:=x) (v:=v) h
    exact .inr ⟨x,t,rfl,e⟩
theorem ZfO (i:Int) (t:Tok):keyIs (.inl i) (.int i t)=true:=by simp [keyIs,Value.isInt]
theorem Zc9 (x:Str) (t:Tok):keyIs (.inr x) (.str x t)=true:=by simp [keyIs,Value.isStrOf]
theorem key_ll (a b:Int):decide ((Sum.inl a:Key)=Sum.inl b)=(a == b):=by
  by_cases e:a=b
  . subst e; simp
  . have h:¬ (Sum.inl a:Key)=Sum.inl b:=fun q=>e (Sum.inl.inj q)
    rw [decide_eq_false h]
    exact (beq_eq_false_iff_ne.mpr e).symm
theorem key_rr (a b:Str):decide ((Sum.inr a:Key)=Sum.inr b)=decide (a=b):=by
  by_cases e:a=b
  . subst e; simp
  . have h:¬ (Sum.inr a:Key)=Sum.inr b:=fun q=>e (Sum.inr.inj q)
    rw [decide_eq_false h,decide_eq_false e]
theorem key_lr (a:Int) (b:Str):decide ((Sum.inl a:Key)=Sum.inr b)=false:=decide_eq_false (fun q=>nomatch q)
theorem key_rl (a:Str) (b:Int):decide ((Sum.inr a:Key)=Sum.inl b)=false:=decide_eq_false (fun q=>nomatch q)
noncomputable def Za8 (prog:Program) (w:World):PySem.KeyKind prog w Key where
  is:=keyIs
  hash:=keyH w
  inj:=fun v a b ha hb=>by
    rcases Zbj ha with ⟨i,t,rfl,rfl⟩|⟨x,t,rfl,rfl⟩
    . rcases Zbj hb with ⟨j,u,rfl,e⟩|⟨y,u,rfl,e⟩
      . injection e with e1 _; rw [e1]
      . exact nomatch e
    . rcases Zbj hb with ⟨j,u,rfl,e⟩|⟨y,u,rfl,e⟩
      . exact nomatch e
      . injection e with e1 _; rw [e1]
  byValue:=fun k v h=>by
    rcases Zbj h with ⟨i,t,rfl,rfl⟩|⟨x,t,rfl,rfl⟩ <;> rfl
  pyHash:=fun hv h=>by
    rcases Zbj hv with ⟨i,t,rfl,rfl⟩|⟨x,t,rfl,rfl⟩
    . exact wpAny_pyHash_int h
    . exact wpAny_pyHash_str h
  eqBool:=fun hu hv h=>by
    rcases Zbj hu with ⟨i,t,rfl,rfl⟩|⟨x,t,rfl,rfl⟩
    . rcases Zbj hv with ⟨j,u,rfl,rfl⟩|⟨y,u,rfl,rfl⟩
      . rw [key_ll] at h; exact wpAny_eqBool_int h
      . rw [key_lr] at h; exact SeqAt.EqAt.int_str i t y u _ _ _ _ h
    . rcases Zbj hv with ⟨j,u,rfl,rfl⟩|⟨y,u,rfl,rfl⟩
      . rw [key_rl] at h; exact SeqAt.EqAt.str_int x t j u _ _ _ _ h
      . rw [key_rr] at h; exact wpAny_eqBool_str h
  «strs»:=fun k x t v h=>by
    rcases Zbj h with ⟨i,u,rfl,e⟩|⟨y,u,rfl,e⟩
    . exact nomatch e
    . injection e with e1 _
      subst e1
      cases v <;> rfl
theorem ZgV (prog:Program) (w:World) (i:Int) (t:Tok):(Za8 prog w).is (.inl i) (.int i t)=true:=ZfO i t
theorem ZgW (prog:Program) (w:World) (x:Str) (t:Tok):(Za8 prog w).is (.inr x) (.str x t)=true:=Zc9 x t
end L2
namespace L2
open PySem PySem.Spec PyProof.Rows
inductive V where
  | non|bl (b:Bool)|int (i:Int)|str (x:Str)|byt (b:Array UInt8)|flt (b:UInt64)|ref (a:Addr)|ty (n:String)
  deriving DecidableEq
noncomputable def RelV:V->Value->Prop
  | .non,u=>u=Value.none
  | .bl b,u=>u=Value.bool b
  | .int i,u=>∃ t,u=Value.int i t
  | .str x,u=>∃ t,u=Value.str x t
  | .byt b,u=>∃ t,u=Value.bytes b t
  | .flt b,u=>∃ t,u=Value.float b t
  | .ref a,u=>u=Value.ref a
  | .ty n,u=>u=Value.type n
noncomputable abbrev Vals:List V->List Value->Prop:=Paired RelV
theorem Vals.length {xs:List V} {us:List Value} (r:Vals xs us):xs.length=us.length:=Paired.length r
theorem Vals.get:∀ {xs:List V} {us:List Value} {i:Nat} {x:V},Vals xs us->xs[i]?=some x->∃ u,us[i]?=some u/\RelV x u
  | _,_,_,_,.nil,e=>by simp at e
  | _,_,0,_,.cons r _,e=>by simp at e; subst e; exact ⟨_,rfl,r⟩
  | _,_,i + 1,x,.cons _ t,e=>by
    obtain ⟨u,h1,h2⟩:=Vals.get (i:=i) (x:=x) t (by simpa using e)
    exact ⟨u,by simpa using h1,h2⟩
theorem Vals.set {x:V} {u:Value} (r:RelV x u):∀ {xs:List V} {us:List Value} (i:Nat),Vals xs us->Vals (xs.set i x) (us.set i u)
  | _,_,_,.nil=>.nil
  | _,_,0,.cons _ t=>.cons r t
  | _,_,i + 1,.cons q t=>.cons q (Vals.set r i t)
theorem Vals.append:∀ {xs ys:List V} {us ws:List Value},Vals xs us->Vals ys ws->Vals (xs ++ ys) (us ++ ws)
  | _,_,_,_,.nil,s=>s
  | _,_,_,_,.cons r t,s=>.cons r (Vals.append t s)
theorem Vals.take:∀ {xs:List V} {us:List Value} (n:Nat),Vals xs us->Vals (xs.take n) (us.take n)
  | _,_,0,_=>.nil
  | _,_,_ + 1,.nil=>.nil
  | _,_,n + 1,.cons r t=>.cons r (Vals.take n t)
theorem Vals.drop:∀ {xs:List V} {us:List Value} (n:Nat),Vals xs us->Vals (xs.drop n) (us.drop n)
  | _,_,0,r=>r
  | _,_,_ + 1,.nil=>.nil
  | _,_,n + 1,.cons _ t=>Vals.drop n t
theorem Vals.none_of:∀ {xs:List V} {us:List Value} {i:Nat},Vals xs us->xs[i]?=none->us[i]?=none:=fun {xs us i} r e=>by
  have h1:=r.length
  have h2:xs.length <= i:=List.getElem?_eq_none_iff.mp e
  exact List.getElem?_eq_none_iff.mpr (by omega)
noncomputable def RelO:Option V->Option Value->Prop
  | some v,some u=>RelV v u
  | none,none=>True
  | _,_=>False
noncomputable def KV {κ:Type}:List (κ × V)->List (κ × Value)->Prop:=Paired fun (p:κ × V) (q:κ × Value)=>p.1=q.1/\RelV p.2 q.2
noncomputable def kV:Key->V
  | .inl i=>.int i
  | .inr x=>.str x
inductive HO where
  | lst (xs:List V)
  | tup (xs:List V)
  | dK (kvs:List (Key × V))|dT (kvs:List (List Key × V))
  | set (S:Int->Bool) (n:Nat)
  | ins (C dx:Addr) (fs:List (Str × V))
  | own (x:Addr)
  | xd (fs:List (Str × V))
  | met (f x:Addr)
  | rng (lo hi:Int)
  | frz (o:Obj) (u:HO)
  | tbl (ps:Array Value)
  | ext (φ:Heap->Prop)
noncomputable abbrev Hp:=Addr->Option HO
noncomputable def upd (H:Hp) (a:Addr) (o:HO):Hp:=fun b=>if b=a then some o else H b
theorem Zah {H:Hp} {a:Addr} {o:HO}:upd H a o a=some o:=by unfold upd; rw [if_pos rfl]
theorem Zak {H:Hp} {a b:Addr} {o:HO} (h:b ≠ a):upd H a o b=H b:=by unfold upd; rw [if_neg h]
theorem ZaY {H:Hp} {a:Addr} {o u:HO}:upd (upd H a o) a u=upd H a u:=by
  funext b; unfold upd; split <;> rfl
theorem Zbl {H:Hp} {a b:Addr} {o u:HO} (h:H a=some o) (h':H b=some u) (d:o ≠ u):a ≠ b:=by
  intro e; subst e; rw [h] at h'; exact d (Option.some.inj h')
theorem Zam {H:Hp} {a b:Addr} {o:HO} (h:H a=some o) (h':H b=none):a ≠ b:=by
  intro e; subst e; rw [h] at h'; cases h'
section
variable (P:Program) (w:World)
noncomputable def ObjOk (H:Hp) (h:Heap) (a:Addr):HO->Prop
  | .lst xs=>xs.length <= sizeLine/\∃ (its:List Value) (n:Nat),Vals xs its/\h.get? a=some { cls:=.type "list", data:=.seq its.toArray n }
  | .tup xs=>xs.length <= sizeLine/\∃ its:List Value,Vals xs its/\IsTup h a its.toArray
  | .dK kvs=>kvs.length <= sizeLine/\(a == sysModules)=false/\∃ vs,KV kvs vs/\h.DictOf (Za8 P w) a vs
  | .dT kvs=>kvs.length <= sizeLine/\(a == sysModules)=false/\∃ xs:List (List Key × Addr × Value),
      Paired (fun (p:List Key × V) (q:List Key × Addr × Value)=>p.1=q.1/\H q.2.1=some (.tup (p.1.map kV))/\RelV p.2 q.2.2) kvs xs /\
      ∃ o es ep,h.get? a=some o/\o.ExactDict/\o.data=.dict es ep/\es.toList=xs.map (entryOfKey (tupleKind (Za8 P w)))/\(xs.map (·.1)).Nodup
  | .set S n=>h.SetOf (intKind P w) a S n
  | .ins C dx fs=>H dx=some (.own a)/\fs.length <= 1000/\dx ≠ a/\h.get? a=some (PySem.W.instObj C dx) /\
      ∃ mA,h.Ns1 dx mA/\(∀ f,RelO (fs.lookup f) (mA f))/\PySem.Within mA (fs.map (·.1))
  | .own _=>∃ o,h.get? a=some o
  | .xd fs=>∃ mA,h.Ns1 a mA/\∀ f,RelO (fs.lookup f) (mA f)
  | .rng lo hi=>∃ t u v,h.get? a=some { cls:=.type "range", data:=.fields #[.int lo t,.int hi u,.int 1 v] }
  | .frz o u=>h.get? a=some o/\ObjOk H h a u
  | .tbl ps=>h.get? a=some { cls:=.none,data:=.fields ps }
  | .met f x=>h.get? a=some (PySem.W.methodObj (.ref f) (.ref x))
  | .ext φ=>φ h/\(∃ o,h.get? a=some o)/\∀ h1 h2:Heap,φ h1->(∀ o,h1.get? a=some o->h2.get? a=some o)->φ h2
noncomputable def HOk (H:Hp) (h:Heap):Prop:=∀ a o,H a=some o->ObjOk P w H h a o
end
section
variable {P:Program} {w:World} {H H':Hp} {h h':Heap} {a:Addr} {o:HO}
theorem ObjOk.lt (x:ObjOk P w H h a o):a < h.objs.size:=by
  cases o with
  | lst xs=>obtain ⟨_,_,_,_,e⟩:=x; exact Heap.lt_size e
  | tup xs=>obtain ⟨_,_,_,p⟩:=x; exact p.lt
  | dK kvs=>obtain ⟨_,_,_,_,o,_,_,e,_⟩:=x; exact Heap.lt_size e
  | dT kvs=>obtain ⟨_,_,_,_,o,_,_,e,_⟩:=x; exact Heap.lt_size e
  | set S n=>obtain ⟨o,_,_,_,e,_⟩:=x; exact Heap.lt_size e
  | ins C dx fs=>obtain ⟨_,_,_,e,_⟩:=x; exact Heap.lt_size e
  | own y=>obtain ⟨_,e⟩:=x; exact Heap.lt_size e
  | xd fs=>obtain ⟨_,⟨_,_,_,e,_⟩,_⟩:=x; exact Heap.lt_size e
  | rng lo hi=>obtain ⟨_,_,_,e⟩:=x; exact Heap.lt_size e
  | frz ob u=>obtain ⟨e,_⟩:=x; exact Heap.lt_size e
  | tbl ps=>exact Heap.lt_size (show h.get? a=some _ from x)
  | met f y=>exact Heap.lt_size (show h.get? a=some _ from x)
  | ext φ=>obtain ⟨_,⟨_,e⟩,_⟩:=x; exact Heap.lt_size e
theorem Paired.mapP {α β:Type} {F G:α->β->Prop}:∀ {l₁:List α} {l₂:List β},Paired F l₁ l₂->(∀ a b,F a b->G a b)->Paired G l₁ l₂
  | _,_,.nil,_=>.nil
  | _,_,.cons r t,f=>.cons (f _ _ r) (Paired.mapP t f)
theorem ObjOk.stay (x:ObjOk P w H h a o) (k:∀ b u,(b=a\/H b=some (.own a))->h.get? b=some u->h'.get? b=some u)
    (ho:∀ b,H b=some (.own a)->H' b=some (.own a)) (ht:∀ b xs,H b=some (.tup xs)->H' b=some (.tup xs)):ObjOk P w H' h' a o:=by
  induction o with
  | lst xs=>obtain ⟨z,its,n,r,e⟩:=x; exact ⟨z,its,n,r,k _ _ (.inl rfl) e⟩
  | tup xs=>obtain ⟨z,its,r,ob,e,c⟩:=x; exact ⟨z,its,r,ob,k _ _ (.inl rfl) e,c⟩
  | dK kvs=>obtain ⟨z,y,vs,r,ob,es,ep,e,c⟩:=x; exact ⟨z,y,vs,r,ob,es,ep,k _ _ (.inl rfl) e,c⟩
  | dT kvs =>
    obtain ⟨z,y,xs,r,ob,es,ep,e,c⟩:=x
    exact ⟨z,y,xs,Paired.mapP r fun p q z=>⟨z.1,ht _ _ z.2.1,z.2.2⟩,ob,es,ep,k _ _ (.inl rfl) e,c⟩
  | set S n=>obtain ⟨ob,es,ep,t,e,c⟩:=x; exact ⟨ob,es,ep,t,k _ _ (.inl rfl) e,c⟩
  | ins C dx fs =>
    obtain ⟨d,z,ne,e,mA,⟨od,es,ep,e2,c⟩,r⟩:=x
    exact ⟨ho _ d,z,ne,k _ _ (.inl rfl) e,mA,⟨od,es,ep,k _ _ (.inr d) e2,c⟩,r⟩
  | own y=>obtain ⟨ob,e⟩:=x; exact ⟨ob,k _ _ (.inl rfl) e⟩
  | xd fs=>obtain ⟨mA,⟨od,es,ep,e,c⟩,r⟩:=x; exact ⟨mA,⟨od,es,ep,k _ _ (.inl rfl) e,c⟩,r⟩
  | rng lo hi=>obtain ⟨t,u,v,e⟩:=x; exact ⟨t,u,v,k _ _ (.inl rfl) e⟩
  | frz ob u ih=>obtain ⟨e,q⟩:=x; exact ⟨k _ _ (.inl rfl) e,ih q⟩
  | tbl ps =>
    have e:h.get? a=some { cls:=.none,data:=.fields ps }:=x
    show h'.get? a=some { cls:=.none,data:=.fields ps }
    exact k a _ (.inl rfl) e
  | met f y =>
    have e:h.get? a=some (PySem.W.methodObj (.ref f) (.ref y)):=x
    show h'.get? a=some (PySem.W.methodObj (.ref f) (.ref y))
    exact k a _ (.inl rfl) e
  | ext φ=>obtain ⟨p,⟨o,e⟩,st⟩:=x; exact ⟨st _ _ p fun o q=>k _ _ (.inl rfl) q,⟨o,k _ _ (.inl rfl) e⟩,st⟩
theorem HOk.lt (x:HOk P w H h) (e:H a=some o):a < h.objs.size:=(x a o e).lt
theorem HOk.fresh (x:HOk P w H h) (e:h.objs.size <= a):H a=none:=by
  cases q:H a with
  | none=>rfl
  | some u=>exact absurd (Nat.lt_of_lt_of_le (x.lt q) e) (Nat.lt_irrefl _)
theorem HOk.kept (x:HOk P w H h) (k:∀ b u,h.get? b=some u->h'.get? b=some u):HOk P w H h':=fun a o e =>
  (x a o e).stay (fun b u _ q=>k b u q) (fun _ q=>q) fun _ _ q=>q
theorem HOk.laid (x:HOk P w H h) (k:∀ b u,h.get? b=some u->h'.get? b=some u) (hp:h.objs.size <= a) (new:ObjOk P w (upd H a o) h' a o):HOk P w (upd H a o) h':=fun b u e=>by
  have hn:=x.fresh hp
  by_cases hb:b=a
  . subst hb; rw [Zah] at e; cases e; exact new
  . rw [Zak hb] at e
    exact (x b u e).stay (fun c v _ q=>k c v q) (fun c q=>by rw [Zak (Zam q hn)]; exact q) fun c xs q=>by rw [Zak (Zam q hn)]; exact q
end
noncomputable def Rd (H:Hp) (a:Addr) (u:HO):Prop:=H a=some u\/∃ o,H a=some (.frz o u)
theorem Rd.of {H:Hp} {a:Addr} {u:HO} (h:H a=some u):Rd H a u:=.inl h
theorem Rd.ok {P:Program} {w:World} {H:Hp} {h:Heap} {a:Addr} {u:HO} (r:Rd H a u) (x:HOk P w H h):ObjOk P w H h a u:=by
  rcases r with r|⟨o,r⟩
  . exact x a u r
  . obtain ⟨_,q⟩:=x a _ r
    exact q
noncomputable def Mut:Option HO->Prop
  | some (.lst _)=>True
  | some (.dK _)=>True
  | some (.dT _)=>True
  | some (.set _ _)=>True
  | some (.ins _ _ _)=>True
  | some (.ext _)=>True
  | _=>False
section
variable {P:Program} {w:World} {H:Hp} {h h':Heap} {x e:Addr} {o':HO}
theorem HOk.write (ok:HOk P w H h) (mu:Mut (H x)) (he:e=x\/H e=some (.own x)) (k:∀ b u,b ≠ e->h.get? b=some u->h'.get? b=some u) (heo:∃ u,h'.get? e=some u)
    (new:ObjOk P w (upd H x o') h' x o'):HOk P w (upd H x o') h':=fun b u q=>by
  have nown:∀ c y,H c=some (.own y)->c ≠ x:=fun c y r z=>by subst z; rw [r] at mu; exact mu
  have ntup:∀ c xs,H c=some (.tup xs)->c ≠ x:=fun c xs r z=>by subst z; rw [r] at mu; exact mu
  by_cases hb:b=x
  . subst hb; rw [Zah] at q; cases q; exact new
  . rw [Zak hb] at q
    by_cases hbe:b=e
    . have q':H b=some (.own x):=by
        rcases he with z|z
        . exact absurd (hbe.trans z) hb
        . rw [hbe]; exact z
      rw [q] at q'; cases q'
      obtain ⟨v,hv⟩:=heo
      exact ⟨v,by rw [hbe]; exact hv⟩
    . refine (ok b u q).stay (fun c v hc r=>k c v ?_ r) (fun c r=>by rw [Zak (nown c b r)]; exact r) fun c xs r=>by rw [Zak (ntup c xs r)]; exact r
      rcases hc with rfl|hc
      . exact hbe
      . rintro rfl
        rcases he with z|z
        . exact nown c b hc z
        . rw [hc] at z; cases z; exact hb rfl
end
structure Un (fs ex:List Addr) (H H':Hp) (h h':Heap):Prop where
  keep:∀ b o,h.get? b=some o->H b=none->b ∉ fs->b ∉ ex->h'.get? b=some o
  slot:∀ b o,h.get? b=some o->H b=none->b ∈ fs->b ∉ ex->∃ sl,h'.get? b=some { o with slots:=sl }
  free:∀ b o,h.get? b=some o->H b=none->b ∉ ex->H' b=none
  there:∀ b o,h.get? b=some o->b ∉ ex->∃ o',h'.get? b=some o'
  tups:∀ b xs,H b=some (.tup xs)->H' b=some (.tup xs)
  frzs:∀ b o u,H b=some (.frz o u)->H' b=some (.frz o u)
  tbls:∀ b ps,H b=some (.tbl ps)->∃ more,H' b=some (.tbl (ps ++ more))
section
variable {fs fs' ex ex':List Addr} {H H1 H2:Hp} {h h1 h2 h':Heap} {a x e:Addr} {o:HO}
theorem Un.any (u:Un fs ex H H1 h h1) {b:Addr} {ob:Obj} (q:h.get? b=some ob) (n:H b=none) (hx:b ∉ ex):∃ sl,h1.get? b=some { ob with slots:=sl }:=by
  by_cases hb:b ∈ fs
  . exact u.slot b ob q n hb hx
  . exact ⟨ob.slots,u.keep b ob q n hb hx⟩
theorem Un.trans (a:Un fs ex H H1 h h1) (b:Un fs ex H1 H2 h1 h2):Un fs ex H H2 h h2 where
  keep:=fun c ob q n hc hx=>b.keep c ob (a.keep c ob q n hc hx) (a.free c ob q n hx) hc hx
  slot:=fun c ob q n hc hx=>by
    obtain ⟨sl,e1⟩:=a.slot c ob q n hc hx
    obtain ⟨sl',e2⟩:=b.slot c _ e1 (a.free c ob q n hx) hc hx
    exact ⟨sl',e2⟩
  free:=fun c ob q n hx=>by
    obtain ⟨o',e1⟩:=a.there c ob q hx
    exact b.free c o' e1 (a.free c ob q n hx) hx
  there:=fun c ob q hx=>by
    obtain ⟨o',e1⟩:=a.there c ob q hx
    exact b.there c o' e1 hx
  tups:=fun c xs q=>b.tups c xs (a.tups c xs q)
  frzs:=fun c ob xs q=>b.frzs c ob xs (a.frzs c ob xs q)
  tbls:=fun c ps q=>by
    obtain ⟨m1,e1⟩:=a.tbls c ps q
    obtain ⟨m2,e2⟩:=b.tbls c _ e1
    exact ⟨m1 ++ m2,by rw [e2,Array.append_assoc]⟩
theorem Un.kept (k:∀ b u,h.get? b=some u->h'.get? b=some u):Un fs ex H H h h' :=
  ⟨fun b ob q _ _ _=>k b ob q,fun b ob q _ _ _=>⟨ob.slots,k b ob q⟩,fun _ _ _ n _=>n,fun b ob q _=>⟨ob,k b ob q⟩,fun _ _ q=>q,fun _ _ _ q=>q,fun _ ps q=>⟨#[],by rw [q]; simp⟩⟩
theorem Un.refl:Un fs ex H H h h:=Un.kept fun _ _ q=>q
theorem Un.laid (k:∀ b u,h.get? b=some u->h'.get? b=some u) (hp:h.objs.size <= a) (hn:H a=none):Un fs ex H (upd H a o) h h' where
  keep:=fun b u q _ _ _=>k b u q
  slot:=fun b u q _ _ _=>⟨u.slots,k b u q⟩
  free:=fun b u q n _=>by rw [Zak (Nat.ne_of_lt (Nat.lt_of_lt_of_le (Heap.lt_size q) hp))]; exact n
  there:=fun b u q _=>⟨u,k b u q⟩
  tups:=fun b xs q=>by rw [Zak (Zam q hn)]; exact q
  frzs:=fun b u xs q=>by rw [Zak (Zam q hn)]; exact q
  tbls:=fun b ps q=>⟨#[],by rw [Zak (Zam q hn),q]; simp⟩
theorem Un.write (mu:Mut (H x)) (he:e=x\/H e=some (.own x)) (k:∀ b u,b ≠ e->h.get? b=some u->h'.get? b=some u) (heo:∃ u,h'.get? e=some u):Un fs ex H (upd H x o) h h':=by
  have hx:∀ b,H b=none->b ≠ x:=fun b n z=>by subst z; rw [n] at mu; exact mu
  have hb:∀ b,H b=none->b ≠ e:=fun b n z=>by
    subst z
    rcases he with r|r
    . exact hx b n r
    . rw [n] at r; cases r
  have hm:∀ b u,H b=some u->¬ Mut (some u)->b ≠ x:=fun b u q nm z=>by subst z; rw [q] at mu; exact nm mu
  refine ⟨fun b u q n _ _=>k b u (hb b n) q,fun b u q n _ _=>⟨u.slots,k b u (hb b n) q⟩,fun b u q n _=>by rw [Zak (hx b n)]; exact n,fun b u q _=>?_,
    fun b xs q=>by rw [Zak (hm b _ q fun z=>z)]; exact q,fun b u xs q=>by rw [Zak (hm b _ q fun z=>z)]; exact q,fun b ps q=>⟨#[],by rw [Zak (hm b _ q fun z=>z),q]; simp⟩⟩
  by_cases hbe:b=e
  . subst hbe; exact heo
  . exact ⟨u,k b u hbe q⟩
theorem Un.mono (u:Un fs ex H H1 h h1) (hs:∀ b ∈ fs,b ∈ fs') (hx:∀ b ∈ ex,b ∈ ex'):Un fs' ex' H H1 h h1 :=
  ⟨fun b ob q n hb he=>u.keep b ob q n (fun z=>hb (hs b z)) fun z=>he (hx b z),fun _ _ q n _ he=>u.any q n fun z=>he (hx _ z),fun b ob q n he=>u.free b ob q n fun z=>he (hx b z),fun b ob q he=>u.there b ob q fun z=>he (hx b z),u.tups,u.frzs,u.tbls⟩
end
noncomputable def trk (h:Heap) (H:Hp):List Addr:=(List.range h.objs.size).filter fun a=>(H a).isSome
noncomputable def hidT (h:Heap) (H:Hp):Heap:=PySem.W.hideAll h (trk h H)
theorem ZiR (h:Heap) (H:Hp):(hidT h H).objs.size=h.objs.size:=PySem.W.hideAll_size _ _
theorem Zkd {h:Heap} {H:Hp} {b:Addr} {o:Obj} (e:h.get? b=some o) (n:H b=none):(hidT h H).get? b=some o :=
  PySem.W.hideAll_get _ e fun hm=>by
    have q:(H b).isSome=true:=(List.mem_filter.mp hm).2
    rw [n] at q; simp at q
theorem Zly {h:Heap} {H:Hp} {b:Addr} {o:Obj} (e:(hidT h H).get? b=some o):h.get? b=some o/\H b=none:=by
  have e':h.get? b=some o:=PySem.W.of_hideAll (trk h H) e
  refine ⟨e',?_⟩
  cases q:H b with
  | none=>rfl
  | some x =>
    have hm:b ∈ trk h H:=List.mem_filter.mpr ⟨List.mem_range.mpr (Heap.lt_size e'),by simp [q]⟩
    have z:(hidT h H).get? b=none:=PySem.W.hideAll_none (trk h H) hm
    rw [z] at e; cases e
noncomputable def Zlz (g h:Heap) (L:Addr):List (Addr × Obj):=(List.range h.objs.size).filterMap fun a=>if a=L\/(g.get? a).isSome=true then none else (h.get? a).map fun o=>(a,o)
noncomputable def rest (g h:Heap) (L d:Addr):List (Addr × Obj):=(Zlz g h L).filter fun p=>decide (p.1 ≠ d)
end L2
namespace L2
open PySem PySem.Spec PyProof.Rows
structure Mod (K:PySem.W.Frag) (mg:Str->Option Value) (base:Heap):Prop where
  kin:K.In base
  glob:base.Ns mainGlobals mg
  blt:∃ mb,base.Ns builtinsNs mb/\∀ x:Str,x ≠ "__name__" -> mb x=bootBuiltins x
  nolimit:base.NoLimit
structure Cx where
  prog:Program
  w:World
  K:PySem.W.Frag
  mg:Str->Option Value
  base:Heap
  A:Around
  N:List Str
  s₀:Shared
  H₀:Hp
  env:Env
  outer:List Env
  stack:List Env
  ex:List Addr
  fn:Str->Bool
  calm:Bool
  pn:List (Addr × Obj)
  xe:Value->Shared->Prop
noncomputable def frs (l:List Env):List Addr:=l.filterMap (·.frame)
noncomputable abbrev Cx.fs (X:Cx):List Addr:=frs X.outer
noncomputable def Vis (sc:Scope) (x:Str):Prop:=sc.names.lookup x=some .local\/sc.names.lookup x=some .cell\/sc.names.lookup x=some .free
noncomputable def Loc (sc:Scope) (x:Str):Prop:=sc.names.lookup x=some .local\/sc.names.lookup x=some .cell
noncomputable def Look (env:Env) (h:Heap) (m:Str->Option Value) (x:Str) (u:Value):Prop :=
  (env.kindOf x=some .local/\m x=some u)\/((env.kindOf x=some .cell\/env.kindOf x=some .free)/\∃ c,env.cells.lookup x=some c/\h.IsCell c (some u))
structure Cx.Ok (X:Cx):Prop where
  mod:Mod X.K X.mg X.base
  kind:X.env.scope.kind=.function
  glob:X.env.globals=mainGlobals
  blt:X.env.builtins=builtinsNs
  above:X.s₀.heap.objs.size <= X.env.locals
  inj:∀ x y c,X.env.cells.lookup x=some c->X.env.cells.lookup y=some c->x=y
  has:∀ x,(X.env.kindOf x=some .cell\/X.env.kindOf x=some .free)->∃ c,X.env.cells.lookup x=some c
  cab:∀ x c,X.fn x=true->X.env.cells.lookup x=some c->X.s₀.heap.objs.size <= c
  hd:X.calm=true->X.A.handled=none
  frames:X.A.frames=some X.stack
  stk:X.stack=X.outer\/(X.stack=X.env :: X.outer/\X.env.frame=some X.env.locals)
  exf:∀ b ∈ X.ex,b ≠ X.env.locals/\∀ x c,X.env.cells.lookup x=some c->c ≠ b
  bs:∀ b o,X.base.get? b=some o->X.s₀.heap.get? b=some o/\X.H₀ b=none
  bsz:X.base.objs.size <= X.s₀.heap.objs.size
  noex:∀ b o,X.base.get? b=some o->b ∉ X.ex
  exfs:∀ b ∈ X.ex,b ∉ X.fs
  funs:X.s₀.heap.FunFrames X.base X.outer
  frf:∀ b ∈ X.fs,X.H₀ b=none
structure Inv (X:Cx) (pins:List (Addr × Obj)) (σ:List (Option V)) (H:Hp) (s:Shared):Prop where
  ok:X.Ok
  os:s.os=X.s₀.os
  bare:AllBare s.gens
  base:Un X.fs X.ex X.H₀ H X.s₀.heap s.heap
  loc:∃ m,s.heap.Ns X.env.locals m/\∀ (i:Nat) (x:Str) (v:V),X.N[i]?=some x->σ[i]?=some (some v)->Vis X.env.scope x->∃ u,RelV v u/\Look X.env s.heap m x u
  cell:∀ x c,X.env.cells.lookup x=some c->∃ v,s.heap.IsCell c v
  free:H X.env.locals=none
  freeC:∀ x c,X.env.cells.lookup x=some c->H c=none
  pin:∀ p ∈ X.pn ++ pins,s.heap.get? p.1=some p.2/\H p.1=none/\p.1 ≠ X.env.locals/\p.1 ∉ X.fs/\∀ v,p.2.data ≠ .cell v
  hok:HOk X.prog X.w H s.heap
  len:σ.length=X.N.length
section
variable {X:Cx} {pins:List (Addr × Obj)} {σ:List (Option V)} {H H':Hp} {s:Shared} {h':Heap}
theorem Cx.Ok.nofr (ok:X.Ok) {b:Addr} {o:Obj} (e:X.base.get? b=some o):b ∉ X.fs:=fun hb=>by
  have:=(ok.funs.mem hb).1
  rw [e] at this; cases this
theorem Inv.bs (I:Inv X pins σ H s):∀ b o,X.base.get? b=some o->s.heap.get? b=some o/\H b=none:=fun b o e =>
  ⟨I.base.keep b o (I.ok.bs b o e).1 (I.ok.bs b o e).2 (I.ok.nofr e) (I.ok.noex b o e),I.base.free b o (I.ok.bs b o e).1 (I.ok.bs b o e).2 (I.ok.noex b o e)⟩
theorem Inv.bk (I:Inv X pins σ H s):∀ b o,X.base.get? b=some o->s.heap.get? b=some o:=fun b o e=>(I.bs b o e).1
theorem Inv.mod (I:Inv X pins σ H s):Mod X.K X.mg X.base:=I.ok.mod
theorem Inv.kIn (I:Inv X pins σ H s):X.K.In s.heap:=I.ok.mod.kin.keeps I.bk
theorem Inv.nolimit (I:Inv X pins σ H s):s.heap.NoLimit:=I.ok.mod.nolimit.keeps I.bk
theorem Inv.fr (I:Inv X pins σ H s):∃ m,Fr X.base X.env.locals s.heap m :=
  let ⟨m,hn,_⟩:=I.loc
  ⟨m,hn,I.bk,Nat.le_trans I.ok.bsz I.ok.above⟩
theorem Inv.lt (I:Inv X pins σ H s):X.env.locals < s.heap.objs.size:=let ⟨_,hn,_⟩:=I.loc; hn.lt
theorem Inv.sz (I:Inv X pins σ H s):X.s₀.heap.objs.size <= s.heap.objs.size:=Nat.le_trans I.ok.above (Nat.le_of_lt I.lt)
theorem Inv.nofs (I:Inv X pins σ H s) {a:Addr} (h:s.heap.objs.size <= a):a ∉ X.fs:=fun hb=>by
  obtain ⟨_,o,ho,_⟩:=I.ok.funs.mem hb
  exact absurd (Nat.lt_of_lt_of_le (Heap.lt_size ho) (Nat.le_trans I.sz h)) (Nat.lt_irrefl _)
theorem Inv.cne (I:Inv X pins σ H s):∀ x c,X.env.cells.lookup x=some c->c ≠ X.env.locals:=fun x c e z=>by
  obtain ⟨v,o,ho,hd⟩:=I.cell x c e
  obtain ⟨m,⟨o',es,ep,ho',hd',_⟩,_⟩:=I.loc
  rw [z,ho'] at ho; cases ho; rw [hd'] at hd; cases hd
theorem Inv.funs (I:Inv X pins σ H s):s.heap.FunFrames X.base X.outer:=by
  have all:∀ (l:List Env),(∀ b ∈ frs l,b ∈ X.fs)->X.s₀.heap.FunFrames X.base l->s.heap.FunFrames X.base l:=by
    intro l
    induction l with
    | nil=>intro _ _; trivial
    | cons env r ih =>
      intro hs hl
      obtain ⟨hk,⟨L,o,hf,hn,ho,hd⟩,hr⟩:=hl
      have hL:L ∈ X.fs:=hs L (by unfold frs; rw [List.filterMap_cons,hf]; exact List.mem_cons_self)
      obtain ⟨sl,e⟩:=I.base.slot L o ho (I.ok.frf L hL) hL fun z=>I.ok.exfs L z hL
      exact ⟨hk,⟨L,_,hf,hn,e,hd⟩,ih (fun b hb=>hs b (by unfold frs; rw [List.filterMap_cons,hf]; exact List.mem_cons_of_mem _ hb)) hr⟩
  exact all X.outer (fun _ hb=>hb) I.ok.funs
theorem Inv.stack (I:Inv X pins σ H s):s.heap.FunFrames X.base X.stack:=by
  rcases I.ok.stk with e|⟨e,hf⟩
  . rw [e]; exact I.funs
  . rw [e]
    obtain ⟨m,hn,_⟩:=I.loc
    refine .cons (by rw [I.ok.kind]; decide) hf hn ?_ I.funs
    exact Heap.get?_none_of_le (Nat.le_trans I.ok.bsz I.ok.above)
theorem Inv.stkSub (I:Inv X pins σ H s):∀ b ∈ frs X.stack,b ∈ X.env.locals :: X.fs:=fun b hb=>by
  rcases I.ok.stk with e|⟨e,hf⟩
  . rw [e] at hb; exact List.mem_cons_of_mem _ hb
  . rw [e] at hb
    unfold frs at hb
    rw [List.filterMap_cons,hf] at hb
    exact hb
theorem Inv.stkFree (I:Inv X pins σ H s):∀ b ∈ frs X.stack,H b=none:=fun b hb=>by
  rcases List.mem_cons.mp (I.stkSub b hb) with e|hb
  . rw [e]; exact I.free
  . obtain ⟨_,o,ho,_⟩:=I.ok.funs.mem hb
    exact I.base.free b o ho (I.ok.frf b hb) fun z=>I.ok.exfs b z hb
theorem Inv.step {g':Array GenState} {t':Nat} {d':Drawn} {ch:List Addr} (I:Inv X pins σ H s)
    (hch:∀ b ∈ ch,(b ∈ X.ex\/X.s₀.heap.objs.size <= b)/\b ≠ X.env.locals/\(∀ x c,X.env.cells.lookup x=some c->c ≠ b)/\∀ p ∈ X.pn ++ pins,p.1 ≠ b)
    (keep:∀ b o,b ≠ X.env.locals->b ∉ X.fs->b ∉ ch->s.heap.get? b=some o->H b=none->h'.get? b=some o)
    (slot:∀ b o,b ≠ X.env.locals->b ∈ X.fs->b ∉ ch->s.heap.get? b=some o->H b=none->∃ sl,h'.get? b=some { o with slots:=sl }) (free:∀ b o,b ∉ ch->s.heap.get? b=some o->H b=none->H' b=none)
    (there:∀ b o,b ∉ ch->s.heap.get? b=some o->∃ o',h'.get? b=some o')
    (tups:∀ b xs,H b=some (.tup xs)->H' b=some (.tup xs)) (frzs:∀ b o u,H b=some (.frz o u)->H' b=some (.frz o u)) (tbls:∀ b ps,H b=some (.tbl ps)->∃ more,H' b=some (.tbl (ps ++ more)))
    (ns:∀ m,s.heap.Ns X.env.locals m->h'.Ns X.env.locals m) (hok:HOk X.prog X.w H' h') (hg:AllBare g') :
    Inv X pins σ H' { s with heap:=h',gens:=g',drawn:=d',toks:=t' }:=by
  have neL:∀ b o,X.s₀.heap.get? b=some o->b ≠ X.env.locals:=fun b o e=>Nat.ne_of_lt (Nat.lt_of_lt_of_le (Heap.lt_size e) I.ok.above)
  have neC:∀ b o,X.s₀.heap.get? b=some o->b ∉ X.ex->b ∉ ch:=fun b o e hx hb=>by
    rcases (hch b hb).1 with z|z
    . exact hx z
    . exact absurd (Nat.lt_of_lt_of_le (Heap.lt_size e) z) (Nat.lt_irrefl _)
  have cellK:∀ x c,X.env.cells.lookup x=some c->∀ v,s.heap.IsCell c v->h'.IsCell c v:=fun x c e v ⟨o,ho,hd⟩=>by
    have nch:c ∉ ch:=fun z=>(hch c z).2.2.1 x c e rfl
    by_cases hc:c ∈ X.fs
    . obtain ⟨sl,q⟩:=slot c o (I.cne x c e) hc nch ho (I.freeC x c e)
      exact ⟨_,q,hd⟩
    . exact ⟨o,keep c o (I.cne x c e) hc nch ho (I.freeC x c e),hd⟩
  refine ⟨I.ok,I.os,hg,⟨fun b o e n hb hx=>?_,fun b o e n hb hx=>?_,fun b o e n hx=>?_,fun b o e hx=>?_,fun b xs e=>tups b xs (I.base.tups b xs e),fun b o xs e=>frzs b o xs (I.base.frzs b o xs e),fun b ps e=>?_⟩,?_,fun x c e=>?_,?_,fun x c e=>?_,fun p hp=>?_,hok,I.len⟩
  . exact keep b o (neL b o e) hb (neC b o e hx) (I.base.keep b o e n hb hx) (I.base.free b o e n hx)
  . obtain ⟨sl,e1⟩:=I.base.slot b o e n hb hx
    obtain ⟨sl',e2⟩:=slot b _ (neL b o e) hb (neC b o e hx) e1 (I.base.free b o e n hx)
    exact ⟨sl',e2⟩
  . obtain ⟨o',e1⟩:=I.base.there b o e hx
    exact free b o' (neC b o e hx) e1 (I.base.free b o e n hx)
  . obtain ⟨o',e1⟩:=I.base.there b o e hx
    exact there b o' (neC b o e hx) e1
  . obtain ⟨m1,e1⟩:=I.base.tbls b ps e
    obtain ⟨m2,e2⟩:=tbls b _ e1
    exact ⟨m1 ++ m2,by rw [e2,Array.append_assoc]⟩
  . obtain ⟨m,hn,hl⟩:=I.loc
    refine ⟨m,ns m hn,fun i x v e1 e2 e3=>?_⟩
    obtain ⟨u,r,l⟩:=hl i x v e1 e2 e3
    refine ⟨u,r,?_⟩
    rcases l with l|⟨k,c,e,z⟩
    . exact .inl l
    . exact .inr ⟨k,c,e,cellK x c e _ z⟩
  . obtain ⟨v,z⟩:=I.cell x c e
    exact ⟨v,cellK x c e v z⟩
  . obtain ⟨m,⟨o,_,_,ho,_⟩,_⟩:=I.loc
    exact free _ o (fun z=>(hch _ z).2.1 rfl) ho I.free
  . obtain ⟨v,o,ho,hd⟩:=I.cell x c e
    exact free c o (fun z=>(hch c z).2.2.1 x c e rfl) ho (I.freeC x c e)
  . obtain ⟨e,n,ne,nf,d⟩:=I.pin p hp
    have nch:p.1 ∉ ch:=fun z=>(hch p.1 z).2.2.2 p hp rfl
    exact ⟨keep p.1 p.2 ne nf nch e n,free p.1 p.2 nch e n,ne,nf,d⟩
theorem Inv.un {t':Nat} (I:Inv X pins σ H s) (u:Un X.fs [] H H' s.heap h') (hok:HOk X.prog X.w H' h'):Inv X pins σ H' { s with heap:=h',toks:=t' }:=by
  obtain ⟨m,⟨o,es,ep,ho,r⟩,_⟩:=id I.loc
  obtain ⟨sl,hL⟩:=u.any ho I.free (by simp)
  exact I.step (g':=s.gens) (d':=s.drawn) (ch:=[]) (fun _ z=>nomatch z) (fun b o _ hb _ e n=>u.keep b o e n hb (by simp)) (fun b o _ hb _ e n=>u.slot b o e n hb (by simp)) (fun b o _ e n=>u.free b o e n (by simp)) (fun b o _ e=>u.there b o e (by simp)) u.tups u.frzs u.tbls (fun m' hm=>by
    obtain ⟨o',es',ep',ho',r'⟩:=hm
    rw [ho] at ho'; cases ho'
    exact ⟨_,es',ep',hL,r'⟩) hok I.bare
theorem Inv.call {g':Array GenState} {t':Nat} {d':Drawn} {ch:List Addr} (I:Inv X pins σ H s) (u:Un (frs X.stack) ch H H' s.heap h') (hok:HOk X.prog X.w H' h') (hg:AllBare g')
    (hch:∀ b ∈ ch,(b ∈ X.ex\/X.s₀.heap.objs.size <= b)/\b ≠ X.env.locals/\(∀ x c,X.env.cells.lookup x=some c->c ≠ b)/\∀ p ∈ X.pn ++ pins,p.1 ≠ b) :
    Inv X pins σ H' { s with heap:=h',gens:=g',drawn:=d',toks:=t' }:=by
  obtain ⟨m,⟨o,es,ep,ho,r⟩,_⟩:=id I.loc
  obtain ⟨sl,hL⟩:=u.any ho I.free fun z=>(hch _ z).2.1 rfl
  exact I.step (ch:=ch) hch (fun b o hL hb hc e n=>u.keep b o e n (fun z=>(List.mem_cons.mp (I.stkSub b z)).elim hL hb) hc) (fun b o _ _ hc e n=>u.any e n hc) (fun b o hc e n=>u.free b o e n hc) (fun b o hc e=>u.there b o e hc) u.tups u.frzs u.tbls (fun m' hm=>by
    obtain ⟨o',es',ep',ho',r'⟩:=hm
    rw [ho] at ho'; cases ho'
    exact ⟨_,es',ep',hL,r'⟩) hok hg
theorem Inv.turned {t':Nat} {it:Addr} (I:Inv X pins σ H s) (k:∀ b o,b ≠ it->s.heap.get? b=some o->h'.get? b=some o) (hn:H it=none) (hL:it ≠ X.env.locals)
    (h1:it ∈ X.ex\/X.s₀.heap.objs.size <= it) (h2:∀ x c,X.env.cells.lookup x=some c->c ≠ it) (h3:∀ p ∈ X.pn ++ pins,p.1 ≠ it):Inv X pins σ H { s with heap:=h',toks:=t' }:=by
  have nit:∀ b u,H b=some u->b ≠ it:=fun b u e z=>by rw [z,hn] at e; cases e
  refine I.step (g':=s.gens) (d':=s.drawn) (ch:=[it]) (fun b hb=>?_) (fun b o _ _ hc e _=>k b o (fun z=>hc (by simp [z])) e) (fun b o _ _ hc e _=>⟨o.slots,k b o (fun z=>hc (by simp [z])) e⟩) (fun _ _ _ _ n=>n)
    (fun b o hc e=>⟨o,k b o (fun z=>hc (by simp [z])) e⟩) (fun _ _ e=>e) (fun _ _ _ e=>e) (fun b ps e=>⟨#[],by rw [e]; simp⟩) (fun m hm=>?_) (fun b u e=>?_) I.bare
  . have e:b=it:=by simpa using hb
    subst e
    exact ⟨h1,hL,h2,h3⟩
  . obtain ⟨o,es,ep,ho,r⟩:=hm
    exact ⟨o,es,ep,k _ o (Ne.symm hL) ho,r⟩
  . refine (I.hok b u e).stay (fun c v hc q=>k c v ?_ q) (fun _ q=>q) fun _ _ q=>q
    rcases hc with z|z
    . rw [z]; exact nit b u e
    . exact nit c _ z
theorem Inv.tok (I:Inv X pins σ H s) (t:Nat):Inv X pins σ H { s with toks:=t }:=I.un (h':=s.heap) (t':=t) Un.refl I.hok
theorem Inv.kept {t':Nat} (I:Inv X pins σ H s) (k:∀ b u,s.heap.get? b=some u->h'.get? b=some u):Inv X pins σ H { s with heap:=h',toks:=t' }:=I.un (Un.kept k) (I.hok.kept k)
theorem Inv.laid {a:Addr} {o:HO} {t':Nat} (I:Inv X pins σ H s) (k:∀ b u,s.heap.get? b=some u->h'.get? b=some u) (hp:s.heap.objs.size <= a) (new:ObjOk X.prog X.w (upd H a o) h' a o) :
    Inv X pins σ (upd H a o) { s with heap:=h',toks:=t' }:=I.un (Un.laid k hp (I.hok.fresh hp)) (I.hok.laid k hp new)
theorem Inv.write {x e:Addr} {o:HO} {t':Nat} (I:Inv X pins σ H s) (mu:Mut (H x)) (he:e=x\/H e=some (.own x)) (k:∀ b u,b ≠ e->s.heap.get? b=some u->h'.get? b=some u) (heo:∃ u,h'.get? e=some u)
    (new:ObjOk X.prog X.w (upd H x o) h' x o):Inv X pins σ (upd H x o) { s with heap:=h',toks:=t' }:=I.un (Un.write mu he k heo) (I.hok.write mu he k heo new)
theorem Inv.pins_of {pins':List (Addr × Obj)} (I:Inv X pins σ H s) (h:∀ p ∈ pins',s.heap.get? p.1=some p.2/\H p.1=none/\p.1 ≠ X.env.locals/\p.1 ∉ X.fs/\∀ v,p.2.data ≠ .cell v):Inv X pins' σ H s :=
  ⟨I.ok,I.os,I.bare,I.base,I.loc,I.cell,I.free,I.freeC,fun p hp=>(List.mem_append.mp hp).elim (fun z=>I.pin p (List.mem_append_left _ z)) (h p),I.hok,I.len⟩
theorem ZhV {N:List Str} (hN:N.Nodup) {i j:Nat} {x:Str} (a:N[i]?=some x) (b:N[j]?=some x):i=j:=by
  obtain ⟨h1,e1⟩:=List.getElem?_eq_some_iff.mp a
  obtain ⟨h2,e2⟩:=List.getElem?_eq_some_iff.mp b
  exact (List.getElem_inj hN).mp (e1.trans e2.symm)
theorem ZiS {M:Model} {A:Around} {E:Value->Shared->Prop} {i:Nat} {x:Str} {v:V} {u:Value} {Q:Unit->Shared->Prop} (I:Inv X pins σ H s) (hN:X.N.Nodup) (hi:X.N[i]?=some x) (hx:Loc X.env.scope x) (r:RelV v u)
    (h:∀ s',Inv X pins (σ.set i (some v)) H s'->(∃ a,Heap.SameBut a s.heap s'.heap/\(a=X.env.locals\/X.env.cells.lookup x=some a))->Q () s') (hf:X.fn x=true\/X.env.scope.names.lookup x=some .local:=by first|exact .inl rfl|exact .inr rfl|assumption):wpAny M A (storeName X.env x u) Q E s:=by
  obtain ⟨m,hn,hl⟩:=id I.loc
  have hcls:(X.env.scope.kind == .class || (X.env.scope.kind == .module && X.env.locals != X.env.globals))=false:=by rw [I.ok.kind]; rfl
  have hiσ:i < σ.length:=by rw [I.len]; exact (List.getElem?_eq_some_iff.mp hi).1
  have cne:=I.cne
  have tracked:∀ {a:Addr} {h':Heap},(∃ o,s.heap.get? a=some o/\H a=none)->Heap.SameBut a s.heap h'->HOk X.prog X.w H h':=fun {a h'} ha hs b ob e=>by
    obtain ⟨_,_,hfree⟩:=ha
    refine (I.hok b ob e).stay (fun c w' hc q=>(hs.2 c ?_).trans q) (fun _ q=>q) fun _ _ q=>q
    rintro rfl
    rcases hc with rfl|hc
    . rw [hfree] at e; cases e
    . rw [hfree] at hc; cases hc
  rcases hx with hk|hk
  . refine wpAny_storeName_local hk hn (fun h' hn' hs=>?_) hcls
    obtain ⟨oL,_,_,hoL,_⟩:=id hn
    refine h _ ⟨I.ok,I.os,I.bare,⟨fun b o e n hb hx=>?_,fun b o e n hb hx=>?_,I.base.free,fun b o e hx=>?_,I.base.tups,I.base.frzs,I.base.tbls⟩,⟨_,hn',fun j y v' e1 e2 e3=>?_⟩,fun y c e=>?_,I.free,I.freeC,fun p hp=>?_,tracked ⟨oL,hoL,I.free⟩ hs,by simpa using I.len⟩ ⟨_,hs,.inl rfl⟩
    . exact (hs.2 b (Nat.ne_of_lt (Nat.lt_of_lt_of_le (Heap.lt_size e) I.ok.above))).trans (I.base.keep b o e n hb hx)
    . obtain ⟨sl,e1⟩:=I.base.slot b o e n hb hx
      exact ⟨sl,(hs.2 b (Nat.ne_of_lt (Nat.lt_of_lt_of_le (Heap.lt_size e) I.ok.above))).trans e1⟩
    . obtain ⟨o',e1⟩:=I.base.there b o e hx
      exact ⟨o',(hs.2 b (Nat.ne_of_lt (Nat.lt_of_lt_of_le (Heap.lt_size e) I.ok.above))).trans e1⟩
    . by_cases hj:j=i
      . subst hj
        rw [hi] at e1; cases e1
        rw [List.getElem?_set_self hiσ] at e2
        cases e2
        exact ⟨u,r,.inl ⟨hk,by simp⟩⟩
      . rw [List.getElem?_set_ne (Ne.symm hj)] at e2
        obtain ⟨u',r',q⟩:=hl j y v' e1 e2 e3
        refine ⟨u',r',?_⟩
        rcases q with ⟨k,e⟩|⟨k,c,e,z⟩
        . refine .inl ⟨k,?_⟩
          have:y ≠ x:=fun e=>hj (ZhV hN e1 (e ▸ hi))
          simp [this,e]
        . exact .inr ⟨k,c,e,z.sameBut hs (cne y c e)⟩
    . obtain ⟨w',z⟩:=I.cell y c e
      exact ⟨w',z.sameBut hs (cne y c e)⟩
    . obtain ⟨e,n,ne,nf,d⟩:=I.pin p hp
      exact ⟨(hs.2 p.1 ne).trans e,n,ne,nf,d⟩
  . have hfn:X.fn x=true:=by
      rcases hf with z|z
      . exact z
      . rw [z] at hk; cases hk
    obtain ⟨c,hc⟩:=I.ok.has x (.inl hk)
    obtain ⟨w',z⟩:=I.cell x c hc
    refine wpAny_storeName_cell I.ok.kind hk hc z (fun h' hc' hs=>?_)
    obtain ⟨oc,hoc,hocd⟩:=id z
    refine h { s with heap:=h' } ⟨I.ok,I.os,I.bare,⟨fun b o e n hb hx=>?_,fun b o e n hb hx=>?_,I.base.free,fun b o e hx=>?_,I.base.tups,I.base.frzs,I.base.tbls⟩,⟨m,hn.sameBut hs (Ne.symm (cne x c hc)),fun j y v' e1 e2 e3=>?_⟩,fun y c' e=>?_,I.free,I.freeC,fun p hp=>?_,tracked ⟨oc,hoc,I.freeC x c hc⟩ hs,by simpa using I.len⟩ ⟨c,hs,.inr hc⟩
    . exact (hs.2 b (Nat.ne_of_lt (Nat.lt_of_lt_of_le (Heap.lt_size e) (I.ok.cab x c hfn hc)))).trans (I.base.keep b o e n hb hx)
    . obtain ⟨sl,e1⟩:=I.base.slot b o e n hb hx
      exact ⟨sl,(hs.2 b (Nat.ne_of_lt (Nat.lt_of_lt_of_le (Heap.lt_size e) (I.ok.cab x c hfn hc)))).trans e1⟩
    . obtain ⟨o',e1⟩:=I.base.there b o e hx
      exact ⟨o',(hs.2 b (Nat.ne_of_lt (Nat.lt_of_lt_of_le (Heap.lt_size e) (I.ok.cab x c hfn hc)))).trans e1⟩
    . by_cases hj:j=i
      . subst hj
        rw [hi] at e1; cases e1
        rw [List.getElem?_set_self hiσ] at e2
        cases e2
        exact ⟨u,r,.inr ⟨.inl hk,c,hc,hc'⟩⟩
      . rw [List.getElem?_set_ne (Ne.symm hj)] at e2
        obtain ⟨u',r',q⟩:=hl j y v' e1 e2 e3
        refine ⟨u',r',?_⟩
        rcases q with q|⟨k,c',e,z'⟩
        . exact .inl q
        . refine .inr ⟨k,c',e,z'.sameBut hs ?_⟩
          rintro rfl
          exact hj (ZhV hN e1 (I.ok.inj _ _ _ e hc ▸ hi))
    . by_cases hcc:c'=c
      . subst hcc; exact ⟨_,hc'⟩
      . obtain ⟨w2,z2⟩:=I.cell y c' e
        exact ⟨w2,z2.sameBut hs hcc⟩
    . obtain ⟨e,n,ne,nf,d⟩:=I.pin p hp
      refine ⟨(hs.2 p.1 ?_).trans e,n,ne,nf,d⟩
      intro q
      rw [q,hoc] at e
      have q':oc=p.2:=Option.some.inj e
      exact d w' (by rw [<- q']; exact hocd)
theorem ZhW {M:Model} {A:Around} {E:Value->Shared->Prop} {i:Nat} {x:Str} {v:V} {u:Value} {Q:Unit->Shared->Prop} (I:Inv X pins σ H s) (hN:X.N.Nodup) (hi:X.N[i]?=some x) (hx:Loc X.env.scope x) (r:RelV v u)
    (h:∀ s',Inv X pins (σ.set i (some v)) H s'->Q () s') (hf:X.fn x=true\/X.env.scope.names.lookup x=some .local:=by first|exact .inl rfl|exact .inr rfl|assumption):wpAny M A (storeName X.env x u) Q E s :=
  ZiS I hN hi hx r (fun s' I' _=>h s' I') hf
theorem Inv.call' {s':Shared} {ch:List Addr} (I:Inv X pins σ H s) (ho:s'.os=s.os) (u:Un (frs X.stack) ch H H' s.heap s'.heap) (hok:HOk X.prog X.w H' s'.heap) (hg:AllBare s'.gens)
    (hch:∀ b ∈ ch,(b ∈ X.ex\/X.s₀.heap.objs.size <= b)/\b ≠ X.env.locals/\(∀ x c,X.env.cells.lookup x=some c->c ≠ b)/\∀ p ∈ X.pn ++ pins,p.1 ≠ b):Inv X pins σ H' s':=by
  obtain ⟨h',g',d',t',o'⟩:=s'
  have e:o'=s.os:=ho
  subst e
  exact I.call (g':=g') (t':=t') (d':=d') u hok hg hch
end
noncomputable abbrev XK:=Value->Option Addr->Hp->Prop
noncomputable abbrev St:=List (Option V)
noncomputable abbrev VK:=V->Hp->Prop
noncomputable abbrev TE:=St->Hp->VK->Prop
noncomputable abbrev TT:=St->Hp->(Bool->Hp->Prop)->Prop
noncomputable abbrev TA:=St->Hp->(List V->Hp->Prop)->Prop
structure Ends where
  nx:St->Hp->Prop
  rt:VK
  bk:St->Hp->Prop:=fun _ _=>False
  ct:St->Hp->Prop:=fun _ _=>False
noncomputable abbrev TS:=Ends->St->Hp->Prop
noncomputable def EP (X:Cx) (pins:List (Addr × Obj)) (σ:St) (Q:VK) (u:Value) (s':Shared):Prop:=∃ v H',Inv X pins σ H' s'/\RelV v u/\Q v H'
noncomputable def TP (X:Cx) (pins:List (Addr × Obj)) (σ:St) (Q:Bool->Hp->Prop) (b:Bool) (s':Shared):Prop:=∃ H',Inv X pins σ H' s'/\Q b H'
noncomputable def AP (X:Cx) (pins:List (Addr × Obj)) (σ:St) (Q:List V->Hp->Prop) (us:List Value) (s':Shared):Prop:=∃ vs H',Inv X pins σ H' s'/\Vals vs us/\Q vs H'
noncomputable def SP (X:Cx) (pins:List (Addr × Obj)) (D:Ends) (f:Flow) (s':Shared):Prop :=
  match f with
  | .next=>∃ σ' H',Inv X pins σ' H' s'/\D.nx σ' H'
  | .brk=>∃ σ' H',Inv X pins σ' H' s'/\D.bk σ' H'
  | .cont=>∃ σ' H',Inv X pins σ' H' s'/\D.ct σ' H'
  | .ret u=>∃ v σ' H',Inv X pins σ' H' s'/\RelV v u/\D.rt v H'
noncomputable def PE (X:Cx) (e:Expr) (t:TE):Prop :=
  ∀ (pins:List (Addr × Obj)) (s:Shared) (σ:St) (H:Hp) (Q:VK),Inv X pins σ H s->t σ H Q->wpAny (model X.prog X.w) X.A (eval e X.env) (EP X pins σ Q) X.xe s
noncomputable def PT (X:Cx) (e:Expr) (t:TT):Prop :=
  ∀ (pins:List (Addr × Obj)) (s:Shared) (σ:St) (H:Hp) (Q:Bool->Hp->Prop),Inv X pins σ H s->t σ H Q->wpAny (model X.prog X.w) X.A (isTrue e X.env (eval e X.env)) (TP X pins σ Q) X.xe s
noncomputable def PW (X:Cx) (e:Expr) (t:TT):Prop :=
  ∀ (whole:Sem Value) (pins:List (Addr × Obj)) (s:Shared) (σ:St) (H:Hp) (Q:Bool->Hp->Prop),Inv X pins σ H s->t σ H Q->wpAny (model X.prog X.w) X.A (isTrue e X.env whole) (TP X pins σ Q) X.xe s
theorem PW.pt {X:Cx} {e:Expr} {t:TT} (h:PW X e t):PT X e t:=h _
noncomputable def PA (X:Cx) (es:List Expr) (t:TA):Prop :=
  ∀ (pos:Pos) (pins:List (Addr × Obj)) (s:Shared) (σ:St) (H:Hp) (Q:List V->Hp->Prop),Inv X pins σ H s->t σ H Q->wpAny (model X.prog X.w) X.A (spliced (backTo pos (starEach es X.env))) (AP X pins σ Q) X.xe s
noncomputable def PS (X:Cx) (st:Stmt) (t:TS):Prop :=
  ∀ (pins:List (Addr × Obj)) (s:Shared) (σ:St) (H:Hp) (D:Ends),Inv X pins σ H s->t D σ H->wpAny (model X.prog X.w) X.A (exec st X.env) (SP X pins D) X.xe s
noncomputable def PSs (X:Cx) (st:List Stmt) (t:TS):Prop :=
  ∀ (pins:List (Addr × Obj)) (s:Shared) (σ:St) (H:Hp) (D:Ends),Inv X pins σ H s->t D σ H->wpAny (model X.prog X.w) X.A (execs st X.env) (SP X pins D) X.xe s
theorem thn {α:Type} {t:Sem α} {Q Q':α->Shared->Prop} {M:Model} {A:Around} {E:Value->Shared->Prop} {s:Shared} (h:wpAny M A t Q E s) (hQ:∀ a s,Q a s->Q' a s):wpAny M A t Q' E s:=wpAny_mono h hQ fun _ _ x=>x
end L2
namespace L2
open PySem PySem.Spec PyProof.Rows
section
variable {X:Cx}
theorem bin {a b:Expr} {ta tb:TE} (ha:PE X a ta) (hb:PE X b tb) {pins:List (Addr × Obj)} {s:Shared} {σ:St} {H:Hp} {R:V->V->Hp->Prop} (I:Inv X pins σ H s) (h:ta σ H fun x H1=>tb σ H1 fun y H2=>R x y H2)
    {α:Type} {Q:α->Shared->Prop} {f:Value->Value->Sem α}
    (hf:∀ v u s2 x y H2,Inv X pins σ H2 s2->RelV x v->RelV y u->R x y H2->wpAny (model X.prog X.w) X.A (f v u) Q X.xe s2) :
    wpAny (model X.prog X.w) X.A (eval a X.env) (fun v s₁=>wpAny (model X.prog X.w) X.A (eval b X.env) (fun u s₂=>wpAny (model X.prog X.w) X.A (f v u) Q X.xe s₂) X.xe s₁) X.xe s:=by
  refine thn (ha pins s σ H _ I h) fun v s1 ⟨x,H1,I1,r1,q1⟩=>?_
  refine thn (hb pins s1 σ H1 _ I1 q1) fun u s2 ⟨y,H2,I2,r2,q2⟩=>?_
  exact hf v u s2 x y H2 I2 r1 r2 q2
noncomputable def tVar (i:Nat):TE:=fun σ H Q=>∃ v,σ[i]?=some (some v)/\Q v H
noncomputable def tC (v:V):TE:=fun _ H Q=>Q v H
theorem pe_var {i:Nat} {x:Str} {pos:Pos} (hN:X.N[i]?=some x) (hv:Vis X.env.scope x) (hd:(x == ("__debug__" : Str))=false:=by decide) (hcd:(x == ("__classdict__" : Str))=false:=by decide):PE X (.Name x pos) (tVar i):=by
  intro pins s σ H Q I h
  obtain ⟨v,e,h⟩:=h
  obtain ⟨m,hn,hl⟩:=I.loc
  obtain ⟨u,r,l⟩:=hl i x v hN e hv
  have fin:EP X pins σ Q u s:=⟨v,H,I,r,h⟩
  rcases l with ⟨hk,hm⟩|⟨hk,c,hc,hcell⟩
  . exact wpAny_Name (wpAny_loadName_local I.ok.kind hk hn hm fin) hd
  . rcases hk with hk|hk
    . exact wpAny_Name (wpAny_loadName_cell I.ok.kind hk hc hcell fin) hd
    . exact wpAny_Name (wpAny_loadName_free I.ok.kind hk hc hcell fin hcd) hd
theorem Zag {i j pos}:PE X (.Constant (.int i) j pos) (tC (.int i)):=fun _ _ _ H _ I h=>wpAny_Constant_int ⟨.int i,H,I.tok _,⟨_,rfl⟩,h⟩
theorem ZfP {b j pos}:PE X (.Constant (.bool b) j pos) (tC (.bl b)):=fun _ _ _ H _ I h=>Constant_bool ⟨.bl b,H,I,rfl,h⟩
theorem Zcn {j pos}:PE X (.Constant .none j pos) (tC .non):=fun _ _ _ H _ I h=>Constant_none ⟨.non,H,I,rfl,h⟩
theorem Zav {x j pos}:PE X (.Constant (.str x) j pos) (tC (.str x)):=fun _ _ _ H _ I h=>Calls.Constant_str ⟨.str x,H,I.tok _,⟨_,rfl⟩,h⟩
noncomputable def Gl (X:Cx) (x:Str):Prop:=X.env.kindOf x=some .globalImplicit
theorem ZgX {E:Value->Shared->Prop} {pins:List (Addr × Obj)} {s:Shared} {σ:St} {H:Hp} {x:Str} {u:Value} {pos:Pos} {Q:Value->Shared->Prop} (I:Inv X pins σ H s) (hg:Gl X x) (hm:X.mg x=some u) (h:Q u s)
    (hd:(x == ("__debug__" : Str))=false:=by decide):wpAny (model X.prog X.w) X.A (eval (.Name x pos) X.env) Q E s :=
  Calls.Name_function_global I.ok.kind hg (Calls.loadGlobal_global (by rw [I.ok.glob]; exact I.mod.glob.keeps I.bk) hm h) hd
theorem ZeS {E:Value->Shared->Prop} {pins:List (Addr × Obj)} {s:Shared} {σ:St} {H:Hp} {x:Str} {u:Value} {pos:Pos} {Q:Value->Shared->Prop} (I:Inv X pins σ H s) (hg:Gl X x) (hm:X.mg x=none) (hv:bootBuiltins x=some u) (h:Q u s)
    (hn:x ≠ "__name__" := by decide) (hd:(x == ("__debug__" : Str))=false:=by decide):wpAny (model X.prog X.w) X.A (eval (.Name x pos) X.env) Q E s:=by
  obtain ⟨mb,h1,h2⟩:=I.mod.blt
  exact Calls.Name_function_global I.ok.kind hg (Calls.loadGlobal_builtin (by rw [I.ok.glob]; exact I.mod.glob.keeps I.bk) hm (by rw [I.ok.blt]; exact h1.keeps I.bk) ((h2 x hn).trans hv) h) hd
theorem ZlA {x:Str} {v:V} {u:Value} {pos:Pos} (hg:Gl X x) (hm:X.mg x=some u) (r:RelV v u) (hd:(x == ("__debug__" : Str))=false:=by decide):PE X (.Name x pos) (tC v) :=
  fun _ _ _ H _ I h=>ZgX I hg hm ⟨v,H,I,r,h⟩ hd
theorem ZlB {x:Str} {v:V} {u:Value} {pos:Pos} (hg:Gl X x) (hm:X.mg x=none) (hv:bootBuiltins x=some u) (r:RelV v u) (hn:x ≠ "__name__" := by decide) (hd:(x == ("__debug__" : Str))=false:=by decide):PE X (.Name x pos) (tC v) :=
  fun _ _ _ H _ I h=>ZeS I hg hm hv ⟨v,H,I,r,h⟩ hn hd
noncomputable def t2I (ta tb:TE) (k:Int->Int->Hp->Prop):St->Hp->Prop:=fun σ H=>ta σ H fun x H1=>tb σ H1 fun y H2=>∃ i j,x=.int i/\y=.int j/\k i j H2
variable {a b:Expr} {ta tb:TE} {pos:Pos}
noncomputable def PC (X:Cx) (op:CmpOp) (a b:Expr) (t:TE):Prop :=
  ∀ (pins:List (Addr × Obj)) (s:Shared) (σ:St) (H:Hp) (Q:VK),Inv X pins σ H s->t σ H Q ->
    wpAny (model X.prog X.w) X.A (eval a X.env) (fun v s₁=>wpAny (model X.prog X.w) X.A (eval b X.env) (fun u s₂=>wpAny (model X.prog X.w) X.A (compareOp op v u) (EP X pins σ Q) X.xe s₂) X.xe s₁) X.xe s
theorem Zke (b:Expr) {op:CmpOp} (h:op ≠ .In) (h2:op ≠ .NotIn):behindInMarks op b=false:=by
  have e1:(op == CmpOp.In)=false:=by cases op <;> first|rfl|exact absurd rfl h
  have e2:(op == CmpOp.NotIn)=false:=by cases op <;> first|rfl|exact absurd rfl h2
  cases b <;> simp [behindInMarks,e1,e2]
noncomputable def tCmp (p:Int->Int->Bool) (ta tb:TE):TE:=fun σ H Q=>t2I ta tb (fun i j H2=>Q (.bl (p i j)) H2) σ H
noncomputable abbrev tLt:TE->TE->TE:=tCmp fun i j=>decide (i < j)
noncomputable abbrev tLe:TE->TE->TE:=tCmp fun i j=>decide (i <= j)
noncomputable abbrev tGt:TE->TE->TE:=tCmp fun i j=>decide (j < i)
noncomputable abbrev tGe:TE->TE->TE:=tCmp fun i j=>decide (j <= i)
noncomputable abbrev tEqI:TE->TE->TE:=tCmp fun i j=>decide (i=j)
noncomputable abbrev tNeI:TE->TE->TE:=tCmp fun i j=>!decide (i=j)
noncomputable def tB (t:TE):TT:=fun σ H Q=>t σ H fun x H1=>∃ c,x=.bl c/\Q c H1
theorem pt_cmp {op:CmpOp} {t:TE} (h:PC X op a b t) (h1:behindInMarks op b=false:=by first|exact Zke _ (by decide) (by decide)|rfl):PT X (.Compare a [op] [b] pos) (tB t):=by
  intro pins s σ H Q I hw
  refine wpAny_isTrue_Compare1 (thn (h pins s σ H _ I hw) fun v s1 h1=>thn h1 fun u s2 h2=>thn h2 fun c s3 ⟨x,H1,I1,r1,q1⟩=>?_) h1
  obtain ⟨d,rfl,q⟩:=q1
  cases r1
  exact wpAny_truthy_bool ⟨H1,I1,q⟩
theorem Zb6 {e:Expr} {t:TE} (h:PE X e t) (he:∀ whole,isTrue e X.env whole=(do let v <- whole; standAt e.pos; holding [v] (truthy v)):=by intro _; rfl):PT X e (tB t):=by
  intro pins s σ H Q I hw
  refine isTrue_plain (thn (h pins s σ H _ I hw) fun v s1 ⟨x,H1,I1,r1,q1⟩=>?_) (he _)
  obtain ⟨d,rfl,q⟩:=q1
  cases r1
  exact wpAny_truthy_bool ⟨H1,I1,q⟩
variable {tA tB':TT} {rest:List Expr}
noncomputable def tAnd (t u:TT):TT:=fun σ H Q=>t σ H fun c H1=>if c=true then u σ H1 Q else Q false H1
noncomputable def tOr (t u:TT):TT:=fun σ H Q=>t σ H fun c H1=>if c=true then Q true H1 else u σ H1 Q
noncomputable def tNot (t:TT):TT:=fun σ H Q=>t σ H fun c H1=>Q (!c) H1
theorem Ze3 (ha:PT X a tA):PW X (.BoolOp .And [a] pos) tA:=by
  intro wh pins s σ H Q I h
  refine isTrue_and (thn (ha pins s σ H Q I h) fun c s1 e=>?_)
  cases c with
  | true=>exact isTrue_and_nil e
  | false=>exact e
theorem Zle (ha:PT X a tA):PW X (.BoolOp .Or [a] pos) tA:=by
  intro wh pins s σ H Q I h
  refine isTrue_or (thn (ha pins s σ H Q I h) fun c s1 e=>?_)
  cases c with
  | false=>exact isTrue_or_nil e
  | true=>exact e
theorem ZhX (ha:PT X a tA) (hb:PW X (.BoolOp .And (b :: rest) pos) tB'):PW X (.BoolOp .And (a :: b :: rest) pos) (tAnd tA tB'):=by
  intro wh pins s σ H Q I h
  refine isTrue_and (thn (ha pins s σ H _ I h) fun c s1 ⟨H1,I1,q1⟩=>?_)
  cases c with
  | true=>exact hb wh pins s1 σ H1 Q I1 q1
  | false=>exact ⟨H1,I1,q1⟩
theorem pw_or (ha:PT X a tA) (hb:PW X (.BoolOp .Or (b :: rest) pos) tB'):PW X (.BoolOp .Or (a :: b :: rest) pos) (tOr tA tB'):=by
  intro wh pins s σ H Q I h
  refine isTrue_or (thn (ha pins s σ H _ I h) fun c s1 ⟨H1,I1,q1⟩=>?_)
  cases c with
  | true=>exact ⟨H1,I1,q1⟩
  | false=>exact hb wh pins s1 σ H1 Q I1 q1
theorem ZeT (ha:PT X a tA):PT X (.UnaryOp .Not a pos) (tNot tA):=by
  intro pins s σ H Q I h
  exact isTrue_not (ha pins s σ H (fun c H1=>Q (!c) H1) I h)
noncomputable def tAndV (ta tb:TE):TE:=fun σ H Q=>ta σ H fun x H1=>∃ c,x=.bl c/\if c=true then tb σ H1 Q else Q (.bl false) H1
noncomputable def tOrV (ta tb:TE):TE:=fun σ H Q=>ta σ H fun x H1=>∃ c,x=.bl c/\if c=true then Q (.bl true) H1 else tb σ H1 Q
noncomputable def tNotV (ta:TE):TE:=fun σ H Q=>ta σ H fun x H1=>∃ c,x=.bl c/\Q (.bl (!c)) H1
theorem Zd6 {op} {t:TE} (h:PE X a t):PE X (.BoolOp op [a] pos) t:=fun pins s σ H Q I hw=>BoolOp_one (h pins s σ H Q I hw)
theorem ZeU (ha:PE X a ta) (hb:PE X (.BoolOp .And (b :: rest) pos) tb):PE X (.BoolOp .And (a :: b :: rest) pos) (tAndV ta tb):=by
  intro pins s σ H Q I h
  refine BoolOp_and (thn (ha pins s σ H _ I h) fun v s1 ⟨x,H1,I1,r1,q1⟩=>?_)
  obtain ⟨c,rfl,q1⟩:=q1
  cases r1
  refine wpAny_truthy_bool ?_
  cases c with
  | true=>exact hb pins s1 σ H1 Q I1 q1
  | false=>exact ⟨.bl false,H1,I1,rfl,q1⟩
theorem pe_or (ha:PE X a ta) (hb:PE X (.BoolOp .Or (b :: rest) pos) tb):PE X (.BoolOp .Or (a :: b :: rest) pos) (tOrV ta tb):=by
  intro pins s σ H Q I h
  refine BoolOp_or (thn (ha pins s σ H _ I h) fun v s1 ⟨x,H1,I1,r1,q1⟩=>?_)
  obtain ⟨c,rfl,q1⟩:=q1
  cases r1
  refine wpAny_truthy_bool ?_
  cases c with
  | false=>exact hb pins s1 σ H1 Q I1 q1
  | true=>exact ⟨.bl true,H1,I1,rfl,q1⟩
theorem pe_not (ha:PE X a ta):PE X (.UnaryOp .Not a pos) (tNotV ta):=by
  intro pins s σ H Q I h
  refine UnaryOp_ (thn (ha pins s σ H _ I h) fun v s1 ⟨x,H1,I1,r1,q1⟩=>?_)
  obtain ⟨c,rfl,q1⟩:=q1
  cases r1
  exact not_of (wpAny_truthy_bool ⟨.bl (!c),H1,I1,rfl,q1⟩)
noncomputable def tIf (t:TT) (ta tb:TE):TE:=fun σ H Q=>t σ H fun c H1=>if c=true then ta σ H1 Q else tb σ H1 Q
theorem Zd0 {c:Expr} (hc:PT X c tA) (ha:PE X a ta) (hb:PE X b tb):PE X (.IfExp c a b pos) (tIf tA ta tb):=by
  intro pins s σ H Q I h
  refine wpAny_IfExp (thn (hc pins s σ H _ I h) fun d s1 ⟨H1,I1,q1⟩=>?_)
  cases d with
  | true=>exact ha pins s1 σ H1 Q I1 q1
  | false=>exact hb pins s1 σ H1 Q I1 q1
end
end L2
namespace L2
open PySem PySem.Spec PyProof.Rows
noncomputable def SqL (K:PySem.W.Frag) (H:Hp) (a:Addr) (xs:List V):Prop :=
  Rd H a (.lst xs) \/
    ∃ (o:Obj) (its:Array Value) (n:Nat),K.lookup a=some o/\o.cls=.type "list" /\ o.dict=none/\o.data=.seq its n/\its.size <= sizeLine/\Vals xs its.toList
noncomputable def SqT (K:PySem.W.Frag) (H:Hp) (a:Addr) (xs:List V):Prop :=
  Rd H a (.tup xs) \/
    ∃ (o:Obj) (its:Array Value) (n:Nat),K.lookup a=some o/\o.cls=.type "tuple" /\ o.data=.seq its n/\its.size <= sizeLine/\Vals xs its.toList
noncomputable def absV:Value->Option V
  | .none=>some .non
  | .bool b=>some (.bl b)
  | .int i _=>some (.int i)
  | .str x _=>some (.str x)
  | .bytes b _=>some (.byt b)
  | .float b _=>some (.flt b)
  | .ref a=>some (.ref a)
  | .type n=>some (.ty n)
  | _=>none
theorem RelV.abs {x:V} {u:Value} (r:RelV x u):absV u=some x:=by
  cases x with
  | non=>cases r; rfl
  | bl _=>cases r; rfl
  | int _=>obtain ⟨t,rfl⟩:=r; rfl
  | str _=>obtain ⟨t,rfl⟩:=r; rfl
  | byt _=>obtain ⟨t,rfl⟩:=r; rfl
  | flt _=>obtain ⟨t,rfl⟩:=r; rfl
  | ref _=>cases r; rfl
  | ty _=>cases r; rfl
theorem RelV.inj {x y:V} {u:Value} (r:RelV x u) (q:RelV y u):x=y:=Option.some.inj (r.abs.symm.trans q.abs)
theorem Vals.inj:∀ {xs ys:List V} {us:List Value},Vals xs us->Vals ys us->xs=ys
  | _,_,_,.nil,.nil=>rfl
  | _,_,_,.cons r t,.cons r' t'=>by rw [r.inj r',Vals.inj t t']
section
variable {X:Cx} {pins:List (Addr × Obj)} {σ:St} {H:Hp} {s:Shared} {a:Addr} {xs ys:List V}
theorem SqL.of {K:PySem.W.Frag} (h:H a=some (.lst xs)):SqL K H a xs:=.inl (.inl h)
theorem SqT.of {K:PySem.W.Frag} (h:H a=some (.tup xs)):SqT K H a xs:=.inl (.inl h)
theorem Inv.list (I:Inv X pins σ H s) (h:SqL X.K H a xs):∃ its:List Value,Vals xs its/\PlainL s.heap a its.toArray/\xs.length <= sizeLine:=by
  rcases h with h|⟨o,its,n,hk,hc,hd,hs,hz,r⟩
  . obtain ⟨z,its,n,r,e⟩:=h.ok I.hok
    exact ⟨its,r,⟨_,n,e,rfl,rfl,rfl⟩,z⟩
  . refine ⟨its.toList,r,⟨o,n,I.kIn a o hk,hc,hd,by simpa using hs⟩,?_⟩
    have e:=r.length
    simp only [Array.length_toList] at e
    omega
theorem Inv.tuple (I:Inv X pins σ H s) (h:SqT X.K H a xs):∃ its:List Value,Vals xs its/\IsTup s.heap a its.toArray/\xs.length <= sizeLine:=by
  rcases h with h|⟨o,its,n,hk,hc,hs,hz,r⟩
  . obtain ⟨z,its,r,p⟩:=h.ok I.hok
    exact ⟨its,r,p,z⟩
  . refine ⟨its.toList,r,⟨o,I.kIn a o hk,hc,n,by simpa using hs⟩,?_⟩
    have e:=r.length
    simp only [Array.length_toList] at e
    omega
theorem Inv.list_inj (I:Inv X pins σ H s) (h:SqL X.K H a xs) (h':SqL X.K H a ys):xs=ys:=by
  obtain ⟨its,r,⟨o,n,e,_,_,d⟩,_⟩:=I.list h
  obtain ⟨its',r',⟨o',n',e',_,_,d'⟩,_⟩:=I.list h'
  rw [e] at e'; cases e'
  rw [d] at d'
  injection d' with d1 _
  have:its=its':=by simpa using congrArg Array.toList d1
  subst this
  exact r.inj r'
theorem Inv.tuple_inj (I:Inv X pins σ H s) (h:SqT X.K H a xs) (h':SqT X.K H a ys):xs=ys:=by
  obtain ⟨its,r,⟨o,e,_,n,d⟩,_⟩:=I.tuple h
  obtain ⟨its',r',⟨o',e',_,n',d'⟩,_⟩:=I.tuple h'
  rw [e] at e'; cases e'
  rw [d] at d'
  injection d' with d1 _
  have:its=its':=by simpa using congrArg Array.toList d1
  subst this
  exact r.inj r'
end
noncomputable abbrev Cx.wish (X:Cx) (E:Value->Shared->Prop):Cx:={ X with xe:=E }
noncomputable abbrev Cx.nox (X:Cx):Cx:=X.wish fun _ _=>False
theorem Cx.Ok.wish {X:Cx} (ok:X.Ok) (E:Value->Shared->Prop):(X.wish E).Ok :=
  ⟨ok.mod,ok.kind,ok.glob,ok.blt,ok.above,ok.inj,ok.has,ok.cab,ok.hd,ok.frames,ok.stk,ok.exf,ok.bs,ok.bsz,ok.noex,ok.exfs,ok.funs,ok.frf⟩
theorem Cx.Ok.unwish {X:Cx} {E:Value->Shared->Prop} (ok:(X.wish E).Ok):X.Ok :=
  ⟨ok.mod,ok.kind,ok.glob,ok.blt,ok.above,ok.inj,ok.has,ok.cab,ok.hd,ok.frames,ok.stk,ok.exf,ok.bs,ok.bsz,ok.noex,ok.exfs,ok.funs,ok.frf⟩
section
variable {X:Cx} {pins:List (Addr × Obj)} {σ:St} {H:Hp} {s:Shared} {E:Value->Shared->Prop}
theorem Inv.wish (I:Inv X pins σ H s) (E:Value->Shared->Prop):Inv (X.wish E) pins σ H s:=⟨I.ok.wish E,I.os,I.bare,I.base,I.loc,I.cell,I.free,I.freeC,I.pin,I.hok,I.len⟩
theorem Inv.unwish (I:Inv (X.wish E) pins σ H s):Inv X pins σ H s:=⟨I.ok.unwish,I.os,I.bare,I.base,I.loc,I.cell,I.free,I.freeC,I.pin,I.hok,I.len⟩
theorem SP.unwish {D:Ends} {f:Flow} {s':Shared} (h:SP (X.wish E) pins D f s'):SP X pins D f s':=by
  cases f with
  | next=>obtain ⟨σ',H',I,q⟩:=h; exact ⟨σ',H',I.unwish,q⟩
  | brk=>obtain ⟨σ',H',I,q⟩:=h; exact ⟨σ',H',I.unwish,q⟩
  | cont=>obtain ⟨σ',H',I,q⟩:=h; exact ⟨σ',H',I.unwish,q⟩
  | ret u=>obtain ⟨v,σ',H',I,r,q⟩:=h; exact ⟨v,σ',H',I.unwish,r,q⟩
theorem PE.nox {e:Expr} {t:TE} (h:PE X.nox e t):PE X e t:=fun pins s σ H Q I hw =>
  wpAny_mono (h pins s σ H Q (I.wish _) hw) (fun _ _ ⟨v,H',I',r,q⟩=>⟨v,H',I'.unwish,r,q⟩) fun _ _ z=>False.elim z
theorem PT.nox {e:Expr} {t:TT} (h:PT X.nox e t):PT X e t:=fun pins s σ H Q I hw =>
  wpAny_mono (h pins s σ H Q (I.wish _) hw) (fun _ _ ⟨H',I',q⟩=>⟨H',I'.unwish,q⟩) fun _ _ z=>False.elim z
theorem PSs.nox {st:List Stmt} {t:TS} (h:PSs X.nox st t):PSs X st t:=fun pins s σ H D I hw =>
  wpAny_mono (h pins s σ H D (I.wish _) hw) (fun _ _ q=>q.unwish) fun _ _ z=>False.elim z
end
section
variable {X:Cx} {st:Stmt} {rest:List Stmt} {t u:TS} {e:Expr} {te:TE} {pos:Pos}
noncomputable def tNext:TS:=fun D σ H=>D.nx σ H
noncomputable def tSeq (t u:TS):TS:=fun D σ H=>t { D with nx:=u D } σ H
theorem ZaJ:PSs X [] tNext:=fun _ _ σ H _ I h=>wpAny_execs_nil ⟨σ,H,I,h⟩
theorem Zad (h1:PS X st t) (h2:PSs X rest u):PSs X (st :: rest) (tSeq t u):=by
  intro pins s σ H D I h
  refine wpAny_execs_cons (thn (h1 pins s σ H { D with nx:=u D } I h) fun f s1 q=>?_)
  cases f with
  | next =>
    obtain ⟨σ',H',I',q⟩:=q
    exact h2 pins s1 σ' H' D I' q
  | ret v=>exact q
  | brk=>exact q
  | cont=>exact q
theorem Zaf (h1:PS X st t):PSs X [st] t:=by
  intro pins s σ H D I h
  refine wpAny_execs_cons (thn (h1 pins s σ H D I h) fun f s1 q=>?_)
  cases f with
  | next=>exact wpAny_execs_nil q
  | ret v=>exact q
  | brk=>exact q
  | cont=>exact q
theorem ZiT:PS X (.Pass pos) tNext:=fun _ _ σ H _ I h=>wpAny_Pass ⟨σ,H,I,h⟩
theorem Inv.quiet {pins:List (Addr × Obj)} {σ:St} {H:Hp} {s:Shared} (I:Inv X pins σ H s):interactive X.env=false:=by simp [interactive,I.ok.kind]
noncomputable def tDrop (te:TE):TS:=fun D σ H=>te σ H fun _ H1=>D.nx σ H1
theorem Zay (he:PE X e te) (hs:swapsWith e none pos.line X.env=pure false:=by rfl):PS X (.Expr e pos) (tDrop te):=by
  intro pins s σ H D I h
  exact wpAny_Expr_any (thn (he pins s σ H _ I h) fun v s1 ⟨x,H1,I1,r1,q1⟩=>⟨σ,H1,I1,q1⟩) I.quiet hs
noncomputable def tRet (te:TE):TS:=fun D σ H=>te σ H D.rt
theorem Zar (he:PE X e te):PS X (.Return (some e) pos) (tRet te):=by
  intro pins s σ H D I h
  exact wpAny_Return_some (thn (he pins s σ H _ I h) fun v s1 ⟨x,H1,I1,r1,q1⟩=>⟨x,σ,H1,I1,r1,q1⟩)
noncomputable def tRetN:TS:=fun D _ H=>D.rt .non H
theorem ZlC:PS X (.Return none pos) tRetN:=fun _ _ σ H _ I h=>wpAny_Return_none ⟨.non,σ,H,I,rfl,h⟩
noncomputable def tIfS (c:TT) (t u:TS):TS:=fun D σ H=>c σ H fun b H1=>if b=true then t D σ H1 else u D σ H1
theorem Zbi {c:Expr} {a b:List Stmt} {tc:TT} (hc:PT X c tc) (ha:PSs X a t) (hb:PSs X b u):PS X (.If c a b pos) (tIfS tc t u):=by
  intro pins s σ H D I h
  refine wpAny_If (thn (hc pins s σ H _ I h) fun d s1 ⟨H1,I1,q1⟩=>?_)
  cases d with
  | true=>exact ha pins s1 σ H1 D I1 q1
  | false=>exact hb pins s1 σ H1 D I1 q1
end
noncomputable abbrev TG:=V->St->Hp->(St->Hp->Prop)->Prop
noncomputable abbrev TGs:=List V->St->Hp->(St->Hp->Prop)->Prop
noncomputable def PG (X:Cx) (target:Expr) (t:TG):Prop :=
  ∀ (pins:List (Addr × Obj)) (s:Shared) (σ:St) (H:Hp) (v:V) (u:Value) (Q:St->Hp->Prop),Inv X pins σ H s->RelV v u->t v σ H Q ->
    wpAny (model X.prog X.w) X.A (assign target X.env u) (fun _ s'=>∃ σ' H',Inv X pins σ' H' s'/\Q σ' H') X.xe s
noncomputable def PGs (X:Cx) (ts:List Expr) (t:TGs):Prop :=
  ∀ (pins:List (Addr × Obj)) (s:Shared) (σ:St) (H:Hp) (vs:List V) (us:List Value) (Q:St->Hp->Prop),Inv X pins σ H s->Vals vs us->t vs σ H Q ->
    wpAny (model X.prog X.w) X.A (assignInOrder ((assignEach ts X.env).map (·.2)) us) (fun _ s'=>∃ σ' H',Inv X pins σ' H' s'/\Q σ' H') X.xe s
noncomputable abbrev TSet:=V->V->V->Hp->(Hp->Prop)->Prop
noncomputable def PSet (X:Cx) (t:TSet):Prop :=
  ∀ (pins:List (Addr × Obj)) (s:Shared) (σ:St) (H:Hp) (o i v:V) (ov iv u:Value) (Q:Hp->Prop),Inv X pins σ H s->RelV o ov->RelV i iv->RelV v u->t o i v H Q ->
    wpAny (model X.prog X.w) X.A (setItem ov iv u) (fun _ s'=>∃ H',Inv X pins σ H' s'/\Q H') X.xe s
noncomputable abbrev TIp:=V->V->Hp->VK->Prop
section
variable {X:Cx} {pos:Pos}
noncomputable def gName (i:Nat):TG:=fun v σ H Q=>Q (σ.set i (some v)) H
theorem ZbH {i:Nat} {x:Str} (hN:X.N.Nodup) (hi:X.N[i]?=some x) (hx:Loc X.env.scope x) (hf:X.fn x=true\/X.env.scope.names.lookup x=some .local:=by first|exact .inl rfl|exact .inr rfl|assumption):PG X (.Name x pos) (gName i):=by
  intro pins s σ H v u Q I r h
  exact wpAny_assign_Name (ZhW I hN hi hx r (fun s' I'=>⟨_,H,I',h⟩) hf)
noncomputable def gNil:TGs:=fun vs σ H Q=>vs=[]/\Q σ H
noncomputable def gCons (t:TG) (u:TGs):TGs:=fun vs σ H Q=>∃ v r,vs=v :: r/\t v σ H fun σ' H'=>u r σ' H' Q
theorem ZgY:PGs X [] gNil:=by
  intro pins s σ H vs us Q I r h
  obtain ⟨e,h⟩:=h
  subst e
  cases r
  exact assignInOrder_nil ⟨σ,H,I,h⟩
theorem Zb1 {e:Expr} {es:List Expr} {t:TG} {u:TGs} (h1:PG X e t) (h2:PGs X es u)
    (hs:(assignEach (e :: es) X.env).map (·.2)=assign e X.env :: (assignEach es X.env).map (·.2):=by rfl):PGs X (e :: es) (gCons t u):=by
  intro pins s σ H vs us Q I r h
  obtain ⟨v,vr,e1,h⟩:=h
  subst e1
  cases r with
  | cons r rr =>
    rw [hs]
    refine assignInOrder_cons (thn (h1 pins s σ H _ _ _ I r h) fun _ s1 ⟨σ1,H1,I1,q1⟩=>?_)
    exact h2 pins s1 σ1 H1 _ _ Q I1 rr q1
noncomputable def gTup (K:PySem.W.Frag) (n:Nat) (t:TGs):TG:=fun v σ H Q=>∃ a xs,v=.ref a/\SqT K H a xs/\xs.length=n/\t xs σ H Q
theorem ZiU {es:List Expr} {k:Nat} {t:TGs} {n:Nat} (hc:X.calm=true) (h:PGs X es t)
    (hn:(assignEach es X.env).length=n:=by rfl) (hst:(assignEach es X.env).findIdx? (·.1)=none:=by rfl):PG X (.Tuple es k pos) (gTup X.K n t):=by
  intro pins s σ H v u Q I r hw
  obtain ⟨a,xs,e1,hq,hl,hw⟩:=hw
  subst e1
  cases r
  obtain ⟨its,rv,ht,hz⟩:=I.tuple hq
  refine assign_Tuple_tuple (I.ok.hd hc) ht (by simp [hn,<- hl,rv.length]) hst fun h' hx=>?_
  have I1:Inv X pins σ H { s with heap:=h' }:=I.kept (t':=s.toks) fun b o e=>hx b o (Nat.ne_of_lt (Heap.lt_size e)) e
  exact h pins _ σ H xs _ Q I1 (by simpa using rv) hw
noncomputable def gSub (to ti:TE) (t:TSet):TG:=fun v σ H Q=>to σ H fun o H1=>ti σ H1 fun i H2=>t o i v H2 fun H3=>Q σ H3
theorem ZfQ {o i:Expr} {to ti:TE} {t:TSet} (ho:PE X o to) (hi:PE X i ti) (hs:PSet X t)
    (ha:∀ v,assign (.Subscript o i pos) X.env v=(do
      let ov <- holding [v] (eval o X.env)
      let iv <- holding [v,ov] (eval i X.env)
      standAt pos
      holding [v,ov,iv] (setItem ov iv v)
      release [v,ov,iv] []):=by intro _; rfl):PG X (.Subscript o i pos) (gSub to ti t):=by
  intro pins s σ H v u Q I r h
  rw [ha]
  refine wpAny_bind (wpAny_holding (thn (ho pins s σ H _ I h) fun ov s1 ⟨x,H1,I1,r1,q1⟩=>?_))
  refine wpAny_bind (wpAny_holding (thn (hi pins s1 σ H1 _ I1 q1) fun iv s2 ⟨y,H2,I2,r2,q2⟩=>?_))
  refine wpAny_bind (wpAny_standAt (wpAny_bind (wpAny_holding (thn (hs pins s2 σ H2 x y v ov iv u _ I2 r1 r2 r q2) fun _ s3 ⟨H3,I3,q3⟩=>?_))))
  exact wpAny_release ⟨σ,H3,I3,q3⟩
noncomputable def tAsg (te:TE) (g:TG):TS:=fun D σ H=>te σ H fun x H1=>g x σ H1 D.nx
theorem ZdN {tg e:Expr} {te:TE} {g:TG} (he:PE X e te) (hg:PG X tg g) (hs:swapsWithSole [tg] e pos.line X.env=pure false:=by rfl) (hw:swappedStores [tg] e X.env=pure none:=by rfl)
    (h1:(assignEach [tg] X.env).map (·.2)=[assign tg X.env]:=by rfl):PS X (.Assign [tg] e pos) (tAsg te g):=by
  intro pins s σ H D I h
  refine wpAny_Assign_stores (thn (he pins s σ H _ I h) fun v s1 ⟨x,H1,I1,r1,q1⟩=>?_) hs hw
  rw [h1]
  exact thn (hg pins s1 σ H1 x v _ I1 r1 q1) fun _ s2 q=>q
theorem Zat {i:Nat} {x:Str} {e:Expr} {te:TE} {pos':Pos} (hN:X.N.Nodup) (hi:X.N[i]?=some x) (hx:Loc X.env.scope x) (he:PE X e te) (hs:swapsWith e (some (.Name x pos')) pos.line X.env=pure false:=by rfl) (hf:X.fn x=true\/X.env.scope.names.lookup x=some .local:=by first|exact .inl rfl|exact .inr rfl|assumption) :
    PS X (.Assign [.Name x pos'] e pos) (tAsg te (gName i)):=by
  intro pins s σ H D I h
  refine wpAny_Assign_Name (thn (he pins s σ H _ I h) fun v s1 ⟨y,H1,I1,r1,q1⟩=>?_) hs
  exact ZhW I1 hN hi hx r1 (fun s2 I2=>⟨_,H1,I2,q1⟩) hf
end
section
variable {X:Cx} {pos:Pos}
noncomputable def tWhile (c:TT) (tb:TS):TS:=fun D σ H=>∃ W:Nat->St->Hp->Prop,(∃ m,W m σ H)/\∀ m σ H,W m σ H ->
  c σ H fun b H1=>if b=true then ∃ N:St->Hp->Prop,(∀ σ' H',N σ' H'->∃ m',m' < m/\W m' σ' H')/\tb { D with nx:=N,ct:=N,bk:=D.nx } σ H1 else D.nx σ H1
theorem Ze4 {c:Expr} {body:List Stmt} {tc:TT} {tb:TS} (hp:PassesOwn (model X.prog X.w) X.A X.env X.xe) (hc:PT X c tc) (hb:PSs X body tb):PS X (.While c body [] pos) (tWhile tc tb):=by
  intro pins s σ H D I h
  obtain ⟨W,⟨m0,w0⟩,turn⟩:=h
  refine wpAny_While (codeAny_whileLoop (fun n s'=>∃ σ' H',Inv X pins σ' H' s'/\W n σ' H') ?_ m0 ⟨σ,H,I,w0⟩)
  rintro n s1 ⟨σ1,H1,I1,w1⟩
  refine wpAny_passesOwn hp (thn (hc pins s1 σ1 H1 _ I1 (turn n σ1 H1 w1)) fun b s2 ⟨H2,I2,q2⟩=>?_)
  cases b with
  | true =>
    obtain ⟨N,hN,q2⟩:=q2
    rw [if_pos rfl]
    refine wpAny_passesOwn hp (thn (hb pins s2 σ1 H2 _ I2 q2) fun f s3 q3=>?_)
    cases f with
    | next =>
      obtain ⟨σ3,H3,I3,n3⟩:=q3
      obtain ⟨m',hm,w3⟩:=hN σ3 H3 n3
      exact ⟨m',hm,σ3,H3,I3,w3⟩
    | cont =>
      obtain ⟨σ3,H3,I3,n3⟩:=q3
      obtain ⟨m',hm,w3⟩:=hN σ3 H3 n3
      exact ⟨m',hm,σ3,H3,I3,w3⟩
    | brk=>exact q3
    | ret v=>exact q3
  | false =>
    rw [if_neg Bool.false_ne_true]
    exact wpAny_execs_nil ⟨σ1,H2,I2,q2⟩
end
structure It where
  go:Nat->Hp->Prop
  yld:Nat->Hp->V->Hp->Prop
  stop:Nat->Hp->Prop
noncomputable def FpOk (X:Cx) (pins:List (Addr × Obj)) (H:Hp) (b:Addr):Prop :=
  H b=none/\b ≠ X.env.locals/\b ∉ X.fs/\(b ∈ X.ex\/X.s₀.heap.objs.size <= b)/\(∀ x c,X.env.cells.lookup x=some c->c ≠ b)/\∀ p ∈ X.pn ++ pins,p.1 ≠ b
theorem Inv.fpOk {X:Cx} {pins:List (Addr × Obj)} {σ:St} {H H':Hp} {s:Shared} {b:Addr} (I:Inv X pins σ H s) (hb:s.heap.objs.size <= b) (hn:H' b=none):FpOk X pins H' b:=by
  refine ⟨hn,Nat.ne_of_gt (Nat.lt_of_lt_of_le I.lt hb),I.nofs hb,.inr (Nat.le_trans I.sz hb),fun x c e z=>?_,fun p hp z=>?_⟩
  . obtain ⟨v,q⟩:=I.cell x c e
    exact absurd (Nat.lt_of_lt_of_le q.lt (by rw [z]; exact hb)) (Nat.lt_irrefl _)
  . exact absurd (Nat.lt_of_lt_of_le (Heap.lt_size (I.pin p hp).1) (by rw [z]; exact hb)) (Nat.lt_irrefl _)
structure Turn (P:Program) (w:World) (K:PySem.W.Frag) (tg:Expr) (J:It) (fp:List Addr) (it:Addr) (tn:Nat->Heap->Prop):Prop where
  mem:it ∈ fp
  obj:∀ i h,tn i h->∀ b ∈ fp,∃ o,h.get? b=some o/\∀ v,o.data ≠ .cell v
  keep:∀ i h h',tn i h->(∀ b ∈ fp,∀ o,h.get? b=some o->h'.get? b=some o)->tn i h'
  item:∀ (X:Cx),X.prog=P->X.w=w->X.K=K->X.calm=true->∀ (i:Nat) (pins:List (Addr × Obj)) (s:Shared) (σ:St) (H:Hp) (E:Value->Shared->Prop),Inv X pins σ H s->(∀ b ∈ fp,FpOk X pins H b)->tn i s.heap->J.go i H ->
    wpAny (model P w) X.A (pyNext (.ref it)) (fun r s1=>∃ u,r=some u /\
      wpAny (model P w) X.A (letOwnedTupleGo tg (.ref it) u) (fun _ s2=>∃ x H',Inv X pins σ H' s2/\RelV x u/\J.yld i H x H'/\tn (i + 1) s2.heap/\∀ b ∈ fp,H' b=none) E s1) E s
  done:∀ (X:Cx),X.prog=P->X.w=w->X.K=K->X.calm=true->∀ (i:Nat) (pins:List (Addr × Obj)) (s:Shared) (σ:St) (H:Hp) (E:Value->Shared->Prop),Inv X pins σ H s->(∀ b ∈ fp,FpOk X pins H b)->tn i s.heap->J.stop i H ->
    wpAny (model P w) X.A (pyNext (.ref it)) (fun r s1=>r=none/\Inv X pins σ H s1) E s
  self:∀ (A:Around) (i:Nat) (s:Shared) (Q:Value->Shared->Prop) (E:Value->Shared->Prop),tn i s.heap->Q (.ref it) s->wpAny (model P w) A (pyIter (.ref it)) Q E s
noncomputable abbrev TI:=St->Hp->(It->Hp->Prop)->Prop
noncomputable def PIE (X:Cx) (pins:List (Addr × Obj)) (σ:St) (tg:Expr) (R:It->Hp->Prop) (itv:Value) (s2:Shared):Prop :=
  ∃ (it:Addr) (fp:List Addr) (tn:Nat->Heap->Prop) (J:It) (H':Hp),itv=.ref it/\Inv X pins σ H' s2/\Turn X.prog X.w X.K tg J fp it tn/\tn 0 s2.heap/\(∀ b ∈ fp,FpOk X pins H' b)/\R J H'
noncomputable def PI (X:Cx) (tg iter:Expr) (wi:TI):Prop :=
  ∀ (pins:List (Addr × Obj)) (s:Shared) (σ:St) (H:Hp) (R:It->Hp->Prop),Inv X pins σ H s->wi σ H R ->
    wpAny (model X.prog X.w) X.A (eval iter X.env) (fun v s1=>wpAny (model X.prog X.w) X.A (pyIter v) (PIE X pins σ tg R) X.xe s1) X.xe s
theorem go_of {M:Model} {A:Around} {E:Value->Shared->Prop} {s:Shared} {tg:Expr} {it:Addr} {u:Value} {o:Obj} {n:String} {vs:Array Value} {Q:Unit->Shared->Prop} (ho:s.heap.get? it=some o) (hc:o.cls=.type n) (hd:o.data=.fields vs)
    (hn:["enumerate", "zip", "dict_itemiterator", "dict_reverseitemiterator", "odict_iterator", "itertools.zip_longest", "itertools.pairwise"].contains n=false) (hQ:Q () s):wpAny M A (letOwnedTupleGo tg (.ref it) u) Q E s:=by
  unfold letOwnedTupleGo
  cases tg <;> first
    | exact wpAny_pure hQ
    | (cases u <;> first
        | exact wpAny_pure hQ
        | (refine wpAny_bind (wpAny_load ho ?_)
           rw [hc,hd]
           show wpAny M A (if (["enumerate", "zip", "dict_itemiterator", "dict_reverseitemiterator", "odict_iterator", "itertools.zip_longest", "itertools.pairwise"].contains n && vs[0]? == some (rawInt _))=true then _ else _) Q E s
           rw [if_neg (by intro h; rw [hn,Bool.false_and] at h; cases h)]
           exact wpAny_pure hQ))
noncomputable def Itl (K:PySem.W.Frag) (a:Addr):It :=
  ⟨fun i H=>∃ xs x,SqL K H a xs/\xs[i]?=some x,fun i H x H'=>H'=H/\∀ xs,SqL K H a xs->xs[i]?=some x,fun i H=>∃ xs,SqL K H a xs/\xs.length <= i⟩
noncomputable def Itr (lo:Int) (n:Nat):It:=⟨fun i _=>i < n,fun i H x H'=>H'=H/\x=.int (lo + i),fun i _=>n <= i⟩
theorem ZiV {P:Program} {w:World} {K:PySem.W.Frag} {tg:Expr} (a it:Addr):Turn P w K tg (Itl K a) [it] it (fun i h=>h.IsListIter it a i) where
  mem:=by simp
  obj:=fun i h st b hb=>by
    have e:b=it:=by simpa using hb
    subst e
    obtain ⟨o,e,c,d⟩:=st
    exact ⟨o,e,fun v z=>by rw [d] at z; cases z⟩
  keep:=fun i h h' st k=>st.at fun o e=>k it (by simp) o e
  item:=by
    intro X hP hw hK hc i pins s σ H E I hf st hg
    subst hP hw hK
    obtain ⟨xs,x,hq,hx⟩:=hg
    obtain ⟨its,rv,p,hz⟩:=I.list hq
    obtain ⟨u,hu,ru⟩:=rv.get hx
    obtain ⟨f0,f1,f2,f3,f4,f5⟩:=hf it (by simp)
    refine wpAny_pyNext_list_item st p.isList (x:=u) (by simpa using hu) fun h' st' sb=>?_
    have I1:Inv X pins σ H { s with heap:=h' }:=I.turned (t':=s.toks) (fun b o hb e=>(sb.2 b hb).trans e) f0 f1 f3 f4 f5
    obtain ⟨o,e,c,d⟩:=id st'
    exact ⟨u,rfl,go_of (s:={ s with heap:=h' }) e c d (by decide) ⟨x,H,I1,ru,⟨rfl,fun ys hy=>by rw [I.list_inj hy hq]; exact hx⟩,st',fun b hb=>(hf b hb).1⟩⟩
  done:=by
    intro X hP hw hK hc i pins s σ H E I hf st hg
    subst hP hw hK
    obtain ⟨xs,hq,hx⟩:=hg
    obtain ⟨its,rv,p,hz⟩:=I.list hq
    obtain ⟨f0,f1,f2,f3,f4,f5⟩:=hf it (by simp)
    have hl:=rv.length
    exact wpAny_pyNext_list_end (I.ok.hd hc) st p.isList (by simp; omega) fun h' eb=>⟨rfl,I.turned (t':=s.toks) (fun b o hb e=>eb b o hb e) f0 f1 f3 f4 f5⟩
  self:=fun _ _ _ _ _ st h=>wpAny_pyIter_listiter st h
theorem Zin {P:Program} {w:World} {K:PySem.W.Frag} {tg:Expr} (it:Addr) (lo:Int) (n:Nat):Turn P w K tg (Itr lo n) [it] it (fun i h=>IsRangeIter h it (lo + (i:Nat) * 1) ((n:Int) - (i:Nat)) 1) where
  mem:=by simp
  obj:=fun i h st b hb=>by
    have e:b=it:=by simpa using hb
    subst e
    exact ⟨_,st,fun v z=>by
      have z':Data.fields _=Data.cell v:=z
      cases z'⟩
  keep:=fun i h h' st k=>k it (by simp) _ st
  item:=by
    intro X hP hw hK hc i pins s σ H E I hf st hg
    subst hP hw hK
    obtain ⟨f0,f1,f2,f3,f4,f5⟩:=hf it (by simp)
    have W:=Walks.range (prog:=X.prog) (w:=X.w) (I.ok.hd hc) it lo 1 n
    refine W.item i s _ _ hg st fun v h' tk hv st' kk=>?_
    obtain ⟨t,rfl⟩:=hv
    have I1:Inv X pins σ H { s with heap:=h',toks:=tk }:=I.turned (fun b o hb e=>kk b o (by simpa using hb) e) f0 f1 f3 f4 f5
    refine ⟨_,rfl,go_of (s:={ s with heap:=h',toks:=tk }) (n := "range_iterator") st' rfl rfl (by decide) ⟨.int (lo + i),H,I1,⟨t,?_⟩,⟨rfl,rfl⟩,st',fun b hb=>(hf b hb).1⟩⟩
    rw [Int.mul_one]
  done:=by
    intro X hP hw hK hc i pins s σ H E I hf st hg
    subst hP hw hK
    obtain ⟨f0,f1,f2,f3,f4,f5⟩:=hf it (by simp)
    exact wpAny_pyNext_range_end (I.ok.hd hc) st (by have:n <= i:=hg; omega) fun h' eb=>⟨rfl,I.turned (t':=s.toks) (fun b o hb e=>eb b o hb e) f0 f1 f3 f4 f5⟩
  self:=fun _ _ _ _ _ st h=>wpAny_pyIter_rangeiter st h
end L2
namespace L2
open PySem PySem.Spec PyProof.Rows
section
variable {X:Cx} {tg:Expr}
noncomputable def iList (K:PySem.W.Frag) (tl:TE):TI:=fun σ H R=>tl σ H fun x H1=>∃ a,x=.ref a/\(∃ xs,SqL K H1 a xs)/\R (Itl K a) H1
theorem ZlD {l:Expr} {tl:TE} (hl:PE X l tl):PI X tg l (iList X.K tl):=by
  intro pins s σ H R I h
  refine thn (hl pins s σ H _ I h) fun v s1 ⟨x,H1,I1,r1,q1⟩=>?_
  obtain ⟨a,e,⟨xs,hq⟩,q⟩:=q1
  subst e
  cases r1
  obtain ⟨its,rv,p,hz⟩:=I1.list hq
  refine wpAny_pyIter_list p.isList ?_
  refine ⟨s1.heap.objs.size,[s1.heap.objs.size],_,_,H1,rfl,I1.kept (t':=s1.toks) fun b o e=>Heap.get?_push_of_some _ e,ZiV a _,⟨_,Heap.get?_push_size _ rfl,rfl,rfl⟩,fun b hb=>?_,q⟩
  have e:b=s1.heap.objs.size:=by simpa using hb
  subst e
  exact I1.fpOk (Nat.le_refl _) (I1.hok.fresh (Nat.le_refl _))
theorem Zkf {pins:List (Addr × Obj)} {σ:St} {H:Hp} {s:Shared} {R:It->Hp->Prop} {E:Value->Shared->Prop} {lo hi:Int} {t u v:Tok} {tk:Nat} (I:Inv X pins σ H s) (h1:-(2 ^ 62) <= lo) (h2:lo < 2 ^ 62) (h3:-(2 ^ 62) <= hi) (h4:hi < 2 ^ 62)
    (q:R (Itr lo (hi - lo).toNat) H):wpAny (model X.prog X.w) X.A (pyIter (.ref s.heap.objs.size)) (PIE X pins σ tg R) E { s with heap:=s.heap.push { cls:=.type "range", data:=.fields #[.int lo t,.int hi u,.int 1 v] },toks:=tk }:=by
  refine wpAny_pyIter_range (IsRange.new ..) (small_one h1 h2 h3 h4) ?_
  have I1:Inv X pins σ H { s with heap:=s.heap.push { cls:=.type "range", data:=.fields #[.int lo t,.int hi u,.int 1 v] },toks:=tk }:=I.kept fun b o e=>Heap.get?_push_of_some _ e
  refine ⟨(s.heap.push { cls:=.type "range", data:=.fields #[.int lo t,.int hi u,.int 1 v] }).objs.size,[(s.heap.push { cls:=.type "range", data:=.fields #[.int lo t,.int hi u,.int 1 v] }).objs.size],_,_,H,rfl,
    I1.kept (t':=tk) fun b o e=>Heap.get?_push_of_some _ e,Zin _ lo (hi - lo).toNat,?_,fun b hb=>?_,q⟩
  . have e1:lo + ((0:Nat):Int) * 1=lo:=by simp
    have e2:(((hi - lo).toNat:Nat):Int) - ((0:Nat):Int)=Builtin.Range.rangeSize lo hi 1:=by rw [rangeSize_one]; split <;> omega
    show IsRangeIter _ _ (lo + ((0:Nat):Int) * 1) ((((hi - lo).toNat:Nat):Int) - ((0:Nat):Int)) 1
    rw [e1,e2]
    exact Heap.get?_push_size _ rfl
  . have e:b=(s.heap.push { cls:=.type "range", data:=.fields #[.int lo t,.int hi u,.int 1 v] }).objs.size:=by simpa using hb
    subst e
    exact I1.fpOk (Nat.le_refl _) (I1.hok.fresh (Nat.le_refl _))
noncomputable def iRng1 (ta:TA):TI:=fun σ H R=>ta σ H fun vs H1=>∃ j:Int,vs=[.int j]/\-(2 ^ 62) <= j/\j < 2 ^ 62/\R (Itr 0 j.toNat) H1
theorem Zda {a:Expr} {ta:TA} {p pos:Pos} (hg:Gl X "range") (hm:X.mg "range" = none) (ha:PA X [a] ta) (hs:starEach [a] X.env=[(false,eval a X.env)]:=by rfl):PI X tg (.Call (.Name "range" p) [a] [] pos) (iRng1 ta):=by
  intro pins s σ H R I h
  refine Call_ (ZeS I hg hm boot_range (PyProof.Rows.callWith_type1 (thn (ha pos pins s σ H _ I h) fun us s1 ⟨vs,H1,I1,r1,q1⟩=>?_) hs rfl))
  obtain ⟨j,e,q1,q2,q⟩:=q1
  subst e
  cases r1 with
  | cons r rr =>
    cases rr
    obtain ⟨t,rfl⟩:=r
    exact call_range_1 (Zkf I1 (by omega) (by omega) q1 q2 (by simpa using q))
noncomputable def tFor (wi:TI) (g:TG) (tb:TS):TS:=fun D σ H=>wi σ H fun J H1=>∃ W:Nat->Nat->St->Hp->Prop,(∃ m,W 0 m σ H1)/\∀ i m σ H,W i m σ H ->
  (J.stop i H/\D.nx σ H)\/(J.go i H/\∃ N:St->Hp->Prop,(∀ σ' H',N σ' H'->∃ m',m' < m/\W (i + 1) m' σ' H')/\∀ x H',J.yld i H x H'->g x σ H' fun σ2 H2=>tb { D with nx:=N,ct:=N,bk:=D.nx } σ2 H2)
noncomputable def pinsAt (fp:List Addr) (h:Heap):List (Addr × Obj):=fp.filterMap fun b=>(h.get? b).map fun o=>(b,o)
theorem ZcE {fp:List Addr} {h:Heap} {b:Addr} {o:Obj} (hb:b ∈ fp) (e:h.get? b=some o):(b,o) ∈ pinsAt fp h:=List.mem_filterMap.mpr ⟨b,hb,by rw [e]; rfl⟩
theorem ZiW {fp:List Addr} {h:Heap} {p:Addr × Obj} (hp:p ∈ pinsAt fp h):p.1 ∈ fp/\h.get? p.1=some p.2:=by
  obtain ⟨b,hb,e⟩:=List.mem_filterMap.mp hp
  cases q:h.get? b with
  | none=>rw [q] at e; cases e
  | some o =>
    rw [q] at e
    have e':(b,o)=p:=Option.some.inj e
    subst e'
    exact ⟨hb,q⟩
theorem Inv.pinned {pins:List (Addr × Obj)} {σ:St} {H:Hp} {s:Shared} {fp:List Addr} (I:Inv X pins σ H s) (hf:∀ b ∈ fp,FpOk X pins H b) (ho:∀ b ∈ fp,∃ o,s.heap.get? b=some o/\∀ v,o.data ≠ .cell v):Inv X (pins ++ pinsAt fp s.heap) σ H s :=
  I.pins_of fun p hp=>(List.mem_append.mp hp).elim (fun z=>I.pin p (List.mem_append_right _ z)) fun z=>by
    obtain ⟨hb,e⟩:=ZiW z
    obtain ⟨f0,f1,f2,_⟩:=hf p.1 hb
    obtain ⟨o,e',d⟩:=ho p.1 hb
    rw [e] at e'; cases e'
    exact ⟨e,f0,f1,f2,d⟩
theorem Inv.unpinned {pins pl:List (Addr × Obj)} {σ:St} {H:Hp} {s:Shared} (I:Inv X (pins ++ pl) σ H s):Inv X pins σ H s:=I.pins_of fun p hp=>I.pin p (List.mem_append_right _ (List.mem_append_left _ hp))
theorem ZhY {iter:Expr} {body:List Stmt} {wi:TI} {g:TG} {tb:TS} {pos:Pos} (hp:PassesOwn (model X.prog X.w) X.A X.env X.xe) (hc:X.calm=true) (hi:PI X tg iter wi) (hg:PG X tg g) (hb:PSs X body tb)
    (hs:∀ x,foldedSetIterable iter X.env x=pure x:=by intro _; rfl):PS X (.For tg iter body [] pos) (tFor wi g tb):=by
  intro pins s σ H D I h
  refine wpAny_For (thn (hi pins s σ H _ I h) fun v s1 h1=>thn h1 fun itv s2 h2=>?_) hs
  obtain ⟨it,fp,tn,J,H2,e,I2,T,st2,f2,W,⟨m0,w0⟩,turn⟩:=h2
  subst e
  have stat:∀ {H':Hp},(∀ b ∈ fp,H' b=none)->∀ b ∈ fp,FpOk X pins H' b:=fun hn b hb=>⟨hn b hb,(f2 b hb).2⟩
  refine codeAny_forLoop_any (fun n s'=>∃ i σ' H',Inv X pins σ' H' s'/\tn i s'.heap/\(∀ b ∈ fp,H' b=none)/\W i n σ' H') ?_ m0 ⟨0,σ,H2,I2,st2,fun b hb=>(f2 b hb).1,w0⟩
  rintro n s3 ⟨i,σ3,H3,I3,st3,fr3,w3⟩
  rcases turn i n σ3 H3 w3 with ⟨stop,qn⟩|⟨go,N,hN,step⟩
  . refine wpAny_passesOwn hp (thn (T.done X rfl rfl rfl hc i pins s3 σ3 H3 X.xe I3 (stat fr3) st3 stop) fun r s4 ⟨hr,I4⟩=>?_)
    subst hr
    exact wpAny_execs_nil ⟨σ3,H3,I4,qn⟩
  . refine wpAny_passesOwn hp (thn (T.item X rfl rfl rfl hc i pins s3 σ3 H3 X.xe I3 (stat fr3) st3 go) fun r s4 ⟨u,hr,h4⟩=>?_)
    subst hr
    refine wpAny_passesOwn hp (thn h4 fun _ s5 ⟨x,H5,I5,r5,y5,st5,fr5⟩=>?_)
    have I5':=I5.pinned (stat fr5) (T.obj _ _ st5)
    refine wpAny_passesOwn hp (thn (hg _ s5 σ3 H5 x u _ I5' r5 (step x H5 y5)) fun _ s6 ⟨σ6,H6,I6,q6⟩=>?_)
    refine wpAny_passesOwn hp (thn (hb _ s6 σ6 H6 _ I6 q6) fun f s7 q7=>?_)
    have again:∀ {σ7:St} {H7:Hp},Inv X (pins ++ pinsAt fp s5.heap) σ7 H7 s7->N σ7 H7->∃ m,m < n/\∃ i σ' H',Inv X pins σ' H' s7/\tn i s7.heap/\(∀ b ∈ fp,H' b=none)/\W i m σ' H':=fun {σ7 H7} I7 n7=>by
      obtain ⟨m',hm,w7⟩:=hN σ7 H7 n7
      refine ⟨m',hm,i + 1,σ7,H7,I7.unpinned,T.keep _ _ _ st5 fun b hb o e=>(I7.pin (b,o) (List.mem_append_right _ (List.mem_append_right _ (ZcE hb e)))).1,fun b hb=>?_,w7⟩
      obtain ⟨o,e,d⟩:=T.obj _ _ st5 b hb
      exact (I7.pin (b,o) (List.mem_append_right _ (List.mem_append_right _ (ZcE hb e)))).2.1
    cases f with
    | next=>obtain ⟨σ7,H7,I7,n7⟩:=q7; exact again I7 n7
    | cont=>obtain ⟨σ7,H7,I7,n7⟩:=q7; exact again I7 n7
    | brk=>obtain ⟨σ7,H7,I7,q7⟩:=q7; exact ⟨σ7,H7,I7.unpinned,q7⟩
    | ret v=>obtain ⟨x7,σ7,H7,I7,r7,q7⟩:=q7; exact ⟨x7,σ7,H7,I7.unpinned,r7,q7⟩
end
theorem Zco {lo:Int} {n:Nat} {g:TG} {tb:TS} {D:Ends} {σ:St} {H:Hp} (Pv:Nat->St->Hp->Prop) (h0:Pv 0 σ H)
    (hs:∀ i σ H,i < n->Pv i σ H->g (.int (lo + i)) σ H fun σ2 H2=>tb { D with nx:=Pv (i + 1),ct:=Pv (i + 1),bk:=D.nx } σ2 H2) (hd:∀ σ H,Pv n σ H->D.nx σ H) :
    ∃ W:Nat->Nat->St->Hp->Prop,(∃ m,W 0 m σ H)/\∀ i m σ H,W i m σ H ->
      ((Itr lo n).stop i H/\D.nx σ H)\/((Itr lo n).go i H/\∃ N:St->Hp->Prop,(∀ σ' H',N σ' H'->∃ m',m' < m/\W (i + 1) m' σ' H')/\∀ x H',(Itr lo n).yld i H x H'->g x σ H' fun σ2 H2=>tb { D with nx:=N,ct:=N,bk:=D.nx } σ2 H2):=by
  refine ⟨fun i m σ H=>m=n - i/\i <= n/\Pv i σ H,⟨n,by simp,Nat.zero_le _,h0⟩,?_⟩
  rintro i m σ H ⟨rfl,hi,p⟩
  by_cases hlt:i < n
  . refine .inr ⟨hlt,Pv (i + 1),fun σ' H' p'=>⟨n - (i + 1),by omega,rfl,hlt,p'⟩,fun x H' y=>?_⟩
    obtain ⟨e,y⟩:=y
    subst e y
    exact hs i σ _ hlt p
  . have e:i=n:=by omega
    subst e
    exact .inl ⟨Nat.le_refl _,hd σ H p⟩
end L2
namespace L2
open PySem PySem.Spec PyProof.Rows
noncomputable abbrev R2:=V->V->Hp->VK->Prop
noncomputable def OpR (X:Cx) (f:Value->Value->Sem Value) (r:R2):Prop :=
  ∀ (pins:List (Addr × Obj)) (s:Shared) (σ:St) (H:Hp) (x y:V) (v u:Value) (Q:VK),Inv X pins σ H s->RelV x v->RelV y u->r x y H Q ->
    wpAny (model X.prog X.w) X.A (f v u) (EP X pins σ Q) X.xe s
noncomputable def UnR (X:Cx) (f:Value->Sem Value) (r:V->Hp->VK->Prop):Prop :=
  ∀ (pins:List (Addr × Obj)) (s:Shared) (σ:St) (H:Hp) (x:V) (v:Value) (Q:VK),Inv X pins σ H s->RelV x v->r x H Q ->
    wpAny (model X.prog X.w) X.A (f v) (EP X pins σ Q) X.xe s
noncomputable def CallR (X:Cx) (f:Value) (r:List V->Hp->VK->Prop):Prop :=
  ∀ (pins:List (Addr × Obj)) (s:Shared) (σ:St) (H:Hp) (xs:List V) (us:List Value) (Q:VK),Inv X pins σ H s->Vals xs us->r xs H Q ->
    wpAny (model X.prog X.w) X.A (call f us) (EP X pins σ Q) X.xe s
noncomputable def tOp (r:R2) (ta tb:TE):TE:=fun σ H Q=>ta σ H fun x H1=>tb σ H1 fun y H2=>r x y H2 Q
noncomputable def tUn (r:V->Hp->VK->Prop) (ta:TE):TE:=fun σ H Q=>ta σ H fun x H1=>r x H1 Q
noncomputable def rI (C:Int->Int->Prop) (g:Int->Int->V):R2:=fun x y H Q=>∃ i j,x=.int i/\y=.int j/\C i j/\Q (g i j) H
noncomputable def rI0 (g:Int->Int->V):R2:=fun x y H Q=>∃ i j,x=.int i/\y=.int j/\Q (g i j) H
noncomputable def rU (g:Int->V):V->Hp->VK->Prop:=fun x H Q=>∃ i,x=.int i/\Q (g i) H
section
variable {X:Cx} {a b c:Expr} {ta tb tc:TE} {pos:Pos}
theorem binT (ha:PE X a ta) (hb:PE X b tb) {pins:List (Addr × Obj)} {s:Shared} {σ:St} {H:Hp} {R:V->V->Hp->Prop} (I:Inv X pins σ H s)
    (h:ta σ H fun x H1=>tb σ H1 fun y H2=>R x y H2) {Q:Value->Shared->Prop} {f:Value->Value->Sem Value}
    (hf:∀ v u s2 x y H2,Inv X pins σ H2 s2->RelV x v->RelV y u->R x y H2->wpAny (model X.prog X.w) X.A (f v u) Q X.xe s2) :
    wpAny (model X.prog X.w) X.A (eval a X.env) (fun v s₁=>wpAny (model X.prog X.w) X.A (eval b X.env) (fun u s₂=>wpAny (model X.prog X.w) X.A (f v u) Q X.xe s₂) X.xe s₁) X.xe s:=by
  refine thn (ha pins s σ H _ I h) fun v s1 ⟨x,H1,I1,r1,q1⟩=>?_
  refine thn (hb pins s1 σ H1 _ I1 q1) fun u s2 ⟨y,H2,I2,r2,q2⟩=>?_
  exact hf v u s2 x y H2 I2 r1 r2 q2
theorem ZaC {op:Operator} {r:R2} (ho:OpR X (binaryOp op) r) (ha:PE X a ta) (hb:PE X b tb):PE X (.BinOp a op b pos) (tOp r ta tb):=by
  intro pins s σ H Q I h
  exact wpAny_BinOp (binT ha hb I h fun v u s2 x y H2 I2 rx ry q=>ho pins s2 σ H2 x y v u Q I2 rx ry q)
theorem ZfR {op:UnaryOp} {r:V->Hp->VK->Prop} (ho:UnR X (unaryOp op) r) (ha:PE X a ta):PE X (.UnaryOp op a pos) (tUn r ta):=by
  intro pins s σ H Q I h
  exact UnaryOp_ (thn (ha pins s σ H _ I h) fun v s1 ⟨x,H1,I1,r1,q1⟩=>ho pins s1 σ H1 x v Q I1 r1 q1)
theorem opI {f:Value->Value->Sem Value} {C:Int->Int->Prop} {g:Int->Int->Int}
    (rule:∀ (i j:Int) (t u:Tok) (s:Shared) (Q:Value->Shared->Prop) (E:Value->Shared->Prop),C i j->Q (.int (g i j) s.toks) { s with toks:=s.toks + 1 }->wpAny (model X.prog X.w) X.A (f (.int i t) (.int j u)) Q E s) :
    OpR X f (rI C fun i j=>.int (g i j)):=by
  intro pins s σ H x y v u Q I rx ry h
  obtain ⟨i,j,rfl,rfl,hc,q⟩:=h
  obtain ⟨t,rfl⟩:=rx
  obtain ⟨t',rfl⟩:=ry
  exact rule i j t t' s _ _ hc ⟨.int (g i j),H,I.tok _,⟨_,rfl⟩,q⟩
theorem opI0 {f:Value->Value->Sem Value} {g:Int->Int->Int}
    (rule:∀ (i j:Int) (t u:Tok) (s:Shared) (Q:Value->Shared->Prop) (E:Value->Shared->Prop),Q (.int (g i j) s.toks) { s with toks:=s.toks + 1 }->wpAny (model X.prog X.w) X.A (f (.int i t) (.int j u)) Q E s) :
    OpR X f (rI0 fun i j=>.int (g i j)):=by
  intro pins s σ H x y v u Q I rx ry h
  obtain ⟨i,j,rfl,rfl,q⟩:=h
  obtain ⟨t,rfl⟩:=rx
  obtain ⟨t',rfl⟩:=ry
  exact rule i j t t' s _ _ ⟨.int (g i j),H,I.tok _,⟨_,rfl⟩,q⟩
theorem opB0 {f:Value->Value->Sem Value} {g:Int->Int->Bool}
    (rule:∀ (i j:Int) (t u:Tok) (s:Shared) (Q:Value->Shared->Prop) (E:Value->Shared->Prop),Q (.bool (g i j)) s->wpAny (model X.prog X.w) X.A (f (.int i t) (.int j u)) Q E s) :
    OpR X f (rI0 fun i j=>.bl (g i j)):=by
  intro pins s σ H x y v u Q I rx ry h
  obtain ⟨i,j,rfl,rfl,q⟩:=h
  obtain ⟨t,rfl⟩:=rx
  obtain ⟨t',rfl⟩:=ry
  exact rule i j t t' s _ _ ⟨.bl (g i j),H,I,rfl,q⟩
noncomputable def CPow (i j:Int):Prop:=0 <= j/\j <= 1000000/\i.natAbs < 2 ^ 64
noncomputable def CMul (i j:Int):Prop:=(-(2 ^ 64) < i/\i < 2 ^ 64)\/(-(2 ^ 64) < j/\j < 2 ^ 64)
theorem CMul.ok {i j:Int} (h:CMul i j):IntMulOk i j:=by
  rcases h with ⟨h1,h2⟩|⟨h1,h2⟩
  . exact .of_left (intBits_le_64 h1 h2)
  . exact .of_right (intBits_le_64 h1 h2)
theorem Zio (k:Nat):(0:Int) <= 2 ^ k:=by
  rw [two_pow_cast]
  exact Int.natCast_nonneg _
theorem ZbG:OpR X (binaryOp .Add) (rI0 fun i j=>.int (i + j)):=opI0 fun _ _ _ _ _ _ _ q=>add_int q
theorem ZdO:OpR X (binaryOp .Sub) (rI0 fun i j=>.int (i - j)):=opI0 fun _ _ _ _ _ _ _ q=>sub_int q
theorem ZeV:OpR X (binaryOp .Mult) (rI CMul fun i j=>.int (i * j)):=opI fun _ _ _ _ _ _ _ hc q=>mul_int q hc.ok
theorem Zbs:OpR X (binaryOp .Mod) (rI (fun _ j=>0 < j) fun i j=>.int (i % j)):=opI fun i j _ _ _ _ _ hc q=>by
  have h1:(0:Int) < j:=hc
  exact mod_int' (by omega) (by rw [Int.fmod_eq_emod_of_nonneg i (by omega)]; exact q)
theorem ZhZ:OpR X (binaryOp .Pow) (rI CPow fun i j=>.int (i ^ j.toNat)):=opI fun _ _ _ _ _ _ _ hc q=>pow_int_small hc.1 hc.2.1 hc.2.2 q
theorem op_shl:OpR X (binaryOp .LShift) (rI CPow fun i j=>.int (i * 2 ^ j.toNat)):=opI fun _ _ _ _ _ _ _ hc q=>lshift_int_small hc.1 hc.2.1 hc.2.2 q
theorem op_shr:OpR X (binaryOp .RShift) (rI (fun _ j=>0 <= j) fun i j=>.int (i / 2 ^ j.toNat)):=opI fun i j _ _ _ _ _ hc q =>
  rshift_int hc (by rw [Int.fdiv_eq_ediv_of_nonneg i (Zio _)]; exact q)
theorem op_and:OpR X (binaryOp .BitAnd) (rI0 fun i j=>.int (Builtin.bitAnd i j)):=opI0 fun _ _ _ _ _ _ _ q=>and_int q
theorem op_or:OpR X (binaryOp .BitOr) (rI0 fun i j=>.int (Builtin.bitOr i j)):=opI0 fun _ _ _ _ _ _ _ q=>or_int q
theorem op_xor:OpR X (binaryOp .BitXor) (rI0 fun i j=>.int (Builtin.bitXor i j)):=opI0 fun _ _ _ _ _ _ _ q=>xor_int q
theorem unI {f:Value->Sem Value} {g:Int->Int}
    (rule:∀ (i:Int) (t:Tok) (s:Shared) (Q:Value->Shared->Prop) (E:Value->Shared->Prop),Q (.int (g i) s.toks) { s with toks:=s.toks + 1 }->wpAny (model X.prog X.w) X.A (f (.int i t)) Q E s) :
    UnR X f (rU fun i=>.int (g i)):=by
  intro pins s σ H x v Q I rx h
  obtain ⟨i,rfl,q⟩:=h
  obtain ⟨t,rfl⟩:=rx
  exact rule i t s _ _ ⟨.int (g i),H,I.tok _,⟨_,rfl⟩,q⟩
theorem ZdP:UnR X (unaryOp .USub) (rU fun i=>.int (-i)):=unI fun _ _ _ _ _ q=>neg_int q
end
noncomputable def scal:V->V->Bool
  | .non,.non=>true|.non,.int _=>true|.int _,.non=>true|.non,.bl _=>true|.bl _,.non=>true|.non,.str _=>true|.str _,.non=>true
  | .int _,.int _=>true|.bl _,.bl _=>true|.str _,.str _=>true|.byt _,.byt _=>true
  | .int _,.str _=>true|.str _,.int _=>true|.bl _,.str _=>true|.str _,.bl _=>true
  | _,_=>false
noncomputable def rEq:R2:=fun x y H Q=>scal x y=true/\Q (.bl (decide (x=y))) H
noncomputable def rNe:R2:=fun x y H Q=>scal x y=true/\Q (.bl (!decide (x=y))) H
theorem ZiX {i j:Int}:decide (V.int i=V.int j)=(i == j):=by
  rw [Bool.eq_iff_iff]
  simp
theorem Zlf {i j:Bool}:decide (V.bl i=V.bl j)=(i == j):=by
  rw [Bool.eq_iff_iff]
  simp
theorem ZiY {i j:Str}:decide (V.str i=V.str j)=(i == j):=by
  rw [Bool.eq_iff_iff]
  simp
theorem ZiZ {i j:Array UInt8}:decide (V.byt i=V.byt j)=(i.toList == j.toList):=by
  rw [Bool.eq_iff_iff]
  cases i
  cases j
  simp
section
variable {X:Cx} {a b c:Expr} {ta tb tc:TE} {pos:Pos}
theorem Za2 {pins:List (Addr × Obj)} {σ:St} {H:Hp} {s:Shared} {Q:VK} {k k':Bool} (I:Inv X pins σ H s) (q:Q (.bl k) H) (e:k=k'):EP X pins σ Q (.bool k') s:=by
  subst e
  exact ⟨.bl k,H,I,rfl,q⟩
theorem Zb7:OpR X (compareOp .Eq) rEq:=by
  intro pins s σ H x y v u Q I rx ry h
  obtain ⟨hs,q⟩:=h
  cases x with
  | non =>
    cases rx
    cases y with
    | non=>cases ry; exact PySem.EqNone.eq_none_none (Za2 I q (by simp))
    | bl j=>cases ry; exact PySem.EqNone.eq_none_bool (Za2 I q (by simp))
    | int j=>obtain ⟨t',rfl⟩:=ry; exact PySem.EqNone.eq_none_int (Za2 I q (by simp))
    | str j=>obtain ⟨t',rfl⟩:=ry; exact PySem.EqNone.eq_none_str (Za2 I q (by simp))
    | _=>exact absurd (show false=true from hs) Bool.false_ne_true
  | bl i =>
    cases rx
    cases y with
    | non=>cases ry; exact PySem.EqNone.eq_bool_none (Za2 I q (by simp))
    | bl j=>cases ry; exact eq_bool (Za2 I q Zlf)
    | str j=>obtain ⟨t',rfl⟩:=ry; exact PySem.EqMixed.eq_bool_str (Za2 I q (by simp))
    | _=>exact absurd (show false=true from hs) Bool.false_ne_true
  | int i =>
    obtain ⟨t,rfl⟩:=rx
    cases y with
    | non=>cases ry; exact PySem.EqNone.eq_int_none (Za2 I q (by simp))
    | int j=>obtain ⟨t',rfl⟩:=ry; exact eq_int (Za2 I q ZiX)
    | str j=>obtain ⟨t',rfl⟩:=ry; exact PySem.EqMixed.eq_int_str (Za2 I q (by simp))
    | _=>exact absurd (show false=true from hs) Bool.false_ne_true
  | str i =>
    obtain ⟨t,rfl⟩:=rx
    cases y with
    | non=>cases ry; exact PySem.EqNone.eq_str_none (Za2 I q (by simp))
    | bl j=>cases ry; exact PySem.EqMixed.eq_str_bool (Za2 I q (by simp))
    | int j=>obtain ⟨t',rfl⟩:=ry; exact PySem.EqMixed.eq_str_int (Za2 I q (by simp))
    | str j=>obtain ⟨t',rfl⟩:=ry; exact eq_str (Za2 I q ZiY)
    | _=>exact absurd (show false=true from hs) Bool.false_ne_true
  | byt i =>
    obtain ⟨t,rfl⟩:=rx
    cases y with
    | byt j=>obtain ⟨t',rfl⟩:=ry; exact PySem.W.eq_bytes (Za2 I q ZiZ)
    | _=>exact absurd (show false=true from hs) Bool.false_ne_true
  | _=>cases y <;> exact absurd (show false=true from hs) Bool.false_ne_true
theorem Zkg:OpR X (compareOp .NotEq) rNe:=by
  intro pins s σ H x y v u Q I rx ry h
  obtain ⟨hs,q⟩:=h
  cases x with
  | non =>
    cases rx
    cases y with
    | non=>cases ry; exact PySem.EqNone.ne_none_none (Za2 I q (by simp))
    | bl j=>cases ry; exact PySem.EqNone.ne_none_bool (Za2 I q (by simp))
    | int j=>obtain ⟨t',rfl⟩:=ry; exact PySem.EqNone.ne_none_int (Za2 I q (by simp))
    | str j=>obtain ⟨t',rfl⟩:=ry; exact PySem.EqNone.ne_none_str (Za2 I q (by simp))
    | _=>exact absurd (show false=true from hs) Bool.false_ne_true
  | bl i =>
    cases rx
    cases y with
    | non=>cases ry; exact PySem.EqNone.ne_bool_none (Za2 I q (by simp))
    | bl j=>cases ry; exact ne_bool (Za2 I q (congrArg not Zlf))
    | str j=>obtain ⟨t',rfl⟩:=ry; exact PySem.EqMixed.ne_bool_str (Za2 I q (by simp))
    | _=>exact absurd (show false=true from hs) Bool.false_ne_true
  | int i =>
    obtain ⟨t,rfl⟩:=rx
    cases y with
    | non=>cases ry; exact PySem.EqNone.ne_int_none (Za2 I q (by simp))
    | int j=>obtain ⟨t',rfl⟩:=ry; exact ne_int (Za2 I q (congrArg not ZiX))
    | str j=>obtain ⟨t',rfl⟩:=ry; exact PySem.EqMixed.ne_int_str (Za2 I q (by simp))
    | _=>exact absurd (show false=true from hs) Bool.false_ne_true
  | str i =>
    obtain ⟨t,rfl⟩:=rx
    cases y with
    | non=>cases ry; exact PySem.EqNone.ne_str_none (Za2 I q (by simp))
    | bl j=>cases ry; exact PySem.EqMixed.ne_str_bool (Za2 I q (by simp))
    | int j=>obtain ⟨t',rfl⟩:=ry; exact PySem.EqMixed.ne_str_int (Za2 I q (by simp))
    | str j=>obtain ⟨t',rfl⟩:=ry; exact ne_str (Za2 I q (congrArg not ZiY))
    | _=>exact absurd (show false=true from hs) Bool.false_ne_true
  | byt i =>
    obtain ⟨t,rfl⟩:=rx
    cases y with
    | byt j=>obtain ⟨t',rfl⟩:=ry; exact PySem.W.ne_bytes (Za2 I q (congrArg not ZiZ))
    | _=>exact absurd (show false=true from hs) Bool.false_ne_true
  | _=>cases y <;> exact absurd (show false=true from hs) Bool.false_ne_true
theorem ZfS:OpR X (compareOp .Lt) (rI0 fun i j=>.bl (decide (i < j))):=opB0 fun _ _ _ _ _ _ _ q=>lt_int q
theorem op_le:OpR X (compareOp .LtE) (rI0 fun i j=>.bl (decide (i <= j))):=opB0 fun _ _ _ _ _ _ _ q=>le_int q
theorem Ze5:OpR X (compareOp .Gt) (rI0 fun i j=>.bl (decide (j < i))):=opB0 fun _ _ _ _ _ _ _ q=>gt_int q
theorem ZlE:OpR X (compareOp .GtE) (rI0 fun i j=>.bl (decide (j <= i))):=opB0 fun _ _ _ _ _ _ _ q=>ge_int q
theorem op_isN:OpR X (compareOp .Is) (fun x y H Q=>y=.non/\Q (.bl (decide (x=.non))) H):=by
  intro pins s σ H x y v u Q I rx ry h
  obtain ⟨rfl,q⟩:=h
  cases ry
  refine is_none_gen (Za2 I q ?_)
  cases x <;> first
    | (cases rx; rfl)
    | (obtain ⟨t,rfl⟩:=rx; rfl)
theorem OpR.or {f:Value->Value->Sem Value} {r r':R2} (h:OpR X f r) (h':OpR X f r'):OpR X f (fun x y H Q=>r x y H Q\/r' x y H Q):=by
  intro pins s σ H x y v u Q I rx ry q
  rcases q with q|q
  . exact h pins s σ H x y v u Q I rx ry q
  . exact h' pins s σ H x y v u Q I rx ry q
theorem nomark (b:Expr) {op:CmpOp} (h:op ≠ .In:=by decide) (h2:op ≠ .NotIn:=by decide):behindInMarks op b=false:=by
  have e1:(op == CmpOp.In)=false:=by cases op <;> first|rfl|exact absurd rfl h
  have e2:(op == CmpOp.NotIn)=false:=by cases op <;> first|rfl|exact absurd rfl h2
  cases b <;> simp [behindInMarks,e1,e2]
theorem ZbI {op:CmpOp} {r:R2} (ho:OpR X (compareOp op) r) (ha:PE X a ta) (hb:PE X b tb) (hm:behindInMarks op b=false):PE X (.Compare a [op] [b] pos) (tOp r ta tb):=by
  intro pins s σ H Q I h
  exact wpAny_Compare1 (binT ha hb I h fun v u s2 x y H2 I2 rx ry q=>ho pins s2 σ H2 x y v u Q I2 rx ry q) hm
noncomputable def tTest (t:TE):TT:=fun σ H Q=>t σ H fun x H'=>∃ k,x=.bl k/\Q k H'
theorem ZaD {op:CmpOp} {r:R2} (ho:OpR X (compareOp op) r) (ha:PE X a ta) (hb:PE X b tb) (hm:behindInMarks op b=false):PT X (.Compare a [op] [b] pos) (tTest (tOp r ta tb)):=by
  intro pins s σ H Q I h
  refine wpAny_isTrue_Compare1 (thn (ha pins s σ H _ I h) fun v s1 ⟨x,H1,I1,r1,q1⟩=>thn (hb pins s1 σ H1 _ I1 q1) fun u s2 ⟨y,H2,I2,r2,q2⟩ =>
    thn (ho pins s2 σ H2 x y v u _ I2 r1 r2 q2) fun c s3 ⟨z,H3,I3,r3,k,e,q3⟩=>?_) hm
  subst e
  cases r3
  exact wpAny_truthy_bool ⟨H3,I3,q3⟩
noncomputable def tChain (r r':R2) (ta tb tc:TE):TE:=fun σ H Q=>ta σ H fun x H1=>tb σ H1 fun y H2=>r x y H2 fun z H3=>∃ k,z=.bl k /\
  (if k=true then tc σ H3 fun w' H4=>r' y w' H4 Q else Q (.bl false) H3)
theorem Zkh {op op':CmpOp} {r r':R2} (ho:OpR X (compareOp op) r) (ho':OpR X (compareOp op') r') (ha:PE X a ta) (hb:PE X b tb) (hc:PE X c tc)
    (hm:lastMarks [op,op'] [b,c]=false:=by with_unfolding_all rfl):PT X (.Compare a [op,op'] [b,c] pos) (tTest (tChain r r' ta tb tc)):=by
  intro pins s σ H Q I h
  refine isTrue_chain (thn (ha pins s σ H _ I h) fun v s1 ⟨x,H1,I1,r1,q1⟩=>test_link (thn (hb pins s1 σ H1 _ I1 q1) fun u s2 ⟨y,H2,I2,r2,q2⟩ =>
    thn (ho pins s2 σ H2 x y v u _ I2 r1 r2 q2) fun d s3 ⟨z,H3,I3,r3,k,e,q3⟩=>?_)) hm
  subst e
  cases r3
  refine wpAny_truthy_bool ?_
  cases k with
  | false =>
    obtain ⟨k',e',q'⟩:=q3
    cases e'
    exact ite_ff ⟨H3,I3,q'⟩
  | true =>
    refine ite_tt (test_last (thn (hc pins s3 σ H3 _ I3 q3) fun w' s4 ⟨z',H4,I4,r4,q4⟩=>thn (ho' pins s4 σ H4 y z' u w' _ I4 r2 r4 q4) fun d' s5 ⟨z2,H5,I5,r5,k2,e2,q5⟩=>?_))
    subst e2
    cases r5
    exact wpAny_truthy_bool ⟨H5,I5,q5⟩
theorem line63:(sizeLine:Nat) < 2 ^ 63:=by rw [sizeLine_eq]; decide
theorem vals1 {x:V} {us:List Value} (r:Vals [x] us):∃ u,us=[u]/\RelV x u:=by
  cases r with
  | cons r1 r2=>cases r2; exact ⟨_,rfl,r1⟩
theorem vals2 {x y:V} {us:List Value} (r:Vals [x,y] us):∃ u w',us=[u,w']/\RelV x u/\RelV y w':=by
  cases r with
  | cons r1 r2 =>
    cases r2 with
    | cons r3 r4=>cases r4; exact ⟨_,_,rfl,r1,r3⟩
theorem Zi0 (hc:X.calm=true):CallR X (.builtin "max") (fun xs H Q=>∃ i j,xs=[.int i,.int j]/\Q (.int (if j > i then j else i)) H):=by
  intro pins s σ H xs us Q I r h
  obtain ⟨i,j,rfl,q⟩:=h
  obtain ⟨u,w',rfl,⟨t,rfl⟩,⟨t',rfl⟩⟩:=vals2 r
  refine max_two_ints (I.ok.hd hc) fun h' tk k=>⟨_,H,I.kept k,?_,q⟩
  by_cases hj:j > i
  . rw [if_pos hj,if_pos hj]; exact ⟨_,rfl⟩
  . rw [if_neg hj,if_neg hj]; exact ⟨_,rfl⟩
theorem Zi1 (hc:X.calm=true):CallR X (.builtin "min") (fun xs H Q=>∃ i j,xs=[.int i,.int j]/\Q (.int (if j < i then j else i)) H):=by
  intro pins s σ H xs us Q I r h
  obtain ⟨i,j,rfl,q⟩:=h
  obtain ⟨u,w',rfl,⟨t,rfl⟩,⟨t',rfl⟩⟩:=vals2 r
  refine min_two_ints (I.ok.hd hc) fun h' tk k=>⟨_,H,I.kept k,?_,q⟩
  by_cases hj:j < i
  . rw [if_pos hj,if_pos hj]; exact ⟨_,rfl⟩
  . rw [if_neg hj,if_neg hj]; exact ⟨_,rfl⟩
theorem ZfT:CallR X (.type "int") (fun xs H Q=>(∃ i,xs=[.int i]/\Q (.int i) H)\/∃ k,xs=[.bl k]/\Q (.int (if k then 1 else 0)) H):=by
  intro pins s σ H xs us Q I r h
  rcases h with ⟨i,rfl,q⟩|⟨k,rfl,q⟩
  . obtain ⟨u,rfl,t,rfl⟩:=vals1 r
    exact call_int_int ⟨.int i,H,I,⟨_,rfl⟩,q⟩
  . obtain ⟨u,rfl,r1⟩:=vals1 r
    cases r1
    exact call_int_bool ⟨.int (if k then 1 else 0),H,I.tok _,⟨_,rfl⟩,q⟩
end
end L2
namespace L2
open PySem PySem.Spec PyProof.Rows
structure ObjM (h:Heap) (x dx C:Addr) (mA:Str->Option Value):Prop where
  obj:h.get? x=some (PySem.W.instObj C dx)
  ns:h.Ns1 dx mA
  ne:dx ≠ x
theorem Zi2 {h:Heap} {dx:Addr} {mA:Str->Option Value} (n:h.Ns1 dx mA):∃ od,h.get? dx=some od/\∀ name,PySem.W.lookIn name od=some (mA name):=by
  obtain ⟨o,es,ep,ho,hd,hk,_,hm⟩:=n
  refine ⟨o,ho,fun name=>?_⟩
  have e:=hm name
  unfold nsFind findBy at e
  rw [<- Array.find?_toList] at e
  unfold PySem.W.lookIn
  rw [hd]
  dsimp only
  split
  . rename_i y q
    rw [q] at e
    exact congrArg some e
  . rename_i q
    rw [q] at e
    have a:es.toList.any (·.refKey)=false:=by
      rw [List.any_eq_false]
      intro y hy
      obtain ⟨z,t,hkey⟩:=hk y (Array.mem_toList_iff.mp hy)
      simp [DictEntry.refKey,hkey]
    have a':¬ es.toList.any (·.refKey)=true:=by rw [a]; exact Bool.false_ne_true
    rw [if_neg a']
    exact congrArg some e
theorem ObjM.look {h:Heap} {x dx C:Addr} {mA:Str->Option Value} (I:ObjM h x dx C mA):∃ od,PySem.W.InstAt h x (PySem.W.instObj C dx) C (some od)/\∀ name,PySem.W.lookIn name od=some (mA name) :=
  let ⟨od,ho,hl⟩:=Zi2 I.ns
  ⟨od,⟨I.obj,rfl,rfl,ho⟩,hl⟩
section
variable {prog:Program} {w:World} {A:Around} {E:Value->Shared->Prop} {s:Shared} {K:PySem.W.Frag} {x dx C f:Addr} {mA:Str->Option Value} {name:Str} {v:Value}
theorem ZlF {expr:Bool} {Q:Value->Shared->Prop} (X:K.In s.heap) (I:ObjM s.heap x dx C mA) (hg:PySem.W.plainGet K C name=true) (hh:PySem.W.hasDictIn K C=true)
    (ha:PySem.W.findIn K (.ref C) name=some none) (hv:mA name=some v) (hv':PySem.W.handedIn v=true) (h:Q v { s with toks:=s.toks + 1 }) :
    wpAny (model prog w) A (getAttr (.ref x) name expr) Q E s:=by
  obtain ⟨od,J,hl⟩:=I.look
  exact PySem.W.get_value X J (PySem.W.plainGet_of hg).1 (PySem.W.findObj_own hh ha rfl (by rw [hl,hv])) hv' h
theorem Zki {pl:Sem Bool} {Q:Value × List Value->Shared->Prop} (X:K.In s.heap) (I:ObjM s.heap x dx C mA) (hg:PySem.W.plainGet K C name=true)
    (hf:PySem.W.findIn K (.ref C) name=some (some (.ref f))) (ht:PySem.W.isFn K (.ref f)=true) (hv:mA name=none) (h:Q (.ref f,[.ref x]) s) :
    wpAny (model prog w) A (getMethod (.ref x) name pl) Q E s:=by
  obtain ⟨od,J,hl⟩:=I.look
  exact PySem.W.method_fn X J (PySem.W.plainGet_of hg).1 (PySem.W.plainGet_of hg).2 hf (beq_iff_eq.mp ht) (by show (PySem.W.lookIn name od).map (·.isSome)=some false; rw [hl,hv]; rfl) h
theorem ZlG {ns:List Str} {Q:Unit->Shared->Prop} (X:K.In s.heap) (I:ObjM s.heap x dx C mA)
    (hs:PySem.W.findIn K (.ref C) "__setattr__" = some (some (.builtin "object.__setattr__"))) (hp:PySem.W.plainOver K C=true) (ht:PySem.W.takerIn K C name=some none) (hh:PySem.W.hasDictIn K C=true)
    (hw:PySem.Within mA ns) (hsz:ns.length <= sizeLine)
    (h:∀ h',ObjM h' x dx C (fun y=>if y=name then some v else mA y)->Heap.SameBut dx s.heap h'->Q () { s with heap:=h',toks:=s.toks + 2 }) :
    wpAny (model prog w) A (setAttr (.ref x) name v) Q E s:=by
  obtain ⟨od,J,hl⟩:=I.look
  refine PySem.W.set_plain X J hs (PySem.W.osa_open (s:={ s with toks:=s.toks + 1 }) (r:=none) X J hp ht fun b=>?_)
  obtain ⟨cd,hc,hd'⟩:=PySem.W.any_some hh
  have hx:s.heap.get? x=some ⟨.ref C,some dx,.plain,#[]⟩:=I.obj
  refine wpAny_bind (wpAny_pure (wpAny_bind (wpAny_bind (wpAny_loadPart hx (wpAny_bind (PySem.W.Looks.here (s:={ s with toks:=s.toks + 1 }) (PySem.W.looks_clsIn X hc) ?_))))))
  rw [hd']
  refine wpAny_pure (a:=some dx) (wpAny_bind (wpAny_pure (wpAny_bind ?_)))
  refine wpAny_nsSet1 (s:={ s with toks:=s.toks + 1 }) I.ns fun h' hn2 hs2=>?_
  obtain ⟨oD,esD,epD,hoD,hdD,hcD⟩:=hn2.count (PySem.Within.cons name v hw)
  refine wpAny_bind (wpAny_lookBehind hoD (by rw [hdD]; exact pastItsLine_dict (Nat.le_trans hcD (by rw [List.length_cons]; omega))) ?_)
  exact wpAny_pure (h _ ⟨(hs2.2 _ (Ne.symm I.ne)).trans I.obj,hn2,I.ne⟩ hs2)
theorem Zkj {R:Result->Shared->Prop} {vs:List Value} {kw:List (Str × Value)} (X:K.In s.heap) (hm:PySem.W.makesIn K C=true)
    (hi:PySem.W.findIn K (.ref C) "__init__" = some (some (.ref f))) (hf:PySem.W.typeIn K (.ref f)=some (.type "function"))
    (h:codeAny (model prog w) (A.under (.builtin "type.__call__" ⟨.ref C :: vs,kw⟩)) (.call (.ref f) ⟨.ref (s.heap.objs.size + 1) :: vs,kw⟩) (PySem.W.InitBack (s.heap.objs.size + 1) R)
      { s with heap:=(s.heap.push PySem.W.emptyDict).push (PySem.W.instObj C s.heap.objs.size) }) :
    codeAny (model prog w) A (.call (.ref C) ⟨vs,kw⟩) R s:=by
  obtain ⟨hh,g,d,t,os⟩:=s
  exact PySem.W.make_core (PySem.W.makes_of X hm) (PySem.W.looks_findIn X hi) (fun self=>PySem.W.bind_fn X self hf) (.inl rfl) h
end
noncomputable def putF (f:Str) (v:V):List (Str × V)->List (Str × V)
  | []=>[(f,v)]
  | (g,x) :: r=>if g=f then (g,v) :: r else (g,x) :: putF f v r
theorem Zd7 (f g:Str) (v:V):∀ fs:List (Str × V),(putF f v fs).lookup g=if g=f then some v else fs.lookup g
  | []=>by
    show List.lookup g [(f,v)]=_
    by_cases h:g=f
    . have hb:(g == f)=true:=beq_iff_eq.mpr h
      simp only [List.lookup,hb,if_pos h]
    . have hb:(g == f)=false:=beq_eq_false_iff_ne.mpr h
      simp only [List.lookup,hb,if_neg h]
  | (k,x) :: r=>by
    have ih:=Zd7 f g v r
    rw [show putF f v ((k,x) :: r)=(if k=f then (k,v) :: r else (k,x) :: putF f v r) from rfl]
    by_cases hk:k=f
    . rw [if_pos hk]
      by_cases h:g=k
      . have hb:(g == k)=true:=beq_iff_eq.mpr h
        simp only [List.lookup,hb,if_pos (h.trans hk)]
      . have hb:(g == k)=false:=beq_eq_false_iff_ne.mpr h
        simp only [List.lookup,hb,if_neg (fun e:g=f=>h (e.trans hk.symm))]
    . rw [if_neg hk]
      by_cases h:g=k
      . have hb:(g == k)=true:=beq_iff_eq.mpr h
        simp only [List.lookup,hb,if_neg (fun e:g=f=>hk (h.symm.trans e))]
      . have hb:(g == k)=false:=beq_eq_false_iff_ne.mpr h
        simp only [List.lookup,hb]
        exact ih
theorem Zd8 (f:Str) (v:V):∀ fs:List (Str × V),f ∈ (putF f v fs).map (·.1)/\∀ g,g ∈ fs.map (·.1)->g ∈ (putF f v fs).map (·.1)
  | []=>⟨by simp [putF],fun g h=>by simp at h⟩
  | (k,x) :: r=>by
    obtain ⟨i1,i2⟩:=Zd8 f v r
    rw [show putF f v ((k,x) :: r)=(if k=f then (k,v) :: r else (k,x) :: putF f v r) from rfl]
    by_cases hk:k=f
    . rw [if_pos hk]
      subst hk
      exact ⟨by simp,fun g h=>by simpa using h⟩
    . rw [if_neg hk]
      refine ⟨?_,fun g h=>?_⟩
      . rw [List.map_cons]
        exact List.mem_cons_of_mem _ i1
      . rw [List.map_cons] at h |-
        rcases List.mem_cons.mp h with e|e
        . exact List.mem_cons.mpr (.inl e)
        . exact List.mem_cons_of_mem _ (i2 g e)
theorem Zd9 (f:Str) (v:V):∀ fs:List (Str × V),(putF f v fs).length <= fs.length + 1
  | []=>by simp [putF]
  | (k,x) :: r=>by
    have ih:=Zd9 f v r
    rw [show putF f v ((k,x) :: r)=(if k=f then (k,v) :: r else (k,x) :: putF f v r) from rfl]
    by_cases hk:k=f
    . rw [if_pos hk,List.length_cons,List.length_cons]; omega
    . rw [if_neg hk,List.length_cons,List.length_cons]; omega
theorem RelO.some_of {v:V} {o:Option Value} (r:RelO (some v) o):∃ u,o=some u/\RelV v u:=by
  cases o with
  | none=>exact (show False from r).elim
  | some u=>exact ⟨u,rfl,r⟩
theorem RelO.none_of {o:Option Value} (r:RelO none o):o=none:=by
  cases o with
  | none=>rfl
  | some u=>exact (show False from r).elim
theorem Zi3 {v:V} {u:Value} (r:RelV v u):PySem.W.handedIn u=true:=by
  cases v with
  | non=>cases (show u=Value.none from r); rfl
  | bl b=>cases (show u=Value.bool b from r); rfl
  | int i=>obtain ⟨t,e⟩:=(show ∃ t,u=Value.int i t from r); cases e; rfl
  | str x=>obtain ⟨t,e⟩:=(show ∃ t,u=Value.str x t from r); cases e; rfl
  | byt b=>obtain ⟨t,e⟩:=(show ∃ t,u=Value.bytes b t from r); cases e; rfl
  | flt b=>obtain ⟨t,e⟩:=(show ∃ t,u=Value.float b t from r); cases e; rfl
  | ref a=>cases (show u=Value.ref a from r); rfl
  | ty n=>cases (show u=Value.type n from r); rfl
section
variable {P:Program} {w:World} {H H':Hp} {h h':Heap} {a C dx:Addr} {fs fs':List (Str × V)}
theorem ZgZ (hok:HOk P w H h) (e:H a=some (.ins C dx fs)):∃ mA,ObjM h a dx C mA/\(∀ f,RelO (fs.lookup f) (mA f))/\PySem.Within mA (fs.map (·.1))/\fs.length <= 1000/\H dx=some (.own a):=by
  obtain ⟨d,z,ne,ob,mA,n,r,q⟩:=(show ObjOk P w H h a (.ins C dx fs) from hok a _ e)
  exact ⟨mA,⟨ob,n,ne⟩,r,q,z,d⟩
end
structure Cls (K:PySem.W.Frag) (C:Addr):Prop where
  pg:PySem.W.plainGet K C Str.empty=true
  hd:PySem.W.hasDictIn K C=true
  po:PySem.W.plainOver K C=true
  sa:PySem.W.findIn K (.ref C) "__setattr__" = some (some (.builtin "object.__setattr__"))
theorem Cls.get {K:PySem.W.Frag} {C:Addr} (c:Cls K C) (f:Str):PySem.W.plainGet K C f=true:=c.pg
noncomputable def NoAttr (K:PySem.W.Frag) (C:Addr) (f:Str):Prop:=PySem.W.findIn K (.ref C) f=some none
theorem NoAttr.taker {K:PySem.W.Frag} {C:Addr} {f:Str} (n:NoAttr K C f):PySem.W.takerIn K C f=some none:=by
  unfold PySem.W.takerIn
  rw [show PySem.W.findIn K (.ref C) f=some none from n]
  rfl
structure Con (K:PySem.W.Frag) (C:Addr) (f:Str) (v:V) (u:Value):Prop where
  at_:PySem.W.findIn K (.ref C) f=some (some u)
  rel:RelV v u
  get:PySem.W.specialIn K u "__get__" = some none
  cp:PySem.W.copiedNames.contains f=false
structure Meth (K:PySem.W.Frag) (C:Addr) (m:Str) (f:Addr):Prop where
  at_:PySem.W.findIn K (.ref C) m=some (some (.ref f))
  fn:PySem.W.isFn K (.ref f)=true
  kp:PySem.W.keepIn K (.ref f)=true
section
variable {X:Cx} {pins:List (Addr × Obj)} {σ:St} {H:Hp} {s:Shared} {a C dx:Addr} {fs:List (Str × V)} {f:Str} {v:V} {A:Around} {E:Value->Shared->Prop}
theorem ZeW {b:Bool} {Q:Value->Shared->Prop} (I:Inv X pins σ H s) (e:H a=some (.ins C dx fs)) (c:Cls X.K C) (n:NoAttr X.K C f) (l:fs.lookup f=some v)
    (h:∀ u s',Inv X pins σ H s'->RelV v u->Q u s'):wpAny (model X.prog X.w) A (getAttr (.ref a) f b) Q E s:=by
  obtain ⟨mA,O,r,_,_,_⟩:=ZgZ I.hok e
  obtain ⟨u,hu,ru⟩:=RelO.some_of (v:=v) (o:=mA f) (by rw [<- l]; exact r f)
  exact ZlF I.kIn O (c.get f) c.hd n hu (Zi3 ru) (h u _ (I.tok _) ru)
theorem Zb8 {m:Str} {g:Addr} {pl:Sem Bool} {Q:Value × List Value->Shared->Prop} (I:Inv X pins σ H s) (e:H a=some (.ins C dx fs)) (c:Cls X.K C) (k:Meth X.K C m g) (l:fs.lookup m=none)
    (h:Q (.ref g,[.ref a]) s):wpAny (model X.prog X.w) A (getMethod (.ref a) m pl) Q E s:=by
  obtain ⟨mA,O,r,_,_,_⟩:=ZgZ I.hok e
  have hn:mA m=none:=RelO.none_of (by rw [<- l]; exact r m)
  exact Zki I.kIn O (c.get m) k.at_ k.fn hn h
theorem ZeX {y:V} {u:Value} {Q:Unit->Shared->Prop} (I:Inv X pins σ H s) (e:H a=some (.ins C dx fs)) (c:Cls X.K C) (n:NoAttr X.K C f) (hl:fs.length < 1000) (ry:RelV y u)
    (h:∀ s',Inv X pins σ (upd H a (.ins C dx (putF f y fs))) s'->Q () s'):wpAny (model X.prog X.w) A (setAttr (.ref a) f u) Q E s:=by
  obtain ⟨mA,O,r,wi,_,ho⟩:=ZgZ I.hok e
  have hz:(fs.map (·.1)).length <= sizeLine:=by rw [List.length_map,sizeLine_eq]; omega
  refine ZlG I.kIn O c.sa c.po n.taker c.hd wi hz fun h' O' sb=>h _ ?_
  have hd:∃ o,h'.get? dx=some o:=let ⟨o,_,_,e',_⟩:=O'.ns; ⟨o,e'⟩
  refine I.write (x:=a) (e:=dx) (by rw [e]; exact True.intro) (.inr ho) (fun b q hb z=>(sb.2 b hb).trans z) hd ?_
  refine ⟨by rw [Zak O.ne]; exact ho,?_,O.ne,O'.obj,_,O'.ns,fun g=>?_,fun g hg=>?_⟩
  . have:=Zd9 f y fs; omega
  . show RelO ((putF f y fs).lookup g) (if g=f then some u else mA g)
    rw [Zd7]
    by_cases q:g=f
    . rw [if_pos q,if_pos q]; exact ry
    . rw [if_neg q,if_neg q]; exact r g
  . by_cases q:g=f
    . rw [q]; exact (Zd8 f y fs).1
    . refine (Zd8 f y fs).2 g (wi g fun z=>hg ?_)
      show (if g=f then some u else mA g)=none
      rw [if_neg q]; exact z
theorem Inv.made (I:Inv X pins σ H s):Inv X pins σ (upd (upd H s.heap.objs.size (.own (s.heap.objs.size + 1))) (s.heap.objs.size + 1) (.ins C s.heap.objs.size []))
    { s with heap:=(s.heap.push PySem.W.emptyDict).push (PySem.W.instObj C s.heap.objs.size) }:=by
  have e1:(s.heap.push PySem.W.emptyDict).get? s.heap.objs.size=some PySem.W.emptyDict:=Heap.get?_push_size s.heap rfl
  have e2:((s.heap.push PySem.W.emptyDict).push (PySem.W.instObj C s.heap.objs.size)).get? (s.heap.objs.size + 1)=some (PySem.W.instObj C s.heap.objs.size):=by
    have:=Heap.get?_push_size (s.heap.push PySem.W.emptyDict) (o:=PySem.W.instObj C s.heap.objs.size) rfl
    rwa [Heap.size_push] at this
  have e3:(s.heap.push PySem.W.emptyDict).Ns s.heap.objs.size (fun _=>none):=⟨PySem.W.emptyDict,#[],_,e1,rfl,(fun e he=>absurd he (by simp)),fun _=>rfl⟩
  have I1:=I.laid (a:=s.heap.objs.size) (o:=.own (s.heap.objs.size + 1)) (h':=s.heap.push PySem.W.emptyDict) (t':=s.toks) (fun b u q=>Heap.get?_push_of_some _ q) (Nat.le_refl _) ⟨_,e1⟩
  refine I1.laid (a:=s.heap.objs.size + 1) (o:=.ins C s.heap.objs.size []) (t':=s.toks) (fun b u q=>Heap.get?_push_of_some _ q) (Nat.le_of_eq (Heap.size_push _ _)) ?_
  have ne:s.heap.objs.size ≠ s.heap.objs.size + 1:=Nat.ne_of_lt (Nat.lt_succ_self _)
  refine ⟨by rw [Zak ne,Zah],Nat.zero_le _,ne,e2,fun _=>none,(Heap.Ns1.of_empty e3).at fun o q=>Heap.get?_push_of_some _ q,fun _=>True.intro,fun y hy=>absurd rfl hy⟩
theorem ZlH {prog:Program} {w:World} {env:Env} {e:Expr} {f:Str} {pos:Pos} {s:Shared} {Q:Value->Shared->Prop} (hb:attributeBase e f env (eval e env)=eval e env)
    (h:wpAny (model prog w) A (eval e env) (fun o s₁=>wpAny (model prog w) A (getAttr o f true) Q E s₁) E s):wpAny (model prog w) A (eval (.Attribute e f pos) env) Q E s :=
  Attribute_any_ h (by rw [arm_eval_Attribute,hb])
end
noncomputable def tFld (K:PySem.W.Frag) (ta:TE) (f:Str):TE:=fun σ H Q=>ta σ H fun x H1=>∃ a C dx fs v,x=.ref a/\H1 a=some (.ins C dx fs)/\Cls K C/\NoAttr K C f/\fs.lookup f=some v/\Q v H1
noncomputable def sFld (K:PySem.W.Frag) (ta tv:TE) (f:Str):TS:=fun D σ H=>tv σ H fun y H1=>ta σ H1 fun x H2=>∃ a C dx fs,x=.ref a/\H2 a=some (.ins C dx fs)/\Cls K C/\NoAttr K C f/\fs.length < 1000 /\
  D.nx σ (upd H2 a (.ins C dx (putF f y fs)))
noncomputable def InOp (X:Cx) (op:Operator) (rd:V->V->Hp->VK->Prop):Prop :=
  ∀ (pins:List (Addr × Obj)) (s:Shared) (σ:St) (H:Hp) (x y:V) (u v:Value) (Q:VK),Inv X pins σ H s->RelV x u->RelV y v->rd x y H Q->wpAny (model X.prog X.w) X.A (inplaceOp op u v) (EP X pins σ Q) X.xe s
noncomputable def Zi4 (K:PySem.W.Frag) (ta tv:TE) (rd:V->V->Hp->VK->Prop) (f:Str):TS:=fun D σ H=>ta σ H fun x H1=>∃ a C dx fs v,x=.ref a/\H1 a=some (.ins C dx fs)/\Cls K C/\NoAttr K C f/\fs.lookup f=some v /\
  tv σ H1 fun y H2=>rd v y H2 fun z H3=>∃ dx' fs',H3 a=some (.ins C dx' fs')/\fs'.length < 1000/\D.nx σ (upd H3 a (.ins C dx' (putF f z fs')))
section
variable {X:Cx} {o e value:Expr} {f:Str} {pos pos' tpos:Pos} {ta tv:TE}
theorem Zal (he:PE X e ta) (hb:attributeBase e f X.env (eval e X.env)=eval e X.env):PE X (.Attribute e f pos) (tFld X.K ta f):=by
  intro pins s σ H Q I h
  refine ZlH hb (thn (he pins s σ H _ I h) fun u s1 ⟨x,H1,I1,rx,a,C,dx,fs,v,ex,ea,c,n,l,q⟩=>?_)
  subst ex
  obtain rfl:u=Value.ref a:=rx
  exact ZeW I1 ea c n l fun u' s2 I2 ru=>⟨v,H1,I2,ru,q⟩
theorem ZaU (ha:PE X o ta) (hv:PE X value tv) (hs:swapsWith value (some (.Attribute o f pos')) pos.line X.env=pure false):PS X (.Assign [.Attribute o f pos'] value pos) (sFld X.K ta tv f):=by
  intro pins s σ H D I h
  refine plainObj_wpAny_Assign_Attribute (thn (hv pins s σ H _ I h) fun u s1 ⟨y,H1,I1,ry,q⟩=>thn (ha pins s1 σ H1 _ I1 q) fun ov s2 ⟨x,H2,I2,rx,a,C,dx,fs,ex,ea,c,n,l,q2⟩=>?_) hs
  subst ex
  obtain rfl:ov=Value.ref a:=rx
  exact ZeX I2 ea c n l ry fun s3 I3=>⟨σ,_,I3,q2⟩
theorem Zcp {op:Operator} {rd:V->V->Hp->VK->Prop} (ha:PE X o ta) (hv:PE X value tv) (hop:InOp X op rd):PS X (.AugAssign (.Attribute o f tpos) op value pos) (Zi4 X.K ta tv rd f):=by
  intro pins s σ H D I h
  refine wpAny_AugAssign_AttributeAny (thn (ha pins s σ H _ I h) fun ov s1 ⟨x,H1,I1,rx,a,C,dx,fs,v,ex,ea,c,n,l,q⟩=>?_)
  subst ex
  obtain rfl:ov=Value.ref a:=rx
  refine ZeW I1 ea c n l fun u s2 I2 ru=>thn (hv pins s2 σ H1 _ I2 q) fun w3 s3 ⟨y,H2,I3,ry,q3⟩=>thn (hop pins s3 σ H2 v y u w3 _ I3 ru ry q3) fun w4 s4 ⟨z,H3,I4,rz,dx',fs',ea',l',q4⟩=>?_
  exact ZeX I4 ea' c n l' rz fun s5 I5=>⟨σ,_,I5,q4⟩
noncomputable def rAdd:V->V->Hp->VK->Prop:=fun x y H Q=>∃ i j,x=.int i/\y=.int j/\Q (.int (i + j)) H
noncomputable def rSub:V->V->Hp->VK->Prop:=fun x y H Q=>∃ i j,x=.int i/\y=.int j/\Q (.int (i - j)) H
theorem Zh0:InOp X .Add rAdd:=by
  rintro pins s σ H x y u v Q I rx ry ⟨i,j,rfl,rfl,q⟩
  obtain ⟨t,rfl⟩:=(show ∃ t,u=Value.int i t from rx)
  obtain ⟨t',rfl⟩:=(show ∃ t',v=Value.int j t' from ry)
  exact PyProof.Rows.iadd_int ⟨.int (i + j),H,I.tok _,⟨_,rfl⟩,q⟩
theorem in_sub:InOp X .Sub rSub:=by
  rintro pins s σ H x y u v Q I rx ry ⟨i,j,rfl,rfl,q⟩
  obtain ⟨t,rfl⟩:=(show ∃ t,u=Value.int i t from rx)
  obtain ⟨t',rfl⟩:=(show ∃ t',v=Value.int j t' from ry)
  exact PyProof.Rows.isub_int ⟨.int (i - j),H,I.tok _,⟨_,rfl⟩,q⟩
theorem ZlI {pl:Sem Bool} {m:Str} {apos:Pos} {args:List Expr} {pins:List (Addr × Obj)} {s:Shared} {σ:St} {H:Hp} {Q:Value->Shared->Prop} {te:TE} (he:PE X e te) (I:Inv X pins σ H s)
    (h:te σ H fun x H1=>∃ a C dx fs g,x=.ref a/\H1 a=some (.ins C dx fs)/\Cls X.K C/\Meth X.K C m g/\fs.lookup m=none /\
      ∀ s1,Inv X pins σ H1 s1->wpAny (model X.prog X.w) X.A (callWith pos (.ref g) [.ref a] (backTo pos (starEach args X.env)) (backToKw pos (keywordEach [] X.env))) Q X.xe s1)
    (ht:eval (.Call (.Attribute e m apos) args [] pos) X.env=(do
      let ov <- eval e X.env
      standAt apos.atName
      let (f,first) <- holding [ov] (getMethod ov m pl)
      callWith pos f first (backTo pos (starEach args X.env)) (backToKw pos (keywordEach [] X.env)))) :
    wpAny (model X.prog X.w) X.A (eval (.Call (.Attribute e m apos) args [] pos) X.env) Q X.xe s:=by
  refine PySem.W.methodCall_KW (pl:=pl) (thn (he pins s σ H _ I h) fun u s1 ⟨x,H1,I1,rx,a,C,dx,fs,g,ex,ea,c,k,l,q⟩=>?_) ht
  subst ex
  obtain rfl:u=Value.ref a:=rx
  exact Zb8 I1 ea c k l (q s1 I1)
end
section
variable {X:Cx} {pins:List (Addr × Obj)} {σ:St} {H:Hp} {s:Shared} {A:Around} {E:Value->Shared->Prop} {Q:Value->Shared->Prop} {c:Value} {b:Bool}
inductive TyOf (K:PySem.W.Frag) (H:Hp):V->Value->Prop where
  | non:TyOf K H .non (.type "NoneType")
  | bl (x:Bool):TyOf K H (.bl x) (.type "bool")
  | int (i:Int):TyOf K H (.int i) (.type "int")
  | str (x:Str):TyOf K H (.str x) (.type "str")
  | flt (x:UInt64):TyOf K H (.flt x) (.type "float")
  | lst {a:Addr} {xs:List V} (e:H a=some (.lst xs)):TyOf K H (.ref a) (.type "list")
  | frz {a:Addr} {o:Obj} {xs:List V} (e:H a=some (.frz o (.lst xs))):TyOf K H (.ref a) (.type "list")
  | tup {a:Addr} {xs:List V} (e:H a=some (.tup xs)):TyOf K H (.ref a) (.type "tuple")
  | dK {a:Addr} {kvs:List (Key × V)} (e:H a=some (.dK kvs)):TyOf K H (.ref a) (.type "dict")
  | dT {a:Addr} {kvs:List (List Key × V)} (e:H a=some (.dT kvs)):TyOf K H (.ref a) (.type "dict")
  | ins {a C dx:Addr} {fs:List (Str × V)} (e:H a=some (.ins C dx fs)) (cl:Cls K C) (ha:PySem.W.findIn K (.ref C) "__class__" = some (some (.builtin "object.__class__")))
      (hn:PySem.W.specialIn K (.builtin "object.__class__") "__get__" = some (some (.builtin "getset_descriptor.__get__"))) (htk:PySem.W.takesIn K (.builtin "object.__class__")=some true)
      (hm:PySem.W.mroIn K C (.type "object")=some true):TyOf K H (.ref a) (.ref C)
end
end L2
namespace L2
open PySem PySem.Spec PyProof.Rows
structure Room (k:Nat) (A:Around):Prop where
  hd:A.handled=none
  dp:A.depth + 3 * k + 5 < recursionLimit
  un:A.units + 16 * k + 200 < cLine
theorem Room.mono {j k:Nat} {A:Around} (r:Room k A) (h:j <= k):Room j A:=⟨r.hd,by have:=r.dp; omega,by have:=r.un; omega⟩
theorem Room.deeper {k:Nat} {A:Around} (r:Room (k + 1) A) (env:Env):Room k (A.deeper env) :=
  ⟨r.hd,by have:=r.dp; show A.depth + 1 + 3 * k + 5 < _; omega,by have:=r.un; show A.units + 3 + 16 * k + 200 < _; omega⟩
theorem Room.in1 {k:Nat} {A:Around} (r:Room (k + 1) A):Room k A.in1 :=
  ⟨r.hd,by have:=r.dp; show A.depth + 3 * k + 5 < _; omega,by have:=r.un; show A.units + 1 + 16 * k + 200 < _; omega⟩
theorem Zip {A:Around} {C:Addr} {us:List Value} {kw:List (Str × Value)}:(A.under (.builtin "type.__call__" ⟨.ref C :: us,kw⟩)).depth=A.depth + 1:=by
  first|rfl|simp [Around.under,Code.weight,Code.isCreation,Code.isGuard,Code.isCaller,Code.frames,Code.isFrame,guardIds]
theorem Ziq {A:Around} {C:Addr} {us:List Value} {kw:List (Str × Value)}:(A.under (.builtin "type.__call__" ⟨.ref C :: us,kw⟩)).units=A.units + 1:=by
  first|rfl|simp [Around.under,Code.cUnits,Code.frames,Code.isFrame]
theorem Room.make {k:Nat} {A:Around} (r:Room (k + 1) A) (C:Addr) (us:List Value) (kw:List (Str × Value)):Room k (A.under (.builtin "type.__call__" ⟨.ref C :: us,kw⟩)) :=
  ⟨r.hd,by have:=r.dp; rw [Zip]; omega,by have:=r.un; rw [Ziq]; omega⟩
theorem Room.depth {k:Nat} {A:Around} (r:Room k A):A.depth < recursionLimit:=by have:=r.dp; omega
theorem Room.units {k:Nat} {A:Around} (r:Room k A):A.units + 64 < cLine:=by have:=r.un; omega
noncomputable def tNil:TA:=fun _ H Q=>Q [] H
noncomputable def tCons (ta:TE) (tr:TA):TA:=fun σ H Q=>ta σ H fun x H1=>tr σ H1 fun xs H2=>Q (x :: xs) H2
section
variable {X:Cx} {e:Expr} {es:List Expr} {te:TE} {t:TA} {pos:Pos}
theorem Zae:PA X [] tNil:=fun _ _ _ _ H Q I h=>Calls.spliced_nil ⟨[],H,I,.nil,h⟩
theorem Zaa (ha:PE X e te) (hr:PA X es t) (hs:starEach (e :: es) X.env=(false,eval e X.env) :: starEach es X.env:=by rfl):PA X (e :: es) (tCons te t):=by
  intro pos pins s σ H Q I h
  rw [hs]
  show wpAny _ _ (spliced ((false,eval e X.env) :: backTo pos (starEach es X.env))) _ _ s
  refine Calls.spliced_cons (thn (ha pins s σ H _ I h) fun u s1 ⟨x,H1,I1,r1,q1⟩=>?_)
  exact thn (hr pos pins s1 σ H1 _ I1 q1) fun us s2 ⟨xs,H2,I2,r2,q2⟩=>⟨x :: xs,H2,I2,.cons r1 r2,q2⟩
noncomputable def tTup (t:TA):TE:=fun σ H Q=>t σ H fun xs H1=>xs.length <= sizeLine/\∀ p,H1 p=none->Q (.ref p) (upd H1 p (.tup xs))
noncomputable def tLst (t:TA):TE:=fun σ H Q=>t σ H fun xs H1=>xs.length <= sizeLine/\∀ p,H1 p=none->Q (.ref p) (upd H1 p (.lst xs))
theorem ZaQ {x1} (h:PA X es t):PE X (.Tuple es x1 pos) (tTup t):=by
  intro pins s σ H Q I hq
  refine wpAny_Tuple_spliced (thn (h pos pins s σ H _ I hq) fun us s1 ⟨xs,H1,I1,r,z,q⟩=>⟨by rw [<- r.length]; exact z,?_⟩)
  have hf:H1 s1.heap.objs.size=none:=I1.hok.fresh (Nat.le_refl _)
  refine ⟨.ref s1.heap.objs.size,upd H1 s1.heap.objs.size (.tup xs),I1.laid (t':=s1.toks) (fun b u e=>Heap.get?_push_of_some _ e) (Nat.le_refl _) ?_,rfl,q _ hf⟩
  exact ⟨z,us,r,⟨_,Heap.get?_push_size _ rfl,rfl,_,rfl⟩⟩
theorem Zbt (h:PA X es t):PE X (.List es pos) (tLst t):=by
  intro pins s σ H Q I hq
  refine wpAny_List_spliced (thn (h pos pins s σ H _ I hq) fun us s1 ⟨xs,H1,I1,r,z,q⟩=>⟨by rw [<- r.length]; exact z,?_⟩)
  have hf:H1 s1.heap.objs.size=none:=I1.hok.fresh (Nat.le_refl _)
  refine ⟨.ref s1.heap.objs.size,upd H1 s1.heap.objs.size (.lst xs),I1.laid (t':=s1.toks) (fun b u e=>Heap.get?_push_of_some _ e) (Nat.le_refl _) ?_,rfl,q _ hf⟩
  exact ⟨z,us,0,r,Heap.get?_push_size _ rfl⟩
end
noncomputable abbrev Sp:=List V->Hp->VK->XK->Prop
noncomputable abbrev CXT:=List Env->Hp->Shared->XK->Value->Shared->Prop
structure Env0 (P:Program) (w:World) (K:PySem.W.Frag) (mg:Str->Option Value) (base:Heap) (A:Around) (outer:List Env) (s:Shared) (H:Hp):Prop where
  frames:A.frames=some outer
  mod:Mod K mg base
  bs:∀ b o,base.get? b=some o->s.heap.get? b=some o/\H b=none
  bsz:base.objs.size <= s.heap.objs.size
  funs:s.heap.FunFrames base outer
  frf:∀ b ∈ frs outer,H b=none
  hok:HOk P w H s.heap
  bare:AllBare s.gens
noncomputable def CE (outer:List Env) (P:Program) (w:World) (H:Hp) (s:Shared) (Q:VK) (u:Value) (s':Shared):Prop :=
  ∃ v H',s'.os=s.os/\AllBare s'.gens/\Un (frs outer) [] H H' s.heap s'.heap/\HOk P w H' s'.heap/\RelV v u/\Q v H'
noncomputable def CR (CX:CXT) (outer:List Env) (P:Program) (w:World) (H:Hp) (s:Shared) (Q:VK) (E:XK) (r:Result) (s':Shared):Prop :=
  match r with
  | .ok (.ret u)=>CE outer P w H s Q u s'
  | .ok _=>False
  | .error e=>CX outer H s E e s'
structure FnOk (P:Program) (w:World) (K:PySem.W.Frag) (mg:Str->Option Value) (base:Heap) (CX:CXT) (k:Nat) (f:Addr) (fd:FuncData) (ps:List Str) (sp:Sp):Prop where
  len:∀ vs H Q E,sp vs H Q E->vs.length=ps.length
  run:∀ (A:Around) (outer:List Env) (s:Shared) (H:Hp) (args:Args) (us:List Value) (vs:List V) (Q:VK) (E:XK),Room k A->Env0 P w K mg base A outer s H->BindsTo s fd args (ps.zip us)->Vals vs us->sp vs H Q E ->
    codeAny (model P w) A (.call (.ref f) args) (CR CX outer P w H s Q E) s
theorem FnOk.mono {P:Program} {w:World} {K:PySem.W.Frag} {mg:Str->Option Value} {base:Heap} {CX:CXT} {j k:Nat} {f:Addr} {fd:FuncData} {ps:List Str} {sp:Sp} (F:FnOk P w K mg base CX j f fd ps sp) (h:j <= k) :
    FnOk P w K mg base CX k f fd ps sp:=⟨F.len,fun A outer s H args us vs Q E hr=>F.run A outer s H args us vs Q E (hr.mono h)⟩
theorem FnOk.imp {P:Program} {w:World} {K:PySem.W.Frag} {mg:Str->Option Value} {base:Heap} {CX:CXT} {k:Nat} {f:Addr} {fd:FuncData} {ps:List Str} {sp sp':Sp} (F:FnOk P w K mg base CX k f fd ps sp)
    (h:∀ vs H Q E,sp' vs H Q E->sp vs H Q E):FnOk P w K mg base CX k f fd ps sp' :=
  ⟨fun vs H Q E q=>F.len vs H Q E (h _ _ _ _ q),fun A outer s H args us vs Q E hr he hb hv hs=>F.run A outer s H args us vs Q E hr he hb hv (h _ _ _ _ hs)⟩
theorem Env0.make {P:Program} {w:World} {K:PySem.W.Frag} {mg:Str->Option Value} {base:Heap} {A:Around} {outer:List Env} {s:Shared} {H:Hp} (e:Env0 P w K mg base A outer s H) (C:Addr) (us:List Value) (kw:List (Str × Value)) :
    Env0 P w K mg base (A.under (.builtin "type.__call__" ⟨.ref C :: us,kw⟩)) outer s H:=⟨by first|exact e.frames|(simpa [Around.under,Code.envs,Code.isFrame,pushEnvs] using e.frames),e.mod,e.bs,e.bsz,e.funs,e.frf,e.hok,e.bare⟩
theorem Env0.in1 {P:Program} {w:World} {K:PySem.W.Frag} {mg:Str->Option Value} {base:Heap} {A:Around} {outer:List Env} {s:Shared} {H:Hp} (e:Env0 P w K mg base A outer s H) :
    Env0 P w K mg base A.in1 outer s H:=⟨e.frames,e.mod,e.bs,e.bsz,e.funs,e.frf,e.hok,e.bare⟩
section
variable {X:Cx} {pins:List (Addr × Obj)} {σ:St} {H:Hp} {s s':Shared}
theorem Inv.env0 (I:Inv X pins σ H s):Env0 X.prog X.w X.K X.mg X.base X.A X.stack s H :=
  ⟨I.ok.frames,I.ok.mod,I.bs,Nat.le_trans I.ok.bsz I.sz,I.stack,I.stkFree,I.hok,I.bare⟩
theorem Inv.after {Q:VK} {u:Value} (I:Inv X pins σ H s) (h:CE X.stack X.prog X.w H s Q u s'):EP X pins σ Q u s':=by
  obtain ⟨v,H',os,bare,un,hok,r,q⟩:=h
  obtain ⟨hh,g,d,t,os'⟩:=s'
  obtain rfl:os'=s.os:=os
  exact ⟨v,H',I.call (h':=hh) (g':=g) (d':=d) (t':=t) (ch:=[]) un hok bare (fun b z=>absurd z (by simp)),r,q⟩
end
noncomputable def tCall (sp:Sp) (dvs:List V) (E:XK) (t:TA):TE:=fun σ H Q=>t σ H fun vs H1=>sp (vs ++ dvs) H1 Q E
noncomputable def tMeth (C:Addr) (m:Str) (sp:Sp) (dvs:List V) (E:XK) (ta:TE) (t:TA):TE:=fun σ H Q=>ta σ H fun x H1=>∃ a dx fs,x=.ref a/\H1 a=some (.ins C dx fs)/\fs.lookup m=none /\
  t σ H1 fun vs H2=>sp (x :: (vs ++ dvs)) H2 Q E
noncomputable def tMake (C:Addr) (sp:Sp) (dvs:List V) (E:XK) (t:TA):TE:=fun σ H Q=>t σ H fun vs H1=>∀ x dx,H1 x=none->H1 dx=none->dx ≠ x ->
  sp (.ref x :: (vs ++ dvs)) (upd (upd H1 dx (.own x)) x (.ins C dx [])) (fun v H2=>v=.non/\Q (.ref x) H2) E
noncomputable def Binds (K:PySem.W.Frag) (fd:FuncData) (ps:List Str) (ds:List Value):Prop :=
  ∀ (s:Shared) (us:List Value),K.In s.heap->(us ++ ds).length=ps.length->BindsTo s fd ⟨us,[]⟩ (ps.zip (us ++ ds))
theorem Binds.all {K:PySem.W.Frag} {fd:FuncData} {ps:List Str} (h:∀ us:List Value,us.length=ps.length->bindArgs fd ⟨us,[]⟩=pure (ps.zip us)):Binds K fd ps []:=fun s us _ hl=>by
  rw [List.append_nil] at hl |-
  exact .of_eq (h us hl)
noncomputable def Zea (CX:CXT) (X:Cx) (E:XK):Prop:=∀ (pins:List (Addr × Obj)) (σ:St) (H:Hp) (s:Shared) (e:Value) (s':Shared),Inv X pins σ H s->CX X.stack H s E e s'->X.xe e s'
section
variable {X:Cx} {CX:CXT} {k:Nat} {f C:Addr} {fd:FuncData} {ps:List Str} {sp:Sp} {dvs:List V} {ds:List Value} {E:XK} {x m:Str} {p pos apos:Pos} {e o:Expr} {es:List Expr} {ta:TE} {t:TA}
theorem ZeY {pins:List (Addr × Obj)} {σ:St} {H:Hp} {s:Shared} {Q:VK} {us:List Value} {vs:List V} (F:FnOk X.prog X.w X.K X.mg X.base CX k f fd ps sp) (hr:Room k X.A) (hb:Binds X.K fd ps ds) (hd:Vals dvs ds) (hx:Zea CX X E)
    (I:Inv X pins σ H s) (r:Vals vs us) (h:sp (vs ++ dvs) H Q E):wpAny (model X.prog X.w) X.A (call (.ref f) us) (EP X pins σ Q) X.xe s:=by
  have r2:Vals (vs ++ dvs) (us ++ ds):=r.append hd
  have hl:(us ++ ds).length=ps.length:=by rw [<- r2.length]; exact F.len _ _ _ _ h
  refine wpAny_call (codeAny_mono (F.run X.A X.stack s H ⟨us,[]⟩ (us ++ ds) (vs ++ dvs) Q E hr I.env0 (hb s us I.kIn hl) r2 h) fun r s' hq=>?_)
  cases r with
  | error e=>exact hx pins σ H s e s' I hq
  | ok fl =>
    cases fl with
    | ret u=>exact I.after hq
    | next=>exact False.elim hq
    | brk=>exact False.elim hq
    | cont=>exact False.elim hq
theorem Zi5 (F:FnOk X.prog X.w X.K X.mg X.base CX k f fd ps sp) (hr:Room k X.A) (hg:Gl X x) (hm:X.mg x=some (.ref f)) (hk:PySem.W.keepIn X.K (.ref f)=true) (hb:Binds X.K fd ps ds) (hd:Vals dvs ds) (hx:Zea CX X E)
    (ha:PA X (e :: es) t) (hdb:(x == ("__debug__" : Str))=false:=by decide) (he:starEach (e :: es) X.env=(false,eval e X.env) :: starEach es X.env:=by rfl) (hpl:(backTo pos (starEach es X.env)).any (·.1)=false:=by rfl) :
    PE X (.Call (.Name x p) (e :: es) [] pos) (tCall sp dvs E t):=by
  intro pins s σ H Q I h
  refine wpAny_Call_Name_kw (ZgX I hg hm ?_ hdb)
  refine PySem.W.callWith_K (h₀:=X.base) I.ok.mod.kin hk (thn (ha pos pins s σ H _ I h) fun us s1 ⟨vs,H1,I1,r,q⟩=>⟨I1.kIn,?_⟩) he hpl
  exact ZeY F hr hb hd hx I1 r q
theorem ZlJ {pl:Sem Bool} (he:PE X o ta) (c:Cls X.K C) (hm:Meth X.K C m f) (F:FnOk X.prog X.w X.K X.mg X.base CX k f fd ps sp) (hr:Room k X.A) (hb:Binds X.K fd ps ds) (hd:Vals dvs ds) (hx:Zea CX X E) (ha:PA X (e :: es) t)
    (hst:starEach (e :: es) X.env=(false,eval e X.env) :: starEach es X.env:=by rfl) (hpl:(backTo pos (starEach es X.env)).any (·.1)=false:=by rfl)
    (ht:eval (.Call (.Attribute o m apos) (e :: es) [] pos) X.env=(do
      let ov <- eval o X.env
      standAt apos.atName
      let (f,first) <- holding [ov] (getMethod ov m pl)
      callWith pos f first (backTo pos (starEach (e :: es) X.env)) (backToKw pos (keywordEach [] X.env))):=by rfl) :
    PE X (.Call (.Attribute o m apos) (e :: es) [] pos) (tMeth C m sp dvs E ta t):=by
  intro pins s σ H Q I h
  refine PySem.W.methodCall_KW (pl:=pl) (thn (he pins s σ H _ I h) fun u s1 ⟨x,H1,I1,rx,a,dx,fs,ex,ea,l,q⟩=>?_) ht
  subst ex
  obtain rfl:u=Value.ref a:=rx
  refine Zb8 I1 ea c hm l ?_
  refine PySem.W.callWith_K (first:=[.ref a]) (h₀:=X.base) I.ok.mod.kin hm.kp (thn (ha pos pins s1 σ H1 _ I1 q) fun us s2 ⟨vs,H2,I2,r,q2⟩=>⟨I2.kIn,?_⟩) hst hpl
  exact ZeY (us:=.ref a :: us) (vs:=.ref a :: vs) F hr hb hd hx I2 (.cons rfl r) q2
theorem Zkk {pl:Sem Bool} (he:PE X o ta) (c:Cls X.K C) (hm:Meth X.K C m f) (F:FnOk X.prog X.w X.K X.mg X.base CX k f fd ps sp) (hr:Room k X.A) (hb:Binds X.K fd ps ds) (hd:Vals dvs ds) (hx:Zea CX X E)
    (ht:eval (.Call (.Attribute o m apos) [] [] pos) X.env=(do
      let ov <- eval o X.env
      standAt apos.atName
      let (f,first) <- holding [ov] (getMethod ov m pl)
      callWith pos f first (backTo pos (starEach [] X.env)) (backToKw pos (keywordEach [] X.env))):=by rfl) :
    PE X (.Call (.Attribute o m apos) [] [] pos) (tMeth C m sp dvs E ta tNil):=by
  intro pins s σ H Q I h
  refine PySem.W.methodCall_KW (pl:=pl) (thn (he pins s σ H _ I h) fun u s1 ⟨x,H1,I1,rx,a,dx,fs,ex,ea,l,q⟩=>?_) ht
  subst ex
  obtain rfl:u=Value.ref a:=rx
  refine Zb8 I1 ea c hm l ?_
  exact PySem.W.callWith_K0 (first:=[.ref a]) I1.kIn hm.kp (ZeY (us:=[.ref a]) (vs:=[.ref a]) F hr hb hd hx I1 (.cons rfl .nil) q)
structure Mk (K:PySem.W.Frag) (C f:Addr):Prop where
  makes:PySem.W.makesIn K C=true
  init:PySem.W.findIn K (.ref C) "__init__" = some (some (.ref f))
  fn:PySem.W.isFn K (.ref f)=true
  kp:PySem.W.keepIn K (.ref C)=true
theorem Zkl {pins:List (Addr × Obj)} {σ:St} {H:Hp} {s:Shared} {Q:VK} {us:List Value} {vs:List V} (M:Mk X.K C f) (F:FnOk X.prog X.w X.K X.mg X.base CX k f fd ps sp) (hr:Room (k + 1) X.A) (hb:Binds X.K fd ps ds) (hd:Vals dvs ds)
    (hx:Zea CX X E) (I:Inv X pins σ H s) (r:Vals vs us)
    (h:∀ x dx,H x=none->H dx=none->dx ≠ x->sp (.ref x :: (vs ++ dvs)) (upd (upd H dx (.own x)) x (.ins C dx [])) (fun v H2=>v=.non/\Q (.ref x) H2) E) :
    wpAny (model X.prog X.w) X.A (call (.ref C) us) (EP X pins σ Q) X.xe s:=by
  have hq:=h (s.heap.objs.size + 1) s.heap.objs.size (I.hok.fresh (Nat.le_succ _)) (I.hok.fresh (Nat.le_refl _)) (Nat.ne_of_lt (Nat.lt_succ_self _))
  have I2:=Inv.made (C:=C) I
  have r2:Vals (V.ref (s.heap.objs.size + 1) :: (vs ++ dvs)) (Value.ref (s.heap.objs.size + 1) :: (us ++ ds)):=.cons rfl (r.append hd)
  have hl:(Value.ref (s.heap.objs.size + 1) :: us ++ ds).length=ps.length:=by
    have e:=r2.length
    rw [F.len _ _ _ _ hq] at e
    exact e.symm
  refine wpAny_call (Zkj (f:=f) I.kIn M.makes M.init (beq_iff_eq.mp M.fn) (codeAny_mono (F.run _ X.stack _ _ ⟨Value.ref (s.heap.objs.size + 1) :: us,[]⟩ (Value.ref (s.heap.objs.size + 1) :: (us ++ ds)) _ _ E (hr.make C us [])
    (I2.env0.make C us []) (hb _ (Value.ref (s.heap.objs.size + 1) :: us) I2.kIn hl) r2 hq) fun r s' hq'=>?_))
  cases r with
  | error e=>exact hx pins σ _ _ e s' I2 hq'
  | ok fl =>
    cases fl with
    | ret u =>
      obtain ⟨v,H',I3,rv,ev,q3⟩:=I2.after hq'
      subst ev
      exact ⟨rv,⟨V.ref (s.heap.objs.size + 1),H',I3,rfl,q3⟩⟩
    | next=>exact False.elim hq'
    | brk=>exact False.elim hq'
    | cont=>exact False.elim hq'
theorem Zi6 (M:Mk X.K C f) (F:FnOk X.prog X.w X.K X.mg X.base CX k f fd ps sp) (hr:Room (k + 1) X.A) (hg:Gl X x) (hm:X.mg x=some (.ref C)) (hb:Binds X.K fd ps ds) (hd:Vals dvs ds) (hx:Zea CX X E)
    (ha:PA X (e :: es) t) (hdb:(x == ("__debug__" : Str))=false:=by decide) (he:starEach (e :: es) X.env=(false,eval e X.env) :: starEach es X.env:=by rfl) (hpl:(backTo pos (starEach es X.env)).any (·.1)=false:=by rfl) :
    PE X (.Call (.Name x p) (e :: es) [] pos) (tMake C sp dvs E t):=by
  intro pins s σ H Q I h
  refine wpAny_Call_Name_kw (ZgX I hg hm ?_ hdb)
  refine PySem.W.callWith_K (h₀:=X.base) I.ok.mod.kin M.kp (thn (ha pos pins s σ H _ I h) fun us s1 ⟨vs,H1,I1,r,q⟩=>⟨I1.kIn,?_⟩) he hpl
  exact Zkl M F hr hb hd hx I1 r q
end
section
variable {X:Cx} {CX:CXT} {k:Nat} {f C:Addr} {fd:FuncData} {ps ks:List Str} {sp:Sp} {E:XK} {x m:Str} {p pos apos kpos:Pos} {e o:Expr} {es:List Expr} {kws:List Keyword} {te ta:TE} {t tk:TA} {nm:Option Str}
structure KBinds (K:PySem.W.Frag) (fd:FuncData) (ps ks:List Str) (g:List Value->List Value->List Value) (gV:List V->List V->List V):Prop where
  to:∀ (s:Shared) (us ws:List Value),K.In s.heap->(g us ws).length=ps.length->BindsTo s fd ⟨us,ks.zip ws⟩ (ps.zip (g us ws))
  rel:∀ {vs:List V} {us:List Value} {zs:List V} {ws:List Value},Vals vs us->Vals zs ws->Vals (gV vs zs) (g us ws)
variable {g:List Value->List Value->List Value} {gV:List V->List V->List V}
end
structure FnScope (N P:List Str) (sc:Scope):Prop where
  kind:sc.kind=.function
  co:sc.isCoroutine=false
  gen:sc.isGenerator=false
  nd:N.Nodup
  pre:N.take P.length=P
  par:∀ x ∈ P,sc.names.lookup x=some .local\/sc.names.lookup x=some .cell
  nofree:∀ y ∈ sc.names,y.2 ≠ .free
theorem ZfU {kindOf:Str->Option NameKind} {x:Str}:∀ {binds:List (Str × Value)} {m:Str->Option Value},(∀ v,(x,v) ∉ binds)->bindL kindOf binds m x=m x
  | [],_,_=>rfl
  | (n,v) :: r,m,h=>by
    unfold bindL
    rw [ZfU fun w hw=>h w (List.mem_cons_of_mem _ hw)]
    split
    . have:x ≠ n:=by rintro rfl; exact h v List.mem_cons_self
      simp [this]
    . rfl
theorem ZfV {kindOf:Str->Option NameKind} {x:Str}:∀ {binds:List (Str × Value)} {m:Str->Option Value},(∀ v,(x,v) ∉ binds)->bindC kindOf binds m x=m x
  | [],_,_=>rfl
  | (n,v) :: r,m,h=>by
    unfold bindC
    rw [ZfV fun w hw=>h w (List.mem_cons_of_mem _ hw)]
    split
    . rfl
    . have:x ≠ n:=by rintro rfl; exact h v List.mem_cons_self
      simp [this]
theorem ZfW {kindOf:Str->Option NameKind} {x:Str} {v:Value}:∀ {P:List Str} {vs:List Value} {i:Nat} {m:Str->Option Value},P.Nodup->P[i]?=some x->vs[i]?=some v->kindOf x=some .local ->
    bindL kindOf (P.zip vs) m x=some v
  | [],_,_,_,_,h,_,_=>by simp at h
  | _ :: _,[],_,_,_,_,h,_=>by simp at h
  | p :: P,w :: vs,0,m,nd,h1,h2,hk=>by
    simp at h1 h2; subst h1; subst h2
    show bindL kindOf ((p,w) :: P.zip vs) m p=_
    unfold bindL
    rw [ZfU fun v hv=>(List.nodup_cons.mp nd).1 (List.of_mem_zip hv).1,if_pos hk]
    simp
  | p :: P,w :: vs,i + 1,m,nd,h1,h2,hk=>by
    show bindL kindOf ((p,w) :: P.zip vs) m x=_
    unfold bindL
    exact ZfW (i:=i) (List.nodup_cons.mp nd).2 (by simpa using h1) (by simpa using h2) hk
theorem ZfX {kindOf:Str->Option NameKind} {x:Str} {v:Value}:∀ {P:List Str} {vs:List Value} {i:Nat} {m:Str->Option Value},P.Nodup->P[i]?=some x->vs[i]?=some v->kindOf x ≠ some .local ->
    bindC kindOf (P.zip vs) m x=some v
  | [],_,_,_,_,h,_,_=>by simp at h
  | _ :: _,[],_,_,_,_,h,_=>by simp at h
  | p :: P,w :: vs,0,m,nd,h1,h2,hk=>by
    simp at h1 h2; subst h1; subst h2
    show bindC kindOf ((p,w) :: P.zip vs) m p=_
    unfold bindC
    rw [ZfV fun v hv=>(List.nodup_cons.mp nd).1 (List.of_mem_zip hv).1,if_neg hk]
    simp
  | p :: P,w :: vs,i + 1,m,nd,h1,h2,hk=>by
    show bindC kindOf ((p,w) :: P.zip vs) m x=_
    unfold bindC
    exact ZfX (i:=i) (List.nodup_cons.mp nd).2 (by simpa using h1) (by simpa using h2) hk
noncomputable def start (N:List Str) (vs:List V):St:=vs.map some ++ List.replicate (N.length - vs.length) none
noncomputable def cxOf (CX:CXT) (P:Program) (w:World) (K:PySem.W.Frag) (mg:Str->Option Value) (base:Heap) (N:List Str) (qual:Str) (scope:Scope) (f:Addr) (cd:Value) (A:Around) (outer:List Env) (s:Shared) (H:Hp) (E:XK):Cx where
  prog:=P
  w:=w
  K:=K
  mg:=mg
  base:=base
  A:=A.deeper (envOfC qual scope s.heap.objs.size f cd)
  N:=N
  s₀:=s
  H₀:=H
  env:=envOfC qual scope s.heap.objs.size f cd
  outer:=outer
  stack:=envOfC qual scope s.heap.objs.size f cd :: outer
  ex:=[]
  calm:=true
  fn:=fun _=>true
  pn:=[]
  xe:=fun e s'=>wpAny (model P w) (A.deeper (envOfC qual scope s.heap.objs.size f cd)) (leaving (envOfC qual scope s.heap.objs.size f cd) e) (fun _ s''=>CX outer H s E e s'') (fun e' s''=>CX outer H s E e' s'') s'
theorem Zh1 {sc:Scope} {n:Nat} {x:Str} (h:sc.names.lookup x=some .cell):∃ c,(cellsFrom n sc.names []).lookup x=some c:=by
  have q:=PySem.W.cellsFrom_some sc.names n [] (.inl h)
  exact Option.isSome_iff_exists.mp q
theorem Zi7 {CX:CXT} {P:Program} {w:World} {K:PySem.W.Frag} {mg:Str->Option Value} {base:Heap} {N ps:List Str} {qual:Str} {scope:Scope} {f:Addr} {cd:Value} {A:Around} {outer:List Env} {s s1:Shared} {H:Hp} {E:XK} {us:List Value} {vs:List V}
    (S:FnScope N ps scope) (hd:A.handled=none) (e0:Env0 P w K mg base A outer s H) (hl:vs.length=ps.length) (r:Vals vs us)
    (x:InCallC s s.heap.objs.size (bindL (envOfC qual scope s.heap.objs.size f cd).kindOf (ps.zip us) fun _=>none) (cellsFrom (s.heap.objs.size + 1) scope.names []) (bindC (envOfC qual scope s.heap.objs.size f cd).kindOf (ps.zip us) fun _=>none) s1) :
    Inv (cxOf CX P w K mg base N qual scope f cd A outer s H E) [] (start N vs) H s1:=by
  have hpl:ps.length <= N.length:=by have:=congrArg List.length S.pre; rw [List.length_take] at this; omega
  obtain ⟨h1,tk,rfl,hk⟩:=x.done
  have noA:∀ b:Addr,b ∉ (cxOf CX P w K mg base N qual scope f cd A outer s H E).ex:=fun b z=>absurd (show b ∈ ([]:List Addr) from z) (by simp)
  refine ⟨⟨e0.mod,S.kind,rfl,rfl,Nat.le_refl _,fun y z c h1 h2=>?_,fun y hy=>?_,fun y c _ h=>?_,fun _=>hd,Around.frames_deeper e0.frames,.inr ⟨rfl,rfl⟩,fun b z=>absurd z (noA b),e0.bs,e0.bsz,fun b _ _=>noA b,fun b z=>absurd z (noA b),e0.funs,e0.frf⟩,
    rfl,e0.bare,Un.kept hk,⟨_,x.toInCall.ns,fun i y v h1 h2 h3=>?_⟩,fun y c h=>⟨_,x.cell y c h⟩,e0.hok.fresh (Nat.le_refl _),fun y c h=>?_,fun p hp=>absurd (show p ∈ ([]:List (Addr × Obj)) from hp) (by simp),e0.hok.kept hk,?_⟩
  . exact name_of_addr x.apart (PySem.mem_of_lookup h1) (PySem.mem_of_lookup h2)
  . have hy:scope.names.lookup y=some .cell\/scope.names.lookup y=some .free:=hy
    rcases hy with hy|hy
    . exact Zh1 hy
    . exact absurd rfl (S.nofree _ (PySem.mem_of_lookup hy))
  . exact Nat.le_of_lt (x.above y c (PySem.mem_of_lookup h))
  . have hi:i < vs.length:=by
      unfold start at h2
      by_cases hi:i < vs.length
      . exact hi
      . rw [List.getElem?_append_right (by simpa using hi)] at h2
        rw [List.getElem?_replicate] at h2
        split at h2 <;> cases h2
    have ha:vs[i]?=some v:=by
      unfold start at h2
      rw [List.getElem?_append_left (by simpa using hi),List.getElem?_map] at h2
      cases e:vs[i]? with
      | none=>rw [e] at h2; cases h2
      | some a=>rw [e] at h2; cases h2; rfl
    obtain ⟨u,hu,rv⟩:=r.get ha
    have hp:ps[i]?=some y:=by
      rw [<- S.pre,List.getElem?_take_of_lt (by omega)]; exact h1
    have ndP:ps.Nodup:=by rw [<- S.pre]; exact S.nd.sublist (List.take_sublist _ _)
    refine ⟨u,rv,?_⟩
    rcases S.par y (List.mem_of_getElem? hp) with k|k
    . exact .inl ⟨k,ZfW ndP hp hu k⟩
    . obtain ⟨c,e⟩:=Zh1 (n:=s.heap.objs.size + 1) k
      refine .inr ⟨.inl k,c,e,?_⟩
      have q:=x.cell y c e
      rw [ZfX ndP hp hu (by show scope.names.lookup y ≠ _; rw [k]; decide)] at q
      exact q
  . exact e0.hok.fresh (Nat.le_of_lt (x.above y c (PySem.mem_of_lookup h)))
  . unfold start
    show _=N.length
    rw [List.length_append,List.length_map,List.length_replicate]
    omega
theorem fn_of {CX:CXT} {P:Program} {w:World} {K:PySem.W.Frag} {mg:Str->Option Value} {base:Heap} {k:Nat} {f:Addr} {name qual:Str} {params:Arguments} {body:List Stmt} {scope:Scope} {dV kV doc pm cdv ct oc:Value} {an od:Option Addr}
    {osl:Array (Option Value)} {N ps:List Str} {sp:Sp} (lk:K.lookup f=some ⟨oc,od,.func (PySem.W.fnOf name qual params body scope dV kV doc pm an cdv ct),osl⟩) (hcd:PySem.W.codeIn K cdv qual=true) (S:FnScope N ps scope)
    (len:∀ vs H Q E,sp vs H Q E->vs.length=ps.length)
    (hbody:∀ (A:Around) (outer:List Env) (s:Shared) (H:Hp) (vs:List V) (Q:VK) (E:XK),Room k (A.deeper (envOfC qual scope s.heap.objs.size f cdv))->sp vs H Q E ->
      ∃ t,PSs (cxOf CX P w K mg base N qual scope f cdv A outer s H E) body t/\t { nx:=fun _ H'=>Q .non H',rt:=Q } (start N vs) H) :
    FnOk P w K mg base CX (k + 1) f (PySem.W.fnOf name qual params body scope dV kV doc pm an cdv ct) ps sp:=by
  refine ⟨len,fun A outer s H args us vs Q E hr e0 hb r hsp=>?_⟩
  have hl:=len _ _ _ _ hsp
  have KX:K.In s.heap:=e0.mod.kin.keeps fun b o e=>(e0.bs b o e).1
  have lim:s.heap.NoLimit:=e0.mod.nolimit.keeps fun b o e=>(e0.bs b o e).1
  have hkind:∀ y ∈ ps.zip us,scope.names.lookup y.1=some .local\/(scope.names.lookup y.1=some .cell/\((cellsFrom (s.heap.objs.size + 1) scope.names []).lookup y.1).isSome=true):=fun ⟨n,v⟩ hy=>by
    rcases S.par n (List.of_mem_zip hy).1 with q|q
    . exact .inl q
    . exact .inr ⟨q,PySem.W.cellsFrom_some _ _ _ (.inl q)⟩
  refine codeAny_call_function hr.depth (KX _ _ lk) rfl S.co S.gen rfl (PySem.W.codeRec_of KX hcd) (hb _ _ _ _ ?_)
  refine wpAny_newFunctionEnv_cells S.kind hkind fun env he s1 x=>?_
  subst he
  refine ⟨lim.keeps x.toInCall.keep,codeAny_func ?_⟩
  obtain ⟨t,ht,hq⟩:=hbody A outer s H vs Q E (hr.deeper _) hsp
  have I:Inv (cxOf CX P w K mg base N qual scope f cdv A outer s H E) [] (start N vs) H s1:=Zi7 S hr.hd e0 hl r x
  refine wpAny_mono (ht [] s1 (start N vs) H _ I hq) (fun fl s' hs=>?_) fun e s' hs=>hs
  have fin:∀ {σ':St} {H':Hp} {v:V} {u:Value},Inv (cxOf CX P w K mg base N qual scope f cdv A outer s H E) [] σ' H' s'->RelV v u->Q v H'->CE outer P w H s Q u s' :=
    fun {σ' H' v u} J rv q=>⟨v,H',J.os,J.bare,J.base,J.hok,rv,q⟩
  cases fl with
  | ret u =>
    obtain ⟨v,σ',H',J,rv,q⟩:=hs
    exact fin J rv q
  | next =>
    obtain ⟨σ',H',J,q⟩:=hs
    exact fin (v:=V.non) (u:=Value.none) J rfl q
  | brk =>
    obtain ⟨_,_,_,q⟩:=hs
    exact False.elim q
  | cont =>
    obtain ⟨_,_,_,q⟩:=hs
    exact False.elim q
end L2
namespace L2
open PySem PySem.Spec PyProof.Rows
section
variable {X:Cx} {x:Str} {p pos:Pos} {e:Expr} {es:List Expr} {t:TA} {id T:String} {r:List V->Hp->VK->Prop}
noncomputable def tCB (r:List V->Hp->VK->Prop) (t:TA):TE:=fun σ H Q=>t σ H fun vs H1=>r vs H1 Q
theorem ZaI (hc:CallR X (.builtin id) r) (hg:Gl X x) (hm:X.mg x=none) (hv:bootBuiltins x=some (.builtin id)) (ha:PA X (e :: es) t) (hn:x ≠ "__name__" := by decide) (hdb:(x == ("__debug__" : Str))=false:=by decide)
    (he:starEach (e :: es) X.env=(false,eval e X.env) :: starEach es X.env:=by rfl) (hpl:(backTo pos (starEach es X.env)).any (·.1)=false:=by rfl):PE X (.Call (.Name x p) (e :: es) [] pos) (tCB r t):=by
  intro pins s σ H Q I h
  refine wpAny_Call_Name_kw (ZeS I hg hm hv ?_ hn hdb)
  exact PyProof.Rows.callWith_builtin1 (thn (ha pos pins s σ H _ I h) fun us s1 ⟨vs,H1,I1,r1,q1⟩=>hc pins s1 σ H1 vs us Q I1 r1 q1) he hpl
theorem Zdb (hc:CallR X (.type T) r) (hg:Gl X x) (hm:X.mg x=none) (hv:bootBuiltins x=some (.type T)) (ha:PA X (e :: es) t) (hn:x ≠ "__name__" := by decide) (hdb:(x == ("__debug__" : Str))=false:=by decide)
    (he:starEach (e :: es) X.env=(false,eval e X.env) :: starEach es X.env:=by rfl) (hpl:(backTo pos (starEach es X.env)).any (·.1)=false:=by rfl):PE X (.Call (.Name x p) (e :: es) [] pos) (tCB r t):=by
  intro pins s σ H Q I h
  refine wpAny_Call_Name_kw (ZeS I hg hm hv ?_ hn hdb)
  exact PyProof.Rows.callWith_type1 (thn (ha pos pins s σ H _ I h) fun us s1 ⟨vs,H1,I1,r1,q1⟩=>hc pins s1 σ H1 vs us Q I1 r1 q1) he hpl
end
end L2
namespace HT
open PySem PyProof.Rows
section
open PySem.SeqAt
open PySem.AutoSeq1 (wpAny_loadPart')
open PySem.MeetsSeq PySem.MeetsSeq2 PySem.MeetsSeq3
end
section
variable {prog:Program} {w:World} {A:Around} {E:Value->Shared->Prop} {s:Shared}
theorem ZlK {t b:Addr} {vs ws:List Value} {Q:Value->Shared->Prop} (ht:IsTup s.heap t vs.toArray) (hb:IsTup s.heap b ws.toArray) (hv:vs ≠ [])
    (h1:ws=[]->Q (.ref t) s) (h2:ws ≠ []->Q (.ref s.heap.objs.size) { s with heap:=s.heap.push { cls:=.type "tuple", data:=.seq (vs ++ ws).toArray } })
    (hsz:vs.length + ws.length <= sizeLine):wpAny (model prog w) A (binaryOp .Add (.ref t) (.ref b)) Q E s:=by
  obtain ⟨⟨cls,dd,data,sl⟩,ho,hc,n,hd⟩:=id ht
  obtain ⟨⟨cls2,dd2,data2,sl2⟩,ho2,hc2,n2,hd2⟩:=id hb
  simp only at hc hd hc2 hd2
  subst hc hd hc2 hd2
  have e:vs.toArray ++ ws.toArray=(vs ++ ws).toArray:=by simp
  by_cases hw:ws=[]
  . exact concat_meets ⟨_,ho,rfl⟩ ⟨_,ho2,rfl⟩ noFill_tuple_add seq_tuple_add PySem.F.slot_tuple_add PySem.F.entry_tuple_add (PySem.F.args_tuple_add_2 _ _)
      (tuple_addW1 t b vs.toArray ws.toArray n n2 dd dd2 sl sl2 (by simpa using hv) (by simp [hw])) ⟨ho,ho2,h1 hw⟩
  . refine concat_meets ⟨_,ho,rfl⟩ ⟨_,ho2,rfl⟩ noFill_tuple_add seq_tuple_add PySem.F.slot_tuple_add PySem.F.entry_tuple_add (PySem.F.args_tuple_add_2 _ _)
      (tuple_addW2 t b vs.toArray ws.toArray n n2 dd dd2 sl sl2 (by simpa using hv) (by simpa using hw) (by rw [List.size_toArray,List.size_toArray]; exact hsz)) ⟨ho,ho2,?_⟩
    rw [e]
    exact h2 hw
noncomputable def sIx (n d:Nat):Option Int->Nat
  | none=>d
  | some v=>if v < 0 then (v + (n:Int)).toNat else min v.toNat n
end
end HT
namespace L2
open PySem PySem.Spec PyProof.Rows
noncomputable abbrev TO:=St->Hp->(Option Int->Hp->Prop)->Prop
noncomputable def PO (X:Cx) (e:Option Expr) (t:TO):Prop :=
  ∀ (pins:List (Addr × Obj)) (s:Shared) (σ:St) (H:Hp) (Q:Option Int->Hp->Prop),Inv X pins σ H s->t σ H Q ->
    wpAny (model X.prog X.w) X.A (evalPart e X.env) (fun u s'=>∃ o H',Inv X pins σ H' s'/\IsPart u o/\Q o H') X.xe s
noncomputable def Zi8:TO:=fun _ H Q=>Q none H
noncomputable def tPart (t:TE):TO:=fun σ H Q=>t σ H fun x H1=>∃ i,x=.int i/\Q (some i) H1
section
variable {X:Cx} {e:Expr} {te:TE} {lo hi:Option Expr} {tl th:TO} {pos p2:Pos}
theorem ZlL:PO X none Zi8:=by
  intro pins s σ H Q I h
  rw [evalPart_none]
  exact wpAny_pure ⟨none,H,I,.none,h⟩
theorem ZlM (h:PE X e te):PO X (some e) (tPart te):=by
  intro pins s σ H Q I hw
  rw [evalPart_some]
  refine thn (h pins s σ H _ I hw) fun u s1 ⟨x,H1,I1,r1,q1⟩=>?_
  obtain ⟨i,rfl,q⟩:=q1
  obtain ⟨t,rfl⟩:=r1
  exact ⟨some i,H1,I1,.int i t,q⟩
noncomputable def SlR (X:Cx) (r:V->Option Int->Option Int->Hp->VK->Prop):Prop :=
  ∀ (pins:List (Addr × Obj)) (s:Shared) (σ:St) (H:Hp) (x:V) (v vl vu:Value) (lo hi:Option Int) (sl:Addr) (Q:VK),Inv X pins σ H s->RelV x v->s.heap.IsSliceOf sl vl vu .none->IsPart vl lo->IsPart vu hi->r x lo hi H Q ->
    ∃ T id,typeLookup (.type T) "__getitem__" = pure (some (.builtin id))/\s.TypeIs v T/\wpAny (model X.prog X.w) X.A (getItem v (.ref sl)) (EP X pins σ Q) X.xe s
theorem SlR.or {r r':V->Option Int->Option Int->Hp->VK->Prop} (h:SlR X r) (h':SlR X r'):SlR X (fun x lo hi H Q=>r x lo hi H Q\/r' x lo hi H Q):=by
  intro pins s σ H x v vl vu lo hi sl Q I rx hs pl pu q
  rcases q with q|q
  . exact h pins s σ H x v vl vu lo hi sl Q I rx hs pl pu q
  . exact h' pins s σ H x v vl vu lo hi sl Q I rx hs pl pu q
noncomputable def tSl (r:V->Option Int->Option Int->Hp->VK->Prop) (te:TE) (tl th:TO):TE:=fun σ H Q=>te σ H fun x H1=>tl σ H1 fun l H2=>th σ H2 fun u H3=>r x l u H3 Q
theorem Zkm {r:V->Option Int->Option Int->Hp->VK->Prop} (hr:SlR X r) (he:PE X e te) (hl:PO X lo tl) (hu:PO X hi th):PE X (.Subscript e (.Slice lo hi none p2) pos) (tSl r te tl th):=by
  intro pins s σ H Q I h
  refine Subscript_ (thn (he pins s σ H _ I h) fun v s1 ⟨x,H1,I1,r1,q1⟩=>?_)
  refine wpAny_Slice (thn (hl pins s1 σ H1 _ I1 q1) fun vl s2 ⟨l,H2,I2,pl,q2⟩=>thn (hu pins s2 σ H2 _ I2 q2) fun vu s3 ⟨u,H3,I3,pu,q3⟩=>?_)
  rw [evalPart_none]
  refine wpAny_pure ?_
  have I4:Inv X pins σ H3 { s3 with heap:=s3.heap.push { cls:=.type "slice", data:=.fields #[vl,vu,.none] } }:=I3.kept (t':=s3.toks) fun b ob q=>Heap.get?_push_of_some _ q
  obtain ⟨T,id,hT,ht,hg⟩:=hr pins { s3 with heap:=s3.heap.push { cls:=.type "slice", data:=.fields #[vl,vu,.none] } } σ H3 x v vl vu l u s3.heap.objs.size Q I4 r1 (Heap.IsSliceOf.new ..) pl pu q3
  show wpAny (model X.prog X.w) X.A (subscriptTail e (.Slice lo hi none p2) v (.ref s3.heap.objs.size)) (EP X pins σ Q) X.xe { s3 with heap:=s3.heap.push { cls:=.type "slice", data:=.fields #[vl,vu,.none] } }
  exact tail_any (ops:=[.ref s3.heap.objs.size,v]) ht hT hg (by with_unfolding_all rfl)
noncomputable def cutV (xs:List V) (lo hi:Option Int):List V:=(xs.drop (HT.sIx xs.length 0 lo)).take (HT.sIx xs.length xs.length hi - HT.sIx xs.length 0 lo)
theorem Zg0 (xs:List V) (lo hi:Option Int):(cutV xs lo hi).length <= xs.length:=by
  unfold cutV
  rw [List.length_take,List.length_drop]
  omega
noncomputable def rCatT (K:PySem.W.Frag):R2:=fun x y H Q=>∃ a b xs ys,x=.ref a/\y=.ref b/\SqT K H a xs/\SqT K H b ys/\xs ≠ []/\xs.length + ys.length <= sizeLine /\
  (ys=[]->Q (.ref a) H)/\(ys ≠ []->∀ p,H p=none->Q (.ref p) (upd H p (.tup (xs ++ ys))))
theorem Vals.nil_iff {xs:List V} {us:List Value} (r:Vals xs us):us=[] ↔ xs=[]:=by
  cases r with
  | nil=>simp
  | cons _ _=>simp
theorem Zg1:OpR X (binaryOp .Add) (rCatT X.K):=by
  intro pins s σ H x y v u Q I rx ry h
  obtain ⟨a,b,xs,ys,rfl,rfl,ha,hb,hx,hz,q1,q2⟩:=h
  cases rx
  cases ry
  obtain ⟨its,r1,p1,_⟩:=I.tuple ha
  obtain ⟨its2,r2,p2,_⟩:=I.tuple hb
  refine HT.ZlK p1 p2 (fun z=>hx (r1.nil_iff.mp z)) (fun z=>⟨.ref a,H,I,rfl,q1 (r2.nil_iff.mp z)⟩) (fun z=>?_) (by rw [<- r1.length,<- r2.length]; exact hz)
  refine ⟨.ref s.heap.objs.size,_,I.laid (t':=s.toks) (o:=.tup (xs ++ ys)) (fun b ob q=>Heap.get?_push_of_some _ q) (Nat.le_refl _) ?_,rfl,q2 (fun w=>z (r2.nil_iff.mpr w)) _ (I.hok.fresh (Nat.le_refl _))⟩
  exact ⟨by rw [List.length_append]; exact hz,_,r1.append r2,IsTup.new _ _⟩
end
end L2
namespace L2
open PySem PySem.Spec PyProof.Rows
noncomputable def ixN (n:Nat) (i:Int):Option Nat:=if 0 <= i then (if i < n then some i.toNat else none) else if -(n:Int) <= i then some (i + n).toNat else none
noncomputable def atI {α:Type} (xs:List α) (i:Int):Option α:=(ixN xs.length i).bind fun j=>xs[j]?
theorem Zi9 {n:Nat} {i:Int} {j:Nat} (h:ixN n i=some j):seqIndex? i n=some j/\j < n/\-(n:Int) <= i/\i < n:=by
  unfold ixN at h
  by_cases h0:0 <= i
  . rw [if_pos h0] at h
    by_cases h1:i < n
    . rw [if_pos h1] at h
      have e:i.toNat=j:=Option.some.inj h
      exact ⟨by rw [seqIndex_of h0 h1,e],by omega,by omega,h1⟩
    . rw [if_neg h1] at h; cases h
  . rw [if_neg h0] at h
    by_cases h1:-(n:Int) <= i
    . rw [if_pos h1] at h
      have e:(i + n).toNat=j:=Option.some.inj h
      exact ⟨by rw [seqIndex_neg (by omega) h1,e],by omega,h1,by omega⟩
    . rw [if_neg h1] at h; cases h
theorem Zg2 {α:Type} {xs:List α} {i:Int} {v:α} (h:atI xs i=some v):∃ j,seqIndex? i xs.length=some j/\xs[j]?=some v/\j < xs.length/\-(xs.length:Int) <= i/\i < xs.length:=by
  unfold atI at h
  cases e:ixN xs.length i with
  | none=>rw [e] at h; cases h
  | some j =>
    rw [e] at h
    obtain ⟨h1,h2,h3,h4⟩:=Zi9 e
    exact ⟨j,h1,h,h2,h3,h4⟩
theorem Zja {α:Type} {xs:List α} {j:Nat} {v:α} (h:xs[j]?=some v):atI xs (j:Int)=some v:=by
  have hj:j < xs.length:=(List.getElem?_eq_some_iff.mp h).1
  have e:ixN xs.length (j:Int)=some j:=by
    unfold ixN
    rw [if_pos (by omega),if_pos (by omega)]; simp
  unfold atI; rw [e]; exact h
theorem Zkn {α:Type} (xs:List α) (v:α):atI (xs ++ [v]) (-1)=some v:=by
  have hl:(xs ++ [v]).length=xs.length + 1:=by simp
  have e:ixN (xs ++ [v]).length (-1)=some xs.length:=by
    unfold ixN
    rw [hl,if_neg (by decide),if_pos (by omega)]
    congr 1
    omega
  unfold atI
  rw [e]
  show (xs ++ [v])[xs.length]?=some v
  simp
noncomputable def ZlN (b:Expr):Prop:=∀ o i,subscripted b false o i=operate [o,i] (getItem o i)
noncomputable def IxR (X:Cx) (r:R2):Prop :=
  ∀ (value slice:Expr) (pins:List (Addr × Obj)) (s:Shared) (σ:St) (H:Hp) (x y:V) (v u:Value) (Q:VK),Inv X pins σ H s->RelV x v->RelV y u->r x y H Q ->
    subscripted slice false v u=operate [v,u] (getItem v u)->wpAny (model X.prog X.w) X.A (subscriptTail value slice v u) (EP X pins σ Q) X.xe s
noncomputable def MtR (X:Cx) (id:String) (r:V->List V->Hp->VK->Prop):Prop :=
  ∀ (pins:List (Addr × Obj)) (s:Shared) (σ:St) (H:Hp) (x:V) (xs:List V) (v:Value) (us:List Value) (Q:VK),Inv X pins σ H s->RelV x v->Vals xs us->r x xs H Q ->
    wpAny (model X.prog X.w) X.A (call (.builtin id) (v :: us)) (EP X pins σ Q) X.xe s
section
variable {X:Cx} {a b:Expr} {ta tb:TE} {pos:Pos}
theorem IxR.or {r r':R2} (h:IxR X r) (h':IxR X r'):IxR X (fun x y H Q=>r x y H Q\/r' x y H Q):=by
  intro value slice pins s σ H x y v u Q I rx ry q hs
  rcases q with q|q
  . exact h value slice pins s σ H x y v u Q I rx ry q hs
  . exact h' value slice pins s σ H x y v u Q I rx ry q hs
theorem MtR.or {id:String} {r r':V->List V->Hp->VK->Prop} (h:MtR X id r) (h':MtR X id r'):MtR X id (fun x xs H Q=>r x xs H Q\/r' x xs H Q):=by
  intro pins s σ H x xs v us Q I rx rs q
  rcases q with q|q
  . exact h pins s σ H x xs v us Q I rx rs q
  . exact h' pins s σ H x xs v us Q I rx rs q
theorem ZaK {r:R2} (hr:IxR X r) (ha:PE X a ta) (hb:PE X b tb) (hs:ZlN b):PE X (.Subscript a b pos) (tOp r ta tb):=by
  intro pins s σ H Q I h
  exact Subscript_ (binT ha hb I h fun v u s2 x y H2 I2 rx ry q=>hr a b pins s2 σ H2 x y v u Q I2 rx ry q (hs _ _))
noncomputable def rIxL (K:PySem.W.Frag):R2:=fun x y H Q=>∃ p xs i v,x=.ref p/\y=.int i/\SqL K H p xs/\atI xs i=some v/\Q v H
noncomputable def rIxT (K:PySem.W.Frag):R2:=fun x y H Q=>∃ p xs i v,x=.ref p/\y=.int i/\SqT K H p xs/\atI xs i=some v/\Q v H
noncomputable def rIxS:R2:=fun x y H Q=>∃ z i c,x=.str z/\y=.int i/\z.length <= sizeLine/\atI z.cps.toList i=some c/\Q (.str ⟨#[c]⟩) H
theorem Zaz:IxR X (rIxL X.K):=by
  intro value slice pins s σ H x y v u Q I rx ry h hs
  obtain ⟨p,xs,i,z,rfl,rfl,hq,he,q⟩:=h
  cases rx
  obtain ⟨t,rfl⟩:=ry
  obtain ⟨its,r,pl,hz⟩:=I.list hq
  obtain ⟨j,h1,h2,h3,h4,h5⟩:=Zg2 he
  obtain ⟨w,ew,rw'⟩:=r.get h2
  have hl:=r.length
  have hn:=line63
  have fin:EP X pins σ Q w s:=⟨z,H,I,rw',q⟩
  by_cases h0:0 <= i
  . have hj:i.toNat=j:=by
      rw [seqIndex_of h0 h5] at h1
      exact Option.some.inj h1
    exact item_listR pl.isList h0 (by omega) (by rw [hj]; simpa using ew) fin hs
  . have hj:(i + (its.toArray.size:Int)).toNat=j:=by
      rw [seqIndex_neg (by omega) h4] at h1
      rw [List.size_toArray,<- hl]
      exact Option.some.inj h1
    exact subscriptTail_builtinR (x:=w) pl.isList.typeIs slot_list_getitem.lookup
      (wpAny_getItem_list_neg (Q:=fun r s'=>r=w/\EP X pins σ Q r s') pl.isList (by omega) (by rw [List.size_toArray] <;> omega) (by omega) (by rw [hj]; simpa using ew) ⟨rfl,fin⟩) hs
theorem Zbe:IxR X (rIxT X.K):=by
  intro value slice pins s σ H x y v u Q I rx ry h hs
  obtain ⟨p,xs,i,z,rfl,rfl,hq,he,q⟩:=h
  cases rx
  obtain ⟨t,rfl⟩:=ry
  obtain ⟨its,r,pl,hz⟩:=I.tuple hq
  obtain ⟨j,h1,h2,h3,h4,h5⟩:=Zg2 he
  obtain ⟨w,ew,rw'⟩:=r.get h2
  have hl:=r.length
  have hn:=line63
  have fin:EP X pins σ Q w s:=⟨z,H,I,rw',q⟩
  exact subscriptTail_builtinR (x:=w) pl.typeIs slot_tuple_getitem.lookup
    (getItem_tuple (j:=j) (Q:=fun r s'=>r=w/\EP X pins σ Q r s') pl (by omega) (by omega) (by rw [List.size_toArray,<- hl]; exact h1) (by simpa using ew) ⟨rfl,fin⟩) hs
theorem ix_str:IxR X rIxS:=by
  intro value slice pins s σ H x y v u Q I rx ry h hs
  obtain ⟨z,i,c,rfl,rfl,hz,he,q⟩:=h
  obtain ⟨t,rfl⟩:=rx
  obtain ⟨t',rfl⟩:=ry
  obtain ⟨j,h1,h2,h3,h4,h5⟩:=Zg2 he
  have hl:z.cps.toList.length=z.length:=by simp [Str.length]
  rw [hl] at h1 h4 h5
  have hn:=line63
  exact tail_any (typeIs_str s z t) slot_str_getitem.lookup (getItem_str (c:=c) (by
    have e1:decide (i < -(2 ^ 63:Int))=false:=decide_eq_false (by omega)
    have e2:decide (i >= 2 ^ 63)=false:=decide_eq_false (by omega)
    rw [e1,e2,Bool.or_false]) (by rw [h1]; simpa using h2) ⟨.str ⟨#[c]⟩,H,I.tok _,⟨_,rfl⟩,q⟩) hs
noncomputable def rIx (K:PySem.W.Frag):R2:=fun x y H Q=>rIxL K x y H Q\/rIxT K x y H Q\/rIxS x y H Q
theorem Zlg:IxR X (rIx X.K):=Zaz.or (Zbe.or ix_str)
theorem Zir (its:List Value) (n j:Nat) (u:Value):Obj.mapSeq (·.setIfInBounds j u) { cls:=.type "list", data:=.seq its.toArray n }={ cls:=.type "list", data:=.seq (its.set j u).toArray n }:=by
  simp [Obj.mapSeq]
theorem Inv.lst {pins:List (Addr × Obj)} {σ:St} {H:Hp} {s:Shared} {p:Addr} {xs:List V} (I:Inv X pins σ H s) (h:H p=some (.lst xs)) :
    ∃ (its:List Value) (n:Nat),Vals xs its/\s.heap.get? p=some { cls:=.type "list", data:=.seq its.toArray n }/\xs.length <= sizeLine:=by
  obtain ⟨z,its,n,r,e⟩:=I.hok p _ h
  exact ⟨its,n,r,e,z⟩
theorem Inv.lstUpd {pins:List (Addr × Obj)} {σ:St} {H:Hp} {s:Shared} {p:Addr} {xs ys:List V} {its its':List Value} {n n':Nat} {f:Obj->Obj} (I:Inv X pins σ H s) (h:H p=some (.lst xs))
    (ho:s.heap.get? p=some { cls:=.type "list", data:=.seq its.toArray n }) (hf:f { cls:=.type "list", data:=.seq its.toArray n }={ cls:=.type "list", data:=.seq its'.toArray n' }) (r:Vals ys its') (hz:ys.length <= sizeLine) (t:Nat) :
    Inv X pins σ (upd H p (.lst ys)) { s with heap:=s.heap.update p f,toks:=t }:=by
  have e:(s.heap.update p f).get? p=some { cls:=.type "list", data:=.seq its'.toArray n' }:=by
    rw [Heap.get?_update_self f ho (by rw [hf] <;> rfl),hf]
  refine I.write (x:=p) (e:=p) (by rw [h]; trivial) (.inl rfl) (fun b u hb q=>(Heap.get?_update_other _ _ (Ne.symm hb)).trans q) ⟨_,e⟩ ?_
  exact ⟨hz,its',n',r,e⟩
noncomputable def rSetL:V->V->V->Hp->(Hp->Prop)->Prop:=fun o i v H Q=>∃ p xs k j,o=.ref p/\i=.int k/\H p=some (.lst xs)/\ixN xs.length k=some j/\Q (upd H p (.lst (xs.set j v)))
theorem Zdc:PSet X rSetL:=by
  intro pins s σ H o i v ov iv u Q I ro ri rv h
  obtain ⟨p,xs,k,j,rfl,rfl,hp,hj,q⟩:=h
  cases ro
  obtain ⟨t,rfl⟩:=ri
  obtain ⟨its,n,r,ho,hz⟩:=I.lst hp
  obtain ⟨h1,h2,h3,h4⟩:=Zi9 hj
  have hl:=r.length
  have hn:=line63
  have I':Inv X pins σ (upd H p (.lst (xs.set j v))) { s with heap:=s.heap.update p (Obj.mapSeq (·.setIfInBounds j u)) } :=
    I.lstUpd hp ho (Zir its n j u) (r.set rv j) (by rw [List.length_set]; exact hz) s.toks
  by_cases h0:0 <= k
  . have hk:k.toNat=j:=by
      rw [seqIndex_of h0 h4] at h1
      exact Option.some.inj h1
    exact PySem.W.ki_setAt ho h0 (by omega) (by rw [List.size_toArray,<- hl]; exact h4) (by rw [hk]; exact ⟨_,I',q⟩)
  . have hk:(k + (its.toArray.size:Int)).toNat=j:=by
      rw [seqIndex_neg (by omega) h3] at h1
      rw [List.size_toArray,<- hl]
      exact Option.some.inj h1
    exact PySem.W.ki_setBack ho (by omega) (by rw [List.size_toArray,<- hl]; exact h3) (by omega) (by rw [hk]; exact ⟨_,I',q⟩)
theorem ZfY (lo hi:Option Int) (n:Nat):(sliceBounds lo hi none n).1=((HT.sIx n 0 lo:Nat):Int)/\(sliceBounds lo hi none n).2.1=((HT.sIx n n hi:Nat):Int)/\(sliceBounds lo hi none n).2.2=1:=by
  refine ⟨?_,?_,rfl⟩
  . cases lo with
    | none=>simp [sliceBounds,HT.sIx]
    | some i =>
      simp only [sliceBounds,HT.sIx,Option.getD_none,show (1:Int) > 0 by decide,if_true]
      by_cases h:i < 0
      . simp only [h,if_true] <;> omega
      . simp only [h,if_false] <;> omega
  . cases hi with
    | none=>simp [sliceBounds,HT.sIx]
    | some i =>
      simp only [sliceBounds,HT.sIx,Option.getD_none,show (1:Int) > 0 by decide,if_true]
      by_cases h:i < 0
      . simp only [h,if_true] <;> omega
      . simp only [h,if_false] <;> omega
theorem Ze6 (its:List Value) (lo hi:Option Int):slicePick its.toArray lo hi none=((its.drop (HT.sIx its.length 0 lo)).take (HT.sIx its.length its.length hi - HT.sIx its.length 0 lo)).toArray:=by
  obtain ⟨h1,h2,h3⟩:=ZfY lo hi its.toArray.size
  unfold slicePick
  rw [h1,h2,h3]
  simp only [sliceRange_one,pick_run,List.size_toArray] <;> rfl
noncomputable def rSlL (K:PySem.W.Frag):V->Option Int->Option Int->Hp->VK->Prop:=fun x lo hi H Q=>∃ a xs,x=.ref a/\SqL K H a xs/\∀ p,H p=none->Q (.ref p) (upd H p (.lst (cutV xs lo hi)))
theorem ZlO:SlR X (rSlL X.K):=by
  intro pins s σ H x v vl vu lo hi sl Q I rx hs pl pu h
  obtain ⟨a,xs,rfl,hx,q⟩:=h
  cases rx
  obtain ⟨its,r,ht,hz⟩:=I.list hx
  have hlen:=r.length
  refine ⟨"list", _,slot_list_getitem.lookup,ht.isList.typeIs,?_⟩
  refine wpAny_getItem_list_slice ht.isList hs pl pu .none (by simp) ?_ (by rw [List.size_toArray] <;> omega)
  rw [Ze6,<- hlen]
  refine ⟨.ref s.heap.objs.size,_,I.laid (t':=s.toks) (o:=.lst (cutV xs lo hi)) (fun b ob q=>Heap.get?_push_of_some _ q) (Nat.le_refl _) ?_,rfl,q _ (I.hok.fresh (Nat.le_refl _))⟩
  exact ⟨Nat.le_trans (Zg0 xs lo hi) hz,_,0,(r.drop (HT.sIx xs.length 0 lo)).take (HT.sIx xs.length xs.length hi - HT.sIx xs.length 0 lo),Heap.get?_push_size _ rfl⟩
noncomputable def flatV:V->Bool
  | .non=>true
  | .bl _=>true
  | .int _=>true
  | .str _=>true
  | _=>false
noncomputable def eqV:V->V->Bool
  | .non,.non=>true
  | .bl a,.bl b=>a == b
  | .bl a,.int b=>(if a then 1 else 0) == b
  | .int a,.bl b=>a == (if b then 1 else 0)
  | .int a,.int b=>a == b
  | .str a,.str b=>a == b
  | _,_=>false
theorem eqAt_V {A:Around} {s:Shared} {y x:V} {u v:Value} (ry:RelV y u) (rx:RelV x v) (fy:flatV y=true) (fx:flatV x=true):SeqAt.EqAt A s u v (eqV y x):=by
  cases y with
  | non =>
    cases ry
    cases x with
    | non=>cases rx; exact SeqAt.EqAt.same _
    | bl b=>cases rx; exact SeqAt.EqAt.none_bool b
    | int b=>obtain ⟨t,rfl⟩:=rx; exact SeqAt.EqAt.none_int b t
    | str b=>obtain ⟨t,rfl⟩:=rx; exact SeqAt.EqAt.none_str b t
    | _=>exact absurd (show false=true from fx) Bool.false_ne_true
  | bl a =>
    cases ry
    cases x with
    | non=>cases rx; exact SeqAt.EqAt.bool_none a
    | bl b=>cases rx; exact SeqAt.EqAt.bool_bool a b
    | int b=>obtain ⟨t,rfl⟩:=rx; exact SeqAt.EqAt.bool_int a b t
    | str b=>obtain ⟨t,rfl⟩:=rx; exact SeqAt.EqAt.bool_str a b t
    | _=>exact absurd (show false=true from fx) Bool.false_ne_true
  | int a =>
    obtain ⟨t',rfl⟩:=ry
    cases x with
    | non=>cases rx; exact SeqAt.EqAt.int_none a t'
    | bl b=>cases rx; exact SeqAt.EqAt.int_bool a t' b
    | int b=>obtain ⟨t,rfl⟩:=rx; exact SeqAt.EqAt.int_int a t' b t
    | str b=>obtain ⟨t,rfl⟩:=rx; exact SeqAt.EqAt.int_str a t' b t
    | _=>exact absurd (show false=true from fx) Bool.false_ne_true
  | str a =>
    obtain ⟨t',rfl⟩:=ry
    cases x with
    | non=>cases rx; exact SeqAt.EqAt.str_none a t'
    | bl b=>cases rx; exact SeqAt.EqAt.str_bool a t' b
    | int b=>obtain ⟨t,rfl⟩:=rx; exact SeqAt.EqAt.str_int a t' b t
    | str b=>obtain ⟨t,rfl⟩:=rx; exact SeqAt.EqAt.str_str a t' b t
    | _=>exact absurd (show false=true from fx) Bool.false_ne_true
  | _=>exact absurd (show false=true from fy) Bool.false_ne_true
noncomputable def eqU (x:V) (u:Value):Bool:=match u with
  | .none=>eqV .non x
  | .bool b=>eqV (.bl b) x
  | .int i _=>eqV (.int i) x
  | .str z _=>eqV (.str z) x
  | _=>false
theorem Zlh {x y:V} {u:Value} (r:RelV y u) (f:flatV y=true):eqU x u=eqV y x:=by
  cases y with
  | non=>cases r; rfl
  | bl b=>cases r; rfl
  | int i=>obtain ⟨t,rfl⟩:=r; rfl
  | str z=>obtain ⟨t,rfl⟩:=r; rfl
  | _=>exact absurd (show false=true from f) Bool.false_ne_true
theorem Zg3 {x:V}:∀ {xs:List V} {us:List Value},Vals xs us->xs.all flatV=true->us.any (eqU x)=xs.any fun y=>eqV y x
  | _,_,.nil,_=>rfl
  | y :: xs,u :: us,.cons r t,f=>by
    rw [List.all_cons,Bool.and_eq_true] at f
    rw [List.any_cons,List.any_cons,Zlh r f.1,Zg3 t f.2]
theorem Ze7 {A:Around} {s:Shared} {x:V} {v:Value} (rx:RelV x v) (fx:flatV x=true):∀ {xs:List V} {us:List Value},Vals xs us->xs.all flatV=true->∀ u ∈ us,SeqAt.EqAt A s u v (eqU x u)
  | _,_,.nil,_=>fun u hu=>by cases hu
  | y :: xs,u :: us,.cons r t,f=>fun u' hu=>by
    rw [List.all_cons,Bool.and_eq_true] at f
    rcases List.mem_cons.mp hu with rfl|hu
    . rw [Zlh r f.1]; exact eqAt_V r rx f.1 fx
    . exact Ze7 rx fx t f.2 u' hu
noncomputable def inV (x:V) (xs:List V):Bool:=xs.any fun y=>eqV y x
noncomputable def rIn (K:PySem.W.Frag) (neg:Bool):R2:=fun x y H Q=>∃ p xs,y=.ref p/\(SqL K H p xs\/SqT K H p xs)/\flatV x=true/\xs.all flatV=true/\Q (.bl (if neg then !inV x xs else inV x xs)) H
theorem Zeb:OpR X (compareOp .In) (rIn X.K false):=by
  intro pins s σ H x y v u Q I rx ry h
  obtain ⟨p,xs,rfl,hq,fx,fs,q⟩:=h
  cases ry
  rcases hq with hq|hq
  . obtain ⟨its,r,pl,hz⟩:=I.list hq
    refine SeqAt.in_listAt (eqU x) pl.isList (fun w hw=>Ze7 rx fx r fs w (by simpa using hw)) ⟨.bl _,H,I,rfl,?_⟩
    rw [show its.toArray.any (eqU x)=its.any (eqU x) by simp,Zg3 r fs]
    exact q
  . obtain ⟨its,r,pl,hz⟩:=I.tuple hq
    refine SeqAt.in_tupleAt (eqU x) pl (fun w hw=>Ze7 rx fx r fs w (by simpa using hw)) ⟨.bl _,H,I,rfl,?_⟩
    rw [show its.toArray.any (eqU x)=its.any (eqU x) by simp,Zg3 r fs]
    exact q
theorem ZfZ:CallR X (.builtin "len") (fun xs H Q=>∃ p ys,xs=[.ref p]/\(SqL X.K H p ys\/SqT X.K H p ys)/\Q (.int ys.length) H):=by
  intro pins s σ H xs us Q I r h
  obtain ⟨p,ys,rfl,hq,q⟩:=h
  obtain ⟨u,rfl,rx⟩:=vals1 r
  cases rx
  have hn:=line63
  rcases hq with hq|hq
  . obtain ⟨its,r',pl,hz⟩:=I.list hq
    have hlen:=r'.length
    exact Calls.call_len_list pl.isList (by simp only [List.size_toArray] <;> omega) ⟨.int ys.length,H,I.tok _,⟨s.toks + 1,by rw [List.size_toArray,hlen]⟩,q⟩
  . obtain ⟨its,r',pl,hz⟩:=I.tuple hq
    have hlen:=r'.length
    exact len_tuple pl (by simp only [List.size_toArray] <;> omega) ⟨.int ys.length,H,I.tok _,⟨s.toks + 1,by rw [List.size_toArray,hlen]⟩,q⟩
theorem CallR.or {f:Value} {r r':List V->Hp->VK->Prop} (h:CallR X f r) (h':CallR X f r'):CallR X f (fun xs H Q=>r xs H Q\/r' xs H Q):=by
  intro pins s σ H xs us Q I rs q
  rcases q with q|q
  . exact h pins s σ H xs us Q I rs q
  . exact h' pins s σ H xs us Q I rs q
theorem Zf0:CallR X (.type "list") (fun xs H Q=>∃ p ys,xs=[.ref p]/\(SqL X.K H p ys\/SqT X.K H p ys)/\∀ l,H l=none->Q (.ref l) (upd H l (.lst ys))):=by
  intro pins s σ H xs us Q I r h
  obtain ⟨p,ys,rfl,hq,q⟩:=h
  obtain ⟨u,rfl,rx⟩:=vals1 r
  cases rx
  have fin:∀ (its:List Value),Vals ys its->ys.length <= sizeLine->∀ (h':Heap) (c':Nat),(∀ b o',s.heap.get? b=some o'->h'.get? b=some o') ->
      h'.get? s.heap.objs.size=some { cls:=.type "list", dict:=none,data:=.seq its.toArray c',slots:=#[] }->EP X pins σ Q (.ref s.heap.objs.size) { s with heap:=h' }:=fun its r' hz h' c' kp e =>
    ⟨.ref s.heap.objs.size,_,I.laid (t':=s.toks) kp (Nat.le_refl _) (show ObjOk X.prog X.w _ h' _ (.lst ys) from ⟨hz,its,c',r',e⟩),rfl,q _ (I.hok.fresh (Nat.le_refl _))⟩
  rcases hq with hq|hq
  . obtain ⟨its,r',pl,hz⟩:=I.list hq
    have hlen:=r'.length
    obtain ⟨o,ho,hc,n,hd⟩:=pl.isList
    exact call_list_seq p (.inl rfl) ho hc hd (fun h' c' kp e=>fin its r' hz h' c' kp e) (by simp only [List.size_toArray] <;> omega)
  . obtain ⟨its,r',pl,hz⟩:=I.tuple hq
    have hlen:=r'.length
    obtain ⟨o,ho,hc,n,hd⟩:=pl
    exact call_list_seq p (.inr rfl) ho hc hd (fun h' c' kp e=>fin its r' hz h' c' kp e) (by simp only [List.size_toArray] <;> omega)
noncomputable def tyV (K:PySem.W.Frag) (T:String) (x:V) (H:Hp):Prop:=match x with
  | .str _=>T = "str"
  | .int _=>T = "int"
  | .ref p=>(T = "list" /\ ∃ xs,SqL K H p xs)\/(T = "tuple" /\ ∃ o,K.lookup p=some o/\o.cls=.type "tuple" /\ o.dict=none) \/
      (T = "dict" /\ ((∃ kvs,H p=some (.dK kvs))\/∃ kvs,H p=some (.dT kvs)))\/(T = "set" /\ ∃ S n,H p=some (.set S n))
  | _=>False
theorem Zli {pins:List (Addr × Obj)} {σ:St} {H:Hp} {s:Shared} {T:String} {x:V} {v:Value} (I:Inv X pins σ H s) (r:RelV x v) (ty:tyV X.K T x H) :
    s.TypeIs v T/\∀ a,v=.ref a->∃ ob,s.heap.get? a=some ob/\ob.dict=none:=by
  cases x with
  | str z =>
    obtain ⟨t,rfl⟩:=r
    cases (show T = "str" from ty)
    exact ⟨typeIs_str s z t,fun _ e=>nomatch e⟩
  | int i =>
    obtain ⟨t,rfl⟩:=r
    cases (show T = "int" from ty)
    exact ⟨typeIs_int s i t,fun _ e=>nomatch e⟩
  | ref p =>
    cases r
    rcases ty with ⟨rfl,xs,hq⟩|⟨rfl,o,hk,hc,hd⟩|⟨rfl,hk⟩|⟨rfl,S,n,hk⟩
    . obtain ⟨its,_,pl,_⟩:=I.list hq
      refine ⟨pl.isList.typeIs,fun a e=>?_⟩
      cases e
      obtain ⟨o,n,e,c,hd,_⟩:=pl
      exact ⟨o,e,hd⟩
    . refine ⟨⟨o,I.kIn p o hk,hc⟩,fun a e=>?_⟩
      cases e
      exact ⟨o,I.kIn _ o hk,hd⟩
    . have z:∃ o,s.heap.get? p=some o/\o.ExactDict:=by
        rcases hk with ⟨kvs,hk⟩|⟨kvs,hk⟩
        . obtain ⟨_,_,_,_,o,_,_,e,ex,_⟩:=I.hok p _ hk
          exact ⟨o,e,ex⟩
        . obtain ⟨_,_,_,_,o,_,_,e,ex,_⟩:=I.hok p _ hk
          exact ⟨o,e,ex⟩
      obtain ⟨o,e,ex⟩:=z
      refine ⟨⟨o,e,ex.1⟩,fun a e2=>?_⟩
      cases e2
      exact ⟨o,e,ex.2.1⟩
    . obtain ⟨o,_,_,_,e,ex,_⟩:=I.hok p _ hk
      refine ⟨⟨o,e,ex.1⟩,fun a e2=>?_⟩
      cases e2
      exact ⟨o,e,ex.2.1⟩
  | _=>exact False.elim ty
noncomputable def tBM0 (K:PySem.W.Frag) (T:String) (r:V->List V->Hp->VK->Prop) (to:TE):TE:=fun σ H Q=>to σ H fun x H1=>tyV K T x H1/\r x [] H1 Q
noncomputable def tBM (K:PySem.W.Frag) (T:String) (r:V->List V->Hp->VK->Prop) (to:TE) (t:TA):TE:=fun σ H Q=>to σ H fun x H1=>tyV K T x H1/\t σ H1 fun xs H2=>r x xs H2 Q
variable {o e:Expr} {es:List Expr} {to:TE} {t:TA} {name:Str} {apos cpos:Pos} {T id:String} {r:V->List V->Hp->VK->Prop}
theorem Zlj (pa:PlainAttrs T) (slot:Slot T name id) (hty:typeOf (.builtin id)=pure (.type "method_descriptor")) (hm:MtR X id r) (ho:PE X o to)
    (hbase:attributeBase o name X.env (eval o X.env)=eval o X.env:=by rfl) (hline:(apos.endLine == cpos.line)=true:=by rfl):PE X (.Call (.Attribute o name apos) [] [] cpos) (tBM0 X.K T r to):=by
  intro pins s σ H Q I h
  refine wpAny_Call_method0_late hbase hline (thn (ho pins s σ H _ I h) fun v s1 ⟨x,H1,I1,r1,ty,q1⟩=>?_)
  obtain ⟨h1,h2⟩:=Zli I1 r1 ty
  exact ⟨T,id,pa,slot,hty,h1,h2,Calls.callWith_builtin rfl (PySem.evalArgs_none (hm pins s1 σ H1 x [] v [] Q I1 r1 .nil q1))⟩
theorem Zf1 (pa:PlainAttrs T) (slot:Slot T name id) (hty:typeOf (.builtin id)=pure (.type "method_descriptor")) (hm:MtR X id r) (ho:PE X o to) (ha:PA X (e :: es) t)
    (hbase:attributeBase o name X.env (eval o X.env)=eval o X.env:=by rfl)
    (hfew:((backTo cpos (starEach (e :: es) X.env)).all (fun x=>!x.1) && (backToKw cpos (keywordEach [] X.env)).all (fun x=>x.1.isSome)
      && decide ((e :: es).length + ([]:List Keyword).length + (if ([]:List Keyword).isEmpty then 0 else 1) < 30))=true:=by rfl)
    (hline:(apos.endLine == cpos.line)=true:=by rfl) (hs:starEach (e :: es) X.env=(false,eval e X.env) :: starEach es X.env:=by rfl) (hplain:(backTo cpos (starEach es X.env)).any (·.1)=false:=by rfl) :
    PE X (.Call (.Attribute o name apos) (e :: es) [] cpos) (tBM X.K T r to t):=by
  intro pins s σ H Q I h
  refine wpAny_Call_method_late hbase hfew hline rfl (thn (ho pins s σ H _ I h) fun v s1 ⟨x,H1,I1,r1,ty,q1⟩=>?_)
  obtain ⟨h1,h2⟩:=Zli I1 r1 ty
  refine ⟨T,id,pa,slot,hty,h1,h2,?_⟩
  have hA:=ha cpos pins s1 σ H1 _ I1 q1
  rw [hs] at hA |-
  refine Calls.callWith_builtin (by show (false || (backTo cpos (starEach es X.env)).any (·.1))=false; rw [hplain] <;> rfl) (Calls.evalArgs_plain ?_)
  exact thn hA fun us s2 ⟨vs,H2,I2,r2,q2⟩=>hm pins s2 σ H2 x vs v us Q I2 r1 r2 q2
end
end L2
namespace L2
open PySem PySem.Spec PyProof.Rows
noncomputable def MtM (X:Cx) (id:String) (r:V->List V->Hp->VK->Prop):Prop :=
  ∀ (pins:List (Addr × Obj)) (s:Shared) (σ:St) (H:Hp) (x:V) (xs:List V) (v:Value) (us:List Value) (Q:VK),Inv X pins σ H s->RelV x v->Vals xs us->r x xs H Q ->
    wpAny (model X.prog X.w) X.A (call (.builtin id) (v :: us)) (EP X pins σ Q) X.xe s
theorem Vals.one:∀ {x:V} {us:List Value},Vals [x] us->∃ u,us=[u]/\RelV x u
  | _,_,.cons r .nil=>⟨_,rfl,r⟩
theorem Vals.zero:∀ {us:List Value},Vals [] us->us=[]
  | _,.nil=>rfl
theorem Vals.dropLast {xs:List V} {us:List Value} (h:Vals xs us):Vals xs.dropLast us.dropLast:=by
  induction h with
  | nil=>exact .nil
  | cons r t ih =>
    cases t with
    | nil=>exact .nil
    | cons q t'=>exact .cons r ih
theorem Vals.eraseIdx:∀ {xs:List V} {us:List Value} (i:Nat),Vals xs us->Vals (xs.eraseIdx i) (us.eraseIdx i)
  | _,_,_,.nil=>.nil
  | _,_,0,.cons _ t=>t
  | _,_,i + 1,.cons r t=>.cons r (Vals.eraseIdx i t)
theorem Vals.reverse {xs:List V} {us:List Value} (h:Vals xs us):Vals xs.reverse us.reverse:=by
  induction h with
  | nil=>exact .nil
  | cons r t ih=>rw [List.reverse_cons,List.reverse_cons]; exact Vals.append ih (.cons r .nil)
theorem Vals.rep {xs:List V} {us:List Value} (h:Vals xs us):∀ k:Nat,Vals (List.replicate k xs).flatten (List.replicate k us).flatten
  | 0=>.nil
  | k + 1=>by
    rw [List.replicate_succ,List.replicate_succ,List.flatten_cons,List.flatten_cons]
    exact Vals.append h (Vals.rep h k)
theorem Zis {α:Type} (l:List α):l.eraseIdx (l.length - 1)=l.dropLast:=by
  induction l with
  | nil=>rfl
  | cons a r ih =>
    cases r with
    | nil=>rfl
    | cons b r =>
      have e:(a :: b :: r).length - 1=((b :: r).length - 1) + 1:=by
        have h1:(a :: b :: r).length=r.length + 2:=rfl
        have h2:(b :: r).length=r.length + 1:=rfl
        omega
      rw [e,List.eraseIdx_cons_succ,ih]
      all_goals rfl
theorem Zf2 (its:List Value):∀ (k:Nat) (acc:List Value),
    List.foldl (fun x1 x2=>x1 ++ x2) acc.toArray (List.replicate k its.toArray)=(acc ++ (List.replicate k its).flatten).toArray
  | 0,acc=>by simp
  | k + 1,acc=>by
    have e:acc.toArray ++ its.toArray=(acc ++ its).toArray:=by simp
    have e2:(acc ++ its) ++ (List.replicate k its).flatten=acc ++ (List.replicate (k + 1) its).flatten:=by
      rw [List.replicate_succ,List.flatten_cons,List.append_assoc]
    rw [<- e2,<- Zf2 its k (acc ++ its),<- e,List.replicate_succ,List.foldl_cons]
section
variable {X:Cx} {pins:List (Addr × Obj)} {σ:St} {H:Hp} {s:Shared} {l b:Addr} {xs ys zs:List V}
theorem Inv.lset {its its':List Value} {n:Nat} {f:Array Value->Array Value} {t':Nat} (I:Inv X pins σ H s) (hH:H l=some (.lst xs))
    (e:s.heap.get? l=some { cls:=.type "list", data:=.seq its.toArray n }) (hf:f its.toArray=its'.toArray) (hv:Vals ys its') (hz:ys.length <= sizeLine) :
    Inv X pins σ (upd H l (.lst ys)) { s with heap:=s.heap.update l (Obj.mapSeq f),toks:=t' }:=by
  have q:=PySem.IsL.update e f
  rw [hf] at q
  refine I.write (x:=l) (e:=l) (by rw [hH]; exact trivial) (.inl rfl) (fun b' u hb hu=>(Heap.get?_update_other s.heap (Obj.mapSeq f) (Ne.symm hb)).trans hu) ⟨_,q⟩ ?_
  exact ⟨hz,its',_,hv,q⟩
theorem Inv.lnew {its:List Value} {t':Nat} (I:Inv X pins σ H s) (hv:Vals ys its) (hz:ys.length <= sizeLine) :
    Inv X pins σ (upd H s.heap.objs.size (.lst ys)) { s with heap:=s.heap.push { cls:=.type "list", data:=.seq its.toArray },toks:=t' } :=
  I.laid (fun _ _ q=>Heap.get?_push_of_some _ q) (Nat.le_refl _) ⟨hz,its,0,hv,Heap.get?_push_size _ rfl⟩
theorem Inv.fresh (I:Inv X pins σ H s):H s.heap.objs.size=none:=I.hok.fresh (Nat.le_refl _)
theorem Inv.lstM (I:Inv X pins σ H s) (hH:H l=some (.lst xs)):xs.length <= sizeLine/\∃ (its:List Value) (n:Nat),Vals xs its/\xs.length=its.length/\s.heap.get? l=some { cls:=.type "list", data:=.seq its.toArray n }:=by
  obtain ⟨z,its,n,r,e⟩:=I.hok l _ hH
  exact ⟨z,its,n,r,r.length,e⟩
theorem Zh2 {n:Nat} (h:n <= sizeLine):Builtin.List.listTooLong n=false:=by
  unfold Builtin.List.listTooLong
  exact decide_eq_false (by omega)
end
section
variable {X:Cx}
noncomputable def Zjb:V->List V->Hp->VK->Prop:=fun x vs H Q=>∃ l xs y,x=.ref l/\vs=[y]/\H l=some (.lst xs)/\xs.length < sizeLine/\Q .non (upd H l (.lst (xs ++ [y])))
theorem ZbC:MtM X "list.append" Zjb:=by
  intro pins s σ H x vs v us Q I rx rv h
  obtain ⟨l,xs,y,rfl,rfl,hH,hz,q⟩:=h
  cases rx
  obtain ⟨u,rfl,ru⟩:=rv.one
  obtain ⟨z,its,n,r,hl,e⟩:=I.lstM hH
  refine call_meets F.slot_list_append ⟨_,e,rfl⟩ F.entry_list_append (F.args_list_append_2 _ _) (PySem.list_append l its.toArray n u (by rw [List.size_toArray]; omega)) ⟨e,?_⟩
  refine ⟨.non,_,I.lset (its':=its ++ [u]) hH e (by simp) (r.append (.cons ru .nil)) ?_,rfl,q⟩
  rw [List.length_append,List.length_singleton]
  omega
noncomputable def ZlP:V->List V->Hp->VK->Prop:=fun x vs H Q=>∃ l b xs zs,x=.ref l/\vs=[.ref b]/\H l=some (.lst xs)/\H b=some (.lst zs)/\xs.length + zs.length <= sizeLine/\Q .non (upd H l (.lst (xs ++ zs)))
theorem mt_extend:MtM X "list.extend" ZlP:=by
  intro pins s σ H x vs v us Q I rx rv h
  obtain ⟨l,b,xs,zs,rfl,rfl,hH,hB,hz,q⟩:=h
  cases rx
  obtain ⟨u,rfl,ru⟩:=rv.one
  cases ru
  obtain ⟨z,its,n,r,hl,e⟩:=I.lstM hH
  obtain ⟨z2,its2,n2,r2,hl2,e2⟩:=I.lstM hB
  have hsz:its.toArray.size + its2.toArray.size <= sizeLine:=by rw [List.size_toArray,List.size_toArray]; omega
  have hlong:¬ (!its.toArray.isEmpty && Builtin.List.listTooLong (its.toArray.size + its2.toArray.size))=true:=by
    rw [Zh2 hsz,Bool.and_false]
    exact Bool.false_ne_true
  refine call_meets F.slot_list_extend ⟨_,e,rfl⟩ F.entry_list_extend (F.args_list_extend_2 _ _)
    (AutoSeq1.list_extend_list_list_0 l its.toArray n b its2.toArray n2 hlong (by rw [List.size_toArray]; omega) (by omega)) ⟨e,e2,?_⟩
  refine ⟨.non,_,I.lset (its':=its ++ its2) hH e (by simp) (r.append r2) ?_,rfl,q⟩
  rw [List.length_append]
  omega
noncomputable def rPop:V->List V->Hp->VK->Prop:=fun x vs H Q=>∃ l xs y,x=.ref l/\vs=[]/\H l=some (.lst xs)/\xs[xs.length - 1]?=some y/\Q y (upd H l (.lst xs.dropLast))
theorem Zlk:MtM X "list.pop" rPop:=by
  intro pins s σ H x vs v us Q I rx rv h
  obtain ⟨l,xs,y,rfl,rfl,hH,hy,q⟩:=h
  cases rx
  have hus:=rv.zero
  subst hus
  obtain ⟨z,its,n,r,hl,e⟩:=I.lstM hH
  obtain ⟨u,hu,ru⟩:=r.get hy
  have hy':its.toArray[its.toArray.size - 1]?=some u:=by
    show its.toArray[its.length - 1]?=some u
    rw [<- Array.getElem?_toList,<- hl]
    exact hu
  refine call_meets F.slot_list_pop ⟨_,e,rfl⟩ F.entry_list_pop (F.args_list_pop_1 _) (MeetsSeq.list_pop_last l its.toArray n u hy' (by rw [List.size_toArray]; omega)) ⟨e,?_⟩
  refine ⟨y,_,I.lset (its':=its.dropLast) hH e ?_ r.dropLast ?_,ru,q⟩
  . show its.toArray.eraseIdxIfInBounds (its.toArray.size - 1)=its.dropLast.toArray
    rw [List.size_toArray,List.eraseIdxIfInBounds_toArray,Zis]
  . rw [List.length_dropLast]
    omega
noncomputable def rCat:R2:=fun x y H Q=>∃ l b xs zs,x=.ref l/\y=.ref b/\H l=some (.lst xs)/\H b=some (.lst zs)/\xs.length + zs.length <= sizeLine/\∀ p,H p=none->Q (.ref p) (upd H p (.lst (xs ++ zs)))
theorem Zf3:OpR X (binaryOp .Add) rCat:=by
  intro pins s σ H x y v u Q I rx ry h
  obtain ⟨l,b,xs,zs,rfl,rfl,hH,hB,hz,q⟩:=h
  cases rx
  cases ry
  obtain ⟨z,its,n,r,hl,e⟩:=I.lstM hH
  obtain ⟨z2,its2,n2,r2,hl2,e2⟩:=I.lstM hB
  refine PySem.P.add_list e e2 ?_ (by rw [List.size_toArray,List.size_toArray]; omega)
  have ea:its.toArray ++ its2.toArray=(its ++ its2).toArray:=by simp
  rw [ea]
  exact ⟨.ref _,_,I.lnew (t':=s.toks) (r.append r2) (by rw [List.length_append]; omega),rfl,q _ I.fresh⟩
noncomputable def rRep:R2:=fun x y H Q=>∃ l k xs,x=.ref l/\y=.int k/\H l=some (.lst xs)/\-(2 ^ 63) <= k/\k < 2 ^ 63/\xs.length * k.toNat <= sizeLine /\
  ∀ p,H p=none->Q (.ref p) (upd H p (.lst (List.replicate k.toNat xs).flatten))
theorem ZlQ {α:Type} (xs:List α) (k:Nat):(List.replicate k xs).flatten.length=k * xs.length:=by
  induction k with
  | zero=>simp
  | succ k ih=>rw [List.replicate_succ,List.flatten_cons,List.length_append,ih,Nat.succ_mul,Nat.add_comm]
theorem op_rep:OpR X (binaryOp .Mult) rRep:=by
  intro pins s σ H x y v u Q I rx ry h
  obtain ⟨l,k,xs,rfl,rfl,hH,h1,h2,hz,q⟩:=h
  cases rx
  obtain ⟨t,rfl⟩:=ry
  obtain ⟨z,its,n,r,hl,e⟩:=I.lstM hH
  have hlen:its.toArray.size * k.toNat <= sizeLine:=by rw [List.size_toArray,<- hl]; exact hz
  have hcap:¬ its.toArray.size * k.toNat > (2 ^ 63 - 1) / 8:=by
    have:(sizeLine:Nat) <= (2 ^ 63 - 1) / 8:=by decide
    omega
  have hfit:¬ (!Builtin.List.listFitsIndex k)=true:=by
    rw [fitsIndex_both h1 h2]
    exact Bool.false_ne_true
  have hlong:¬ Builtin.List.listTooLong (its.toArray.size * k.toNat)=true:=by
    rw [Zh2 hlen]
    exact Bool.false_ne_true
  have hnew:List.foldl (fun x1 x2=>x1 ++ x2) #[] (List.replicate (if its.toArray.isEmpty=true then 0 else k.toNat) its.toArray)=(List.replicate k.toNat its).flatten.toArray:=by
    have f0:∀ m:Nat,List.foldl (fun x1 x2=>x1 ++ x2) #[] (List.replicate m its.toArray)=(List.replicate m its).flatten.toArray:=fun m=>by
      have:=Zf2 its m []
      rw [List.nil_append] at this
      exact this
    rw [f0]
    cases its with
    | nil=>simp
    | cons a r'=>rw [if_neg (by simp)]
  refine wpAny_binaryOp_repeat_ref (T := "list") (U := "int") (by decide) ⟨_,e,rfl⟩ (fun s'=>typeIs_int s' k t) noFill_list_mul F.fills_int_mul F.slot_int_rmul repeat_list F.slot_int_index.lookup
    (call_meets F.slot_int_rmul (typeIs_int s k t) F.entry_int_rmul (F.args_int_rmul_2 _ _) (int___rmul___int_list k t l its.toArray n)
      ⟨e,rfl,⟨_,e,rfl⟩,call_meets F.slot_list_mul ⟨_,e,rfl⟩ F.entry_list_mul (F.args_list_mul_2 _ _) (AutoListH.list___mul___list_int_3 l its.toArray n k t hfit hcap hlong) ⟨e,?_⟩⟩)
  rw [hnew]
  exact ⟨.ref _,_,I.lnew (t':=s.toks) (r.rep k.toNat) (by rw [ZlQ,Nat.mul_comm]; exact hz),rfl,q _ I.fresh⟩
end
section
variable {prog:Program} {w:World} {A:Around} {E:Value->Shared->Prop} {s:Shared}
end
section
variable {X:Cx}
end
end L2
namespace L2
open PySem PySem.Spec PyProof.Rows
section
variable {κ:Type} [DecidableEq κ]
noncomputable def valV (kvs:List (κ × V)) (k:κ):Option V:=(kvs.find? fun kv=>decide (kv.1=k)).map (·.2)
noncomputable def putK (kvs:List (κ × V)) (k:κ) (v:V):List (κ × V) :=
  if (kvs.any fun kv=>decide (kv.1=k))=true then kvs.map (fun kv=>if kv.1=k then (kv.1,v) else kv) else kvs ++ [(k,v)]
noncomputable def dropK (kvs:List (κ × V)) (k:κ):List (κ × V):=kvs.filter fun kv=>decide (kv.1 ≠ k)
theorem Zko {k:κ}:valV ([]:List (κ × V)) k=none:=rfl
theorem Zbq {p:κ × V} {r:List (κ × V)} {k:κ} (e:p.1=k):valV (p :: r) k=some p.2:=by simp [valV,List.find?_cons,e]
theorem Zbm {p:κ × V} {r:List (κ × V)} {k:κ} (e:¬ p.1=k):valV (p :: r) k=valV r k:=by simp [valV,List.find?_cons,e]
theorem Zcb (k:κ):∀ kvs:List (κ × V),(kvs.any fun kv=>decide (kv.1=k))=(valV kvs k).isSome
  | []=>rfl
  | p :: r=>by
    rw [List.any_cons]
    by_cases e:p.1=k
    . simp only [Zbq e,decide_eq_true e,Bool.true_or,Option.isSome_some]
    . rw [Zbm e,decide_eq_false e,Bool.false_or]; exact Zcb k r
theorem Zh3 (k j:κ) (y:V):∀ kvs:List (κ × V),valV (kvs.map fun kv=>if kv.1=k then (kv.1,y) else kv) j=(valV kvs j).map fun x=>if j=k then y else x
  | []=>rfl
  | p :: r=>by
    have ih:=Zh3 k j y r
    rw [List.map_cons]
    by_cases h:p.1=k
    . rw [if_pos h]
      by_cases e:p.1=j
      . rw [Zbq (p:=(p.1,y)) e,Zbq e,Option.map_some,if_pos (e.symm.trans h)]
      . rw [Zbm (p:=(p.1,y)) e,Zbm e,ih]
    . rw [if_neg h]
      by_cases e:p.1=j
      . rw [Zbq (p:=p) e,Zbq e,Option.map_some,if_neg (fun z=>h (e.trans z))]
      . rw [Zbm (p:=p) e,Zbm e,ih]
theorem Zf4 (k j:κ) (y:V):∀ kvs:List (κ × V),valV kvs k=none->valV (kvs ++ [(k,y)]) j=if j=k then some y else valV kvs j
  | [],_=>by
    by_cases e:k=j
    . rw [if_pos e.symm]; exact Zbq (p:=(k,y)) e
    . rw [if_neg (fun z=>e z.symm)]; exact Zbm (p:=(k,y)) e
  | p :: r,hn=>by
    rw [List.cons_append]
    have hk:¬ p.1=k:=fun z=>by rw [Zbq z] at hn; cases hn
    rw [Zbm hk] at hn
    have ih:=Zf4 k j y r hn
    by_cases e:p.1=j
    . rw [Zbq e,Zbq e,if_neg (fun z=>hk (e.trans z))]
    . rw [Zbm e,Zbm e,ih]
theorem Zkp (kvs:List (κ × V)) (k j:κ) (y:V):valV (putK kvs k y) j=if j=k then some y else valV kvs j:=by
  unfold putK
  by_cases a:(kvs.any fun kv=>decide (kv.1=k))=true
  . rw [if_pos a,Zh3]
    rw [Zcb] at a
    by_cases e:j=k
    . obtain ⟨x,hx⟩:=Option.isSome_iff_exists.mp a
      rw [if_pos e,e,hx,Option.map_some,if_pos rfl]
    . rw [if_neg e]
      cases valV kvs j with
      | none=>rfl
      | some x=>rw [Option.map_some,if_neg e]
  . rw [if_neg a]
    refine Zf4 k j y kvs ?_
    rw [Zcb] at a
    cases q:valV kvs k with
    | none=>rfl
    | some x=>rw [q] at a; exact (a rfl).elim
theorem ZcT (kvs:List (κ × V)) (k:κ) (v:V):(putK kvs k v).length <= kvs.length + 1:=by
  unfold putK
  split
  . rw [List.length_map]; omega
  . rw [List.length_append,List.length_cons,List.length_nil]; omega
theorem Zkq {kvs:List (κ × V)} {k:κ} (v:V) (h:valV kvs k=none):putK kvs k v=kvs ++ [(k,v)]:=by
  unfold putK
  rw [Zcb,h]
  exact if_neg (by decide)
theorem RelO.isSome_eq {o:Option V} {u:Option Value} (r:RelO o u):o.isSome=u.isSome:=by
  cases o with
  | none=>cases u with
    | none=>rfl
    | some _=>exact (show False from r).elim
  | some _=>cases u with
    | none=>exact (show False from r).elim
    | some _=>rfl
theorem RelO.getD {o:Option V} {u:Option Value} {d:V} {d':Value} (r:RelO o u) (rd:RelV d d'):RelV (o.getD d) (u.getD d'):=by
  cases o with
  | none=>cases u with
    | none=>exact rd
    | some _=>exact (show False from r).elim
  | some _=>cases u with
    | none=>exact (show False from r).elim
    | some _=>exact r
theorem KV.val {kvs:List (κ × V)} {vs:List (κ × Value)} (r:KV kvs vs) (k:κ):RelO (valV kvs k) (valueAt vs k):=by
  unfold KV at r
  induction r with
  | nil=>exact True.intro
  | @cons p q ps qs h t ih =>
    obtain ⟨h1,h2⟩:=h
    by_cases e:p.1=k
    . have e':q.1=k:=h1.symm.trans e
      have b:valueAt (q :: qs) k=some q.2:=by simp [valueAt,List.find?_cons,e']
      rw [Zbq e,b]; exact h2
    . have e':¬ q.1=k:=fun z=>e (h1.trans z)
      have b:valueAt (q :: qs) k=valueAt qs k:=by simp [valueAt,List.find?_cons,e']
      rw [Zbm e,b]; exact ih
theorem KV.any {kvs:List (κ × V)} {vs:List (κ × Value)} (r:KV kvs vs) (k:κ):(kvs.any fun kv=>decide (kv.1=k))=vs.any fun kv=>decide (kv.1=k):=by
  unfold KV at r
  induction r with
  | nil=>rfl
  | cons h t ih=>rw [List.any_cons,List.any_cons,ih,h.1]
theorem KV.repl {kvs:List (κ × V)} {vs:List (κ × Value)} (r:KV kvs vs) (k:κ) {y:V} {u:Value} (ry:RelV y u) :
    KV (kvs.map fun kv=>if kv.1=k then (kv.1,y) else kv) (vs.map fun kv=>if kv.1=k then (kv.1,u) else kv):=by
  unfold KV at r |-
  induction r with
  | nil=>exact .nil
  | @cons p q ps qs h t ih =>
    rw [List.map_cons,List.map_cons]
    refine .cons ?_ ih
    obtain ⟨h1,h2⟩:=h
    by_cases e:p.1=k
    . rw [if_pos e,if_pos (h1.symm.trans e)]; exact ⟨h1,ry⟩
    . rw [if_neg e,if_neg (fun z=>e (h1.trans z))]; exact ⟨h1,h2⟩
theorem KV.put {kvs:List (κ × V)} {vs:List (κ × Value)} (r:KV kvs vs) (k:κ) {y:V} {u:Value} (ry:RelV y u):KV (putK kvs k y) (stored vs k u):=by
  unfold putK stored
  rw [r.any k]
  by_cases e:(vs.any fun kv=>decide (kv.1=k))=true
  . rw [if_pos e,if_pos e]; exact r.repl k ry
  . rw [if_neg e,if_neg e]; exact Paired.snoc r ⟨rfl,ry⟩
theorem KV.drop {kvs:List (κ × V)} {vs:List (κ × Value)} (r:KV kvs vs) (k:κ):KV (dropK kvs k) (without vs k):=by
  unfold KV at r |-
  unfold dropK without
  induction r with
  | nil=>exact .nil
  | @cons p q ps qs h t ih =>
    obtain ⟨h1,h2⟩:=h
    rw [List.filter_cons,List.filter_cons]
    by_cases e:p.1=k
    . have a:¬ decide (p.1 ≠ k)=true:=by simp [e]
      have b:¬ decide (q.1 ≠ k)=true:=by simp [h1.symm.trans e]
      rw [if_neg a,if_neg b]; exact ih
    . have e':¬ q.1=k:=fun z=>e (h1.trans z)
      have a:decide (p.1 ≠ k)=true:=by simp [e]
      have b:decide (q.1 ≠ k)=true:=by simp [e']
      rw [if_pos a,if_pos b]; exact .cons ⟨h1,h2⟩ ih
theorem KV.keys {kvs:List (κ × V)} {vs:List (κ × Value)} (r:KV kvs vs):kvs.map (·.1)=vs.map (·.1):=by
  unfold KV at r
  induction r with
  | nil=>rfl
  | cons h t ih=>rw [List.map_cons,List.map_cons,ih,h.1]
theorem KV.length {kvs:List (κ × V)} {vs:List (κ × Value)} (r:KV kvs vs):kvs.length=vs.length:=Paired.length r
theorem Ze8 (kvs:List (κ × V)) (k:κ):(dropK kvs k).length <= kvs.length:=List.length_filter_le _ _
end
theorem Zit {P:Program} {w:World} {k:Key} {u:Value} (r:RelV (kV k) u):(Za8 P w).is k u=true:=by
  cases k with
  | inl i=>obtain ⟨t,e⟩:=(show ∃ t,u=Value.int i t from r); subst e; exact ZgV P w i t
  | inr x=>obtain ⟨t,e⟩:=(show ∃ t,u=Value.str x t from r); subst e; exact ZgW P w x t
theorem Zf5 {P:Program} {w:World}:∀ {ks:List Key} {us:List Value},Vals (ks.map kV) us->ItemsAre (Za8 P w) ks us
  | [],_,r=>by rw [List.map_nil] at r; cases r; exact .nil
  | k :: ks,_,r=>by
    rw [List.map_cons] at r
    cases r with
    | cons h t=>exact .cons (Zit h) (Zf5 t)
noncomputable abbrev KT (H:Hp):List (List Key × V)->List (List Key × Addr × Value)->Prop:=Paired fun p q=>p.1=q.1/\H q.2.1=some (.tup (p.1.map kV))/\RelV p.2 q.2.2
theorem KT.val {H:Hp} {kvs:List (List Key × V)} {xs:List (List Key × Addr × Value)} (r:KT H kvs xs) (k:List Key):RelO (valV kvs k) ((atKey xs k).map (·.2)):=by
  induction r with
  | nil=>exact True.intro
  | @cons p q ps qs h t ih =>
    obtain ⟨h1,_,h2⟩:=h
    by_cases e:p.1=k
    . have e':q.1=k:=h1.symm.trans e
      have b:atKey (q :: qs) k=some q.2:=by simp [atKey,List.find?_cons,e']
      rw [Zbq e,b]; exact h2
    . have e':¬ q.1=k:=fun z=>e (h1.trans z)
      have b:atKey (q :: qs) k=atKey qs k:=by simp [atKey,List.find?_cons,e']
      rw [Zbm e,b]; exact ih
theorem KT.repl {H:Hp} {kvs:List (List Key × V)} {xs:List (List Key × Addr × Value)} (r:KT H kvs xs) (k:List Key) {y:V} {u:Value} (ry:RelV y u) :
    KT H (kvs.map fun kv=>if kv.1=k then (kv.1,y) else kv) (xs.map (putAt k u)):=by
  induction r with
  | nil=>exact .nil
  | @cons p q ps qs h t ih =>
    rw [List.map_cons,List.map_cons]
    refine .cons ?_ ih
    obtain ⟨h1,h2,h3⟩:=h
    unfold putAt
    by_cases e:p.1=k
    . rw [if_pos e,if_pos (h1.symm.trans e)]; exact ⟨h1,h2,ry⟩
    . rw [if_neg e,if_neg (fun z=>e (h1.trans z))]; exact ⟨h1,h2,h3⟩
theorem KT.put {H:Hp} {kvs:List (List Key × V)} {xs:List (List Key × Addr × Value)} (r:KT H kvs xs) (k:List Key) {b:Addr} {y:V} {u:Value} (hb:H b=some (.tup (k.map kV))) (ry:RelV y u) :
    KT H (putK kvs k y) (storedH xs k b u):=by
  have e:(kvs.any fun kv=>decide (kv.1=k))=(atKey xs k).isSome:=by
    rw [Zcb,(r.val k).isSome_eq,Option.isSome_map]
  unfold putK storedH
  rw [e]
  by_cases q:(atKey xs k).isSome=true
  . rw [if_pos q,if_pos q]; exact r.repl k ry
  . rw [if_neg q,if_neg q]; exact Paired.snoc r ⟨rfl,hb,ry⟩
theorem KT.keeps {H H':Hp} {kvs:List (List Key × V)} {xs:List (List Key × Addr × Value)} (r:KT H kvs xs) (ht:∀ b ys,H b=some (.tup ys)->H' b=some (.tup ys)):KT H' kvs xs :=
  Paired.mapP r fun _ _ z=>⟨z.1,ht _ _ z.2.1,z.2.2⟩
section
variable {P:Program} {w:World} {H:Hp} {h:Heap} {a:Addr}
theorem rd_of {u:HO} (ok:HOk P w H h) (e:Rd H a u):ObjOk P w H h a u:=e.ok ok
theorem ZlR {kvs:List (Key × V)} (ok:HOk P w H h) (e:Rd H a (.dK kvs)):kvs.length <= sizeLine/\(a == sysModules)=false/\∃ vs,KV kvs vs/\h.DictOf (Za8 P w) a vs :=
  show ObjOk P w H h a (.dK kvs) from rd_of ok e
theorem Zkr {kvs:List (Key × V)} (ok:HOk P w H h) (e:H a=some (.dK kvs)):kvs.length <= sizeLine/\(a == sysModules)=false/\∃ vs,KV kvs vs/\h.DictOf (Za8 P w) a vs:=ZlR ok (.inl e)
theorem Zjc {ks:List Key} (ok:HOk P w H h) (e:H a=some (.tup (ks.map kV))):(tupleKind (Za8 P w)).is h ks a:=by
  obtain ⟨_,its,r,o,h1,h2,n,h3⟩:=(show ObjOk P w H h a (.tup (ks.map kV)) from ok a _ e)
  exact ⟨o,its.toArray,n,h1,h2,h3,by simpa using Zf5 r⟩
theorem ZlS {kvs:List (List Key × V)} (ok:HOk P w H h) (e:Rd H a (.dT kvs)):kvs.length <= sizeLine/\(a == sysModules)=false /\
    ∃ xs,KT H kvs xs/\h.DictOfH (tupleKind (Za8 P w)) a xs:=by
  obtain ⟨z,y,xs,r,o,es,ep,h1,h2,h3,h4,h5⟩:=(show ObjOk P w H h a (.dT kvs) from rd_of ok e)
  refine ⟨z,y,xs,r,o,es,ep,h1,h2,h3,h4,fun x hx=>?_,h5⟩
  have all:∀ {l:List (List Key × V)} {m:List (List Key × Addr × Value)},KT H l m->∀ x ∈ m,(tupleKind (Za8 P w)).is h x.1 x.2.1:=by
    intro l m q
    induction q with
    | nil=>intro x hx; exact nomatch hx
    | @cons p q ps qs hq t ih =>
      intro x hx
      rcases List.mem_cons.mp hx with e|hx
      . subst e
        exact Zjc ok (by rw [<- hq.1]; exact hq.2.1)
      . exact ih x hx
  exact all r x hx
theorem dt_of {kvs:List (List Key × V)} (ok:HOk P w H h) (e:H a=some (.dT kvs)):kvs.length <= sizeLine/\(a == sysModules)=false /\
    ∃ xs,KT H kvs xs/\h.DictOfH (tupleKind (Za8 P w)) a xs:=ZlS ok (.inl e)
end
noncomputable def DGet (H:Hp) (a:Addr) (y:V) (r:Option V):Prop :=
  (∃ kvs k,Rd H a (.dK kvs)/\y=kV k/\r=valV kvs k)\/∃ kvs k b,Rd H a (.dT kvs)/\y=.ref b/\H b=some (.tup (k.map kV))/\r=valV kvs k
noncomputable def DPut (H:Hp) (a:Addr) (y v:V) (H':Hp):Prop :=
  (∃ kvs k,H a=some (.dK kvs)/\y=kV k/\kvs.length < sizeLine/\H'=upd H a (.dK (putK kvs k v))) \/
  ∃ kvs k b,H a=some (.dT kvs)/\y=.ref b/\H b=some (.tup (k.map kV))/\kvs.length < sizeLine/\H'=upd H a (.dT (putK kvs k v))
theorem DGet.k {H:Hp} {a:Addr} {kvs:List (Key × V)} {k:Key} (e:H a=some (.dK kvs)):DGet H a (kV k) (valV kvs k):=.inl ⟨kvs,k,.inl e,rfl,rfl⟩
theorem DGet.t {H:Hp} {a b:Addr} {kvs:List (List Key × V)} {k:List Key} (e:H a=some (.dT kvs)) (eb:H b=some (.tup (k.map kV))):DGet H a (.ref b) (valV kvs k):=.inr ⟨kvs,k,b,.inl e,rfl,eb,rfl⟩
theorem DPut.k {H:Hp} {a:Addr} {kvs:List (Key × V)} {k:Key} {v:V} (e:H a=some (.dK kvs)) (hl:kvs.length < sizeLine):DPut H a (kV k) v (upd H a (.dK (putK kvs k v))):=.inl ⟨kvs,k,e,rfl,hl,rfl⟩
theorem DPut.t {H:Hp} {a b:Addr} {kvs:List (List Key × V)} {k:List Key} {v:V} (e:H a=some (.dT kvs)) (eb:H b=some (.tup (k.map kV))) (hl:kvs.length < sizeLine) :
    DPut H a (.ref b) v (upd H a (.dT (putK kvs k v))):=.inr ⟨kvs,k,b,e,rfl,eb,hl,rfl⟩
section
variable {X:Cx} {pins:List (Addr × Obj)} {σ:St} {H:Hp} {s:Shared} {a:Addr} {y v:V} {u r:Value} {o:Option V} {A:Around} {E:Value->Shared->Prop}
theorem Inv.big (I:Inv X pins σ H s):sysModules < s.heap.objs.size:=by
  have h:mainGlobals < s.heap.objs.size:=(I.mod.glob.keeps I.bk).lt
  exact Nat.lt_trans (by decide) h
theorem Ze9 {h':Heap} {t':Nat} {ob:HO} (I:Inv X pins σ H s) (mu:Mut (H a)) (hs:Heap.SameBut a s.heap h') (he:∃ q,h'.get? a=some q) (new:ObjOk X.prog X.w (upd H a ob) h' a ob) :
    Inv X pins σ (upd H a ob) { s with heap:=h',toks:=t' } :=
  I.write (x:=a) (e:=a) mu (.inl rfl) (fun b q hb z=>(hs.2 b hb).trans z) he new
theorem Zjd {P:Program} {w:World} {H':Hp} {h':Heap} {kvs:List (Key × V)} {vs:List (Key × Value)} (z:kvs.length <= sizeLine) (hd:(a == sysModules)=false) (rel:KV kvs vs) (dd:h'.DictOf (Za8 P w) a vs) :
    ObjOk P w H' h' a (.dK kvs):=⟨z,hd,vs,rel,dd⟩
theorem Zje {H':Hp} {Q:Unit->Shared->Prop} (hu:A.units + 1 < cLine) (I:Inv X pins σ H s) (g:DPut H a y v H') (ry:RelV y u) (rv:RelV v r) (h:∀ s',Inv X pins σ H' s'->Q () s') :
    wpAny (model X.prog X.w) A (setItem (.ref a) u r) Q E s:=by
  rcases g with ⟨kvs,k,e,ey,l,eH⟩|⟨kvs,k,b,e,ey,eb,l,eH⟩
  . subst ey eH
    obtain ⟨z,hd,vs,rel,dd⟩:=Zkr I.hok e
    have hz:vs.length <= sizeLine:=by rw [<- rel.length]; exact z
    have hl:(putK kvs k v).length <= sizeLine:=by have:=ZcT kvs k v; omega
    refine wpAny_setItem_pairs (hsz:=hz) (Zit ry) dd fun h' dd' hs=>h _ ?_
    have he:∃ q,h'.get? a=some q:=let ⟨q,_,_,hq,_⟩:=dd'; ⟨q,hq⟩
    exact Ze9 I (by rw [e]; exact True.intro) hs he (Zjd hl hd (rel.put k rv) dd')
  . subst ey eH
    cases (show u=Value.ref b from ry)
    obtain ⟨z,hd,xs,rel,dd⟩:=dt_of I.hok e
    have hz:xs.length <= sizeLine:=by rw [<- Paired.length rel]; exact z
    have hl:(putK kvs k v).length <= sizeLine:=by have:=ZcT kvs k v; omega
    refine wpAny_setItem_heap (hsz:=hz) (tupleKind_room_in1 hu) (Zjc I.hok eb) dd fun h' dd' hs=>h _ ?_
    obtain ⟨q,es,ep,hq,h2,h3,h4,_,h5⟩:=dd'
    refine Ze9 I (by rw [e]; exact True.intro) hs ⟨q,hq⟩ ⟨hl,hd,_,(rel.put k eb rv).keeps fun c ys ec=>?_,q,es,ep,hq,h2,h3,h4,h5⟩
    rw [Zak (Zbl ec e (fun z=>nomatch z))]
    exact ec
end
section
variable {X:Cx} {pins:List (Addr × Obj)} {σ:St} {H:Hp} {s:Shared} {a:Addr} {kvs:List (Key × V)} {k:Key} {u:Value} {A:Around} {E:Value->Shared->Prop}
theorem d_delItem {Q:Unit->Shared->Prop} (I:Inv X pins σ H s) (e:H a=some (.dK kvs)) (ry:RelV (kV k) u) (l:(valV kvs k).isSome=true) (h:∀ s',Inv X pins σ (upd H a (.dK (dropK kvs k))) s'->Q () s') :
    wpAny (model X.prog X.w) A (delItem (.ref a) u) Q E s:=by
  obtain ⟨z,hd,vs,rel,dd⟩:=Zkr I.hok e
  refine wpAny_delItem_slot dd.typeIs (by decide) PySem.F.slot_dict_delitem
    (call_meetsIn PySem.F.slot_dict_delitem dd.typeIs PySem.F.entry_dict_delitem (PySem.F.args_dict_delitem_2 _ _) (meets_dict_delitem_pairs (Za8 X.prog X.w) a (Zit ry)) ⟨vs,dd,by rw [<- rel.length]; exact z,by rw [<- (rel.val k).isSome_eq]; exact l,fun h' dd' hs=>h _ ?_⟩)
  have he:∃ q,h'.get? a=some q:=let ⟨q,_,_,hq,_⟩:=dd'; ⟨q,hq⟩
  exact Ze9 I (by rw [e]; exact True.intro) hs he (Zjd (Nat.le_trans (Ze8 kvs k) z) hd (rel.drop k) dd')
theorem d_pop {v:V} {more:List Value} {Q:Value->Shared->Prop} (I:Inv X pins σ H s) (e:H a=some (.dK kvs)) (ry:RelV (kV k) u) (l:valV kvs k=some v) (hm:more=[]\/∃ x,more=[x])
    (h:∀ w' s',Inv X pins σ (upd H a (.dK (dropK kvs k))) s'->RelV v w'->Q w' s'):wpAny (model X.prog X.w) A (call (.builtin "dict.pop") (.ref a :: u :: more)) Q E s:=by
  obtain ⟨z,hd,vs,rel,dd⟩:=Zkr I.hok e
  obtain ⟨w',hw,rw'⟩:=RelO.some_of (v:=v) (o:=valueAt vs k) (by rw [<- l]; exact rel.val k)
  have hp:(keyPart u).isSome=true:=by
    cases k with
    | inl i=>obtain ⟨t,q⟩:=(show ∃ t,u=Value.int i t from ry); subst q; rfl
    | inr x=>obtain ⟨t,q⟩:=(show ∃ t,u=Value.str x t from ry); subst q; rfl
  have ha:argsOk "dict.pop" ⟨.ref a :: u :: more,[]⟩:=by
    rcases hm with q|⟨x,q⟩
    . subst q; exact PySem.F.args_dict_pop_2 _ _
    . subst q; exact PySem.F.args_dict_pop_3 _ _ _
  refine call_meetsIn PySem.F.slot_dict_pop dd.typeIs PySem.F.entry_dict_pop ha (meets_dict_pop_there (Za8 X.prog X.w) a (Zit ry) more hm hp)
    ⟨vs,w',dd,by rw [<- rel.length]; exact z,hw,fun h' dd' hs=>h w' _ ?_ rw'⟩
  have he:∃ q,h'.get? a=some q:=let ⟨q,_,_,hq,_⟩:=dd'; ⟨q,hq⟩
  exact Ze9 I (by rw [e]; exact True.intro) hs he (Zjd (Nat.le_trans (Ze8 kvs k) z) hd (rel.drop k) dd')
theorem d_popD {r:Value} {Q:Value->Shared->Prop} (I:Inv X pins σ H s) (e:H a=some (.dK kvs)) (ry:RelV (kV k) u) (l:valV kvs k=none) (h:∀ s',Inv X pins σ H s'->Q r s') :
    wpAny (model X.prog X.w) A (call (.builtin "dict.pop") [.ref a,u,r]) Q E s:=by
  obtain ⟨z,hd,vs,rel,dd⟩:=Zkr I.hok e
  have hn:valueAt vs k=none:=RelO.none_of (by rw [<- l]; exact rel.val k)
  have hp:(keyPart u).isSome=true:=by
    cases k with
    | inl i=>obtain ⟨t,q⟩:=(show ∃ t,u=Value.int i t from ry); subst q; rfl
    | inr x=>obtain ⟨t,q⟩:=(show ∃ t,u=Value.str x t from ry); subst q; rfl
  exact call_meetsIn PySem.F.slot_dict_pop dd.typeIs PySem.F.entry_dict_pop (PySem.F.args_dict_pop_3 _ _ _) (meets_dict_pop_default (Za8 X.prog X.w) a (Zit ry) hd hp r) ⟨vs,dd,hn,h _ (I.tok _)⟩
end
noncomputable def NoSl (i:Expr):Prop:=∀ ov iv,subscripted i false ov iv=operate [ov,iv] (getItem ov iv)
theorem ZlT {prog:Program} {w:World} {A:Around} {E:Value->Shared->Prop} {s:Shared} {env:Env} {value slice:Expr} {pos:Pos} {T id:String} {Q:Value->Shared->Prop}
    (hl:typeLookup (.type T) "__getitem__" = pure (some (.builtin id))) (hs:NoSl slice)
    (h:wpAny (model prog w) A (eval value env) (fun o s₁=>wpAny (model prog w) A (eval slice env) (fun i s₂=>s₂.TypeIs o T/\wpAny (model prog w) A (getItem o i) Q E s₂) E s₁) E s) :
    wpAny (model prog w) A (eval (.Subscript value slice pos) env) Q E s:=by
  refine Subscript_ (wpAny_mono h (fun o s₁ h₁=>wpAny_mono h₁ (fun i s₂ h₂=>?_) fun _ _ x=>x) fun _ _ x=>x)
  obtain ⟨hT,h₂⟩:=h₂
  unfold subscriptTail
  refine wpAny_bind ?_
  rw [getitemInPython_of_ne hT.not_modules]
  refine wpAny_bind (wpAny_specialOf hT hl ?_)
  have fin:wpAny (model prog w) A (subscripted slice false o i) (fun r s₃=>wpAny (model prog w) A (letTemporaryGo value o r >>= fun _=>pure r) Q E s₃) E s₂:=by
    rw [hs o i]
    exact wpAny_operating (wpAny_mono h₂ (fun r s₃ h₃=>wpAny_bind (wpAny_letTemporaryGo (wpAny_pure h₃))) fun _ _ x=>x)
  first
    | exact wpAny_pure (wpAny_bind fin)
    | exact wpAny_bind (wpAny_pure (wpAny_bind fin))
    | exact wpAny_bind fin
noncomputable def sDPut (td ty tv:TE):TS:=fun D σ H=>tv σ H fun v H1=>td σ H1 fun x H2=>ty σ H2 fun y H3=>∃ a H4,x=.ref a/\DPut H3 a y v H4/\D.nx σ H4
section
variable {X:Cx} {o i e value:Expr} {pos pos' tpos:Pos} {td ty tv:TE}
theorem ZlU (hu:X.A.units + 1 < cLine) (ho:PE X o td) (hi:PE X i ty) (hv:PE X value tv) (hs:swapsWith value (some (.Subscript o i pos')) pos.line X.env=pure false) :
    PS X (.Assign [.Subscript o i pos'] value pos) (sDPut td ty tv):=by
  intro pins s σ H D I h
  refine wpAny_Assign_Subscript (thn (hv pins s σ H _ I h) fun r s1 ⟨v,H1,I1,rv,q1⟩=>thn (ho pins s1 σ H1 _ I1 q1) fun u s2 ⟨x,H2,I2,rx,q2⟩=>thn (hi pins s2 σ H2 _ I2 q2) fun iv s3 ⟨y,H3,I3,ry,a,H4,ex,g,q3⟩=>?_) hs
  subst ex
  obtain rfl:u=Value.ref a:=rx
  exact Zje hu I3 g ry rv fun s4 I4=>⟨σ,H4,I4,q3⟩
end
theorem Zks {P:Program} {w:World} {H:Hp} (h:Heap) (hb:sysModules < h.objs.size):ObjOk P w H (h.push { cls:=.type "dict", data:=.dict #[] }) h.objs.size (.dK []) :=
  ⟨Nat.zero_le _,beq_eq_false_iff_ne.mpr (Ne.symm (Nat.ne_of_lt hb)),[],.nil,Heap.DictOf.new h⟩
noncomputable def tDNewK:TE:=fun _ H Q=>∀ p,H p=none->Q (.ref p) (upd H p (.dK []))
section
variable {X:Cx} {pos:Pos}
theorem Zkt:PE X (.Dict [] [] pos) tDNewK:=fun pins s σ H Q I h =>
  wpAny_Dict_empty ⟨.ref s.heap.objs.size,_,I.laid (a:=s.heap.objs.size) (o:=.dK []) (t':=s.toks) (fun _ _ q=>Heap.get?_push_of_some _ q) (Nat.le_refl _) (Zks s.heap I.big),rfl,h _ (I.hok.fresh (Nat.le_refl _))⟩
end
noncomputable abbrev VV:List (V × V)->List (Value × Value)->Prop:=Paired fun p q=>RelV p.1 q.1/\RelV p.2 q.2
structure M1 (X:Cx) (o:Expr) (m:Str) (apos:Pos) (e:Expr) (cpos:Pos):Prop where
  base:attributeBase o m X.env (eval o X.env)=eval o X.env
  few:((backTo cpos (starEach [e] X.env)).all (fun x=>!x.1) && (backToKw cpos (keywordEach [] X.env)).all (fun x=>x.1.isSome)
    && decide (([e]:List Expr).length + ([]:List Keyword).length + (if ([]:List Keyword).isEmpty then 0 else 1) < 30))=true
  line:(apos.endLine == cpos.line)=true
  trees:backTo cpos (starEach [e] X.env)=[(false,eval e X.env)]
structure M2 (X:Cx) (o:Expr) (m:Str) (apos:Pos) (e f:Expr) (cpos:Pos):Prop where
  base:attributeBase o m X.env (eval o X.env)=eval o X.env
  few:((backTo cpos (starEach [e,f] X.env)).all (fun x=>!x.1) && (backToKw cpos (keywordEach [] X.env)).all (fun x=>x.1.isSome)
    && decide (([e,f]:List Expr).length + ([]:List Keyword).length + (if ([]:List Keyword).isEmpty then 0 else 1) < 30))=true
  line:(apos.endLine == cpos.line)=true
  trees:backTo cpos (starEach [e,f] X.env)=[(false,eval e X.env),(false,eval f X.env)]
noncomputable def IsD (H:Hp) (a:Addr):Prop:=(∃ kvs,Rd H a (.dK kvs))\/∃ kvs,Rd H a (.dT kvs)
theorem Zll {X:Cx} {pins:List (Addr × Obj)} {σ:St} {H:Hp} {s:Shared} {a:Addr} (I:Inv X pins σ H s) (d:IsD H a) :
    s.TypeIs (.ref a) "dict" /\ (∀ b,Value.ref a=.ref b->∃ ob,s.heap.get? b=some ob/\ob.dict=none)/\(a == sysModules)=false:=by
  rcases d with ⟨kvs,e⟩|⟨kvs,e⟩
  . obtain ⟨_,hd,vs,_,dd⟩:=ZlR I.hok e
    refine ⟨dd.typeIs,fun b q=>?_,hd⟩
    cases q
    obtain ⟨ob,_,_,h1,h2,_⟩:=dd
    exact ⟨ob,h1,h2.2.1⟩
  . obtain ⟨_,hd,xs,_,dd⟩:=ZlS I.hok e
    refine ⟨dd.typeIs,fun b q=>?_,hd⟩
    cases q
    obtain ⟨ob,_,_,h1,h2,_⟩:=dd
    exact ⟨ob,h1,h2.2.1⟩
section
variable {X:Cx} {pins:List (Addr × Obj)} {σ:St} {H:Hp} {s:Shared} {a:Addr} {y d:V} {u r:Value} {o:Option V} {A:Around} {E:Value->Shared->Prop}
theorem d_get2 {Q:Value->Shared->Prop} (hu:A.units + 1 < cLine) (I:Inv X pins σ H s) (g:DGet H a y o) (ry:RelV y u) (rd:RelV d r) (h:∀ w' s',Inv X pins σ H s'->RelV (o.getD d) w'->Q w' s') :
    wpAny (model X.prog X.w) A (call (.builtin "dict.get") [.ref a,u,r]) Q E s:=by
  rcases g with ⟨kvs,k,e,ey,l⟩|⟨kvs,k,b,e,ey,eb,l⟩
  . subst ey
    obtain ⟨z,hd,vs,rel,dd⟩:=ZlR I.hok e
    refine call_meetsIn PySem.F.slot_dict_get dd.typeIs PySem.F.entry_dict_get (PySem.F.args_dict_get_3 _ _ _) (meets_dict_get_default (Za8 X.prog X.w) a (Zit ry) hd r) ⟨_,dd.mapOf,h _ _ (I.tok _) ?_⟩
    rw [l]
    exact (rel.val k).getD rd
  . subst ey
    cases (show u=Value.ref b from ry)
    obtain ⟨z,hd,xs,rel,dd⟩:=ZlS I.hok e
    refine call_meetsIn PySem.F.slot_dict_get dd.typeIs PySem.F.entry_dict_get (PySem.F.args_dict_get_3 _ _ _) (meetsH_dict_get_default (tupleKind (Za8 X.prog X.w)) a b hd r) ⟨tupleKind_room_in1 hu,k,xs,Zjc I.hok eb,dd,h _ _ (I.tok _) ?_⟩
    rw [l]
    exact (rel.val k).getD rd
end
noncomputable def tDGet2 (td ty tx:TE):TE:=fun σ H Q=>td σ H fun x H1=>∃ a,x=.ref a/\IsD H1 a/\ty σ H1 fun y H2=>tx σ H2 fun z H3=>∃ o,DGet H3 a y o/\Q (o.getD z) H3
noncomputable def tDPop2 (td ty tx:TE):TE:=fun σ H Q=>td σ H fun x H1=>∃ a,x=.ref a/\IsD H1 a/\ty σ H1 fun y H2=>tx σ H2 fun z H3=>∃ kvs k,H3 a=some (.dK kvs)/\y=kV k /\
  (∀ v,valV kvs k=some v->Q v (upd H3 a (.dK (dropK kvs k))))/\(valV kvs k=none->Q z H3)
section
variable {X:Cx} {o e f:Expr} {apos cpos:Pos} {td ty tx:TE}
theorem Zku (hu:X.A.units + 1 < cLine) (ho:PE X o td) (he:PE X e ty) (hf:PE X f tx) (m:M2 X o "get" apos e f cpos):PE X (.Call (.Attribute o "get" apos) [e,f] [] cpos) (tDGet2 td ty tx):=by
  intro pins s σ H Q I h
  refine wpAny_Call_method m.base m.few m.line PySem.F.plainAttrs_dict PySem.F.slot_dict_get PySem.F.type_dict_get (thn (ho pins s σ H _ I h) fun u s1 ⟨x,H1,I1,rx,a,ex,d,q1⟩=>?_)
  subst ex
  obtain rfl:u=Value.ref a:=rx
  obtain ⟨t1,t2,_⟩:=Zll I1 d
  refine ⟨t1,t2,?_⟩
  rw [m.trees]
  refine Calls.callWith_builtin rfl (Calls.evalArgs_plain (Calls.spliced_cons (thn (he pins s1 σ H1 _ I1 q1) fun iv s2 ⟨y,H2,I2,ry,q2⟩ =>
    Calls.spliced_cons (thn (hf pins s2 σ H2 _ I2 q2) fun fv s3 ⟨z,H3,I3,rz,ov,g,q3⟩=>Calls.spliced_nil ?_))))
  exact d_get2 hu I3 g ry rz fun w' s4 I4 rw'=>⟨_,H3,I4,rw',q3⟩
theorem Zkv (ho:PE X o td) (he:PE X e ty) (hf:PE X f tx) (m:M2 X o "pop" apos e f cpos):PE X (.Call (.Attribute o "pop" apos) [e,f] [] cpos) (tDPop2 td ty tx):=by
  intro pins s σ H Q I h
  refine wpAny_Call_method m.base m.few m.line PySem.F.plainAttrs_dict PySem.F.slot_dict_pop PySem.F.type_dict_pop (thn (ho pins s σ H _ I h) fun u s1 ⟨x,H1,I1,rx,a,ex,d,q1⟩=>?_)
  subst ex
  obtain rfl:u=Value.ref a:=rx
  obtain ⟨t1,t2,_⟩:=Zll I1 d
  refine ⟨t1,t2,?_⟩
  rw [m.trees]
  refine Calls.callWith_builtin rfl (Calls.evalArgs_plain (Calls.spliced_cons (thn (he pins s1 σ H1 _ I1 q1) fun iv s2 ⟨y,H2,I2,ry,q2⟩ =>
    Calls.spliced_cons (thn (hf pins s2 σ H2 _ I2 q2) fun fv s3 ⟨z,H3,I3,rz,kvs,k,ea,ey,q3,q4⟩=>Calls.spliced_nil ?_))))
  subst ey
  cases l:valV kvs k with
  | some v=>exact d_pop I3 ea ry l (.inr ⟨fv,rfl⟩) fun w' s4 I4 rw'=>⟨v,_,I4,rw',q3 v l⟩
  | none=>exact d_popD I3 ea ry l fun s4 I4=>⟨z,H3,I4,rz,q4 l⟩
end
section
variable {X:Cx} {pins:List (Addr × Obj)} {σ:St} {H:Hp} {s:Shared} {a:Addr} {kvs:List (Key × V)} {A:Around} {E:Value->Shared->Prop}
end
section
variable {X:Cx} {pins:List (Addr × Obj)} {σ:St} {H:Hp} {s:Shared} {a:Addr} {y:V} {u:Value} {A:Around} {E:Value->Shared->Prop}
end
end L2
namespace Att
open PySem PySem.W PySem.Calls PyProof.Rows
theorem Zec {P:Params} {h:Heap}:∀ (ns:List Int) (vs:List Value),WellAll P h vs (ns.map WData.int)->IntsAre vs ns:=by
  intro ns
  induction ns with
  | nil =>
    intro vs w
    rw [List.map_nil] at w
    cases w
    exact .nil
  | cons n ns ih =>
    intro vs w
    rw [List.map_cons] at w
    cases w with
    | cons a b =>
      cases a
      exact .cons _ _ (ih _ b)
theorem Zf6 {l:OpenLaw} {n:Nat} (hn:l.most=some n) {P:Params} {h:Heap} {args:List WData} {vals:List Value}
    (hpre:l.row.toRowW.claim.pre args=true) (hwl:WellAll P h vals args) :
    ∃ a vs ns,vals=[Value.ref a]/\args=[WData.list (ns.map WData.int)]/\h.get? a=some { cls:=.type "list", data:=.seq vs.toArray }/\IntsAre vs ns/\ns.length <= n:=by
  have hsh:WShape.hasAll [] args [.list .int]=true:=(pre_splitW hpre).1
  have hc:l.pre.holds [] { args:=args }=true:=(pre_splitW hpre).2
  obtain ⟨d,r,rfl,h1,h2⟩:=hasAllW_cons hsh
  obtain rfl:=hasAllW_nil h2
  obtain ⟨xs,rfl,h3⟩:=hasW_list h1
  obtain ⟨ns,rfl⟩:=items_int h3
  have hlen:ns.length <= n:=by
    unfold OpenLaw.pre at hc
    have h4:(WTm.not (.lt (.lit (.int (n:Int))) (.len (.arg 0)))).holds [] { args:=[.list (ns.map .int)] }=true:=by
      have h4:=(holds_andW hc).1
      rw [hn] at h4
      exact h4
    have h5:=condW_of h4 (w_not (w_lt w_lit (w_len_list (w_arg rfl))))
    rw [List.length_map] at h5
    refine Nat.le_of_not_lt fun q=>?_
    have q':(n:Int) < ((ns.length:Nat):Int):=by omega
    first
      | (rw [decide_eq_true q'] at h5; exact absurd h5 (by decide))
      | (simp at h5; omega)
  cases hwl with
  | cons w1 w2 =>
    cases w2
    cases w1 with
    | list ho hall=>exact ⟨_,_,ns,rfl,rfl,ho,Zec ns _ hall,hlen⟩
theorem Zf7 (l:OpenLaw) (args:List WData):l.row.toRowW.claim.post args (.bool true) args=true :=
  postW_of (r:=l.row.toRowW) (X:=(true == true))
    (show WShape.has [] (.bool true) .bool=true by first|rfl|decide|simp [WShape.has,WShape.arms,WShape.armsAll])
    (show (WTm.eq .res (.lit (.bool true))).value [] { args:=args,res:=some (.bool true),after:=args }=some (.bool (true == true)) from w_eq_bool (w_res rfl) w_lit) rfl
theorem attach {l:OpenLaw} {n:Nat} {q:Program} {loose:List Str} {XP:(Str->Option Value)->Heap->Prop} {YP:World->Heap->Prop} {d:DefRec} {x:Str}
    (hn:l.most=some n) (hdf:d.params.defaults=[])
    (hbind:∀ pm cd doc v:Value,bindArgs (docDef d.name d.params d.body d.scope pm cd doc) ⟨[v],[]⟩=pure [(x,v)])
    (hx:d.scope.names.lookup x=some .local\/d.scope.names.lookup x=some .cell)
    (hk:d.scope.kind=.function) (hco:d.scope.isCoroutine=false) (hgen:d.scope.isGenerator=false)
    (body:∀ (w:World) (s₀ s₁ s:Shared) (mg mb:Str->Option Value) (fa:Addr) (o:Obj) (pm cd doc:Value) (a:Addr) (vs:List Value) (ns:List Int),
      Ground q loose [] XP w s₀ mg mb s₁.heap->YP w s₁.heap ->
      s₁.heap.get? fa=some o->o.data=.func (docDef d.name d.params d.body d.scope pm cd doc)->s₁.heap.CodeRec cd d.name->mg d.name=some (.ref fa) ->
      s₁.heap.get? a=some { cls:=.type "list", data:=.seq vs.toArray }->IntsAre vs ns->ns.length <= n ->
      s.gens=#[]->s.os=s₁.os ->
      Fr s₁.heap s₁.heap.objs.size s.heap (bindL (envOfC d.name d.scope s₁.heap.objs.size fa cd).kindOf [(x,.ref a)] fun _=>none) ->
      Cl s₁.heap.objs.size (cellsFrom (s₁.heap.objs.size + 1) d.scope.names []) s.heap (bindC (envOfC d.name d.scope s₁.heap.objs.size fa cd).kindOf [(x,.ref a)] fun _=>none) ->
      wpAny (model l.prog w) (callerA.deeper (envOfC d.name d.scope s₁.heap.objs.size fa cd)) (execs d.body (envOfC d.name d.scope s₁.heap.objs.size fa cd))
        (fun f s'=>f=.ret (.bool true)/\OldK s₁.heap s'.heap/\s'.os=s₁.os/\AllBare s'.gens) (fun _ _=>False) s) :
    WalkO q loose XP YP l.row.toRowW d [] (fun f vs=>PySem.call f vs):=by
  intro w s₀ s₁ mg mb G Y fa o pm cd doc dV kV ho hd hcd hD hmg hg args vals as hpre hlay hrd hwl hlo
  obtain rfl:dV=.none:=Dflts.none hD hdf
  obtain rfl:kV=.none:=Dflts.noKw hD
  obtain ⟨a,vs,ns,rfl,rfl,hobj,hints,hlen⟩:=Zf6 hn hpre hwl
  refine enter_call ?_
  refine call_cells_ret (o:=o) (by rw [depth_caller]; decide) ho (fd_plain hd) G.T.nolimit hcd (hbind pm cd doc (.ref a)) (fun y hy=>?_) (fun h₁ tk F X=>?_) hco hgen hk
  . obtain rfl:y=(x,Value.ref a):=List.mem_singleton.mp hy
    rcases hx with e|e
    . exact .inl e
    . exact .inr ⟨e,cellsFrom_some _ _ _ (.inl e)⟩
  . refine wpAny_mono (body w s₀ s₁ { s₁ with heap:=h₁,toks:=tk } mg mb fa o pm cd doc a vs ns G Y ho (fd_plain hd) hcd hmg hobj hints hlen hg rfl F X) (fun f s' hq=>?_) (fun _ _ hq=>hq)
    obtain ⟨rfl,h2,h3,h4⟩:=hq
    exact ⟨.inl ⟨.bool true,.bool true,[],rfl,fun _=>rfl,.bool true,Zf7 l _,fun _=>⟨List.Pairwise.nil,fun _ hm=>(nomatch hm)⟩⟩,h2,h3,h4⟩
theorem Zg4 {l:OpenLaw} {n:Nat} {q:Program} {loose:List Str} {XP:(Str->Option Value)->Heap->Prop} {YP:World->Heap->Prop} {d:DefRec}
    (hn:l.most=some n) (hdf:d.params.defaults=[])
    (call:∀ (w:World) (s₀ s₁:Shared) (mg mb:Str->Option Value) (fa:Addr) (o:Obj) (pm cd doc:Value) (a:Addr) (vs:List Value) (ns:List Int),
      Ground q loose [] XP w s₀ mg mb s₁.heap->YP w s₁.heap ->
      s₁.heap.get? fa=some o->o.data=.func (docDef d.name d.params d.body d.scope pm cd doc)->s₁.heap.CodeRec cd d.name->mg d.name=some (.ref fa) ->
      s₁.heap.get? a=some { cls:=.type "list", data:=.seq vs.toArray }->IntsAre vs ns->ns.length <= n->s₁.gens=#[] ->
      codeAny (model l.prog w) callerA (.call (.ref fa) ⟨[.ref a],[]⟩) (fun r s'=>r=.ok (.ret (.bool true))/\OldK s₁.heap s'.heap/\s'.os=s₁.os/\AllBare s'.gens) s₁) :
    WalkO q loose XP YP l.row.toRowW d [] (fun f vs=>PySem.call f vs):=by
  intro w s₀ s₁ mg mb G Y fa o pm cd doc dV kV ho hd hcd hD hmg hg args vals as hpre hlay hrd hwl hlo
  obtain rfl:dV=.none:=Dflts.none hD hdf
  obtain rfl:kV=.none:=Dflts.noKw hD
  obtain ⟨a,vs,ns,rfl,rfl,hobj,hints,hlen⟩:=Zf6 hn hpre hwl
  refine enter_call (codeAny_mono (call w s₀ s₁ mg mb fa o pm cd doc a vs ns G Y ho (fd_plain hd) hcd hmg hobj hints hlen hg) fun r s' hq=>?_)
  obtain ⟨rfl,h2,h3,h4⟩:=hq
  exact ⟨.inl ⟨.bool true,.bool true,[],rfl,fun _=>rfl,.bool true,Zf7 l _,fun _=>⟨List.Pairwise.nil,fun _ hm=>(nomatch hm)⟩⟩,h2,h3,h4⟩
section
variable {prog:Program} {w:World} {A:Around} {E:Value->Shared->Prop} {s:Shared} {K:Frag}
end
end Att
namespace L2
open PySem PySem.Spec PyProof.Rows
theorem Zf8:∀ {vs:List Value} {ns:List Int},IntsAre vs ns->Vals (ns.map V.int) vs
  | _,_,.nil=>.nil
  | _,_,.cons n t h=>.cons ⟨t,rfl⟩ (Zf8 h)
noncomputable def Only (H:Hp):Prop:=∀ b,H b=none\/∃ o xs,H b=some (.frz o (.lst xs))
theorem Zkw {P:Program} {w:World} {K:PySem.W.Frag} {mg mb:Str->Option Value} {CX:CXT} {k:Nat} {fa a:Addr} {fd:FuncData} {x:Str} {sp:Sp} {s₁:Shared} {vs:List Value} {ns:List Int}
    (KX:K.In s₁.heap) (hns:s₁.heap.Ns mainGlobals mg) (hb:s₁.heap.Ns builtinsNs mb) (hbb:∀ x:Str,x ≠ "__name__" -> mb x=bootBuiltins x) (hlim:s₁.heap.NoLimit) (hg:s₁.gens=#[])
    (ha:s₁.heap.get? a=some { cls:=.type "list", data:=.seq vs.toArray }) (hi:IntsAre vs ns) (hl:ns.length <= sizeLine) (hr:Room k callerA)
    (F:∀ base:Heap,K.In base->base.Ns mainGlobals mg->FnOk P w K mg base CX k fa fd [x] sp) (hbind:∀ (s:Shared) (u:Value),BindsTo s fd ⟨[u],[]⟩ [(x,u)])
    (hsp:∀ H:Hp,Only H->SqL K H a (ns.map V.int)->sp [.ref a] H (fun v _=>v=.bl true) fun _ _ _=>False)
    (hCX:∀ H e s',CX [] H s₁ (fun _ _ _=>False) e s'->False) :
    codeAny (model P w) callerA (.call (.ref fa) ⟨[.ref a],[]⟩) (fun r s'=>r=.ok (.ret (.bool true))/\OldK s₁.heap s'.heap/\s'.os=s₁.os/\AllBare s'.gens) s₁:=by
  have rv:=Zf8 hi
  have lenV:=hi.length
  have core:∀ H:Hp,Only H->SqL K H a (ns.map V.int)->HOk P w H s₁.heap->(∀ b,H b ≠ none->b=a)->(H a ≠ none->K.lookup a=none) ->
      codeAny (model P w) callerA (.call (.ref fa) ⟨[.ref a],[]⟩) (fun r s'=>r=.ok (.ret (.bool true))/\OldK s₁.heap s'.heap/\s'.os=s₁.os/\AllBare s'.gens) s₁:=by
    intro H hO hS hok hA hK
    have base_of:∀ {b:Addr} {o:Obj},s₁.heap.get? b=some o->H b=none->(hidT s₁.heap H).get? b=some o:=fun e n=>Zkd e n
    have noA:∀ {b:Addr} {o:Obj} {es:Array DictEntry} {ep:Nat},s₁.heap.get? b=some o->o.data=.dict es ep->H b=none:=fun {b o es ep} e d=>by
      cases q:H b with
      | none=>rfl
      | some u =>
        have e':b=a:=hA b (by rw [q]; simp)
        subst e'
        rw [ha] at e; cases e
        have d':Data.seq vs.toArray _=Data.dict es ep:=d
        cases d'
    have nsK:∀ {b:Addr} {m:Str->Option Value},s₁.heap.Ns b m->(hidT s₁.heap H).Ns b m:=fun {b m} ⟨o,es,ep,e,d,r⟩=>⟨o,es,ep,base_of e (noA e d),d,r⟩
    have hKb:K.In (hidT s₁.heap H):=fun b o e=>base_of (KX b o e) (by
      cases q:H b with
      | none=>rfl
      | some u =>
        have e':b=a:=hA b (by rw [q]; simp)
        subst e'
        rw [hK (by rw [q]; simp)] at e; cases e)
    have hM:Mod K mg (hidT s₁.heap H):=⟨hKb,nsK hns,⟨mb,nsK hb,hbb⟩,let ⟨mc,h1,h2⟩:=hlim; ⟨mc,nsK h1,h2⟩⟩
    have e0:Env0 P w K mg (hidT s₁.heap H) callerA [] s₁ H:=⟨rfl,hM,fun b o e=>Zly e,Nat.le_of_eq (ZiR _ _),trivial,fun b hb=>absurd (show b ∈ ([]:List Addr) from hb) (by simp),hok,.of_eq hg⟩
    refine codeAny_mono ((F _ hKb (nsK hns)).run callerA [] s₁ H ⟨[.ref a],[]⟩ [.ref a] [.ref a] _ _ hr e0 (hbind s₁ (.ref a)) (.cons rfl .nil) (hsp H hO hS)) fun r s' h=>?_
    cases r with
    | error e=>exact (hCX H e s' h).elim
    | ok fl =>
      cases fl with
      | next=>exact False.elim h
      | brk=>exact False.elim h
      | cont=>exact False.elim h
      | ret u =>
        obtain ⟨v,H',os,bare,un,hok',r',q⟩:=h
        have q':v=.bl true:=q
        subst q'
        obtain rfl:u=Value.bool true:=r'
        refine ⟨rfl,OldK.of_keep fun b o e=>?_,os,bare⟩
        cases q:H b with
        | none=>exact un.keep b o e q (by intro z; exact absurd (show b ∈ ([]:List Addr) from z) (by simp)) (by simp)
        | some u =>
          rcases hO b with z|⟨ob,xs,z⟩
          . rw [q] at z; cases z
          . have z2:=un.frzs b ob _ z
            obtain ⟨e1,_⟩:=hok b _ z
            obtain ⟨e2,_⟩:=hok' b _ z2
            rw [e] at e1; cases e1
            exact e2
  cases hk:K.lookup a with
  | some o =>
    have e:=KX a o hk
    rw [ha] at e
    cases e
    refine core (fun _=>none) (fun _=>.inl rfl) (.inr ⟨_,vs.toArray,_,hk,rfl,rfl,rfl,by rw [List.size_toArray,lenV]; exact hl,by simpa using rv⟩) (fun b u z=>by have z':(none:Option HO)=some u:=z; cases z') (fun b z=>absurd rfl z) fun z=>absurd rfl z
  | none =>
    refine core (fun b=>if b=a then some (.frz { cls:=.type "list", data:=.seq vs.toArray } (.lst (ns.map V.int))) else none) (fun b=>?_) (.inl (.inr ⟨{ cls:=.type "list", data:=.seq vs.toArray },if_pos rfl⟩)) (fun b u z=>?_) (fun b z=>?_) fun _=>hk
    . by_cases hb:b=a
      . exact .inr ⟨_,_,if_pos hb⟩
      . exact .inl (if_neg hb)
    . by_cases hb:b=a
      . have z':=(if_pos hb).symm.trans z
        cases z'
        subst hb
        exact ⟨ha,by rw [List.length_map]; exact hl,vs,_,rv,ha⟩
      . have z':=(if_neg hb).symm.trans z
        cases z'
    . by_cases hb:b=a
      . exact hb
      . exact absurd (if_neg hb) z
end L2
namespace L2
open PySem PySem.Spec PyProof.Rows
noncomputable abbrev KOf {K:PySem.W.Frag} {h:Heap} (_:K.In h):PySem.W.Frag:=K
theorem ZlV {l:PySem.W.OpenLaw} {n k:Nat} {q:Program} {loose:List Str} {XP:(Str->Option Value)->Heap->Prop} {YP:World->Heap->Prop} {d:DefRec} {K:Params->PySem.W.Frag} {CX:World->CXT} {sp:World->Sp} {x:Str}
    (hn:l.most=some n) (hn2:n <= sizeLine) (hdf:d.params.defaults=[]) (hr:Room k callerA)
    (hY:∀ (w:World) (h:Heap),YP w h->(K w.params).In h)
    (F:∀ (w:World) (mg:Str->Option Value) (fa:Addr) (h:Heap),(K w.params).In h->h.Ns mainGlobals mg->mg d.name=some (.ref fa) ->
      ∃ fd:FuncData,(∀ (s:Shared) (u:Value),BindsTo s fd ⟨[u],[]⟩ [(x,u)]) /\
        ∀ base:Heap,(K w.params).In base->base.Ns mainGlobals mg->FnOk l.prog w (K w.params) mg base (CX w) k fa fd [x] (sp w))
    (hsp:∀ (w:World) (H:Hp) (a:Addr) (ns:List Int),ns.length <= n->Only H->SqL (K w.params) H a (ns.map V.int)->sp w [.ref a] H (fun v _=>v=.bl true) fun _ _ _=>False)
    (hCX:∀ (w:World) (H:Hp) (s:Shared) (e:Value) (s':Shared),CX w [] H s (fun _ _ _=>False) e s'->False) :
    PySem.W.WalkO q loose XP YP l.row.toRowW d [] (fun f vs=>PySem.call f vs):=by
  refine Att.Zg4 hn hdf fun w s₀ s₁ mg mb fa o pm cd doc a vs ns G Y ho hd hcd hmg hobj hints hlen hg=>?_
  have KX:=hY w _ Y
  obtain ⟨fd,hb,hF⟩:=F w mg fa _ KX G.T.g hmg
  exact Zkw KX G.T.g G.T.b G.T.builtins G.T.nolimit hg hobj hints (Nat.le_trans hlen hn2) hr hF hb (fun H hO hS=>hsp w H a ns hlen hO hS) fun H e s'=>hCX w H s₁ e s'
theorem Zkx {l:PySem.W.OpenLaw} {n k:Nat} {q:Program} {loose:List Str} {XP:(Str->Option Value)->Heap->Prop} {YP:World->Heap->Prop} {d:DefRec} {K:Params->PySem.W.Frag} {CX:CXT} {sp:PySem.W.Frag->Sp} {x:Str}
    (hn:l.most=some n) (hn2:n <= sizeLine) (hdf:d.params.defaults=[]) (hr:Room k callerA)
    (hY:∀ (w:World) (h:Heap),YP w h->(K w.params).In h)
    (F:∀ (w:World) (mg:Str->Option Value) (fa:Addr) (h:Heap),(K w.params).In h->h.Ns mainGlobals mg->mg d.name=some (.ref fa) ->
      ∃ fd:FuncData,(∀ (s:Shared) (u:Value),BindsTo s fd ⟨[u],[]⟩ [(x,u)]) /\
        ∀ base:Heap,(K w.params).In base->base.Ns mainGlobals mg->FnOk l.prog w (K w.params) mg base CX k fa fd [x] (sp (K w.params)))
    (hsp:∀ (K:PySem.W.Frag) (H:Hp) (a:Addr) (ns:List Int),ns.length <= n->Only H->SqL K H a (ns.map V.int)->sp K [.ref a] H (fun v _=>v=.bl true) fun _ _ _=>False)
    (hCX:∀ (H:Hp) (s:Shared) (e:Value) (s':Shared),CX [] H s (fun _ _ _=>False) e s'->False) :
    PySem.W.WalkO q loose XP YP l.row.toRowW d [] (fun f vs=>PySem.call f vs) :=
  ZlV (K:=K) (CX:=fun _=>CX) (sp:=fun w=>sp (K w.params)) hn hn2 hdf hr hY F (fun w H a ns h1 h2 h3=>hsp (K w.params) H a ns h1 h2 h3) fun _ H s e s'=>hCX H s e s'
end L2
namespace L2
open PySem PySem.Spec PyProof.Rows
noncomputable def ZaE (s:Stmt) (j:Nat):Stmt:=match s with
  | .ClassDef _ _ _ body _ _ _ _ _ _ _=>body.getD j (.Pass ⟨0,0,0,0⟩)
  | _=>.Pass ⟨0,0,0,0⟩
noncomputable def Zaw (s:Stmt):Arguments:=match s with
  | .FunctionDef _ a _ _ _ _ _ _ _ _=>a
  | _=>{ posonlyargs:=[],args:=[],vararg:=none,kwonlyargs:=[],kw_defaults:=[],kwarg:=none,defaults:=[] }
noncomputable def Zas (s:Stmt):List Stmt:=match s with
  | .FunctionDef _ _ b _ _ _ _ _ _ _=>b
  | _=>[]
noncomputable def Zac (s:Stmt):Scope:=match s with
  | .FunctionDef _ _ _ _ _ _ sc _ _ _=>sc
  | _=>{ kind:=.function,names:=[],isGenerator:=false,isCoroutine:=false }
noncomputable abbrev CX0:CXT:=fun _ _ _ _ _ _=>False
noncomputable abbrev E0:XK:=fun _ _ _=>False
theorem pass0 {X:Cx}:Zea CX0 X E0:=fun _ _ _ _ _ _ _ h=>h.elim
structure Fun (K:PySem.W.Frag) (x qual:Str) (st:Stmt) (f:Addr) (fd:FuncData):Prop where
  ex:∃ (oc:Value) (od:Option Addr) (kV doc pm:Value) (an:Option Addr) (cdv ct:Value) (osl:Array (Option Value)),
    fd=PySem.W.fnOf x qual (Zaw st) (Zas st) (Zac st) .none kV doc pm an cdv ct/\K.lookup f=some ⟨oc,od,.func fd,osl⟩/\PySem.W.codeIn K cdv qual=true
  kp:PySem.W.keepIn K (.ref f)=true
section
variable {P:Program} {w:World} {K:PySem.W.Frag} {mg:Str->Option Value} {base:Heap}
theorem Fun.ok {x qual:Str} {st:Stmt} {f:Addr} {fd:FuncData} {N ps:List Str} {k:Nat} {sp:Sp} (F:Fun K x qual st f fd) (S:FnScope N ps (Zac st)) (len:∀ vs H Q E,sp vs H Q E->vs.length=ps.length)
    (hbody:∀ (cdv:Value) (A:Around) (outer:List Env) (s:Shared) (H:Hp) (vs:List V) (Q:VK) (E:XK),Room k (A.deeper (envOfC qual (Zac st) s.heap.objs.size f cdv))->sp vs H Q E ->
      ∃ t,PSs (cxOf CX0 P w K mg base N qual (Zac st) f cdv A outer s H E).nox (Zas st) t/\t { nx:=fun _ H'=>Q .non H',rt:=Q } (start N vs) H):FnOk P w K mg base CX0 (k + 1) f fd ps sp:=by
  obtain ⟨oc,od,kV,doc,pm,an,cdv,ct,osl,rfl,lk,hcd⟩:=F.ex
  refine fn_of lk hcd S len fun A outer s H vs Q E hr hsp=>?_
  obtain ⟨t,h,q⟩:=hbody cdv A outer s H vs Q E hr hsp
  exact ⟨t,h.nox,q⟩
theorem Fun.binds {x qual:Str} {st:Stmt} {f:Addr} {fd:FuncData} {ps:List Str} (F:Fun K x qual st f fd)
    (h:∀ (kV doc pm:Value) (an:Option Addr) (cdv ct:Value) (us:List Value),us.length=ps.length->bindArgs (PySem.W.fnOf x qual (Zaw st) (Zas st) (Zac st) .none kV doc pm an cdv ct) ⟨us,[]⟩=pure (ps.zip us)):Binds K fd ps []:=by
  obtain ⟨oc,od,kV,doc,pm,an,cdv,ct,osl,rfl,lk,hcd⟩:=F.ex
  exact .all (h kV doc pm an cdv ct)
theorem Zlm {x qual:Str} {st:Stmt} {f:Addr} {oc:Value} {od an:Option Addr} {osl:Array (Option Value)} {kV doc pm cdv ct:Value} (l:K.lookup f=some ⟨oc,od,.func (PySem.W.fnOf x qual (Zaw st) (Zas st) (Zac st) .none kV doc pm an cdv ct),osl⟩)
    (c:PySem.W.codeIn K cdv qual=true) (k:PySem.W.keepIn K (.ref f)=true):Fun K x qual st f (PySem.W.fnOf x qual (Zaw st) (Zas st) (Zac st) .none kV doc pm an cdv ct):=⟨⟨oc,od,kV,doc,pm,an,cdv,ct,osl,rfl,l,c⟩,k⟩
end
theorem hu_of {A:Around} {k:Nat} (hr:Room k A):A.units + 1 < cLine:=Nat.lt_of_le_of_lt (Nat.add_le_add_left (by decide:1 <= 64) _) hr.units
section
variable {X:Cx}
theorem pv (i:Nat) {x:Str} {pos:Pos} (hN:X.N[i]?=some x:=by rfl) (hv:Vis X.env.scope x:=by first|exact Or.inl rfl|exact Or.inr (Or.inl rfl)|exact Or.inr (Or.inr rfl)) (hd:(x == ("__debug__" : Str))=false:=by decide)
    (hcd:(x == ("__classdict__" : Str))=false:=by decide):PE X (.Name x pos) (tVar i):=pe_var hN hv hd hcd
end
theorem iteF {A B:Prop} (h:B):if false=true then A else B:=by
  rw [if_neg Bool.false_ne_true]
  exact h
theorem iteT {A B:Prop} (h:A):if true=true then A else B:=by
  rw [if_pos rfl]
  exact h
noncomputable def Same (H H':Hp):Prop:=∀ b o,H b=some o->H' b=some o
theorem Same.refl (H:Hp):Same H H:=fun _ _ h=>h
theorem Same.trans {H H1 H2:Hp} (a:Same H H1) (b:Same H1 H2):Same H H2:=fun c o h=>b c o (a c o h)
theorem Same.free {H H':Hp} (e:Same H H') {l:Addr} (h:H' l=Option.none):H l=Option.none:=by
  cases q:H l with
  | none=>rfl
  | some o =>
    rw [e l o q] at h
    cases h
theorem Same.seq {K:PySem.W.Frag} {H H':Hp} {a:Addr} {xs:List V} (e:Same H H') (h:SqL K H a xs):SqL K H' a xs:=by
  rcases h with (h|⟨o,h⟩)|h
  . exact .inl (.inl (e _ _ h))
  . exact .inl (.inr ⟨o,e _ _ h⟩)
  . exact .inr h
section
variable {κ:Type} [DecidableEq κ]
theorem Zh4 {kvs:List (κ × V)} {k:κ} (h:valV kvs k=none):¬ k ∈ kvs.map (·.1):=by
  intro m
  obtain ⟨p,hp,e⟩:=List.mem_map.mp m
  have q:(kvs.any fun kv=>decide (kv.1=k))=true:=List.any_eq_true.mpr ⟨p,hp,decide_eq_true e⟩
  rw [Zcb,h] at q
  exact absurd q (by simp)
theorem Zjf:∀ {l:List κ} {k:κ},l.Nodup->¬ k ∈ l->(l ++ [k]).Nodup
  | [],k,_,_=>by simp
  | a :: r,k,h,hk=>by
    obtain ⟨h1,h2⟩:=List.nodup_cons.mp h
    show (a :: (r ++ [k])).Nodup
    refine List.nodup_cons.mpr ⟨fun m=>?_,Zjf h2 fun m=>hk (List.mem_cons.mpr (Or.inr m))⟩
    rcases List.mem_append.mp m with q|q
    . exact h1 q
    . exact hk (List.mem_cons.mpr (Or.inl (List.mem_singleton.mp q).symm))
theorem ZlW {kvs:List (κ × V)} {k:κ} (v:V) (hn:(kvs.map (·.1)).Nodup) (h:valV kvs k=none):((putK kvs k v).map (·.1)).Nodup:=by
  rw [Zkq v h,List.map_append]
  exact Zjf hn (Zh4 h)
theorem Zf9 {p:κ × V} {r:List (κ × V)} {k:κ} (e:p.1=k):dropK (p :: r) k=dropK r k:=by
  unfold dropK
  rw [List.filter_cons,if_neg (by simp [e])]
theorem Zga {p:κ × V} {r:List (κ × V)} {k:κ} (e:¬ p.1=k):dropK (p :: r) k=p :: dropK r k:=by
  unfold dropK
  rw [List.filter_cons,if_pos (by simp [e])]
theorem Zgb {kvs:List (κ × V)} {k:κ} {p:κ × V} (h:p ∈ dropK kvs k):p ∈ kvs:=(List.mem_filter.mp h).1
theorem Zfa:∀ {kvs:List (κ × V)} {k:κ},(kvs.map (·.1)).Nodup->((dropK kvs k).map (·.1)).Nodup
  | [],_,_=>List.nodup_nil
  | p :: r,k,h=>by
    have h:(p.1 :: r.map (·.1)).Nodup:=h
    obtain ⟨h1,h2⟩:=List.nodup_cons.mp h
    by_cases e:p.1=k
    . rw [Zf9 e]
      exact Zfa h2
    . rw [Zga e]
      show (p.1 :: (dropK r k).map (·.1)).Nodup
      refine List.nodup_cons.mpr ⟨fun m=>h1 ?_,Zfa h2⟩
      obtain ⟨q,hq,eq⟩:=List.mem_map.mp m
      exact List.mem_map.mpr ⟨q,Zgb hq,eq⟩
end
end L2
namespace L2
open PySem PySem.Spec PyProof.Rows
noncomputable def hid (own:List Str) (x:Str):Str:=if own.contains x=true then "" else x
structure CompScope (sc:Scope) (N own:List Str) (scope:Scope):Prop where
  kind:scope.kind=.function
  nocell:∀ y ∈ scope.names,y.2 ≠ .cell
  names:∀ y ∈ scope.names,y.2=.local->scope.names.lookup y.1=some .local
  free:∀ y ∈ scope.names,y.2=.free->sc.names.lookup y.1=some .cell\/sc.names.lookup y.1=some .free
  dis:∀ x ∈ N,scope.names.lookup x=some .local->own.contains x=true
  no:scope.names.lookup ("" : Str)=none
noncomputable def cxComp (X:Cx) (own:List Str) (scope:Scope) (cl:List (Str × Addr)) (C:Addr) (s:Shared) (H:Hp) (ex:List Addr):Cx :=
  { X with N:=own ++ X.N.map (hid own),s₀:=s,H₀:=H,env:=compEnvC scope cl C X.env,outer:=X.stack,stack:=X.stack,ex:=ex,fn:=fun _=>false,pn:=[],xe:=fun _ _=>False }
theorem Zdd {κ:Type} [BEq κ] [LawfulBEq κ] {β:Type}:∀ {l:List (κ × β)} {x:κ} {v:β},l.lookup x=some v->(x,v) ∈ l
  | [],_,_,h=>by simp at h
  | (y,u) :: r,x,v,h=>by
    rw [List.lookup_cons] at h
    cases e:x == y with
    | true =>
      rw [e] at h
      cases h
      rw [eq_of_beq e]
      exact List.mem_cons_self
    | false =>
      rw [e] at h
      exact List.mem_cons_of_mem _ (Zdd h)
theorem Ziu {scope:Scope} {env:Env} (h:∀ y ∈ scope.names,y.2=.free->∃ c,env.cells.lookup y.1=some c) :
    ∃ cl,closureFor scope env=pure cl/\(∀ x c,cl.lookup x=some c->env.cells.lookup x=some c)/\∀ y ∈ scope.names,y.2=.free->∃ c,cl.lookup y.1=some c:=by
  have gen:∀ (names:List (Str × NameKind)) (acc:List (Str × Addr)),(∀ y ∈ names,y.2=.free->∃ c,env.cells.lookup y.1=some c)->(∀ x c,acc.lookup x=some c->env.cells.lookup x=some c) ->
      ∃ cl,(forIn names acc fun (x:Str × NameKind) (r:List (Str × Addr))=>if (x.2 == NameKind.free)=true then (do let a <- cellOf env x.1; pure (ForInStep.yield ((x.1,a) :: r))) else pure (ForInStep.yield r):Sem (List (Str × Addr)))=pure cl/\(∀ x c,cl.lookup x=some c->env.cells.lookup x=some c) /\
        (∀ y ∈ names,y.2=.free->∃ c,cl.lookup y.1=some c)/\∀ x c,acc.lookup x=some c->∃ c',cl.lookup x=some c':=by
    intro names
    induction names with
    | nil=>intro acc _ ha; exact ⟨acc,by simp [List.forIn_nil],ha,fun y hy=>by simp at hy,fun x c e=>⟨c,e⟩⟩
    | cons y r ih =>
      intro acc hn ha
      rw [List.forIn_cons]
      by_cases hf:y.2=.free
      . obtain ⟨c,hc⟩:=hn y List.mem_cons_self hf
        have e1:(y.2 == NameKind.free)=true:=by rw [hf]; rfl
        have ce:cellOf env y.1=pure c:=by unfold cellOf; rw [hc]
        obtain ⟨cl,h1,h2,h3,h4⟩:=ih ((y.1,c) :: acc) (fun z hz=>hn z (List.mem_cons_of_mem _ hz)) (fun x c' e=>by
          rw [List.lookup_cons] at e
          cases q:x == y.1 with
          | true=>rw [q] at e; cases e; rw [eq_of_beq q]; exact hc
          | false=>rw [q] at e; exact ha x c' e)
        refine ⟨cl,?_,h2,?_,?_⟩
        . rw [if_pos e1,ce]
          simpa using h1
        . intro z hz zf
          rcases List.mem_cons.mp hz with rfl|hz
          . exact h4 z.1 c (by rw [List.lookup_cons]; simp)
          . exact h3 z hz zf
        . intro x c' e
          cases q:x == y.1 with
          | true=>exact h4 x c (by rw [List.lookup_cons,q])
          | false=>exact h4 x c' (by rw [List.lookup_cons,q]; exact e)
      . have e1:¬ (y.2 == NameKind.free)=true:=by intro z; exact hf (by simpa using z)
        obtain ⟨cl,h1,h2,h3,h4⟩:=ih acc (fun z hz=>hn z (List.mem_cons_of_mem _ hz)) ha
        refine ⟨cl,?_,h2,?_,h4⟩
        . rw [if_neg e1]
          simpa using h1
        . intro z hz zf
          rcases List.mem_cons.mp hz with rfl|hz
          . exact absurd zf hf
          . exact h3 z hz zf
  obtain ⟨cl,h1,h2,h3,_⟩:=gen scope.names [] h (fun x c e=>by simp at e)
  refine ⟨cl,?_,h2,h3⟩
  unfold closureFor
  simpa using h1
theorem Zcc {scope:Scope} {env:Env}:∀ {names:List (Str × NameKind)} {x:Str},(∀ y ∈ names,y.2 ≠ .cell) ->
    (names.map fun (n,k)=>if (k == NameKind.free && env.scope.kind == .function && env.kindOf n == some .cell)=true then (n,NameKind.cell) else (n,k)).lookup x=some .local->names.lookup x=some .local
  | [],_,_,h=>by simp at h
  | (n,k) :: r,x,hc,h=>by
    rw [List.map_cons,List.lookup_cons] at h
    rw [List.lookup_cons]
    by_cases q:(k == NameKind.free && env.scope.kind == .function && env.kindOf n == some .cell)=true
    . simp only [q,if_true] at h
      cases e:x == n with
      | true=>rw [e] at h; cases h
      | false=>rw [e] at h; exact Zcc (scope:=scope) (env:=env) (fun y hy=>hc y (List.mem_cons_of_mem _ hy)) h
    . simp only [q] at h
      cases e:x == n with
      | true=>simpa [e] using h
      | false =>
        have h':(r.map fun (n,k)=>if (k == NameKind.free && env.scope.kind == .function && env.kindOf n == some .cell)=true then (n,NameKind.cell) else (n,k)).lookup x=some .local:=by simpa [e] using h
        exact Zcc (scope:=scope) (env:=env) (fun y hy=>hc y (List.mem_cons_of_mem _ hy)) h'
theorem Zcd {scope:Scope} {env:Env}:∀ {names:List (Str × NameKind)} {x:Str},(∀ y ∈ names,y.2 ≠ .cell) ->
    ((names.map fun (n,k)=>if (k == NameKind.free && env.scope.kind == .function && env.kindOf n == some .cell)=true then (n,NameKind.cell) else (n,k)).lookup x=some .cell \/
     (names.map fun (n,k)=>if (k == NameKind.free && env.scope.kind == .function && env.kindOf n == some .cell)=true then (n,NameKind.cell) else (n,k)).lookup x=some .free)->(x,NameKind.free) ∈ names
  | [],_,_,h=>by simp at h
  | (n,k) :: r,x,hc,h=>by
    rw [List.map_cons,List.lookup_cons] at h
    by_cases q:(k == NameKind.free && env.scope.kind == .function && env.kindOf n == some .cell)=true
    . have kf:k=.free:=by
        simp only [Bool.and_eq_true,beq_iff_eq] at q
        exact q.1.1
      simp only [q,if_true] at h
      cases e:x == n with
      | true=>rw [eq_of_beq e,kf]; exact List.mem_cons_self
      | false =>
        rw [e] at h
        exact List.mem_cons_of_mem _ (Zcd (scope:=scope) (env:=env) (fun y hy=>hc y (List.mem_cons_of_mem _ hy)) h)
    . simp only [q] at h
      cases e:x == n with
      | true =>
        have h':k=.cell\/k=.free:=by simpa [e] using h
        rcases h' with z|z
        . exact absurd z (hc (n,k) List.mem_cons_self)
        . rw [eq_of_beq e,z]; exact List.mem_cons_self
      | false =>
        have h':((r.map fun (n,k)=>if (k == NameKind.free && env.scope.kind == .function && env.kindOf n == some .cell)=true then (n,NameKind.cell) else (n,k)).lookup x=some .cell \/
     (r.map fun (n,k)=>if (k == NameKind.free && env.scope.kind == .function && env.kindOf n == some .cell)=true then (n,NameKind.cell) else (n,k)).lookup x=some .free):=by simpa [e] using h
        exact List.mem_cons_of_mem _ (Zcd (scope:=scope) (env:=env) (fun y hy=>hc y (List.mem_cons_of_mem _ hy)) h')
theorem Zcq {env:Env}:∀ {names:List (Str × NameKind)} {x:Str},names.lookup x=none ->
    (names.map fun (n,k)=>if (k == NameKind.free && env.scope.kind == .function && env.kindOf n == some .cell)=true then (n,NameKind.cell) else (n,k)).lookup x=none
  | [],_,_=>rfl
  | (n,k) :: r,x,h=>by
    rw [List.lookup_cons] at h
    rw [List.map_cons,List.lookup_cons]
    cases e:x == n with
    | true=>rw [e] at h; cases h
    | false =>
      rw [e] at h
      by_cases q:(k == NameKind.free && env.scope.kind == .function && env.kindOf n == some .cell)=true
      . simp only [q,if_true,e]
        exact Zcq h
      . simp only [q,e]
        simpa [e] using Zcq (env:=env) h
theorem Inv.block {X:Cx} {pins:List (Addr × Obj)} {σ:St} {H:Hp} {s:Shared} {own:List Str} {scope:Scope} {cl:List (Str × Addr)} {fp:List Addr} {h':Heap}
    (I:Inv X pins σ H s) (S:CompScope X.env.scope X.N own scope)
    (c1:∀ x c,cl.lookup x=some c->X.env.cells.lookup x=some c) (c2:∀ y ∈ scope.names,y.2=.free->∃ c,cl.lookup y.1=some c)
    (f:∀ b ∈ fp,FpOk X pins H b) (fo:∀ b ∈ fp,b < s.heap.objs.size)
    (ns:h'.Ns s.heap.objs.size (fun _=>none)) (k:∀ b o,s.heap.get? b=some o->h'.get? b=some o) {t':Nat} :
    Inv (cxComp X own scope cl s.heap.objs.size s H fp) [] (List.replicate own.length none ++ σ) H { s with heap:=h',toks:=t' }:=by
  have kd:∀ x,(compEnvC scope cl s.heap.objs.size X.env).kindOf x=some .cell\/(compEnvC scope cl s.heap.objs.size X.env).kindOf x=some .free->(x,NameKind.free) ∈ scope.names:=fun x h=>Zcd (scope:=scope) (env:=X.env) S.nocell h
  have okY:(cxComp X own scope cl s.heap.objs.size s H fp).Ok:=by
    refine ⟨I.ok.mod,S.kind,I.ok.glob,I.ok.blt,Nat.le_refl _,fun x y c hx hy=>I.ok.inj x y c (c1 x c hx) (c1 y c hy),fun x hx=>?_,fun x c hf=>(nomatch hf),I.ok.hd,I.ok.frames,.inl rfl,fun b hb=>⟨?_,fun x c hc=>?_⟩,I.bs,Nat.le_trans I.ok.bsz I.sz,fun b o e hb=>?_,fun b hb hfs=>?_,I.stack,I.stkFree⟩
    . exact c2 (x,.free) (kd x hx) rfl
    . exact Nat.ne_of_lt (fo b hb)
    . exact (f b hb).2.2.2.2.1 x c (c1 x c hc)
    . rcases (f b hb).2.2.2.1 with z|z
      . exact I.ok.noex b o e z
      . exact absurd (Nat.lt_of_lt_of_le (Heap.lt_size e) (Nat.le_trans I.ok.bsz z)) (Nat.lt_irrefl _)
    . obtain ⟨_,f1,f2,_⟩:=f b hb
      rcases List.mem_cons.mp (I.stkSub b hfs) with z|z
      . exact f1 z
      . exact f2 z
  refine ⟨okY,rfl,I.bare,Un.kept k,⟨_,ns,fun i x v e1 e2 e3=>?_⟩,fun x c hc=>?_,I.hok.fresh (Nat.le_refl _),fun x c hc=>I.freeC x c (c1 x c hc),fun p hp=>by simp [cxComp] at hp,I.hok.kept k,?_⟩
  . by_cases hi:i < own.length
    . have e2':(List.replicate own.length (none:Option V) ++ σ)[i]?=some (some v):=e2
      rw [List.getElem?_append_left (by simpa using hi),List.getElem?_replicate,if_pos hi] at e2'
      cases e2'
    . have hle:own.length <= i:=Nat.le_of_not_lt hi
      have e2':σ[i - own.length]?=some (some v):=by
        have e2':(List.replicate own.length (none:Option V) ++ σ)[i]?=some (some v):=e2
        rw [List.getElem?_append_right (by simpa using hle)] at e2'
        simpa using e2'
      have e1'':(X.N.map (hid own))[i - own.length]?=some x:=by
        have e1':(own ++ X.N.map (hid own))[i]?=some x:=e1
        rwa [List.getElem?_append_right hle] at e1'
      rw [List.getElem?_map] at e1''
      obtain ⟨y,e1',ey⟩:=Option.map_eq_some_iff.mp e1''
      have hy:own.contains y=false:=by
        cases hc:own.contains y with
        | false=>rfl
        | true =>
          unfold hid at ey
          rw [if_pos hc] at ey
          subst ey
          have e3':(scope.names.map fun (n,k)=>if (k == NameKind.free && X.env.scope.kind == .function && X.env.kindOf n == some .cell)=true then (n,NameKind.cell) else (n,k)).lookup ("" : Str) ≠ none:=by
            rcases e3 with z|z|z <;> (intro q; have z':(scope.names.map fun (n,k)=>if (k == NameKind.free && X.env.scope.kind == .function && X.env.kindOf n == some .cell)=true then (n,NameKind.cell) else (n,k)).lookup ("" : Str)=_:=z; rw [q] at z'; cases z')
          exact absurd (Zcq S.no) e3'
      have exy:y=x:=by
        unfold hid at ey
        rw [if_neg (by rw [hy]; exact Bool.false_ne_true)] at ey
        exact ey
      subst exy
      have hm:y ∈ X.N:=List.mem_of_getElem? e1'
      have h3:(compEnvC scope cl s.heap.objs.size X.env).kindOf y=some .cell\/(compEnvC scope cl s.heap.objs.size X.env).kindOf y=some .free:=by
        rcases e3 with z|z
        . have:=S.dis y hm (Zcc (scope:=scope) (env:=X.env) S.nocell z)
          rw [hy] at this
          cases this
        . exact z
      have hfree:=kd y h3
      obtain ⟨c,hc⟩:=c2 (y,.free) hfree rfl
      have hout:=S.free (y,.free) hfree rfl
      obtain ⟨m,hn,hl⟩:=I.loc
      obtain ⟨u,r,l⟩:=hl _ y v e1' e2' (hout.elim (fun z=>.inr (.inl z)) (fun z=>.inr (.inr z)))
      refine ⟨u,r,.inr ⟨h3,c,hc,?_⟩⟩
      rcases l with ⟨kl,_⟩|⟨_,c',hc',hcell⟩
      . rcases hout with z|z
        . rw [show X.env.kindOf y=X.env.scope.names.lookup y from rfl,z] at kl; cases kl
        . rw [show X.env.kindOf y=X.env.scope.names.lookup y from rfl,z] at kl; cases kl
      . rw [c1 y c hc] at hc'
        cases hc'
        obtain ⟨o,ho,hd⟩:=hcell
        exact ⟨o,k c o ho,hd⟩
  . obtain ⟨v,o,ho,hd⟩:=I.cell x c (c1 x c hc)
    exact ⟨v,o,k c o ho,hd⟩
  . show (List.replicate own.length (none:Option V) ++ σ).length=(own ++ X.N.map (hid own)).length
    rw [List.length_append,List.length_append,List.length_replicate,List.length_map,I.len]
noncomputable def PIf (X:Cx) (ifs:List Expr) (tc:TT):Prop :=
  ∀ (pins:List (Addr × Obj)) (s:Shared) (σ:St) (H:Hp) (Q:Bool->Hp->Prop),Inv X pins σ H s->tc σ H Q ->
    wpAny (model X.prog X.w) X.A (forIn ifs true fun c r=>if r=true then do let ok <- isTrue c X.env (eval c X.env); pure (ForInStep.yield ok) else pure (ForInStep.yield r)) (TP X pins σ Q) X.xe s
noncomputable def tNoIf:TT:=fun _ H Q=>Q true H
theorem ZlX {X:Cx}:PIf X [] tNoIf:=by
  intro pins s σ H Q I h
  rw [List.forIn_nil]
  exact wpAny_pure ⟨H,I,h⟩
noncomputable def tLoopC (k:Nat) (g:TG) (tc:TT) (te:TE) (J:It) (p:Addr) (R:Hp->Prop) (σ:St) (H:Hp):Prop :=
  ∃ W:Nat->Nat->St->Hp->Prop,(∃ m,W 0 m (List.replicate k none ++ σ) (upd H p (.lst [])))/\∀ i m σ' H',W i m σ' H' ->
    (J.stop i H'/\R H')\/(J.go i H'/\∃ N:St->Hp->Prop,(∀ σ2 H2,N σ2 H2->∃ m',m' < m/\W (i + 1) m' σ2 H2)/\∀ x H1,J.yld i H' x H1->g x σ' H1 fun σ2 H2=>tc σ2 H2 fun b H3 =>
      if b=true then te σ2 H3 fun v H4=>∃ ys,H4 p=some (.lst ys)/\ys.length < sizeLine/\N σ2 (upd H4 p (.lst (ys ++ [v]))) else N σ2 H3)
noncomputable def tComp (k:Nat) (wi:TI) (g:TG) (tc:TT) (te:TE):TE:=fun σ H Q=>wi σ H fun J H1=>∀ p,H1 p=none->tLoopC k g tc te J p (fun H'=>Q (.ref p) H') σ H1
theorem Zjg {X:Cx} {tg elt iter:Expr} {ifs:List Expr} {scope:Scope} {pos:Pos} {own:List Str} {wi:TI} {g:TG} {tc:TT} {te:TE} {pins:List (Addr × Obj)} {σ:St} {H:Hp} {s:Shared} {use:Option (Value->Sem Unit)} {Q:Value->Shared->Prop} {R:Addr->Hp->Prop}
    (hc:X.calm=true) (S:CompScope X.env.scope X.N own scope) (hi:PI X tg iter wi)
    (hg:∀ cl C s₀ H₀ ex,PG (cxComp X own scope cl C s₀ H₀ ex) tg g) (ht:∀ cl C s₀ H₀ ex,PIf (cxComp X own scope cl C s₀ H₀ ex) ifs tc) (he:∀ cl C s₀ H₀ ex,PE (cxComp X own scope cl C s₀ H₀ ex) elt te)
    (hs:∀ x,foldedSetIterable iter X.env x=pure x)
    (I:Inv X pins σ H s) (h:wi σ H fun J H1=>∀ p,H1 p=none->tLoopC own.length g tc te J p (R p) σ H1)
    (fin:∀ (p:Addr) (H':Hp) (s':Shared) (C:Addr) (m:Str->Option Value),Inv X pins σ H' s'->FpOk X pins H' C->s'.heap.Ns C m->R p H'->compPost (model X.prog X.w) X.A X.xe use Q (.ref p) C (.ok .next) s') :
    wpAny (model X.prog X.w) X.A (comprehension (.ListComp elt [⟨tg,iter,ifs,0⟩] scope pos) scope X.env (firstIterPos [⟨tg,iter,ifs,0⟩] pos) (newList []) false (eval iter X.env) use) Q X.xe s:=by
  obtain ⟨cl,hcl,c1,c2⟩:=Ziu (scope:=scope) (env:=X.env) fun y hy hf=>I.ok.has y.1 (S.free y hy hf)
  refine wpAny_comprehension_free (use:=use) rfl hs hcl S.kind S.names (thn (hi pins s σ H _ I h) fun xv s1 h1=>thn h1 fun itv s2 h2=>?_)
  obtain ⟨it,fp,tn,J,H2,e,I2,T,st2,f2,q2⟩:=h2
  subst e
  refine wpAny_newObj_type ?_
  have hp:H2 s2.heap.objs.size=none:=I2.hok.fresh (Nat.le_refl _)
  obtain ⟨W,⟨m0,w0⟩,turn⟩:=q2 _ hp
  generalize hP:s2.heap.objs.size=P at hp W w0 turn |-
  have kP:∀ b u,s2.heap.get? b=some u->(s2.heap.push { cls:=.type "list", dict:=none,data:=.seq ([]:List Value).toArray }).get? b=some u:=fun b u e=>Heap.get?_push_of_some _ e
  have I3:Inv X pins σ (upd H2 P (.lst [])) { s2 with heap:=s2.heap.push { cls:=.type "list", dict:=none,data:=.seq ([]:List Value).toArray },toks:=s2.toks } :=
    I2.laid (a:=P) (o:=.lst []) (t':=s2.toks) kP (by rw [hP]; exact Nat.le_refl _) ⟨Nat.zero_le _,[],0,.nil,by rw [<- hP]; exact Heap.get?_push_size _ rfl⟩
  have fP:∀ b ∈ fp,b ≠ P:=fun b hb z=>by
    obtain ⟨o,ho,_⟩:=T.obj _ _ st2 b hb
    have q:=Heap.lt_size ho
    rw [hP,z] at q
    exact Nat.lt_irrefl _ q
  have f3:∀ b ∈ fp,FpOk X pins (upd H2 P (.lst [])) b:=fun b hb=>⟨by rw [Zak (fP b hb)]; exact (f2 b hb).1,(f2 b hb).2⟩
  have st3:tn 0 (s2.heap.push { cls:=.type "list", dict:=none,data:=.seq ([]:List Value).toArray }):=T.keep _ _ _ st2 fun b _ o e=>kP b o e
  generalize hS3:({ s2 with heap:=s2.heap.push { cls:=.type "list", dict:=none,data:=.seq ([]:List Value).toArray },toks:=s2.toks }:Shared)=s3 at I3
  have st3':tn 0 s3.heap:=by rw [<- hS3]; exact st3
  have fo:∀ b ∈ fp,b < s3.heap.objs.size:=fun b hb=>by
    obtain ⟨o,ho,_⟩:=T.obj _ _ st3' b hb
    exact Heap.lt_size ho
  refine wpAny_newFunctionEnv S.nocell (by intro y hy; simp at hy) (fun h4 hns hsb=>?_) S.kind
  try dsimp only at hns hsb |-
  have k4:∀ b o,s3.heap.get? b=some o->h4.get? b=some o:=fun b o e=>hsb.extBut b o (Nat.ne_of_lt (Heap.lt_size e)) (Heap.get?_push_of_some _ e)
  have I4:=Inv.block (own:=own) (h':=h4) (t':=s3.toks + ([]:List (Str × Value)).length) I3 S c1 c2 f3 fo (by simpa using hns) k4
  have fpY:∀ {H':Hp},(∀ b ∈ fp,H' b=none)->∀ b ∈ fp,FpOk (cxComp X own scope cl s3.heap.objs.size s3 (upd H2 P (.lst [])) fp) [] H' b:=fun hn b hb=>by
    refine ⟨hn b hb,Nat.ne_of_lt (fo b hb),?_,.inl hb,fun x c hx=>(f3 b hb).2.2.2.2.1 x c (c1 x c hx),fun p hp=>by simp [cxComp] at hp⟩
    intro hfs
    rcases List.mem_cons.mp (I3.stkSub b hfs) with z|z
    . exact (f3 b hb).2.1 z
    . exact (f3 b hb).2.2.1 z
  have loop:codeAny (model X.prog X.w) X.A (.compLoop (.ListComp elt [⟨tg,iter,ifs,0⟩] scope pos) 0 (.ref it) (.ref P) (compEnvC scope cl s3.heap.objs.size X.env)) (compPost (model X.prog X.w) X.A X.xe use Q (.ref P) s3.heap.objs.size) { s3 with heap:=h4,toks:=s3.toks + ([]:List (Str × Value)).length }:=by
    refine codeAny_loop rfl (fun n s'=>∃ i σ' H',Inv (cxComp X own scope cl s3.heap.objs.size s3 (upd H2 P (.lst [])) fp) [] σ' H' s'/\tn i s'.heap/\(∀ b ∈ fp,H' b=none)/\W i n σ' H') ?_ m0 ⟨0,_,_,I4,T.keep _ _ _ st3' fun b _ o e=>k4 b o e,fun b hb=>(f3 b hb).1,w0⟩
    rintro n s5 ⟨i,σ5,H5,I5,st5,fr5,w5⟩
    show wpAny _ _ ((compTurn (.ListComp elt [⟨tg,iter,ifs,0⟩] scope pos) 0 (.ref it) (.ref P) (compEnvC scope cl s3.heap.objs.size X.env)).onRaise (fun x=>do noteFrame x (compEnvC scope cl s3.heap.objs.size X.env); theTreesLotGoes x)) _ _ s5
    refine wpAny_noted ?_
    rw [compTurn_list]
    have nE:∀ {α:Type} {t:Sem α} {QQ:α->Shared->Prop} {E':Value->Shared->Prop} {ss:Shared},wpAny (model X.prog X.w) X.A t QQ (fun _ _=>False) ss->wpAny (model X.prog X.w) X.A t QQ E' ss:=fun h=>wpAny_mono h (fun _ _ q=>q) fun _ _ z=>z.elim
    refine wpAny_bind (wpAny_standAt (wpAny_bind ?_))
    rcases turn i n σ5 H5 w5 with ⟨stop,qn⟩|⟨go,N,hN,step⟩
    . refine thn (T.done (cxComp X own scope cl s3.heap.objs.size s3 (upd H2 P (.lst [])) fp) rfl rfl rfl hc i [] s5 σ5 H5 _ I5 (fpY fr5) st5 stop) fun r s6 ⟨hr,I6⟩=>?_
      subst hr
      refine wpAny_pure ?_
      have back:∀ h',Heap.SameBut s3.heap.objs.size s6.heap h'->Inv X pins σ H5 { s6 with heap:=h' }:=fun h' sb=>by
        have nC:∀ b o,s3.heap.get? b=some o->b ≠ s3.heap.objs.size:=fun b o e=>Nat.ne_of_lt (Heap.lt_size e)
        have nH:∀ b u,H5 b=some u->b ≠ s3.heap.objs.size:=fun b u e z=>by
          have:H5 s3.heap.objs.size=none:=I6.free
          rw [z,this] at e; cases e
        refine I3.call' (s':={ s6 with heap:=h' }) (ch:=fp) I6.os ⟨fun b o e n hb hx=>?_,fun b o e n hb hx=>?_,I6.base.free,fun b o e hx=>?_,I6.base.tups,I6.base.frzs,I6.base.tbls⟩ ?_ I6.bare fun b hb=>?_
        . exact (sb.2 b (nC b o e)).trans (I6.base.keep b o e n hb hx)
        . obtain ⟨sl,z⟩:=I6.base.slot b o e n hb hx
          exact ⟨sl,(sb.2 b (nC b o e)).trans z⟩
        . obtain ⟨o',z⟩:=I6.base.there b o e hx
          exact ⟨o',(sb.2 b (nC b o e)).trans z⟩
        . intro b u e
          refine (I6.hok b u e).stay (fun c v hc q=>(sb.2 c ?_).trans q) (fun _ q=>q) fun _ _ q=>q
          rcases hc with z|z
          . rw [z]; exact nH b u e
          . exact nH c _ z
        . obtain ⟨_,g1,g2,g3,g4,g5⟩:=f3 b hb
          exact ⟨g3,g1,g4,g5⟩
      obtain ⟨m,hn,_⟩:=I6.loc
      exact fin P H5 s6 s3.heap.objs.size m (back s6.heap (.refl ..)) (I3.fpOk (Nat.le_refl _) I6.free) hn qn
    . refine thn (T.item (cxComp X own scope cl s3.heap.objs.size s3 (upd H2 P (.lst [])) fp) rfl rfl rfl hc i [] s5 σ5 H5 _ I5 (fpY fr5) st5 go) fun r s6 ⟨u,hr,h6⟩=>?_
      subst hr
      refine wpAny_bind (thn h6 fun _ s7 ⟨x,H7,I7,r7,y7,st7,fr7⟩=>?_)
      have I7':=I7.pinned (fpY fr7) (T.obj _ _ st7)
      refine wpAny_bind (nE (thn (hg cl s3.heap.objs.size s3 (upd H2 P (.lst [])) fp _ s7 σ5 H7 x u _ I7' r7 (step x H7 y7)) fun _ s8 ⟨σ8,H8,I8,q8⟩=>?_))
      have again:∀ {s9:Shared} {H9:Hp},Inv (cxComp X own scope cl s3.heap.objs.size s3 (upd H2 P (.lst [])) fp) ([] ++ pinsAt fp s7.heap) σ8 H9 s9->N σ8 H9->∃ m,m < n/\∃ i σ' H',Inv (cxComp X own scope cl s3.heap.objs.size s3 (upd H2 P (.lst [])) fp) [] σ' H' s9/\tn i s9.heap/\(∀ b ∈ fp,H' b=none)/\W i m σ' H':=fun {s9 H9} I9 n9=>by
        obtain ⟨m',hm,w9⟩:=hN σ8 H9 n9
        refine ⟨m',hm,i + 1,σ8,H9,I9.unpinned,T.keep _ _ _ st7 fun b hb o e=>(I9.pin (b,o) (List.mem_append_right _ (List.mem_append_right _ (ZcE hb e)))).1,fun b hb=>?_,w9⟩
        obtain ⟨o,e,d⟩:=T.obj _ _ st7 b hb
        exact (I9.pin (b,o) (List.mem_append_right _ (List.mem_append_right _ (ZcE hb e)))).2.1
      refine wpAny_bind (nE (thn (ht cl s3.heap.objs.size s3 (upd H2 P (.lst [])) fp _ s8 σ8 H8 _ I8 q8) fun ok s9 ⟨H9,I9,q9⟩=>?_))
      cases ok with
      | false =>
        rw [if_neg (by decide)] at q9
        exact wpAny_pure ⟨rfl,again I9 q9⟩
      | true =>
        rw [if_pos rfl] at q9
        refine wpAny_bind (wpAny_bind (nE (thn (he cl s3.heap.objs.size s3 (upd H2 P (.lst [])) fp _ s9 σ8 H9 _ I9 q9) fun y s10 ⟨v,H10,I10,r10,ys,e10,l10,q10⟩=>?_)))
        refine wpAny_bind (nE (thn (ZbC (X:=cxComp X own scope cl s3.heap.objs.size s3 (upd H2 P (.lst [])) fp) _ s10 σ8 H10 (.ref P) [v] (.ref P) [y] (fun _ H'=>N σ8 H') I10 rfl (.cons r10 .nil) ⟨P,ys,v,rfl,rfl,e10,l10,q10⟩) fun _ s11 ⟨_,H11,I11,_,q11⟩=>?_))
        exact wpAny_pure (wpAny_pure ⟨rfl,again I11 q11⟩)
  have lself:=T.self X.A 0 ({ s3 with heap:=h4,toks:=s3.toks + ([]:List (Str × Value)).length }:Shared) (fun it' s'=>codeAny (model X.prog X.w) X.A (.compLoop (.ListComp elt [⟨tg,iter,ifs,0⟩] scope pos) 0 it' (.ref P) (compEnvC scope cl s3.heap.objs.size X.env)) (compPost (model X.prog X.w) X.A X.xe use Q (.ref P) s3.heap.objs.size) s')
    (notedBy (model X.prog X.w) X.A (compEnvC scope cl s3.heap.objs.size X.env) fun x s'=>compPost (model X.prog X.w) X.A X.xe use Q (.ref P) s3.heap.objs.size (.error x) s') (T.keep _ _ _ st3' fun b _ o e=>k4 b o e) loop
  exact codeAny_compStart_list loop lself
theorem ZlY {X:Cx} {tg elt iter:Expr} {ifs:List Expr} {scope:Scope} {pos:Pos} (own:List Str) {wi:TI} {g:TG} {tc:TT} {te:TE}
    (hc:X.calm=true) (S:CompScope X.env.scope X.N own scope) (hi:PI X tg iter wi)
    (hg:∀ cl C s₀ H₀ ex,PG (cxComp X own scope cl C s₀ H₀ ex) tg g) (ht:∀ cl C s₀ H₀ ex,PIf (cxComp X own scope cl C s₀ H₀ ex) ifs tc) (he:∀ cl C s₀ H₀ ex,PE (cxComp X own scope cl C s₀ H₀ ex) elt te)
    (hs:∀ x,foldedSetIterable iter X.env x=pure x:=by intro _; rfl) :
    PE X (.ListComp elt [⟨tg,iter,ifs,0⟩] scope pos) (tComp own.length wi g tc te):=by
  intro pins s σ H Q I h
  rw [eval_ListComp]
  refine Zjg (use:=none) (R:=fun p H'=>Q (.ref p) H') hc S hi hg ht he hs I h fun p H' s' C m I' f hn q=>?_
  obtain ⟨f0,f1,f2,f3,f4,f5⟩:=f
  exact ⟨m,hn,fun h' sb=>⟨.ref p,H',I'.turned (t':=s'.toks) (fun b o hb e=>(sb.2 b hb).trans e) f0 f1 f3 f4 f5,rfl,q⟩⟩
end L2
namespace L2
open PySem PySem.Spec PyProof.Rows
noncomputable def Zaq (K:PySem.W.Frag) (mg:Str->Option Value) (x:Str) (st:Stmt):Prop:=∃ f fd,Fun K x x st f fd/\mg x=some (.ref f)
theorem Zan {K:PySem.W.Frag} {h:Heap} {mg:Str->Option Value} {x:Str} {st:Stmt} {f:Addr} {oc:Value} {od an:Option Addr} {osl:Array (Option Value)} {kV doc pm cdv ct:Value} (X:K.In h) (G:h.Ns mainGlobals mg)
    (a:PySem.W.nsIn K mainGlobals x=some (some (.ref f))) (l:K.lookup f=some ⟨oc,od,.func (PySem.W.fnOf x x (Zaw st) (Zas st) (Zac st) .none kV doc pm an cdv ct),osl⟩)
    (c:PySem.W.codeIn K cdv x=true) (k:PySem.W.keepIn K (.ref f)=true):Zaq K mg x st :=
  ⟨f,_,Zlm l c k,PySem.W.mg_of X G a⟩
noncomputable def CalF (P:Program) (w:World) (K:PySem.W.Frag) (mg:Str->Option Value) (base:Heap) (k:Nat) (f:Addr) (sp:Sp):Prop :=
  ∃ fd ps,FnOk P w K mg base CX0 k f fd ps sp/\PySem.W.keepIn K (.ref f)=true/\Binds K fd ps []
noncomputable def Cal (P:Program) (w:World) (K:PySem.W.Frag) (mg:Str->Option Value) (base:Heap) (k:Nat) (x:Str) (sp:Sp):Prop :=
  ∃ f,mg x=some (.ref f)/\CalF P w K mg base k f sp
section
variable {P:Program} {w:World} {K:PySem.W.Frag} {mg:Str->Option Value} {base:Heap}
theorem CalF.mono {j k:Nat} {f:Addr} {sp:Sp} (c:CalF P w K mg base j f sp) (h:j <= k):CalF P w K mg base k f sp :=
  let ⟨fd,ps,F,kp,b⟩:=c
  ⟨fd,ps,F.mono h,kp,b⟩
theorem Cal.mono {j k:Nat} {x:Str} {sp:Sp} (c:Cal P w K mg base j x sp) (h:j <= k):Cal P w K mg base k x sp :=
  let ⟨f,m,c⟩:=c
  ⟨f,m,c.mono h⟩
theorem CalF.imp {k:Nat} {f:Addr} {sp sp':Sp} (c:CalF P w K mg base k f sp) (h:∀ vs H Q E,sp' vs H Q E->sp vs H Q E):CalF P w K mg base k f sp' :=
  let ⟨fd,ps,F,kp,b⟩:=c
  ⟨fd,ps,F.imp h,kp,b⟩
theorem Cal.imp {k:Nat} {x:Str} {sp sp':Sp} (c:Cal P w K mg base k x sp) (h:∀ vs H Q E,sp' vs H Q E->sp vs H Q E):Cal P w K mg base k x sp' :=
  let ⟨f,m,c⟩:=c
  ⟨f,m,c.imp h⟩
theorem ZaA {x:Str} {st:Stmt} {N ps:List Str} {k:Nat} {sp:Sp} (D:Zaq K mg x st) (S:FnScope N ps (Zac st)) (len:∀ vs H Q E,sp vs H Q E->vs.length=ps.length)
    (hb:∀ (kV doc pm:Value) (an:Option Addr) (cdv ct:Value) (us:List Value),us.length=ps.length->bindArgs (PySem.W.fnOf x x (Zaw st) (Zas st) (Zac st) .none kV doc pm an cdv ct) ⟨us,[]⟩=pure (ps.zip us))
    (hbody:∀ (f:Addr) (cdv:Value) (A:Around) (outer:List Env) (s:Shared) (H:Hp) (vs:List V) (Q:VK) (E:XK),Room k (A.deeper (envOfC x (Zac st) s.heap.objs.size f cdv))->sp vs H Q E ->
      ∃ t,PSs (cxOf CX0 P w K mg base N x (Zac st) f cdv A outer s H E).nox (Zas st) t/\t { nx:=fun _ H'=>Q .non H',rt:=Q } (start N vs) H):Cal P w K mg base (k + 1) x sp:=by
  obtain ⟨f,fd,F,m⟩:=D
  exact ⟨f,m,fd,ps,F.ok S len (hbody f),F.kp,F.binds hb⟩
end
section
variable {X:Cx} {k:Nat} {x:Str} {sp:Sp} {p pos:Pos} {e func:Expr} {es:List Expr} {t:TA} {tf:TE}
theorem ZaG (c:Cal X.prog X.w X.K X.mg X.base k x sp) (hr:Room k X.A) (hg:Gl X x) (ha:PA X (e :: es) t) (hdb:(x == ("__debug__" : Str))=false:=by decide)
    (he:starEach (e :: es) X.env=(false,eval e X.env) :: starEach es X.env:=by rfl) (hpl:(backTo pos (starEach es X.env)).any (·.1)=false:=by rfl) :
    PE X (.Call (.Name x p) (e :: es) [] pos) (tCall sp [] E0 t):=by
  obtain ⟨f,m,fd,ps,F,kp,b⟩:=c
  exact Zi5 F hr hg m kp b .nil pass0 ha hdb he hpl
noncomputable def tCallV (P:Program) (w:World) (K:PySem.W.Frag) (mg:Str->Option Value) (base:Heap) (k:Nat) (tf:TE) (t:TA):TE:=fun σ H Q=>tf σ H fun v H1=>∃ f sp,v=.ref f/\CalF P w K mg base k f sp/\t σ H1 fun vs H2=>sp vs H2 Q E0
theorem Zh5 (hr:Room k X.A) (hf:PE X func tf) (ha:PA X (e :: es) t)
    (hc:eval (.Call func (e :: es) [] pos) X.env=(do callWith pos (<- eval func X.env) [] (backTo pos (starEach (e :: es) X.env)) (backToKw pos (keywordEach [] X.env))):=by rfl)
    (he:starEach (e :: es) X.env=(false,eval e X.env) :: starEach es X.env:=by rfl) (hpl:(backTo pos (starEach es X.env)).any (·.1)=false:=by rfl) :
    PE X (.Call func (e :: es) [] pos) (tCallV X.prog X.w X.K X.mg X.base k tf t):=by
  intro pins s σ H Q I h
  refine Call_ (thn (hf pins s σ H _ I h) fun u s1 ⟨v,H1,I1,r,f,sp,ev,⟨fd,ps,F,kp,b⟩,q⟩=>?_) hc
  subst ev
  obtain rfl:u=Value.ref f:=r
  refine PySem.W.callWith_K (h₀:=X.base) I.ok.mod.kin kp (thn (ha pos pins s1 σ H1 _ I1 q) fun us s2 ⟨vs,H2,I2,r2,q2⟩=>⟨I2.kIn,?_⟩) he hpl
  exact ZeY (dvs:=[]) (E:=E0) F hr b .nil pass0 I2 r2 (by rw [List.append_nil]; exact q2)
end
noncomputable def CDivW (i j:Int):Prop:=0 < j/\j < 2 ^ 200
section
variable {X:Cx}
theorem Ziv {n:Nat} (h:n < 2 ^ 200):n.log2 < 9000:=by
  by_cases z:n=0
  . subst z; decide
  . have:=(Nat.log2_lt z).mpr h
    omega
theorem Zb2:OpR X (binaryOp .FloorDiv) (rI CDivW fun i j=>.int (i / j)):=opI fun i j _ _ _ _ _ hc q=>by
  refine floordiv_int (by have:=hc.1; omega) ?_ (.inl (PyProof.noPylong_of_log2 (Ziv ?_)))
  . rw [Int.fdiv_eq_ediv_of_nonneg _ (Int.le_of_lt hc.1)]
    exact q
  . have h1:=hc.1
    have h2:=hc.2
    have e:((j.natAbs:Nat):Int)=j:=Int.natAbs_of_nonneg (Int.le_of_lt h1)
    have:((j.natAbs:Nat):Int) < ((2 ^ 200:Nat):Int):=by rw [e]; exact h2
    exact Int.ofNat_lt.mp this
end
noncomputable def isiV:V->String->Option Bool
  | .int _, "int" => some true
  | .int _, "bool" => some false
  | .int _, "str" => some false
  | .int _, "tuple" => some false
  | .int _, "list" => some false
  | .bl _, "bool" => some true
  | .bl _, "int" => some true
  | .bl _, "str" => some false
  | .str _, "str" => some true
  | .str _, "int" => some false
  | .str _, "bool" => some false
  | .str _, "tuple" => some false
  | .str _, "list" => some false
  | _,_=>none
section
variable {X:Cx}
theorem Zky:CallR X (.builtin "isinstance") (fun xs H Q=>∃ x T b,xs=[x,.ty T]/\isiV x T=some b/\Q (.bl b) H):=by
  intro pins s σ H xs us Q I r h
  obtain ⟨x,T,b,rfl,e,q⟩:=h
  obtain ⟨u,v,rfl,ru,rv⟩:=vals2 r
  obtain rfl:v=Value.type T:=rv
  unfold isiV at e
  split at e <;> first
    | (cases e; obtain ⟨t,rfl⟩:=ru; first
        | exact IsiPair.int_int ⟨.bl true,H,I,rfl,q⟩
        | exact IsiPair.int_bool ⟨.bl false,H,I.tok _,rfl,q⟩
        | exact IsiPair.int_str ⟨.bl false,H,I.tok _,rfl,q⟩
        | exact IsiPair.int_tuple ⟨.bl false,H,I.tok _,rfl,q⟩
        | exact IsiPair.int_list ⟨.bl false,H,I.tok _,rfl,q⟩
        | exact IsiPair.str_str ⟨.bl true,H,I,rfl,q⟩
        | exact IsiPair.str_int ⟨.bl false,H,I.tok _,rfl,q⟩
        | exact IsiPair.str_bool ⟨.bl false,H,I.tok _,rfl,q⟩
        | exact IsiPair.str_tuple ⟨.bl false,H,I.tok _,rfl,q⟩
        | exact IsiPair.str_list ⟨.bl false,H,I.tok _,rfl,q⟩)
    | (cases e; cases ru; first
        | exact IsiPair.bool_bool ⟨.bl true,H,I,rfl,q⟩
        | exact IsiPair.bool_int ⟨.bl true,H,I,rfl,q⟩
        | exact IsiPair.bool_str ⟨.bl false,H,I.tok _,rfl,q⟩)
    | cases e
end
noncomputable def Zde (P:Program) (w:World) (K:PySem.W.Frag) (a:Addr) (vs:List (Key × Value)):Prop:=∀ h:Heap,K.In h->h.DictOf (Za8 P w) a vs
theorem Zkz {P:Program} {w:World} {K:PySem.W.Frag} {a:Addr} {vs:List (Key × Value)} {es:Array DictEntry} {ep:Nat} (l:K.lookup a=some ⟨.type "dict", none,.dict es ep,#[]⟩)
    (hk:∀ e ∈ es.toList,∃ k,keyIs k e.key=true/\e.hash=keyH w k) (hp:Pairs (Za8 P w) es.toList vs) (nd:(vs.map (·.1)).Nodup):Zde P w K a vs:=fun h X =>
  ⟨_,es,ep,X _ _ l,⟨rfl,rfl,rfl⟩,rfl,fun e he=>hk e (Array.mem_toList_iff.mpr he),hp,nd⟩
noncomputable def tDGetK (P:Program) (w:World) (K:PySem.W.Frag) (td ty:TE):TE:=fun σ H Q=>td σ H fun x H1=>ty σ H1 fun y H2=>∃ a vs k u v,x=.ref a/\y=kV k/\Zde P w K a vs/\valueAt vs k=some u/\RelV v u/\Q v H2
theorem kV_isM {P:Program} {w:World} {k:Key} {u:Value} (r:RelV (kV k) u):(Za8 P w).is k u=true:=by
  cases k with
  | inl i=>obtain ⟨t,rfl⟩:=r; exact ZfO i t
  | inr x=>obtain ⟨t,rfl⟩:=r; exact Zc9 x t
section
variable {X:Cx} {o i:Expr} {td ty:TE} {pos:Pos}
theorem ZkA (ho:PE X o td) (hi:PE X i ty) (hs:NoSl i):PE X (.Subscript o i pos) (tDGetK X.prog X.w X.K td ty):=by
  intro pins s σ H Q I h
  refine ZlT PySem.F.slot_dict_getitem.lookup hs (thn (ho pins s σ H _ I h) fun u s1 ⟨x,H1,I1,rx,q1⟩=>thn (hi pins s1 σ H1 _ I1 q1) fun iv s2 ⟨y,H2,I2,ry,a,vs,k,w',v,ex,ey,D,hv,rv,q2⟩=>?_)
  subst ex ey
  obtain rfl:u=Value.ref a:=rx
  have dd:=D s2.heap I2.kIn
  exact ⟨dd.typeIs,wpAny_getItem_of (kV_isM ry) dd.mapOf hv ⟨v,H2,I2.tok _,rv,q2⟩⟩
end
section
variable {σ:St} {H:Hp} {Q:VK} {D:Ends} {i:Nat} {v:V}
theorem rd_C (q:Q v H):tC v σ H Q:=q
theorem rd_V (e:σ[i]?=some (some v)) (q:Q v H):tVar i σ H Q:=⟨v,e,q⟩
theorem rd_op {r:R2} {ta tb:TE} (q:ta σ H fun x H1=>tb σ H1 fun y H2=>r x y H2 Q):tOp r ta tb σ H Q:=q
theorem rd_un {r:V->Hp->VK->Prop} {ta:TE} (q:ta σ H fun x H1=>r x H1 Q):tUn r ta σ H Q:=q
theorem rd_I {C:Int->Int->Prop} {g:Int->Int->V} {a b:Int} (c:C a b) (q:Q (g a b) H):rI C g (.int a) (.int b) H Q:=⟨a,b,rfl,rfl,c,q⟩
theorem rd_I0 {g:Int->Int->V} {a b:Int} (q:Q (g a b) H):rI0 g (.int a) (.int b) H Q:=⟨a,b,rfl,rfl,q⟩
theorem rd_U {g:Int->V} {a:Int} (q:Q (g a) H):rU g (.int a) H Q:=⟨a,rfl,q⟩
theorem rd_eqI {a b:Int} (q:Q (.bl (decide (a=b))) H):rEq (.int a) (.int b) H Q:=by
  refine ⟨rfl,?_⟩
  have e:decide (V.int a=V.int b)=decide (a=b):=decide_eq_decide.mpr ⟨fun h=>V.int.inj h,fun h=>by rw [h]⟩
  rw [e]; exact q
theorem rd_neI {a b:Int} (q:Q (.bl (!decide (a=b))) H):rNe (.int a) (.int b) H Q:=by
  refine ⟨rfl,?_⟩
  have e:decide (V.int a=V.int b)=decide (a=b):=decide_eq_decide.mpr ⟨fun h=>V.int.inj h,fun h=>by rw [h]⟩
  rw [e]; exact q
theorem rd_eqS {a b:Str} (q:Q (.bl (decide (a=b))) H):rEq (.str a) (.str b) H Q:=by
  refine ⟨rfl,?_⟩
  have e:decide (V.str a=V.str b)=decide (a=b):=decide_eq_decide.mpr ⟨fun h=>V.str.inj h,fun h=>by rw [h]⟩
  rw [e]; exact q
theorem rd_neS {a b:Str} (q:Q (.bl (!decide (a=b))) H):rNe (.str a) (.str b) H Q:=by
  refine ⟨rfl,?_⟩
  have e:decide (V.str a=V.str b)=decide (a=b):=decide_eq_decide.mpr ⟨fun h=>V.str.inj h,fun h=>by rw [h]⟩
  rw [e]; exact q
theorem rd_seq {t u:TS} (q:t { D with nx:=u D } σ H):tSeq t u D σ H:=q
theorem rd_asg {te:TE} {g:TG} (q:te σ H fun x H1=>g x σ H1 D.nx):tAsg te g D σ H:=q
theorem ZlZ {R:St->Hp->Prop} (q:R (σ.set i (some v)) H):gName i v σ H R:=q
theorem Zln {te:TE} (q:te σ H D.rt):tRet te D σ H:=q
theorem Zl0 (q:D.nx σ H):tNext D σ H:=q
theorem Zjh {te:TE} (q:te σ H fun _ H1=>D.nx σ H1):tDrop te D σ H:=q
theorem rd_ifS {c:TT} {t u:TS} (q:c σ H fun b H1=>if b=true then t D σ H1 else u D σ H1):tIfS c t u D σ H:=q
theorem rd_if {c:TT} {ta tb:TE} (q:c σ H fun b H1=>if b=true then ta σ H1 Q else tb σ H1 Q):tIf c ta tb σ H Q:=q
theorem Zl1 {te:TE} {R:Bool->Hp->Prop} (q:te σ H fun x H'=>∃ k,x=.bl k/\R k H'):tTest te σ H R:=q
theorem rd_B {te:TE} {R:Bool->Hp->Prop} (q:te σ H fun x H'=>∃ k,x=.bl k/\R k H'):tB te σ H R:=q
theorem rd_bl {b:Bool} {R:Bool->Prop} (q:R b):∃ k,V.bl b=.bl k/\R k:=⟨b,rfl,q⟩
theorem rd_and {t u:TT} {R:Bool->Hp->Prop} (q:t σ H fun c H1=>if c=true then u σ H1 R else R false H1):tAnd t u σ H R:=q
theorem rd_or {t u:TT} {R:Bool->Hp->Prop} (q:t σ H fun c H1=>if c=true then R true H1 else u σ H1 R):tOr t u σ H R:=q
theorem rd_not {t:TT} {R:Bool->Hp->Prop} (q:t σ H fun c H1=>R (!c) H1):tNot t σ H R:=q
theorem Zl2 {ta tb:TE} (q:ta σ H fun x H1=>∃ c,x=.bl c/\if c=true then tb σ H1 Q else Q (.bl false) H1):tAndV ta tb σ H Q:=q
theorem rd_orV {ta tb:TE} (q:ta σ H fun x H1=>∃ c,x=.bl c/\if c=true then Q (.bl true) H1 else tb σ H1 Q):tOrV ta tb σ H Q:=q
theorem Zl3 {ta:TE} (q:ta σ H fun x H1=>∃ c,x=.bl c/\Q (.bl (!c)) H1):tNotV ta σ H Q:=q
theorem Zl4 {ta:TE} {tr:TA} {R:List V->Hp->Prop} (q:ta σ H fun x H1=>tr σ H1 fun xs H2=>R (x :: xs) H2):tCons ta tr σ H R:=q
theorem rd_nil {R:List V->Hp->Prop} (q:R [] H):tNil σ H R:=q
theorem Zl5 {sp:Sp} {t:TA} (q:t σ H fun vs H1=>sp vs H1 Q E0):tCall sp [] E0 t σ H Q:=by
  unfold tCall
  have e:(fun (vs:List V) H1=>sp (vs ++ []) H1 Q E0)=fun vs H1=>sp vs H1 Q E0:=by funext vs H1; rw [List.append_nil]
  rw [e]
  exact q
theorem rd_CB {r:List V->Hp->VK->Prop} {t:TA} (q:t σ H fun vs H1=>r vs H1 Q):tCB r t σ H Q:=q
theorem ZkB {r r':R2} {ta tb tc:TE} (q:ta σ H fun x H1=>tb σ H1 fun y H2=>r x y H2 fun z H3=>∃ k,z=.bl k/\if k=true then tc σ H3 fun u H4=>r' y u H4 Q else Q (.bl false) H3):tChain r r' ta tb tc σ H Q:=q
theorem rd_tup {t:TA} (q:t σ H fun xs H1=>xs.length <= sizeLine/\∀ p,H1 p=none->Q (.ref p) (upd H1 p (.tup xs))):tTup t σ H Q:=q
theorem rd_lst {t:TA} (q:t σ H fun xs H1=>xs.length <= sizeLine/\∀ p,H1 p=none->Q (.ref p) (upd H1 p (.lst xs))):tLst t σ H Q:=q
theorem Zdo {c A B:Prop} [Decidable c] (h1:c->A) (h2:¬ c->B):if decide c=true then A else B:=by
  by_cases h:c
  . rw [if_pos (decide_eq_true h)]; exact h1 h
  . rw [if_neg (by rw [decide_eq_false h]; exact Bool.false_ne_true)]; exact h2 h
theorem ZcF {c A B:Prop} [Decidable c] (h1:¬ c->A) (h2:c->B):if (!decide c)=true then A else B:=by
  by_cases h:c
  . rw [decide_eq_true h]; exact iteF (h2 h)
  . rw [decide_eq_false h]; exact iteT (h1 h)
theorem ZbS {u:V} (e:u=v) (q:Q v H):Q u H:=by rw [e]; exact q
end
noncomputable def Za0 (mg:Str->Option Value) (x:Str) (v:V):Prop:=∃ u,mg x=some u/\RelV v u
section
variable {X:Cx} {x:Str} {v:V} {T:String} {pos:Pos}
theorem ZbO (hg:Gl X x) (h:Za0 X.mg x v) (hd:(x == ("__debug__" : Str))=false:=by decide):PE X (.Name x pos) (tC v) :=
  let ⟨_,m,r⟩:=h
  ZlA hg m r hd
theorem ZdQ (hg:Gl X x) (hm:X.mg x=none) (hv:bootBuiltins x=some (.type T)) (hn:x ≠ "__name__" := by decide) (hd:(x == ("__debug__" : Str))=false:=by decide):PE X (.Name x pos) (tC (.ty T)) :=
  ZlB hg hm hv rfl hn hd
end
noncomputable def sEnt (w:World) (p:Str × Tok × Value):DictEntry:=⟨PyData.keyHash w.params p.1,.str p.1 p.2.1,p.2.2⟩
noncomputable def entsOf (es:Array DictEntry):List (Str × Tok × Value):=es.toList.filterMap fun e=>match e.key with|.str x t=>some (x,t,e.val)|_=>none
theorem ZeZ {P:Program} {w:World}:∀ l:List (Str × Tok × Value),Pairs (Za8 P w) (l.map (sEnt w)) (l.map fun p=>((Sum.inr p.1:Key),p.2.2))
  | []=>.nil
  | p :: r=>.cons (Zc9 p.1 p.2.1) rfl (ZeZ r)
theorem Zgc:∀ {l:List Str},l.Nodup->(l.map fun x=>(Sum.inr x:Key)).Nodup
  | [],_=>List.nodup_nil
  | x :: r,h=>by
    have h1:=List.nodup_cons.mp h
    rw [List.map_cons,List.nodup_cons]
    refine ⟨fun hm=>?_,Zgc h1.2⟩
    obtain ⟨y,hy,e⟩:=List.mem_map.mp hm
    cases e
    exact h1.1 hy
theorem Zed {P:Program} {w:World} {K:PySem.W.Frag} {a:Addr} {es:Array DictEntry} {ep:Nat} (l:K.lookup a=some ⟨.type "dict", none,.dict es ep,#[]⟩) (he:es=((entsOf es).map (sEnt w)).toArray)
    (nd:((entsOf es).map (·.1)).Nodup):Zde P w K a ((entsOf es).map fun p=>((Sum.inr p.1:Key),p.2.2)):=by
  have e:es.toList=(entsOf es).map (sEnt w):=by rw [he]; simp [<- he]
  refine Zkz l (fun e' he'=>?_) (by rw [e]; exact ZeZ _) ?_
  . rw [e] at he'
    obtain ⟨p,_,rfl⟩:=List.mem_map.mp he'
    exact ⟨.inr p.1,Zc9 p.1 p.2.1,rfl⟩
  . rw [List.map_map]
    have:((fun x:Key × Value=>x.1) ∘ fun p:Str × Tok × Value=>((Sum.inr p.1:Key),p.2.2))=(fun x=>(Sum.inr x:Key)) ∘ (fun p:Str × Tok × Value=>p.1):=rfl
    rw [this,<- List.map_map]
    exact Zgc nd
end L2
namespace L2
open PySem PySem.Spec PyProof.Rows
theorem Same.tup {K:PySem.W.Frag} {H H':Hp} {a:Addr} {xs:List V} (e:Same H H') (h:SqT K H a xs):SqT K H' a xs:=by
  rcases h with (h|⟨o,h⟩)|h
  . exact .inl (.inl (e _ _ h))
  . exact .inl (.inr ⟨o,e _ _ h⟩)
  . exact .inr h
theorem Same.new {H:Hp} {p:Addr} {o:HO} (n:H p=none):Same H (upd H p o):=fun b u e=>by rw [Zak (Zam e n)]; exact e
theorem Same.newT {H H':Hp} {p:Addr} {o:HO} (s:Same H H') (n:H' p=none):Same H (upd H' p o):=s.trans (Same.new n)
theorem Zji {K:PySem.W.Frag} {H:Hp} {p:Addr} {xs:List V}:SqT K (upd H p (.tup xs)) p xs:=.inl (.inl Zah)
theorem ZaF {K:PySem.W.Frag} {H:Hp} {p:Addr} {xs:List V} (h:H p=some (.lst xs)):SqL K H p xs:=.inl (.inl h)
theorem ZaX {K:PySem.W.Frag} {H:Hp} {p:Addr} {xs:List V} (h:H p=some (.tup xs)):SqT K H p xs:=.inl (.inl h)
theorem ZbR {α:Type} {xs:List α} {i:Nat} {j:Int} {v:α} (h:xs[i]?=some v) (e:j=(i:Int)):atI xs j=some v:=by rw [e]; exact Zja h
section
variable {σ:St} {H:Hp} {Q:VK} {K:PySem.W.Frag} {p a b:Addr} {xs ys:List V} {v:V}
theorem Za7 {i:Int} (h:SqL K H p xs) (e:atI xs i=some v) (q:Q v H):rIxL K (.ref p) (.int i) H Q:=⟨p,xs,i,v,rfl,rfl,h,e,q⟩
theorem Zee {i:Int} (h:SqT K H p xs) (e:atI xs i=some v) (q:Q v H):rIxT K (.ref p) (.int i) H Q:=⟨p,xs,i,v,rfl,rfl,h,e,q⟩
theorem Zlo {lo hi:Option Int} (h:SqL K H a xs) (q:∀ p,H p=none->Q (.ref p) (upd H p (.lst (cutV xs lo hi)))):rSlL K (.ref a) lo hi H Q:=⟨a,xs,rfl,h,q⟩
theorem rd_sl {r:V->Option Int->Option Int->Hp->VK->Prop} {te:TE} {tl th:TO} (q:te σ H fun x H1=>tl σ H1 fun l H2=>th σ H2 fun u H3=>r x l u H3 Q):tSl r te tl th σ H Q:=q
theorem Zjj {R:Option Int->Hp->Prop} (q:R none H):Zi8 σ H R:=q
theorem Zl6 {R:Option Int->Hp->Prop} {t:TE} (q:t σ H fun x H1=>∃ i,x=.int i/\R (some i) H1):tPart t σ H R:=q
theorem rd_ei {R:Int->Prop} {i:Int} (q:R i):∃ j,V.int i=.int j/\R j:=⟨i,rfl,q⟩
theorem Zgd (h1:H a=some (.lst xs)) (h2:H b=some (.lst ys)) (hz:xs.length + ys.length <= sizeLine) (q:∀ p,H p=none->Q (.ref p) (upd H p (.lst (xs ++ ys)))):rCat (.ref a) (.ref b) H Q:=⟨a,b,xs,ys,rfl,rfl,h1,h2,hz,q⟩
end
theorem iteNT {A B:Prop} (h:B):if (!true)=true then A else B:=iteF h
theorem iteNF {A B:Prop} (h:A):if (!false)=true then A else B:=iteT h
section
variable {σ:St} {H:Hp} {Q:VK} {D:Ends}
theorem Zl7 {k:Nat} {wi:TI} {g:TG} {tc:TT} {te:TE} (q:wi σ H fun J H1=>∀ p,H1 p=none->tLoopC k g tc te J p (fun H'=>Q (.ref p) H') σ H1):tComp k wi g tc te σ H Q:=q
theorem ZkC {K:PySem.W.Frag} {tl:TE} {R:It->Hp->Prop} (q:tl σ H fun x H1=>∃ a,x=.ref a/\(∃ xs,SqL K H1 a xs)/\R (Itl K a) H1):iList K tl σ H R:=q
theorem Zdf {ta:TA} {R:It->Hp->Prop} (q:ta σ H fun vs H1=>∃ j:Int,vs=[.int j]/\-(2 ^ 62) <= j/\j < 2 ^ 62/\R (Itr 0 j.toNat) H1):iRng1 ta σ H R:=q
theorem Zge {wi:TI} {g:TG} {tb:TS} (q:wi σ H fun J H1=>∃ W:Nat->Nat->St->Hp->Prop,(∃ m,W 0 m σ H1)/\∀ i m σ H,W i m σ H ->
  (J.stop i H/\D.nx σ H)\/(J.go i H/\∃ N:St->Hp->Prop,(∀ σ' H',N σ' H'->∃ m',m' < m/\W (i + 1) m' σ' H')/\∀ x H',J.yld i H x H'->g x σ H' fun σ2 H2=>tb { D with nx:=N,ct:=N,bk:=D.nx } σ2 H2)):tFor wi g tb D σ H:=q
end
section
variable {CX:CXT} {P:Program} {w:World} {K:PySem.W.Frag} {mg:Str->Option Value} {base:Heap} {N:List Str} {q:Str} {sc:Scope} {f:Addr} {cd:Value} {A:Around} {outer:List Env} {s:Shared} {H:Hp} {E:XK}
theorem nox_K:(cxOf CX P w K mg base N q sc f cd A outer s H E).nox.K=K:=rfl
theorem nox_P:(cxOf CX P w K mg base N q sc f cd A outer s H E).nox.prog=P:=rfl
theorem nox_w:(cxOf CX P w K mg base N q sc f cd A outer s H E).nox.w=w:=rfl
theorem nox_mg:(cxOf CX P w K mg base N q sc f cd A outer s H E).nox.mg=mg:=rfl
theorem ZkD:(cxOf CX P w K mg base N q sc f cd A outer s H E).nox.base=base:=rfl
end
theorem ZcG {K:PySem.W.Frag} {h:Heap} {mg:Str->Option Value} {x:Str} {i:Int} {t:Tok} (X:K.In h) (G:h.Ns mainGlobals mg) (a:PySem.W.nsIn K mainGlobals x=some (some (.int i t))):Za0 mg x (.int i):=⟨_,PySem.W.mg_of X G a,t,rfl⟩
theorem ZcH {K:PySem.W.Frag} {h:Heap} {mg:Str->Option Value} {x:Str} {i:Addr} (X:K.In h) (G:h.Ns mainGlobals mg) (a:PySem.W.nsIn K mainGlobals x=some (some (.ref i))):Za0 mg x (.ref i):=⟨_,PySem.W.mg_of X G a,rfl⟩
theorem Ziw {K:PySem.W.Frag} {x qual p:Str} {st:Stmt} {f:Addr} {fd:FuncData} (F:Fun K x qual st f fd)
    (hb:∀ (kV doc pm:Value) (an:Option Addr) (cdv ct u:Value),bindArgs (PySem.W.fnOf x qual (Zaw st) (Zas st) (Zac st) .none kV doc pm an cdv ct) ⟨[u],[]⟩=pure [(p,u)]:=by intros; rfl):∀ (s:Shared) (u:Value),BindsTo s fd ⟨[u],[]⟩ [(p,u)]:=by
  obtain ⟨oc,od,kV,doc,pm,an,cdv,ct,osl,rfl,lk,hcd⟩:=F.ex
  exact fun s u=>.of_eq (hb kV doc pm an cdv ct u)
section
variable {σ:St} {H:Hp} {Q:VK} {D:Ends} {i:Nat} {x:V}
end
noncomputable abbrev RC:=List V->Hp->VK->Prop
noncomputable def rMax2:RC:=fun xs H Q=>∃ i j,xs=[.int i,.int j]/\Q (.int (if j > i then j else i)) H
noncomputable def rMin2:RC:=fun xs H Q=>∃ i j,xs=[.int i,.int j]/\Q (.int (if j < i then j else i)) H
noncomputable def rIsi:RC:=fun xs H Q=>∃ x T b,xs=[x,.ty T]/\isiV x T=some b/\Q (.bl b) H
noncomputable def rLenS (K:PySem.W.Frag):RC:=fun xs H Q=>∃ p ys,xs=[.ref p]/\(SqL K H p ys\/SqT K H p ys)/\Q (.int ys.length) H
section
variable {X:Cx} {H:Hp} {Q:VK} {K:PySem.W.Frag}
theorem Zjk (hc:X.calm=true):CallR X (.builtin "max") rMax2:=Zi0 hc
theorem Zlp (hc:X.calm=true):CallR X (.builtin "min") rMin2:=Zi1 hc
theorem cn_isi:CallR X (.builtin "isinstance") rIsi:=Zky
theorem ZbP:CallR X (.builtin "len") (rLenS X.K):=ZfZ
theorem Zg5 {a b:Int} (q:Q (.int (if b > a then b else a)) H):rMax2 [.int a,.int b] H Q:=⟨a,b,rfl,q⟩
theorem Zjl {a b:Int} (q:Q (.int (if b < a then b else a)) H):rMin2 [.int a,.int b] H Q:=⟨a,b,rfl,q⟩
theorem Zl8 {p:Addr} {xs:List V} (h:SqL K H p xs) (q:Q (.int xs.length) H):rLenS K [.ref p] H Q:=⟨p,xs,rfl,.inl h,q⟩
theorem Zl9 {p:Addr} {xs:List V} (h:SqT K H p xs) (q:Q (.int xs.length) H):rLenS K [.ref p] H Q:=⟨p,xs,rfl,.inr h,q⟩
end
end L2
namespace L2
open PySem PySem.Spec PyProof.Rows
section
variable {σ:St} {H:Hp} {Q:VK} {K:PySem.W.Frag} {p:Addr} {xs:List V} {v:V}
theorem rd_bm {T:String} {r:V->List V->Hp->VK->Prop} {to:TE} {t:TA} (q:to σ H fun x H1=>tyV K T x H1/\t σ H1 fun xs H2=>r x xs H2 Q):tBM K T r to t σ H Q:=q
theorem rd_bm0 {T:String} {r:V->List V->Hp->VK->Prop} {to:TE} (q:to σ H fun x H1=>tyV K T x H1/\r x [] H1 Q):tBM0 K T r to σ H Q:=q
theorem Zb3 (h:SqL K H p xs):tyV K "list" (.ref p) H:=.inl ⟨rfl,_,h⟩
theorem ZbL (h:H p=some (.lst xs)) (hz:xs.length < sizeLine) (q:Q .non (upd H p (.lst (xs ++ [v])))):Zjb (.ref p) [v] H Q:=⟨p,xs,v,rfl,rfl,h,hz,q⟩
theorem Zlq (h:H p=some (.lst (xs ++ [v]))) (q:Q v (upd H p (.lst xs))):rPop (.ref p) [] H Q:=by
  refine ⟨p,xs ++ [v],v,rfl,rfl,h,by simp,?_⟩
  rw [List.dropLast_concat]
  exact q
end
end L2
namespace L2
open PySem PySem.Spec PyProof.Rows
noncomputable def TupK (K:PySem.W.Frag) (a:Addr) (xs:List V):Prop:=∃ (o:Obj) (its:Array Value) (n:Nat),K.lookup a=some o/\o.cls=.type "tuple" /\ o.data=.seq its n/\its.size <= sizeLine/\Vals xs its.toList
theorem TupK.sqt {K:PySem.W.Frag} {a:Addr} {xs:List V} (h:TupK K a xs) (H:Hp):SqT K H a xs:=.inr h
theorem ZaN {K:PySem.W.Frag} {a:Addr} {xs:List V} {d:Option Addr} {its:Array Value} {n:Nat} {sl:Array (Option Value)} (l:K.lookup a=some ⟨.type "tuple", d,.seq its n,sl⟩) (v:Vals xs its.toList) (z:its.size <= sizeLine):TupK K a xs:=⟨_,its,n,l,rfl,rfl,z,v⟩
noncomputable def inS (x:Str) (xs:List Str):Bool:=xs.any fun y=>y == x
theorem Zma (x:Str) (xs:List Str):inV (.str x) (xs.map V.str)=inS x xs:=by
  unfold inV inS
  rw [List.any_map]
  rfl
section
variable {σ:St} {H:Hp} {Q:VK} {K:PySem.W.Frag} {p:Addr}
theorem Zjm {x:Str} {xs:List Str} (h:SqT K H p (xs.map V.str)) (q:Q (.bl (inS x xs)) H):rIn K false (.str x) (.ref p) H Q:=by
  refine ⟨p,_,rfl,.inr h,rfl,?_,?_⟩
  . rw [List.all_map]
    exact List.all_eq_true.mpr fun _ _=>rfl
  . rw [if_neg (by decide),Zma]
    exact q
end
noncomputable def CalD (P:Program) (w:World) (K:PySem.W.Frag) (mg:Str->Option Value) (base:Heap) (k:Nat) (x:Str) (sp:Sp) (dvs:List V):Prop :=
  ∃ f fd ps ds,mg x=some (.ref f)/\FnOk P w K mg base CX0 k f fd ps sp/\PySem.W.keepIn K (.ref f)=true/\Binds K fd ps ds/\Vals dvs ds
theorem Zmb {X:Cx} {k:Nat} {x:Str} {sp:Sp} {dvs:List V} {p pos:Pos} {e:Expr} {es:List Expr} {t:TA} (c:CalD X.prog X.w X.K X.mg X.base k x sp dvs) (hr:Room k X.A) (hg:Gl X x) (ha:PA X (e :: es) t) (hdb:(x == ("__debug__" : Str))=false:=by decide)
    (he:starEach (e :: es) X.env=(false,eval e X.env) :: starEach es X.env:=by rfl) (hpl:(backTo pos (starEach es X.env)).any (·.1)=false:=by rfl) :
    PE X (.Call (.Name x p) (e :: es) [] pos) (tCall sp dvs E0 t):=by
  obtain ⟨f,fd,ps,ds,m,F,kp,b,v⟩:=c
  exact Zi5 F hr hg m kp b v pass0 ha hdb he hpl
noncomputable def isiSeq:Bool->String->Option Bool
  | true, "tuple" => some true
  | true, "list" => some false
  | true, "int" => some false
  | true, "bool" => some false
  | true, "str" => some false
  | false, "list" => some true
  | false, "tuple" => some false
  | false, "int" => some false
  | false, "bool" => some false
  | false, "str" => some false
  | _,_=>none
noncomputable def rIsiQ (K:PySem.W.Frag):RC:=fun xs H Q=>∃ a T ys b,xs=[.ref a,.ty T]/\((SqT K H a ys/\isiSeq true T=some b)\/(SqL K H a ys/\isiSeq false T=some b))/\Q (.bl b) H
theorem Zjn {X:Cx}:CallR X (.builtin "isinstance") (rIsiQ X.K):=by
  intro pins s σ H xs us Q I r h
  obtain ⟨a,T,ys,b,rfl,e,q⟩:=h
  obtain ⟨u,v,rfl,ru,rv⟩:=vals2 r
  obtain rfl:v=Value.type T:=rv
  obtain rfl:u=Value.ref a:=ru
  have kp:∀ b o,s.heap.get? b=some o->s.heap.get? b=some o:=fun _ _ z=>z
  rcases e with ⟨hq,e⟩|⟨hq,e⟩
  . obtain ⟨its,rv,p,hz⟩:=I.tuple hq
    have p':s.heap.IsTuple a its.toArray:=p
    unfold isiSeq at e
    split at e <;> first
      | contradiction
      | (cases e; first
        | exact IsiPair.isTuple_tuple p' kp ⟨.bl true,H,I,rfl,q⟩
        | exact IsiPair.isTuple_list p' kp ⟨.bl false,H,I.tok _,rfl,q⟩
        | exact IsiPair.isTuple_int p' kp ⟨.bl false,H,I.tok _,rfl,q⟩
        | exact IsiPair.isTuple_bool p' kp ⟨.bl false,H,I.tok _,rfl,q⟩
        | exact IsiPair.isTuple_str p' kp ⟨.bl false,H,I.tok _,rfl,q⟩)
      | cases e
      | (rename_i z _; cases z)
  . obtain ⟨its,rv,p,hz⟩:=I.list hq
    have p':s.heap.IsList a its.toArray:=p.isList
    unfold isiSeq at e
    split at e <;> first
      | contradiction
      | (cases e; first
        | exact IsiPair.isList_list p' kp ⟨.bl true,H,I,rfl,q⟩
        | exact IsiPair.isList_tuple p' kp ⟨.bl false,H,I.tok _,rfl,q⟩
        | exact IsiPair.isList_int p' kp ⟨.bl false,H,I.tok _,rfl,q⟩
        | exact IsiPair.isList_bool p' kp ⟨.bl false,H,I.tok _,rfl,q⟩
        | exact IsiPair.isList_str p' kp ⟨.bl false,H,I.tok _,rfl,q⟩)
      | cases e
      | (rename_i z _; cases z)
noncomputable def rIsiA (K:PySem.W.Frag):RC:=fun xs H Q=>rIsi xs H Q\/rIsiQ K xs H Q
theorem Zcr {X:Cx}:CallR X (.builtin "isinstance") (rIsiA X.K):=cn_isi.or Zjn
section
variable {H:Hp} {Q:VK} {K:PySem.W.Frag}
theorem Zmc {x:V} {T:String} {b:Bool} (e:isiV x T=some b) (q:Q (.bl b) H):rIsiA K [x,.ty T] H Q:=.inl ⟨x,T,b,rfl,e,q⟩
theorem Zmd {a:Addr} {T:String} {ys:List V} {b:Bool} (h:SqT K H a ys) (e:isiSeq true T=some b) (q:Q (.bl b) H):rIsiA K [.ref a,.ty T] H Q:=.inr ⟨a,T,ys,b,rfl,.inl ⟨h,e⟩,q⟩
theorem Zme {a:Addr} {T:String} {ys:List V} {b:Bool} (h:SqL K H a ys) (e:isiSeq false T=some b) (q:Q (.bl b) H):rIsiA K [.ref a,.ty T] H Q:=.inr ⟨a,T,ys,b,rfl,.inr ⟨h,e⟩,q⟩
end
noncomputable def cV:Expr->Option V
  | .Constant (.int i) _ _=>some (.int i)
  | .Constant (.str x) _ _=>some (.str x)
  | _=>none
noncomputable def cVs:List Expr->Option (List V)
  | []=>some []
  | e :: es=>match cV e,cVs es with
    | some v,some vs=>some (v :: vs)
    | _,_=>none
noncomputable def tVals (vs:List V):TA:=fun _ H Q=>Q vs H
theorem pe_cV {X:Cx} {e:Expr} {v:V} (h:cV e=some v):PE X e (tC v)/\∀ es,starEach (e :: es) X.env=(false,eval e X.env) :: starEach es X.env:=by
  unfold cV at h
  split at h
  . cases h; exact ⟨Zag,fun _=>rfl⟩
  . cases h; exact ⟨Zav,fun _=>rfl⟩
  . cases h
theorem pa_cV {X:Cx}:∀ {es:List Expr} {vs:List V},cVs es=some vs->PA X es (tVals vs)
  | [],vs,h=>by
    cases h
    exact fun _ _ _ _ H Q I h=>Calls.spliced_nil ⟨[],H,I,.nil,h⟩
  | e :: es,vs,h=>by
    unfold cVs at h
    cases he:cV e with
    | none=>rw [he] at h; cases h
    | some v =>
      cases hs:cVs es with
      | none=>rw [he,hs] at h; cases h
      | some us =>
        rw [he,hs] at h
        cases h
        obtain ⟨h1,h2⟩:=pe_cV (X:=X) he
        exact Zaa h1 (pa_cV hs) (h2 es)
theorem Zmf {σ:St} {H:Hp} {vs:List V} {R:List V->Hp->Prop} (q:R vs H):tVals vs σ H R:=q
section
variable {σ:St} {H:Hp} {Q:VK} {P:Program} {w:World} {K:PySem.W.Frag} {td ty:TE}
end
noncomputable def rDK (P:Program) (w:World) (K:PySem.W.Frag):R2:=fun x y H Q=>∃ a vs k u v,x=.ref a/\y=kV k/\Zde P w K a vs/\valueAt vs k=some u/\RelV v u/\Q v H
theorem Ze0 {X:Cx} {o i:Expr} {td ty:TE} {pos:Pos} (ho:PE X o td) (hi:PE X i ty) (hs:NoSl i):PE X (.Subscript o i pos) (tOp (rDK X.prog X.w X.K) td ty):=ZkA ho hi hs
section
variable {H:Hp} {Q:VK} {P:Program} {w:World} {K:PySem.W.Frag}
theorem Zjo {a:Addr} {vs:List (Key × Value)} {x:Str} {u:Value} {v:V} (dk:Zde P w K a vs) (hv:valueAt vs (.inr x)=some u) (r:RelV v u) (q:Q v H):rDK P w K (.ref a) (.str x) H Q:=⟨a,vs,.inr x,u,v,rfl,rfl,dk,hv,r,q⟩
end
section
variable {CX:CXT} {P:Program} {w:World} {K:PySem.W.Frag} {mg:Str->Option Value} {base:Heap} {N:List Str} {q:Str} {sc:Scope} {f:Addr} {cd:Value} {A:Around} {outer:List Env} {s:Shared} {H:Hp} {E:XK}
theorem cxOf_K:(cxOf CX P w K mg base N q sc f cd A outer s H E).K=K:=rfl
theorem cxOf_P:(cxOf CX P w K mg base N q sc f cd A outer s H E).prog=P:=rfl
theorem cxOf_w:(cxOf CX P w K mg base N q sc f cd A outer s H E).w=w:=rfl
theorem Zmg:(cxOf CX P w K mg base N q sc f cd A outer s H E).mg=mg:=rfl
theorem Zjp:(cxOf CX P w K mg base N q sc f cd A outer s H E).base=base:=rfl
end
theorem ZkE:Vals [] []:=.nil
theorem ZkF {i:Int} {t:Tok} {xs:List V} {us:List Value} (h:Vals xs us):Vals (.int i :: xs) (.int i t :: us):=.cons ⟨t,rfl⟩ h
theorem ZkG {x:Str} {t:Tok} {xs:List V} {us:List Value} (h:Vals xs us):Vals (.str x :: xs) (.str x t :: us):=.cons ⟨t,rfl⟩ h
theorem Zjq {K:PySem.W.Frag} {h:Heap} {mg:Str->Option Value} {x:Str} {i:Addr} {xs:List V} {d:Option Addr} {its:Array Value} {n:Nat} {sl:Array (Option Value)} (X:K.In h) (G:h.Ns mainGlobals mg) (a:PySem.W.nsIn K mainGlobals x=some (some (.ref i)))
    (l:K.lookup i=some ⟨.type "tuple", d,.seq its n,sl⟩) (v:Vals xs its.toList) (z:its.size <= sizeLine):∃ a,Za0 mg x (.ref a)/\TupK K a xs:=⟨i,ZcH X G a,ZaN l v z⟩
structure FunD (K:PySem.W.Frag) (x qual:Str) (st:Stmt) (items:Array Value) (f:Addr) (fd:FuncData):Prop where
  ex:∃ (oc:Value) (od:Option Addr) (T:Addr) (kV doc pm:Value) (an:Option Addr) (cdv ct:Value) (osl:Array (Option Value)) (o:Obj) (n:Nat),
    fd=PySem.W.fnOf x qual (Zaw st) (Zas st) (Zac st) (.ref T) kV doc pm an cdv ct/\K.lookup f=some ⟨oc,od,.func fd,osl⟩/\PySem.W.codeIn K cdv qual=true/\K.lookup T=some o/\o.data=.seq items n
  kp:PySem.W.keepIn K (.ref f)=true
noncomputable def Zjr (K:PySem.W.Frag) (mg:Str->Option Value) (x:Str) (st:Stmt) (items:Array Value):Prop:=∃ f fd,FunD K x x st items f fd/\mg x=some (.ref f)
theorem Zjs {K:PySem.W.Frag} {h:Heap} {mg:Str->Option Value} {x:Str} {st:Stmt} {f T:Addr} {oc c2:Value} {od an d2:Option Addr} {osl s2:Array (Option Value)} {kV doc pm cdv ct:Value} {items:Array Value} {n:Nat} (X:K.In h) (G:h.Ns mainGlobals mg)
    (a:PySem.W.nsIn K mainGlobals x=some (some (.ref f))) (l:K.lookup f=some ⟨oc,od,.func (PySem.W.fnOf x x (Zaw st) (Zas st) (Zac st) (.ref T) kV doc pm an cdv ct),osl⟩)
    (c:PySem.W.codeIn K cdv x=true) (k:PySem.W.keepIn K (.ref f)=true) (d:K.lookup T=some ⟨c2,d2,.seq items n,s2⟩):Zjr K mg x st items :=
  ⟨f,_,⟨⟨oc,od,T,kV,doc,pm,an,cdv,ct,osl,_,n,rfl,l,c,d,rfl⟩,k⟩,PySem.W.mg_of X G a⟩
section
variable {P:Program} {w:World} {K:PySem.W.Frag} {mg:Str->Option Value} {base:Heap}
theorem FunD.fn {x qual:Str} {st:Stmt} {items:Array Value} {f:Addr} {fd:FuncData} {N ps:List Str} {k:Nat} {sp:Sp} (F:FunD K x qual st items f fd) (S:FnScope N ps (Zac st)) (len:∀ vs H Q E,sp vs H Q E->vs.length=ps.length)
    (hbody:∀ (cdv:Value) (A:Around) (outer:List Env) (s:Shared) (H:Hp) (vs:List V) (Q:VK) (E:XK),Room k (A.deeper (envOfC qual (Zac st) s.heap.objs.size f cdv))->sp vs H Q E ->
      ∃ t,PSs (cxOf CX0 P w K mg base N qual (Zac st) f cdv A outer s H E).nox (Zas st) t/\t { nx:=fun _ H'=>Q .non H',rt:=Q } (start N vs) H):FnOk P w K mg base CX0 (k + 1) f fd ps sp:=by
  obtain ⟨oc,od,T,kV,doc,pm,an,cdv,ct,osl,o,n,rfl,lk,hcd,lt,ld⟩:=F.ex
  refine fn_of lk hcd S len fun A outer s H vs Q E hr hsp=>?_
  obtain ⟨t,h,q⟩:=hbody cdv A outer s H vs Q E hr hsp
  exact ⟨t,h.nox,q⟩
theorem FunD.binds {x qual:Str} {st:Stmt} {items:Array Value} {f:Addr} {fd:FuncData} {ps:List Str} (F:FunD K x qual st items f fd) (ds:List Value)
    (h:∀ (T:Addr) (kV doc pm:Value) (an:Option Addr) (cdv ct:Value) (us:List Value),(us ++ ds).length=ps.length->∃ k:Option (Array Value)->Sem (List (Str × Value)),bindArgs (PySem.W.fnOf x qual (Zaw st) (Zas st) (Zac st) (.ref T) kV doc pm an cdv ct) ⟨us,[]⟩=seqItems? (.ref T) >>= k/\k (some items)=pure (ps.zip (us ++ ds))):Binds K fd ps ds:=by
  obtain ⟨oc,od,T,kV,doc,pm,an,cdv,ct,osl,o,n,rfl,lk,hcd,lt,ld⟩:=F.ex
  intro s us X hl
  obtain ⟨k,h1,h2⟩:=h T kV doc pm an cdv ct us hl
  exact BindsTo.of_defaults (fd:=PySem.W.fnOf x qual (Zaw st) (Zas st) (Zac st) (.ref T) kV doc pm an cdv ct) rfl (X _ _ lt) ld h1 h2
end
end L2
namespace L2
open PySem PySem.Spec PyProof.Rows PySem.SeqAt
inductive Dt where
  | non
  | bl (b:Bool)
  | int (i:Int)
  | str (x:Str)
  | lst (ds:List Dt)
  | tup (ds:List Dt)
mutual
noncomputable def Dt.eq:Dt->Dt->Bool
  | .non,.non=>true
  | .bl a,.bl b=>a == b
  | .bl a,.int b=>(if a then 1 else 0) == b
  | .int a,.bl b=>a == (if b then 1 else 0)
  | .int a,.int b=>a == b
  | .str a,.str b=>a == b
  | .lst a,.lst b=>Dt.eqs a b
  | .tup a,.tup b=>Dt.eqs a b
  | _,_=>false
noncomputable def Dt.eqs:List Dt->List Dt->Bool
  | [],[]=>true
  | a :: r,b :: t=>Dt.eq a b && Dt.eqs r t
  | _,_=>false
end
mutual
noncomputable def Dt.dep:Dt->Nat
  | .lst ds=>Dt.deps ds + 1
  | .tup ds=>Dt.deps ds + 1
  | _=>0
noncomputable def Dt.deps:List Dt->Nat
  | []=>0
  | d :: r=>max (Dt.dep d) (Dt.deps r)
end
mutual
noncomputable def DV (K:PySem.W.Frag) (H:Hp):Dt->V->Prop
  | .non,v=>v=.non
  | .bl b,v=>v=.bl b
  | .int i,v=>v=.int i
  | .str x,v=>v=.str x
  | .lst ds,v=>∃ a xs,v=.ref a/\SqL K H a xs/\DVs K H ds xs
  | .tup ds,v=>∃ a xs,v=.ref a/\SqT K H a xs/\DVs K H ds xs
noncomputable def DVs (K:PySem.W.Frag) (H:Hp):List Dt->List V->Prop
  | [],xs=>xs=[]
  | d :: r,xs=>∃ x t,xs=x :: t/\DV K H d x/\DVs K H r t
end
theorem DVs.length {K:PySem.W.Frag} {H:Hp}:∀ {ds:List Dt} {xs:List V},DVs K H ds xs->ds.length=xs.length
  | [],xs,h=>by unfold DVs at h; subst h; rfl
  | d :: r,xs,h=>by
    unfold DVs at h
    obtain ⟨x,t,rfl,_,h⟩:=h
    rw [List.length_cons,List.length_cons,DVs.length h]
theorem DVs.get {K:PySem.W.Frag} {H:Hp}:∀ {ds:List Dt} {xs:List V} {i:Nat} {d:Dt} {x:V},DVs K H ds xs->ds[i]?=some d->xs[i]?=some x->DV K H d x
  | [],xs,i,d,x,h,e,_=>by simp at e
  | d0 :: r,xs,i,d,x,h,e1,e2=>by
    unfold DVs at h
    obtain ⟨x0,t,rfl,h0,h⟩:=h
    cases i with
    | zero=>simp at e1 e2; subst e1 e2; exact h0
    | succ i=>exact DVs.get (i:=i) h (by simpa using e1) (by simpa using e2)
theorem Dt.dep_le:∀ {ds:List Dt} {i:Nat} {d:Dt},ds[i]?=some d->d.dep <= Dt.deps ds
  | [],i,d,e=>by simp at e
  | d0 :: r,i,d,e=>by
    unfold Dt.deps
    cases i with
    | zero=>simp at e; subst e; exact Nat.le_max_left _ _
    | succ i=>exact Nat.le_trans (Dt.dep_le (i:=i) (by simpa using e)) (Nat.le_max_right _ _)
theorem Dt.eqs_range:∀ (ds es:List Dt),ds.length=es.length->(List.range ds.length).all (fun j=>Dt.eq (ds.getD j .non) (es.getD j .non))=Dt.eqs ds es
  | [],[],_=>by unfold Dt.eqs; rfl
  | d :: r,e :: t,h=>by
    have ih:=Dt.eqs_range r t (by simpa using h)
    rw [List.length_cons,List.range_succ_eq_map,List.all_cons,List.all_map]
    unfold Dt.eqs
    rw [<- ih]
    rfl
  | [],_ :: _,h=>by simp at h
  | _ :: _,[],h=>by simp at h
section
variable {X:Cx} {pins:List (Addr × Obj)} {σ:St} {H:Hp} {s:Shared}
theorem DV.same (I:Inv X pins σ H s):∀ (n:Nat) (d e:Dt) (x:V),d.dep <= n->DV X.K H d x->DV X.K H e x->Dt.eq d e=true:=by
  intro n
  induction n with
  | zero =>
    intro d e x hn h1 h2
    cases d with
    | lst ds=>unfold Dt.dep at hn; omega
    | tup ds=>unfold Dt.dep at hn; omega
    | non=>unfold DV at h1; subst h1; cases e <;> unfold DV at h2 <;> first|(cases h2; done)|(obtain ⟨_,_,z,_⟩:=h2; cases z; done)|(unfold Dt.eq; rfl)
    | bl b=>unfold DV at h1; subst h1; cases e <;> unfold DV at h2 <;> first|(cases h2; unfold Dt.eq; simp; done)|(obtain ⟨_,_,z,_⟩:=h2; cases z; done)|(cases h2; done)
    | int b=>unfold DV at h1; subst h1; cases e <;> unfold DV at h2 <;> first|(cases h2; unfold Dt.eq; simp; done)|(obtain ⟨_,_,z,_⟩:=h2; cases z; done)|(cases h2; done)
    | str b=>unfold DV at h1; subst h1; cases e <;> unfold DV at h2 <;> first|(cases h2; unfold Dt.eq; simp; done)|(obtain ⟨_,_,z,_⟩:=h2; cases z; done)|(cases h2; done)
  | succ n ih =>
    intro d e x hn h1 h2
    have lists:∀ (ds es:List Dt) (xs:List V),Dt.deps ds <= n->DVs X.K H ds xs->DVs X.K H es xs->Dt.eqs ds es=true:=by
      intro ds es xs hd a b
      have l1:=a.length
      have l2:=b.length
      rw [<- Dt.eqs_range ds es (l1.trans l2.symm),List.all_eq_true]
      intro j hj
      have hj':j < ds.length:=List.mem_range.mp hj
      have e1:ds[j]?=some ds[j]:=List.getElem?_eq_getElem hj'
      have e2:es[j]?=some (es[j]'(by omega)):=List.getElem?_eq_getElem (by omega)
      have e3:xs[j]?=some (xs[j]'(by omega)):=List.getElem?_eq_getElem (by omega)
      rw [List.getD_eq_getElem?_getD,List.getD_eq_getElem?_getD,e1,e2]
      exact ih _ _ _ (Nat.le_trans (Dt.dep_le e1) hd) (a.get e1 e3) (b.get e2 e3)
    cases d with
    | lst ds =>
      unfold Dt.dep at hn
      unfold DV at h1
      obtain ⟨a,xs,rfl,q1,r1⟩:=h1
      cases e with
      | lst es =>
        unfold DV at h2
        obtain ⟨b,ys,z,q2,r2⟩:=h2
        cases z
        rw [I.list_inj q2 q1] at r2
        unfold Dt.eq
        exact lists ds es xs (by omega) r1 r2
      | tup es =>
        unfold DV at h2
        obtain ⟨b,ys,z,q2,r2⟩:=h2
        cases z
        obtain ⟨i1,_,p1,_⟩:=I.list q1
        obtain ⟨i2,_,p2,_⟩:=I.tuple q2
        obtain ⟨o1,g1,c1,_⟩:=p1.isList
        have p2':s.heap.IsTuple a i2.toArray:=p2
        obtain ⟨o2,g2,c2,_⟩:=p2'
        rw [g1] at g2
        cases g2
        rw [c1] at c2
        exact absurd c2 (by decide)
      | non=>unfold DV at h2; cases h2
      | bl b=>unfold DV at h2; cases h2
      | int b=>unfold DV at h2; cases h2
      | str b=>unfold DV at h2; cases h2
    | tup ds =>
      unfold Dt.dep at hn
      unfold DV at h1
      obtain ⟨a,xs,rfl,q1,r1⟩:=h1
      cases e with
      | tup es =>
        unfold DV at h2
        obtain ⟨b,ys,z,q2,r2⟩:=h2
        cases z
        rw [I.tuple_inj q2 q1] at r2
        unfold Dt.eq
        exact lists ds es xs (by omega) r1 r2
      | lst es =>
        unfold DV at h2
        obtain ⟨b,ys,z,q2,r2⟩:=h2
        cases z
        obtain ⟨i1,_,p1,_⟩:=I.list q2
        obtain ⟨i2,_,p2,_⟩:=I.tuple q1
        obtain ⟨o1,g1,c1,_⟩:=p1.isList
        have p2':s.heap.IsTuple a i2.toArray:=p2
        obtain ⟨o2,g2,c2,_⟩:=p2'
        rw [g1] at g2
        cases g2
        rw [c1] at c2
        exact absurd c2 (by decide)
      | non=>unfold DV at h2; cases h2
      | bl b=>unfold DV at h2; cases h2
      | int b=>unfold DV at h2; cases h2
      | str b=>unfold DV at h2; cases h2
    | non=>exact ih _ e x (by unfold Dt.dep; omega) h1 h2
    | bl b=>exact ih _ e x (by unfold Dt.dep; omega) h1 h2
    | int b=>exact ih _ e x (by unfold Dt.dep; omega) h1 h2
    | str b=>exact ih _ e x (by unfold Dt.dep; omega) h1 h2
end
end L2
namespace L2
open PySem PySem.Spec PyProof.Rows PySem.SeqAt
section
variable {X:Cx} {pins:List (Addr × Obj)} {σ:St} {H:Hp} {s:Shared}
end
section
variable {X:Cx}
end
noncomputable def Dt.ints (ns:List Int):List Dt:=ns.map Dt.int
section
variable {H:Hp} {Q:VK} {K:PySem.W.Frag} {a b:Addr}
end
mutual
theorem DV.keep {K:PySem.W.Frag} {H H':Hp} (s:Same H H'):∀ {d:Dt} {v:V},DV K H d v->DV K H' d v
  | .non,v,h=>by unfold DV at h |-; exact h
  | .bl b,v,h=>by unfold DV at h |-; exact h
  | .int i,v,h=>by unfold DV at h |-; exact h
  | .str x,v,h=>by unfold DV at h |-; exact h
  | .lst ds,v,h=>by
    unfold DV at h |-
    obtain ⟨a,xs,e,q,r⟩:=h
    exact ⟨a,xs,e,s.seq q,DVs.keep s r⟩
  | .tup ds,v,h=>by
    unfold DV at h |-
    obtain ⟨a,xs,e,q,r⟩:=h
    exact ⟨a,xs,e,s.tup q,DVs.keep s r⟩
theorem DVs.keep {K:PySem.W.Frag} {H H':Hp} (s:Same H H'):∀ {ds:List Dt} {xs:List V},DVs K H ds xs->DVs K H' ds xs
  | [],xs,h=>by unfold DVs at h |-; exact h
  | d :: r,xs,h=>by
    unfold DVs at h |-
    obtain ⟨x,t,e,h1,h2⟩:=h
    exact ⟨x,t,e,DV.keep s h1,DVs.keep s h2⟩
end
end L2
namespace L2
open PySem PySem.Spec PyProof.Rows Builtin Builtin.Str
end L2
namespace L2
open PySem PySem.Spec PyProof.Rows Builtin Builtin.Str
noncomputable abbrev RM:=V->List V->Hp->VK->Prop
section
variable {X:Cx}
variable {o e:Expr} {es:List Expr} {to:TE} {t:TA} {apos cpos:Pos}
end
section
variable {X:Cx} {H:Hp} {Q:VK} {K:PySem.W.Frag} {z y:Str} {p:Addr} {ts:List Str}
end
end L2
namespace L2
open PySem PySem.Spec PyProof.Rows Builtin Builtin.Str
end L2
namespace L2
open PySem PySem.Spec PyProof.Rows Builtin Builtin.Str
noncomputable def rIsN:R2:=fun x y H Q=>y=.non/\Q (.bl (decide (x=.non))) H
section
variable {X:Cx} {σ:St} {H:Hp} {Q:VK} {K:PySem.W.Frag} {z y:Str} {R:Prop}
theorem Zef:OpR X (compareOp .Is) rIsN:=op_isN
theorem Zmh (q:Q (.bl true) H):rIsN .non .non H Q:=⟨rfl,by rw [decide_eq_true rfl]; exact q⟩
theorem Zmi {p:Addr} (q:Q (.bl false) H):rIsN (.ref p) .non H Q:=⟨rfl,by rw [decide_eq_false (fun e=>nomatch e)]; exact q⟩
end
theorem ZkH {α:Type} {xs:List α} {i:Int} (h0:0 <= i) (h:i < xs.length):∃ c,atI xs i=some c/\xs[i.toNat]?=some c:=by
  have hl:i.toNat < xs.length:=by omega
  exact ⟨xs[i.toNat],ZbR (i:=i.toNat) (by simp [hl]) (by omega),by simp [hl]⟩
section
variable {H:Hp} {Q:VK} {z y:Str} {i:Int} {lo hi:Option Int}
end
end L2
namespace L2
open PySem PySem.Spec PyProof.Rows
noncomputable def Zjt (K:PySem.W.Frag):RC:=fun xs H Q=>∃ p ys,xs=[.ref p]/\(SqL K H p ys\/SqT K H p ys)/\∀ l,H l=none->Q (.ref l) (upd H l (.lst ys))
theorem Zju {X:Cx}:CallR X (.type "list") (Zjt X.K):=Zf0
section
variable {H:Hp} {Q:VK} {K:PySem.W.Frag} {p:Addr} {xs:List V}
theorem Zfb (h:SqL K H p xs) (q:∀ l,H l=none->Q (.ref l) (upd H l (.lst xs))):Zjt K [.ref p] H Q:=⟨p,xs,rfl,.inl h,q⟩
end
end L2
namespace L2
open PySem PySem.Spec PyProof.Rows
structure ClsF (K:PySem.W.Frag) (mg:Str->Option Value) (x:Str) (C:Addr):Prop where
  cl:Cls K C
  ms:PySem.W.makesIn K C=true
  kc:PySem.W.keepIn K (.ref C)=true
  mgC:mg x=some (.ref C)
noncomputable def Zao (K:PySem.W.Frag) (C:Addr) (m qual:Str) (st:Stmt):Prop:=∃ f fd,Fun K m qual st f fd/\PySem.W.findIn K (.ref C) m=some (some (.ref f))/\PySem.W.isFn K (.ref f)=true
noncomputable def MCal (P:Program) (w:World) (K:PySem.W.Frag) (mg:Str->Option Value) (base:Heap) (k:Nat) (C:Addr) (m:Str) (sp:Sp):Prop :=
  Cls K C/\∃ f fd ps,Meth K C m f/\FnOk P w K mg base CX0 k f fd ps sp/\Binds K fd ps []
noncomputable def ICal (P:Program) (w:World) (K:PySem.W.Frag) (mg:Str->Option Value) (base:Heap) (k:Nat) (x:Str) (C:Addr) (sp:Sp):Prop :=
  mg x=some (.ref C)/\∃ f fd ps,Mk K C f/\FnOk P w K mg base CX0 k f fd ps sp/\Binds K fd ps []
section
variable {P:Program} {w:World} {K:PySem.W.Frag} {mg:Str->Option Value} {base:Heap}
theorem ZaB {C:Addr} {m qual:Str} {st:Stmt} {f:Addr} {oc:Value} {od an:Option Addr} {osl:Array (Option Value)} {kV doc pm cdv ct:Value}
    (a:PySem.W.findIn K (.ref C) m=some (some (.ref f))) (i:PySem.W.isFn K (.ref f)=true) (l:K.lookup f=some ⟨oc,od,.func (PySem.W.fnOf m qual (Zaw st) (Zas st) (Zac st) .none kV doc pm an cdv ct),osl⟩)
    (c:PySem.W.codeIn K cdv qual=true) (k:PySem.W.keepIn K (.ref f)=true):Zao K C m qual st:=⟨f,_,Zlm l c k,a,i⟩
theorem Za9 {C:Addr} {m qual:Str} {st:Stmt} {N ps:List Str} {k:Nat} {sp:Sp} (D:Zao K C m qual st) (c:Cls K C) (S:FnScope N ps (Zac st)) (len:∀ vs H Q E,sp vs H Q E->vs.length=ps.length)
    (hb:∀ (kV doc pm:Value) (an:Option Addr) (cdv ct:Value) (us:List Value),us.length=ps.length->bindArgs (PySem.W.fnOf m qual (Zaw st) (Zas st) (Zac st) .none kV doc pm an cdv ct) ⟨us,[]⟩=pure (ps.zip us))
    (hbody:∀ (f:Addr) (cdv:Value) (A:Around) (outer:List Env) (s:Shared) (H:Hp) (vs:List V) (Q:VK) (E:XK),Room k (A.deeper (envOfC qual (Zac st) s.heap.objs.size f cdv))->sp vs H Q E ->
      ∃ t,PSs (cxOf CX0 P w K mg base N qual (Zac st) f cdv A outer s H E).nox (Zas st) t/\t { nx:=fun _ H'=>Q .non H',rt:=Q } (start N vs) H):MCal P w K mg base (k + 1) C m sp:=by
  obtain ⟨f,fd,F,a,i⟩:=D
  exact ⟨c,f,fd,ps,⟨a,i,F.kp⟩,F.ok S len (hbody f),F.binds hb⟩
theorem Zeg {C:Addr} {x qual:Str} {st:Stmt} {N ps:List Str} {k:Nat} {sp:Sp} (D:Zao K C "__init__" qual st) (c:ClsF K mg x C) (S:FnScope N ps (Zac st)) (len:∀ vs H Q E,sp vs H Q E->vs.length=ps.length)
    (hb:∀ (kV doc pm:Value) (an:Option Addr) (cdv ct:Value) (us:List Value),us.length=ps.length->bindArgs (PySem.W.fnOf "__init__" qual (Zaw st) (Zas st) (Zac st) .none kV doc pm an cdv ct) ⟨us,[]⟩=pure (ps.zip us))
    (hbody:∀ (f:Addr) (cdv:Value) (A:Around) (outer:List Env) (s:Shared) (H:Hp) (vs:List V) (Q:VK) (E:XK),Room k (A.deeper (envOfC qual (Zac st) s.heap.objs.size f cdv))->sp vs H Q E ->
      ∃ t,PSs (cxOf CX0 P w K mg base N qual (Zac st) f cdv A outer s H E).nox (Zas st) t/\t { nx:=fun _ H'=>Q .non H',rt:=Q } (start N vs) H):ICal P w K mg base (k + 1) x C sp:=by
  obtain ⟨f,fd,F,a,i⟩:=D
  exact ⟨c.mgC,f,fd,ps,⟨c.ms,a,i,c.kc⟩,F.ok S len (hbody f),F.binds hb⟩
theorem MCal.mono {j k:Nat} {C:Addr} {m:Str} {sp:Sp} (c:MCal P w K mg base j C m sp) (h:j <= k):MCal P w K mg base k C m sp :=
  let ⟨cl,f,fd,ps,M,F,b⟩:=c
  ⟨cl,f,fd,ps,M,F.mono h,b⟩
end
section
variable {X:Cx} {k:Nat} {C:Addr} {sp:Sp} {x m:Str} {p pos apos:Pos} {e o:Expr} {es:List Expr} {ta:TE} {t:TA}
theorem ZaL {pl:Sem Bool} (c:MCal X.prog X.w X.K X.mg X.base k C m sp) (hr:Room k X.A) (he:PE X o ta) (ha:PA X (e :: es) t)
    (hst:starEach (e :: es) X.env=(false,eval e X.env) :: starEach es X.env:=by rfl) (hpl:(backTo pos (starEach es X.env)).any (·.1)=false:=by rfl)
    (ht:eval (.Call (.Attribute o m apos) (e :: es) [] pos) X.env=(do
      let ov <- eval o X.env
      standAt apos.atName
      let (f,first) <- holding [ov] (getMethod ov m pl)
      callWith pos f first (backTo pos (starEach (e :: es) X.env)) (backToKw pos (keywordEach [] X.env))):=by rfl) :
    PE X (.Call (.Attribute o m apos) (e :: es) [] pos) (tMeth C m sp [] E0 ta t):=by
  obtain ⟨cl,f,fd,ps,M,F,b⟩:=c
  exact ZlJ he cl M F hr b .nil pass0 ha hst hpl ht
theorem ZcI {pl:Sem Bool} (c:MCal X.prog X.w X.K X.mg X.base k C m sp) (hr:Room k X.A) (he:PE X o ta)
    (ht:eval (.Call (.Attribute o m apos) [] [] pos) X.env=(do
      let ov <- eval o X.env
      standAt apos.atName
      let (f,first) <- holding [ov] (getMethod ov m pl)
      callWith pos f first (backTo pos (starEach [] X.env)) (backToKw pos (keywordEach [] X.env))):=by rfl) :
    PE X (.Call (.Attribute o m apos) [] [] pos) (tMeth C m sp [] E0 ta tNil):=by
  obtain ⟨cl,f,fd,ps,M,F,b⟩:=c
  exact Zkk he cl M F hr b .nil pass0 ht
theorem ZcU (c:ICal X.prog X.w X.K X.mg X.base k x C sp) (hr:Room (k + 1) X.A) (hg:Gl X x) (ha:PA X (e :: es) t) (hdb:(x == ("__debug__" : Str))=false:=by decide)
    (he:starEach (e :: es) X.env=(false,eval e X.env) :: starEach es X.env:=by rfl) (hpl:(backTo pos (starEach es X.env)).any (·.1)=false:=by rfl) :
    PE X (.Call (.Name x p) (e :: es) [] pos) (tMake C sp [] E0 t):=by
  obtain ⟨m,f,fd,ps,M,F,b⟩:=c
  exact Zi6 M F hr hg m b .nil pass0 ha hdb he hpl
noncomputable def tMethD (T:Addr->Sp->Prop) (m:Str) (ta:TE) (t:TA):TE:=fun σ H Q=>ta σ H fun x H1=>∃ a C dx fs sp,x=.ref a/\H1 a=some (.ins C dx fs)/\fs.lookup m=none/\T C sp/\t σ H1 fun vs H2=>sp (x :: vs) H2 Q E0
theorem Zh6 {pl:Sem Bool} {T:Addr->Sp->Prop} (c:∀ C sp,T C sp->MCal X.prog X.w X.K X.mg X.base k C m sp) (hr:Room k X.A) (he:PE X o ta) (ha:PA X (e :: es) t)
    (hst:starEach (e :: es) X.env=(false,eval e X.env) :: starEach es X.env:=by rfl) (hpl:(backTo pos (starEach es X.env)).any (·.1)=false:=by rfl)
    (ht:eval (.Call (.Attribute o m apos) (e :: es) [] pos) X.env=(do
      let ov <- eval o X.env
      standAt apos.atName
      let (f,first) <- holding [ov] (getMethod ov m pl)
      callWith pos f first (backTo pos (starEach (e :: es) X.env)) (backToKw pos (keywordEach [] X.env))):=by rfl) :
    PE X (.Call (.Attribute o m apos) (e :: es) [] pos) (tMethD T m ta t):=by
  intro pins s σ H Q I h
  refine PySem.W.methodCall_KW (pl:=pl) (thn (he pins s σ H _ I h) fun u s1 ⟨x,H1,I1,rx,a,C,dx,fs,sp,ex,ea,l,hT,q⟩=>?_) ht
  obtain ⟨cl,f,fd,ps,M,F,b⟩:=c C sp hT
  subst ex
  obtain rfl:u=Value.ref a:=rx
  refine Zb8 I1 ea cl M l ?_
  refine PySem.W.callWith_K (first:=[.ref a]) (h₀:=X.base) I.ok.mod.kin M.kp (thn (ha pos pins s1 σ H1 _ I1 q) fun us s2 ⟨vs,H2,I2,r,q2⟩=>⟨I2.kIn,?_⟩) hst hpl
  exact ZeY (us:=.ref a :: us) (vs:=.ref a :: vs) (dvs:=[]) (E:=E0) F hr b .nil pass0 I2 (.cons rfl r) (by rw [List.append_nil]; exact q2)
theorem Zgf {pl:Sem Bool} {T:Addr->Sp->Prop} (c:∀ C sp,T C sp->MCal X.prog X.w X.K X.mg X.base k C m sp) (hr:Room k X.A) (he:PE X o ta)
    (ht:eval (.Call (.Attribute o m apos) [] [] pos) X.env=(do
      let ov <- eval o X.env
      standAt apos.atName
      let (f,first) <- holding [ov] (getMethod ov m pl)
      callWith pos f first (backTo pos (starEach [] X.env)) (backToKw pos (keywordEach [] X.env))):=by rfl) :
    PE X (.Call (.Attribute o m apos) [] [] pos) (tMethD T m ta tNil):=by
  intro pins s σ H Q I h
  refine PySem.W.methodCall_KW (pl:=pl) (thn (he pins s σ H _ I h) fun u s1 ⟨x,H1,I1,rx,a,C,dx,fs,sp,ex,ea,l,hT,q⟩=>?_) ht
  obtain ⟨cl,f,fd,ps,M,F,b⟩:=c C sp hT
  subst ex
  obtain rfl:u=Value.ref a:=rx
  refine Zb8 I1 ea cl M l ?_
  exact PySem.W.callWith_K0 (first:=[.ref a]) I1.kIn M.kp (ZeY (us:=[.ref a]) (vs:=[.ref a]) (dvs:=[]) (E:=E0) F hr b .nil pass0 I1 (.cons rfl .nil) q)
end
section
variable {σ:St} {H:Hp} {Q:VK} {K:PySem.W.Frag} {a C dx:Addr} {fs:List (Str × V)} {f m:Str} {v:V} {D:Ends} {sp:Sp}
theorem rd_fld {ta:TE} (q:ta σ H fun x H1=>∃ a C dx fs v,x=.ref a/\H1 a=some (.ins C dx fs)/\Cls K C/\NoAttr K C f/\fs.lookup f=some v/\Q v H1):tFld K ta f σ H Q:=q
theorem Zai {R:V->Prop} (h:H a=some (.ins C dx fs)) (c:Cls K C) (n:NoAttr K C f) (l:fs.lookup f=some v) (q:R v):∃ a' C dx fs v,V.ref a=.ref a'/\H a'=some (.ins C dx fs)/\Cls K C/\NoAttr K C f/\fs.lookup f=some v/\R v:=⟨a,C,dx,fs,v,rfl,h,c,n,l,q⟩
theorem Zmj {ta tv:TE} (q:tv σ H fun y H1=>ta σ H1 fun x H2=>∃ a C dx fs,x=.ref a/\H2 a=some (.ins C dx fs)/\Cls K C/\NoAttr K C f/\fs.length < 1000/\D.nx σ (upd H2 a (.ins C dx (putF f y fs)))):sFld K ta tv f D σ H:=q
theorem Zau {R:Hp->Prop} {y:V} (h:H a=some (.ins C dx fs)) (c:Cls K C) (n:NoAttr K C f) (l:fs.length < 1000) (q:R (upd H a (.ins C dx (putF f y fs)))):∃ a' C dx fs,V.ref a=.ref a'/\H a'=some (.ins C dx fs)/\Cls K C/\NoAttr K C f/\fs.length < 1000/\R (upd H a' (.ins C dx (putF f y fs))):=⟨a,C,dx,fs,rfl,h,c,n,l,q⟩
theorem Zmk {ta:TE} {t:TA} (q:ta σ H fun x H1=>∃ a dx fs,x=.ref a/\H1 a=some (.ins C dx fs)/\fs.lookup m=none/\t σ H1 fun vs H2=>sp (x :: (vs ++ [])) H2 Q E0):tMeth C m sp [] E0 ta t σ H Q:=q
theorem Zap {R:Prop} (h:H a=some (.ins C dx fs)) (l:fs.lookup m=none) (q:R):∃ a' dx fs,V.ref a=.ref a'/\H a'=some (.ins C dx fs)/\fs.lookup m=none/\R:=⟨a,dx,fs,rfl,h,l,q⟩
theorem ZkI (q:∀ p,H p=none->Q (.ref p) (upd H p (.dK []))):tDNewK σ H Q:=q
theorem ZkJ {td ty tx:TE} (q:td σ H fun x H1=>∃ a,x=.ref a/\IsD H1 a/\ty σ H1 fun y H2=>tx σ H2 fun z H3=>∃ o,DGet H3 a y o/\Q (o.getD z) H3):tDGet2 td ty tx σ H Q:=q
theorem isD_k {kvs:List (Key × V)} (h:H a=some (.dK kvs)):IsD H a:=.inl ⟨kvs,.inl h⟩
end
section
variable {σ:St} {H:Hp} {Q:VK} {a:Addr} {kvs:List (Key × V)} {k:Key} {v:V} {R:Prop}
theorem Zml {td ty tv:TE} {D:Ends} (q:tv σ H fun v H1=>td σ H1 fun x H2=>ty σ H2 fun y H3=>∃ a H4,x=.ref a/\DPut H3 a y v H4/\D.nx σ H4):sDPut td ty tv D σ H:=q
theorem ZkK {S:Hp->Prop} {i:Int} (h:H a=some (.dK kvs)) (hl:kvs.length < sizeLine) (q:S (upd H a (.dK (putK kvs (Sum.inl i) v)))):∃ a' H4,V.ref a=.ref a'/\DPut H a' (.int i) v H4/\S H4:=⟨a,_,rfl,DPut.k (k:=Sum.inl i) h hl,q⟩
end
theorem SqL.updI {K:PySem.W.Frag} {H:Hp} {a p C dx:Addr} {fs:List (Str × V)} {xs:List V} {o:HO} (h:SqL K H a xs) (n:H p=some (.ins C dx fs)):SqL K (upd H p o) a xs:=by
  rcases h with (h|⟨ob,h⟩)|h
  . exact .inl (.inl (by rw [Zak (Zbl h n (by intro z; cases z))]; exact h))
  . exact .inl (.inr ⟨ob,by rw [Zak (Zbl h n (by intro z; cases z))]; exact h⟩)
  . exact .inr h
end L2
namespace L2
open PySem PySem.Spec PyProof.Rows
theorem Same.wr {H H':Hp} {l:Addr} {o:HO} (s:Same H H') (n:H l=none):Same H (upd H' l o):=fun b u e=>by rw [Zak (Zam e n)]; exact s b u e
theorem Same.fresh {H H':Hp} {q:Addr} (s:Same H H') (hq:H' q=none):H q=none:=by
  cases e:H q with
  | none=>rfl
  | some o=>rw [s _ _ e] at hq; cases hq
end L2
namespace L2
open PySem PySem.Spec PyProof.Rows
section
variable {σ:St} {H:Hp} {p:Addr}
end
section
variable {σ:St} {H:Hp} {p:Addr} {xs:List V} {v:V}
theorem Zmm {to ti:TE} {t:TSet} {Q:St->Hp->Prop} (q:to σ H fun o H1=>ti σ H1 fun i H2=>t o i v H2 fun H3=>Q σ H3):gSub to ti t v σ H Q:=q
theorem Zeh {Q:Hp->Prop} {k:Int} {j:Nat} (h:H p=some (.lst xs)) (hj:ixN xs.length k=some j) (q:Q (upd H p (.lst (xs.set j v)))):rSetL (.ref p) (.int k) v H Q:=⟨p,xs,k,j,rfl,rfl,h,hj,q⟩
theorem Zfc {n j:Nat} {k:Int} (e:k=(j:Int)) (h:j < n):ixN n k=some j:=by
  unfold ixN
  rw [if_pos (by omega),if_pos (by omega),e,Int.toNat_natCast]
theorem Zjv {n j:Nat} {k:Int} (hk:k < 0) (e:k + n=(j:Int)):ixN n k=some j:=by
  unfold ixN
  rw [if_neg (by omega),if_pos (by omega),e,Int.toNat_natCast]
end
section
variable {σ:St} {H:Hp} {p a:Addr} {K:PySem.W.Frag} {xs:List V}
end
end L2
namespace L2
open PySem PySem.Spec PyProof.Rows
mutual
theorem Dt.eq_self:∀ d:Dt,Dt.eq d d=true
  | .non=>by unfold Dt.eq; rfl
  | .bl b=>by unfold Dt.eq; exact beq_self_eq_true b
  | .int i=>by unfold Dt.eq; exact beq_self_eq_true i
  | .str x=>by unfold Dt.eq; exact beq_self_eq_true x
  | .lst ds=>by unfold Dt.eq; exact Dt.eqs_self ds
  | .tup ds=>by unfold Dt.eq; exact Dt.eqs_self ds
theorem Dt.eqs_self:∀ ds:List Dt,Dt.eqs ds ds=true
  | []=>by unfold Dt.eqs; rfl
  | d :: r=>by unfold Dt.eqs; rw [Dt.eq_self d,Dt.eqs_self r]; rfl
end
section
variable {K:PySem.W.Frag} {H:Hp} {Q:VK} {x y:V} {d:Dt}
theorem Zaj {i:Int}:DV K H (.int i) (.int i):=by unfold DV; rfl
theorem ZbT {i:Str}:DV K H (.str i) (.str i):=by unfold DV; rfl
theorem ZaH:DVs K H [] []:=by unfold DVs; rfl
theorem Zab {d:Dt} {r:List Dt} {x:V} {t:List V} (h:DV K H d x) (h2:DVs K H r t):DVs K H (d :: r) (x :: t):=by unfold DVs; exact ⟨x,t,rfl,h,h2⟩
theorem ZcS {a:Addr} {xs:List V} {ds:List Dt} (h:SqT K H a xs) (h2:DVs K H ds xs):DV K H (.tup ds) (.ref a):=by unfold DV; exact ⟨a,xs,rfl,h,h2⟩
theorem Zei {a:Addr} {xs:List V} {ds:List Dt} (h:SqL K H a xs) (h2:DVs K H ds xs):DV K H (.lst ds) (.ref a):=by unfold DV; exact ⟨a,xs,rfl,h,h2⟩
end
theorem ZkL {σ σ':St} {H:Hp} {i:Nat} {v:V} {R:St->Hp->Prop} (e:σ.set i (some v)=σ') (q:R σ' H):gName i v σ H R:=by subst e; exact q
theorem Zmn {σ:St} {H:Hp} {Q:VK} {C:Addr} {sp:Sp} {t:TA} (q:t σ H fun vs H1=>∀ x dx,H1 x=none->H1 dx=none->dx ≠ x->sp (.ref x :: (vs ++ [])) (upd (upd H1 dx (.own x)) x (.ins C dx [])) (fun v H2=>v=.non/\Q (.ref x) H2) E0):tMake C sp [] E0 t σ H Q:=q
theorem Same.made {H H':Hp} {x dx C:Addr} {o:HO} (hx:H x=none) (hd:H dx=none) (k:∀ b u,(upd (upd H dx o) x (.ins C dx [])) b=some u->b ≠ x->H' b=some u):Same H H':=fun b u e =>
  k b u (by rw [Zak (Zam e hx),Zak (Zam e hd)]; exact e) (Zam e hx)
end L2
namespace L2
open PySem PySem.Spec PyProof.Rows
noncomputable def Imm (u:HO):Prop:=(∃ xs,u=.tup xs)\/∃ o w,u=.frz o w
noncomputable def SameI (H H':Hp):Prop:=∀ b u,H b=some u->Imm u->H' b=some u
theorem SameI.refl (H:Hp):SameI H H:=fun _ _ h _=>h
theorem SameI.trans {H H1 H2:Hp} (a:SameI H H1) (b:SameI H1 H2):SameI H H2:=fun c u h i=>b c u (a c u h i) i
theorem Same.imm {H H':Hp} (s:Same H H'):SameI H H':=fun b u h _=>s b u h
theorem SameI.upd {H:Hp} {a:Addr} {u o:HO} (h:H a=some u) (n:¬ Imm u):SameI H (upd H a o):=fun b v e i=>by
  rw [Zak (Zbl e h (fun z=>n (z ▸ i)))]; exact e
theorem SameI.new {H:Hp} {a:Addr} {o:HO} (h:H a=none):SameI H (L2.upd H a o):=(Same.new h).imm
theorem SameI.tup {K:PySem.W.Frag} {H H':Hp} {a:Addr} {xs:List V} (e:SameI H H') (h:SqT K H a xs):SqT K H' a xs:=by
  rcases h with (h|⟨o,h⟩)|h
  . exact .inl (.inl (e _ _ h (.inl ⟨_,rfl⟩)))
  . exact .inl (.inr ⟨o,e _ _ h (.inr ⟨_,_,rfl⟩)⟩)
  . exact .inr h
theorem ZbJ {xs:List V}:¬ Imm (.lst xs):=by rintro (⟨_,z⟩|⟨_,_,z⟩) <;> cases z
theorem Zgg {kvs:List (Key × V)}:¬ Imm (.dK kvs):=by rintro (⟨_,z⟩|⟨_,_,z⟩) <;> cases z
theorem ZcJ {C dx:Addr} {fs:List (Str × V)}:¬ Imm (.ins C dx fs):=by rintro (⟨_,z⟩|⟨_,_,z⟩) <;> cases z
noncomputable def SameND (H H':Hp):Prop:=∀ b u,H b=some u->(∀ kvs,u ≠ .dK kvs)->H' b=some u
theorem SameND.refl (H:Hp):SameND H H:=fun _ _ h _=>h
theorem SameND.trans {H H1 H2:Hp} (a:SameND H H1) (b:SameND H1 H2):SameND H H2:=fun c u h i=>b c u (a c u h i) i
theorem Same.nd {H H':Hp} (s:Same H H'):SameND H H':=fun b u h _=>s b u h
theorem SameND.imm {H H':Hp} (s:SameND H H'):SameI H H':=fun b u h i=>s b u h (by
  rintro kvs rfl
  exact Zgg i)
theorem SameND.seq {K:PySem.W.Frag} {H H':Hp} {a:Addr} {xs:List V} (e:SameND H H') (h:SqL K H a xs):SqL K H' a xs:=by
  rcases h with (h|⟨o,h⟩)|h
  . exact .inl (.inl (e _ _ h (by intro _ z; cases z)))
  . exact .inl (.inr ⟨o,e _ _ h (by intro _ z; cases z)⟩)
  . exact .inr h
noncomputable abbrev Row:=Str × Option Int
noncomputable def rowVs:Row->List V
  | (w,none)=>[.str w]
  | (w,some n)=>[.str w,.int n]
noncomputable def rowD:Row->Dt
  | (w,none)=>.tup [.str w]
  | (w,some n)=>.tup [.str w,.int n]
noncomputable def RowAt (K:PySem.W.Frag) (H:Hp) (r:Row) (v:V):Prop:=∃ t,v=.ref t/\SqT K H t (rowVs r)
noncomputable def RowsAt (K:PySem.W.Frag) (H:Hp) (rs:List Row) (xs:List V):Prop:=rs.length=xs.length/\∀ (i:Nat) (r:Row) (x:V),rs[i]?=some r->xs[i]?=some x->RowAt K H r x
theorem RowAt.keep {K:PySem.W.Frag} {H H':Hp} {r:Row} {v:V} (h:RowAt K H r v) (s:SameI H H'):RowAt K H' r v:=let ⟨t,e,q⟩:=h; ⟨t,e,s.tup q⟩
theorem RowsAt.keep {K:PySem.W.Frag} {H H':Hp} {rs:List Row} {xs:List V} (h:RowsAt K H rs xs) (s:SameI H H'):RowsAt K H' rs xs:=⟨h.1,fun i r x h1 h2=>(h.2 i r x h1 h2).keep s⟩
theorem RowsAt.nil {K:PySem.W.Frag} {H:Hp}:RowsAt K H [] []:=⟨rfl,fun i r x h=>by simp at h⟩
theorem RowsAt.tail {K:PySem.W.Frag} {H:Hp} {r:Row} {rs:List Row} {x:V} {xs:List V} (h:RowsAt K H (r :: rs) (x :: xs)):RowAt K H r x/\RowsAt K H rs xs :=
  ⟨h.2 0 r x rfl rfl,by have:=h.1; simpa using this,fun i r' x' h1 h2=>h.2 (i + 1) r' x' (by simpa using h1) (by simpa using h2)⟩
theorem RowsAt.cons {K:PySem.W.Frag} {H:Hp} {r:Row} {rs:List Row} {x:V} {xs:List V} (h1:RowAt K H r x) (h:RowsAt K H rs xs):RowsAt K H (r :: rs) (x :: xs):=by
  refine ⟨by simp [h.1],fun i r' x' e1 e2=>?_⟩
  cases i with
  | zero=>cases e1; cases e2; exact h1
  | succ i=>exact h.2 i r' x' (by simpa using e1) (by simpa using e2)
theorem RowAt.dv {K:PySem.W.Frag} {H:Hp} {r:Row} {v:V} (h:RowAt K H r v):DV K H (rowD r) v:=by
  obtain ⟨t,rfl,q⟩:=h
  obtain ⟨w,o⟩:=r
  cases o with
  | none=>exact ZcS q (Zab ZbT ZaH)
  | some n=>exact ZcS q (Zab ZbT (Zab Zaj ZaH))
theorem RowsAt.dvs {K:PySem.W.Frag} {H:Hp}:∀ {rs:List Row} {xs:List V},RowsAt K H rs xs->DVs K H (rs.map rowD) xs
  | [],[],_=>ZaH
  | r :: rs,x :: xs,h=>Zab h.tail.1.dv h.tail.2.dvs
  | [],x :: xs,h=>by have:=h.1; simp at this
  | r :: rs,[],h=>by have:=h.1; simp at this
noncomputable def putFn (f:Int->Int) (i v:Int):Int->Int:=fun j=>if j=i then v else f j
noncomputable def DictF (H:Hp) (d:Addr) (f:Int->Int) (m:Nat):Prop:=∃ kvs,H d=some (.dK kvs)/\kvs.length <= m/\∀ i:Int,(valV kvs (Sum.inl i:Key)).getD (.int 0)=.int (f i)
noncomputable def StoreAt (H:Hp) (d:Addr) (f:Int->Int) (m:Nat):Prop:=∃ kvs,H d=some (.dK kvs)/\kvs.length <= m/\(kvs.map (·.1)).Nodup/\(∀ p ∈ kvs,∃ i n:Int,p=(Sum.inl i,.int n)/\n ≠ 0)/\∀ i:Int,(valV kvs (Sum.inl i:Key)).getD (.int 0)=.int (f i)
theorem DictF.put {H:Hp} {d:Addr} {kvs:List (Key × V)} {f:Int->Int} {m:Nat} (hl:kvs.length <= m) (hf:∀ i:Int,(valV kvs (Sum.inl i:Key)).getD (.int 0)=.int (f i)) (i v:Int):DictF (upd H d (.dK (putK kvs (Sum.inl i) (.int v)))) d (putFn f i v) (m + 1):=by
  refine ⟨_,Zah,Nat.le_trans (ZcT ..) (Nat.add_le_add_right hl 1),fun j=>?_⟩
  rw [Zkp]
  unfold putFn
  by_cases e:j=i
  . subst e
    rw [if_pos rfl,if_pos rfl]
    rfl
  . rw [if_neg (fun z=>e (Sum.inl.inj z)),if_neg e]
    exact hf j
theorem Zgh {κ:Type} [DecidableEq κ] (k j:κ):∀ kvs:List (κ × V),valV (dropK kvs k) j=if j=k then none else valV kvs j
  | []=>by
    have:dropK ([]:List (κ × V)) k=[]:=rfl
    rw [this,Zko]
    split <;> rfl
  | p :: r=>by
    have ih:=Zgh k j r
    by_cases e:p.1=k
    . rw [Zf9 e,ih]
      by_cases z:j=k
      . rw [if_pos z,if_pos z]
      . rw [if_neg z,if_neg z,Zbm (fun q=>z (q.symm.trans e))]
    . rw [Zga e]
      by_cases q:p.1=j
      . rw [Zbq q,Zbq q,if_neg (fun z=>e (q.trans z))]
      . rw [Zbm q,Zbm q,ih]
theorem Zjw {κ:Type} [DecidableEq κ] {kvs:List (κ × V)} {k:κ} (v:V) (hn:(kvs.map (·.1)).Nodup):((putK kvs k v).map (·.1)).Nodup:=by
  cases e:valV kvs k with
  | none=>exact ZlW v hn e
  | some u =>
    have hk:(kvs.any fun kv=>decide (kv.1=k))=true:=by rw [Zcb,e]; rfl
    unfold putK
    rw [if_pos hk,List.map_map]
    have:((fun x:κ × V=>x.1) ∘ fun kv:κ × V=>if kv.1=k then (kv.1,v) else kv)=fun x=>x.1:=by
      funext x
      show (if x.1=k then (x.1,v) else x).1=x.1
      split <;> rfl
    rw [this]
    exact hn
theorem ZkM {κ:Type} [DecidableEq κ] {kvs:List (κ × V)} {k:κ} {v:V} {p:κ × V} (h:p ∈ putK kvs k v):p=(k,v)\/p ∈ kvs:=by
  unfold putK at h
  split at h
  . obtain ⟨q,hq,e⟩:=List.mem_map.mp h
    by_cases z:q.1=k
    . rw [if_pos z] at e; left; rw [<- e,z]
    . rw [if_neg z] at e; right; rw [<- e]; exact hq
  . rcases List.mem_append.mp h with h|h
    . exact .inr h
    . exact .inl (List.mem_singleton.mp h)
theorem StoreAt.put {H:Hp} {d:Addr} {kvs:List (Key × V)} {f:Int->Int} {m:Nat} (hl:kvs.length <= m) (hn:(kvs.map (·.1)).Nodup) (hz:∀ p ∈ kvs,∃ i n:Int,p=(Sum.inl i,.int n)/\n ≠ 0) (hf:∀ i:Int,(valV kvs (Sum.inl i:Key)).getD (.int 0)=.int (f i)) (i v:Int) (hv:v ≠ 0) :
    StoreAt (upd H d (.dK (putK kvs (Sum.inl i) (.int v)))) d (putFn f i v) (m + 1):=by
  obtain ⟨kvs',e1,e2,e3⟩:=DictF.put (H:=H) (d:=d) hl hf i v
  rw [Zah] at e1
  cases e1
  refine ⟨_,Zah,e2,Zjw _ hn,fun p hp=>?_,e3⟩
  rcases ZkM hp with rfl|hp
  . exact ⟨i,v,rfl,hv⟩
  . exact hz p hp
theorem StoreAt.drop {H:Hp} {d:Addr} {kvs:List (Key × V)} {f:Int->Int} {m:Nat} (hl:kvs.length <= m) (hn:(kvs.map (·.1)).Nodup) (hz:∀ p ∈ kvs,∃ i n:Int,p=(Sum.inl i,.int n)/\n ≠ 0) (hf:∀ i:Int,(valV kvs (Sum.inl i:Key)).getD (.int 0)=.int (f i)) (i:Int) :
    StoreAt (upd H d (.dK (dropK kvs (Sum.inl i)))) d (putFn f i 0) (m + 1):=by
  refine ⟨_,Zah,Nat.le_trans (Ze8 ..) (Nat.le_trans hl (Nat.le_succ _)),Zfa hn,fun p hp=>hz p (Zgb hp),fun j=>?_⟩
  rw [Zgh]
  unfold putFn
  by_cases e:j=i
  . subst e
    rw [if_pos rfl,if_pos rfl]
    rfl
  . rw [if_neg (fun z=>e (Sum.inl.inj z)),if_neg e]
    exact hf j
theorem StoreAt.same {H H':Hp} {d:Addr} {f:Int->Int} {m:Nat} (h:StoreAt H d f m) (e:H' d=H d):StoreAt H' d f m:=let ⟨kvs,a,b⟩:=h; ⟨kvs,e.trans a,b⟩
theorem DictF.same {H H':Hp} {d:Addr} {f:Int->Int} {m:Nat} (h:DictF H d f m) (e:H' d=H d):DictF H' d f m:=let ⟨kvs,a,b⟩:=h; ⟨kvs,e.trans a,b⟩
theorem StoreAt.le {H:Hp} {d:Addr} {f:Int->Int} {m m':Nat} (h:StoreAt H d f m) (e:m <= m'):StoreAt H d f m':=let ⟨kvs,a,b,c⟩:=h; ⟨kvs,a,Nat.le_trans b e,c⟩
theorem DictF.le {H:Hp} {d:Addr} {f:Int->Int} {m m':Nat} (h:DictF H d f m) (e:m <= m'):DictF H d f m':=let ⟨kvs,a,b,c⟩:=h; ⟨kvs,a,Nat.le_trans b e,c⟩
section
variable {σ:St} {H:Hp} {Q:VK} {a:Addr} {kvs:List (Key × V)}
theorem ZkN {td ty tx:TE} (q:td σ H fun x H1=>∃ a,x=.ref a/\IsD H1 a/\ty σ H1 fun y H2=>tx σ H2 fun z H3=>∃ kvs k,H3 a=some (.dK kvs)/\y=kV k/\(∀ v,valV kvs k=some v->Q v (upd H3 a (.dK (dropK kvs k))))/\(valV kvs k=none->Q z H3)):tDPop2 td ty tx σ H Q:=q
end
end L2
namespace L2
open PySem PySem.Spec PyProof.Rows
section
variable {σ:St} {H:Hp} {K:PySem.W.Frag} {a l:Addr} {xs:List V} {n:Nat} {t:TGs} {Q:St->Hp->Prop} {v:V} {r:List V} {g:TG} {u:TGs}
theorem Zmo (h:SqT K H a xs) (hl:xs.length=n) (q:t xs σ H Q):gTup K n t (.ref a) σ H Q:=⟨a,xs,rfl,h,hl,q⟩
theorem ZkO (q:g v σ H fun σ' H'=>u r σ' H' Q):gCons g u (v :: r) σ H Q:=⟨v,r,rfl,q⟩
theorem Zmp (q:Q σ H):gNil [] σ H Q:=⟨rfl,q⟩
end
end L2
namespace L2
open PySem PySem.Spec PyProof.Rows
section
variable {σ:St} {H:Hp} {p a:Addr} {K:PySem.W.Frag} {xs:List V}
noncomputable def compNx (Pv:Nat->Hp->Prop) (i:Nat) (σ:St):St->Hp->Prop:=fun σ2 H2=>Pv i H2/\∃ v,σ2=v :: σ
theorem Zjx {tc:TT} {te:TE} {R:Hp->Prop} (Pv:Nat->Hp->Prop) (h0:Pv 0 (upd H p (.lst []))) (hl:∀ i H',Pv i H'->SqL K H' a xs)
    (hs:∀ (i:Nat) (x:V) (H':Hp),xs[i]?=some x->Pv i H'->tc (some x :: σ) H' fun b H1=>if b=true then te (some x :: σ) H1 fun y H2=>∃ ys,H2 p=some (.lst ys)/\ys.length < sizeLine/\compNx Pv (i + 1) σ (some x :: σ) (upd H2 p (.lst (ys ++ [y]))) else compNx Pv (i + 1) σ (some x :: σ) H1)
    (fin:∀ H',Pv xs.length H'->R H'):tLoopC 1 (gName 0) tc te (Itl K a) p R σ H:=by
  refine ⟨fun i m σ' H'=>m=xs.length - i/\i <= xs.length/\Pv i H'/\∃ v,σ'=v :: σ,⟨xs.length,by omega,Nat.zero_le _,h0,none,rfl⟩,?_⟩
  rintro i m σ' H' ⟨rfl,hi,hp,v,rfl⟩
  have hs':=hl i H' hp
  by_cases hlt:i < xs.length
  . refine .inr ⟨⟨xs,xs[i],hs',by simp [hlt]⟩,compNx Pv (i + 1) σ,fun σ2 H2 ⟨e,v',e'⟩=>⟨xs.length - (i + 1),by omega,rfl,hlt,e,v',e'⟩,fun x H1 ⟨e,y⟩=>?_⟩
    subst e
    have hx:=y xs hs'
    refine ZlZ ?_
    simp only [List.set_cons_zero]
    exact hs i x _ hx hp
  . have e:i=xs.length:=by omega
    subst e
    exact .inl ⟨⟨xs,hs',Nat.le_refl _⟩,fin H' hp⟩
theorem Zmq {σ:St} {H:Hp} {R:Bool->Hp->Prop} (q:R true H):tNoIf σ H R:=q
end
theorem RowsAt.snoc {K:PySem.W.Frag} {H:Hp} {rs:List Row} {xs:List V} {r:Row} {x:V} (h:RowsAt K H rs xs) (h1:RowAt K H r x):RowsAt K H (rs ++ [r]) (xs ++ [x]):=by
  refine ⟨by simp [h.1],fun i r' x' e1 e2=>?_⟩
  by_cases hi:i < rs.length
  . rw [List.getElem?_append_left hi] at e1
    rw [List.getElem?_append_left (by rw [<- h.1]; exact hi)] at e2
    exact h.2 i r' x' e1 e2
  . have hi2:i=rs.length:=by
      have:=(List.getElem?_eq_some_iff.mp e1).1
      simp at this
      omega
    subst hi2
    rw [List.getElem?_append_right (Nat.le_refl _),Nat.sub_self] at e1
    rw [List.getElem?_append_right (by rw [h.1]; exact Nat.le_refl _),h.1,Nat.sub_self] at e2
    cases e1
    cases e2
    exact h1
theorem RowsAt.ins {K:PySem.W.Frag} {H:Hp} {rs:List Row} {xs:List V} {r:Row} {x:V} (h:RowsAt K H rs xs) (h1:RowAt K H r x) (k:Nat):RowsAt K H (rs.take k ++ r :: rs.drop k) (xs.take k ++ x :: xs.drop k):=by
  have ht:RowsAt K H (rs.take k) (xs.take k):=⟨by simp [h.1],fun i r' x' e1 e2=>by
    rw [List.getElem?_take] at e1 e2
    split at e1
    . rename_i hk
      rw [if_pos hk] at e2
      exact h.2 i r' x' e1 e2
    . cases e1⟩
  have hd:RowsAt K H (r :: rs.drop k) (x :: xs.drop k):=.cons h1 ⟨by simp [h.1],fun i r' x' e1 e2=>by
    rw [List.getElem?_drop] at e1 e2
    exact h.2 _ r' x' e1 e2⟩
  refine ⟨by rw [List.length_append,List.length_append,ht.1,hd.1],fun i r' x' e1 e2=>?_⟩
  by_cases hi:i < (rs.take k).length
  . rw [List.getElem?_append_left hi] at e1
    rw [List.getElem?_append_left (by rw [<- ht.1]; exact hi)] at e2
    exact ht.2 i r' x' e1 e2
  . rw [List.getElem?_append_right (by omega)] at e1
    rw [List.getElem?_append_right (by rw [<- ht.1]; omega),<- ht.1] at e2
    exact hd.2 _ r' x' e1 e2
end L2
namespace L2
open PySem PySem.Spec PyProof.Rows PySem.Calls PySem.W
section
variable {Pr:Program} {wo:World} {Ar:Around} {Ex:Value->Shared->Prop} {sh:Shared} {Ty:String} {ro di:Addr} {cnt:Nat} {Pp:Nat->Value->Prop} {Okd:Heap->Prop}
end
section
variable {K:PySem.W.Frag} {H:Hp} {Q:VK} {d:Addr} {ns:List Int}
end
section
variable {K:PySem.W.Frag} {H:Hp} {Q:VK} {t l b:Addr}
end
end L2
namespace L2
open PySem PySem.Builtin PySem.Builtin.Str PySem.StrLaws
noncomputable def Gap (w:Nat):List Nat->Prop
  | []=>True
  | [_]=>True
  | a :: b :: r=>a + w <= b/\Gap w (b :: r)
theorem Gap.tail {w a:Nat} {r:List Nat} (h:Gap w (a :: r)):Gap w r:=by
  cases r with
  | nil=>trivial
  | cons b r=>exact h.2
theorem Gap.ge {w a:Nat}:∀ {r:List Nat},Gap w (a :: r)->∀ b ∈ r,a + w <= b
  | [],_,b,hb=>by simp at hb
  | c :: r,h,b,hb=>by
    rcases List.mem_cons.mp hb with rfl|hb
    . exact h.1
    . have:=Gap.ge (r:=r) h.2 b hb
      have:=h.1
      omega
end L2
namespace L2
open PySem PySem.Builtin PySem.Builtin.Str PySem.StrLaws
end L2
namespace L2
open PySem PySem.Spec PyProof.Rows
section
variable {X:Cx} {pins:List (Addr × Obj)} {σ:St} {H:Hp} {s:Shared} {a:Addr} {o:Obj} {kvs:List (Key × V)}
end
end L2
namespace L2
open PySem PySem.Spec PyProof.Rows
section
variable {σ:St} {H:Hp} {Q:VK} {D:Ends} {td:TE} {g:TG} {tc:TT} {te:TE} {tb:TS} {k:Nat} {a:Addr} {o:Obj} {kvs:List (Key × V)} {p:Addr}
theorem DGet.frz {k:Key} (e:H a=some (.frz o (.dK kvs))):DGet H a (kV k) (valV kvs k):=.inl ⟨kvs,k,.inr ⟨o,e⟩,rfl,rfl⟩
end
section
variable {K:PySem.W.Frag} {σ:St} {H:Hp} {D:Ends} {a C dx:Addr} {fs:List (Str × V)} {f:Str} {i j:Int}
theorem Zjy {ta tv:TE} {rd:V->V->Hp->VK->Prop} (q:ta σ H fun x H1=>∃ a C dx fs v,x=.ref a/\H1 a=some (.ins C dx fs)/\Cls K C/\NoAttr K C f/\fs.lookup f=some v/\tv σ H1 fun y H2=>rd v y H2 fun z H3=>∃ dx' fs',H3 a=some (.ins C dx' fs')/\fs'.length < 1000/\D.nx σ (upd H3 a (.ins C dx' (putF f z fs')))):Zi4 K ta tv rd f D σ H:=q
theorem Zdg {v:V} {R:Addr->Addr->V->Prop} (h:H a=some (.ins C dx fs)) (c:Cls K C) (n:NoAttr K C f) (l:fs.lookup f=some v) (q:R a C v):∃ a' C dx fs v,V.ref a=.ref a'/\H a'=some (.ins C dx fs)/\Cls K C/\NoAttr K C f/\fs.lookup f=some v/\R a' C v:=⟨a,C,dx,fs,v,rfl,h,c,n,l,q⟩
theorem Zmr {Q:VK} (q:Q (.int (i + j)) H):rAdd (.int i) (.int j) H Q:=⟨i,j,rfl,rfl,q⟩
theorem Zms {Q:VK} (q:Q (.int (i - j)) H):rSub (.int i) (.int j) H Q:=⟨i,j,rfl,rfl,q⟩
end
end L2
namespace L2
open PySem PySem.Spec PyProof.Rows
end L2
namespace L2
open PySem PySem.Spec PyProof.Rows PySem.Calls
section
variable {H:Hp} {Q:VK} {σ:St}
end
section
variable {H:Hp} {Q:VK} {σ:St} {K:PySem.W.Frag} {p a:Addr} {xs ys:List V}
end
end L2
namespace L2
open PySem PySem.Spec PyProof.Rows PySem.Calls
theorem KV.at {kvs:List (Key × V)} {vs:List (Key × Value)}:KV kvs vs->∀ {i:Nat} {p:Key × V},kvs[i]?=some p->∃ u,vs[i]?=some (p.1,u)/\RelV p.2 u:=by
  intro h
  unfold KV at h
  induction h with
  | nil=>intro i p e; simp at e
  | @cons a b as bs ab _ ih =>
    intro i p e
    cases i with
    | zero =>
      cases e
      refine ⟨b.2,?_,ab.2⟩
      rw [ab.1]
      rfl
    | succ i=>exact ih (by simpa using e)
section
variable {σ:St} {H:Hp} {Q:VK} {D:Ends} {td:TE} {g:TG} {tb:TS} {a:Addr} {o:Obj} {kvs:List (Key × V)}
end
section
variable {σ:St} {H:Hp} {Q:VK}
end
end L2
namespace L2
open PySem PySem.Spec PyProof.Rows PySem.Calls
structure Fly (base h:Heap) (e T:Addr) (cls:Value):Prop where
  x:∃ oe vs oT ts,h.get? e=some oe/\oe.cls=cls/\oe.data=.fields vs/\vs[1]?=some (.ref T)/\h.get? T=some oT/\oT.data=.fields ts/\ts[3]?=some .none
  nT:base.get? T=none
  ne:T ≠ e
  dn:∀ o,h.get? e=some o->o.dict=none
structure Gone (base:Heap) (l:List Env) (e:Addr) (cls:Value) (ch:List Addr) (h h':Heap):Prop where
  st:base.StaysIn h'
  fr:h'.FunFrames base l
  fly:∃ T,Fly base h' e T cls/\(T ∈ ch\/h.objs.size <= T)
  keep:∀ b o,b ∉ l.filterMap (·.frame)->b ≠ e->b ∉ ch->h.get? b=some o->h'.get? b=some o
  slot:∀ b o,b ∈ l.filterMap (·.frame)->h.get? b=some o->∃ sl,h'.get? b=some { o with slots:=sl }
section
variable {M:Model} {A:Around} {E:Value->Shared->Prop} {s:Shared} {base:Heap} {env:Env} {outer:List Env} {L e:Addr} {Q:Unit->Shared->Prop}
end
noncomputable def CXE (P:Program) (w:World) (base:Heap):CXT:=fun outer H s E e s'=>∃ (a T C:Addr) (H':Hp),e=.ref a/\Fly base s'.heap a T (.ref C)/\base.get? a=none/\H' a=none/\H' T=none/\s.heap.get? a=none/\s.heap.get? T=none /\
  s'.os=s.os/\AllBare s'.gens/\Un (frs outer) [] H H' s.heap s'.heap/\HOk P w H' s'.heap/\E e (some C) H'
theorem ObjOk.is {P:Program} {w:World} {H:Hp} {h:Heap} {a:Addr} {o:HO} (x:ObjOk P w H h a o):∃ q,h.get? a=some q:=by
  cases o with
  | lst xs=>obtain ⟨_,_,_,_,e⟩:=x; exact ⟨_,e⟩
  | tup xs=>obtain ⟨_,_,_,p⟩:=x; obtain ⟨_,e,_⟩:=p; exact ⟨_,e⟩
  | dK kvs=>obtain ⟨_,_,_,_,o,_,_,e,_⟩:=x; exact ⟨_,e⟩
  | dT kvs=>obtain ⟨_,_,_,_,o,_,_,e,_⟩:=x; exact ⟨_,e⟩
  | set S n=>obtain ⟨o,_,_,_,e,_⟩:=x; exact ⟨_,e⟩
  | ins C dx fs=>obtain ⟨_,_,_,e,_⟩:=x; exact ⟨_,e⟩
  | own y=>exact x
  | xd fs=>obtain ⟨_,⟨_,_,_,e,_⟩,_⟩:=x; exact ⟨_,e⟩
  | rng lo hi=>obtain ⟨_,_,_,e⟩:=x; exact ⟨_,e⟩
  | frz ob u=>exact ⟨_,x.1⟩
  | tbl ps=>exact ⟨_,x⟩
  | met f y=>exact ⟨_,x⟩
  | ext φ=>exact x.2.1
section
variable {X:Cx} {pins:List (Addr × Obj)} {σ:St} {H':Hp} {s':Shared} {h':Heap} {a:Addr} {cls:Value} {ch:List Addr}
end
end L2
namespace L2
open PySem PySem.Spec PyProof.Rows PySem.Calls
noncomputable def CalE (P:Program) (w:World) (K:PySem.W.Frag) (mg:Str->Option Value) (base:Heap) (k:Nat) (x:Str) (sp:Sp):Prop :=
  ∃ f,mg x=some (.ref f)/\∃ fd ps,FnOk P w K mg base (CXE P w base) k f fd ps sp/\PySem.W.keepIn K (.ref f)=true/\Binds K fd ps []
theorem CalE.mono {P:Program} {w:World} {K:PySem.W.Frag} {mg:Str->Option Value} {base:Heap} {j k:Nat} {x:Str} {sp:Sp} (c:CalE P w K mg base j x sp) (h:j <= k):CalE P w K mg base k x sp :=
  let ⟨f,m,fd,ps,F,kp,b⟩:=c
  ⟨f,m,fd,ps,F.mono h,kp,b⟩
section
variable {X:Cx} {pins pins':List (Addr × Obj)} {σ σ':St} {H:Hp} {s:Shared} {E:XK}
end
section
variable {X:Cx} {pins pins':List (Addr × Obj)} {σ:St} {H:Hp} {s s':Shared} {E:XK} {e:Value}
end
end L2
namespace L2
open PySem PySem.Spec PyProof.Rows PySem.Calls
end L2
namespace L2
open PySem PySem.Spec PyProof.Rows PySem.Calls
theorem Zg6:typeLookup (.type "list_reverseiterator") "__length_hint__" = pure (some (.builtin "list_reverseiterator.__length_hint__")):=by
  rw [typeLookup_type,builtinLookup_eq_fast]
  kernel_rfl
theorem Zmt:typeLookup (.type "list_reverseiterator") "__len__" = pure none:=by
  rw [typeLookup_type,builtinLookup_eq_fast]
  kernel_rfl
section
variable {prog:Program} {w:World} {A:Around} {E:Value->Shared->Prop} {s:Shared} {r:Addr}
theorem ZkP {Q:Bool->Shared->Prop} (hT:s.TypeIs (.ref r) "list_reverseiterator") (h:Q false s):wpAny (model prog w) A (Builtin.List.listLengthHint (.ref r)) Q E s:=by
  unfold Builtin.List.listLengthHint
  refine wpAny_bind (wpAny_specialOf hT Zmt ?_)
  dsimp only
  refine wpAny_ite_split (fun hab=>absurd hab (by decide)) (fun _=>?_)
  refine wpAny_ite_split (fun hab=>absurd hab (by decide)) (fun _=>?_)
  refine wpAny_bind (wpAny_specialOf hT Zg6 ?_)
  generalize hid:("list_reverseiterator.__length_hint__" : String)=id0
  wp_delta
  rw [show splitId id0=some ("list_reverseiterator", "__length_hint__") from by subst hid; decide +kernel]
  subst hid
  refine wpAny_bind (wpAny_isInstance (T := "list_reverseiterator") (b:=true) hT (by rw [isSubtype_type]; kernel_rfl) ?_)
  refine wpAny_ite_split (fun hab=>absurd hab (by decide)) (fun _=>?_)
  refine wpAny_ite_split (fun _=>?_) (fun hab=>absurd (by decide +kernel) hab)
  refine wpAny_ite_split (fun hab=>absurd hab (by decide)) (fun _=>?_)
  exact wpAny_pure h
theorem Zfd {l:Addr} {items:Array Value} {Q:Value->Shared->Prop} (hh:A.handled=none) (hit:s.heap.IsRevIter r l ((items.size:Int) - 1)) (hl:s.heap.IsList l items) (hlr:l ≠ r) (hn:items.size <= sizeLine)
    (hQ:∀ h' tk acc c,(∀ b o,b ≠ r->s.heap.get? b=some o->h'.get? b=some o)->h'.get? s.heap.objs.size=some { cls:=.type "list", dict:=none,data:=.seq acc c,slots:=#[] } ->
      ItemsOf (fun i v=>items[items.size - 1 - i]?=some v) acc items.size->Q (.ref s.heap.objs.size) { s with heap:=h',toks:=tk }):wpAny (model prog w) A (call (.type "list") [.ref r]) Q E s:=by
  refine callType_codes (Q₁:=fun obj s₁=>s₁={ s with heap:=s.heap.push { cls:=.type "list", data:=.seq #[] } }/\obj=.ref s.heap.objs.size) PySem.F.called_list (PySem.F.typeCall_list_1 _) PySem.F.entry_list_init (code_list_new _ ⟨rfl,rfl⟩) ?_
  rintro obj s₁ ⟨rfl,rfl⟩
  have hS:(s.heap.push { cls:=.type "list", data:=.seq #[] }).get? s.heap.objs.size=some { cls:=.type "list", data:=.seq #[] }:=Heap.get?_push_size _ rfl
  have rlt:r < s.heap.objs.size:=by obtain ⟨o,e,_⟩:=hit; exact Heap.lt_size e
  have llt:l < s.heap.objs.size:=by obtain ⟨o,e,_⟩:=hl; exact Heap.lt_size e
  generalize hz:s.heap.objs.size=S at hS rlt llt hQ |-
  have hSr:S ≠ r:=Nat.ne_of_gt rlt
  have hSl:S ≠ l:=Nat.ne_of_gt llt
  refine ⟨⟨_,hS,rfl⟩,PySem.F.args_list_init_2 _ _,?_⟩
  have up1:∀ b o,s.heap.get? b=some o->(s.heap.push { cls:=.type "list", data:=.seq #[] }).get? b=some o:=fun b o e=>Heap.get?_push_of_some _ e
  generalize s.heap.push { cls:=.type "list", data:=.seq #[] }=h1 at hS up1 |-
  show wpAny _ _ (Builtin.List.listItems (.ref S) >>= fun old=>Builtin.List.listUpdate (.ref S) (fun _=>#[]) >>= fun _=>letGo old.toList.reverse >>= fun _=>Builtin.List.listExtendWith (.ref S) (.ref r) .none) _ _ _
  unfold Builtin.List.listItems
  refine wpAny_bind (wpAny_bind (wpAny_seqItems hS rfl (wpAny_pure ?_)))
  refine wpAny_bind (wpAny_updateSeq hS rfl ?_)
  have hS2:=Heap.get?_update_self (Obj.mapSeq (fun _=>(#[]:Array Value))) hS rfl
  have up2:∀ b o,b ≠ S->h1.get? b=some o->(h1.update S (Obj.mapSeq (fun _=>(#[]:Array Value)))).get? b=some o:=fun b o hb e=>by
    rw [Heap.get?_update_other _ _ (Ne.symm hb)]
    exact e
  generalize h1.update S (Obj.mapSeq (fun _=>(#[]:Array Value)))=h2 at hS2 up2 |-
  refine wpAny_bind (wpAny_letGo ?_)
  have it2:h2.IsRevIter r l ((items.size:Int) - 1):=hit.at fun o e=>up2 _ _ (Ne.symm hSr) (up1 _ _ e)
  have l2:h2.IsList l items:=hl.at fun o e=>up2 _ _ (Ne.symm hSl) (up1 _ _ e)
  have ty2:({ s with heap:=h2 }:Shared).TypeIs (.ref r) "list_reverseiterator" := Heap.IsRevIter.typeIs (s:={ s with heap:=h2 }) it2
  unfold Builtin.List.listExtendWith
  refine wpAny_bind (wpAny_typeOf ty2 ?_)
  have ns:Builtin.List.listSameRef (.ref S) (.ref r)=false:=by simp [Builtin.List.listSameRef,hSr]
  rw [ns]
  refine wpAny_ite_split (fun hab=>absurd hab (by decide)) (fun _=>?_)
  refine wpAny_bind (wpAny_pyIter_revIter (s:={ s with heap:=h2 }) it2 ?_)
  refine wpAny_bind (wpAny_holding (ZkP ty2 ?_))
  refine wpAny_ite_split (fun hab=>absurd hab (by decide)) (fun _=>?_)
  have W:=fun B:Around=>fun (hB:B.handled=none)=>Walks.listRev (prog:=prog) (w:=w) (A:=B) hB r l hlr items
  have e0:(items.size:Int) - 1 - ((0:Nat):Int)=(items.size:Int) - 1:=by omega
  refine wpAny_pure ⟨plainId_quiet PySem.F.plain_extend_loop _,codeAny_extend_loopS (W A.in1.in1 hh).toS hn S ?_ .none items.size 0 _ #[] _ rfl (Nat.zero_le _) ⟨Nat.zero_le _,by rw [e0]; exact it2,l2⟩ hS2 (ItemsOf.nil _) fun s' acc c mv hS' ok=>?_⟩
  . simp [hSr,hSl]
  . rw [Moved.eq_with mv]
    refine ⟨rfl,hQ s'.heap s'.toks acc c (fun b o hb e=>?_) hS' ok⟩
    have hbS:b ≠ S:=by rw [<- hz]; exact Nat.ne_of_lt (Heap.lt_size e)
    exact mv.heap b o (by simp [hb,hbS]) (up2 b o hbS (up1 b o e))
end
noncomputable def Zh7 (K:PySem.W.Frag) (ta:TA):TE:=fun σ H Q=>ta σ H fun vs H1=>∃ b xs,vs=[.ref b]/\SqL K H1 b xs/\∀ l,H1 l=none->Q (.ref l) (upd H1 l (.lst xs.reverse))
theorem Zix {K:PySem.W.Frag} {ta:TA} {σ:St} {H:Hp} {Q:VK} (q:ta σ H fun vs H1=>∃ b xs,vs=[.ref b]/\SqL K H1 b xs/\∀ l,H1 l=none->Q (.ref l) (upd H1 l (.lst xs.reverse))):Zh7 K ta σ H Q:=q
theorem Zjz:∀ (xs:List V) (us:List Value),xs.length=us.length->(∀ (j:Nat) (x:V) (u:Value),xs[j]?=some x->us[j]?=some u->RelV x u)->Vals xs us
  | [],[],_,_=>.nil
  | [],_ :: _,h,_=>by simp at h
  | _ :: _,[],h,_=>by simp at h
  | x :: xs,u :: us,h,g=>.cons (g 0 x u rfl rfl) (Zjz xs us (by simpa using h) fun j y v h1 h2=>g (j + 1) y v (by simpa using h1) (by simpa using h2))
theorem Ziy {X:Cx} {a:Expr} {ta:TA} {p p2 pos pos2:Pos} (hc:X.calm=true) (hgl:Gl X "list") (hml:X.mg "list" = none) (hgr:Gl X "reversed") (hmr:X.mg "reversed" = none) (ha:PA X [a] ta) (hs:starEach [a] X.env=[(false,eval a X.env)]:=by rfl)
    (hs2:starEach [.Call (.Name "reversed" p2) [a] [] pos2] X.env=[(false,eval (.Call (.Name "reversed" p2) [a] [] pos2) X.env)]:=by rfl):PE X (.Call (.Name "list" p) [.Call (.Name "reversed" p2) [a] [] pos2] [] pos) (Zh7 X.K ta):=by
  intro pins s σ H Q I h
  refine Call_ (ZeS I hgl hml boot_list (PyProof.Rows.callWith_type1 (PyProof.Rows.spliced_more (Call_ (ZeS I hgr hmr boot_reversed (PyProof.Rows.callWith_type1 (thn (ha pos2 pins s σ H _ I h) fun us s1 ⟨vs,H1,I1,r1,q1⟩=>?_) hs rfl))) hs2) hs2 rfl))
  obtain ⟨l,xs,e,hq,q⟩:=q1
  subst e
  cases r1 with
  | cons r rr =>
    cases rr
    cases r
    obtain ⟨its,rv,pl,hz⟩:=I1.list hq
    refine call_reversed_list pl.isList ?_
    have en:its.toArray.size=xs.length:=by rw [List.size_toArray,rv.length]
    have st:(s1.heap.push (revObj l ((its.toArray.size:Int) - 1))).IsRevIter s1.heap.objs.size l ((its.toArray.size:Int) - 1):=⟨_,Heap.get?_push_size _ rfl,rfl,rfl⟩
    have llt:l < s1.heap.objs.size:=by obtain ⟨_,e,_⟩:=pl.isList; exact Heap.lt_size e
    refine PyProof.Rows.spliced_none ?_
    refine Zfd (s:={ s1 with heap:=s1.heap.push (revObj l ((its.toArray.size:Int) - 1)) }) (I1.ok.hd hc) st (pl.isList.at fun o e=>Heap.get?_push_of_some _ e) (Nat.ne_of_lt llt) (by rw [en]; exact hz) fun h' tk acc c kp hS ok=>?_
    have ge:s1.heap.objs.size <= (s1.heap.push (revObj l ((its.toArray.size:Int) - 1))).objs.size:=by rw [Heap.size_push]; exact Nat.le_succ _
    refine ⟨.ref _,_,I1.laid (t':=tk) (h':=h') (o:=.lst xs.reverse) (fun b u e=>kp b u (Nat.ne_of_lt (Heap.lt_size e)) (Heap.get?_push_of_some _ e)) ge ?_,rfl,q _ (I1.hok.fresh ge)⟩
    refine ⟨by rw [List.length_reverse]; exact hz,acc.toList,c,Zjz _ _ ?_ fun j x u h1 h2=>?_,hS⟩
    . have k1:=ok.1
      have k2:acc.toList.length=acc.size:=Array.length_toList
      have k3:xs.reverse.length=xs.length:=List.length_reverse
      omega
    . have h3:=ok.2 j u (by rw [<- Array.getElem?_toList]; exact h2)
      have hj:j < xs.length:=by
        have:=(List.getElem?_eq_some_iff.mp h1).1
        rwa [List.length_reverse] at this
      rw [List.getElem?_reverse hj] at h1
      rw [en] at h3
      obtain ⟨v,hv,rr⟩:=rv.get h1
      have h4:its[xs.length - 1 - j]?=some u:=by simpa using h3
      rw [hv] at h4
      cases h4
      exact rr
noncomputable abbrev Exc (x:Str) (C:Addr) (mg:Str->Option Value) (base:Heap):Prop:=OwnCls x C [.type "ValueError", .type "Exception", .type "BaseException", .type "object"] "ValueError.__new__" mg base
end L2
namespace L2
open PySem PySem.Spec PyProof.Rows
noncomputable def Zcs (K:PySem.W.Frag) (C:Addr) (m qual:Str) (st:Stmt) (items:Array Value):Prop:=∃ f fd,FunD K m qual st items f fd/\PySem.W.findIn K (.ref C) m=some (some (.ref f))/\PySem.W.isFn K (.ref f)=true
noncomputable def Zg7 (P:Program) (w:World) (K:PySem.W.Frag) (mg:Str->Option Value) (base:Heap) (k:Nat) (x:Str) (C:Addr) (sp:Sp) (dvs:List V):Prop :=
  mg x=some (.ref C)/\∃ f fd ps ds,Mk K C f/\FnOk P w K mg base CX0 k f fd ps sp/\Binds K fd ps ds/\Vals dvs ds
section
variable {P:Program} {w:World} {K:PySem.W.Frag} {mg:Str->Option Value} {base:Heap}
theorem Ziz {C:Addr} {m qual:Str} {st:Stmt} {f T:Addr} {oc c2:Value} {od an d2:Option Addr} {osl s2:Array (Option Value)} {kV doc pm cdv ct:Value} {items:Array Value} {n:Nat}
    (a:PySem.W.findIn K (.ref C) m=some (some (.ref f))) (i:PySem.W.isFn K (.ref f)=true) (l:K.lookup f=some ⟨oc,od,.func (PySem.W.fnOf m qual (Zaw st) (Zas st) (Zac st) (.ref T) kV doc pm an cdv ct),osl⟩)
    (c:PySem.W.codeIn K cdv qual=true) (k:PySem.W.keepIn K (.ref f)=true) (d:K.lookup T=some ⟨c2,d2,.seq items n,s2⟩):Zcs K C m qual st items :=
  ⟨f,_,⟨⟨oc,od,T,kV,doc,pm,an,cdv,ct,osl,_,n,rfl,l,c,d,rfl⟩,k⟩,a,i⟩
theorem ZkQ {C:Addr} {x qual:Str} {st:Stmt} {items:Array Value} {N ps:List Str} {k:Nat} {sp:Sp} (D:Zcs K C "__init__" qual st items) (c:ClsF K mg x C) (S:FnScope N ps (Zac st)) (len:∀ vs H Q E,sp vs H Q E->vs.length=ps.length)
    (hbody:∀ (f:Addr) (cdv:Value) (A:Around) (outer:List Env) (s:Shared) (H:Hp) (vs:List V) (Q:VK) (E:XK),Room k (A.deeper (envOfC qual (Zac st) s.heap.objs.size f cdv))->sp vs H Q E ->
      ∃ t,PSs (cxOf CX0 P w K mg base N qual (Zac st) f cdv A outer s H E).nox (Zas st) t/\t { nx:=fun _ H'=>Q .non H',rt:=Q } (start N vs) H)
    (ds:List Value) {dvs:List V} (v:Vals dvs ds)
    (hb:∀ (T:Addr) (kV doc pm:Value) (an:Option Addr) (cdv ct:Value) (us:List Value),(us ++ ds).length=ps.length->∃ k:Option (Array Value)->Sem (List (Str × Value)),bindArgs (PySem.W.fnOf "__init__" qual (Zaw st) (Zas st) (Zac st) (.ref T) kV doc pm an cdv ct) ⟨us,[]⟩=seqItems? (.ref T) >>= k/\k (some items)=pure (ps.zip (us ++ ds))):Zg7 P w K mg base (k + 1) x C sp dvs:=by
  obtain ⟨f,fd,F,a,i⟩:=D
  exact ⟨c.mgC,f,fd,ps,ds,⟨c.ms,a,i,c.kc⟩,F.fn S len (hbody f),F.binds ds hb,v⟩
end
section
variable {X:Cx} {k:Nat} {C:Addr} {sp:Sp} {x:Str} {p pos:Pos} {e:Expr} {es:List Expr} {t:TA} {dvs:List V}
theorem Zd1 (c:Zg7 X.prog X.w X.K X.mg X.base k x C sp dvs) (hr:Room (k + 1) X.A) (hg:Gl X x) (ha:PA X (e :: es) t) (hdb:(x == ("__debug__" : Str))=false:=by decide)
    (he:starEach (e :: es) X.env=(false,eval e X.env) :: starEach es X.env:=by rfl) (hpl:(backTo pos (starEach es X.env)).any (·.1)=false:=by rfl) :
    PE X (.Call (.Name x p) (e :: es) [] pos) (tMake C sp dvs E0 t):=by
  obtain ⟨m,f,fd,ps,ds,M,F,b,v⟩:=c
  exact Zi6 M F hr hg m b v pass0 ha hdb he hpl
end
theorem ZkR {σ:St} {H:Hp} {Q:VK} {C:Addr} {sp:Sp} {t:TA} {dvs:List V} (q:t σ H fun vs H1=>∀ x dx,H1 x=none->H1 dx=none->dx ≠ x->sp (.ref x :: (vs ++ dvs)) (upd (upd H1 dx (.own x)) x (.ins C dx [])) (fun v H2=>v=.non/\Q (.ref x) H2) E0):tMake C sp dvs E0 t σ H Q:=q
noncomputable def KeptX (X:Addr->Prop) (H H':Hp):Prop:=∀ b o,H b=some o->¬ X b->H' b=some o
section
variable {X Y:Addr->Prop} {H H1 H2:Hp}
theorem KeptX.refl:KeptX X H H:=fun _ _ e _=>e
theorem KeptX.trans (a:KeptX X H H1) (b:KeptX X H1 H2):KeptX X H H2:=fun c o e n=>b c o (a c o e n) n
theorem KeptX.mono (a:KeptX X H H1) (h:∀ b,X b->Y b):KeptX Y H H1:=fun c o e n=>a c o e fun z=>n (h c z)
theorem Same.keptX (s:Same H H1):KeptX X H H1:=fun c o e _=>s c o e
theorem KeptX.upd {b:Addr} {o:HO} (h:X b):KeptX X H (L2.upd H b o):=fun c u e n=>by
  have hc:c ≠ b:=fun z=>by rw [z] at n; exact n h
  rw [Zak hc]; exact e
theorem KeptX.new {b:Addr} {o:HO} (h:H b=none):KeptX X H (L2.upd H b o):=(Same.new h).keptX
theorem KeptX.imm (a:KeptX X H H1) (h:∀ b o,X b->H b=some o->¬ Imm o):SameI H H1:=fun b u e i=>a b u e fun z=>h b u z e i
end
end L2
local macro_rules|`(tactic| walk_at "settle")=>`(tactic| first
  | (simp only [L2.start,List.map_cons,List.map_nil,List.length_cons,List.length_nil,List.replicate,List.cons_append,List.nil_append,List.append_nil,List.set_cons_zero,List.set_cons_succ,Nat.reduceAdd,Nat.reduceSub]; done)
  | (simp only [L2.start,List.map_cons,List.map_nil,List.length_cons,List.length_nil,List.replicate,List.cons_append,List.nil_append,List.append_nil,List.set_cons_zero,List.set_cons_succ,Nat.reduceAdd,Nat.reduceSub]; rfl)
  | rfl
  | fail)
local macro_rules|`(tactic| walk_at "side")=>`(tactic| first
  | exact ⟨by decide,by decide⟩
  | exact ⟨by decide,by decide,by decide⟩
  | (show (0:Int) < _; first|decide|omega)
  | (show (0:Int) <= _; first|decide|omega)
  | (show (0:Int) < _/\_ < _; refine ⟨by omega,by omega⟩)
  | (show (_/\_)\/_; refine .inl ⟨by omega,by omega⟩)
  | (show _\/(_/\_); refine .inr ⟨by omega,by omega⟩)
  | fail)
local macro_rules|`(tactic| walk_at "rd")=>`(tactic| first
  | with_reducible refine L2.rd_seq ?_
  | with_reducible refine L2.rd_asg ?_
  | ((with_reducible refine' L2.ZkL ?e ?_); (case e=>walk_at "settle"))
  | with_reducible refine L2.rd_C ?_
  | ((with_reducible refine' L2.rd_V ?e ?_); (case e=>rfl))
  | with_reducible refine L2.rd_op ?_
  | with_reducible refine L2.rd_I0 ?_
  | ((with_reducible refine' L2.rd_I ?c ?_); (case c=>walk_at "side"))
  | with_reducible refine L2.rd_eqI ?_
  | with_reducible refine L2.rd_eqS ?_
  | with_reducible refine L2.rd_neI ?_
  | with_reducible refine L2.rd_neS ?_
  | with_reducible refine L2.rd_eqB ?_
  | with_reducible refine L2.rd_neB ?_
  | with_reducible refine L2.Zl1 ?_
  | with_reducible refine L2.rd_B ?_
  | with_reducible refine L2.rd_bl ?_
  | with_reducible refine L2.rd_ifS ?_
  | with_reducible refine L2.rd_if ?_
  | with_reducible refine L2.Zdo (fun _=>?_) (fun _=>?_)
  | with_reducible refine L2.ZcF (fun _=>?_) (fun _=>?_)
  | with_reducible refine L2.rd_iteNND (fun _=>?_) (fun _=>?_)
  | with_reducible refine L2.iteT ?_
  | with_reducible refine L2.iteF ?_
  | with_reducible refine L2.iteNT ?_
  | with_reducible refine L2.iteNF ?_
  | with_reducible refine L2.Zln ?_
  | with_reducible refine L2.Zl0 ?_
  | with_reducible refine L2.Zjh ?_
  | with_reducible refine L2.rd_and ?_
  | with_reducible refine L2.rd_or ?_
  | with_reducible refine L2.rd_not ?_
  | with_reducible refine L2.Zl2 ?_
  | with_reducible refine L2.rd_orV ?_
  | with_reducible refine L2.Zl3 ?_
  | with_reducible refine L2.Zl4 ?_
  | with_reducible refine L2.rd_nil ?_
  | with_reducible refine L2.Zmf ?_
  | with_reducible refine L2.Zl5 ?_
  | with_reducible refine L2.rd_CB ?_
  | with_reducible refine L2.ZkB ?_
  | with_reducible refine L2.rd_un ?_
  | with_reducible refine L2.rd_U ?_
  | with_reducible refine L2.rd_tup ?_
  | with_reducible refine L2.rd_lst ?_
  | fail)
local macro_rules|`(tactic| walk_at "sql")=>`(tactic| first
  | assumption
  | exact L2.sql_new
  | exact L2.Zji
  | exact L2.ZaF (by assumption)
  | exact L2.ZaX (by assumption)
  | exact L2.TupK.sqt (by assumption) _
  | (refine L2.SqL.updN ?_ (by assumption); walk_at "sql")
  | (refine L2.SqT.updN ?_ (by assumption); walk_at "sql")
  | fail)
local macro_rules|`(tactic| walk_at "hp")=>`(tactic| first
  | assumption
  | exact L2.Zah
  | exact Eq.trans (L2.Zak (L2.Zam L2.Zah (by assumption))) L2.Zah
  | fail)
local macro_rules|`(tactic| walk_at "rdl")=>`(tactic| first
  | walk_at "rd"
  | ((with_reducible refine' L2.Za7 ?h ?e ?_); (case h=>walk_at "sql"); (case e=>rfl))
  | ((with_reducible refine' L2.Zee ?h ?e ?_); (case h=>walk_at "sql"); (case e=>rfl))
  | with_reducible refine L2.rd_sl ?_
  | with_reducible refine L2.Zjj ?_
  | with_reducible refine L2.Zl6 ?_
  | with_reducible refine L2.rd_ei ?_
  | ((with_reducible refine' L2.Zlo ?h ?_); (case h=>walk_at "sql"))
  | fail)
local macro_rules|`(tactic| walk_at "rda")=>`(tactic| first
  | walk_at "rdl"
  | ((with_reducible refine' L2.rd_aug ?e ?_); (case e=>rfl))
  | with_reducible refine L2.rd_ipI ?_
  | with_reducible refine L2.Zg5 ?_
  | with_reducible refine L2.Zjl ?_
  | with_reducible refine L2.rd_abs ?_
  | ((with_reducible refine' L2.rd_isi ?e ?_); (case e=>rfl))
  | ((with_reducible refine' L2.Zmc ?e ?_); (case e=>rfl))
  | ((with_reducible refine' L2.Zmd ?h ?e ?_); (case h=>walk_at "sql"); (case e=>rfl))
  | ((with_reducible refine' L2.Zme ?h ?e ?_); (case h=>walk_at "sql"); (case e=>rfl))
  | ((with_reducible refine' L2.Zl8 ?h ?_); (case h=>walk_at "sql"))
  | ((with_reducible refine' L2.Zl9 ?h ?_); (case h=>walk_at "sql"))
  | fail)
local macro_rules|`(tactic| walk_at "sz")=>`(tactic| first
  | assumption
  | exact Nat.le_trans (by assumption) (by decide)
  | decide
  | fail)
local macro_rules|`(tactic| walk_at "rdt")=>`(tactic| first
  | walk_at "rda"
  | with_reducible refine L2.rd_bm ?_
  | with_reducible refine L2.rd_bm0 ?_
  | with_reducible refine L2.rd_tyS ?_
  | with_reducible refine L2.rd_find ?_
  | with_reducible refine L2.rd_inS ?_
  | with_reducible refine L2.rd_notInS ?_
  | with_reducible refine L2.rd_sb ?_
  | with_reducible refine L2.rd_ord ?_
  | with_reducible refine L2.Zmh ?_
  | with_reducible refine L2.rd_isNi ?_
  | with_reducible refine L2.Zmi ?_
  | with_reducible refine L2.rd_notN0 ?_
  | with_reducible refine L2.rd_notNi ?_
  | with_reducible refine L2.rd_notNr ?_
  | ((with_reducible refine' L2.rd_lenZ ?h ?_); (case h=>walk_at "sz"))
  | ((with_reducible refine' L2.rd_slS ?h ?_); (case h=>walk_at "sz"))
  | fail)
local macro_rules|`(tactic| walk_at "rdq")=>`(tactic| first
  | ((with_reducible refine L2.Zdo (fun _=>?_) (fun _=>?_)) <;> (try (exfalso; omega)))
  | ((with_reducible refine L2.ZcF (fun _=>?_) (fun _=>?_)) <;> (try (exfalso; omega)))
  | ((with_reducible refine L2.rd_iteNND (fun _=>?_) (fun _=>?_)) <;> (try (exfalso; omega)))
  | walk_at "rdt"
  | fail)
local macro_rules|`(tactic| walk_at "rdj")=>`(tactic| first
  | ((with_reducible refine' L2.rd_addJ ?h (fun _ _=>?_)); (case h=>omega))
  | ((with_reducible refine' L2.rd_slJ ?h (fun _ _=>?_)); (case h=>omega))
  | walk_at "rdq"
  | fail)
local macro_rules|`(tactic| walk_at "rdm")=>`(tactic| first
  | walk_at "rdt"
  | ((with_reducible refine' L2.Zfb ?h (fun _ _=>?_)); (case h=>walk_at "sql"))
  | ((with_reducible refine' L2.rd_listT ?h (fun _ _=>?_)); (case h=>walk_at "sql"))
  | with_reducible refine L2.Zmm ?_
  | fail)
local macro_rules|`(tactic| walk_at "rdk")=>`(tactic| first
  | walk_at "rdm"
  | with_reducible refine L2.rd_fld ?_
  | with_reducible refine L2.Zmj ?_
  | with_reducible refine L2.Zjy ?_
  | with_reducible refine L2.Zmr ?_
  | with_reducible refine L2.Zms ?_
  | with_reducible refine L2.Zmk ?_
  | with_reducible refine L2.Zmn ?_
  | ((with_reducible refine' L2.rd_sum ?h ?_); (case h=>walk_at "sql"))
  | with_reducible refine L2.ZkJ ?_
  | with_reducible refine L2.ZkI (fun _ _=>?_)
  | with_reducible refine L2.rd_din ?_
  | with_reducible refine L2.rd_dnotin ?_
  | with_reducible refine L2.rd_dget ?_
  | with_reducible refine L2.Zml ?_
  | with_reducible refine L2.rd_dpop1 ?_
  | with_reducible refine L2.ZkN ?_
  | with_reducible refine L2.ZkO ?_
  | with_reducible refine L2.Zmp ?_
  | ((with_reducible refine' L2.Zmo ?h ?e ?_); (case h=>walk_at "sql"); (case e=>rfl))
  | fail)
local macro_rules|`(tactic| walk_at "rdz")=>`(tactic| first
  | ((with_reducible refine L2.Zdo (fun _=>?_) (fun _=>?_)) <;> (try (exfalso; omega)))
  | ((with_reducible refine L2.ZcF (fun _=>?_) (fun _=>?_)) <;> (try (exfalso; omega)))
  | ((with_reducible refine L2.rd_iteNND (fun _=>?_) (fun _=>?_)) <;> (try (exfalso; omega)))
  | walk_at "rdk"
  | fail)
local macro_rules|`(tactic| walk_at "rdx")=>`(tactic| first
  | with_reducible refine L2.Zdo (fun h=>absurd h (by decide)) (fun _=>?_)
  | with_reducible refine L2.Zdo (fun _=>?_) (fun h=>absurd (by decide) h)
  | with_reducible refine L2.ZcF (fun h=>absurd (by decide) h) (fun _=>?_)
  | with_reducible refine L2.ZcF (fun _=>?_) (fun h=>absurd h (by decide))
  | walk_at "rdk"
  | fail)
namespace My
open PySem L2
local macro_rules|`(tactic| walk_at "nx")=>`(tactic| try simp only [L2.nox_K,L2.nox_P,L2.nox_w,L2.nox_mg,L2.ZkD,L2.cxOf_K,L2.cxOf_P,L2.cxOf_w,L2.Zmg,L2.Zjp])
noncomputable def top (i:Nat):Stmt:=PySem.Challenge.pw_meterhouse_k35_a_call.main.body.getD i (.Pass ⟨0,0,0,0⟩)
noncomputable abbrev s__wall:Stmt:=top 0
noncomputable abbrev Zg8:Stmt:=top 5
noncomputable abbrev Zg9:Stmt:=top 6
noncomputable abbrev Zfe:Stmt:=top 7
noncomputable abbrev Zha:Stmt:=top 8
noncomputable abbrev Zct:Stmt:=top 11
noncomputable abbrev Zcu:Stmt:=top 13
noncomputable abbrev Zhb:Stmt:=top 23
noncomputable abbrev Zdp:Stmt:=top 24
noncomputable abbrev Zcv:Stmt:=top 25
noncomputable abbrev ZcV:Stmt:=top 26
noncomputable abbrev ZcW:Stmt:=top 27
noncomputable abbrev Zdq:Stmt:=top 28
noncomputable abbrev Zej:Stmt:=top 29
noncomputable abbrev Zek:Stmt:=top 30
noncomputable abbrev ZcX:Stmt:=top 31
noncomputable abbrev Zce:Stmt:=top 32
noncomputable abbrev Zel:Stmt:=top 33
noncomputable abbrev Zff:Stmt:=top 34
noncomputable abbrev Zfg:Stmt:=top 36
noncomputable abbrev Zcw:Stmt:=top 38
noncomputable abbrev Zdr:Stmt:=top 39
noncomputable abbrev Zds:Stmt:=top 40
noncomputable abbrev Zdt:Stmt:=top 41
noncomputable abbrev Zdu:Stmt:=top 42
noncomputable abbrev Zcx:Stmt:=top 43
noncomputable abbrev Zdv:Stmt:=top 44
noncomputable abbrev Zcy:Stmt:=top 45
noncomputable abbrev Zdw:Stmt:=top 46
noncomputable abbrev Zdx:Stmt:=top 47
noncomputable abbrev Zfh:Stmt:=top 48
noncomputable abbrev Zdy:Stmt:=top 49
noncomputable abbrev Zdz:Stmt:=top 50
noncomputable abbrev ZdA:Stmt:=top 51
noncomputable abbrev ZdB:Stmt:=top 52
noncomputable abbrev ZdC:Stmt:=top 53
noncomputable abbrev ZdD:Stmt:=top 54
noncomputable abbrev ZdE:Stmt:=top 55
noncomputable abbrev Zfi:Stmt:=top 57
noncomputable abbrev Zcf:Stmt:=top 61
noncomputable abbrev Zcg:Stmt:=top 62
noncomputable abbrev ZcY:Stmt:=top 63
noncomputable abbrev ZcZ:Stmt:=top 64
noncomputable abbrev Zb4:Stmt:=top 65
noncomputable abbrev Zcz:Stmt:=top 66
noncomputable abbrev Zbu:Stmt:=top 67
noncomputable abbrev ZcK:Stmt:=top 68
noncomputable abbrev Zd2:Stmt:=top 69
noncomputable abbrev Zfj:Stmt:=top 70
noncomputable abbrev s_go:Stmt:=top 71
noncomputable abbrev Zhc:Stmt:=top 72
noncomputable abbrev ZdF:Stmt:=top 76
noncomputable abbrev Zdh:Stmt:=top 77
noncomputable abbrev ZcA:Stmt:=top 78
noncomputable abbrev Zfk:Stmt:=top 79
noncomputable abbrev Zfl:Stmt:=top 80
noncomputable abbrev Zfm:Stmt:=top 81
noncomputable abbrev Zmu:Stmt:=top 82
noncomputable abbrev ZaR:Stmt:=ZaE (top 10) 0
noncomputable abbrev ZaZ:Stmt:=ZaE (top 10) 1
noncomputable abbrev Zba:Stmt:=ZaE (top 10) 2
noncomputable abbrev ZjA:Stmt:=ZaE (top 10) 3
noncomputable abbrev s_Deed_do:Stmt:=ZaE (top 14) 0
noncomputable abbrev Zmv:Stmt:=ZaE (top 14) 1
noncomputable abbrev Zmw:Stmt:=ZaE (top 14) 2
noncomputable abbrev Zlr:Stmt:=ZaE (top 14) 3
noncomputable abbrev Zka:Stmt:=ZaE (top 14) 4
noncomputable abbrev Za3:Stmt:=ZaE (top 15) 0
noncomputable abbrev ZbU:Stmt:=ZaE (top 15) 1
noncomputable abbrev Zbv:Stmt:=ZaE (top 15) 2
noncomputable abbrev Zbw:Stmt:=ZaE (top 15) 3
noncomputable abbrev Zls:Stmt:=ZaE (top 15) 4
noncomputable abbrev Zkb:Stmt:=ZaE (top 15) 5
noncomputable abbrev Za4:Stmt:=ZaE (top 16) 0
noncomputable abbrev ZbV:Stmt:=ZaE (top 16) 1
noncomputable abbrev Zbx:Stmt:=ZaE (top 16) 2
noncomputable abbrev Zby:Stmt:=ZaE (top 16) 3
noncomputable abbrev Zkc:Stmt:=ZaE (top 16) 4
noncomputable abbrev Za5:Stmt:=ZaE (top 17) 0
noncomputable abbrev Zbz:Stmt:=ZaE (top 17) 1
noncomputable abbrev Zax:Stmt:=ZaE (top 20) 0
noncomputable abbrev Zbn:Stmt:=ZaE (top 20) 1
noncomputable abbrev ZaV:Stmt:=ZaE (top 20) 2
noncomputable abbrev ZaP:Stmt:=ZaE (top 20) 3
noncomputable abbrev Zbk:Stmt:=ZaE (top 20) 4
noncomputable abbrev ZbA:Stmt:=ZaE (top 20) 5
noncomputable abbrev Zbb:Stmt:=ZaE (top 20) 6
noncomputable abbrev Zbo:Stmt:=ZaE (top 20) 7
noncomputable abbrev ZaS:Stmt:=ZaE (top 74) 0
noncomputable abbrev Za6:Stmt:=ZaE (top 74) 1
noncomputable abbrev Zbc:Stmt:=ZaE (top 74) 2
noncomputable abbrev Zbd:Stmt:=ZaE (top 74) 3
noncomputable abbrev Za1:Stmt:=ZaE (top 74) 4
noncomputable abbrev ZjB:Stmt:=ZaE (top 74) 5
noncomputable abbrev ZiA:Stmt:=ZaE (top 74) 6
noncomputable abbrev ZbW:Stmt:=ZaE (top 14) 0
noncomputable abbrev ZbB:Stmt:=ZaE (top 14) 1
structure T_Account (K:PySem.W.Frag) (mg:Str->Option Value) (C:Addr):Prop where
  k:ClsF K mg "Account" C
  n_coin:NoAttr K C "coin"
  n_purse:NoAttr K C "purse"
  n_count:NoAttr K C "count"
  n_program:NoAttr K C "program"
  n_store:NoAttr K C "store"
structure T_Deed (K:PySem.W.Frag) (mg:Str->Option Value) (C:Addr):Prop where
  k:ClsF K mg "Deed" C
structure T_Save (K:PySem.W.Frag) (mg:Str->Option Value) (C:Addr):Prop where
  k:ClsF K mg "Save" C
  n_slot:NoAttr K C "slot"
  n_place:NoAttr K C "place"
  n_old:NoAttr K C "old"
  n_new:NoAttr K C "new"
structure T_Move (K:PySem.W.Frag) (mg:Str->Option Value) (C:Addr):Prop where
  k:ClsF K mg "Move" C
  n_slot:NoAttr K C "slot"
  n_taker:NoAttr K C "taker"
  n_many:NoAttr K C "many"
structure T_Note (K:PySem.W.Frag) (mg:Str->Option Value) (C:Addr):Prop where
  k:ClsF K mg "Note" C
  n_slot:NoAttr K C "slot"
  n_number:NoAttr K C "number"
structure T_Frame (K:PySem.W.Frag) (mg:Str->Option Value) (C:Addr):Prop where
  k:ClsF K mg "Frame" C
  n_kind:NoAttr K C "kind"
  n_who:NoAttr K C "who"
  n_whose:NoAttr K C "whose"
  n_caller:NoAttr K C "caller"
  n_coin:NoAttr K C "coin"
  n_word:NoAttr K C "word"
  n_given:NoAttr K C "given"
  n_depth:NoAttr K C "depth"
  n_looking:NoAttr K C "looking"
  n_used:NoAttr K C "used"
  n_stack:NoAttr K C "stack"
  n_row:NoAttr K C "row"
  n_steps:NoAttr K C "steps"
  n_end:NoAttr K C "end"
  n_answer:NoAttr K C "answer"
structure T_Journal (K:PySem.W.Frag) (mg:Str->Option Value) (C:Addr):Prop where
  k:ClsF K mg "Journal" C
  n_rooms:NoAttr K C "rooms"
  n_deeds:NoAttr K C "deeds"
theorem bd1 {R:List Value->Prop} (h:∀ a,R [a]) (us:List Value) (hl:us.length=1):R us:=by
  cases us with
  | nil=>cases hl
  | cons a r =>
    cases r with
    | nil=>exact h a
    | cons b r=>cases hl
theorem bdS {R:List Value->Prop} {n:Nat} (h:∀ a (r:List Value),r.length=n->R (a :: r)) (us:List Value) (hl:us.length=n + 1):R us:=by
  cases us with
  | nil=>cases hl
  | cons a r=>exact h a r (Nat.succ.inj hl)
theorem bd2 {R:List Value->Prop} (h:∀ a b,R [a,b]) (us:List Value) (hl:us.length=2):R us:=bdS (n:=1) (fun a r hr=>bd1 (R:=fun r=>R (a :: r)) (h a) r hr) us hl
theorem bd3 {R:List Value->Prop} (h:∀ a b c,R [a,b,c]) (us:List Value) (hl:us.length=3):R us:=bdS (n:=2) (fun a r hr=>bd2 (R:=fun r=>R (a :: r)) (h a) r hr) us hl
theorem bd4 {R:List Value->Prop} (h:∀ a b c d,R [a,b,c,d]) (us:List Value) (hl:us.length=4):R us:=bdS (n:=3) (fun a r hr=>bd3 (R:=fun r=>R (a :: r)) (h a) r hr) us hl
theorem bd5 {R:List Value->Prop} (h:∀ a b c d e,R [a,b,c,d,e]) (us:List Value) (hl:us.length=5):R us:=bdS (n:=4) (fun a r hr=>bd4 (R:=fun r=>R (a :: r)) (h a) r hr) us hl
theorem bd6 {R:List Value->Prop} (h:∀ a0 a1 a2 a3 a4 a5,R [a0,a1,a2,a3,a4,a5]) (us:List Value) (hl:us.length=6):R us:=bdS (n:=5) (fun a r hr=>bd5 (R:=fun r=>R (a :: r)) (h a) r hr) us hl
theorem bd7 {R:List Value->Prop} (h:∀ a0 a1 a2 a3 a4 a5 a6,R [a0,a1,a2,a3,a4,a5,a6]) (us:List Value) (hl:us.length=7):R us:=bdS (n:=6) (fun a r hr=>bd6 (R:=fun r=>R (a :: r)) (h a) r hr) us hl
theorem bd8 {R:List Value->Prop} (h:∀ a0 a1 a2 a3 a4 a5 a6 a7,R [a0,a1,a2,a3,a4,a5,a6,a7]) (us:List Value) (hl:us.length=8):R us:=bdS (n:=7) (fun a r hr=>bd7 (R:=fun r=>R (a :: r)) (h a) r hr) us hl
theorem bd9 {R:List Value->Prop} (h:∀ a0 a1 a2 a3 a4 a5 a6 a7 a8,R [a0,a1,a2,a3,a4,a5,a6,a7,a8]) (us:List Value) (hl:us.length=9):R us:=bdS (n:=8) (fun a r hr=>bd8 (R:=fun r=>R (a :: r)) (h a) r hr) us hl
theorem bd10 {R:List Value->Prop} (h:∀ a0 a1 a2 a3 a4 a5 a6 a7 a8 a9,R [a0,a1,a2,a3,a4,a5,a6,a7,a8,a9]) (us:List Value) (hl:us.length=10):R us:=bdS (n:=9) (fun a r hr=>bd9 (R:=fun r=>R (a :: r)) (h a) r hr) us hl
noncomputable def sCut (t:TS):TS:=fun D σ H=>∃ P:St->Hp->Prop,t { D with nx:=P } σ H/\∀ σ' H',P σ' H'->D.nx σ' H'
theorem Zgi {t:TS} {D:Ends} {σ:St} {H:Hp} (P:St->Hp->Prop) (q:t { D with nx:=P } σ H) (m:∀ σ' H',P σ' H'->D.nx σ' H'):sCut t D σ H:=⟨P,q,m⟩
theorem Zgj {X:Cx} {st:Stmt} {t:TS} (h:PS X st t):PS X st (sCut t):=by
  intro pins s σ H D I q
  obtain ⟨P,q,m⟩:=q
  refine wpAny_mono (h pins s σ H { D with nx:=P } I q) (fun f s' z=>?_) fun _ _ z=>z
  cases f with
  | next=>obtain ⟨σ',H',I',q'⟩:=z; exact ⟨σ',H',I',m _ _ q'⟩
  | brk=>exact z
  | cont=>exact z
  | ret u=>exact z
noncomputable abbrev W64:Int:=18446744073709551616
noncomputable def sp2 (f:Int->Int->Int) (C:Int->Int->Prop):Sp:=fun vs H Q _=>∃ a b,vs=[.int a,.int b]/\C a b/\Q (.int (f a b)) H
noncomputable def In64 (a:Int):Prop:=0 <= a/\a < 18446744073709551616
noncomputable def rkAdd (a b:Int):Int:=(a + b) % 18446744073709551616
noncomputable def rkSub (a b:Int):Int:=(a - b) % 18446744073709551616
noncomputable def rkMul (a b:Int):Int:=a * b % 18446744073709551616
noncomputable def rkDiv (a b:Int):Int:=if b=0 then 0 else a / b
noncomputable def rkMod (a b:Int):Int:=if b=0 then 0 else a % b
noncomputable def rkLt (a b:Int):Int:=if a < b then 1 else 0
noncomputable def rkEq (a b:Int):Int:=if a=b then 1 else 0
noncomputable def rkAnd (a b:Int):Int:=Builtin.bitAnd a b
noncomputable def rkOr (a b:Int):Int:=Builtin.bitOr a b
noncomputable def rkXor (a b:Int):Int:=Builtin.bitXor a b
noncomputable def rkUp (a b:Int):Int:=if 64 <= b then 0 else a * 2 ^ b.toNat % 18446744073709551616
noncomputable def rkDown (a b:Int):Int:=if 64 <= b then 0 else a / 2 ^ b.toNat
noncomputable def Zbh (a b:Int):Prop:=In64 a/\In64 b
noncomputable def RK:List (Str × (Int->Int->Int)):=[("add", rkAdd),("minus", rkSub),("times", rkMul),("over", rkDiv),("rest", rkMod),("below", rkLt),("same", rkEq),("both", rkAnd),("either", rkOr),("unlike", rkXor),("up", rkUp),("down", rkDown)]
noncomputable def Zh8:Sp:=fun vs H Q _=>∃ x a b f,vs=[.str x,.int a,.int b]/\RK.lookup x=some f/\Zbh a b/\Q (.int (f a b)) H
noncomputable def Zlt (P:Program) (w:World) (K:PySem.W.Frag) (mg:Str->Option Value) (base:Heap) (aS:Addr):Prop :=
  ∃ vs,Zde P w K aS vs/\∀ x f,RK.lookup x=some f->∃ fa,valueAt vs (.inr x)=some (.ref fa)/\CalF P w K mg base 1 fa (sp2 f Zbh)
section
variable {P:Program} {w:World} {K:PySem.W.Frag} {mg:Str->Option Value} {base:Heap}
theorem ZkS:FnScope ["one", "other"] ["one", "other"] (Zac Zhb):=⟨rfl,rfl,rfl,by decide +kernel,rfl,by decide +kernel,by decide +kernel⟩
theorem ZkT    (D:Zaq K mg "added" Zhb) (g_WIDE:Za0 mg "WIDE" (.int 18446744073709551616)):Cal P w K mg base 1 "added" (sp2 rkAdd Zbh):=by
  refine ZaA (N:=["one", "other"]) (ps:=["one", "other"]) D ZkS (fun vs H Q E h=>?_) (fun _ _ _ _ _ _ us hl=>bd2 (R:=fun us=>bindArgs _ ⟨us,[]⟩=pure (List.zip _ us)) (fun _ _=>rfl) us hl) (fun f cdv A outer s H vs Q E hr h=>?_)
  . obtain ⟨a,b,rfl,_⟩:=h; rfl
  . obtain ⟨a,b,rfl,⟨⟨ha0,ha1⟩,hb0,hb1⟩,k⟩:=h
    refine ⟨_,(Zaf (Zar (ZaC Zbs (ZaC ZbG (pv 0) (pv 1)) (ZbO rfl g_WIDE)))),?_⟩
    walk_at "nx"
    repeat' walk_at "rd"
    exact k
theorem Zhd:FnScope ["one", "other"] ["one", "other"] (Zac Zdp):=⟨rfl,rfl,rfl,by decide +kernel,rfl,by decide +kernel,by decide +kernel⟩
theorem Zhe    (D:Zaq K mg "lessened" Zdp) (g_WIDE:Za0 mg "WIDE" (.int 18446744073709551616)):Cal P w K mg base 1 "lessened" (sp2 rkSub Zbh):=by
  refine ZaA (N:=["one", "other"]) (ps:=["one", "other"]) D Zhd (fun vs H Q E h=>?_) (fun _ _ _ _ _ _ us hl=>bd2 (R:=fun us=>bindArgs _ ⟨us,[]⟩=pure (List.zip _ us)) (fun _ _=>rfl) us hl) (fun f cdv A outer s H vs Q E hr h=>?_)
  . obtain ⟨a,b,rfl,_⟩:=h; rfl
  . obtain ⟨a,b,rfl,⟨⟨ha0,ha1⟩,hb0,hb1⟩,k⟩:=h
    refine ⟨_,(Zaf (Zar (ZaC Zbs (ZaC ZdO (pv 0) (pv 1)) (ZbO rfl g_WIDE)))),?_⟩
    walk_at "nx"
    repeat' walk_at "rd"
    exact k
theorem Zfn:FnScope ["one", "other"] ["one", "other"] (Zac Zcv):=⟨rfl,rfl,rfl,by decide +kernel,rfl,by decide +kernel,by decide +kernel⟩
theorem Zfo    (D:Zaq K mg "multiplied" Zcv) (g_WIDE:Za0 mg "WIDE" (.int 18446744073709551616)):Cal P w K mg base 1 "multiplied" (sp2 rkMul Zbh):=by
  refine ZaA (N:=["one", "other"]) (ps:=["one", "other"]) D Zfn (fun vs H Q E h=>?_) (fun _ _ _ _ _ _ us hl=>bd2 (R:=fun us=>bindArgs _ ⟨us,[]⟩=pure (List.zip _ us)) (fun _ _=>rfl) us hl) (fun f cdv A outer s H vs Q E hr h=>?_)
  . obtain ⟨a,b,rfl,_⟩:=h; rfl
  . obtain ⟨a,b,rfl,⟨⟨ha0,ha1⟩,hb0,hb1⟩,k⟩:=h
    refine ⟨_,(Zaf (Zar (ZaC Zbs (ZaC ZeV (pv 0) (pv 1)) (ZbO rfl g_WIDE)))),?_⟩
    walk_at "nx"
    repeat' walk_at "rd"
    exact k
theorem Zgk:FnScope ["one", "other"] ["one", "other"] (Zac ZcV):=⟨rfl,rfl,rfl,by decide +kernel,rfl,by decide +kernel,by decide +kernel⟩
theorem Zgl    (D:Zaq K mg "contained" ZcV):Cal P w K mg base 1 "contained" (sp2 rkDiv Zbh):=by
  refine ZaA (N:=["one", "other"]) (ps:=["one", "other"]) D Zgk (fun vs H Q E h=>?_) (fun _ _ _ _ _ _ us hl=>bd2 (R:=fun us=>bindArgs _ ⟨us,[]⟩=pure (List.zip _ us)) (fun _ _=>rfl) us hl) (fun f cdv A outer s H vs Q E hr h=>?_)
  . obtain ⟨a,b,rfl,_⟩:=h; rfl
  . obtain ⟨a,b,rfl,⟨⟨ha0,ha1⟩,hb0,hb1⟩,k⟩:=h
    refine ⟨_,(Zad (Zbi (ZaD Zb7 (pv 1) Zag (nomark _)) (Zaf (Zar Zag)) ZaJ)
      (Zaf (Zar (ZaC Zb2 (pv 0) (pv 1))))),?_⟩
    walk_at "nx"
    repeat' walk_at "rd"
    . rename_i e; exact ZbS (by unfold rkDiv; rw [if_pos e]) k
    . rename_i e; exact ZbS (by unfold rkDiv; rw [if_neg e]) k
theorem Zgm:FnScope ["one", "other"] ["one", "other"] (Zac ZcW):=⟨rfl,rfl,rfl,by decide +kernel,rfl,by decide +kernel,by decide +kernel⟩
theorem Zgn    (D:Zaq K mg "left_over" ZcW):Cal P w K mg base 1 "left_over" (sp2 rkMod Zbh):=by
  refine ZaA (N:=["one", "other"]) (ps:=["one", "other"]) D Zgm (fun vs H Q E h=>?_) (fun _ _ _ _ _ _ us hl=>bd2 (R:=fun us=>bindArgs _ ⟨us,[]⟩=pure (List.zip _ us)) (fun _ _=>rfl) us hl) (fun f cdv A outer s H vs Q E hr h=>?_)
  . obtain ⟨a,b,rfl,_⟩:=h; rfl
  . obtain ⟨a,b,rfl,⟨⟨ha0,ha1⟩,hb0,hb1⟩,k⟩:=h
    refine ⟨_,(Zad (Zbi (ZaD Zb7 (pv 1) Zag (nomark _)) (Zaf (Zar Zag)) ZaJ)
      (Zaf (Zar (ZaC Zbs (pv 0) (pv 1))))),?_⟩
    walk_at "nx"
    repeat' walk_at "rd"
    . rename_i e; exact ZbS (by unfold rkMod; rw [if_pos e]) k
    . rename_i e; exact ZbS (by unfold rkMod; rw [if_neg e]) k
theorem Zhf:FnScope ["one", "other"] ["one", "other"] (Zac Zdq):=⟨rfl,rfl,rfl,by decide +kernel,rfl,by decide +kernel,by decide +kernel⟩
theorem Zhg    (D:Zaq K mg "is_below" Zdq):Cal P w K mg base 1 "is_below" (sp2 rkLt Zbh):=by
  refine ZaA (N:=["one", "other"]) (ps:=["one", "other"]) D Zhf (fun vs H Q E h=>?_) (fun _ _ _ _ _ _ us hl=>bd2 (R:=fun us=>bindArgs _ ⟨us,[]⟩=pure (List.zip _ us)) (fun _ _=>rfl) us hl) (fun f cdv A outer s H vs Q E hr h=>?_)
  . obtain ⟨a,b,rfl,_⟩:=h; rfl
  . obtain ⟨a,b,rfl,⟨⟨ha0,ha1⟩,hb0,hb1⟩,k⟩:=h
    refine ⟨_,(Zaf (Zar (Zd0 (ZaD ZfS (pv 0) (pv 1) (nomark _)) Zag Zag))),?_⟩
    walk_at "nx"
    repeat' walk_at "rd"
    . rename_i e; exact ZbS (by unfold rkLt; rw [if_pos e]) k
    . rename_i e; exact ZbS (by unfold rkLt; rw [if_neg e]) k
theorem ZiB:FnScope ["one", "other"] ["one", "other"] (Zac Zej):=⟨rfl,rfl,rfl,by decide +kernel,rfl,by decide +kernel,by decide +kernel⟩
theorem ZiC    (D:Zaq K mg "is_same" Zej):Cal P w K mg base 1 "is_same" (sp2 rkEq Zbh):=by
  refine ZaA (N:=["one", "other"]) (ps:=["one", "other"]) D ZiB (fun vs H Q E h=>?_) (fun _ _ _ _ _ _ us hl=>bd2 (R:=fun us=>bindArgs _ ⟨us,[]⟩=pure (List.zip _ us)) (fun _ _=>rfl) us hl) (fun f cdv A outer s H vs Q E hr h=>?_)
  . obtain ⟨a,b,rfl,_⟩:=h; rfl
  . obtain ⟨a,b,rfl,⟨⟨ha0,ha1⟩,hb0,hb1⟩,k⟩:=h
    refine ⟨_,(Zaf (Zar (Zd0 (ZaD Zb7 (pv 0) (pv 1) (nomark _)) Zag Zag))),?_⟩
    walk_at "nx"
    repeat' walk_at "rd"
    . rename_i e; exact ZbS (by unfold rkEq; rw [if_pos e]) k
    . rename_i e; exact ZbS (by unfold rkEq; rw [if_neg e]) k
theorem ZiD:FnScope ["one", "other"] ["one", "other"] (Zac Zek):=⟨rfl,rfl,rfl,by decide +kernel,rfl,by decide +kernel,by decide +kernel⟩
theorem ZiE    (D:Zaq K mg "in_both" Zek):Cal P w K mg base 1 "in_both" (sp2 rkAnd Zbh):=by
  refine ZaA (N:=["one", "other"]) (ps:=["one", "other"]) D ZiD (fun vs H Q E h=>?_) (fun _ _ _ _ _ _ us hl=>bd2 (R:=fun us=>bindArgs _ ⟨us,[]⟩=pure (List.zip _ us)) (fun _ _=>rfl) us hl) (fun f cdv A outer s H vs Q E hr h=>?_)
  . obtain ⟨a,b,rfl,_⟩:=h; rfl
  . obtain ⟨a,b,rfl,⟨⟨ha0,ha1⟩,hb0,hb1⟩,k⟩:=h
    refine ⟨_,(Zaf (Zar (ZaC op_and (pv 0) (pv 1)))),?_⟩
    walk_at "nx"
    repeat' walk_at "rd"
    exact k
theorem Zgo:FnScope ["one", "other"] ["one", "other"] (Zac ZcX):=⟨rfl,rfl,rfl,by decide +kernel,rfl,by decide +kernel,by decide +kernel⟩
theorem Zgp    (D:Zaq K mg "in_either" ZcX):Cal P w K mg base 1 "in_either" (sp2 rkOr Zbh):=by
  refine ZaA (N:=["one", "other"]) (ps:=["one", "other"]) D Zgo (fun vs H Q E h=>?_) (fun _ _ _ _ _ _ us hl=>bd2 (R:=fun us=>bindArgs _ ⟨us,[]⟩=pure (List.zip _ us)) (fun _ _=>rfl) us hl) (fun f cdv A outer s H vs Q E hr h=>?_)
  . obtain ⟨a,b,rfl,_⟩:=h; rfl
  . obtain ⟨a,b,rfl,⟨⟨ha0,ha1⟩,hb0,hb1⟩,k⟩:=h
    refine ⟨_,(Zaf (Zar (ZaC op_or (pv 0) (pv 1)))),?_⟩
    walk_at "nx"
    repeat' walk_at "rd"
    exact k
theorem ZeL:FnScope ["one", "other"] ["one", "other"] (Zac Zce):=⟨rfl,rfl,rfl,by decide +kernel,rfl,by decide +kernel,by decide +kernel⟩
theorem ZeM    (D:Zaq K mg "in_just_one" Zce):Cal P w K mg base 1 "in_just_one" (sp2 rkXor Zbh):=by
  refine ZaA (N:=["one", "other"]) (ps:=["one", "other"]) D ZeL (fun vs H Q E h=>?_) (fun _ _ _ _ _ _ us hl=>bd2 (R:=fun us=>bindArgs _ ⟨us,[]⟩=pure (List.zip _ us)) (fun _ _=>rfl) us hl) (fun f cdv A outer s H vs Q E hr h=>?_)
  . obtain ⟨a,b,rfl,_⟩:=h; rfl
  . obtain ⟨a,b,rfl,⟨⟨ha0,ha1⟩,hb0,hb1⟩,k⟩:=h
    refine ⟨_,(Zaf (Zar (ZaC op_xor (pv 0) (pv 1)))),?_⟩
    walk_at "nx"
    repeat' walk_at "rd"
    exact k
theorem ZiF:FnScope ["one", "other"] ["one", "other"] (Zac Zel):=⟨rfl,rfl,rfl,by decide +kernel,rfl,by decide +kernel,by decide +kernel⟩
theorem ZiG    (D:Zaq K mg "doubled" Zel) (n_max:mg "max" = none) (g_FIGURES:Za0 mg "FIGURES" (.int 64)) (g_WIDE:Za0 mg "WIDE" (.int 18446744073709551616)):Cal P w K mg base 1 "doubled" (sp2 rkUp Zbh):=by
  refine ZaA (N:=["one", "other"]) (ps:=["one", "other"]) D ZiF (fun vs H Q E h=>?_) (fun _ _ _ _ _ _ us hl=>bd2 (R:=fun us=>bindArgs _ ⟨us,[]⟩=pure (List.zip _ us)) (fun _ _=>rfl) us hl) (fun f cdv A outer s H vs Q E hr h=>?_)
  . obtain ⟨a,b,rfl,_⟩:=h; rfl
  . obtain ⟨a,b,rfl,⟨⟨ha0,ha1⟩,hb0,hb1⟩,k⟩:=h
    refine ⟨_,(Zad (Zbi (ZaD ZlE (pv 1) (ZbO rfl g_FIGURES) (nomark _)) (Zaf (Zar Zag)) ZaJ)
      (Zaf (Zar (ZaC Zbs (ZaC op_shl (pv 0) (ZaI (Zjk rfl) rfl n_max PyProof.Rows.boot_max (Zaa (pv 1) (Zaa Zag Zae)))) (ZbO rfl g_WIDE))))),?_⟩
    walk_at "nx"
    repeat' walk_at "rd"
    . rename_i e; exact ZbS (by unfold rkUp; rw [if_pos e]) k
    . rename_i e
      refine Zg5 ?_
      have m0:(if (0:Int) > b then (0:Int) else b)=b:=if_neg (by omega)
      rw [m0]
      refine rd_I ⟨hb0,by omega,by omega⟩ ?_
      repeat walk_at "rd"
      exact ZbS (by unfold rkUp; rw [if_neg e]) k
theorem ZjC:FnScope ["one", "other"] ["one", "other"] (Zac Zff):=⟨rfl,rfl,rfl,by decide +kernel,rfl,by decide +kernel,by decide +kernel⟩
theorem ZjD    (D:Zaq K mg "halved" Zff) (n_max:mg "max" = none) (g_FIGURES:Za0 mg "FIGURES" (.int 64)):Cal P w K mg base 1 "halved" (sp2 rkDown Zbh):=by
  refine ZaA (N:=["one", "other"]) (ps:=["one", "other"]) D ZjC (fun vs H Q E h=>?_) (fun _ _ _ _ _ _ us hl=>bd2 (R:=fun us=>bindArgs _ ⟨us,[]⟩=pure (List.zip _ us)) (fun _ _=>rfl) us hl) (fun f cdv A outer s H vs Q E hr h=>?_)
  . obtain ⟨a,b,rfl,_⟩:=h; rfl
  . obtain ⟨a,b,rfl,⟨⟨ha0,ha1⟩,hb0,hb1⟩,k⟩:=h
    refine ⟨_,(Zad (Zbi (ZaD ZlE (pv 1) (ZbO rfl g_FIGURES) (nomark _)) (Zaf (Zar Zag)) ZaJ)
      (Zaf (Zar (ZaC op_shr (pv 0) (ZaI (Zjk rfl) rfl n_max PyProof.Rows.boot_max (Zaa (pv 1) (Zaa Zag Zae))))))),?_⟩
    walk_at "nx"
    repeat' walk_at "rd"
    . rename_i e; exact ZbS (by unfold rkDown; rw [if_pos e]) k
    . rename_i e
      refine Zg5 ?_
      have m0:(if (0:Int) > b then (0:Int) else b)=b:=if_neg (by omega)
      rw [m0]
      refine rd_I hb0 ?_
      repeat walk_at "rd"
      exact ZbS (by unfold rkDown; rw [if_neg e]) k
theorem Zmx {aS:Addr} {u1 u2 u3 u4 u5 u6 u7 u8 u9 u10 u11 u12:Value} (dk:Zde P w K aS [(Sum.inr "add", u1),(Sum.inr "minus", u2),(Sum.inr "times", u3),(Sum.inr "over", u4),(Sum.inr "rest", u5),(Sum.inr "below", u6),(Sum.inr "same", u7),(Sum.inr "both", u8),(Sum.inr "either", u9),(Sum.inr "unlike", u10),(Sum.inr "up", u11),(Sum.inr "down", u12)])
    (m1:mg "added" = some u1) (m2:mg "lessened" = some u2) (m3:mg "multiplied" = some u3) (m4:mg "contained" = some u4) (m5:mg "left_over" = some u5) (m6:mg "is_below" = some u6) (m7:mg "is_same" = some u7) (m8:mg "in_both" = some u8) (m9:mg "in_either" = some u9) (m10:mg "in_just_one" = some u10) (m11:mg "doubled" = some u11) (m12:mg "halved" = some u12)
    (c1:Cal P w K mg base 1 "added" (sp2 rkAdd Zbh)) (c2:Cal P w K mg base 1 "lessened" (sp2 rkSub Zbh)) (c3:Cal P w K mg base 1 "multiplied" (sp2 rkMul Zbh)) (c4:Cal P w K mg base 1 "contained" (sp2 rkDiv Zbh)) (c5:Cal P w K mg base 1 "left_over" (sp2 rkMod Zbh)) (c6:Cal P w K mg base 1 "is_below" (sp2 rkLt Zbh)) (c7:Cal P w K mg base 1 "is_same" (sp2 rkEq Zbh)) (c8:Cal P w K mg base 1 "in_both" (sp2 rkAnd Zbh)) (c9:Cal P w K mg base 1 "in_either" (sp2 rkOr Zbh)) (c10:Cal P w K mg base 1 "in_just_one" (sp2 rkXor Zbh)) (c11:Cal P w K mg base 1 "doubled" (sp2 rkUp Zbh)) (c12:Cal P w K mg base 1 "halved" (sp2 rkDown Zbh)):Zlt P w K mg base aS:=by
  refine ⟨_,dk,fun x f h=>?_⟩
  have hm:=Zdd h
  simp only [RK,List.mem_cons,Prod.mk.injEq,List.not_mem_nil,or_false] at hm
  rcases hm with ⟨rfl,rfl⟩|⟨rfl,rfl⟩|⟨rfl,rfl⟩|⟨rfl,rfl⟩|⟨rfl,rfl⟩|⟨rfl,rfl⟩|⟨rfl,rfl⟩|⟨rfl,rfl⟩|⟨rfl,rfl⟩|⟨rfl,rfl⟩|⟨rfl,rfl⟩|⟨rfl,rfl⟩
  . obtain ⟨fa,m,c⟩:=c1
    rw [m1] at m
    cases m
    exact ⟨fa,rfl,c⟩
  . obtain ⟨fa,m,c⟩:=c2
    rw [m2] at m
    cases m
    exact ⟨fa,rfl,c⟩
  . obtain ⟨fa,m,c⟩:=c3
    rw [m3] at m
    cases m
    exact ⟨fa,rfl,c⟩
  . obtain ⟨fa,m,c⟩:=c4
    rw [m4] at m
    cases m
    exact ⟨fa,rfl,c⟩
  . obtain ⟨fa,m,c⟩:=c5
    rw [m5] at m
    cases m
    exact ⟨fa,rfl,c⟩
  . obtain ⟨fa,m,c⟩:=c6
    rw [m6] at m
    cases m
    exact ⟨fa,rfl,c⟩
  . obtain ⟨fa,m,c⟩:=c7
    rw [m7] at m
    cases m
    exact ⟨fa,rfl,c⟩
  . obtain ⟨fa,m,c⟩:=c8
    rw [m8] at m
    cases m
    exact ⟨fa,rfl,c⟩
  . obtain ⟨fa,m,c⟩:=c9
    rw [m9] at m
    cases m
    exact ⟨fa,rfl,c⟩
  . obtain ⟨fa,m,c⟩:=c10
    rw [m10] at m
    cases m
    exact ⟨fa,rfl,c⟩
  . obtain ⟨fa,m,c⟩:=c11
    rw [m11] at m
    cases m
    exact ⟨fa,rfl,c⟩
  . obtain ⟨fa,m,c⟩:=c12
    rw [m12] at m
    cases m
    exact ⟨fa,rfl,c⟩
theorem ZjE:FnScope ["word", "one", "other"] ["word", "one", "other"] (Zac Zfg):=⟨rfl,rfl,rfl,by decide +kernel,rfl,by decide +kernel,by decide +kernel⟩
theorem ZjF  {aS:Addr} (S:Zlt P w K mg base aS)  (D:Zaq K mg "reckon" Zfg) (g_SUMS:Za0 mg "SUMS" (.ref aS)):Cal P w K mg base 2 "reckon" Zh8:=by
  refine ZaA (N:=["word", "one", "other"]) (ps:=["word", "one", "other"]) D ZjE (fun vs H Q E h=>?_) (fun _ _ _ _ _ _ us hl=>bd3 (R:=fun us=>bindArgs _ ⟨us,[]⟩=pure (List.zip _ us)) (fun _ _ _=>rfl) us hl) (fun f cdv A outer s H vs Q E hr h=>?_)
  . obtain ⟨x,a,b,f,rfl,_⟩:=h; rfl
  . obtain ⟨x,a,b,fn,rfl,hx,hc,k⟩:=h
    refine ⟨_,(Zaf (Zar (Zh5 (k:=1) (hr.mono (by decide)) (Ze0 (ZbO rfl g_SUMS) (pv 0) (fun _ _=>rfl)) (Zaa (pv 1) (Zaa (pv 2) Zae))))),?_⟩
    walk_at "nx"
    obtain ⟨ws,dk,al⟩:=S
    obtain ⟨fa,hv,cf⟩:=al x fn hx
    refine Zln ?_
    show tCallV _ _ _ _ _ _ _ _ _ _ _
    refine ⟨_,rfl,aS,ws,.inr x,.ref fa,.ref fa,rfl,rfl,dk,hv,rfl,fa,_,rfl,cf,?_⟩
    repeat walk_at "rd"
    exact ⟨a,b,rfl,hc,k⟩
end
noncomputable def RT:List (Str × Int × Int × Int × Int):=[("push", 0,1,1,1),("drop", 1,0,1,1),("copy", 1,2,1,1),("swap", 1,1,1,1),("add", 2,1,1,1),("minus", 2,1,1,1),("times", 2,1,2,2),("over", 2,1,2,2),("rest", 2,1,2,2),("below", 2,1,1,1),("same", 2,1,1,1),("both", 2,1,1,1),("either", 2,1,1,1),("unlike", 2,1,1,1),("up", 2,1,1,1),("down", 2,1,1,1),("jump", 0,0,1,1),("jumpif", 1,0,1,1),("load", 1,1,3,3),("save", 2,0,5,12),("me", 0,1,1,1),("from", 0,1,1,1),("sent", 0,1,1,1),("word", 0,1,1,1),("coin", 1,1,3,3),("note", 1,0,4,4),("call", 4,2,8,12),("borrow", 3,2,6,6),("look", 3,2,6,6),("give", 1,0,1,1),("fail", 1,0,1,1)]
noncomputable def rowV (x:Str) (n:Option Int):List V:=rowVs (x,n)
noncomputable def ZbX (x:Str) (n:Option Int):Option Int:=if inS x ["copy", "swap"]=true then n else some 0
noncomputable def Zgq (P:Program) (w:World) (K:PySem.W.Frag) (aT:Addr):Prop :=
  ∃ vs,Zde P w K aT vs/\∀ x t l p d,RT.lookup x=some (t,l,p,d)->∃ ta,valueAt vs (.inr x)=some (.ref ta)/\TupK K ta [.int t,.int l,.int p,.int d]
noncomputable def ZbM (K:PySem.W.Frag) (H:Hp) (p:Addr) (x:Str) (n:Option Int):Prop:=SqT K H p (rowV x n)
theorem Zhh {x:Str} {n:Option Int}:atI (rowV x n) 0=some (.str x):=by cases n <;> rfl
noncomputable def Zhi (K:PySem.W.Frag):Sp:=fun vs H Q _=>∃ p x n r,vs=[.ref p]/\ZbM K H p x n/\ZbX x n=some r/\Q (.int r) H
noncomputable def Zfp (K:PySem.W.Frag):Sp:=fun vs H Q _=>∃ p x n r t l pr d,vs=[.ref p]/\ZbM K H p x n/\ZbX x n=some r/\RT.lookup x=some (t,l,pr,d)/\Q (.int (t + r)) H
noncomputable def Zh9 (K:PySem.W.Frag):Sp:=fun vs H Q _=>∃ p x n r t l pr d,vs=[.ref p]/\ZbM K H p x n/\ZbX x n=some r/\RT.lookup x=some (t,l,pr,d)/\Q (.int (l + r)) H
noncomputable def ZjG (K:PySem.W.Frag):Sp:=fun vs H Q _=>∃ p x n t l pr d b,vs=[.ref p,.bl b]/\ZbM K H p x n/\RT.lookup x=some (t,l,pr,d)/\Q (.int (if b=true then d else pr)) H
local macro_rules|`(tactic| walk_at "rw")=>`(tactic| first
  | walk_at "rdk"
  | ((with_reducible refine' L2.Zee ?h ?e ?_); (case h=>assumption); (case e=>exact My.Zhh))
  | fail)
local macro_rules|`(tactic| walk_at "rz")=>`(tactic| first
  | ((with_reducible refine L2.Zdo (fun _=>?_) (fun _=>?_)) <;> (try (exfalso; omega)))
  | ((with_reducible refine L2.ZcF (fun _=>?_) (fun _=>?_)) <;> (try (exfalso; omega)))
  | ((with_reducible refine L2.rd_iteNND (fun _=>?_) (fun _=>?_)) <;> (try (exfalso; omega)))
  | walk_at "rw"
  | fail)
section
variable {P:Program} {w:World} {K:PySem.W.Frag} {mg:Str->Option Value} {base:Heap}
theorem ZkU:FnScope ["row"] ["row"] (Zac Zg8):=⟨rfl,rfl,rfl,by decide +kernel,rfl,by decide +kernel,by decide +kernel⟩
theorem ZkV  {aR:Addr} (tR:TupK K aR ((["copy", "swap"]:List Str).map V.str))  (D:Zaq K mg "reach" Zg8) (g_REACHING:Za0 mg "REACHING" (.ref aR)):Cal P w K mg base 1 "reach" (Zhi K):=by
  refine ZaA (N:=["row"]) (ps:=["row"]) D ZkU (fun vs H Q E h=>?_) (fun _ _ _ _ _ _ us hl=>bd1 (R:=fun us=>bindArgs _ ⟨us,[]⟩=pure (List.zip _ us)) (fun _=>rfl) us hl) (fun f cdv A outer s H vs Q E hr h=>?_)
  . obtain ⟨p,x,n,r,rfl,_⟩:=h; rfl
  . obtain ⟨p,x,n,r,rfl,hp,hr',k⟩:=h
    refine ⟨_,(Zad (Zbi (ZaD Zeb (ZaK Zbe (pv 0) Zag (fun _ _=>rfl)) (ZbO rfl g_REACHING) rfl) (Zaf (Zar (ZaK Zbe (pv 0) Zag (fun _ _=>rfl)))) ZaJ)
      (Zaf (Zar Zag))),?_⟩
    walk_at "nx"
    repeat walk_at "rd"
    refine Zee hp Zhh ?_
    repeat walk_at "rd"
    refine Zjm (tR.sqt H) ?_
    repeat walk_at "rd"
    unfold ZbX at hr'
    cases e:inS x ["copy", "swap"] with
    | true =>
      rw [e,if_pos rfl] at hr'
      subst hr'
      repeat walk_at "rd"
      refine Zee hp rfl ?_
      exact k
    | false =>
      rw [e,if_neg (by decide)] at hr'
      cases hr'
      repeat walk_at "rd"
      exact k
theorem ZkW:FnScope ["row"] ["row"] (Zac Zg9):=⟨rfl,rfl,rfl,by decide +kernel,rfl,by decide +kernel,by decide +kernel⟩
theorem ZkX  {aT:Addr} (R:Zgq P w K aT)  (D:Zaq K mg "takes" Zg9) (c_reach:Cal P w K mg base 1 "reach" (Zhi K)) (g_ROWS:Za0 mg "ROWS" (.ref aT)):Cal P w K mg base 2 "takes" (Zfp K):=by
  refine ZaA (N:=["row"]) (ps:=["row"]) D ZkW (fun vs H Q E h=>?_) (fun _ _ _ _ _ _ us hl=>bd1 (R:=fun us=>bindArgs _ ⟨us,[]⟩=pure (List.zip _ us)) (fun _=>rfl) us hl) (fun f cdv A outer s H vs Q E hr h=>?_)
  . obtain ⟨p,x,n,r,t,l,pr,d,rfl,_⟩:=h; rfl
  . obtain ⟨p,x,n,r,t,l,pr,d,rfl,hp,hr',ht,k⟩:=h
    refine ⟨_,(Zaf (Zar (ZaC ZbG (ZaK Zbe (Ze0 (ZbO rfl g_ROWS) (ZaK Zbe (pv 0) Zag (fun _ _=>rfl)) (fun _ _=>rfl)) Zag (fun _ _=>rfl)) (ZaG c_reach (hr.mono (by decide)) rfl (Zaa (pv 0) Zae))))),?_⟩
    walk_at "nx"
    obtain ⟨ws,dk,al⟩:=R
    obtain ⟨ta,hv,tk⟩:=al x t l pr d ht
    have tk':=tk.sqt H
    repeat walk_at "rw"
    refine Zjo (v:=.ref ta) dk hv rfl ?_
    repeat walk_at "rw"
    refine ⟨p,x,n,r,rfl,hp,hr',?_⟩
    repeat walk_at "rw"
    exact k
theorem ZjH:FnScope ["row"] ["row"] (Zac Zfe):=⟨rfl,rfl,rfl,by decide +kernel,rfl,by decide +kernel,by decide +kernel⟩
theorem ZjI  {aT:Addr} (R:Zgq P w K aT)  (D:Zaq K mg "leaves" Zfe) (c_reach:Cal P w K mg base 1 "reach" (Zhi K)) (g_ROWS:Za0 mg "ROWS" (.ref aT)):Cal P w K mg base 2 "leaves" (Zh9 K):=by
  refine ZaA (N:=["row"]) (ps:=["row"]) D ZjH (fun vs H Q E h=>?_) (fun _ _ _ _ _ _ us hl=>bd1 (R:=fun us=>bindArgs _ ⟨us,[]⟩=pure (List.zip _ us)) (fun _=>rfl) us hl) (fun f cdv A outer s H vs Q E hr h=>?_)
  . obtain ⟨p,x,n,r,t,l,pr,d,rfl,_⟩:=h; rfl
  . obtain ⟨p,x,n,r,t,l,pr,d,rfl,hp,hr',ht,k⟩:=h
    refine ⟨_,(Zaf (Zar (ZaC ZbG (ZaK Zbe (Ze0 (ZbO rfl g_ROWS) (ZaK Zbe (pv 0) Zag (fun _ _=>rfl)) (fun _ _=>rfl)) Zag (fun _ _=>rfl)) (ZaG c_reach (hr.mono (by decide)) rfl (Zaa (pv 0) Zae))))),?_⟩
    walk_at "nx"
    obtain ⟨ws,dk,al⟩:=R
    obtain ⟨ta,hv,tk⟩:=al x t l pr d ht
    have tk':=tk.sqt H
    repeat walk_at "rw"
    refine Zjo (v:=.ref ta) dk hv rfl ?_
    repeat walk_at "rw"
    refine ⟨p,x,n,r,rfl,hp,hr',?_⟩
    repeat walk_at "rw"
    exact k
theorem ZkY:FnScope ["row", "dear"] ["row", "dear"] (Zac Zha):=⟨rfl,rfl,rfl,by decide +kernel,rfl,by decide +kernel,by decide +kernel⟩
theorem ZkZ {aT:Addr} (R:Zgq P w K aT) (D:Zjr K mg "price" Zha #[.bool false]) (g_ROWS:Za0 mg "ROWS" (.ref aT)):CalD P w K mg base 1 "price" (ZjG K) []:=by
  obtain ⟨f,fd,F,m⟩:=D
  refine ⟨f,fd,_,[],m,F.fn (N:=["row", "dear"]) (ps:=["row", "dear"]) ZkY (fun vs H Q E h=>?_) (fun cdv A outer s H vs Q E hr h=>?_),F.kp,F.binds (ps:=["row", "dear"]) [] (fun T kV doc pm an cdv ct us hl=>bd2 (R:=fun us=>∃ k:Option (Array Value)->Sem (List (Str × Value)),bindArgs _ ⟨us,[]⟩=seqItems? (.ref T) >>= k/\k (some _)=pure (List.zip _ (us ++ []))) (fun _ _=>⟨_,rfl,rfl⟩) us (by simpa using hl)),.nil⟩
  . obtain ⟨p,x,n,t,l,pr,d,b,rfl,_⟩:=h; rfl
  . obtain ⟨p,x,n,t,l,pr,d,b,rfl,hp,ht,k⟩:=h
    refine ⟨_,(Zad (Zbi (Zb6 (pv 1)) (Zaf (Zar (ZaK Zbe (Ze0 (ZbO rfl g_ROWS) (ZaK Zbe (pv 0) Zag (fun _ _=>rfl)) (fun _ _=>rfl)) Zag (fun _ _=>rfl)))) ZaJ)
      (Zaf (Zar (ZaK Zbe (Ze0 (ZbO rfl g_ROWS) (ZaK Zbe (pv 0) Zag (fun _ _=>rfl)) (fun _ _=>rfl)) Zag (fun _ _=>rfl))))),?_⟩
    walk_at "nx"
    obtain ⟨ws,dk,al⟩:=R
    obtain ⟨ta,hv,tk⟩:=al x t l pr d ht
    have tk':=tk.sqt H
    repeat walk_at "rw"
    cases b with
    | true =>
      repeat walk_at "rw"
      refine Zjo (v:=.ref ta) dk hv rfl ?_
      repeat walk_at "rw"
      exact k
    | false =>
      repeat walk_at "rw"
      refine Zjo (v:=.ref ta) dk hv rfl ?_
      repeat walk_at "rw"
      exact k
end
noncomputable def accF (c p n:Int) (pr st:Addr):List (Str × V):=[("coin", .int c),("purse", .int p),("count", .int n),("program", .ref pr),("store", .ref st)]
structure AcAt (K:PySem.W.Frag) (C:Addr) (H:Hp) (a dx pr st:Addr) (c p n:Int) (rs:List Row) (f:Int->Int) (m:Nat):Prop where
  ob:H a=some (.ins C dx (accF c p n pr st))
  pg:∃ xs,H pr=some (.lst xs)/\RowsAt K H rs xs
  sto:StoreAt H st f m
noncomputable def spInit (K:PySem.W.Frag) (C:Addr):Sp:=fun vs H Q _=>∃ (a dx pr0:Addr) (c p:Int) (xs:List V) (rs:List Row),vs=[.ref a,.int c,.int p,.ref pr0]/\H a=some (.ins C dx [])/\SqL K H pr0 xs/\RowsAt K H rs xs /\
  ∀ (pr st:Addr) (H':Hp),H pr=none->H st=none->pr ≠ st->AcAt K C H' a dx pr st c p 0 rs (fun _=>0) 0->(∀ b o,H b=some o->b ≠ a->H' b=some o)->Q .non H'
noncomputable def Zd3 (K:PySem.W.Frag) (C:Addr):Sp:=fun vs H Q _=>∃ (a dx pr st:Addr) (c p n:Int) (rs:List Row) (f:Int->Int) (m:Nat) (i:Int),vs=[.ref a,.int i]/\AcAt K C H a dx pr st c p n rs f m/\Q (.int (f i)) H
noncomputable def spKeep (K:PySem.W.Frag) (C:Addr):Sp:=fun vs H Q _=>∃ (a dx pr st:Addr) (c p n:Int) (rs:List Row) (f:Int->Int) (m:Nat) (i v:Int),vs=[.ref a,.int i,.int v]/\AcAt K C H a dx pr st c p n rs f m/\m <= 1000000 /\
  ∀ H',(∀ b,b ≠ st->H' b=H b)->StoreAt H' st (putFn f i v) (m + 1)->Q .non H'
theorem AcAt.nd {K:PySem.W.Frag} {C:Addr} {H H':Hp} {a dx pr st:Addr} {c p n:Int} {rs:List Row} {f g:Int->Int} {m m':Nat} (h:AcAt K C H a dx pr st c p n rs f m) (s:SameND H H') (e:StoreAt H' st g m'):AcAt K C H' a dx pr st c p n rs g m' :=
  ⟨s _ _ h.ob (by intro _ z; cases z),let ⟨xs,e1,e2⟩:=h.pg; ⟨xs,s _ _ e1 (by intro _ z; cases z),e2.keep s.imm⟩,e⟩
theorem SameND.but {H H':Hp} {st:Addr} {kvs:List (Key × V)} (h:H st=some (.dK kvs)) (k:∀ b,b ≠ st->H' b=H b):SameND H H':=fun b u e n=>by
  rw [k b (fun z=>by rw [z,h] at e; exact n kvs (Option.some.inj e).symm)]; exact e
structure AcI where
  a:Addr
  dx:Addr
  pr:Addr
  st:Addr
structure AcS where
  coin:Int
  purse:Int
  count:Int
  rows:List Row
  store:Int->Int
noncomputable def roomV:Option AcI->V
  | none=>.non
  | some x=>.ref x.a
noncomputable def Acc (K:PySem.W.Frag) (C:Addr) (H:Hp) (x:AcI) (S:AcS) (m:Nat):Prop:=AcAt K C H x.a x.dx x.pr x.st S.coin S.purse S.count S.rows S.store m
structure Rooms (K:PySem.W.Frag) (C:Addr) (H:Hp) (R:Addr) (A:Nat->Option AcI) (S:Nat->AcS) (m:Nat):Prop where
  ob:H R=some (.lst ((List.range 16).map fun i=>roomV (A i)))
  ac:∀ i x,i < 16->A i=some x->Acc K C H x (S i) m
  da:∀ i j x y,i < 16->j < 16->A i=some x->A j=some y->x.a=y.a->i=j
  ds:∀ i j x y,i < 16->j < 16->A i=some x->A j=some y->x.st=y.st->i=j
noncomputable def setS (S:Nat->AcS) (i:Nat) (v:AcS):Nat->AcS:=fun j=>if j=i then v else S j
theorem Rooms.at {K:PySem.W.Frag} {C:Addr} {H:Hp} {R:Addr} {A:Nat->Option AcI} {S:Nat->AcS} {m:Nat} (r:Rooms K C H R A S m) {i:Nat} (hi:i < 16) {x:AcI} (hx:A i=some x):atI ((List.range 16).map fun i=>roomV (A i)) (i:Int)=some (.ref x.a) :=
  ZbR (i:=i) (by rw [List.getElem?_map,List.getElem?_range hi]; show some (roomV (A i))=_; rw [hx]; rfl) rfl
theorem Acc.le {K:PySem.W.Frag} {C:Addr} {H:Hp} {x:AcI} {S:AcS} {m m':Nat} (h:Acc K C H x S m) (e:m <= m'):Acc K C H x S m':=⟨h.ob,h.pg,h.sto.le e⟩
theorem Rooms.keep {K:PySem.W.Frag} {C:Addr} {H H':Hp} {R:Addr} {A:Nat->Option AcI} {S:Nat->AcS} {m:Nat} (r:Rooms K C H R A S m) {i:Nat} (hi:i < 16) {x:AcI} (hx:A i=some x) (k:∀ b,b ≠ x.st->H' b=H b) {p v:Int} (e:StoreAt H' x.st (putFn (S i).store p v) (m + 1)) :
    Rooms K C H' R A (setS S i { S i with store:=putFn (S i).store p v }) (m + 1):=by
  have ai:=r.ac i x hi hx
  obtain ⟨kvs,hs,_⟩:=ai.sto
  have nd:=SameND.but hs k
  refine ⟨by rw [k R (Zbl r.ob hs (by intro z; cases z))]; exact r.ob,fun j y hj hy=>?_,r.da,r.ds⟩
  unfold setS
  by_cases z:j=i
  . subst z
    rw [hx] at hy
    cases hy
    rw [if_pos rfl]
    exact AcAt.nd ai nd e
  . rw [if_neg z]
    have aj:=(r.ac j y hj hy).le (Nat.le_succ m)
    have hne:y.st ≠ x.st:=fun q=>z (r.ds j i y x hj hi hy hx q)
    exact AcAt.nd aj nd (aj.sto.same (k _ hne))
theorem Rooms.coin {K:PySem.W.Frag} {C:Addr} {H:Hp} {R:Addr} {A:Nat->Option AcI} {S:Nat->AcS} {m:Nat} (r:Rooms K C H R A S m) {i:Nat} (hi:i < 16) {x:AcI} (hx:A i=some x) (c:Int) :
    Rooms K C (upd H x.a (.ins C x.dx (accF c (S i).purse (S i).count x.pr x.st))) R A (setS S i { S i with coin:=c }) m:=by
  have ai:=r.ac i x hi hx
  have im:SameI H (upd H x.a (.ins C x.dx (accF c (S i).purse (S i).count x.pr x.st))):=SameI.upd ai.ob ZcJ
  refine ⟨by rw [Zak (Zbl r.ob ai.ob (by intro z; cases z))]; exact r.ob,fun j y hj hy=>?_,r.da,r.ds⟩
  have aj:=r.ac j y hj hy
  obtain ⟨xs,e1,e2⟩:=aj.pg
  obtain ⟨kvs,e3,e4⟩:=aj.sto
  have f1:(upd H x.a (.ins C x.dx (accF c (S i).purse (S i).count x.pr x.st))) y.pr=some (.lst xs):=by rw [Zak (Zbl e1 ai.ob (by intro z; cases z))]; exact e1
  have f2:(upd H x.a (.ins C x.dx (accF c (S i).purse (S i).count x.pr x.st))) y.st=some (.dK kvs):=by rw [Zak (Zbl e3 ai.ob (by intro z; cases z))]; exact e3
  unfold setS
  by_cases z:j=i
  . subst z
    rw [hx] at hy
    cases hy
    rw [if_pos rfl]
    exact ⟨Zah,⟨xs,f1,e2.keep im⟩,kvs,f2,e4⟩
  . rw [if_neg z]
    have hne:y.a ≠ x.a:=fun q=>z (r.da j i y x hj hi hy hx q)
    exact ⟨by rw [Zak hne]; exact aj.ob,⟨xs,f1,e2.keep im⟩,kvs,f2,e4⟩
noncomputable def moved (S:Nat->AcS) (i j:Nat) (k:Int):Nat->AcS:=let S1:=setS S i { S i with coin:=(S i).coin - k }; setS S1 j { S1 j with coin:=(S1 j).coin + k }
noncomputable def Zhj (K:PySem.W.Frag) (C:Addr):Sp:=fun vs H Q _=>∃ (R:Addr) (A:Nat->Option AcI) (S:Nat->AcS) (m i j:Nat) (x y:AcI) (k:Int),vs=[.ref x.a,.ref y.a,.int k]/\Rooms K C H R A S m/\i < 16/\j < 16/\A i=some x/\A j=some y /\
  ∀ H',(∀ b,b ≠ x.a->b ≠ y.a->H' b=H b)->Rooms K C H' R A (moved S i j k) m->Q .non H'
section
variable {P:Program} {w:World} {K:PySem.W.Frag} {mg:Str->Option Value} {base:Heap}
theorem Zc0:FnScope ["self", "coin", "purse", "program"] ["self", "coin", "purse", "program"] (Zac ZaR):=⟨rfl,rfl,rfl,by decide +kernel,rfl,by decide +kernel,by decide +kernel⟩
theorem Zc1   {cAccount:Addr} (D:Zao K cAccount "__init__" "Account.__init__" ZaR) (tAccount:T_Account K mg cAccount) (n_list:mg "list" = none):ICal P w K mg base 1 "Account" cAccount (spInit K cAccount):=by
  refine Zeg (N:=["self", "coin", "purse", "program"]) (ps:=["self", "coin", "purse", "program"]) D tAccount.k Zc0 (fun vs H Q E h=>?_) (fun _ _ _ _ _ _ us hl=>bd4 (R:=fun us=>bindArgs _ ⟨us,[]⟩=pure (List.zip _ us)) (fun _ _ _ _=>rfl) us hl) (fun f cdv A outer s H vs Q E hr h=>?_)
  . obtain ⟨a,dx,pr0,c,p,xs,rs,rfl,_⟩:=h; rfl
  . obtain ⟨a,dx,pr0,c,p,xs,rs,rfl,ha,hl,hR,k⟩:=h
    refine ⟨_,(Zad (ZaU (pv 0) (pv 1) rfl)
      (Zad (ZaU (pv 0) (pv 2) rfl)
      (Zad (ZaU (pv 0) Zag rfl)
      (Zad (ZaU (pv 0) (Zdb Zju rfl n_list PyProof.Rows.boot_list (Zaa (pv 3) Zae)) rfl)
      (Zaf (ZaU (pv 0) Zkt rfl)))))),?_⟩
    walk_at "nx"
    repeat walk_at "rdk"
    refine Zau ha tAccount.k.cl tAccount.n_coin (by decide) ?_
    repeat walk_at "rdk"
    refine Zau Zah tAccount.k.cl tAccount.n_purse (by show 1 < 1000; decide) ?_
    rw [ZaY]
    repeat walk_at "rdk"
    refine Zau Zah tAccount.k.cl tAccount.n_count (by show 2 < 1000; decide) ?_
    rw [ZaY]
    repeat walk_at "rdk"
    refine Zfb (hl.updI ha) fun pr hpr=>?_
    have hn:H pr=none:=by
      by_cases e:pr=a
      . subst e; rw [Zah] at hpr; cases hpr
      . rw [Zak e] at hpr; exact hpr
    have na:a ≠ pr:=Zam ha hn
    repeat walk_at "rdk"
    refine Zau (by rw [Zak na,Zah]) tAccount.k.cl tAccount.n_program (by show 3 < 1000; decide) ?_
    repeat walk_at "rdk"
    rename_i st hst
    have ns:st ≠ a:=fun e=>by subst e; rw [Zah] at hst; cases hst
    have np:st ≠ pr:=fun e=>by subst e; rw [Zak ns,Zah] at hst; cases hst
    have hn2:H st=none:=by rw [Zak ns,Zak np,Zak ns] at hst; exact hst
    refine Zau (by rw [Zak ns.symm,Zah]) tAccount.k.cl tAccount.n_store (by show 4 < 1000; decide) ?_
    have kp:∀ b o,H b=some o->b ≠ a->(upd (upd (upd (upd (upd H a (.ins cAccount dx [("coin", .int c),("purse", .int p),("count", .int 0)])) pr (.lst xs)) a (.ins cAccount dx [("coin", .int c),("purse", .int p),("count", .int 0),("program", .ref pr)])) st (.dK [])) a (.ins cAccount dx (accF c p 0 pr st))) b=some o:=by
      intro b o e hb
      have h1:b ≠ pr:=Zam e hn
      have h2:b ≠ st:=Zam e hn2
      rw [Zak hb,Zak h2,Zak hb,Zak h1,Zak hb]
      exact e
    refine k pr st _ hn hn2 np.symm ⟨?_,⟨xs,?_,?_⟩,⟨[],?_,by decide,by simp,by simp,fun i=>rfl⟩⟩ ?_
    . rw [Zah]; rfl
    . rw [Zak na.symm,Zak np.symm,Zak na.symm,Zah]
    . refine hR.keep fun b u e i=>?_
      have hb:b ≠ a:=fun z=>by rw [z,ha] at e; cases e; exact ZcJ i
      exact kp b u e hb
    . rw [Zak ns,Zah]
    . exact kp
theorem ZdG:FnScope ["self", "place"] ["self", "place"] (Zac ZaZ):=⟨rfl,rfl,rfl,by decide +kernel,rfl,by decide +kernel,by decide +kernel⟩
theorem ZdH   {cAccount:Addr} (D:Zao K cAccount "loaded" "Account.loaded" ZaZ) (tAccount:T_Account K mg cAccount):MCal P w K mg base 1 cAccount "loaded" (Zd3 K cAccount):=by
  refine Za9 (N:=["self", "place"]) (ps:=["self", "place"]) D tAccount.k.cl ZdG (fun vs H Q E h=>?_) (fun _ _ _ _ _ _ us hl=>bd2 (R:=fun us=>bindArgs _ ⟨us,[]⟩=pure (List.zip _ us)) (fun _ _=>rfl) us hl) (fun f cdv A outer s H vs Q E hr h=>?_)
  . obtain ⟨a,dx,pr,st,c,p,n,rs,f,m,i,rfl,_⟩:=h; rfl
  . obtain ⟨a,dx,pr,st,c,p,n,rs,fn,m,i,rfl,A,k⟩:=h
    refine ⟨_,(Zaf (Zar (Zku (hu_of hr) (Zal (pv 0) rfl) (pv 1) Zag ⟨rfl,rfl,rfl,rfl⟩))),?_⟩
    walk_at "nx"
    obtain ⟨kvs,hs,_,_,_,hf⟩:=A.sto
    repeat walk_at "rdk"
    refine Zai A.ob tAccount.k.cl tAccount.n_store rfl ?_
    refine ⟨st,rfl,isD_k hs,?_⟩
    repeat walk_at "rdk"
    exact ⟨_,DGet.k (k:=Sum.inl i) hs,by rw [hf i]; exact k⟩
theorem Zem:FnScope ["self", "place", "number"] ["self", "place", "number"] (Zac Zba):=⟨rfl,rfl,rfl,by decide +kernel,rfl,by decide +kernel,by decide +kernel⟩
theorem Zen   {cAccount:Addr} (D:Zao K cAccount "keep" "Account.keep" Zba) (tAccount:T_Account K mg cAccount):MCal P w K mg base 1 cAccount "keep" (spKeep K cAccount):=by
  refine Za9 (N:=["self", "place", "number"]) (ps:=["self", "place", "number"]) D tAccount.k.cl Zem (fun vs H Q E h=>?_) (fun _ _ _ _ _ _ us hl=>bd3 (R:=fun us=>bindArgs _ ⟨us,[]⟩=pure (List.zip _ us)) (fun _ _ _=>rfl) us hl) (fun f cdv A outer s H vs Q E hr h=>?_)
  . obtain ⟨a,dx,pr,st,c,p,n,rs,f,m,i,v,rfl,_⟩:=h; rfl
  . obtain ⟨a,dx,pr,st,c,p,n,rs,fn,m,i,v,rfl,A,hm,k⟩:=h
    refine ⟨_,(Zaf (Zbi (ZaD Zb7 (pv 2) Zag (nomark _)) (Zaf (Zay (Zkv (Zal (pv 0) rfl) (pv 1) Zcn ⟨rfl,rfl,rfl,rfl⟩))) (Zaf (ZlU (hu_of hr) (Zal (pv 0) rfl) (pv 1) (pv 2) rfl)))),?_⟩
    walk_at "nx"
    obtain ⟨kvs,hs,hl,hn,hz,hf⟩:=A.sto
    repeat' walk_at "rdk"
    . rename_i hv
      subst hv
      refine Zai A.ob tAccount.k.cl tAccount.n_store rfl ⟨st,rfl,isD_k hs,?_⟩
      repeat walk_at "rdk"
      refine ⟨kvs,Sum.inl i,hs,rfl,fun v hv=>?_,fun hv=>?_⟩
      . dsimp only
        repeat walk_at "rdk"
        exact k _ (fun b hb=>Zak hb) (StoreAt.drop hl hn hz hf i)
      . dsimp only
        repeat walk_at "rdk"
        refine k _ (fun b hb=>rfl) ⟨kvs,hs,Nat.le_trans hl (Nat.le_succ _),hn,hz,fun j=>?_⟩
        unfold putFn
        by_cases e:j=i
        . subst e
          rw [if_pos rfl,hv]
          rfl
        . rw [if_neg e]
          exact hf j
    . rename_i hv
      refine Zai A.ob tAccount.k.cl tAccount.n_store rfl ?_
      repeat walk_at "rdk"
      exact ZkK hs (Nat.lt_of_le_of_lt (Nat.le_trans hl hm) (by decide)) (k _ (fun b hb=>Zak hb) (StoreAt.put hl hn hz hf i v hv))
theorem Zfq:FnScope ["giver", "taker", "many"] ["giver", "taker", "many"] (Zac Zcu):=⟨rfl,rfl,rfl,by decide +kernel,rfl,by decide +kernel,by decide +kernel⟩
theorem Zfr   {cAccount:Addr} (D:Zaq K mg "shift_coin" Zcu) (tAccount:T_Account K mg cAccount):Cal P w K mg base 1 "shift_coin" (Zhj K cAccount):=by
  refine ZaA (N:=["giver", "taker", "many"]) (ps:=["giver", "taker", "many"]) D Zfq (fun vs H Q E h=>?_) (fun _ _ _ _ _ _ us hl=>bd3 (R:=fun us=>bindArgs _ ⟨us,[]⟩=pure (List.zip _ us)) (fun _ _ _=>rfl) us hl) (fun f cdv A outer s H vs Q E hr h=>?_)
  . obtain ⟨R,A,S,m,i,j,x,y,k,rfl,_⟩:=h; rfl
  . obtain ⟨R,Ar,S,m,i,j,x,y,kk,rfl,r,hi,hj,hx,hy,k⟩:=h
    refine ⟨_,(Zad (Zcp (pv 0) (pv 2) in_sub)
      (Zaf (Zcp (pv 1) (pv 2) Zh0))),?_⟩
    walk_at "nx"
    have ax:=r.ac i x hi hx
    repeat walk_at "rdk"
    refine Zdg ax.ob tAccount.k.cl tAccount.n_coin rfl ?_
    repeat walk_at "rdk"
    refine ⟨x.dx,_,ax.ob,by show 5 < 1000; decide,?_⟩
    have r1:=r.coin hi hx ((S i).coin - kk)
    have fr1:∀ b,b ≠ x.a->(upd H x.a (.ins cAccount x.dx (accF ((S i).coin - kk) (S i).purse (S i).count x.pr x.st))) b=H b:=fun b hb=>Zak hb
    have ep:∀ (c c' p n:Int) (pr st:Addr),putF "coin" (.int c') (accF c p n pr st)=accF c' p n pr st:=fun _ _ _ _ _ _=>rfl
    rw [ep]
    generalize upd H x.a _=H1 at r1 fr1
    generalize hS1:setS S i { S i with coin:=(S i).coin - kk }=S1 at r1
    have ay:=r1.ac j y hj hy
    dsimp only
    repeat walk_at "rdk"
    refine Zdg ay.ob tAccount.k.cl tAccount.n_coin rfl ?_
    repeat walk_at "rdk"
    refine ⟨y.dx,_,ay.ob,by show 5 < 1000; decide,?_⟩
    rw [ep]
    have r2:=r1.coin hj hy ((S1 j).coin + kk)
    refine k _ (fun b h1 h2=>by rw [Zak h2]; exact fr1 b h1) ?_
    unfold moved
    rw [hS1]
    exact r2
end
inductive Dd where
  | save (s p o n:Int)
  | move (s t k:Int)
  | note (s n:Int)
noncomputable def saveF (s p o n:Int):List (Str × V):=[("slot", .int s),("place", .int p),("old", .int o),("new", .int n)]
noncomputable def moveF (s t k:Int):List (Str × V):=[("slot", .int s),("taker", .int t),("many", .int k)]
noncomputable def noteF (s n:Int):List (Str × V):=[("slot", .int s),("number", .int n)]
noncomputable def doneS (S:Nat->AcS):Dd->Nat->AcS
  | .save s p _ n=>setS S s.toNat { S s.toNat with store:=putFn (S s.toNat).store p n }
  | .move s t k=>moved S s.toNat t.toNat k
  | .note _ _=>S
noncomputable def fitsD (A:Nat->Option AcI):Dd->Prop
  | .save s _ _ _=>∃ i x,s=((i:Nat):Int)/\i < 16/\A i=some x
  | .move s t _=>(∃ i x,s=((i:Nat):Int)/\i < 16/\A i=some x)/\∃ i x,t=((i:Nat):Int)/\i < 16/\A i=some x
  | .note _ _=>True
noncomputable def Out (A:Nat->Option AcI) (b:Addr):Prop:=∀ i x,i < 16->A i=some x->b ≠ x.a/\b ≠ x.st
theorem Rooms.le {K:PySem.W.Frag} {C:Addr} {H:Hp} {R:Addr} {A:Nat->Option AcI} {S:Nat->AcS} {m m':Nat} (r:Rooms K C H R A S m) (e:m <= m'):Rooms K C H R A S m':=⟨r.ob,fun i x hi hx=>(r.ac i x hi hx).le e,r.da,r.ds⟩
noncomputable def Zia (C:Addr):Sp:=fun vs H Q _=>∃ (a dx:Addr) (s p o n:Int),vs=[.ref a,.int s,.int p,.int o,.int n]/\H a=some (.ins C dx [])/\Q .non (upd H a (.ins C dx (saveF s p o n)))
noncomputable def Zfs (C:Addr):Sp:=fun vs H Q _=>∃ (a dx:Addr) (s t k:Int),vs=[.ref a,.int s,.int t,.int k]/\H a=some (.ins C dx [])/\Q .non (upd H a (.ins C dx (moveF s t k)))
noncomputable def Zib (C:Addr):Sp:=fun vs H Q _=>∃ (a dx:Addr) (s n:Int),vs=[.ref a,.int s,.int n]/\H a=some (.ins C dx [])/\Q .non (upd H a (.ins C dx (noteF s n)))
noncomputable def fldD:Dd->List (Str × V)
  | .save s p o n=>saveF s p o n
  | .move s t k=>moveF s t k
  | .note s n=>noteF s n
noncomputable def spDo (K:PySem.W.Frag) (C CD:Addr) (ok:Dd->Prop):Sp:=fun vs H Q _=>∃ (a dx R:Addr) (d:Dd) (A:Nat->Option AcI) (S:Nat->AcS) (m:Nat),vs=[.ref a,.ref R]/\ok d/\H a=some (.ins CD dx (fldD d))/\Rooms K C H R A S m/\fitsD A d/\m <= 1000000 /\
  ∀ H',(∀ b,Out A b->H' b=H b)->Rooms K C H' R A (doneS S d) (m + 1)->Q .non H'
noncomputable def isSave (d:Dd):Prop:=∃ s p o n,d=.save s p o n
noncomputable def isMove (d:Dd):Prop:=∃ s t k,d=.move s t k
noncomputable def isNote (d:Dd):Prop:=∃ s n,d=.note s n
noncomputable def Zft (S:Nat->AcS):Dd->Nat->AcS
  | .save s p o _=>setS S s.toNat { S s.toNat with store:=putFn (S s.toNat).store p o }
  | .move s t k=>moved S t.toNat s.toNat k
  | .note _ _=>S
noncomputable def spUndo (K:PySem.W.Frag) (C CD:Addr) (ok:Dd->Prop):Sp:=fun vs H Q _=>∃ (a dx R:Addr) (d:Dd) (A:Nat->Option AcI) (S:Nat->AcS) (m:Nat),vs=[.ref a,.ref R]/\ok d/\H a=some (.ins CD dx (fldD d))/\Rooms K C H R A S m/\fitsD A d/\m <= 1000000 /\
  ∀ H',(∀ b,Out A b->H' b=H b)->Rooms K C H' R A (Zft S d) (m + 1)->Q .non H'
noncomputable def rightD (S:Nat->AcS):Dd->Prop
  | .save s p o _=>(S s.toNat).store p=o
  | .move _ _ _=>True
  | .note _ _=>True
theorem ZcB (S:Nat->AcS) (i:Nat) (v:AcS):setS S i v i=v:=by unfold setS; rw [if_pos rfl]
theorem ZjJ (S:Nat->AcS) {i j:Nat} (v:AcS) (h:j ≠ i):setS S i v j=S j:=by unfold setS; rw [if_neg h]
theorem ZjK (S:Nat->AcS) (i:Nat) (v w:AcS):setS (setS S i v) i w=setS S i w:=by
  funext j
  unfold setS
  by_cases h:j=i
  . rw [if_pos h,if_pos h]
  . rw [if_neg h,if_neg h,if_neg h]
theorem Zmy (S:Nat->AcS) (i:Nat):setS S i (S i)=S:=by
  funext j
  unfold setS
  by_cases h:j=i
  . rw [if_pos h,h]
  . rw [if_neg h]
theorem ZiH {f:Int->Int} {p o n:Int} (h:f p=o):putFn (putFn f p n) p o=f:=by
  funext j
  unfold putFn
  by_cases e:j=p
  . rw [if_pos e,e,h]
  . rw [if_neg e,if_neg e]
theorem Zb9 (S:Nat->AcS) (i j:Nat) (k:Int) (n:Nat):moved S i j k n={ S n with coin:=(S n).coin - (if n=i then k else 0) + (if n=j then k else 0) }:=by
  unfold moved setS
  dsimp only
  by_cases h1:n=j
  . subst h1
    by_cases h2:n=i
    . subst h2; simp
    . simp [h2]
  . by_cases h2:n=i
    . subst h2; simp [h1]
    . simp [h1,h2]
theorem Zhk {S:Nat->AcS} {d:Dd} (h:rightD S d):Zft (doneS S d) d=S:=by
  cases d with
  | save s p o n =>
    have e:doneS S (.save s p o n) s.toNat={ S s.toNat with store:=putFn (S s.toNat).store p n }:=ZcB ..
    show setS (setS S s.toNat _) s.toNat { doneS S (.save s p o n) s.toNat with store:=putFn (doneS S (.save s p o n) s.toNat).store p o }=S
    rw [ZjK,e]
    dsimp only
    rw [ZiH h]
    exact Zmy S _
  | move s t k =>
    show moved (moved S _ _ k) _ _ k=S
    funext n
    rw [Zb9,Zb9]
    dsimp only
    have:(S n).coin - (if n=s.toNat then k else 0) + (if n=t.toNat then k else 0) - (if n=t.toNat then k else 0) + (if n=s.toNat then k else 0)=(S n).coin:=by omega
    rw [this]
  | note s n=>rfl
section
variable {P:Program} {w:World} {K:PySem.W.Frag} {mg:Str->Option Value} {base:Heap}
theorem ZdR:FnScope ["self", "slot", "place", "old", "new"] ["self", "slot", "place", "old", "new"] (Zac Za3):=⟨rfl,rfl,rfl,by decide +kernel,rfl,by decide +kernel,by decide +kernel⟩
theorem ZdS   {cSave:Addr} (D:Zao K cSave "__init__" "Save.__init__" Za3) (tSave:T_Save K mg cSave):ICal P w K mg base 1 "Save" cSave (Zia cSave):=by
  refine Zeg (N:=["self", "slot", "place", "old", "new"]) (ps:=["self", "slot", "place", "old", "new"]) D tSave.k ZdR (fun vs H Q E h=>?_) (fun _ _ _ _ _ _ us hl=>bd5 (R:=fun us=>bindArgs _ ⟨us,[]⟩=pure (List.zip _ us)) (fun _ _ _ _ _=>rfl) us hl) (fun f cdv A outer s H vs Q E hr h=>?_)
  . obtain ⟨a,dx,s0,p,o,n,rfl,_⟩:=h; rfl
  . obtain ⟨a,dx,s0,p,o,n,rfl,ha,k⟩:=h
    refine ⟨_,(Zad (ZaU (pv 0) (pv 1) rfl)
      (Zad (ZaU (pv 0) (pv 2) rfl)
      (Zad (ZaU (pv 0) (pv 3) rfl)
      (Zaf (ZaU (pv 0) (pv 4) rfl))))),?_⟩
    walk_at "nx"
    repeat walk_at "rdk"
    refine Zau ha tSave.k.cl tSave.n_slot (by decide) ?_
    repeat walk_at "rdk"
    refine Zau Zah tSave.k.cl tSave.n_place (by show 1 < 1000; decide) ?_
    rw [ZaY]
    repeat walk_at "rdk"
    refine Zau Zah tSave.k.cl tSave.n_old (by show 2 < 1000; decide) ?_
    rw [ZaY]
    repeat walk_at "rdk"
    refine Zau Zah tSave.k.cl tSave.n_new (by show 3 < 1000; decide) ?_
    rw [ZaY]
    exact k
theorem ZdT:FnScope ["self", "slot", "taker", "many"] ["self", "slot", "taker", "many"] (Zac Za4):=⟨rfl,rfl,rfl,by decide +kernel,rfl,by decide +kernel,by decide +kernel⟩
theorem ZdU   {cMove:Addr} (D:Zao K cMove "__init__" "Move.__init__" Za4) (tMove:T_Move K mg cMove):ICal P w K mg base 1 "Move" cMove (Zfs cMove):=by
  refine Zeg (N:=["self", "slot", "taker", "many"]) (ps:=["self", "slot", "taker", "many"]) D tMove.k ZdT (fun vs H Q E h=>?_) (fun _ _ _ _ _ _ us hl=>bd4 (R:=fun us=>bindArgs _ ⟨us,[]⟩=pure (List.zip _ us)) (fun _ _ _ _=>rfl) us hl) (fun f cdv A outer s H vs Q E hr h=>?_)
  . obtain ⟨a,dx,s0,t0,kk,rfl,_⟩:=h; rfl
  . obtain ⟨a,dx,s0,t0,kk,rfl,ha,k⟩:=h
    refine ⟨_,(Zad (ZaU (pv 0) (pv 1) rfl)
      (Zad (ZaU (pv 0) (pv 2) rfl)
      (Zaf (ZaU (pv 0) (pv 3) rfl)))),?_⟩
    walk_at "nx"
    repeat walk_at "rdk"
    refine Zau ha tMove.k.cl tMove.n_slot (by decide) ?_
    repeat walk_at "rdk"
    refine Zau Zah tMove.k.cl tMove.n_taker (by show 1 < 1000; decide) ?_
    rw [ZaY]
    repeat walk_at "rdk"
    refine Zau Zah tMove.k.cl tMove.n_many (by show 2 < 1000; decide) ?_
    rw [ZaY]
    exact k
theorem ZdV:FnScope ["self", "slot", "number"] ["self", "slot", "number"] (Zac Za5):=⟨rfl,rfl,rfl,by decide +kernel,rfl,by decide +kernel,by decide +kernel⟩
theorem ZdW   {cNote:Addr} (D:Zao K cNote "__init__" "Note.__init__" Za5) (tNote:T_Note K mg cNote):ICal P w K mg base 1 "Note" cNote (Zib cNote):=by
  refine Zeg (N:=["self", "slot", "number"]) (ps:=["self", "slot", "number"]) D tNote.k ZdV (fun vs H Q E h=>?_) (fun _ _ _ _ _ _ us hl=>bd3 (R:=fun us=>bindArgs _ ⟨us,[]⟩=pure (List.zip _ us)) (fun _ _ _=>rfl) us hl) (fun f cdv A outer s H vs Q E hr h=>?_)
  . obtain ⟨a,dx,s0,n,rfl,_⟩:=h; rfl
  . obtain ⟨a,dx,s0,n,rfl,ha,k⟩:=h
    refine ⟨_,(Zad (ZaU (pv 0) (pv 1) rfl)
      (Zaf (ZaU (pv 0) (pv 2) rfl))),?_⟩
    walk_at "nx"
    repeat walk_at "rdk"
    refine Zau ha tNote.k.cl tNote.n_slot (by decide) ?_
    repeat walk_at "rdk"
    refine Zau Zah tNote.k.cl tNote.n_number (by show 1 < 1000; decide) ?_
    rw [ZaY]
    exact k
theorem ZiI:FnScope ["self", "rooms"] ["self", "rooms"] (Zac ZbU):=⟨rfl,rfl,rfl,by decide +kernel,rfl,by decide +kernel,by decide +kernel⟩
theorem ZiJ   {cSave:Addr} {cAccount:Addr} (D:Zao K cSave "do" "Save.do" ZbU) (tSave:T_Save K mg cSave) (tAccount:T_Account K mg cAccount) (m_Account_keep:MCal P w K mg base 1 cAccount "keep" (spKeep K cAccount)):MCal P w K mg base 2 cSave "do" (spDo K cAccount cSave isSave):=by
  refine Za9 (N:=["self", "rooms"]) (ps:=["self", "rooms"]) D tSave.k.cl ZiI (fun vs H Q E h=>?_) (fun _ _ _ _ _ _ us hl=>bd2 (R:=fun us=>bindArgs _ ⟨us,[]⟩=pure (List.zip _ us)) (fun _ _=>rfl) us hl) (fun f cdv A outer s H vs Q E hr h=>?_)
  . obtain ⟨a,dx,R,d,A,S,m,rfl,_⟩:=h; rfl
  . obtain ⟨a,dx,R,d,Ar,S,m,rfl,⟨s0,p,o,n,rfl⟩,ha,r,⟨i,x,rfl,hi,hx⟩,hm,k⟩:=h
    refine ⟨_,(Zaf (Zay (ZaL m_Account_keep (hr.mono (by decide)) (ZaK Zaz (pv 1) (Zal (pv 0) rfl) (fun _ _=>rfl)) (Zaa (Zal (pv 0) rfl) (Zaa (Zal (pv 0) rfl) Zae))))),?_⟩
    walk_at "nx"
    have ax:=r.ac i x hi hx
    repeat walk_at "rdk"
    refine Zai ha tSave.k.cl tSave.n_slot rfl ?_
    refine Za7 (ZaF r.ob) (r.at hi hx) ?_
    refine Zap ax.ob rfl ?_
    repeat walk_at "rdk"
    refine Zai ha tSave.k.cl tSave.n_place rfl ?_
    repeat walk_at "rdk"
    refine Zai ha tSave.k.cl tSave.n_new rfl ?_
    repeat walk_at "rdk"
    refine ⟨x.a,x.dx,x.pr,x.st,_,_,_,_,_,m,p,n,rfl,ax,hm,fun H' k1 e1=>?_⟩
    repeat walk_at "rdk"
    refine k H' (fun b hb=>k1 b (hb i x hi hx).2) ?_
    have:=r.keep hi hx k1 e1
    exact this
theorem ZiK:FnScope ["self", "rooms"] ["self", "rooms"] (Zac ZbV):=⟨rfl,rfl,rfl,by decide +kernel,rfl,by decide +kernel,by decide +kernel⟩
theorem ZiL   {cMove:Addr} (D:Zao K cMove "do" "Move.do" ZbV) (tMove:T_Move K mg cMove) (c_shift_coin:Cal P w K mg base 1 "shift_coin" (Zhj K cAccount)):MCal P w K mg base 2 cMove "do" (spDo K cAccount cMove isMove):=by
  refine Za9 (N:=["self", "rooms"]) (ps:=["self", "rooms"]) D tMove.k.cl ZiK (fun vs H Q E h=>?_) (fun _ _ _ _ _ _ us hl=>bd2 (R:=fun us=>bindArgs _ ⟨us,[]⟩=pure (List.zip _ us)) (fun _ _=>rfl) us hl) (fun f cdv A outer s H vs Q E hr h=>?_)
  . obtain ⟨a,dx,R,d,A,S,m,rfl,_⟩:=h; rfl
  . obtain ⟨a,dx,R,d,Ar,S,m,rfl,⟨s0,t0,kk,rfl⟩,ha,r,⟨⟨i,x,rfl,hi,hx⟩,j,y,rfl,hj,hy⟩,hm,k⟩:=h
    refine ⟨_,(Zaf (Zay (ZaG c_shift_coin (hr.mono (by decide)) rfl (Zaa (ZaK Zaz (pv 1) (Zal (pv 0) rfl) (fun _ _=>rfl)) (Zaa (ZaK Zaz (pv 1) (Zal (pv 0) rfl) (fun _ _=>rfl)) (Zaa (Zal (pv 0) rfl) Zae)))))),?_⟩
    walk_at "nx"
    repeat walk_at "rdk"
    refine Zai ha tMove.k.cl tMove.n_slot rfl ?_
    refine Za7 (ZaF r.ob) (r.at hi hx) ?_
    repeat walk_at "rdk"
    refine Zai ha tMove.k.cl tMove.n_taker rfl ?_
    refine Za7 (ZaF r.ob) (r.at hj hy) ?_
    repeat walk_at "rdk"
    refine Zai ha tMove.k.cl tMove.n_many rfl ?_
    repeat walk_at "rdk"
    refine ⟨R,Ar,S,m,i,j,x,y,kk,rfl,r,hi,hj,hx,hy,fun H' k1 r1=>?_⟩
    repeat walk_at "rdk"
    refine k H' (fun b hb=>k1 b (hb i x hi hx).1 (hb j y hj hy).1) ?_
    exact r1.le (Nat.le_succ m)
theorem ZiM:FnScope ["self", "rooms"] ["self", "rooms"] (Zac ZbW):=⟨rfl,rfl,rfl,by decide +kernel,rfl,by decide +kernel,by decide +kernel⟩
theorem ZiN   {cNote:Addr} (D:Zao K cNote "do" "Deed.do" ZbW) (tNote:T_Note K mg cNote):MCal P w K mg base 2 cNote "do" (spDo K cAccount cNote isNote):=by
  refine Za9 (N:=["self", "rooms"]) (ps:=["self", "rooms"]) D tNote.k.cl ZiM (fun vs H Q E h=>?_) (fun _ _ _ _ _ _ us hl=>bd2 (R:=fun us=>bindArgs _ ⟨us,[]⟩=pure (List.zip _ us)) (fun _ _=>rfl) us hl) (fun f cdv A outer s H vs Q E hr h=>?_)
  . obtain ⟨a,dx,R,d,A,S,m,rfl,_⟩:=h; rfl
  . obtain ⟨a,dx,R,d,Ar,S,m,rfl,⟨s0,n,rfl⟩,ha,r,_,hm,k⟩:=h
    refine ⟨_,(Zaf ZiT),?_⟩
    walk_at "nx"
    exact k H (fun b _=>rfl) (r.le (Nat.le_succ m))
theorem Zgr:FnScope ["self", "rooms"] ["self", "rooms"] (Zac Zbv):=⟨rfl,rfl,rfl,by decide +kernel,rfl,by decide +kernel,by decide +kernel⟩
theorem Zgs   {cSave:Addr} {cAccount:Addr} (D:Zao K cSave "undo" "Save.undo" Zbv) (tSave:T_Save K mg cSave) (tAccount:T_Account K mg cAccount) (m_Account_keep:MCal P w K mg base 1 cAccount "keep" (spKeep K cAccount)):MCal P w K mg base 2 cSave "undo" (spUndo K cAccount cSave isSave):=by
  refine Za9 (N:=["self", "rooms"]) (ps:=["self", "rooms"]) D tSave.k.cl Zgr (fun vs H Q E h=>?_) (fun _ _ _ _ _ _ us hl=>bd2 (R:=fun us=>bindArgs _ ⟨us,[]⟩=pure (List.zip _ us)) (fun _ _=>rfl) us hl) (fun f cdv A outer s H vs Q E hr h=>?_)
  . obtain ⟨a,dx,R,d,A,S,m,rfl,_⟩:=h; rfl
  . obtain ⟨a,dx,R,d,Ar,S,m,rfl,⟨s0,p,o,n,rfl⟩,ha,r,⟨i,x,rfl,hi,hx⟩,hm,k⟩:=h
    refine ⟨_,(Zaf (Zay (ZaL m_Account_keep (hr.mono (by decide)) (ZaK Zaz (pv 1) (Zal (pv 0) rfl) (fun _ _=>rfl)) (Zaa (Zal (pv 0) rfl) (Zaa (Zal (pv 0) rfl) Zae))))),?_⟩
    walk_at "nx"
    have ax:=r.ac i x hi hx
    repeat walk_at "rdk"
    refine Zai ha tSave.k.cl tSave.n_slot rfl ?_
    refine Za7 (ZaF r.ob) (r.at hi hx) ?_
    refine Zap ax.ob rfl ?_
    repeat walk_at "rdk"
    refine Zai ha tSave.k.cl tSave.n_place rfl ?_
    repeat walk_at "rdk"
    refine Zai ha tSave.k.cl tSave.n_old rfl ?_
    repeat walk_at "rdk"
    refine ⟨x.a,x.dx,x.pr,x.st,_,_,_,_,_,m,p,o,rfl,ax,hm,fun H' k1 e1=>?_⟩
    repeat walk_at "rdk"
    refine k H' (fun b hb=>k1 b (hb i x hi hx).2) ?_
    have:=r.keep hi hx k1 e1
    exact this
theorem Zgt:FnScope ["self", "rooms"] ["self", "rooms"] (Zac Zbx):=⟨rfl,rfl,rfl,by decide +kernel,rfl,by decide +kernel,by decide +kernel⟩
theorem Zgu   {cMove:Addr} (D:Zao K cMove "undo" "Move.undo" Zbx) (tMove:T_Move K mg cMove) (c_shift_coin:Cal P w K mg base 1 "shift_coin" (Zhj K cAccount)):MCal P w K mg base 2 cMove "undo" (spUndo K cAccount cMove isMove):=by
  refine Za9 (N:=["self", "rooms"]) (ps:=["self", "rooms"]) D tMove.k.cl Zgt (fun vs H Q E h=>?_) (fun _ _ _ _ _ _ us hl=>bd2 (R:=fun us=>bindArgs _ ⟨us,[]⟩=pure (List.zip _ us)) (fun _ _=>rfl) us hl) (fun f cdv A outer s H vs Q E hr h=>?_)
  . obtain ⟨a,dx,R,d,A,S,m,rfl,_⟩:=h; rfl
  . obtain ⟨a,dx,R,d,Ar,S,m,rfl,⟨s0,t0,kk,rfl⟩,ha,r,⟨⟨i,x,rfl,hi,hx⟩,j,y,rfl,hj,hy⟩,hm,k⟩:=h
    refine ⟨_,(Zaf (Zay (ZaG c_shift_coin (hr.mono (by decide)) rfl (Zaa (ZaK Zaz (pv 1) (Zal (pv 0) rfl) (fun _ _=>rfl)) (Zaa (ZaK Zaz (pv 1) (Zal (pv 0) rfl) (fun _ _=>rfl)) (Zaa (Zal (pv 0) rfl) Zae)))))),?_⟩
    walk_at "nx"
    repeat walk_at "rdk"
    refine Zai ha tMove.k.cl tMove.n_taker rfl ?_
    refine Za7 (ZaF r.ob) (r.at hj hy) ?_
    repeat walk_at "rdk"
    refine Zai ha tMove.k.cl tMove.n_slot rfl ?_
    refine Za7 (ZaF r.ob) (r.at hi hx) ?_
    repeat walk_at "rdk"
    refine Zai ha tMove.k.cl tMove.n_many rfl ?_
    repeat walk_at "rdk"
    refine ⟨R,Ar,S,m,j,i,y,x,kk,rfl,r,hj,hi,hy,hx,fun H' k1 r1=>?_⟩
    repeat walk_at "rdk"
    refine k H' (fun b hb=>k1 b (hb j y hj hy).1 (hb i x hi hx).1) ?_
    exact r1.le (Nat.le_succ m)
theorem Zgv:FnScope ["self", "rooms"] ["self", "rooms"] (Zac ZbB):=⟨rfl,rfl,rfl,by decide +kernel,rfl,by decide +kernel,by decide +kernel⟩
theorem Zgw   {cNote:Addr} (D:Zao K cNote "undo" "Deed.undo" ZbB) (tNote:T_Note K mg cNote):MCal P w K mg base 2 cNote "undo" (spUndo K cAccount cNote isNote):=by
  refine Za9 (N:=["self", "rooms"]) (ps:=["self", "rooms"]) D tNote.k.cl Zgv (fun vs H Q E h=>?_) (fun _ _ _ _ _ _ us hl=>bd2 (R:=fun us=>bindArgs _ ⟨us,[]⟩=pure (List.zip _ us)) (fun _ _=>rfl) us hl) (fun f cdv A outer s H vs Q E hr h=>?_)
  . obtain ⟨a,dx,R,d,A,S,m,rfl,_⟩:=h; rfl
  . obtain ⟨a,dx,R,d,Ar,S,m,rfl,⟨s0,n,rfl⟩,ha,r,_,hm,k⟩:=h
    refine ⟨_,(Zaf ZiT),?_⟩
    walk_at "nx"
    exact k H (fun b _=>rfl) (r.le (Nat.le_succ m))
end
noncomputable def clsD (cS cM cN:Addr):Dd->Addr
  | .save ..=>cS
  | .move ..=>cM
  | .note ..=>cN
noncomputable def T3 (a b c:Addr) (s1 s2 s3:Sp) (C:Addr) (sp:Sp):Prop:=(C=a/\sp=s1)\/(C=b/\sp=s2)\/(C=c/\sp=s3)
theorem Zk0 {P:Program} {w:World} {K:PySem.W.Frag} {mg:Str->Option Value} {base:Heap} {n:Nat} {m:Str} {a b c:Addr} {s1 s2 s3:Sp} (m1:MCal P w K mg base n a m s1) (m2:MCal P w K mg base n b m s2) (m3:MCal P w K mg base n c m s3) (C:Addr) (sp:Sp) (h:T3 a b c s1 s2 s3 C sp):MCal P w K mg base n C m sp:=by
  rcases h with ⟨rfl,rfl⟩|⟨rfl,rfl⟩|⟨rfl,rfl⟩
  . exact m1
  . exact m2
  . exact m3
theorem Zd4 {T:Addr->Sp->Prop} {m:Str} {ta:TE} {t:TA} {σ:St} {H:Hp} {Q:VK} (q:ta σ H fun x H1=>∃ a C dx fs sp,x=.ref a/\H1 a=some (.ins C dx fs)/\fs.lookup m=none/\T C sp/\t σ H1 fun vs H2=>sp (x :: vs) H2 Q E0):tMethD T m ta t σ H Q:=q
noncomputable def TDo (K:PySem.W.Frag) (cA cS cM cN:Addr):Addr->Sp->Prop:=T3 cS cM cN (spDo K cA cS isSave) (spDo K cA cM isMove) (spDo K cA cN isNote)
noncomputable def TUn (K:PySem.W.Frag) (cA cS cM cN:Addr):Addr->Sp->Prop:=T3 cS cM cN (spUndo K cA cS isSave) (spUndo K cA cM isMove) (spUndo K cA cN isNote)
noncomputable def okOf:Dd->Dd->Prop
  | .save ..=>isSave
  | .move ..=>isMove
  | .note ..=>isNote
theorem Zdi (d:Dd):okOf d d:=by
  cases d with
  | save=>exact ⟨_,_,_,_,rfl⟩
  | move=>exact ⟨_,_,_,rfl⟩
  | note=>exact ⟨_,_,rfl⟩
theorem tdo_of (K:PySem.W.Frag) (cA cS cM cN:Addr) (d:Dd):TDo K cA cS cM cN (clsD cS cM cN d) (spDo K cA (clsD cS cM cN d) (okOf d)):=by
  cases d with
  | save=>exact .inl ⟨rfl,rfl⟩
  | move=>exact .inr (.inl ⟨rfl,rfl⟩)
  | note=>exact .inr (.inr ⟨rfl,rfl⟩)
theorem tun_of (K:PySem.W.Frag) (cA cS cM cN:Addr) (d:Dd):TUn K cA cS cM cN (clsD cS cM cN d) (spUndo K cA (clsD cS cM cN d) (okOf d)):=by
  cases d with
  | save=>exact .inl ⟨rfl,rfl⟩
  | move=>exact .inr (.inl ⟨rfl,rfl⟩)
  | note=>exact .inr (.inr ⟨rfl,rfl⟩)
theorem fld_do (d:Dd):(fldD d).lookup (Str.ofString "do")=none:=by cases d <;> rfl
theorem Zk1 (d:Dd):(fldD d).lookup (Str.ofString "undo")=none:=by cases d <;> rfl
noncomputable def runS (S:Nat->AcS) (ds:List Dd):Nat->AcS:=ds.foldl doneS S
theorem Zgx (S:Nat->AcS) (ds:List Dd) (d:Dd):runS S (ds ++ [d])=doneS (runS S ds) d:=by unfold runS; rw [List.foldl_append]; rfl
noncomputable def ZbK:(Nat->AcS)->List Dd->Prop
  | _,[]=>True
  | S,d :: ds=>rightD S d/\ZbK (doneS S d) ds
theorem Zch:∀ (S:Nat->AcS) (ds:List Dd) (d:Dd),ZbK S (ds ++ [d]) ↔ ZbK S ds/\rightD (runS S ds) d
  | S,[],d=>by simp [ZbK,runS]
  | S,e :: ds,d=>by
    show rightD S e/\ZbK (doneS S e) (ds ++ [d]) ↔ (rightD S e/\ZbK (doneS S e) ds)/\rightD (runS S (e :: ds)) d
    rw [Zch (doneS S e) ds d,and_assoc]
    rfl
structure DI where
  o:Addr
  dx:Addr
  d:Dd
noncomputable def jF (R L:Addr):List (Str × V):=[("rooms", .ref R),("deeds", .ref L)]
structure Jr (cJ cS cM cN:Addr) (H:Hp) (j dx R L:Addr) (A:Nat->Option AcI) (es:List DI):Prop where
  ob:H j=some (.ins cJ dx (jF R L))
  li:H L=some (.lst (es.map fun e=>V.ref e.o))
  de:∀ e ∈ es,H e.o=some (.ins (clsD cS cM cN e.d) e.dx (fldD e.d))/\fitsD A e.d
  nR:L ≠ R
  np:∀ i x,i < 16->A i=some x->L ≠ x.pr
theorem Zic {H:Hp} {a b C C' dx dx':Addr} {fs gs:List (Str × V)} (h:H a=some (.ins C dx fs)) (h':H b=some (.ins C' dx' gs)) (n:fs.length ≠ gs.length):a ≠ b:=fun z=>by
  rw [z,h'] at h
  cases h
  exact n rfl
theorem Zfu (d:Dd):(fldD d).length < 5:=by
  cases d with
  | save=>show 4 < 5; decide
  | move=>show 3 < 5; decide
  | note=>show 2 < 5; decide
section
variable {K:PySem.W.Frag} {C cJ cS cM cN:Addr} {H H':Hp} {j dx R L:Addr} {A:Nat->Option AcI} {S:Nat->AcS} {m:Nat} {es:List DI}
theorem Rooms.same {K:PySem.W.Frag} {C:Addr} {H H':Hp} {R:Addr} {A:Nat->Option AcI} {S:Nat->AcS} {m:Nat} (r:Rooms K C H R A S m) (s:Same H H'):Rooms K C H' R A S m :=
  ⟨s _ _ r.ob,fun i x hi hx=>let h:=r.ac i x hi hx; ⟨s _ _ h.ob,let ⟨xs,e1,e2⟩:=h.pg; ⟨xs,s _ _ e1,e2.keep s.imm⟩,let ⟨k,a,b⟩:=h.sto; ⟨k,s _ _ a,b⟩⟩,r.da,r.ds⟩
theorem Rooms.outI (r:Rooms K C H R A S m) {a C' dx':Addr} {fs:List (Str × V)} (h:H a=some (.ins C' dx' fs)) (n:fs.length < 5):Out A a:=fun i x hi hx =>
  ⟨Zic h (r.ac i x hi hx).ob (by show fs.length ≠ 5; omega),let ⟨_,g,_⟩:=(r.ac i x hi hx).sto; Zbl h g (by intro z; cases z)⟩
theorem Rooms.outL (r:Rooms K C H R A S m) {a:Addr} {xs:List V} (h:H a=some (.lst xs)):Out A a:=fun i x hi hx =>
  ⟨Zbl h (r.ac i x hi hx).ob (by intro z; cases z),let ⟨_,g,_⟩:=(r.ac i x hi hx).sto; Zbl h g (by intro z; cases z)⟩
theorem Rooms.outN (r:Rooms K C H R A S m) {a:Addr} (h:H a=none):Out A a:=fun i x hi hx =>
  ⟨Ne.symm (Zam (r.ac i x hi hx).ob h),let ⟨_,g,_⟩:=(r.ac i x hi hx).sto; Ne.symm (Zam g h)⟩
theorem Jr.same (J:Jr cJ cS cM cN H j dx R L A es) (s:Same H H'):Jr cJ cS cM cN H' j dx R L A es:=⟨s _ _ J.ob,s _ _ J.li,fun e he=>⟨s _ _ (J.de e he).1,(J.de e he).2⟩,J.nR,J.np⟩
theorem Jr.out (J:Jr cJ cS cM cN H j dx R L A es) (r:Rooms K C H R A S m) (k:∀ b,Out A b->H' b=H b):Jr cJ cS cM cN H' j dx R L A es :=
  ⟨by rw [k _ (r.outI J.ob (by show 2 < 5; decide))]; exact J.ob,by rw [k _ (r.outL J.li)]; exact J.li,fun e he=>⟨by rw [k _ (r.outI (J.de e he).1 (Zfu _))]; exact (J.de e he).1,(J.de e he).2⟩,J.nR,J.np⟩
theorem Rooms.lst (r:Rooms K C H R A S m) {L:Addr} {xs ys:List V} (hL:H L=some (.lst xs)) (nR:L ≠ R) (np:∀ i x,i < 16->A i=some x->L ≠ x.pr):Rooms K C (upd H L (.lst ys)) R A S m:=by
  have im:SameI H (upd H L (.lst ys)):=SameI.upd hL ZbJ
  refine ⟨by rw [Zak (Ne.symm nR)]; exact r.ob,fun i x hi hx=>?_,r.da,r.ds⟩
  have h:=r.ac i x hi hx
  obtain ⟨zs,e1,e2⟩:=h.pg
  obtain ⟨kvs,e3,e4⟩:=h.sto
  exact ⟨by rw [Zak (Zbl h.ob hL (by intro z; cases z))]; exact h.ob,⟨zs,by rw [Zak (Ne.symm (np i x hi hx))]; exact e1,e2.keep im⟩,kvs,by rw [Zak (Zbl e3 hL (by intro z; cases z))]; exact e3,e4⟩
theorem Jr.push (J:Jr cJ cS cM cN H j dx R L A es) {e:DI} (he:H e.o=some (.ins (clsD cS cM cN e.d) e.dx (fldD e.d))) (hf:fitsD A e.d):Jr cJ cS cM cN (upd H L (.lst ((es.map fun e=>V.ref e.o) ++ [.ref e.o]))) j dx R L A (es ++ [e]):=by
  refine ⟨by rw [Zak (Zbl J.ob J.li (by intro z; cases z))]; exact J.ob,by rw [Zah,List.map_append]; rfl,fun u hu=>?_,J.nR,J.np⟩
  rcases List.mem_append.mp hu with hu|hu
  . have h:=J.de u hu
    exact ⟨by rw [Zak (Zbl h.1 J.li (by intro z; cases z))]; exact h.1,h.2⟩
  . rw [List.mem_singleton] at hu
    subst hu
    exact ⟨by rw [Zak (Zbl he J.li (by intro z; cases z))]; exact he,hf⟩
theorem Jr.pop {e:DI} (J:Jr cJ cS cM cN H j dx R L A (es ++ [e])):Jr cJ cS cM cN (upd H L (.lst (es.map fun e=>V.ref e.o))) j dx R L A es :=
  ⟨by rw [Zak (Zbl J.ob J.li (by intro z; cases z))]; exact J.ob,Zah,fun u hu=>let h:=J.de u (List.mem_append.mpr (.inl hu)); ⟨by rw [Zak (Zbl h.1 J.li (by intro z; cases z))]; exact h.1,h.2⟩,J.nR,J.np⟩
end
theorem jb2 {m n:Nat} (h:m < n):n=(n - 1) + 1:=by omega
theorem jb3 {m e p:Nat} (h:m + e <= 1000000):m + (e - p) <= 1000000:=by omega
theorem jb5 {m e p:Nat} (h:p < e):m + (e - (p + 1)) + 1=m + (e - p):=by omega
noncomputable def ZjL (cJ:Addr):Sp:=fun vs H Q _=>∃ (j dx R:Addr),vs=[.ref j,.ref R]/\H j=some (.ins cJ dx [])/\∀ L,H L=none->Q .non (upd (upd H L (.lst [])) j (.ins cJ dx (jF R L)))
noncomputable def spMark (cJ:Addr):Sp:=fun vs H Q _=>∃ (j dx R L:Addr) (xs:List V),vs=[.ref j]/\H j=some (.ins cJ dx (jF R L))/\H L=some (.lst xs)/\Q (.int (xs.length:Nat)) H
noncomputable def ZjM (K:PySem.W.Frag) (C cJ cS cM cN:Addr):Sp:=fun vs H Q _=>∃ (j dx R L:Addr) (A:Nat->Option AcI) (S:Nat->AcS) (m:Nat) (es:List DI) (e:DI),vs=[.ref j,.ref e.o]/\Jr cJ cS cM cN H j dx R L A es/\Rooms K C H R A S m/\H e.o=some (.ins (clsD cS cM cN e.d) e.dx (fldD e.d))/\fitsD A e.d/\m <= 1000000/\es.length < 1000000 /\
  ∀ H',(∀ b,Out A b->b ≠ L->H' b=H b)->Rooms K C H' R A (doneS S e.d) (m + 1)->Jr cJ cS cM cN H' j dx R L A (es ++ [e])->Q .non H'
noncomputable def spBack (K:PySem.W.Frag) (C cJ cS cM cN:Addr):Sp:=fun vs H Q _=>∃ (j dx R L:Addr) (A:Nat->Option AcI) (S0:Nat->AcS) (m:Nat) (es:List DI) (mk:Int),vs=[.ref j,.int mk]/\Jr cJ cS cM cN H j dx R L A es/\Rooms K C H R A (runS S0 (es.map (·.d))) m/\ZbK S0 (es.map (·.d))/\m + es.length <= 1000000 /\
  ∀ H',(∀ b,Out A b->b ≠ L->H' b=H b)->Rooms K C H' R A (runS S0 ((es.take mk.toNat).map (·.d))) (m + es.length)->ZbK S0 ((es.take mk.toNat).map (·.d))->Jr cJ cS cM cN H' j dx R L A (es.take mk.toNat)->Q .non H'
section
variable {P:Program} {w:World} {K:PySem.W.Frag} {mg:Str->Option Value} {base:Heap}
theorem Zc2:FnScope ["self", "rooms"] ["self", "rooms"] (Zac ZaS):=⟨rfl,rfl,rfl,by decide +kernel,rfl,by decide +kernel,by decide +kernel⟩
theorem Zc3   {cJournal:Addr} (D:Zao K cJournal "__init__" "Journal.__init__" ZaS) (tJournal:T_Journal K mg cJournal):ICal P w K mg base 1 "Journal" cJournal (ZjL cJournal):=by
  refine Zeg (N:=["self", "rooms"]) (ps:=["self", "rooms"]) D tJournal.k Zc2 (fun vs H Q E h=>?_) (fun _ _ _ _ _ _ us hl=>bd2 (R:=fun us=>bindArgs _ ⟨us,[]⟩=pure (List.zip _ us)) (fun _ _=>rfl) us hl) (fun f cdv A outer s H vs Q E hr h=>?_)
  . obtain ⟨j,dx,R,rfl,_⟩:=h; rfl
  . obtain ⟨j,dx,R,rfl,ha,k⟩:=h
    refine ⟨_,(Zad (ZaU (pv 0) (pv 1) rfl)
      (Zaf (ZaU (pv 0) (Zbt Zae) rfl))),?_⟩
    walk_at "nx"
    repeat walk_at "rdk"
    refine Zau ha tJournal.k.cl tJournal.n_rooms (by decide) ?_
    repeat walk_at "rdk"
    refine ⟨by decide,fun l hl=>?_⟩
    have nl:l ≠ j:=fun z=>by rw [z,Zah] at hl; cases hl
    have hlH:H l=none:=by rw [Zak nl] at hl; exact hl
    repeat walk_at "rdk"
    refine Zau (by rw [Zak (Ne.symm nl)]; exact Zah) tJournal.k.cl tJournal.n_deeds (by show 1 < 1000; decide) ?_
    have e:upd (upd (upd H j (.ins cJournal dx (putF "rooms" (.ref R) []))) l (.lst [])) j (.ins cJournal dx (putF "deeds" (.ref l) (putF "rooms" (.ref R) [])))=upd (upd H l (.lst [])) j (.ins cJournal dx (jF R l)):=by
      funext b
      unfold upd
      by_cases z:b=j
      . rw [if_pos z,if_pos z]; rfl
      . rw [if_neg z,if_neg z,if_neg z]
    rw [e]
    exact k l hlH
theorem Zeo:FnScope ["self"] ["self"] (Zac Zbc):=⟨rfl,rfl,rfl,by decide +kernel,rfl,by decide +kernel,by decide +kernel⟩
theorem Zep   {cJournal:Addr} (D:Zao K cJournal "mark" "Journal.mark" Zbc) (tJournal:T_Journal K mg cJournal) (n_len:mg "len" = none):MCal P w K mg base 1 cJournal "mark" (spMark cJournal):=by
  refine Za9 (N:=["self"]) (ps:=["self"]) D tJournal.k.cl Zeo (fun vs H Q E h=>?_) (fun _ _ _ _ _ _ us hl=>bd1 (R:=fun us=>bindArgs _ ⟨us,[]⟩=pure (List.zip _ us)) (fun _=>rfl) us hl) (fun f cdv A outer s H vs Q E hr h=>?_)
  . obtain ⟨j,dx,R,L,xs,rfl,_⟩:=h; rfl
  . obtain ⟨j,dx,R,L,xs,rfl,ha,hl,k⟩:=h
    refine ⟨_,(Zaf (Zar (ZaI ZbP rfl n_len PySem.boot_len (Zaa (Zal (pv 0) rfl) Zae)))),?_⟩
    walk_at "nx"
    repeat walk_at "rdk"
    refine Zai ha tJournal.k.cl tJournal.n_deeds rfl ?_
    repeat walk_at "rdk"
    exact k
theorem ZdX:FnScope ["self", "deed"] ["self", "deed"] (Zac Za6):=⟨rfl,rfl,rfl,by decide +kernel,rfl,by decide +kernel,by decide +kernel⟩
theorem ZdY   {cJournal:Addr} {cSave:Addr} {cMove:Addr} {cNote:Addr} {cAccount:Addr} (D:Zao K cJournal "write" "Journal.write" Za6) (tJournal:T_Journal K mg cJournal) (tSave:T_Save K mg cSave) (tMove:T_Move K mg cMove) (tNote:T_Note K mg cNote) (tAccount:T_Account K mg cAccount) (m_Save_do:MCal P w K mg base 2 cSave "do" (spDo K cAccount cSave isSave)) (m_Move_do:MCal P w K mg base 2 cMove "do" (spDo K cAccount cMove isMove)) (m_Note_do:MCal P w K mg base 2 cNote "do" (spDo K cAccount cNote isNote)):MCal P w K mg base 3 cJournal "write" (ZjM K cAccount cJournal cSave cMove cNote):=by
  refine Za9 (N:=["self", "deed"]) (ps:=["self", "deed"]) D tJournal.k.cl ZdX (fun vs H Q E h=>?_) (fun _ _ _ _ _ _ us hl=>bd2 (R:=fun us=>bindArgs _ ⟨us,[]⟩=pure (List.zip _ us)) (fun _ _=>rfl) us hl) (fun f cdv A outer s H vs Q E hr h=>?_)
  . obtain ⟨j,dx,R,L,A,S,m,es,e,rfl,_⟩:=h; rfl
  . obtain ⟨j,dx,R,L,Ar,S,m,es,e,rfl,J,r,he,fit,hm,hel,k⟩:=h
    refine ⟨_,(Zad (Zay (Zh6 (T:=TDo K cAccount cSave cMove cNote) (Zk0 m_Save_do m_Move_do m_Note_do) (hr.mono (by decide)) (pv 1) (Zaa (Zal (pv 0) rfl) Zae)))
      (Zaf (Zay (Zf1 PySem.F.plainAttrs_list PySem.F.slot_list_append PySem.F.type_list_append ZbC (Zal (pv 0) rfl) (Zaa (pv 1) Zae))))),?_⟩
    walk_at "nx"
    repeat walk_at "rdk"
    refine Zd4 ?_
    repeat walk_at "rdk"
    refine ⟨e.o,clsD cSave cMove cNote e.d,e.dx,fldD e.d,_,rfl,he,fld_do e.d,tdo_of K cAccount cSave cMove cNote e.d,?_⟩
    repeat walk_at "rdk"
    refine Zai J.ob tJournal.k.cl tJournal.n_rooms rfl ?_
    repeat walk_at "rdk"
    refine ⟨e.o,e.dx,R,e.d,Ar,S,m,rfl,Zdi e.d,he,r,fit,hm,fun H1 k1 r1=>?_⟩
    have J1:=J.out r k1
    have he1:H1 e.o=some (.ins (clsD cSave cMove cNote e.d) e.dx (fldD e.d)):=by rw [k1 _ (r.outI he (Zfu _))]; exact he
    repeat walk_at "rdk"
    refine Zai J1.ob tJournal.k.cl tJournal.n_deeds rfl ?_
    refine ⟨Zb3 (ZaF J1.li),?_⟩
    repeat walk_at "rdk"
    refine ZbL J1.li (by rw [List.length_map]; exact Nat.lt_of_lt_of_le hel (by decide)) ?_
    repeat walk_at "rdk"
    exact k _ (fun b h1 h2=>by rw [Zak h2]; exact k1 b h1) (r1.lst J1.li J1.nR J1.np) (J1.push he1 fit)
theorem ZcC:FnScope ["self", "mark", "deed"] ["self", "mark"] (Zac Zbd):=⟨rfl,rfl,rfl,by decide +kernel,rfl,by decide +kernel,by decide +kernel⟩
theorem Zeq   {cJournal:Addr} {cSave:Addr} {cMove:Addr} {cNote:Addr} {cAccount:Addr} (D:Zao K cJournal "back" "Journal.back" Zbd) (tJournal:T_Journal K mg cJournal) (tSave:T_Save K mg cSave) (tMove:T_Move K mg cMove) (tNote:T_Note K mg cNote) (tAccount:T_Account K mg cAccount) (m_Save_undo:MCal P w K mg base 2 cSave "undo" (spUndo K cAccount cSave isSave)) (m_Move_undo:MCal P w K mg base 2 cMove "undo" (spUndo K cAccount cMove isMove)) (m_Note_undo:MCal P w K mg base 2 cNote "undo" (spUndo K cAccount cNote isNote)) (n_len:mg "len" = none) (n_max:mg "max" = none):MCal P w K mg base 3 cJournal "back" (spBack K cAccount cJournal cSave cMove cNote):=by
  refine Za9 (N:=["self", "mark", "deed"]) (ps:=["self", "mark"]) D tJournal.k.cl ZcC (fun vs H Q E h=>?_) (fun _ _ _ _ _ _ us hl=>bd2 (R:=fun us=>bindArgs _ ⟨us,[]⟩=pure (List.zip _ us)) (fun _ _=>rfl) us hl) (fun f cdv A outer s H vs Q E hr h=>?_)
  . obtain ⟨j,dx,R,L,A,S0,m,es,mk,rfl,_⟩:=h; rfl
  . obtain ⟨j,dx,R,L,Ar,S0,m,es,mk,rfl,J,r,ri,hm,k⟩:=h
    refine ⟨_,(Zaf (Ze4 PassesOwn.never (ZaD Ze5 (ZaI ZbP rfl n_len PySem.boot_len (Zaa (Zal (pv 0) rfl) Zae)) (ZaI (Zjk rfl) rfl n_max PyProof.Rows.boot_max (Zaa (pv 1) (Zaa Zag Zae))) (nomark _))
      (Zad (Zat (i:=2) ZcC.nd rfl (by first|exact Or.inl rfl|exact Or.inr rfl) (Zlj PySem.F.plainAttrs_list PySem.F.slot_list_pop PySem.F.type_list_pop Zlk (Zal (pv 0) rfl)))
      (Zaf (Zay (Zh6 (T:=TUn K cAccount cSave cMove cNote) (Zk0 m_Save_undo m_Move_undo m_Note_undo) (hr.mono (by decide)) (pv 2) (Zaa (Zal (pv 0) rfl) Zae))))))),?_⟩
    walk_at "nx"
    refine ⟨fun n σ' H'=>∃ q v,n=q/\min mk.toNat es.length <= q/\q <= es.length/\(∀ b,Out Ar b->b ≠ L->H' b=H b)/\Rooms K cAccount H' R Ar (runS S0 ((es.take q).map (·.d))) (m + (es.length - q))/\ZbK S0 ((es.take q).map (·.d))/\Jr cJournal cSave cMove cNote H' j dx R L Ar (es.take q)/\σ'=[some (.ref j),some (.int mk),v],⟨es.length,es.length,none,rfl,Nat.min_le_right _ _,Nat.le_refl _,fun _ _ _=>rfl,by rw [List.take_length,Nat.sub_self]; exact r,by rw [List.take_length]; exact ri,by rw [List.take_length]; exact J,rfl⟩,?_⟩
    rintro n σ' H' ⟨q,v,rfl,hq0,hq1,fr,r',ri',J',rfl⟩
    have hL:=J'.li
    repeat walk_at "rdk"
    refine Zai J'.ob tJournal.k.cl tJournal.n_deeds rfl ?_
    repeat walk_at "rdk"
    . rename_i hgt
      rw [List.length_map,List.length_take,Nat.min_eq_left hq1] at hgt
      have hgt2:mk.toNat < n:=by split at hgt <;> omega
      obtain ⟨p,rfl⟩:∃ p,n=p + 1:=⟨n - 1,jb2 hgt2⟩
      have hp:p < es.length:=hq1
      have htk:es.take (p + 1)=es.take p ++ [es[p]]:=List.take_succ_eq_append_getElem hp
      refine ⟨fun σ' H'=>∃ m',m' < p + 1/\_,fun _ _ h=>h,?_⟩
      rw [htk] at J' ri' r' hL
      rw [List.map_append] at ri' r'
      obtain ⟨de,fit⟩:=J'.de es[p] (List.mem_append.mpr (.inr (List.mem_singleton.mpr rfl)))
      generalize es[p]=e at *
      have J2:=J'.pop
      have r2:=r'.lst (ys:=(es.take p).map fun e=>V.ref e.o) hL J'.nR J'.np
      rw [List.map_append] at hL
      repeat walk_at "rdk"
      refine Zai J'.ob tJournal.k.cl tJournal.n_deeds rfl ?_
      refine ⟨Zb3 (ZaF hL),?_⟩
      refine Zlq hL ?_
      have fr2:∀ b,Out Ar b->b ≠ L->(upd H' L (.lst ((es.take p).map fun e=>V.ref e.o))) b=H b:=fun b h1 h2=>by rw [Zak h2]; exact fr b h1 h2
      have de2:(upd H' L (.lst ((es.take p).map fun e=>V.ref e.o))) e.o=some (.ins (clsD cSave cMove cNote e.d) e.dx (fldD e.d)):=by rw [Zak (Zbl de hL (by intro z; cases z))]; exact de
      generalize upd H' L _=H2 at J2 r2 fr2 de2
      repeat walk_at "rdk"
      refine Zd4 ?_
      repeat walk_at "rdk"
      refine ⟨e.o,clsD cSave cMove cNote e.d,e.dx,fldD e.d,_,rfl,de2,Zk1 e.d,tun_of K cAccount cSave cMove cNote e.d,?_⟩
      repeat walk_at "rdk"
      refine Zai J2.ob tJournal.k.cl tJournal.n_rooms rfl ?_
      repeat walk_at "rdk"
      refine ⟨e.o,e.dx,R,e.d,Ar,_,_,rfl,Zdi e.d,de2,r2,fit,jb3 hm,fun H3 k3 r3=>?_⟩
      have J3:=J2.out r2 k3
      obtain ⟨ri2,rd2⟩:=(Zch _ _ _).mp ri'
      have e1:Zft (runS S0 ((es.take p).map (·.d) ++ [e].map (·.d))) e.d=runS S0 ((es.take p).map (·.d)):=by
        show Zft (runS S0 ((es.take p).map (·.d) ++ [e.d])) e.d=_
        rw [Zgx]
        exact Zhk rd2
      rw [e1] at r3
      repeat walk_at "rdk"
      refine ⟨p,Nat.lt_succ_self p,p,_,rfl,Nat.le_trans (Nat.min_le_left ..) (Nat.le_of_lt_succ hgt2),Nat.le_of_lt hp,fun b h1 h2=>by rw [k3 b h1]; exact fr2 b h1 h2,?_,ri2,J3,rfl⟩
      have em:m + (es.length - (p + 1)) + 1=m + (es.length - p):=jb5 hp
      rw [em] at r3
      exact r3
    . rename_i hgt
      rw [List.length_map,List.length_take,Nat.min_eq_left hq1] at hgt
      have hgt2:n <= mk.toNat:=by split at hgt <;> omega
      have et:es.take n=es.take mk.toNat:=by
        by_cases z:mk.toNat <= es.length
        . rw [show n=mk.toNat by omega]
        . rw [List.take_of_length_le (by omega),List.take_of_length_le (by omega)]
      rw [et] at r' ri' J'
      exact k H' fr (r'.le (by omega)) ri' J'
end
noncomputable def tellV:Dd->List V
  | .save s p o n=>[.str "save", .int s,.int p,.int o,.int n]
  | .move s t k=>[.str "move", .int s,.int t,.int k]
  | .note s n=>[.str "note", .int s,.int n]
noncomputable def tellDs:Dd->List Dt
  | .save s p o n=>[.str "save", .int s,.int p,.int o,.int n]
  | .move s t k=>[.str "move", .int s,.int t,.int k]
  | .note s n=>[.str "note", .int s,.int n]
noncomputable def tellD (d:Dd):Dt:=.tup (tellDs d)
theorem Zfv {K:PySem.W.Frag} {H:Hp} (d:Dd):DVs K H (tellDs d) (tellV d):=by
  cases d with
  | save=>exact Zab ZbT (Zab Zaj (Zab Zaj (Zab Zaj (Zab Zaj ZaH))))
  | move=>exact Zab ZbT (Zab Zaj (Zab Zaj (Zab Zaj ZaH)))
  | note=>exact Zab ZbT (Zab Zaj (Zab Zaj ZaH))
theorem Zid {K:PySem.W.Frag} {H:Hp}:∀ (ds:List Dt) (xs:List V),ds.length=xs.length->(∀ (i:Nat) (d:Dt) (x:V),ds[i]?=some d->xs[i]?=some x->DV K H d x)->DVs K H ds xs
  | [],[],_,_=>ZaH
  | d :: ds,x :: xs,hl,h=>Zab (h 0 d x rfl rfl) (Zid ds xs (by simpa using hl) fun i d' x' h1 h2=>h (i + 1) d' x' (by simpa using h1) (by simpa using h2))
  | [],x :: xs,hl,_=>by simp at hl
  | d :: ds,[],hl,_=>by simp at hl
theorem ZjN {K:PySem.W.Frag} {H:Hp}:∀ {ds:List Dt} {xs:List V},DVs K H ds xs->ds.length=xs.length/\∀ (i:Nat) (d:Dt) (x:V),ds[i]?=some d->xs[i]?=some x->DV K H d x
  | [],xs,h=>by
    unfold DVs at h
    subst h
    exact ⟨rfl,fun i d x h=>by simp at h⟩
  | d :: ds,xs,h=>by
    unfold DVs at h
    obtain ⟨x,t,rfl,h1,h2⟩:=h
    obtain ⟨a,b⟩:=ZjN h2
    refine ⟨by simp [a],fun i d' x' e1 e2=>?_⟩
    cases i with
    | zero=>cases e1; cases e2; exact h1
    | succ i=>exact b i d' x' (by simpa using e1) (by simpa using e2)
theorem DVs.take {K:PySem.W.Frag} {H:Hp} {ds:List Dt} {xs:List V} (h:DVs K H ds xs) (n:Nat):DVs K H (ds.take n) (xs.take n):=by
  obtain ⟨a,b⟩:=ZjN h
  refine Zid _ _ (by rw [List.length_take,List.length_take,a]) fun i d x h1 h2=>?_
  rw [List.getElem?_take] at h1 h2
  split at h1
  . rename_i hi
    rw [if_pos hi] at h2
    exact b i d x h1 h2
  . cases h1
theorem DVs.snoc {K:PySem.W.Frag} {H:Hp} {ds:List Dt} {xs:List V} {d:Dt} {x:V} (h:DVs K H ds xs) (h1:DV K H d x):DVs K H (ds ++ [d]) (xs ++ [x]):=by
  obtain ⟨a,b⟩:=ZjN h
  refine Zid _ _ (by rw [List.length_append,List.length_append,a]; rfl) fun i d' x' e1 e2=>?_
  by_cases hi:i < ds.length
  . rw [List.getElem?_append_left hi] at e1
    rw [List.getElem?_append_left (by rw [<- a]; exact hi)] at e2
    exact b i d' x' e1 e2
  . rw [List.getElem?_append_right (by omega)] at e1
    rw [List.getElem?_append_right (by omega),<- a] at e2
    generalize i - ds.length=n at e1 e2
    cases n with
    | zero=>cases e1; cases e2; exact h1
    | succ n=>simp at e1
noncomputable def TupsAt (H:Hp) (ds:List Dd) (ts:List Addr):Prop:=ds.length=ts.length/\∀ (n:Nat) (d:Dd) (t:Addr),ds[n]?=some d->ts[n]?=some t->H t=some (.tup (tellV d))
theorem TupsAt.nil {H:Hp}:TupsAt H [] []:=⟨rfl,fun n d t h=>by simp at h⟩
theorem TupsAt.mono {H H':Hp} {ds:List Dd} {ts:List Addr} (h:TupsAt H ds ts) (k:∀ b xs,H b=some (.tup xs)->H' b=some (.tup xs)):TupsAt H' ds ts:=⟨h.1,fun n d t h1 h2=>k _ _ (h.2 n d t h1 h2)⟩
theorem TupsAt.snoc {H:Hp} {ds:List Dd} {ts:List Addr} {d:Dd} {t:Addr} (h:TupsAt H ds ts) (h1:H t=some (.tup (tellV d))):TupsAt H (ds ++ [d]) (ts ++ [t]):=by
  refine ⟨by rw [List.length_append,List.length_append,h.1]; rfl,fun n d' t' e1 e2=>?_⟩
  by_cases hi:n < ds.length
  . rw [List.getElem?_append_left hi] at e1
    rw [List.getElem?_append_left (by rw [<- h.1]; exact hi)] at e2
    exact h.2 n d' t' e1 e2
  . rw [List.getElem?_append_right (by omega)] at e1
    rw [List.getElem?_append_right (by have:=h.1; omega),<- h.1] at e2
    generalize n - ds.length=n at e1 e2
    cases n with
    | zero=>cases e1; cases e2; exact h1
    | succ n=>simp at e1
theorem TupsAt.take {H:Hp} {ds:List Dd} {ts:List Addr} (h:TupsAt H ds ts) (n:Nat):TupsAt H (ds.take n) (ts.take n):=by
  refine ⟨by rw [List.length_take,List.length_take,h.1],fun i d t e1 e2=>?_⟩
  rw [List.getElem?_take] at e1 e2
  split at e1
  . rename_i hi
    rw [if_pos hi] at e2
    exact h.2 i d t e1 e2
  . cases e1
theorem TupsAt.dv {K:PySem.W.Frag} {H:Hp} {ds:List Dd} {ts:List Addr} {q:Addr} (h:TupsAt H ds ts) (hq:H q=some (.lst (ts.map V.ref))):DV K H (.lst (ds.map tellD)) (.ref q):=by
  refine Zei (ZaF hq) (Zid _ _ (by rw [List.length_map,List.length_map,h.1]) fun i d x e1 e2=>?_)
  rw [List.getElem?_map] at e1 e2
  obtain ⟨d',h1,rfl⟩:=Option.map_eq_some_iff.mp e1
  obtain ⟨t,h2,rfl⟩:=Option.map_eq_some_iff.mp e2
  exact ZcS (ZaX (h.2 i d' t h1 h2)) (Zfv d')
noncomputable def spTold (CD:Addr) (ok:Dd->Prop):Sp:=fun vs H Q _=>∃ (a dx:Addr) (d:Dd),vs=[.ref a]/\ok d/\H a=some (.ins CD dx (fldD d))/\∀ t,H t=none->Q (.ref t) (upd H t (.tup (tellV d)))
noncomputable def TTo (cS cM cN:Addr):Addr->Sp->Prop:=T3 cS cM cN (spTold cS isSave) (spTold cM isMove) (spTold cN isNote)
theorem Zlu (cS cM cN:Addr) (d:Dd):TTo cS cM cN (clsD cS cM cN d) (spTold (clsD cS cM cN d) (okOf d)):=by
  cases d with
  | save=>exact .inl ⟨rfl,rfl⟩
  | move=>exact .inr (.inl ⟨rfl,rfl⟩)
  | note=>exact .inr (.inr ⟨rfl,rfl⟩)
theorem Zie (d:Dd):(fldD d).lookup (Str.ofString "told")=none:=by cases d <;> rfl
noncomputable def ZjO (cJ cS cM cN:Addr):Sp:=fun vs H Q _=>∃ (j dx R L:Addr) (A:Nat->Option AcI) (es:List DI),vs=[.ref j]/\Jr cJ cS cM cN H j dx R L A es/\es.length <= 1000 /\
  ∀ q ts H',Same H H'->H q=none->H' q=some (.lst (ts.map V.ref))->TupsAt H' (es.map (·.d)) ts->Q (.ref q) H'
section
variable {P:Program} {w:World} {K:PySem.W.Frag} {mg:Str->Option Value} {base:Heap}
theorem Zgy:FnScope ["self"] ["self"] (Zac Zbw):=⟨rfl,rfl,rfl,by decide +kernel,rfl,by decide +kernel,by decide +kernel⟩
theorem Zgz   {cSave:Addr} (D:Zao K cSave "told" "Save.told" Zbw) (tSave:T_Save K mg cSave):MCal P w K mg base 1 cSave "told" (spTold cSave isSave):=by
  refine Za9 (N:=["self"]) (ps:=["self"]) D tSave.k.cl Zgy (fun vs H Q E h=>?_) (fun _ _ _ _ _ _ us hl=>bd1 (R:=fun us=>bindArgs _ ⟨us,[]⟩=pure (List.zip _ us)) (fun _=>rfl) us hl) (fun f cdv A outer s H vs Q E hr h=>?_)
  . obtain ⟨a,dx,d,rfl,_⟩:=h; rfl
  . obtain ⟨a,dx,d,rfl,⟨s0,p,o,n,rfl⟩,ha,k⟩:=h
    refine ⟨_,(Zaf (Zar (ZaQ (Zaa Zav (Zaa (Zal (pv 0) rfl) (Zaa (Zal (pv 0) rfl) (Zaa (Zal (pv 0) rfl) (Zaa (Zal (pv 0) rfl) Zae)))))))),?_⟩
    walk_at "nx"
    repeat walk_at "rdk"
    refine Zai ha tSave.k.cl tSave.n_slot rfl ?_
    repeat walk_at "rdk"
    refine Zai ha tSave.k.cl tSave.n_place rfl ?_
    repeat walk_at "rdk"
    refine Zai ha tSave.k.cl tSave.n_old rfl ?_
    repeat walk_at "rdk"
    refine Zai ha tSave.k.cl tSave.n_new rfl ?_
    repeat walk_at "rdk"
    refine ⟨show 5 <= sizeLine by decide,fun t ht=>?_⟩
    exact k t ht
theorem ZgA:FnScope ["self"] ["self"] (Zac Zby):=⟨rfl,rfl,rfl,by decide +kernel,rfl,by decide +kernel,by decide +kernel⟩
theorem ZgB   {cMove:Addr} (D:Zao K cMove "told" "Move.told" Zby) (tMove:T_Move K mg cMove):MCal P w K mg base 1 cMove "told" (spTold cMove isMove):=by
  refine Za9 (N:=["self"]) (ps:=["self"]) D tMove.k.cl ZgA (fun vs H Q E h=>?_) (fun _ _ _ _ _ _ us hl=>bd1 (R:=fun us=>bindArgs _ ⟨us,[]⟩=pure (List.zip _ us)) (fun _=>rfl) us hl) (fun f cdv A outer s H vs Q E hr h=>?_)
  . obtain ⟨a,dx,d,rfl,_⟩:=h; rfl
  . obtain ⟨a,dx,d,rfl,⟨s0,t0,kk,rfl⟩,ha,k⟩:=h
    refine ⟨_,(Zaf (Zar (ZaQ (Zaa Zav (Zaa (Zal (pv 0) rfl) (Zaa (Zal (pv 0) rfl) (Zaa (Zal (pv 0) rfl) Zae))))))),?_⟩
    walk_at "nx"
    repeat walk_at "rdk"
    refine Zai ha tMove.k.cl tMove.n_slot rfl ?_
    repeat walk_at "rdk"
    refine Zai ha tMove.k.cl tMove.n_taker rfl ?_
    repeat walk_at "rdk"
    refine Zai ha tMove.k.cl tMove.n_many rfl ?_
    repeat walk_at "rdk"
    refine ⟨show 4 <= sizeLine by decide,fun t ht=>?_⟩
    exact k t ht
theorem ZgC:FnScope ["self"] ["self"] (Zac Zbz):=⟨rfl,rfl,rfl,by decide +kernel,rfl,by decide +kernel,by decide +kernel⟩
theorem ZgD   {cNote:Addr} (D:Zao K cNote "told" "Note.told" Zbz) (tNote:T_Note K mg cNote):MCal P w K mg base 1 cNote "told" (spTold cNote isNote):=by
  refine Za9 (N:=["self"]) (ps:=["self"]) D tNote.k.cl ZgC (fun vs H Q E h=>?_) (fun _ _ _ _ _ _ us hl=>bd1 (R:=fun us=>bindArgs _ ⟨us,[]⟩=pure (List.zip _ us)) (fun _=>rfl) us hl) (fun f cdv A outer s H vs Q E hr h=>?_)
  . obtain ⟨a,dx,d,rfl,_⟩:=h; rfl
  . obtain ⟨a,dx,d,rfl,⟨s0,n,rfl⟩,ha,k⟩:=h
    refine ⟨_,(Zaf (Zar (ZaQ (Zaa Zav (Zaa (Zal (pv 0) rfl) (Zaa (Zal (pv 0) rfl) Zae)))))),?_⟩
    walk_at "nx"
    repeat walk_at "rdk"
    refine Zai ha tNote.k.cl tNote.n_slot rfl ?_
    repeat walk_at "rdk"
    refine Zai ha tNote.k.cl tNote.n_number rfl ?_
    repeat walk_at "rdk"
    refine ⟨show 3 <= sizeLine by decide,fun t ht=>?_⟩
    exact k t ht
theorem Zer:FnScope ["self"] ["self"] (Zac Za1):=⟨rfl,rfl,rfl,by decide +kernel,rfl,by decide +kernel,by decide +kernel⟩
theorem Zes   {cJournal:Addr} {cSave:Addr} {cMove:Addr} {cNote:Addr} (D:Zao K cJournal "told" "Journal.told" Za1) (tJournal:T_Journal K mg cJournal) (tSave:T_Save K mg cSave) (tMove:T_Move K mg cMove) (tNote:T_Note K mg cNote) (m_Save_told:MCal P w K mg base 1 cSave "told" (spTold cSave isSave)) (m_Move_told:MCal P w K mg base 1 cMove "told" (spTold cMove isMove)) (m_Note_told:MCal P w K mg base 1 cNote "told" (spTold cNote isNote)):MCal P w K mg base 2 cJournal "told" (ZjO cJournal cSave cMove cNote):=by
  refine Za9 (N:=["self"]) (ps:=["self"]) D tJournal.k.cl Zer (fun vs H Q E h=>?_) (fun _ _ _ _ _ _ us hl=>bd1 (R:=fun us=>bindArgs _ ⟨us,[]⟩=pure (List.zip _ us)) (fun _=>rfl) us hl) (fun f cdv A outer s H vs Q E hr h=>?_)
  . obtain ⟨j,dx,R,L,A,es,rfl,_⟩:=h; rfl
  . obtain ⟨j,dx,R,L,Ar,es,rfl,J,hel,k⟩:=h
    refine ⟨_,(Zaf (Zar (ZlY ["deed"] rfl (show CompScope (Zac Za1) ["self"] ["deed"] _ from ⟨rfl,by decide +kernel,by decide +kernel,by decide +kernel,by decide +kernel,by decide +kernel⟩) (ZlD (Zal (pv 0) rfl)) (fun _ _ _ _ _=>(ZbH (i:=0) (show (["deed", "self"]:List Str).Nodup by decide +kernel) rfl (Or.inl rfl) (.inr rfl))) (fun _ _ _ _ _=>ZlX) (fun _ _ _ _ _=>(Zgf (T:=TTo cSave cMove cNote) (Zk0 m_Save_told m_Move_told m_Note_told) (hr.mono (by decide)) (pv 0)))))),?_⟩
    walk_at "nx"
    have big:(1001:Nat) <= sizeLine:=by decide
    repeat walk_at "rdk"
    refine Zl7 (ZkC ?_)
    repeat walk_at "rdk"
    refine Zai J.ob tJournal.k.cl tJournal.n_deeds rfl ?_
    refine ⟨L,rfl,⟨_,ZaF J.li⟩,fun q hq=>?_⟩
    refine Zjx (fun i H'=>Same H H'/\∃ ts,H' q=some (.lst (ts.map V.ref))/\TupsAt H' ((es.take i).map (·.d)) ts) ⟨Same.new hq,[],Zah,TupsAt.nil⟩ (fun i H' ⟨s,_⟩=>ZaF (s _ _ J.li)) ?_ ?_
    . rintro i x H' hx ⟨s1,ts,hts,T⟩
      rw [List.getElem?_map] at hx
      obtain ⟨e,he,rfl⟩:=Option.map_eq_some_iff.mp hx
      obtain ⟨hi,ei⟩:=List.getElem?_eq_some_iff.mp he
      have de:=s1 _ _ (J.de e (List.mem_of_getElem? he)).1
      refine Zmq ?_
      refine iteT ?_
      refine Zd4 ?_
      repeat walk_at "rdk"
      refine ⟨e.o,clsD cSave cMove cNote e.d,e.dx,fldD e.d,_,rfl,de,Zie e.d,Zlu cSave cMove cNote e.d,?_⟩
      repeat walk_at "rdk"
      refine ⟨e.o,e.dx,e.d,rfl,Zdi e.d,de,fun t ht=>?_⟩
      have hl:ts.length <= 1000:=by
        rw [<- T.1,List.length_map,List.length_take]
        omega
      have hq2:=(Same.new ht (o:=.tup (tellV e.d))) _ _ hts
      refine ⟨_,hq2,by rw [List.length_map]; omega,⟨(s1.newT ht).wr hq,ts ++ [t],by rw [Zah,List.map_append]; rfl,?_⟩,_,rfl⟩
      have im:∀ b xs,H' b=some (.tup xs)->(upd (upd H' t (.tup (tellV e.d))) q (.lst (ts.map V.ref ++ [.ref t]))) b=some (.tup xs):=fun b xs h=>by
        rw [Zak (Zbl h hts (by intro z; cases z))]
        exact (Same.new ht) _ _ h
      have ht2:(upd (upd H' t (.tup (tellV e.d))) q (.lst (ts.map V.ref ++ [.ref t]))) t=some (.tup (tellV e.d)):=by
        rw [Zak (fun z=>by rw [z] at ht; rw [ht] at hts; cases hts)]; exact Zah
      rw [List.take_succ_eq_append_getElem hi,ei,List.map_append]
      exact (T.mono im).snoc ht2
    . rintro H' ⟨s1,ts,hts,T⟩
      rw [List.length_map,List.take_length] at T
      repeat walk_at "rdk"
      exact k q ts H' s1 hq hts T
end
structure FrS where
  kind:Str
  who:Int
  whose:Int
  caller:Int
  coin:Int
  word:Int
  given:Int
  depth:Int
  looking:Bool
  used:Int
  stack:List Int
  row:Int
  fin:Option Str
  answer:Int
structure FrI where
  a:Addr
  dx:Addr
  ST:Addr
  SS:Addr
noncomputable def endV:Option Str->V
  | none=>.non
  | some s=>.str s
noncomputable def fldF (f:FrI) (x:FrS):List (Str × V):=[("kind", .str x.kind),("who", .int x.who),("whose", .int x.whose),("caller", .int x.caller),("coin", .int x.coin),("word", .int x.word),("given", .int x.given),("depth", .int x.depth),("looking", .bl x.looking),("used", .int x.used),("stack", .ref f.ST),("row", .int x.row),("steps", .ref f.SS),("end", endV x.fin),("answer", .int x.answer)]
structure FrAt (cF:Addr) (H:Hp) (f:FrI) (x:FrS) (vs:List V):Prop where
  ob:H f.a=some (.ins cF f.dx (fldF f x))
  st:H f.ST=some (.lst (x.stack.map V.int))
  ss:H f.SS=some (.lst vs)
  ne:f.ST ≠ f.SS
section
variable {cF:Addr} {H H':Hp} {f:FrI} {x:FrS} {vs:List V}
theorem FrAt.aST (F:FrAt cF H f x vs):f.a ≠ f.ST:=Zbl F.ob F.st (by intro z; cases z)
theorem FrAt.aSS (F:FrAt cF H f x vs):f.a ≠ f.SS:=Zbl F.ob F.ss (by intro z; cases z)
theorem FrAt.setST (F:FrAt cF H f x vs) (s:List Int):FrAt cF (upd H f.ST (.lst (s.map V.int))) f { x with stack:=s } vs :=
  ⟨by rw [Zak F.aST]; exact F.ob,Zah,by rw [Zak (Ne.symm F.ne)]; exact F.ss,F.ne⟩
theorem FrAt.setSS (F:FrAt cF H f x vs) (ws:List V):FrAt cF (upd H f.SS (.lst ws)) f x ws :=
  ⟨by rw [Zak F.aSS]; exact F.ob,by rw [Zak F.ne]; exact F.st,Zah,F.ne⟩
theorem FrAt.setF (F:FrAt cF H f x vs) (y:FrS) (e:y.stack=x.stack):FrAt cF (upd H f.a (.ins cF f.dx (fldF f y))) f y vs :=
  ⟨Zah,by rw [Zak (Ne.symm F.aST),e]; exact F.st,by rw [Zak (Ne.symm F.aSS)]; exact F.ss,F.ne⟩
theorem FrAt.kept {X:Addr->Prop} (F:FrAt cF H f x vs) (k:KeptX X H H') (h1:¬ X f.a) (h2:¬ X f.ST) (h3:¬ X f.SS):FrAt cF H' f x vs :=
  ⟨k _ _ F.ob h1,k _ _ F.st h2,k _ _ F.ss h3,F.ne⟩
theorem FrAt.same (F:FrAt cF H f x vs) (s:Same H H'):FrAt cF H' f x vs:=⟨s _ _ F.ob,s _ _ F.st,s _ _ F.ss,F.ne⟩
theorem FrAt.put (F:FrAt cF H f x vs) {s:List Int} (k:KeptX (·=f.ST) H H') (e:H' f.ST=some (.lst (s.map V.int))):FrAt cF H' f { x with stack:=s } vs :=
  ⟨k _ _ F.ob F.aST,e,k _ _ F.ss (Ne.symm F.ne),F.ne⟩
end
noncomputable def frame0 (kind:Str) (who whose caller coin word given depth:Int) (looking:Bool):FrS:=⟨kind,who,whose,caller,coin,word,given,depth,looking,0,[],0,none,0⟩
noncomputable def Zet (cF:Addr):Sp:=fun vs H Q _=>∃ (a dx:Addr) (kind:Str) (who whose caller coin word given depth:Int) (looking:Bool),vs=[.ref a,.str kind,.int who,.int whose,.int caller,.int coin,.int word,.int given,.int depth,.bl looking]/\H a=some (.ins cF dx []) /\
  ∀ ST SS H',H ST=none->H SS=none->FrAt cF H' ⟨a,dx,ST,SS⟩ (frame0 kind who whose caller coin word given depth looking) []->KeptX (·=a) H H'->Q .non H'
noncomputable def spLeft (cF:Addr):Sp:=fun vs H Q _=>∃ (f:FrI) (x:FrS) (ws:List V),vs=[.ref f.a]/\FrAt cF H f x ws/\Q (.int (x.given - x.used)) H
noncomputable def ZjP (K:PySem.W.Frag) (cF:Addr):Sp:=fun vs H Q _=>∃ (f:FrI) (x:FrS) (ws:List V) (p:Addr) (w:Str) (n:Option Int) (r t l pr d:Int),vs=[.ref f.a,.ref p]/\FrAt cF H f x ws/\ZbM K H p w n/\ZbX w n=some r/\RT.lookup w=some (t,l,pr,d)/\Q (.bl (decide ((x.stack.length:Int) < t + r))) H
noncomputable def spFull (K:PySem.W.Frag) (cF:Addr):Sp:=fun vs H Q _=>∃ (f:FrI) (x:FrS) (ws:List V) (p:Addr) (w:Str) (n:Option Int) (r t l pr d:Int),vs=[.ref f.a,.ref p]/\FrAt cF H f x ws/\ZbM K H p w n/\ZbX w n=some r/\RT.lookup w=some (t,l,pr,d)/\Q (.bl (decide (24 < (x.stack.length:Int) - (t + r) + (l + r)))) H
noncomputable def ZbY (cF:Addr):Sp:=fun vs H Q _=>∃ (f:FrI) (x:FrS) (ws:List V) (s t:List Int),vs=[.ref f.a,.int (t.length:Nat)]/\FrAt cF H f x ws/\x.stack=s ++ t/\t.length <= 1000 /\
  ∀ p H',H p=none->KeptX (·=f.ST) H H'->FrAt cF H' f { x with stack:=s } ws->H' p=some (.lst (t.map V.int))->Q (.ref p) H'
noncomputable def spLay (cF:Addr):Sp:=fun vs H Q _=>∃ (f:FrI) (x:FrS) (ws:List V) (k:Int),vs=[.ref f.a,.int k]/\FrAt cF H f x ws/\x.stack.length <= 1000/\∀ H',KeptX (·=f.ST) H H'->FrAt cF H' f { x with stack:=x.stack ++ [k] } ws->Q .non H'
noncomputable def ZcL (cF:Addr):Sp:=fun vs H Q _=>∃ (f:FrI) (x:FrS) (ws:List V) (e:Str) (k:Int),vs=[.ref f.a,.str e,.int k]/\FrAt cF H f x ws/\∀ H',KeptX (·=f.a) H H'->FrAt cF H' f { x with fin:=some e,answer:=k } ws->Q .non H'
noncomputable def treeV (x:FrS) (L:Addr):List V:=[.str x.kind,.int x.who,.int x.whose,.int x.caller,.int x.coin,.int x.word,.int x.given,endV x.fin,.int x.answer,.int x.used,.ref L]
noncomputable def spTree (cF:Addr):Sp:=fun vs H Q _=>∃ (f:FrI) (x:FrS) (ws:List V),vs=[.ref f.a]/\FrAt cF H f x ws/\∀ p L H',Same H H'->H p=none->H L=none->H' L=some (.lst ws)->H' p=some (.tup (treeV x L))->Q (.ref p) H'
section
variable {P:Program} {w:World} {K:PySem.W.Frag} {mg:Str->Option Value} {base:Heap}
theorem Zfw:FnScope ["self"] ["self"] (Zac Zbn):=⟨rfl,rfl,rfl,by decide +kernel,rfl,by decide +kernel,by decide +kernel⟩
theorem Zfx   {cFrame:Addr} (D:Zao K cFrame "left" "Frame.left" Zbn) (tFrame:T_Frame K mg cFrame):MCal P w K mg base 1 cFrame "left" (spLeft cFrame):=by
  refine Za9 (N:=["self"]) (ps:=["self"]) D tFrame.k.cl Zfw (fun vs H Q E h=>?_) (fun _ _ _ _ _ _ us hl=>bd1 (R:=fun us=>bindArgs _ ⟨us,[]⟩=pure (List.zip _ us)) (fun _=>rfl) us hl) (fun f cdv A outer s H vs Q E hr h=>?_)
  . obtain ⟨f,x,ws,rfl,_⟩:=h; rfl
  . obtain ⟨fr,x,ws,rfl,F,k⟩:=h
    refine ⟨_,(Zaf (Zar (ZaC ZdO (Zal (pv 0) rfl) (Zal (pv 0) rfl)))),?_⟩
    walk_at "nx"
    repeat walk_at "rdk"
    refine Zai F.ob tFrame.k.cl tFrame.n_given rfl ?_
    repeat walk_at "rdk"
    refine Zai F.ob tFrame.k.cl tFrame.n_used rfl ?_
    repeat walk_at "rdk"
    exact k
theorem Zdj:FnScope ["self", "row"] ["self", "row"] (Zac ZaV):=⟨rfl,rfl,rfl,by decide +kernel,rfl,by decide +kernel,by decide +kernel⟩
theorem Zdk   {cFrame:Addr} (D:Zao K cFrame "short_for" "Frame.short_for" ZaV) (tFrame:T_Frame K mg cFrame) (c_takes:Cal P w K mg base 2 "takes" (Zfp K)) (n_len:mg "len" = none):MCal P w K mg base 3 cFrame "short_for" (ZjP K cFrame):=by
  refine Za9 (N:=["self", "row"]) (ps:=["self", "row"]) D tFrame.k.cl Zdj (fun vs H Q E h=>?_) (fun _ _ _ _ _ _ us hl=>bd2 (R:=fun us=>bindArgs _ ⟨us,[]⟩=pure (List.zip _ us)) (fun _ _=>rfl) us hl) (fun f cdv A outer s H vs Q E hr h=>?_)
  . obtain ⟨f,x,ws,p,w,n,r,t,l,pr,d,rfl,_⟩:=h; rfl
  . obtain ⟨fr,x,ws,p,wd,n,r,t,l,pr,d,rfl,F,hp,e1,e2,k⟩:=h
    refine ⟨_,(Zaf (Zar (ZbI ZfS (ZaI ZbP rfl n_len PySem.boot_len (Zaa (Zal (pv 0) rfl) Zae)) (ZaG c_takes (hr.mono (by decide)) rfl (Zaa (pv 1) Zae)) (nomark _)))),?_⟩
    walk_at "nx"
    have hST:=F.st
    repeat walk_at "rdk"
    refine Zai F.ob tFrame.k.cl tFrame.n_stack rfl ?_
    repeat walk_at "rdk"
    refine ⟨p,wd,n,r,t,l,pr,d,rfl,hp,e1,e2,?_⟩
    repeat walk_at "rdk"
    rw [List.length_map]
    exact k
theorem ZcO:FnScope ["self", "row"] ["self", "row"] (Zac ZaP):=⟨rfl,rfl,rfl,by decide +kernel,rfl,by decide +kernel,by decide +kernel⟩
theorem ZcP   {cFrame:Addr} (D:Zao K cFrame "full_behind" "Frame.full_behind" ZaP) (tFrame:T_Frame K mg cFrame) (c_leaves:Cal P w K mg base 2 "leaves" (Zh9 K)) (c_takes:Cal P w K mg base 2 "takes" (Zfp K)) (n_len:mg "len" = none) (g_MOST_ON_STACK:Za0 mg "MOST_ON_STACK" (.int 24)):MCal P w K mg base 3 cFrame "full_behind" (spFull K cFrame):=by
  refine Za9 (N:=["self", "row"]) (ps:=["self", "row"]) D tFrame.k.cl ZcO (fun vs H Q E h=>?_) (fun _ _ _ _ _ _ us hl=>bd2 (R:=fun us=>bindArgs _ ⟨us,[]⟩=pure (List.zip _ us)) (fun _ _=>rfl) us hl) (fun f cdv A outer s H vs Q E hr h=>?_)
  . obtain ⟨f,x,ws,p,w,n,r,t,l,pr,d,rfl,_⟩:=h; rfl
  . obtain ⟨fr,x,ws,p,wd,n,r,t,l,pr,d,rfl,F,hp,e1,e2,k⟩:=h
    refine ⟨_,(Zaf (Zar (ZbI Ze5 (ZaC ZbG (ZaC ZdO (ZaI ZbP rfl n_len PySem.boot_len (Zaa (Zal (pv 0) rfl) Zae)) (ZaG c_takes (hr.mono (by decide)) rfl (Zaa (pv 1) Zae))) (ZaG c_leaves (hr.mono (by decide)) rfl (Zaa (pv 1) Zae))) (ZbO rfl g_MOST_ON_STACK) (nomark _)))),?_⟩
    walk_at "nx"
    have hST:=F.st
    repeat walk_at "rdk"
    refine Zai F.ob tFrame.k.cl tFrame.n_stack rfl ?_
    repeat walk_at "rdk"
    refine ⟨p,wd,n,r,t,l,pr,d,rfl,hp,e1,e2,?_⟩
    repeat walk_at "rdk"
    refine ⟨p,wd,n,r,t,l,pr,d,rfl,hp,e1,e2,?_⟩
    repeat walk_at "rdk"
    rw [List.length_map]
    exact k
theorem Zb5:FnScope ["self", "many", "numbers", "turn"] ["self", "many"] (Zac Zbk):=⟨rfl,rfl,rfl,by decide +kernel,rfl,by decide +kernel,by decide +kernel⟩
theorem ZeN   {cFrame:Addr} (D:Zao K cFrame "taken" "Frame.taken" Zbk) (tFrame:T_Frame K mg cFrame) (n_range:mg "range" = none) (n_list:mg "list" = none) (n_reversed:mg "reversed" = none):MCal P w K mg base 1 cFrame "taken" (ZbY cFrame):=by
  refine Za9 (N:=["self", "many", "numbers", "turn"]) (ps:=["self", "many"]) D tFrame.k.cl Zb5 (fun vs H Q E h=>?_) (fun _ _ _ _ _ _ us hl=>bd2 (R:=fun us=>bindArgs _ ⟨us,[]⟩=pure (List.zip _ us)) (fun _ _=>rfl) us hl) (fun f cdv A outer s H vs Q E hr h=>?_)
  . obtain ⟨f,x,ws,s,t,rfl,_⟩:=h; rfl
  . obtain ⟨fr,x,ws,s1,t,rfl,F,hx,ht,k⟩:=h
    refine ⟨_,(Zad (Zat (i:=2) Zb5.nd rfl (by first|exact Or.inl rfl|exact Or.inr rfl) (Zbt Zae))
      (Zad (ZhY PassesOwn.never rfl (Zda rfl n_range (Zaa (pv 1) Zae)) (ZbH (i:=3) Zb5.nd rfl (by first|exact Or.inl rfl|exact Or.inr rfl))
      (Zaf (Zay (Zf1 PySem.F.plainAttrs_list PySem.F.slot_list_append PySem.F.type_list_append ZbC (pv 2) (Zaa (Zlj PySem.F.plainAttrs_list PySem.F.slot_list_pop PySem.F.type_list_pop Zlk (Zal (pv 0) rfl)) Zae)))))
      (Zaf (Zar (Ziy rfl rfl n_list rfl n_reversed (Zaa (pv 2) Zae)))))),?_⟩
    walk_at "nx"
    repeat walk_at "rdk"
    refine ⟨by decide,fun nl hnl=>?_⟩
    repeat walk_at "rdk"
    refine Zge (Zdf ?_)
    repeat walk_at "rdk"
    refine ⟨_,rfl,by omega,by omega,?_⟩
    rw [Int.toNat_natCast]
    refine Zco (fun i σ' H'=>KeptX (·=fr.ST) H H'/\H' nl=some (.lst (((t.drop (t.length - i)).reverse).map V.int))/\H' fr.ST=some (.lst ((s1 ++ t.take (t.length - i)).map V.int))/\∃ v,σ'=[some (.ref fr.a),some (.int (t.length:Nat)),some (.ref nl),v]) ⟨KeptX.new hnl,?_,?_,_,rfl⟩ ?_ ?_
    . rw [Nat.sub_zero,List.drop_length]; exact Zah
    . rw [Nat.sub_zero,List.take_length,Zak (Zam F.st hnl),<- hx]; exact F.st
    . rintro i σ' H' hi ⟨k1,h1,h2,v,rfl⟩
      obtain ⟨j,hj⟩:∃ j,t.length - i=j + 1:=⟨t.length - i - 1,by omega⟩
      have hjl:j < t.length:=by omega
      have e1:t.take (t.length - i)=t.take j ++ [t[j]]:=by rw [hj]; exact List.take_succ_eq_append_getElem hjl
      have e2:t.drop j=t[j] :: t.drop (t.length - i):=by rw [hj]; exact List.drop_eq_getElem_cons hjl
      have e3:t.length - (i + 1)=j:=by omega
      rw [e3,e2]
      rw [e1,<- List.append_assoc,List.map_append] at h2
      have hob:H' fr.a=some (.ins cFrame fr.dx (fldF fr x)):=k1 _ _ F.ob F.aST
      generalize t[j]=z at *
      have nln:nl ≠ fr.ST:=Ne.symm (Zam F.st hnl)
      repeat walk_at "rdk"
      refine ⟨Zb3 (ZaF h1),?_⟩
      repeat walk_at "rdk"
      refine Zai hob tFrame.k.cl tFrame.n_stack rfl ?_
      refine ⟨Zb3 (ZaF h2),?_⟩
      refine Zlq h2 ?_
      repeat walk_at "rdk"
      refine ZbL (xs:=((t.drop (t.length - i)).reverse).map V.int) (by rw [Zak nln]; exact h1) (by rw [List.length_map,List.length_reverse,List.length_drop]; exact Nat.lt_of_le_of_lt (show _ <= 1000 by omega) (by decide)) ?_
      repeat walk_at "rdk"
      refine ⟨fun b o e n=>by rw [Zak (Zam e hnl),Zak n]; exact k1 b o e n,?_,?_,_,rfl⟩
      . rw [Zah,List.reverse_cons,List.map_append]; rfl
      . rw [Zak (Ne.symm nln),Zah]
    . rintro σ' H' ⟨k1,h1,h2,v,rfl⟩
      rw [Nat.sub_self,List.drop_zero] at h1
      rw [Nat.sub_self,List.take_zero,List.append_nil] at h2
      have F1:=F.put k1 h2
      repeat walk_at "rdk"
      refine Zix ?_
      repeat walk_at "rdk"
      refine ⟨nl,_,rfl,ZaF h1,fun l hl=>?_⟩
      rw [<- List.map_reverse,List.reverse_reverse]
      have hlH:H l=none:=by
        cases e:H l with
        | none=>rfl
        | some o =>
          by_cases q:l=fr.ST
          . rw [q,h2] at hl; cases hl
          . rw [k1 l o e q] at hl; cases hl
      exact k l _ hlH (k1.trans (KeptX.new hl)) (F1.same (Same.new hl)) Zah
theorem ZgE:FnScope ["self", "number"] ["self", "number"] (Zac ZbA):=⟨rfl,rfl,rfl,by decide +kernel,rfl,by decide +kernel,by decide +kernel⟩
theorem ZgF   {cFrame:Addr} (D:Zao K cFrame "lay" "Frame.lay" ZbA) (tFrame:T_Frame K mg cFrame):MCal P w K mg base 1 cFrame "lay" (spLay cFrame):=by
  refine Za9 (N:=["self", "number"]) (ps:=["self", "number"]) D tFrame.k.cl ZgE (fun vs H Q E h=>?_) (fun _ _ _ _ _ _ us hl=>bd2 (R:=fun us=>bindArgs _ ⟨us,[]⟩=pure (List.zip _ us)) (fun _ _=>rfl) us hl) (fun f cdv A outer s H vs Q E hr h=>?_)
  . obtain ⟨f,x,ws,k,rfl,_⟩:=h; rfl
  . obtain ⟨fr,x,ws,n,rfl,F,hl,k⟩:=h
    refine ⟨_,(Zaf (Zay (Zf1 PySem.F.plainAttrs_list PySem.F.slot_list_append PySem.F.type_list_append ZbC (Zal (pv 0) rfl) (Zaa (pv 1) Zae)))),?_⟩
    walk_at "nx"
    repeat walk_at "rdk"
    refine Zai F.ob tFrame.k.cl tFrame.n_stack rfl ?_
    refine ⟨Zb3 (ZaF F.st),?_⟩
    repeat walk_at "rdk"
    refine ZbL F.st (by rw [List.length_map]; exact Nat.lt_of_le_of_lt hl (by decide)) ?_
    repeat walk_at "rdk"
    have:=F.setST (x.stack ++ [n])
    rw [List.map_append] at this
    exact k _ (KeptX.upd rfl) this
theorem Zeu:FnScope ["self", "end", "answer"] ["self", "end", "answer"] (Zac Zbb):=⟨rfl,rfl,rfl,by decide +kernel,rfl,by decide +kernel,by decide +kernel⟩
theorem Zev   {cFrame:Addr} (D:Zao K cFrame "finish" "Frame.finish" Zbb) (tFrame:T_Frame K mg cFrame):MCal P w K mg base 1 cFrame "finish" (ZcL cFrame):=by
  refine Za9 (N:=["self", "end", "answer"]) (ps:=["self", "end", "answer"]) D tFrame.k.cl Zeu (fun vs H Q E h=>?_) (fun _ _ _ _ _ _ us hl=>bd3 (R:=fun us=>bindArgs _ ⟨us,[]⟩=pure (List.zip _ us)) (fun _ _ _=>rfl) us hl) (fun f cdv A outer s H vs Q E hr h=>?_)
  . obtain ⟨f,x,ws,e,k,rfl,_⟩:=h; rfl
  . obtain ⟨fr,x,ws,e,n,rfl,F,k⟩:=h
    refine ⟨_,(Zad (ZaU (pv 0) (pv 1) rfl)
      (Zaf (ZaU (pv 0) (pv 2) rfl))),?_⟩
    walk_at "nx"
    repeat walk_at "rdk"
    refine Zau F.ob tFrame.k.cl tFrame.n_end (by show 15 < 1000; decide) ?_
    repeat walk_at "rdk"
    refine Zau Zah tFrame.k.cl tFrame.n_answer (by show 15 < 1000; decide) ?_
    rw [ZaY]
    exact k _ (KeptX.upd rfl) (F.setF { x with fin:=some e,answer:=n } rfl)
theorem Zfy:FnScope ["self"] ["self"] (Zac Zbo):=⟨rfl,rfl,rfl,by decide +kernel,rfl,by decide +kernel,by decide +kernel⟩
theorem Zfz   {cFrame:Addr} (D:Zao K cFrame "tree" "Frame.tree" Zbo) (tFrame:T_Frame K mg cFrame) (n_list:mg "list" = none):MCal P w K mg base 1 cFrame "tree" (spTree cFrame):=by
  refine Za9 (N:=["self"]) (ps:=["self"]) D tFrame.k.cl Zfy (fun vs H Q E h=>?_) (fun _ _ _ _ _ _ us hl=>bd1 (R:=fun us=>bindArgs _ ⟨us,[]⟩=pure (List.zip _ us)) (fun _=>rfl) us hl) (fun f cdv A outer s H vs Q E hr h=>?_)
  . obtain ⟨f,x,ws,rfl,_⟩:=h; rfl
  . obtain ⟨fr,x,ws,rfl,F,k⟩:=h
    refine ⟨_,(Zaf (Zar (ZaQ (Zaa (Zal (pv 0) rfl) (Zaa (Zal (pv 0) rfl) (Zaa (Zal (pv 0) rfl) (Zaa (Zal (pv 0) rfl) (Zaa (Zal (pv 0) rfl) (Zaa (Zal (pv 0) rfl) (Zaa (Zal (pv 0) rfl) (Zaa (Zal (pv 0) rfl) (Zaa (Zal (pv 0) rfl) (Zaa (Zal (pv 0) rfl) (Zaa (Zdb Zju rfl n_list PyProof.Rows.boot_list (Zaa (Zal (pv 0) rfl) Zae)) Zae)))))))))))))),?_⟩
    walk_at "nx"
    repeat walk_at "rdk"
    refine Zai F.ob tFrame.k.cl tFrame.n_kind rfl ?_
    repeat walk_at "rdk"
    refine Zai F.ob tFrame.k.cl tFrame.n_who rfl ?_
    repeat walk_at "rdk"
    refine Zai F.ob tFrame.k.cl tFrame.n_whose rfl ?_
    repeat walk_at "rdk"
    refine Zai F.ob tFrame.k.cl tFrame.n_caller rfl ?_
    repeat walk_at "rdk"
    refine Zai F.ob tFrame.k.cl tFrame.n_coin rfl ?_
    repeat walk_at "rdk"
    refine Zai F.ob tFrame.k.cl tFrame.n_word rfl ?_
    repeat walk_at "rdk"
    refine Zai F.ob tFrame.k.cl tFrame.n_given rfl ?_
    repeat walk_at "rdk"
    refine Zai F.ob tFrame.k.cl tFrame.n_end rfl ?_
    repeat walk_at "rdk"
    refine Zai F.ob tFrame.k.cl tFrame.n_answer rfl ?_
    repeat walk_at "rdk"
    refine Zai F.ob tFrame.k.cl tFrame.n_used rfl ?_
    repeat walk_at "rdk"
    refine Zai F.ob tFrame.k.cl tFrame.n_steps rfl ?_
    repeat walk_at "rd"
    refine Zfb (ZaF F.ss) fun L hL=>?_
    repeat walk_at "rdk"
    refine ⟨by show 11 <= sizeLine; decide,fun p hp=>?_⟩
    have s1:Same H (upd H L (.lst ws)):=Same.new hL
    exact k p L _ (s1.newT hp) (s1.fresh hp) hL (by rw [Zak (Zam Zah hp),Zah]) Zah
end
noncomputable abbrev RD:=FrS->Str->Option Int->FrS->Prop
noncomputable def rPush:RD:=fun x _ n x'=>∃ k,n=some k/\x'={ x with stack:=x.stack ++ [k] }
noncomputable def rDrop:RD:=fun x _ _ x'=>∃ s k,x.stack=s ++ [k]/\x'={ x with stack:=s }
noncomputable def rCopy:RD:=fun x _ n x'=>∃ (k:Nat) (v:Int),n=some (k:Int)/\k < x.stack.length/\x.stack[x.stack.length - 1 - k]?=some v/\x'={ x with stack:=x.stack ++ [v] }
noncomputable def rSwap:RD:=fun x _ n x'=>∃ (s m:List Int) (a b:Int),n=some ((m.length + 1:Nat):Int)/\x.stack=s ++ a :: (m ++ [b])/\x'={ x with stack:=s ++ b :: (m ++ [a]) }
noncomputable def rReck:RD:=fun x w _ x'=>∃ (f:Int->Int->Int) (s:List Int) (a b:Int),RK.lookup w=some f/\x.stack=s ++ [a,b]/\Zbh a b/\x'={ x with stack:=s ++ [f a b] }
noncomputable def rMe:RD:=fun x _ _ x'=>x'={ x with stack:=x.stack ++ [x.who] }
noncomputable def rFrom:RD:=fun x _ _ x'=>x'={ x with stack:=x.stack ++ [x.caller] }
noncomputable def rSent:RD:=fun x _ _ x'=>x'={ x with stack:=x.stack ++ [x.coin] }
noncomputable def rWord:RD:=fun x _ _ x'=>x'={ x with stack:=x.stack ++ [x.word] }
noncomputable def rJump:RD:=fun x _ n x'=>∃ k,n=some k/\x'={ x with row:=k }
noncomputable def Zhl:RD:=fun x _ n x'=>∃ (k:Int) (s:List Int) (t:Int),n=some k/\x.stack=s ++ [t]/\x'={ x with stack:=s,row:=if t=0 then x.row else k }
noncomputable def rGive:RD:=fun x _ _ x'=>∃ (s:List Int) (t:Int),x.stack=s ++ [t]/\x'={ x with stack:=s,fin:=some ("well" : Str),answer:=t }
noncomputable def rFail:RD:=fun x _ _ x'=>∃ (s:List Int) (t:Int),x.stack=s ++ [t]/\x'={ x with stack:=s,fin:=some ("fail" : Str),answer:=t }
noncomputable def inF (f:FrI) (b:Addr):Prop:=b=f.a\/b=f.ST
noncomputable def spD (K:PySem.W.Frag) (cF:Addr) (R:RD):Sp:=fun vs H Q _=>∃ (vR vJ:V) (f:FrI) (x x':FrS) (ws:List V) (p:Addr) (w:Str) (n:Option Int),vs=[vR,vJ,.ref f.a,.ref p]/\FrAt cF H f x ws/\ZbM K H p w n/\R x w n x'/\x.stack.length <= 900 /\
  ∀ H',KeptX (inF f) H H'->FrAt cF H' f x' ws->Q .non H'
theorem k_st {f:FrI} {H H':Hp} (k:KeptX (·=f.ST) H H'):KeptX (inF f) H H':=k.mono fun _ h=>.inr h
theorem k_a {f:FrI} {H H':Hp} (k:KeptX (·=f.a) H H'):KeptX (inF f) H H':=k.mono fun _ h=>.inl h
theorem Zci {K:PySem.W.Frag} {f:FrI} {cF:Addr} {H H':Hp} {x:FrS} {ws:List V} {p:Addr} {w:Str} {n:Option Int} (h:ZbM K H p w n) (F:FrAt cF H f x ws) (k:KeptX (inF f) H H'):ZbM K H' p w n:=by
  unfold ZbM at h |-
  refine SameI.tup (k.imm fun b o z e i=>?_) h
  rcases z with rfl|rfl
  . rw [F.ob] at e; cases e; exact ZcJ i
  . rw [F.st] at e; cases e; exact ZbJ i
theorem sw1 (s m:List Int) (a b c:Int):(List.map V.int (s ++ a :: (m ++ [b]))).set s.length (.int c)=List.map V.int (s ++ c :: (m ++ [b])):=by
  rw [List.map_append,List.set_append_right _ _ (by rw [List.length_map]; exact Nat.le_refl _),List.length_map,Nat.sub_self,List.map_append]; rfl
theorem sw2 (s m:List Int) (a b c:Int):(List.map V.int (s ++ a :: (m ++ [b]))).set (s.length + 1 + m.length) (.int c)=List.map V.int (s ++ a :: (m ++ [c])):=by
  rw [List.map_append,List.set_append_right _ _ (by rw [List.length_map]; omega),List.length_map,List.map_append,List.map_cons,List.map_cons]
  rw [show s.length + 1 + m.length - s.length=m.length + 1 by omega,List.set_cons_succ,List.map_append,List.set_append_right _ _ (by rw [List.length_map]; omega),List.length_map,Nat.sub_self,List.map_append]; rfl
theorem ZfA {xs:List Int} {k:Nat} {v:Int} (hk:k < xs.length) (e:xs[xs.length - 1 - k]?=some v):atI (xs.map V.int) (-1 - (k:Int))=some (.int v):=by
  unfold atI
  rw [List.length_map,Zjv (j:=xs.length - 1 - k) (by omega) (by omega)]
  show (xs.map V.int)[xs.length - 1 - k]?=_
  rw [List.getElem?_map,e]; rfl
section
variable {P:Program} {w:World} {K:PySem.W.Frag} {mg:Str->Option Value} {base:Heap}
theorem Zhm:FnScope ["rooms", "journal", "frame", "row"] ["rooms", "journal", "frame", "row"] (Zac Zdr):=⟨rfl,rfl,rfl,by decide +kernel,rfl,by decide +kernel,by decide +kernel⟩
theorem Zhn   {cFrame:Addr} (D:Zaq K mg "push_row" Zdr) (tFrame:T_Frame K mg cFrame) (m_Frame_lay:MCal P w K mg base 1 cFrame "lay" (spLay cFrame)):Cal P w K mg base 2 "push_row" (spD K cFrame rPush):=by
  refine ZaA (N:=["rooms", "journal", "frame", "row"]) (ps:=["rooms", "journal", "frame", "row"]) D Zhm (fun vs H Q E h=>?_) (fun _ _ _ _ _ _ us hl=>bd4 (R:=fun us=>bindArgs _ ⟨us,[]⟩=pure (List.zip _ us)) (fun _ _ _ _=>rfl) us hl) (fun f cdv A outer s H vs Q E hr h=>?_)
  . obtain ⟨vR,vJ,f,x,x',ws,p,w,n,rfl,_⟩:=h; rfl
  . obtain ⟨vR,vJ,fr,x,x',ws,p,wd,n,rfl,F,hp,hR,hl,k⟩:=h
    obtain ⟨n0,rfl,rfl⟩:=hR
    refine ⟨_,(Zaf (Zay (ZaL m_Frame_lay (hr.mono (by decide)) (pv 2) (Zaa (ZaK Zbe (pv 3) Zag (fun _ _=>rfl)) Zae)))),?_⟩
    walk_at "nx"
    have hp':SqT K H p [.str wd,.int n0]:=hp
    repeat walk_at "rdk"
    refine Zap F.ob rfl ?_
    repeat walk_at "rdk"
    refine ⟨fr,_,ws,_,rfl,F,by show _ <= 1000; omega,fun H1 k1 F1=>?_⟩
    repeat walk_at "rdk"
    exact k _ (k_st k1) F1
theorem Zho:FnScope ["rooms", "journal", "frame", "row"] ["rooms", "journal", "frame", "row"] (Zac Zds):=⟨rfl,rfl,rfl,by decide +kernel,rfl,by decide +kernel,by decide +kernel⟩
theorem Zhp   {cFrame:Addr} (D:Zaq K mg "drop_row" Zds) (tFrame:T_Frame K mg cFrame) (m_Frame_taken:MCal P w K mg base 1 cFrame "taken" (ZbY cFrame)):Cal P w K mg base 2 "drop_row" (spD K cFrame rDrop):=by
  refine ZaA (N:=["rooms", "journal", "frame", "row"]) (ps:=["rooms", "journal", "frame", "row"]) D Zho (fun vs H Q E h=>?_) (fun _ _ _ _ _ _ us hl=>bd4 (R:=fun us=>bindArgs _ ⟨us,[]⟩=pure (List.zip _ us)) (fun _ _ _ _=>rfl) us hl) (fun f cdv A outer s H vs Q E hr h=>?_)
  . obtain ⟨vR,vJ,f,x,x',ws,p,w,n,rfl,_⟩:=h; rfl
  . obtain ⟨vR,vJ,fr,x,x',ws,p,wd,n,rfl,F,hp,hR,hl,k⟩:=h
    obtain ⟨s0,n0,e0,rfl⟩:=hR
    refine ⟨_,(Zaf (Zay (ZaL m_Frame_taken (hr.mono (by decide)) (pv 2) (Zaa Zag Zae)))),?_⟩
    walk_at "nx"
    repeat walk_at "rdk"
    refine Zap F.ob rfl ?_
    repeat walk_at "rdk"
    refine ⟨fr,x,ws,s0,[n0],rfl,F,e0,by show 1 <= 1000; decide,fun q H1 _ k1 F1 _=>?_⟩
    repeat walk_at "rdk"
    exact k _ (k_st k1) F1
theorem Zhq:FnScope ["rooms", "journal", "frame", "row"] ["rooms", "journal", "frame", "row"] (Zac Zdt):=⟨rfl,rfl,rfl,by decide +kernel,rfl,by decide +kernel,by decide +kernel⟩
theorem Zhr   {cFrame:Addr} (D:Zaq K mg "copy_row" Zdt) (tFrame:T_Frame K mg cFrame) (m_Frame_lay:MCal P w K mg base 1 cFrame "lay" (spLay cFrame)):Cal P w K mg base 2 "copy_row" (spD K cFrame rCopy):=by
  refine ZaA (N:=["rooms", "journal", "frame", "row"]) (ps:=["rooms", "journal", "frame", "row"]) D Zhq (fun vs H Q E h=>?_) (fun _ _ _ _ _ _ us hl=>bd4 (R:=fun us=>bindArgs _ ⟨us,[]⟩=pure (List.zip _ us)) (fun _ _ _ _=>rfl) us hl) (fun f cdv A outer s H vs Q E hr h=>?_)
  . obtain ⟨vR,vJ,f,x,x',ws,p,w,n,rfl,_⟩:=h; rfl
  . obtain ⟨vR,vJ,fr,x,x',ws,p,wd,n,rfl,F,hp,hR,hl,k⟩:=h
    obtain ⟨n0,v0,rfl,hk,e0,rfl⟩:=hR
    refine ⟨_,(Zaf (Zay (ZaL m_Frame_lay (hr.mono (by decide)) (pv 2) (Zaa (ZaK Zaz (Zal (pv 2) rfl) (ZaC ZdO (ZfR ZdP Zag) (ZaK Zbe (pv 3) Zag (fun _ _=>rfl))) (fun _ _=>rfl)) Zae)))),?_⟩
    walk_at "nx"
    have hp':SqT K H p [.str wd,.int n0]:=hp
    repeat walk_at "rdk"
    refine Zap F.ob rfl ?_
    repeat walk_at "rdk"
    refine Zai F.ob tFrame.k.cl tFrame.n_stack rfl ?_
    repeat walk_at "rdk"
    refine Za7 (ZaF F.st) (ZfA hk e0) ?_
    repeat walk_at "rdk"
    refine ⟨fr,_,ws,_,rfl,F,by show _ <= 1000; omega,fun H1 k1 F1=>?_⟩
    repeat walk_at "rdk"
    exact k _ (k_st k1) F1
theorem Zcj:FnScope ["rooms", "journal", "frame", "row", "stack", "under", "deeper"] ["rooms", "journal", "frame", "row"] (Zac Zdu):=⟨rfl,rfl,rfl,by decide +kernel,rfl,by decide +kernel,by decide +kernel⟩
theorem Zhs   {cFrame:Addr} (D:Zaq K mg "swap_row" Zdu) (tFrame:T_Frame K mg cFrame) (n_len:mg "len" = none):Cal P w K mg base 1 "swap_row" (spD K cFrame rSwap):=by
  refine ZaA (N:=["rooms", "journal", "frame", "row", "stack", "under", "deeper"]) (ps:=["rooms", "journal", "frame", "row"]) D Zcj (fun vs H Q E h=>?_) (fun _ _ _ _ _ _ us hl=>bd4 (R:=fun us=>bindArgs _ ⟨us,[]⟩=pure (List.zip _ us)) (fun _ _ _ _=>rfl) us hl) (fun f cdv A outer s H vs Q E hr h=>?_)
  . obtain ⟨vR,vJ,f,x,x',ws,p,w,n,rfl,_⟩:=h; rfl
  . obtain ⟨vR,vJ,fr,x,x',ws,p,wd,n,rfl,F,hp,hR,hl,k⟩:=h
    obtain ⟨s0,m0,a0,b0,rfl,e0,rfl⟩:=hR
    refine ⟨_,(Zad (Zat (i:=4) Zcj.nd rfl (by first|exact Or.inl rfl|exact Or.inr rfl) (Zal (pv 2) rfl))
      (Zad (Zat (i:=5) Zcj.nd rfl (by first|exact Or.inl rfl|exact Or.inr rfl) (ZaC ZdO (ZaC ZdO (ZaI ZbP rfl n_len PySem.boot_len (Zaa (pv 4) Zae)) Zag) (ZaK Zbe (pv 3) Zag (fun _ _=>rfl))))
      (Zad (Zat (i:=6) Zcj.nd rfl (by first|exact Or.inl rfl|exact Or.inr rfl) (ZaK Zaz (pv 4) (pv 5) (fun _ _=>rfl)))
      (Zad (ZdN (ZaK Zaz (pv 4) (ZfR ZdP Zag) (fun _ _=>rfl)) (ZfQ (pv 4) (pv 5) Zdc))
      (Zaf (ZdN (pv 6) (ZfQ (pv 4) (ZfR ZdP Zag) Zdc))))))),?_⟩
    walk_at "nx"
    have hp':SqT K H p [.str wd,.int ((m0.length + 1:Nat):Int)]:=hp
    have hST:=F.st
    rw [e0] at hST
    repeat walk_at "rdk"
    refine Zai F.ob tFrame.k.cl tFrame.n_stack rfl ?_
    repeat walk_at "rdk"
    have eu:((List.map V.int (s0 ++ a0 :: (m0 ++ [b0]))).length:Int) - 1 - ((m0.length + 1:Nat):Int)=(s0.length:Int):=by
      simp only [List.length_map,List.length_append,List.length_cons,List.length_nil]; omega
    have em:List.map V.int (s0 ++ a0 :: (m0 ++ [b0]))=List.map V.int (s0 ++ a0 :: m0) ++ [V.int b0]:=by simp
    rw [eu]
    refine Za7 (v:=.int a0) (ZaF hST) (Zja (j:=s0.length) (by rw [List.getElem?_map,List.getElem?_append_right (Nat.le_refl _),Nat.sub_self]; rfl)) ?_
    repeat walk_at "rdk"
    refine Za7 (v:=.int b0) (ZaF hST) (by rw [em]; exact Zkn _ _) ?_
    repeat walk_at "rdk"
    refine Zeh hST (Zfc rfl (by simp only [List.length_map,List.length_append,List.length_cons,List.length_nil]; omega)) ?_
    rw [sw1]
    repeat walk_at "rdk"
    refine Zeh Zah (Zjv (j:=s0.length + 1 + m0.length) (by decide) (by simp only [List.length_map,List.length_append,List.length_cons,List.length_nil]; omega)) ?_
    rw [sw2,ZaY]
    exact k _ (k_st (KeptX.upd rfl)) (F.setST _)
theorem Zdl:FnScope ["rooms", "journal", "frame", "row", "taken"] ["rooms", "journal", "frame", "row"] (Zac Zcx):=⟨rfl,rfl,rfl,by decide +kernel,rfl,by decide +kernel,by decide +kernel⟩
theorem ZfB   {cFrame:Addr} (D:Zaq K mg "reckon_row" Zcx) (tFrame:T_Frame K mg cFrame) (m_Frame_taken:MCal P w K mg base 1 cFrame "taken" (ZbY cFrame)) (m_Frame_lay:MCal P w K mg base 1 cFrame "lay" (spLay cFrame)) (c_reckon:Cal P w K mg base 2 "reckon" Zh8):Cal P w K mg base 3 "reckon_row" (spD K cFrame rReck):=by
  refine ZaA (N:=["rooms", "journal", "frame", "row", "taken"]) (ps:=["rooms", "journal", "frame", "row"]) D Zdl (fun vs H Q E h=>?_) (fun _ _ _ _ _ _ us hl=>bd4 (R:=fun us=>bindArgs _ ⟨us,[]⟩=pure (List.zip _ us)) (fun _ _ _ _=>rfl) us hl) (fun f cdv A outer s H vs Q E hr h=>?_)
  . obtain ⟨vR,vJ,f,x,x',ws,p,w,n,rfl,_⟩:=h; rfl
  . obtain ⟨vR,vJ,fr,x,x',ws,p,wd,n,rfl,F,hp,hR,hl,k⟩:=h
    obtain ⟨f0,s0,a0,b0,hf,e0,hi,rfl⟩:=hR
    refine ⟨_,(Zad (Zat (i:=4) Zdl.nd rfl (by first|exact Or.inl rfl|exact Or.inr rfl) (ZaL m_Frame_taken (hr.mono (by decide)) (pv 2) (Zaa Zag Zae)))
      (Zaf (Zay (ZaL m_Frame_lay (hr.mono (by decide)) (pv 2) (Zaa (ZaG c_reckon (hr.mono (by decide)) rfl (Zaa (ZaK Zbe (pv 3) Zag (fun _ _=>rfl)) (Zaa (ZaK Zaz (pv 4) Zag (fun _ _=>rfl)) (Zaa (ZaK Zaz (pv 4) Zag (fun _ _=>rfl)) Zae)))) Zae))))),?_⟩
    walk_at "nx"
    repeat walk_at "rdk"
    refine Zap F.ob rfl ?_
    repeat walk_at "rdk"
    refine ⟨fr,x,ws,s0,[a0,b0],rfl,F,e0,by show 2 <= 1000; decide,fun q H1 _ k1 F1 e1=>?_⟩
    have hp1:=Zci hp F (k_st k1)
    have e1':H1 q=some (.lst [.int a0,.int b0]):=e1
    repeat walk_at "rdk"
    refine Zap F1.ob rfl ?_
    repeat walk_at "rw"
    refine ⟨wd,a0,b0,f0,rfl,hf,hi,?_⟩
    repeat walk_at "rdk"
    have hl1:s0.length <= 900:=by rw [e0,List.length_append] at hl; omega
    refine ⟨fr,_,ws,_,rfl,F1,Nat.le_trans hl1 (by decide),fun H2 k2 F2=>?_⟩
    repeat walk_at "rdk"
    exact k _ (k_st (k1.trans k2)) F2
theorem Zht:FnScope ["rooms", "journal", "frame", "row"] ["rooms", "journal", "frame", "row"] (Zac Zdv):=⟨rfl,rfl,rfl,by decide +kernel,rfl,by decide +kernel,by decide +kernel⟩
theorem Zhu   {cFrame:Addr} (D:Zaq K mg "jump_row" Zdv) (tFrame:T_Frame K mg cFrame):Cal P w K mg base 1 "jump_row" (spD K cFrame rJump):=by
  refine ZaA (N:=["rooms", "journal", "frame", "row"]) (ps:=["rooms", "journal", "frame", "row"]) D Zht (fun vs H Q E h=>?_) (fun _ _ _ _ _ _ us hl=>bd4 (R:=fun us=>bindArgs _ ⟨us,[]⟩=pure (List.zip _ us)) (fun _ _ _ _=>rfl) us hl) (fun f cdv A outer s H vs Q E hr h=>?_)
  . obtain ⟨vR,vJ,f,x,x',ws,p,w,n,rfl,_⟩:=h; rfl
  . obtain ⟨vR,vJ,fr,x,x',ws,p,wd,n,rfl,F,hp,hR,hl,k⟩:=h
    obtain ⟨n0,rfl,rfl⟩:=hR
    refine ⟨_,(Zaf (ZaU (pv 2) (ZaK Zbe (pv 3) Zag (fun _ _=>rfl)) rfl)),?_⟩
    walk_at "nx"
    have hp':SqT K H p [.str wd,.int n0]:=hp
    repeat walk_at "rdk"
    refine Zau F.ob tFrame.k.cl tFrame.n_row (by show 15 < 1000; decide) ?_
    exact k _ (k_a (KeptX.upd rfl)) (F.setF { x with row:=n0 } rfl)
theorem Zdm:FnScope ["rooms", "journal", "frame", "row", "taken"] ["rooms", "journal", "frame", "row"] (Zac Zcy):=⟨rfl,rfl,rfl,by decide +kernel,rfl,by decide +kernel,by decide +kernel⟩
theorem ZfC   {cFrame:Addr} (D:Zaq K mg "jumpif_row" Zcy) (tFrame:T_Frame K mg cFrame) (m_Frame_taken:MCal P w K mg base 1 cFrame "taken" (ZbY cFrame)):Cal P w K mg base 2 "jumpif_row" (spD K cFrame Zhl):=by
  refine ZaA (N:=["rooms", "journal", "frame", "row", "taken"]) (ps:=["rooms", "journal", "frame", "row"]) D Zdm (fun vs H Q E h=>?_) (fun _ _ _ _ _ _ us hl=>bd4 (R:=fun us=>bindArgs _ ⟨us,[]⟩=pure (List.zip _ us)) (fun _ _ _ _=>rfl) us hl) (fun f cdv A outer s H vs Q E hr h=>?_)
  . obtain ⟨vR,vJ,f,x,x',ws,p,w,n,rfl,_⟩:=h; rfl
  . obtain ⟨vR,vJ,fr,x,x',ws,p,wd,n,rfl,F,hp,hR,hl,k⟩:=h
    obtain ⟨n0,s0,t0,rfl,e0,rfl⟩:=hR
    refine ⟨_,(Zad (Zat (i:=4) Zdm.nd rfl (by first|exact Or.inl rfl|exact Or.inr rfl) (ZaL m_Frame_taken (hr.mono (by decide)) (pv 2) (Zaa Zag Zae)))
      (Zaf (Zbi (ZaD Zkg (ZaK Zaz (pv 4) Zag (fun _ _=>rfl)) Zag (nomark _)) (Zaf (ZaU (pv 2) (ZaK Zbe (pv 3) Zag (fun _ _=>rfl)) rfl)) ZaJ))),?_⟩
    walk_at "nx"
    repeat walk_at "rdk"
    refine Zap F.ob rfl ?_
    repeat walk_at "rdk"
    refine ⟨fr,x,ws,s0,[t0],rfl,F,e0,by show 1 <= 1000; decide,fun q H1 _ k1 F1 e1=>?_⟩
    have hp1:SqT K H1 p [.str wd,.int n0]:=Zci hp F (k_st k1)
    have e1':H1 q=some (.lst [.int t0]):=e1
    repeat walk_at "rdk"
    . rename_i ht
      refine Zau F1.ob tFrame.k.cl tFrame.n_row (by show 15 < 1000; decide) ?_
      have:=F1.setF { x with stack:=s0,row:=n0 } rfl
      rw [if_neg ht] at k
      exact k _ ((k_st k1).trans (k_a (KeptX.upd rfl))) this
    . rename_i ht
      rw [if_pos ht] at k
      exact k _ (k_st k1) F1
theorem ZjQ:FnScope ["rooms", "journal", "frame", "row"] ["rooms", "journal", "frame", "row"] (Zac Zfh):=⟨rfl,rfl,rfl,by decide +kernel,rfl,by decide +kernel,by decide +kernel⟩
theorem ZjR   {cFrame:Addr} (D:Zaq K mg "me_row" Zfh) (tFrame:T_Frame K mg cFrame) (m_Frame_lay:MCal P w K mg base 1 cFrame "lay" (spLay cFrame)):Cal P w K mg base 2 "me_row" (spD K cFrame rMe):=by
  refine ZaA (N:=["rooms", "journal", "frame", "row"]) (ps:=["rooms", "journal", "frame", "row"]) D ZjQ (fun vs H Q E h=>?_) (fun _ _ _ _ _ _ us hl=>bd4 (R:=fun us=>bindArgs _ ⟨us,[]⟩=pure (List.zip _ us)) (fun _ _ _ _=>rfl) us hl) (fun f cdv A outer s H vs Q E hr h=>?_)
  . obtain ⟨vR,vJ,f,x,x',ws,p,w,n,rfl,_⟩:=h; rfl
  . obtain ⟨vR,vJ,fr,x,x',ws,p,wd,n,rfl,F,hp,hR,hl,k⟩:=h
    obtain rfl:=hR
    refine ⟨_,(Zaf (Zay (ZaL m_Frame_lay (hr.mono (by decide)) (pv 2) (Zaa (Zal (pv 2) rfl) Zae)))),?_⟩
    walk_at "nx"
    repeat walk_at "rdk"
    refine Zap F.ob rfl ?_
    repeat walk_at "rdk"
    refine Zai F.ob tFrame.k.cl tFrame.n_who rfl ?_
    repeat walk_at "rdk"
    refine ⟨fr,_,ws,_,rfl,F,by show _ <= 1000; omega,fun H1 k1 F1=>?_⟩
    repeat walk_at "rdk"
    exact k _ (k_st k1) F1
theorem Zhv:FnScope ["rooms", "journal", "frame", "row"] ["rooms", "journal", "frame", "row"] (Zac Zdy):=⟨rfl,rfl,rfl,by decide +kernel,rfl,by decide +kernel,by decide +kernel⟩
theorem Zhw   {cFrame:Addr} (D:Zaq K mg "from_row" Zdy) (tFrame:T_Frame K mg cFrame) (m_Frame_lay:MCal P w K mg base 1 cFrame "lay" (spLay cFrame)):Cal P w K mg base 2 "from_row" (spD K cFrame rFrom):=by
  refine ZaA (N:=["rooms", "journal", "frame", "row"]) (ps:=["rooms", "journal", "frame", "row"]) D Zhv (fun vs H Q E h=>?_) (fun _ _ _ _ _ _ us hl=>bd4 (R:=fun us=>bindArgs _ ⟨us,[]⟩=pure (List.zip _ us)) (fun _ _ _ _=>rfl) us hl) (fun f cdv A outer s H vs Q E hr h=>?_)
  . obtain ⟨vR,vJ,f,x,x',ws,p,w,n,rfl,_⟩:=h; rfl
  . obtain ⟨vR,vJ,fr,x,x',ws,p,wd,n,rfl,F,hp,hR,hl,k⟩:=h
    obtain rfl:=hR
    refine ⟨_,(Zaf (Zay (ZaL m_Frame_lay (hr.mono (by decide)) (pv 2) (Zaa (Zal (pv 2) rfl) Zae)))),?_⟩
    walk_at "nx"
    repeat walk_at "rdk"
    refine Zap F.ob rfl ?_
    repeat walk_at "rdk"
    refine Zai F.ob tFrame.k.cl tFrame.n_caller rfl ?_
    repeat walk_at "rdk"
    refine ⟨fr,_,ws,_,rfl,F,by show _ <= 1000; omega,fun H1 k1 F1=>?_⟩
    repeat walk_at "rdk"
    exact k _ (k_st k1) F1
theorem Zhx:FnScope ["rooms", "journal", "frame", "row"] ["rooms", "journal", "frame", "row"] (Zac Zdz):=⟨rfl,rfl,rfl,by decide +kernel,rfl,by decide +kernel,by decide +kernel⟩
theorem Zhy   {cFrame:Addr} (D:Zaq K mg "sent_row" Zdz) (tFrame:T_Frame K mg cFrame) (m_Frame_lay:MCal P w K mg base 1 cFrame "lay" (spLay cFrame)):Cal P w K mg base 2 "sent_row" (spD K cFrame rSent):=by
  refine ZaA (N:=["rooms", "journal", "frame", "row"]) (ps:=["rooms", "journal", "frame", "row"]) D Zhx (fun vs H Q E h=>?_) (fun _ _ _ _ _ _ us hl=>bd4 (R:=fun us=>bindArgs _ ⟨us,[]⟩=pure (List.zip _ us)) (fun _ _ _ _=>rfl) us hl) (fun f cdv A outer s H vs Q E hr h=>?_)
  . obtain ⟨vR,vJ,f,x,x',ws,p,w,n,rfl,_⟩:=h; rfl
  . obtain ⟨vR,vJ,fr,x,x',ws,p,wd,n,rfl,F,hp,hR,hl,k⟩:=h
    obtain rfl:=hR
    refine ⟨_,(Zaf (Zay (ZaL m_Frame_lay (hr.mono (by decide)) (pv 2) (Zaa (Zal (pv 2) rfl) Zae)))),?_⟩
    walk_at "nx"
    repeat walk_at "rdk"
    refine Zap F.ob rfl ?_
    repeat walk_at "rdk"
    refine Zai F.ob tFrame.k.cl tFrame.n_coin rfl ?_
    repeat walk_at "rdk"
    refine ⟨fr,_,ws,_,rfl,F,by show _ <= 1000; omega,fun H1 k1 F1=>?_⟩
    repeat walk_at "rdk"
    exact k _ (k_st k1) F1
theorem Zhz:FnScope ["rooms", "journal", "frame", "row"] ["rooms", "journal", "frame", "row"] (Zac ZdA):=⟨rfl,rfl,rfl,by decide +kernel,rfl,by decide +kernel,by decide +kernel⟩
theorem ZhA   {cFrame:Addr} (D:Zaq K mg "word_row" ZdA) (tFrame:T_Frame K mg cFrame) (m_Frame_lay:MCal P w K mg base 1 cFrame "lay" (spLay cFrame)):Cal P w K mg base 2 "word_row" (spD K cFrame rWord):=by
  refine ZaA (N:=["rooms", "journal", "frame", "row"]) (ps:=["rooms", "journal", "frame", "row"]) D Zhz (fun vs H Q E h=>?_) (fun _ _ _ _ _ _ us hl=>bd4 (R:=fun us=>bindArgs _ ⟨us,[]⟩=pure (List.zip _ us)) (fun _ _ _ _=>rfl) us hl) (fun f cdv A outer s H vs Q E hr h=>?_)
  . obtain ⟨vR,vJ,f,x,x',ws,p,w,n,rfl,_⟩:=h; rfl
  . obtain ⟨vR,vJ,fr,x,x',ws,p,wd,n,rfl,F,hp,hR,hl,k⟩:=h
    obtain rfl:=hR
    refine ⟨_,(Zaf (Zay (ZaL m_Frame_lay (hr.mono (by decide)) (pv 2) (Zaa (Zal (pv 2) rfl) Zae)))),?_⟩
    walk_at "nx"
    repeat walk_at "rdk"
    refine Zap F.ob rfl ?_
    repeat walk_at "rdk"
    refine Zai F.ob tFrame.k.cl tFrame.n_word rfl ?_
    repeat walk_at "rdk"
    refine ⟨fr,_,ws,_,rfl,F,by show _ <= 1000; omega,fun H1 k1 F1=>?_⟩
    repeat walk_at "rdk"
    exact k _ (k_st k1) F1
theorem Zew:FnScope ["rooms", "journal", "frame", "row", "taken"] ["rooms", "journal", "frame", "row"] (Zac ZdD):=⟨rfl,rfl,rfl,by decide +kernel,rfl,by decide +kernel,by decide +kernel⟩
theorem ZhB   {cFrame:Addr} (D:Zaq K mg "give_row" ZdD) (tFrame:T_Frame K mg cFrame) (m_Frame_taken:MCal P w K mg base 1 cFrame "taken" (ZbY cFrame)) (m_Frame_finish:MCal P w K mg base 1 cFrame "finish" (ZcL cFrame)):Cal P w K mg base 2 "give_row" (spD K cFrame rGive):=by
  refine ZaA (N:=["rooms", "journal", "frame", "row", "taken"]) (ps:=["rooms", "journal", "frame", "row"]) D Zew (fun vs H Q E h=>?_) (fun _ _ _ _ _ _ us hl=>bd4 (R:=fun us=>bindArgs _ ⟨us,[]⟩=pure (List.zip _ us)) (fun _ _ _ _=>rfl) us hl) (fun f cdv A outer s H vs Q E hr h=>?_)
  . obtain ⟨vR,vJ,f,x,x',ws,p,w,n,rfl,_⟩:=h; rfl
  . obtain ⟨vR,vJ,fr,x,x',ws,p,wd,n,rfl,F,hp,hR,hl,k⟩:=h
    obtain ⟨s0,t0,e0,rfl⟩:=hR
    refine ⟨_,(Zad (Zat (i:=4) Zew.nd rfl (by first|exact Or.inl rfl|exact Or.inr rfl) (ZaL m_Frame_taken (hr.mono (by decide)) (pv 2) (Zaa Zag Zae)))
      (Zaf (Zay (ZaL m_Frame_finish (hr.mono (by decide)) (pv 2) (Zaa Zav (Zaa (ZaK Zaz (pv 4) Zag (fun _ _=>rfl)) Zae)))))),?_⟩
    walk_at "nx"
    repeat walk_at "rdk"
    refine Zap F.ob rfl ?_
    repeat walk_at "rdk"
    refine ⟨fr,x,ws,s0,[t0],rfl,F,e0,by show 1 <= 1000; decide,fun q H1 _ k1 F1 e1=>?_⟩
    have e1':H1 q=some (.lst [.int t0]):=e1
    repeat walk_at "rdk"
    refine Zap F1.ob rfl ?_
    repeat walk_at "rdk"
    refine ⟨fr,_,ws, "well", t0,rfl,F1,fun H2 k2 F2=>?_⟩
    repeat walk_at "rdk"
    exact k _ ((k_st k1).trans (k_a k2)) F2
theorem Zex:FnScope ["rooms", "journal", "frame", "row", "taken"] ["rooms", "journal", "frame", "row"] (Zac ZdE):=⟨rfl,rfl,rfl,by decide +kernel,rfl,by decide +kernel,by decide +kernel⟩
theorem ZhC   {cFrame:Addr} (D:Zaq K mg "fail_row" ZdE) (tFrame:T_Frame K mg cFrame) (m_Frame_taken:MCal P w K mg base 1 cFrame "taken" (ZbY cFrame)) (m_Frame_finish:MCal P w K mg base 1 cFrame "finish" (ZcL cFrame)):Cal P w K mg base 2 "fail_row" (spD K cFrame rFail):=by
  refine ZaA (N:=["rooms", "journal", "frame", "row", "taken"]) (ps:=["rooms", "journal", "frame", "row"]) D Zex (fun vs H Q E h=>?_) (fun _ _ _ _ _ _ us hl=>bd4 (R:=fun us=>bindArgs _ ⟨us,[]⟩=pure (List.zip _ us)) (fun _ _ _ _=>rfl) us hl) (fun f cdv A outer s H vs Q E hr h=>?_)
  . obtain ⟨vR,vJ,f,x,x',ws,p,w,n,rfl,_⟩:=h; rfl
  . obtain ⟨vR,vJ,fr,x,x',ws,p,wd,n,rfl,F,hp,hR,hl,k⟩:=h
    obtain ⟨s0,t0,e0,rfl⟩:=hR
    refine ⟨_,(Zad (Zat (i:=4) Zex.nd rfl (by first|exact Or.inl rfl|exact Or.inr rfl) (ZaL m_Frame_taken (hr.mono (by decide)) (pv 2) (Zaa Zag Zae)))
      (Zaf (Zay (ZaL m_Frame_finish (hr.mono (by decide)) (pv 2) (Zaa Zav (Zaa (ZaK Zaz (pv 4) Zag (fun _ _=>rfl)) Zae)))))),?_⟩
    walk_at "nx"
    repeat walk_at "rdk"
    refine Zap F.ob rfl ?_
    repeat walk_at "rdk"
    refine ⟨fr,x,ws,s0,[t0],rfl,F,e0,by show 1 <= 1000; decide,fun q H1 _ k1 F1 e1=>?_⟩
    have e1':H1 q=some (.lst [.int t0]):=e1
    repeat walk_at "rdk"
    refine Zap F1.ob rfl ?_
    repeat walk_at "rdk"
    refine ⟨fr,_,ws, "fail", t0,rfl,F1,fun H2 k2 F2=>?_⟩
    repeat walk_at "rdk"
    exact k _ ((k_st k1).trans (k_a k2)) F2
end
noncomputable def Zck (x:FrS) (w:Str) (b:Bool):Prop:=(w ≠ "call" /\ b=false)\/(w = "call" /\ ∃ s c u v,x.stack=s ++ [c,u,v]/\b=decide (0 < c))
noncomputable def fillsR (A:Nat->Option AcI) (S:Nat->AcS) (x:FrS) (w:Str) (b:Bool):Prop:=(w ≠ "save" /\ b=false)\/(w = "save" /\ ∃ s p v,x.stack=s ++ [p,v]/\((v=0/\b=false)\/(v ≠ 0/\∃ i y,x.who=((i:Nat):Int)/\i < 16/\A i=some y/\b=decide ((S i).store p=0))))
noncomputable def ZfD (K:PySem.W.Frag) (cF:Addr):Sp:=fun vs H Q _=>∃ (f:FrI) (x:FrS) (ws:List V) (p:Addr) (w:Str) (n:Option Int) (b:Bool),vs=[.ref f.a,.ref p]/\FrAt cF H f x ws/\ZbM K H p w n/\Zck x w b/\Q (.bl b) H
noncomputable def ZjS (K:PySem.W.Frag) (C cF:Addr):Sp:=fun vs H Q _=>∃ (R:Addr) (A:Nat->Option AcI) (S:Nat->AcS) (m:Nat) (f:FrI) (x:FrS) (ws:List V) (p:Addr) (w:Str) (n:Option Int) (b:Bool),vs=[.ref R,.ref f.a,.ref p]/\Rooms K C H R A S m/\FrAt cF H f x ws/\ZbM K H p w n/\fillsR A S x w b/\Q (.bl b) H
noncomputable def ZcM (K:PySem.W.Frag) (C cF:Addr):Sp:=fun vs H Q _=>∃ (R:Addr) (A:Nat->Option AcI) (S:Nat->AcS) (m:Nat) (f:FrI) (x:FrS) (ws:List V) (p:Addr) (w:Str) (n:Option Int) (b1 b2:Bool) (t l pr d:Int),vs=[.ref R,.ref f.a,.ref p]/\Rooms K C H R A S m/\FrAt cF H f x ws/\ZbM K H p w n/\Zck x w b1/\fillsR A S x w b2/\RT.lookup w=some (t,l,pr,d)/\Q (.int (if (b1 || b2)=true then d else pr)) H
noncomputable def barB (x:FrS) (w:Str) (b1:Bool):Bool:=x.looking && (inS w ["save", "note"] || b1)
noncomputable def Zif (K:PySem.W.Frag) (cF:Addr):Sp:=fun vs H Q _=>∃ (f:FrI) (x:FrS) (ws:List V) (p:Addr) (w:Str) (n:Option Int) (b1:Bool),vs=[.ref f.a,.ref p]/\FrAt cF H f x ws/\ZbM K H p w n/\Zck x w b1/\∀ H',Same H H'->Q (.bl (barB x w b1)) H'
noncomputable def aheadR (A:Nat->Option AcI) (S:Nat->AcS) (x:FrS) (w:Str) (n:Option Int) (e:Option Str):Prop:=∃ r t l pr d,ZbX w n=some r/\RT.lookup w=some (t,l,pr,d) /\
  (((x.stack.length:Int) < t + r/\e=some ("short" : Str))\/(¬ (x.stack.length:Int) < t + r/\24 < (x.stack.length:Int) - (t + r) + (l + r)/\e=some ("full" : Str))\/(¬ (x.stack.length:Int) < t + r/\¬ 24 < (x.stack.length:Int) - (t + r) + (l + r) /\
    ∃ b1 b2,Zck x w b1/\fillsR A S x w b2/\((barB x w b1=true/\e=some ("barred" : Str))\/(barB x w b1=false/\x.given - x.used < (if (b1 || b2)=true then d else pr)/\e=some ("dry" : Str))\/(barB x w b1=false/\¬ x.given - x.used < (if (b1 || b2)=true then d else pr)/\e=none))))
noncomputable def ZhD (K:PySem.W.Frag) (C cF:Addr):Sp:=fun vs H Q _=>∃ (R:Addr) (A:Nat->Option AcI) (S:Nat->AcS) (m:Nat) (f:FrI) (x:FrS) (ws:List V) (p:Addr) (w:Str) (n:Option Int) (e:Option Str),vs=[.ref R,.ref f.a,.ref p]/\Rooms K C H R A S m/\FrAt cF H f x ws/\ZbM K H p w n/\aheadR A S x w n e/\∀ H',Same H H'->Q (endV e) H'
theorem at_m3 {xs s:List Int} {c u v:Int} (e:xs=s ++ [c,u,v]):atI (xs.map V.int) (-3)=some (.int c):=by
  have h:atI (xs.map V.int) (-1 - ((2:Nat):Int))=some (.int c):=ZfA (by rw [e]; simp) (by rw [e]; simp)
  exact h
theorem at_m2 {xs s:List Int} {u v:Int} (e:xs=s ++ [u,v]):atI (xs.map V.int) (-2)=some (.int u):=by
  have h:atI (xs.map V.int) (-1 - ((1:Nat):Int))=some (.int u):=ZfA (by rw [e]; simp) (by rw [e]; simp)
  exact h
theorem at_m1 {xs s:List Int} {v:Int} (e:xs=s ++ [v]):atI (xs.map V.int) (-1)=some (.int v):=by
  have h:atI (xs.map V.int) (-1 - ((0:Nat):Int))=some (.int v):=ZfA (by rw [e]; simp) (by rw [e]; simp)
  exact h
section
variable {P:Program} {w:World} {K:PySem.W.Frag} {mg:Str->Option Value} {base:Heap}
theorem ZeO:FnScope ["frame", "row"] ["frame", "row"] (Zac Zcf):=⟨rfl,rfl,rfl,by decide +kernel,rfl,by decide +kernel,by decide +kernel⟩
theorem ZeP   {cFrame:Addr} (D:Zaq K mg "brings_coin" Zcf) (tFrame:T_Frame K mg cFrame):Cal P w K mg base 1 "brings_coin" (ZfD K cFrame):=by
  refine ZaA (N:=["frame", "row"]) (ps:=["frame", "row"]) D ZeO (fun vs H Q E h=>?_) (fun _ _ _ _ _ _ us hl=>bd2 (R:=fun us=>bindArgs _ ⟨us,[]⟩=pure (List.zip _ us)) (fun _ _=>rfl) us hl) (fun f cdv A outer s H vs Q E hr h=>?_)
  . obtain ⟨f,x,ws,p,w,n,b,rfl,_⟩:=h; rfl
  . obtain ⟨fr,x,ws,p,wd,n,b,rfl,F,hp,hb,k⟩:=h
    refine ⟨_,(Zaf (Zar (ZeU (ZbI Zb7 (ZaK Zbe (pv 1) Zag (fun _ _=>rfl)) Zav (nomark _)) (Zd6 (ZbI Ze5 (ZaK Zaz (Zal (pv 0) rfl) (ZfR ZdP Zag) (fun _ _=>rfl)) Zag (nomark _)))))),?_⟩
    walk_at "nx"
    rcases hb with ⟨hw,rfl⟩|⟨rfl,s0,c,u,v,e0,rfl⟩
    . repeat' walk_at "rw"
      . exact absurd (by assumption) hw
      . exact k
    . repeat' walk_at "rw"
      . refine Zai F.ob tFrame.k.cl tFrame.n_stack rfl ?_
        repeat walk_at "rw"
        refine Za7 (ZaF F.st) (at_m3 e0) ?_
        repeat walk_at "rw"
        exact k
      . rename_i z; exact absurd rfl z
theorem ZeQ:FnScope ["rooms", "frame", "row"] ["rooms", "frame", "row"] (Zac Zcg):=⟨rfl,rfl,rfl,by decide +kernel,rfl,by decide +kernel,by decide +kernel⟩
theorem ZeR   {cFrame:Addr} {cAccount:Addr} (D:Zaq K mg "fills_place" Zcg) (tFrame:T_Frame K mg cFrame) (tAccount:T_Account K mg cAccount) (m_Account_loaded:MCal P w K mg base 1 cAccount "loaded" (Zd3 K cAccount)):Cal P w K mg base 2 "fills_place" (ZjS K cAccount cFrame):=by
  refine ZaA (N:=["rooms", "frame", "row"]) (ps:=["rooms", "frame", "row"]) D ZeQ (fun vs H Q E h=>?_) (fun _ _ _ _ _ _ us hl=>bd3 (R:=fun us=>bindArgs _ ⟨us,[]⟩=pure (List.zip _ us)) (fun _ _ _=>rfl) us hl) (fun f cdv A outer s H vs Q E hr h=>?_)
  . obtain ⟨R,A,S,m,f,x,ws,p,w,n,b,rfl,_⟩:=h; rfl
  . obtain ⟨R,Ar,S,m,fr,x,ws,p,wd,n,b,rfl,r,F,hp,hb,k⟩:=h
    refine ⟨_,(Zad (Zbi (PW.pt (pw_or (ZaD Zkg (ZaK Zbe (pv 2) Zag (fun _ _=>rfl)) Zav (nomark _)) (Zle (ZaD Zb7 (ZaK Zaz (Zal (pv 1) rfl) (ZfR ZdP Zag) (fun _ _=>rfl)) Zag (nomark _))))) (Zaf (Zar ZfP)) ZaJ)
      (Zaf (Zar (ZbI Zb7 (ZaL m_Account_loaded (hr.mono (by decide)) (ZaK Zaz (pv 0) (Zal (pv 1) rfl) (fun _ _=>rfl)) (Zaa (ZaK Zaz (Zal (pv 1) rfl) (ZfR ZdP Zag) (fun _ _=>rfl)) Zae)) Zag (nomark _))))),?_⟩
    walk_at "nx"
    rcases hb with ⟨hw,rfl⟩|⟨rfl,s0,pl,v,e0,hb⟩
    . repeat' walk_at "rw"
      . exact k
      . exact absurd (by assumption) hw
    . have e1:x.stack=(s0 ++ [pl]) ++ [v]:=by rw [e0]; simp
      repeat' walk_at "rw"
      . rename_i z; exact absurd rfl z
      . refine Zai F.ob tFrame.k.cl tFrame.n_stack rfl ?_
        repeat walk_at "rw"
        refine Za7 (ZaF F.st) (at_m1 e1) ?_
        repeat' walk_at "rw"
        . rename_i z
          rcases hb with ⟨_,rfl⟩|⟨hv,_⟩
          . exact k
          . exact absurd z hv
        . rename_i z
          rcases hb with ⟨hv,_⟩|⟨_,i,y,ew,hi,hy,rfl⟩
          . exact absurd hv z
          . refine Zai F.ob tFrame.k.cl tFrame.n_who rfl ?_
            rw [ew]
            refine Za7 (ZaF r.ob) (r.at hi hy) ?_
            have ay:=r.ac i y hi hy
            refine Zap ay.ob rfl ?_
            repeat walk_at "rw"
            refine Zai F.ob tFrame.k.cl tFrame.n_stack rfl ?_
            repeat walk_at "rw"
            refine Za7 (ZaF F.st) (at_m2 e0) ?_
            repeat walk_at "rw"
            refine ⟨y.a,y.dx,y.pr,y.st,_,_,_,_,_,m,pl,rfl,ay,?_⟩
            repeat walk_at "rw"
            exact k
theorem ZgG:FnScope ["rooms", "frame", "row"] ["rooms", "frame", "row"] (Zac ZcY):=⟨rfl,rfl,rfl,by decide +kernel,rfl,by decide +kernel,by decide +kernel⟩
theorem ZgH    (D:Zaq K mg "row_price" ZcY) (cd2_price:CalD P w K mg base 1 "price" (ZjG K) []) (c_brings_coin:Cal P w K mg base 1 "brings_coin" (ZfD K cFrame)) (c_fills_place:Cal P w K mg base 2 "fills_place" (ZjS K cAccount cFrame)):Cal P w K mg base 3 "row_price" (ZcM K cAccount cFrame):=by
  refine ZaA (N:=["rooms", "frame", "row"]) (ps:=["rooms", "frame", "row"]) D ZgG (fun vs H Q E h=>?_) (fun _ _ _ _ _ _ us hl=>bd3 (R:=fun us=>bindArgs _ ⟨us,[]⟩=pure (List.zip _ us)) (fun _ _ _=>rfl) us hl) (fun f cdv A outer s H vs Q E hr h=>?_)
  . obtain ⟨R,A,S,m,f,x,ws,p,w,n,b1,b2,t,l,pr,d,rfl,_⟩:=h; rfl
  . obtain ⟨R,Ar,S,m,fr,x,ws,p,wd,n,b1,b2,t,l,pr,d,rfl,r,F,hp,hb1,hb2,ht,k⟩:=h
    refine ⟨_,(Zaf (Zar (Zmb cd2_price (hr.mono (by decide)) rfl (Zaa (pv 2) (Zaa (pe_or (ZaG c_brings_coin (hr.mono (by decide)) rfl (Zaa (pv 1) (Zaa (pv 2) Zae))) (Zd6 (ZaG c_fills_place (hr.mono (by decide)) rfl (Zaa (pv 0) (Zaa (pv 1) (Zaa (pv 2) Zae)))))) Zae))))),?_⟩
    walk_at "nx"
    repeat walk_at "rw"
    refine ⟨fr,x,ws,p,wd,n,b1,rfl,F,hp,hb1,?_⟩
    cases b1 with
    | true =>
      repeat walk_at "rw"
      exact ⟨p,wd,n,t,l,pr,d,true,rfl,hp,ht,k⟩
    | false =>
      repeat walk_at "rw"
      refine ⟨R,Ar,S,m,fr,x,ws,p,wd,n,b2,rfl,r,F,hp,hb2,?_⟩
      repeat walk_at "rw"
      exact ⟨p,wd,n,t,l,pr,d,b2,rfl,hp,ht,k⟩
theorem ZgI:FnScope ["frame", "row"] ["frame", "row"] (Zac ZcZ):=⟨rfl,rfl,rfl,by decide +kernel,rfl,by decide +kernel,by decide +kernel⟩
theorem ZgJ   {cFrame:Addr} (D:Zaq K mg "is_barred" ZcZ) (tFrame:T_Frame K mg cFrame) (c_brings_coin:Cal P w K mg base 1 "brings_coin" (ZfD K cFrame)):Cal P w K mg base 2 "is_barred" (Zif K cFrame):=by
  refine ZaA (N:=["frame", "row"]) (ps:=["frame", "row"]) D ZgI (fun vs H Q E h=>?_) (fun _ _ _ _ _ _ us hl=>bd2 (R:=fun us=>bindArgs _ ⟨us,[]⟩=pure (List.zip _ us)) (fun _ _=>rfl) us hl) (fun f cdv A outer s H vs Q E hr h=>?_)
  . obtain ⟨f,x,ws,p,w,n,b,rfl,_⟩:=h; rfl
  . obtain ⟨fr,x,ws,p,wd,n,b,rfl,F,hp,hb,k⟩:=h
    refine ⟨_,(Zaf (Zar (ZeU (Zal (pv 0) rfl) (Zd6 (pe_or (ZbI Zeb (ZaK Zbe (pv 1) Zag (fun _ _=>rfl)) (ZaQ (Zaa Zav (Zaa Zav Zae))) rfl) (Zd6 (ZaG c_brings_coin (hr.mono (by decide)) rfl (Zaa (pv 0) (Zaa (pv 1) Zae))))))))),?_⟩
    walk_at "nx"
    repeat walk_at "rw"
    refine Zai F.ob tFrame.k.cl tFrame.n_looking rfl ?_
    unfold barB at k
    cases e:x.looking with
    | false =>
      rw [e] at k
      repeat walk_at "rw"
      exact k H (Same.refl H)
    | true =>
      rw [e] at k
      repeat walk_at "rw"
      refine ⟨by decide,fun q hq=>?_⟩
      have s1:Same H (upd H q (.tup [.str "save", .str "note"])):=Same.new hq
      refine Zjm (xs:=["save", "note"]) Zji ?_
      have F1:=F.same s1
      have hp1:ZbM K _ p wd n:=s1.tup hp
      generalize upd H q _=H1 at s1 F1 hp1
      cases e2:inS wd ["save", "note"] with
      | true =>
        rw [e2] at k
        repeat walk_at "rw"
        exact k H1 s1
      | false =>
        rw [e2] at k
        repeat walk_at "rw"
        exact ⟨fr,x,ws,p,wd,n,b,rfl,F1,hp1,hb,k H1 s1⟩
theorem Zey:FnScope ["rooms", "frame", "row"] ["rooms", "frame", "row"] (Zac Zb4):=⟨rfl,rfl,rfl,by decide +kernel,rfl,by decide +kernel,by decide +kernel⟩
theorem Zez   {cFrame:Addr} (D:Zaq K mg "end_ahead_of" Zb4) (tFrame:T_Frame K mg cFrame) (m_Frame_short_for:MCal P w K mg base 3 cFrame "short_for" (ZjP K cFrame)) (m_Frame_full_behind:MCal P w K mg base 3 cFrame "full_behind" (spFull K cFrame)) (m_Frame_left:MCal P w K mg base 1 cFrame "left" (spLeft cFrame)) (c_is_barred:Cal P w K mg base 2 "is_barred" (Zif K cFrame)) (c_row_price:Cal P w K mg base 3 "row_price" (ZcM K cAccount cFrame)):Cal P w K mg base 4 "end_ahead_of" (ZhD K cAccount cFrame):=by
  refine ZaA (N:=["rooms", "frame", "row"]) (ps:=["rooms", "frame", "row"]) D Zey (fun vs H Q E h=>?_) (fun _ _ _ _ _ _ us hl=>bd3 (R:=fun us=>bindArgs _ ⟨us,[]⟩=pure (List.zip _ us)) (fun _ _ _=>rfl) us hl) (fun f cdv A outer s H vs Q E hr h=>?_)
  . obtain ⟨R,A,S,m,f,x,ws,p,w,n,e,rfl,_⟩:=h; rfl
  . obtain ⟨R,Ar,S,m,fr,x,ws,p,wd,n,e,rfl,r,F,hp,⟨rr,t,l,pr,d,hr1,hr2,ha⟩,k⟩:=h
    refine ⟨_,(Zad (Zbi (Zb6 (ZaL m_Frame_short_for (hr.mono (by decide)) (pv 1) (Zaa (pv 2) Zae))) (Zaf (Zar Zav)) ZaJ)
      (Zad (Zbi (Zb6 (ZaL m_Frame_full_behind (hr.mono (by decide)) (pv 1) (Zaa (pv 2) Zae))) (Zaf (Zar Zav)) ZaJ)
      (Zad (Zbi (Zb6 (ZaG c_is_barred (hr.mono (by decide)) rfl (Zaa (pv 1) (Zaa (pv 2) Zae)))) (Zaf (Zar Zav)) ZaJ)
      (Zad (Zbi (ZaD Ze5 (ZaG c_row_price (hr.mono (by decide)) rfl (Zaa (pv 0) (Zaa (pv 1) (Zaa (pv 2) Zae)))) (ZcI m_Frame_left (hr.mono (by decide)) (pv 1)) (nomark _)) (Zaf (Zar Zav)) ZaJ)
      (Zaf (Zar Zcn)))))),?_⟩
    walk_at "nx"
    rcases ha with ⟨h1,rfl⟩|⟨h1,h2,rfl⟩|⟨h1,h2,b1,b2,hb1,hb2,ha⟩
    . skip
      repeat walk_at "rz"
      refine Zap F.ob rfl ?_
      repeat walk_at "rz"
      refine ⟨fr,x,ws,p,wd,n,rr,t,l,pr,d,rfl,F,hp,hr1,hr2,?_⟩
      repeat walk_at "rz"
      exact k H (Same.refl H)
    . skip
      repeat walk_at "rz"
      refine Zap F.ob rfl ?_
      repeat walk_at "rz"
      refine ⟨fr,x,ws,p,wd,n,rr,t,l,pr,d,rfl,F,hp,hr1,hr2,?_⟩
      repeat walk_at "rz"
      refine Zap F.ob rfl ?_
      repeat walk_at "rz"
      refine ⟨fr,x,ws,p,wd,n,rr,t,l,pr,d,rfl,F,hp,hr1,hr2,?_⟩
      repeat walk_at "rz"
      exact k H (Same.refl H)
    . skip
      repeat walk_at "rz"
      refine Zap F.ob rfl ?_
      repeat walk_at "rz"
      refine ⟨fr,x,ws,p,wd,n,rr,t,l,pr,d,rfl,F,hp,hr1,hr2,?_⟩
      repeat walk_at "rz"
      refine Zap F.ob rfl ?_
      repeat walk_at "rz"
      refine ⟨fr,x,ws,p,wd,n,rr,t,l,pr,d,rfl,F,hp,hr1,hr2,?_⟩
      repeat walk_at "rz"
      refine ⟨fr,x,ws,p,wd,n,b1,rfl,F,hp,hb1,fun H1 s1=>?_⟩
      have F1:=F.same s1
      have r1:=r.same s1
      have hp1:ZbM K H1 p wd n:=s1.tup hp
      rcases ha with ⟨hbar,rfl⟩|⟨hbar,hdr,rfl⟩|⟨hbar,hdr,rfl⟩
      . rw [hbar]
        repeat walk_at "rz"
        exact k H1 s1
      . skip
        rw [hbar]
        repeat walk_at "rz"
        refine ⟨R,Ar,S,m,fr,x,ws,p,wd,n,b1,b2,t,l,pr,d,rfl,r1,F1,hp1,hb1,hb2,hr2,?_⟩
        generalize (if (b1 || b2)=true then d else pr)=z at hdr |-
        repeat walk_at "rz"
        refine Zap F1.ob rfl ?_
        refine ⟨fr,x,ws,rfl,F1,?_⟩
        repeat walk_at "rz"
        exact k H1 s1
      . skip
        rw [hbar]
        repeat walk_at "rz"
        refine ⟨R,Ar,S,m,fr,x,ws,p,wd,n,b1,b2,t,l,pr,d,rfl,r1,F1,hp1,hb1,hb2,hr2,?_⟩
        generalize (if (b1 || b2)=true then d else pr)=z at hdr |-
        repeat walk_at "rz"
        refine Zap F1.ob rfl ?_
        refine ⟨fr,x,ws,rfl,F1,?_⟩
        repeat walk_at "rz"
        exact k H1 s1
end
noncomputable def inF3 (f:FrI) (b:Addr):Prop:=b=f.a\/b=f.ST\/b=f.SS
theorem k_F3 {f:FrI} {H H':Hp} (k:KeptX (inF f) H H'):KeptX (inF3 f) H H':=k.mono fun _ h=>h.elim .inl fun z=>.inr (.inl z)
noncomputable def ZdI (x:FrS) (c:Int):FrS:={ x with used:=x.used + c,row:=x.row + 1 }
structure Ap (R L:Addr) (A:Nat->Option AcI) (f:FrI):Prop where
  tR:f.ST ≠ R
  sR:f.SS ≠ R
  tL:f.ST ≠ L
  sL:f.SS ≠ L
  p:∀ i y,i < 16->A i=some y->f.ST ≠ y.pr/\f.SS ≠ y.pr
noncomputable def goX (A:Nat->Option AcI) (L:Addr) (f:FrI) (b:Addr):Prop:=¬ Out A b\/b=L\/inF3 f b
section
variable {K:PySem.W.Frag} {C cJ cS cM cN cF:Addr} {H H':Hp} {j dx R L:Addr} {A:Nat->Option AcI} {S:Nat->AcS} {m:Nat} {es:List DI} {f:FrI} {x:FrS} {ws:List V}
theorem Zdn (k:KeptX (inF3 f) H H'):KeptX (goX A L f) H H':=k.mono fun _ h=>.inr (.inr h)
theorem ZjT (k:∀ b,Out A b->b ≠ L->H' b=H b):KeptX (goX A L f) H H':=fun b o e n=>by
  have h1:Out A b:=Classical.byContradiction fun z=>n (.inl z)
  have h2:b ≠ L:=fun z=>n (.inr (.inl z))
  rw [k b h1 h2]; exact e
theorem imm_F3 (F:FrAt cF H f x ws) (k:KeptX (inF3 f) H H'):SameI H H':=k.imm fun b o z e i=>by
  rcases z with rfl|rfl|rfl
  . rw [F.ob] at e; cases e; exact ZcJ i
  . rw [F.st] at e; cases e; exact ZbJ i
  . rw [F.ss] at e; cases e; exact ZbJ i
theorem ZdJ (F:FrAt cF H f x ws) {b C' dx':Addr} {fs:List (Str × V)} (h:H b=some (.ins C' dx' fs)) (n:fs.length ≠ 15):¬ inF3 f b:=by
  rintro (z|z|z)
  . exact Zic h F.ob n z
  . exact Zbl h F.st (by intro z; cases z) z
  . exact Zbl h F.ss (by intro z; cases z) z
theorem ZjU (F:FrAt cF H f x ws) {b:Addr} {kvs:List (Key × V)} (h:H b=some (.dK kvs)):¬ inF3 f b:=by
  rintro (z|z|z)
  . exact Zbl h F.ob (by intro z; cases z) z
  . exact Zbl h F.st (by intro z; cases z) z
  . exact Zbl h F.ss (by intro z; cases z) z
theorem ZdK (F:FrAt cF H f x ws) {b:Addr} {xs:List V} (h:H b=some (.lst xs)) (n1:f.ST ≠ b) (n2:f.SS ≠ b):¬ inF3 f b:=by
  rintro (z|z|z)
  . exact Zbl h F.ob (by intro z; cases z) z
  . exact n1 z.symm
  . exact n2 z.symm
theorem Rooms.frame (r:Rooms K C H R A S m) (F:FrAt cF H f x ws) (a:Ap R L A f) (k:KeptX (inF3 f) H H'):Rooms K C H' R A S m:=by
  have im:=imm_F3 F k
  refine ⟨k _ _ r.ob (ZdK F r.ob a.tR a.sR),fun i y hi hy=>?_,r.da,r.ds⟩
  have h:=r.ac i y hi hy
  obtain ⟨zs,e1,e2⟩:=h.pg
  obtain ⟨kvs,e3,e4⟩:=h.sto
  exact ⟨k _ _ h.ob (ZdJ F h.ob (by show 5 ≠ 15; decide)),⟨zs,k _ _ e1 (ZdK F e1 (a.p i y hi hy).1 (a.p i y hi hy).2),e2.keep im⟩,kvs,k _ _ e3 (ZjU F e3),e4⟩
theorem Jr.frame (J:Jr cJ cS cM cN H j dx R L A es) (F:FrAt cF H f x ws) (a:Ap R L A f) (k:KeptX (inF3 f) H H'):Jr cJ cS cM cN H' j dx R L A es :=
  ⟨k _ _ J.ob (ZdJ F J.ob (by show 2 ≠ 15; decide)),k _ _ J.li (ZdK F J.li a.tL a.sL),fun e he=>⟨k _ _ (J.de e he).1 (ZdJ F (J.de e he).1 (by have:=Zfu e.d; omega)),(J.de e he).2⟩,J.nR,J.np⟩
theorem FrAt.out (F:FrAt cF H f x ws) (r:Rooms K C H R A S m) (a:Ap R L A f) (lL:H L=some (.lst (es.map fun e=>V.ref e.o))) (k:∀ b,Out A b->b ≠ L->H' b=H b):FrAt cF H' f x ws:=by
  have oa:Out A f.a:=fun i y hi hy=>⟨Zic F.ob (r.ac i y hi hy).ob (by show 15 ≠ 5; decide),let ⟨_,g,_⟩:=(r.ac i y hi hy).sto; Zbl F.ob g (by intro z; cases z)⟩
  exact ⟨by rw [k _ oa (Zbl F.ob lL (by intro z; cases z))]; exact F.ob,by rw [k _ (r.outL F.st) a.tL]; exact F.st,by rw [k _ (r.outL F.ss) a.sL]; exact F.ss,F.ne⟩
end
noncomputable def ZbZ (K:PySem.W.Frag) (C cJ cS cM cN cF:Addr):Sp:=fun vs H Q _=>∃ (j dx R L:Addr) (A:Nat->Option AcI) (S:Nat->AcS) (m:Nat) (es:List DI) (e:DI) (f:FrI) (x:FrS) (ws:List V),vs=[.ref j,.ref f.a,.ref e.o]/\Jr cJ cS cM cN H j dx R L A es/\Rooms K C H R A S m/\H e.o=some (.ins (clsD cS cM cN e.d) e.dx (fldD e.d))/\fitsD A e.d/\m <= 1000000/\es.length < 1000000/\FrAt cF H f x ws/\Ap R L A f/\ws.length <= 100000 /\
  ∀ t H',H t=none->KeptX (goX A L f) H H'->Rooms K C H' R A (doneS S e.d) (m + 1)->Jr cJ cS cM cN H' j dx R L A (es ++ [e])->FrAt cF H' f x (ws ++ [.ref t])->H' t=some (.tup (tellV e.d))->Q .non H'
section
variable {P:Program} {w:World} {K:PySem.W.Frag} {mg:Str->Option Value} {base:Heap}
theorem ZfE:FnScope ["journal", "frame", "deed"] ["journal", "frame", "deed"] (Zac Zcw):=⟨rfl,rfl,rfl,by decide +kernel,rfl,by decide +kernel,by decide +kernel⟩
theorem ZfF   {cJournal:Addr} {cFrame:Addr} {cSave:Addr} {cMove:Addr} {cNote:Addr} (D:Zaq K mg "write_step" Zcw) (tJournal:T_Journal K mg cJournal) (tFrame:T_Frame K mg cFrame) (tSave:T_Save K mg cSave) (tMove:T_Move K mg cMove) (tNote:T_Note K mg cNote) (m_Journal_write:MCal P w K mg base 3 cJournal "write" (ZjM K cAccount cJournal cSave cMove cNote)) (m_Save_told:MCal P w K mg base 1 cSave "told" (spTold cSave isSave)) (m_Move_told:MCal P w K mg base 1 cMove "told" (spTold cMove isMove)) (m_Note_told:MCal P w K mg base 1 cNote "told" (spTold cNote isNote)):Cal P w K mg base 4 "write_step" (ZbZ K cAccount cJournal cSave cMove cNote cFrame):=by
  refine ZaA (N:=["journal", "frame", "deed"]) (ps:=["journal", "frame", "deed"]) D ZfE (fun vs H Q E h=>?_) (fun _ _ _ _ _ _ us hl=>bd3 (R:=fun us=>bindArgs _ ⟨us,[]⟩=pure (List.zip _ us)) (fun _ _ _=>rfl) us hl) (fun f cdv A outer s H vs Q E hr h=>?_)
  . obtain ⟨j,dx,R,L,A,S,m,es,e,f,x,ws,rfl,_⟩:=h; rfl
  . obtain ⟨j,dx,R,L,Ar,S,m,es,e,fr,x,ws,rfl,J,r,he,fit,hm,hel,F,ap,hw,k⟩:=h
    refine ⟨_,(Zad (Zay (ZaL m_Journal_write (hr.mono (by decide)) (pv 0) (Zaa (pv 2) Zae)))
      (Zaf (Zay (Zf1 PySem.F.plainAttrs_list PySem.F.slot_list_append PySem.F.type_list_append ZbC (Zal (pv 1) rfl) (Zaa (Zgf (T:=TTo cSave cMove cNote) (Zk0 m_Save_told m_Move_told m_Note_told) (hr.mono (by decide)) (pv 2)) Zae))))),?_⟩
    walk_at "nx"
    repeat walk_at "rdk"
    refine Zap J.ob rfl ?_
    repeat walk_at "rdk"
    refine ⟨j,dx,R,L,Ar,S,m,es,e,rfl,J,r,he,fit,hm,hel,fun H1 k1 r1 J1=>?_⟩
    have F1:=F.out r ap J.li k1
    have he1:=(J1.de e (List.mem_append.mpr (.inr (List.mem_singleton.mpr rfl)))).1
    repeat walk_at "rdk"
    refine Zai F1.ob tFrame.k.cl tFrame.n_steps rfl ?_
    refine ⟨Zb3 (ZaF F1.ss),?_⟩
    repeat walk_at "rdk"
    refine Zd4 ?_
    repeat walk_at "rdk"
    refine ⟨e.o,clsD cSave cMove cNote e.d,e.dx,fldD e.d,_,rfl,he1,Zie e.d,Zlu cSave cMove cNote e.d,?_⟩
    repeat walk_at "rdk"
    refine ⟨e.o,e.dx,e.d,rfl,Zdi e.d,he1,fun t ht=>?_⟩
    have s1:Same H1 (upd H1 t (.tup (tellV e.d))):=Same.new ht
    have r2:=r1.same s1
    have J2:=J1.same s1
    have F2:=F1.same s1
    have k2:KeptX (goX Ar L fr) H (upd H1 t (.tup (tellV e.d))):=(ZjT k1).trans s1.keptX
    have et:(upd H1 t (.tup (tellV e.d))) t=some (.tup (tellV e.d)):=Zah
    have htH:H t=none:=by
      cases z:H t with
      | none=>rfl
      | some o =>
        exfalso
        by_cases q:Out Ar t/\t ≠ L
        . rw [k1 t q.1 q.2,z] at ht; cases ht
        . by_cases q2:t=L
          . rw [q2,J1.li] at ht; cases ht
          . refine q ⟨fun i y hi hy=>⟨?_,?_⟩,q2⟩
            . intro z2; rw [z2,(r1.ac i y hi hy).ob] at ht; cases ht
            . intro z2; obtain ⟨kv,g1,_⟩:=(r1.ac i y hi hy).sto; rw [z2,g1] at ht; cases ht
    generalize upd H1 t _=H2 at s1 r2 J2 F2 k2 et
    repeat walk_at "rdk"
    refine ZbL F2.ss (Nat.lt_of_le_of_lt hw (by decide)) ?_
    repeat walk_at "rdk"
    have k3:KeptX (inF3 fr) H2 (upd H2 fr.SS (.lst (ws ++ [.ref t]))):=KeptX.upd (.inr (.inr rfl))
    exact k t _ htH (k2.trans (Zdn k3)) (r2.frame F2 ap k3) (J2.frame F2 ap k3) (F2.setSS _) (by rw [Zak (Zbl et F2.ss (by intro z; cases z))]; exact et)
end
noncomputable def spAt (K:PySem.W.Frag) (C:Addr):Sp:=fun vs H Q _=>∃ (R:Addr) (A:Nat->Option AcI) (S:Nat->AcS) (m:Nat) (s:Int),vs=[.ref R,.int s]/\Rooms K C H R A S m/\Q (if 0 <= s/\s < 16 then roomV (A s.toNat) else .non) H
noncomputable def ZeA (K:PySem.W.Frag) (C cF:Addr):Sp:=fun vs H Q _=>∃ (R L:Addr) (vJ:V) (A:Nat->Option AcI) (S:Nat->AcS) (m:Nat) (f:FrI) (x:FrS) (ws:List V) (vp:V) (i:Nat) (y:AcI) (s:List Int) (pl:Int),vs=[.ref R,vJ,.ref f.a,vp]/\Rooms K C H R A S m/\FrAt cF H f x ws/\Ap R L A f/\x.who=(i:Int)/\i < 16/\A i=some y/\x.stack=s ++ [pl]/\x.stack.length <= 900 /\
  ∀ H',KeptX (inF3 f) H H'->FrAt cF H' f { x with stack:=s ++ [(S i).store pl] } ws->Q .non H'
noncomputable def ZhE (A:Nat->Option AcI) (S:Nat->AcS) (s:Int):Int:=if 0 <= s/\s < 16 then (match A s.toNat with|some _=>(S s.toNat).coin|none=>0) else 0
noncomputable def ZeB (K:PySem.W.Frag) (C cF:Addr):Sp:=fun vs H Q _=>∃ (R L:Addr) (vJ:V) (A:Nat->Option AcI) (S:Nat->AcS) (m:Nat) (f:FrI) (x:FrS) (ws:List V) (vp:V) (s:List Int) (sl:Int),vs=[.ref R,vJ,.ref f.a,vp]/\Rooms K C H R A S m/\FrAt cF H f x ws/\Ap R L A f/\x.stack=s ++ [sl]/\x.stack.length <= 900 /\
  ∀ H',KeptX (inF3 f) H H'->FrAt cF H' f { x with stack:=s ++ [ZhE A S sl] } ws->Q .non H'
noncomputable def Zlv (K:PySem.W.Frag) (C cJ cS cM cN cF:Addr) (H:Hp) (j dx R L:Addr) (A:Nat->Option AcI) (S:Nat->AcS) (m:Nat) (es:List DI) (f:FrI) (x:FrS) (ws:List V) (d:Dd) (Q:VK):Prop :=
  ∀ t e H',e.d=d->H t=none->KeptX (goX A L f) H H'->Rooms K C H' R A (doneS S d) (m + 1)->Jr cJ cS cM cN H' j dx R L A (es ++ [e])->FrAt cF H' f x (ws ++ [.ref t])->H' t=some (.tup (tellV d))->Q .non H'
noncomputable def ZeC (K:PySem.W.Frag) (C cJ cS cM cN cF:Addr):Sp:=fun vs H Q _=>∃ (j dx R L:Addr) (A:Nat->Option AcI) (S:Nat->AcS) (m:Nat) (es:List DI) (f:FrI) (x:FrS) (ws:List V) (vp:V) (i:Nat) (y:AcI) (s:List Int) (pl v:Int),vs=[.ref R,.ref j,.ref f.a,vp]/\Jr cJ cS cM cN H j dx R L A es/\Rooms K C H R A S m/\m <= 1000000/\es.length < 1000000/\FrAt cF H f x ws/\Ap R L A f/\ws.length <= 100000/\x.who=(i:Int)/\i < 16/\A i=some y/\x.stack=s ++ [pl,v] /\
  Zlv K C cJ cS cM cN cF H j dx R L A S m es f { x with stack:=s } ws (.save (i:Int) pl ((S i).store pl) v) Q
noncomputable def ZeD (K:PySem.W.Frag) (C cJ cS cM cN cF:Addr):Sp:=fun vs H Q _=>∃ (j dx R L:Addr) (A:Nat->Option AcI) (S:Nat->AcS) (m:Nat) (es:List DI) (f:FrI) (x:FrS) (ws:List V) (vp:V) (s:List Int) (v:Int),vs=[.ref R,.ref j,.ref f.a,vp]/\Jr cJ cS cM cN H j dx R L A es/\Rooms K C H R A S m/\m <= 1000000/\es.length < 1000000/\FrAt cF H f x ws/\Ap R L A f/\ws.length <= 100000/\x.stack=s ++ [v] /\
  Zlv K C cJ cS cM cN cF H j dx R L A S m es f { x with stack:=s } ws (.note x.who v) Q
section
variable {P:Program} {w:World} {K:PySem.W.Frag} {mg:Str->Option Value} {base:Heap}
theorem ZfG:FnScope ["rooms", "slot"] ["rooms", "slot"] (Zac Zct):=⟨rfl,rfl,rfl,by decide +kernel,rfl,by decide +kernel,by decide +kernel⟩
theorem ZfH    (D:Zaq K mg "account_at" Zct) (n_len:mg "len" = none):Cal P w K mg base 1 "account_at" (spAt K cAccount):=by
  refine ZaA (N:=["rooms", "slot"]) (ps:=["rooms", "slot"]) D ZfG (fun vs H Q E h=>?_) (fun _ _ _ _ _ _ us hl=>bd2 (R:=fun us=>bindArgs _ ⟨us,[]⟩=pure (List.zip _ us)) (fun _ _=>rfl) us hl) (fun f cdv A outer s H vs Q E hr h=>?_)
  . obtain ⟨R,A,S,m,s,rfl,_⟩:=h; rfl
  . obtain ⟨R,Ar,S,m,s0,rfl,r,k⟩:=h
    refine ⟨_,(Zad (Zbi (Zkh op_le ZfS Zag (pv 1) (ZaI ZbP rfl n_len PySem.boot_len (Zaa (pv 0) Zae))) (Zaf (Zar (ZaK Zaz (pv 0) (pv 1) (fun _ _=>rfl)))) ZaJ)
      (Zaf (Zar Zcn))),?_⟩
    walk_at "nx"
    have hRs:=ZaF (K:=K) r.ob
    have hl16:(((List.range 16).map fun i=>roomV (Ar i)).length:Int)=16:=by rw [List.length_map,List.length_range]; rfl
    repeat' walk_at "rdk"
    . rename_i h1 h2
      rw [hl16] at h2
      rw [if_pos ⟨h1,h2⟩] at k
      refine Za7 hRs (ZbR (i:=s0.toNat) (by rw [List.getElem?_map,List.getElem?_range (by omega)]; rfl) (by omega)) ?_
      exact k
    . rename_i h1 h2
      rw [hl16] at h2
      rw [if_neg (fun z=>h2 z.2)] at k
      exact k
    . rename_i h1
      rw [if_neg (fun z=>h1 z.1)] at k
      exact k
theorem ZeE:FnScope ["rooms", "journal", "frame", "row", "taken"] ["rooms", "journal", "frame", "row"] (Zac Zdw):=⟨rfl,rfl,rfl,by decide +kernel,rfl,by decide +kernel,by decide +kernel⟩
theorem ZhF   {cFrame:Addr} {cAccount:Addr} (D:Zaq K mg "load_row" Zdw) (tFrame:T_Frame K mg cFrame) (tAccount:T_Account K mg cAccount) (m_Frame_taken:MCal P w K mg base 1 cFrame "taken" (ZbY cFrame)) (m_Frame_lay:MCal P w K mg base 1 cFrame "lay" (spLay cFrame)) (m_Account_loaded:MCal P w K mg base 1 cAccount "loaded" (Zd3 K cAccount)):Cal P w K mg base 2 "load_row" (ZeA K cAccount cFrame):=by
  refine ZaA (N:=["rooms", "journal", "frame", "row", "taken"]) (ps:=["rooms", "journal", "frame", "row"]) D ZeE (fun vs H Q E h=>?_) (fun _ _ _ _ _ _ us hl=>bd4 (R:=fun us=>bindArgs _ ⟨us,[]⟩=pure (List.zip _ us)) (fun _ _ _ _=>rfl) us hl) (fun f cdv A outer s H vs Q E hr h=>?_)
  . obtain ⟨R,L,vJ,A,S,m,f,x,ws,vp,i,y,s,pl,rfl,_⟩:=h; rfl
  . obtain ⟨R,L,vJ,Ar,S,m,fr,x,ws,vp,i,y,s0,pl,rfl,r,F,ap,ew,hi,hy,e0,hl,k⟩:=h
    refine ⟨_,(Zad (Zat (i:=4) ZeE.nd rfl (by first|exact Or.inl rfl|exact Or.inr rfl) (ZaL m_Frame_taken (hr.mono (by decide)) (pv 2) (Zaa Zag Zae)))
      (Zaf (Zay (ZaL m_Frame_lay (hr.mono (by decide)) (pv 2) (Zaa (ZaL m_Account_loaded (hr.mono (by decide)) (ZaK Zaz (pv 0) (Zal (pv 2) rfl) (fun _ _=>rfl)) (Zaa (ZaK Zaz (pv 4) Zag (fun _ _=>rfl)) Zae)) Zae))))),?_⟩
    walk_at "nx"
    repeat walk_at "rdk"
    refine Zap F.ob rfl ?_
    repeat walk_at "rdk"
    refine ⟨fr,x,ws,s0,[pl],rfl,F,e0,by show 1 <= 1000; decide,fun q H1 _ k1 F1 e1=>?_⟩
    have e1':H1 q=some (.lst [.int pl]):=e1
    have k1':KeptX (inF3 fr) H H1:=k1.mono fun _ h=>.inr (.inl h)
    have r1:=r.frame F ap k1'
    have ay:=r1.ac i y hi hy
    repeat walk_at "rdk"
    refine Zap F1.ob rfl ?_
    repeat walk_at "rdk"
    refine Zai F1.ob tFrame.k.cl tFrame.n_who rfl ?_
    rw [ew]
    refine Za7 (ZaF r1.ob) (r1.at hi hy) ?_
    refine Zap ay.ob rfl ?_
    repeat walk_at "rdk"
    refine ⟨y.a,y.dx,y.pr,y.st,_,_,_,_,_,m,pl,rfl,ay,?_⟩
    repeat walk_at "rdk"
    have hl1:s0.length <= 1000:=by rw [e0,List.length_append] at hl; omega
    refine ⟨fr,_,ws,_,rfl,F1,hl1,fun H2 k2 F2=>?_⟩
    repeat walk_at "rdk"
    exact k H2 (k1'.trans (k2.mono fun _ h=>.inr (.inl h))) F2
theorem Zc4:FnScope ["rooms", "journal", "frame", "row", "taken", "account"] ["rooms", "journal", "frame", "row"] (Zac ZdB):=⟨rfl,rfl,rfl,by decide +kernel,rfl,by decide +kernel,by decide +kernel⟩
theorem ZhG   {cFrame:Addr} {cAccount:Addr} (D:Zaq K mg "coin_row" ZdB) (tFrame:T_Frame K mg cFrame) (tAccount:T_Account K mg cAccount) (m_Frame_taken:MCal P w K mg base 1 cFrame "taken" (ZbY cFrame)) (m_Frame_lay:MCal P w K mg base 1 cFrame "lay" (spLay cFrame)) (c_account_at:Cal P w K mg base 1 "account_at" (spAt K cAccount)):Cal P w K mg base 2 "coin_row" (ZeB K cAccount cFrame):=by
  refine ZaA (N:=["rooms", "journal", "frame", "row", "taken", "account"]) (ps:=["rooms", "journal", "frame", "row"]) D Zc4 (fun vs H Q E h=>?_) (fun _ _ _ _ _ _ us hl=>bd4 (R:=fun us=>bindArgs _ ⟨us,[]⟩=pure (List.zip _ us)) (fun _ _ _ _=>rfl) us hl) (fun f cdv A outer s H vs Q E hr h=>?_)
  . obtain ⟨R,L,vJ,A,S,m,f,x,ws,vp,s,sl,rfl,_⟩:=h; rfl
  . obtain ⟨R,L,vJ,Ar,S,m,fr,x,ws,vp,s0,sl,rfl,r,F,ap,e0,hl,k⟩:=h
    refine ⟨_,(Zad (Zat (i:=4) Zc4.nd rfl (by first|exact Or.inl rfl|exact Or.inr rfl) (ZaL m_Frame_taken (hr.mono (by decide)) (pv 2) (Zaa Zag Zae)))
      (Zad (Zat (i:=5) Zc4.nd rfl (by first|exact Or.inl rfl|exact Or.inr rfl) (ZaG c_account_at (hr.mono (by decide)) rfl (Zaa (pv 0) (Zaa (ZaK Zaz (pv 4) Zag (fun _ _=>rfl)) Zae))))
      (Zaf (Zay (ZaL m_Frame_lay (hr.mono (by decide)) (pv 2) (Zaa (Zd0 (ZaD Zef (pv 5) Zcn (nomark _)) Zag (Zal (pv 5) rfl)) Zae)))))),?_⟩
    walk_at "nx"
    repeat walk_at "rdk"
    refine Zap F.ob rfl ?_
    repeat walk_at "rdk"
    refine ⟨fr,x,ws,s0,[sl],rfl,F,e0,by show 1 <= 1000; decide,fun q H1 _ k1 F1 e1=>?_⟩
    have e1':H1 q=some (.lst [.int sl]):=e1
    have k1':KeptX (inF3 fr) H H1:=k1.mono fun _ h=>.inr (.inl h)
    have r1:=r.frame F ap k1'
    have hl1:s0.length <= 1000:=by rw [e0,List.length_append] at hl; omega
    repeat walk_at "rdk"
    refine ⟨R,Ar,S,m,sl,rfl,r1,?_⟩
    unfold ZhE at k
    by_cases h0:0 <= sl/\sl < 16
    . rw [if_pos h0] at k |-
      cases hA:Ar sl.toNat with
      | none =>
        rw [hA] at k
        rw [show roomV none=V.non from rfl]
        repeat walk_at "rdk"
        refine Zap F1.ob rfl ?_
        repeat walk_at "rdk"
        refine ⟨fr,_,ws,_,rfl,F1,hl1,fun H2 k2 F2=>?_⟩
        repeat walk_at "rdk"
        exact k H2 (k1'.trans (k2.mono fun _ h=>.inr (.inl h))) F2
      | some y =>
        rw [hA] at k
        rw [show roomV (some y)=V.ref y.a from rfl]
        have ay:=r1.ac sl.toNat y (by omega) hA
        repeat walk_at "rdk"
        refine Zap F1.ob rfl ?_
        repeat walk_at "rdk"
        refine Zai ay.ob tAccount.k.cl tAccount.n_coin rfl ?_
        repeat walk_at "rdk"
        refine ⟨fr,_,ws,_,rfl,F1,hl1,fun H2 k2 F2=>?_⟩
        repeat walk_at "rdk"
        exact k H2 (k1'.trans (k2.mono fun _ h=>.inr (.inl h))) F2
    . rw [if_neg h0] at k |-
      repeat walk_at "rdk"
      refine Zap F1.ob rfl ?_
      repeat walk_at "rdk"
      refine ⟨fr,_,ws,_,rfl,F1,hl1,fun H2 k2 F2=>?_⟩
      repeat walk_at "rdk"
      exact k H2 (k1'.trans (k2.mono fun _ h=>.inr (.inl h))) F2
theorem Zc5:FnScope ["rooms", "journal", "frame", "row", "taken", "old"] ["rooms", "journal", "frame", "row"] (Zac Zdx):=⟨rfl,rfl,rfl,by decide +kernel,rfl,by decide +kernel,by decide +kernel⟩
theorem ZhH   {cFrame:Addr} {cAccount:Addr} {cSave:Addr} (D:Zaq K mg "save_row" Zdx) (tFrame:T_Frame K mg cFrame) (tAccount:T_Account K mg cAccount) (tSave:T_Save K mg cSave) (m_Frame_taken:MCal P w K mg base 1 cFrame "taken" (ZbY cFrame)) (m_Account_loaded:MCal P w K mg base 1 cAccount "loaded" (Zd3 K cAccount)) (i_Save:ICal P w K mg base 1 "Save" cSave (Zia cSave)) (c_write_step:Cal P w K mg base 4 "write_step" (ZbZ K cAccount cJournal cSave cMove cNote cFrame)):Cal P w K mg base 5 "save_row" (ZeC K cAccount cJournal cSave cMove cNote cFrame):=by
  refine ZaA (N:=["rooms", "journal", "frame", "row", "taken", "old"]) (ps:=["rooms", "journal", "frame", "row"]) D Zc5 (fun vs H Q E h=>?_) (fun _ _ _ _ _ _ us hl=>bd4 (R:=fun us=>bindArgs _ ⟨us,[]⟩=pure (List.zip _ us)) (fun _ _ _ _=>rfl) us hl) (fun f cdv A outer s H vs Q E hr h=>?_)
  . obtain ⟨j,dx,R,L,A,S,m,es,f,x,ws,vp,i,y,s,pl,v,rfl,_⟩:=h; rfl
  . obtain ⟨j,dx,R,L,Ar,S,m,es,fr,x,ws,vp,i,y,s0,pl,v,rfl,J,r,hm,hel,F,ap,hw,ew,hi,hy,e0,k⟩:=h
    refine ⟨_,(Zad (Zat (i:=4) Zc5.nd rfl (by first|exact Or.inl rfl|exact Or.inr rfl) (ZaL m_Frame_taken (hr.mono (by decide)) (pv 2) (Zaa Zag Zae)))
      (Zad (Zat (i:=5) Zc5.nd rfl (by first|exact Or.inl rfl|exact Or.inr rfl) (ZaL m_Account_loaded (hr.mono (by decide)) (ZaK Zaz (pv 0) (Zal (pv 2) rfl) (fun _ _=>rfl)) (Zaa (ZaK Zaz (pv 4) Zag (fun _ _=>rfl)) Zae)))
      (Zaf (Zay (ZaG c_write_step (hr.mono (by decide)) rfl (Zaa (pv 1) (Zaa (pv 2) (Zaa (ZcU i_Save (hr.mono (by decide)) rfl (Zaa (Zal (pv 2) rfl) (Zaa (ZaK Zaz (pv 4) Zag (fun _ _=>rfl)) (Zaa (pv 5) (Zaa (ZaK Zaz (pv 4) Zag (fun _ _=>rfl)) Zae))))) Zae)))))))),?_⟩
    walk_at "nx"
    repeat walk_at "rdk"
    refine Zap F.ob rfl ?_
    repeat walk_at "rdk"
    refine ⟨fr,x,ws,s0,[pl,v],rfl,F,e0,by show 2 <= 1000; decide,fun q H1 _ k1 F1 e1=>?_⟩
    have e1':H1 q=some (.lst [.int pl,.int v]):=e1
    have k1':KeptX (inF3 fr) H H1:=k1.mono fun _ h=>.inr (.inl h)
    have r1:=r.frame F ap k1'
    have J1:=J.frame F ap k1'
    have ay:=r1.ac i y hi hy
    repeat walk_at "rdk"
    refine Zai F1.ob tFrame.k.cl tFrame.n_who rfl ?_
    rw [ew]
    refine Za7 (ZaF r1.ob) (r1.at hi hy) ?_
    refine Zap ay.ob rfl ?_
    repeat walk_at "rdk"
    refine ⟨y.a,y.dx,y.pr,y.st,_,_,_,_,_,m,pl,rfl,ay,?_⟩
    repeat walk_at "rdk"
    refine Zai F1.ob tFrame.k.cl tFrame.n_who rfl ?_
    rw [ew]
    repeat walk_at "rdk"
    intro ob odx hx hdx hne
    have hx2:(upd H1 odx (.own ob)) ob=none:=by rw [Zak (Ne.symm hne)]; exact hx
    refine ⟨ob,odx,(i:Int),pl,(S i).store pl,v,rfl,Zah,rfl,?_⟩
    rw [ZaY]
    have s1:Same H1 (upd (upd H1 odx (.own ob)) ob (.ins cSave odx (saveF (i:Int) pl ((S i).store pl) v))):=(Same.new hdx).newT hx2
    have eo:(upd (upd H1 odx (.own ob)) ob (.ins cSave odx (saveF (i:Int) pl ((S i).store pl) v))) ob=some (.ins cSave odx (saveF (i:Int) pl ((S i).store pl) v)):=Zah
    have J2:=J1.same s1
    have r2:=r1.same s1
    have F2:=F1.same s1
    generalize upd (upd H1 odx (.own ob)) ob (.ins cSave odx (saveF (i:Int) pl ((S i).store pl) v))=H2 at s1 eo J2 r2 F2
    repeat walk_at "rdk"
    refine ⟨j,dx,R,L,Ar,S,m,es,⟨ob,odx,.save (i:Int) pl ((S i).store pl) v⟩,fr,_,ws,rfl,J2,r2,eo,⟨i,y,rfl,hi,hy⟩,hm,hel,F2,ap,hw,fun t H3 ht k3 r3 J3 F3 et=>?_⟩
    repeat walk_at "rdk"
    have sk:KeptX (goX Ar L fr) H H2:=(Zdn k1').trans s1.keptX
    refine k t ⟨ob,odx,.save (i:Int) pl ((S i).store pl) v⟩ H3 rfl ?_ (sk.trans k3) r3 J3 F3 et
    cases z:H t with
    | none=>rfl
    | some oo =>
      exfalso
      by_cases q:t=fr.ST
      . rw [q,F2.st] at ht; cases ht
      . rw [s1 _ _ (k1 t oo z q)] at ht; cases ht
theorem ZeF:FnScope ["rooms", "journal", "frame", "row", "taken"] ["rooms", "journal", "frame", "row"] (Zac ZdC):=⟨rfl,rfl,rfl,by decide +kernel,rfl,by decide +kernel,by decide +kernel⟩
theorem ZhI   {cFrame:Addr} {cNote:Addr} (D:Zaq K mg "note_row" ZdC) (tFrame:T_Frame K mg cFrame) (tNote:T_Note K mg cNote) (m_Frame_taken:MCal P w K mg base 1 cFrame "taken" (ZbY cFrame)) (i_Note:ICal P w K mg base 1 "Note" cNote (Zib cNote)) (c_write_step:Cal P w K mg base 4 "write_step" (ZbZ K cAccount cJournal cSave cMove cNote cFrame)):Cal P w K mg base 5 "note_row" (ZeD K cAccount cJournal cSave cMove cNote cFrame):=by
  refine ZaA (N:=["rooms", "journal", "frame", "row", "taken"]) (ps:=["rooms", "journal", "frame", "row"]) D ZeF (fun vs H Q E h=>?_) (fun _ _ _ _ _ _ us hl=>bd4 (R:=fun us=>bindArgs _ ⟨us,[]⟩=pure (List.zip _ us)) (fun _ _ _ _=>rfl) us hl) (fun f cdv A outer s H vs Q E hr h=>?_)
  . obtain ⟨j,dx,R,L,A,S,m,es,f,x,ws,vp,s,v,rfl,_⟩:=h; rfl
  . obtain ⟨j,dx,R,L,Ar,S,m,es,fr,x,ws,vp,s0,v,rfl,J,r,hm,hel,F,ap,hw,e0,k⟩:=h
    refine ⟨_,(Zad (Zat (i:=4) ZeF.nd rfl (by first|exact Or.inl rfl|exact Or.inr rfl) (ZaL m_Frame_taken (hr.mono (by decide)) (pv 2) (Zaa Zag Zae)))
      (Zaf (Zay (ZaG c_write_step (hr.mono (by decide)) rfl (Zaa (pv 1) (Zaa (pv 2) (Zaa (ZcU i_Note (hr.mono (by decide)) rfl (Zaa (Zal (pv 2) rfl) (Zaa (ZaK Zaz (pv 4) Zag (fun _ _=>rfl)) Zae))) Zae))))))),?_⟩
    walk_at "nx"
    repeat walk_at "rdk"
    refine Zap F.ob rfl ?_
    repeat walk_at "rdk"
    refine ⟨fr,x,ws,s0,[v],rfl,F,e0,by show 1 <= 1000; decide,fun q H1 _ k1 F1 e1=>?_⟩
    have e1':H1 q=some (.lst [.int v]):=e1
    have k1':KeptX (inF3 fr) H H1:=k1.mono fun _ h=>.inr (.inl h)
    have r1:=r.frame F ap k1'
    have J1:=J.frame F ap k1'
    repeat walk_at "rdk"
    refine Zai F1.ob tFrame.k.cl tFrame.n_who rfl ?_
    repeat walk_at "rdk"
    intro ob odx hx hdx hne
    have hx2:(upd H1 odx (.own ob)) ob=none:=by rw [Zak (Ne.symm hne)]; exact hx
    refine ⟨ob,odx,x.who,v,rfl,Zah,rfl,?_⟩
    rw [ZaY]
    have s1:Same H1 (upd (upd H1 odx (.own ob)) ob (.ins cNote odx (noteF x.who v))):=(Same.new hdx).newT hx2
    have eo:(upd (upd H1 odx (.own ob)) ob (.ins cNote odx (noteF x.who v))) ob=some (.ins cNote odx (noteF x.who v)):=Zah
    have J2:=J1.same s1
    have r2:=r1.same s1
    have F2:=F1.same s1
    generalize upd (upd H1 odx (.own ob)) ob (.ins cNote odx (noteF x.who v))=H2 at s1 eo J2 r2 F2
    repeat walk_at "rdk"
    refine ⟨j,dx,R,L,Ar,S,m,es,⟨ob,odx,.note x.who v⟩,fr,_,ws,rfl,J2,r2,eo,trivial,hm,hel,F2,ap,hw,fun t H3 ht k3 r3 J3 F3 et=>?_⟩
    repeat walk_at "rdk"
    have sk:KeptX (goX Ar L fr) H H2:=(Zdn k1').trans s1.keptX
    refine k t ⟨ob,odx,.note x.who v⟩ H3 rfl ?_ (sk.trans k3) r3 J3 F3 et
    cases z:H t with
    | none=>rfl
    | some oo =>
      exfalso
      by_cases q:t=fr.ST
      . rw [q,F2.st] at ht; cases ht
      . rw [s1 _ _ (k1 t oo z q)] at ht; cases ht
end
noncomputable def ZjV (x:FrS) (w:Str) (s:List Int) (y:FrS):Prop :=
  (w = "call" /\ ∃ slot c asks word,x.stack=s ++ [slot,c,asks,word]/\y=frame0 "call" slot slot x.who c word asks (x.depth + 1) x.looking) \/
  (w = "borrow" /\ ∃ slot asks word,x.stack=s ++ [slot,asks,word]/\y=frame0 "borrow" x.who slot x.caller x.coin word asks (x.depth + 1) x.looking) \/
  (w = "look" /\ ∃ slot asks word,x.stack=s ++ [slot,asks,word]/\y=frame0 "look" slot slot x.who 0 word asks (x.depth + 1) true)
noncomputable def ZhJ (K:PySem.W.Frag) (cF:Addr):Sp:=fun vs H Q _=>∃ (f:FrI) (x y:FrS) (ws:List V) (p:Addr) (w:Str) (n:Option Int) (s:List Int),vs=[.ref f.a,.ref p]/\FrAt cF H f x ws/\ZbM K H p w n/\ZjV x w s y /\
  ∀ g H',H g.a=none->H g.ST=none->H g.SS=none->KeptX (·=f.ST) H H'->FrAt cF H' f { x with stack:=s } ws->FrAt cF H' g y []->Q (.ref g.a) H'
noncomputable def ZhK (A:Nat->Option AcI) (S:Nat->AcS) (y:FrS) (e:Option Str):Prop :=
  ((if 0 <= y.whose/\y.whose < 16 then roomV (A y.whose.toNat) else .non)=.non/\e=some ("nobody" : Str)) \/
  (∃ ac,0 <= y.whose/\y.whose < 16/\A y.whose.toNat=some ac/\((8 < y.depth/\e=some ("deep" : Str))\/(¬ 8 < y.depth/\y.kind ≠ "call" /\ e=none) \/
    (¬ 8 < y.depth/\y.kind = "call" /\ ∃ i z,y.caller=((i:Nat):Int)/\i < 16/\A i=some z/\(((S i).coin < y.coin/\e=some ("poor" : Str))\/(¬ (S i).coin < y.coin/\e=none)))))
noncomputable def ZfI (K:PySem.W.Frag) (C cF:Addr):Sp:=fun vs H Q _=>∃ (R:Addr) (A:Nat->Option AcI) (S:Nat->AcS) (m:Nat) (f:FrI) (y:FrS) (ws:List V) (e:Option Str),vs=[.ref R,.ref f.a]/\Rooms K C H R A S m/\FrAt cF H f y ws/\ZhK A S y e/\Q (endV e) H
section
variable {P:Program} {w:World} {K:PySem.W.Frag} {mg:Str->Option Value} {base:Heap}
local macro_rules|`(tactic| walk_at "rwx")=>`(tactic| first
  | walk_at "rdx"
  | ((with_reducible refine' L2.Zee ?h ?e ?_); (case h=>assumption); (case e=>exact My.Zhh))
  | fail)
theorem Zbr:FnScope ["frame", "row", "taken", "slot", "asks", "word", "depth"] ["frame", "row"] (Zac Zcz):=⟨rfl,rfl,rfl,by decide +kernel,rfl,by decide +kernel,by decide +kernel⟩
theorem ZfJ   {cFrame:Addr} (D:Zaq K mg "other_call" Zcz) (tFrame:T_Frame K mg cFrame) (m_Frame_taken:MCal P w K mg base 1 cFrame "taken" (ZbY cFrame)) (c_takes:Cal P w K mg base 2 "takes" (Zfp K)) (iD9_Frame:Zg7 P w K mg base 1 "Frame" cFrame (Zet cFrame) []):Cal P w K mg base 3 "other_call" (ZhJ K cFrame):=by
  refine ZaA (N:=["frame", "row", "taken", "slot", "asks", "word", "depth"]) (ps:=["frame", "row"]) D Zbr (fun vs H Q E h=>?_) (fun _ _ _ _ _ _ us hl=>bd2 (R:=fun us=>bindArgs _ ⟨us,[]⟩=pure (List.zip _ us)) (fun _ _=>rfl) us hl) (fun f cdv A outer s H vs Q E hr h=>?_)
  . obtain ⟨f,x,y,ws,p,w,n,s,rfl,_⟩:=h; rfl
  . obtain ⟨fr,x,y,ws,p,wd,n,s0,rfl,F,hp,hO,k⟩:=h
    refine ⟨_,(Zad (Zat (i:=2) Zbr.nd rfl (by first|exact Or.inl rfl|exact Or.inr rfl) (ZaL m_Frame_taken (hr.mono (by decide)) (pv 0) (Zaa (ZaG c_takes (hr.mono (by decide)) rfl (Zaa (pv 1) Zae)) Zae)))
      (Zad (Zat (i:=3) Zbr.nd rfl (by first|exact Or.inl rfl|exact Or.inr rfl) (ZaK Zaz (pv 2) Zag (fun _ _=>rfl)))
      (Zad (Zat (i:=4) Zbr.nd rfl (by first|exact Or.inl rfl|exact Or.inr rfl) (ZaK Zaz (pv 2) (ZfR ZdP Zag) (fun _ _=>rfl)))
      (Zad (Zat (i:=5) Zbr.nd rfl (by first|exact Or.inl rfl|exact Or.inr rfl) (ZaK Zaz (pv 2) (ZfR ZdP Zag) (fun _ _=>rfl)))
      (Zad (Zat (i:=6) Zbr.nd rfl (by first|exact Or.inl rfl|exact Or.inr rfl) (ZaC ZbG (Zal (pv 0) rfl) Zag))
      (Zad (Zbi (ZaD Zb7 (ZaK Zbe (pv 1) Zag (fun _ _=>rfl)) Zav (nomark _)) (Zaf (Zar (Zd1 iD9_Frame (hr.mono (by decide)) rfl (Zaa Zav (Zaa (pv 3) (Zaa (pv 3) (Zaa (Zal (pv 0) rfl) (Zaa (ZaK Zaz (pv 2) Zag (fun _ _=>rfl)) (Zaa (pv 5) (Zaa (pv 4) (Zaa (pv 6) (Zaa (Zal (pv 0) rfl) Zae)))))))))))) ZaJ)
      (Zad (Zbi (ZaD Zb7 (ZaK Zbe (pv 1) Zag (fun _ _=>rfl)) Zav (nomark _)) (Zaf (Zar (Zd1 iD9_Frame (hr.mono (by decide)) rfl (Zaa Zav (Zaa (Zal (pv 0) rfl) (Zaa (pv 3) (Zaa (Zal (pv 0) rfl) (Zaa (Zal (pv 0) rfl) (Zaa (pv 5) (Zaa (pv 4) (Zaa (pv 6) (Zaa (Zal (pv 0) rfl) Zae)))))))))))) ZaJ)
      (Zaf (Zar (Zd1 iD9_Frame (hr.mono (by decide)) rfl (Zaa Zav (Zaa (pv 3) (Zaa (pv 3) (Zaa (Zal (pv 0) rfl) (Zaa Zag (Zaa (pv 5) (Zaa (pv 4) (Zaa (pv 6) (Zaa ZfP Zae))))))))))))))))))),?_⟩
    walk_at "nx"
    rcases hO with ⟨rfl,slot,c,asks,word,e0,rfl⟩|⟨rfl,slot,asks,word,e0,rfl⟩|⟨rfl,slot,asks,word,e0,rfl⟩
    . skip
      have hp0:=hp
      repeat walk_at "rw"
      refine Zap F.ob rfl ?_
      repeat walk_at "rw"
      refine ⟨p,_,n,0,4,2,8,12,rfl,hp,rfl,rfl,?_⟩
      rw [show (4:Int) + 0=(([slot,c,asks,word]:List Int).length:Nat) from rfl]
      repeat walk_at "rw"
      refine ⟨fr,x,ws,s0,[slot,c,asks,word],rfl,F,e0,by show 4 <= 1000; decide,fun q H1 _ k1 F1 e1=>?_⟩
      have e1':H1 q=some (.lst [.int slot,.int c,.int asks,.int word]):=e1
      have hp1:=Zci hp F (k_st k1)
      repeat' walk_at "rw"
      refine Zai F1.ob tFrame.k.cl tFrame.n_depth rfl ?_
      repeat walk_at "rwx"
      refine Zai F1.ob tFrame.k.cl tFrame.n_who rfl ?_
      repeat walk_at "rwx"
      refine Zai F1.ob tFrame.k.cl tFrame.n_looking rfl ?_
      repeat walk_at "rwx"
      intro ga gdx hga hgdx hgne
      have hga2:(upd H1 gdx (.own ga)) ga=none:=by rw [Zak (Ne.symm hgne)]; exact hga
      have s1:Same H1 (upd (upd H1 gdx (.own ga)) ga (.ins cFrame gdx [])):=(Same.new hgdx).newT hga2
      refine ⟨ga,gdx, "call", slot,slot,x.who,c,word,asks,x.depth + 1,x.looking,rfl,Zah,fun ST SS H2 hST hSS G2 kk=>⟨rfl,?_⟩⟩
      have sa:Same H1 H2:=fun b o e=>kk b o (s1 b o e) (Zam e hga)
      have fr1:∀ b,H1 b=none->H b=none:=fun b hb=>by
        cases z:H b with
        | none=>rfl
        | some oo =>
          exfalso
          by_cases q:b=fr.ST
          . rw [q,F1.st] at hb; cases hb
          . rw [k1 b oo z q] at hb; cases hb
      exact k ⟨ga,gdx,ST,SS⟩ H2 (fr1 _ hga) (fr1 _ (s1.fresh hST)) (fr1 _ (s1.fresh hSS)) (k1.trans sa.keptX) (F1.same sa) G2
    . skip
      have hp0:=hp
      repeat walk_at "rw"
      refine Zap F.ob rfl ?_
      repeat walk_at "rw"
      refine ⟨p,_,n,0,3,2,6,6,rfl,hp,rfl,rfl,?_⟩
      rw [show (3:Int) + 0=(([slot,asks,word]:List Int).length:Nat) from rfl]
      repeat walk_at "rw"
      refine ⟨fr,x,ws,s0,[slot,asks,word],rfl,F,e0,by show 3 <= 1000; decide,fun q H1 _ k1 F1 e1=>?_⟩
      have e1':H1 q=some (.lst [.int slot,.int asks,.int word]):=e1
      have hp1:=Zci hp F (k_st k1)
      repeat' walk_at "rw"
      refine Zai F1.ob tFrame.k.cl tFrame.n_depth rfl ?_
      repeat walk_at "rwx"
      refine Zai F1.ob tFrame.k.cl tFrame.n_who rfl ?_
      repeat walk_at "rwx"
      refine Zai F1.ob tFrame.k.cl tFrame.n_caller rfl ?_
      repeat walk_at "rwx"
      refine Zai F1.ob tFrame.k.cl tFrame.n_coin rfl ?_
      repeat walk_at "rwx"
      refine Zai F1.ob tFrame.k.cl tFrame.n_looking rfl ?_
      repeat walk_at "rwx"
      intro ga gdx hga hgdx hgne
      have hga2:(upd H1 gdx (.own ga)) ga=none:=by rw [Zak (Ne.symm hgne)]; exact hga
      have s1:Same H1 (upd (upd H1 gdx (.own ga)) ga (.ins cFrame gdx [])):=(Same.new hgdx).newT hga2
      refine ⟨ga,gdx, "borrow", x.who,slot,x.caller,x.coin,word,asks,x.depth + 1,x.looking,rfl,Zah,fun ST SS H2 hST hSS G2 kk=>⟨rfl,?_⟩⟩
      have sa:Same H1 H2:=fun b o e=>kk b o (s1 b o e) (Zam e hga)
      have fr1:∀ b,H1 b=none->H b=none:=fun b hb=>by
        cases z:H b with
        | none=>rfl
        | some oo =>
          exfalso
          by_cases q:b=fr.ST
          . rw [q,F1.st] at hb; cases hb
          . rw [k1 b oo z q] at hb; cases hb
      exact k ⟨ga,gdx,ST,SS⟩ H2 (fr1 _ hga) (fr1 _ (s1.fresh hST)) (fr1 _ (s1.fresh hSS)) (k1.trans sa.keptX) (F1.same sa) G2
    . skip
      have hp0:=hp
      repeat walk_at "rw"
      refine Zap F.ob rfl ?_
      repeat walk_at "rw"
      refine ⟨p,_,n,0,3,2,6,6,rfl,hp,rfl,rfl,?_⟩
      rw [show (3:Int) + 0=(([slot,asks,word]:List Int).length:Nat) from rfl]
      repeat walk_at "rw"
      refine ⟨fr,x,ws,s0,[slot,asks,word],rfl,F,e0,by show 3 <= 1000; decide,fun q H1 _ k1 F1 e1=>?_⟩
      have e1':H1 q=some (.lst [.int slot,.int asks,.int word]):=e1
      have hp1:=Zci hp F (k_st k1)
      repeat' walk_at "rw"
      refine Zai F1.ob tFrame.k.cl tFrame.n_depth rfl ?_
      repeat walk_at "rwx"
      refine Zai F1.ob tFrame.k.cl tFrame.n_who rfl ?_
      repeat walk_at "rwx"
      intro ga gdx hga hgdx hgne
      have hga2:(upd H1 gdx (.own ga)) ga=none:=by rw [Zak (Ne.symm hgne)]; exact hga
      have s1:Same H1 (upd (upd H1 gdx (.own ga)) ga (.ins cFrame gdx [])):=(Same.new hgdx).newT hga2
      refine ⟨ga,gdx, "look", slot,slot,x.who,0,word,asks,x.depth + 1,true,rfl,Zah,fun ST SS H2 hST hSS G2 kk=>⟨rfl,?_⟩⟩
      have sa:Same H1 H2:=fun b o e=>kk b o (s1 b o e) (Zam e hga)
      have fr1:∀ b,H1 b=none->H b=none:=fun b hb=>by
        cases z:H b with
        | none=>rfl
        | some oo =>
          exfalso
          by_cases q:b=fr.ST
          . rw [q,F1.st] at hb; cases hb
          . rw [k1 b oo z q] at hb; cases hb
      exact k ⟨ga,gdx,ST,SS⟩ H2 (fr1 _ hga) (fr1 _ (s1.fresh hST)) (fr1 _ (s1.fresh hSS)) (k1.trans sa.keptX) (F1.same sa) G2
theorem ZcQ:FnScope ["rooms", "other"] ["rooms", "other"] (Zac Zbu):=⟨rfl,rfl,rfl,by decide +kernel,rfl,by decide +kernel,by decide +kernel⟩
theorem ZcR   {cFrame:Addr} {cAccount:Addr} (D:Zaq K mg "end_ahead_of_call" Zbu) (tFrame:T_Frame K mg cFrame) (tAccount:T_Account K mg cAccount) (c_account_at:Cal P w K mg base 1 "account_at" (spAt K cAccount)) (g_MOST_CALLS:Za0 mg "MOST_CALLS" (.int 8)):Cal P w K mg base 2 "end_ahead_of_call" (ZfI K cAccount cFrame):=by
  refine ZaA (N:=["rooms", "other"]) (ps:=["rooms", "other"]) D ZcQ (fun vs H Q E h=>?_) (fun _ _ _ _ _ _ us hl=>bd2 (R:=fun us=>bindArgs _ ⟨us,[]⟩=pure (List.zip _ us)) (fun _ _=>rfl) us hl) (fun f cdv A outer s H vs Q E hr h=>?_)
  . obtain ⟨R,A,S,m,f,y,ws,e,rfl,_⟩:=h; rfl
  . obtain ⟨R,Ar,S,m,fr,y,ws,e,rfl,r,F,ha,k⟩:=h
    refine ⟨_,(Zad (Zbi (ZaD Zef (ZaG c_account_at (hr.mono (by decide)) rfl (Zaa (pv 0) (Zaa (Zal (pv 1) rfl) Zae))) Zcn (nomark _)) (Zaf (Zar Zav)) ZaJ)
      (Zad (Zbi (ZaD Ze5 (Zal (pv 1) rfl) (ZbO rfl g_MOST_CALLS) (nomark _)) (Zaf (Zar Zav)) ZaJ)
      (Zad (Zbi (PW.pt (ZhX (ZaD Zb7 (Zal (pv 1) rfl) Zav (nomark _)) (Ze3 (ZaD Ze5 (Zal (pv 1) rfl) (Zal (ZaK Zaz (pv 0) (Zal (pv 1) rfl) (fun _ _=>rfl)) rfl) (nomark _))))) (Zaf (Zar Zav)) ZaJ)
      (Zaf (Zar Zcn))))),?_⟩
    walk_at "nx"
    repeat walk_at "rz"
    refine Zai F.ob tFrame.k.cl tFrame.n_whose rfl ?_
    repeat walk_at "rz"
    refine ⟨R,Ar,S,m,y.whose,rfl,r,?_⟩
    rcases ha with ⟨h1,rfl⟩|⟨ac,w0,w1,hA,ha⟩
    . rw [h1]
      repeat walk_at "rz"
      exact k
    . rw [if_pos ⟨w0,w1⟩,hA,show roomV (some ac)=V.ref ac.a from rfl]
      repeat walk_at "rz"
      refine Zai F.ob tFrame.k.cl tFrame.n_depth rfl ?_
      rcases ha with ⟨h2,rfl⟩|⟨h2,h3,rfl⟩|⟨h2,h3,i,z,ei,hi,hz,ha⟩
      . repeat walk_at "rz"
        exact k
      . repeat walk_at "rz"
        refine Zai F.ob tFrame.k.cl tFrame.n_kind rfl ?_
        repeat' walk_at "rz"
        . exact absurd (by assumption) h3
        . exact k
      . have az:=r.ac i z hi hz
        repeat walk_at "rz"
        refine Zai F.ob tFrame.k.cl tFrame.n_kind rfl ?_
        repeat' walk_at "rz"
        . refine Zai F.ob tFrame.k.cl tFrame.n_coin rfl ?_
          repeat walk_at "rz"
          refine Zai F.ob tFrame.k.cl tFrame.n_caller rfl ?_
          rw [ei]
          refine Za7 (ZaF r.ob) (r.at hi hz) ?_
          refine Zai az.ob tAccount.k.cl tAccount.n_coin rfl ?_
          rcases ha with ⟨h4,rfl⟩|⟨h4,rfl⟩
          . repeat walk_at "rz"
            exact k
          . repeat walk_at "rz"
            exact k
        . rename_i hq; exact absurd h3 hq
end
noncomputable def RDL:List (Str × RD):=[("push", rPush),("drop", rDrop),("copy", rCopy),("swap", rSwap),("add", rReck),("minus", rReck),("times", rReck),("over", rReck),("rest", rReck),("below", rReck),("same", rReck),("both", rReck),("either", rReck),("unlike", rReck),("up", rReck),("down", rReck),("jump", rJump),("jumpif", Zhl),("me", rMe),("from", rFrom),("sent", rSent),("word", rWord),("give", rGive),("fail", rFail)]
noncomputable def DoSp (K:PySem.W.Frag) (C cJ cS cM cN cF:Addr) (w:Str) (sp:Sp):Prop:=(∃ R,RDL.lookup w=some R/\sp=spD K cF R)\/(w = "load" /\ sp=ZeA K C cF)\/(w = "coin" /\ sp=ZeB K C cF)\/(w = "save" /\ sp=ZeC K C cJ cS cM cN cF)\/(w = "note" /\ sp=ZeD K C cJ cS cM cN cF)
noncomputable def DoOk (P:Program) (w:World) (K:PySem.W.Frag) (C cJ cS cM cN cF:Addr) (mg:Str->Option Value) (base:Heap) (aD:Addr):Prop :=
  ∃ vs,Zde P w K aD vs/\∀ x sp,DoSp K C cJ cS cM cN cF x sp->∃ fa,valueAt vs (.inr x)=some (.ref fa)/\CalF P w K mg base 5 fa sp
noncomputable def ZhL (K:PySem.W.Frag) (C cJ cS cM cN cF:Addr):Sp:=fun vs H Q _=>∃ (vR vJ:V) (a p:Addr) (w:Str) (n:Option Int) (sp:Sp),vs=[vR,vJ,.ref a,.ref p]/\ZbM K H p w n/\DoSp K C cJ cS cM cN cF w sp/\sp vs H (fun _ H'=>Q .non H') E0
theorem Zbf {P:Program} {w:World} {K:PySem.W.Frag} {mg:Str->Option Value} {base:Heap} {x f:Str} {u:Value} {vs:List (Key × Value)} {sp:Sp} {k:Nat} (m:mg f=some u) (c:Cal P w K mg base k f sp) (hk:k <= 5) (e:valueAt vs (.inr x)=some u):∃ fa,valueAt vs (.inr x)=some (.ref fa)/\CalF P w K mg base 5 fa sp:=by
  obtain ⟨fa,m',c'⟩:=Cal.mono c (k:=5) hk
  rw [m] at m'
  cases m'
  exact ⟨fa,e,c'⟩
section
variable {P:Program} {w:World} {K:PySem.W.Frag} {mg:Str->Option Value} {base:Heap}
theorem do_ok {cAccount cJournal cSave cMove cNote cFrame aD:Addr} {u1 u2 u3 u4 u5 u6 u7 u8 u9 u10 u11 u12 u13 u14 u15 u16 u17:Value} (dk:Zde P w K aD [(Sum.inr "push", u1),(Sum.inr "drop", u2),(Sum.inr "copy", u3),(Sum.inr "swap", u4),(Sum.inr "add", u5),(Sum.inr "minus", u5),(Sum.inr "times", u5),(Sum.inr "over", u5),(Sum.inr "rest", u5),(Sum.inr "below", u5),(Sum.inr "same", u5),(Sum.inr "both", u5),(Sum.inr "either", u5),(Sum.inr "unlike", u5),(Sum.inr "up", u5),(Sum.inr "down", u5),(Sum.inr "jump", u6),(Sum.inr "jumpif", u7),(Sum.inr "load", u8),(Sum.inr "save", u9),(Sum.inr "me", u10),(Sum.inr "from", u11),(Sum.inr "sent", u12),(Sum.inr "word", u13),(Sum.inr "coin", u14),(Sum.inr "note", u15),(Sum.inr "give", u16),(Sum.inr "fail", u17)])
    (m_push_row:mg "push_row" = some u1) (m_drop_row:mg "drop_row" = some u2) (m_copy_row:mg "copy_row" = some u3) (m_swap_row:mg "swap_row" = some u4) (m_reckon_row:mg "reckon_row" = some u5) (m_jump_row:mg "jump_row" = some u6) (m_jumpif_row:mg "jumpif_row" = some u7) (m_load_row:mg "load_row" = some u8) (m_save_row:mg "save_row" = some u9) (m_me_row:mg "me_row" = some u10) (m_from_row:mg "from_row" = some u11) (m_sent_row:mg "sent_row" = some u12) (m_word_row:mg "word_row" = some u13) (m_coin_row:mg "coin_row" = some u14) (m_note_row:mg "note_row" = some u15) (m_give_row:mg "give_row" = some u16) (m_fail_row:mg "fail_row" = some u17)
    (c_push_row:Cal P w K mg base 2 "push_row" (spD K cFrame rPush)) (c_drop_row:Cal P w K mg base 2 "drop_row" (spD K cFrame rDrop)) (c_copy_row:Cal P w K mg base 2 "copy_row" (spD K cFrame rCopy)) (c_swap_row:Cal P w K mg base 1 "swap_row" (spD K cFrame rSwap)) (c_reckon_row:Cal P w K mg base 3 "reckon_row" (spD K cFrame rReck)) (c_jump_row:Cal P w K mg base 1 "jump_row" (spD K cFrame rJump)) (c_jumpif_row:Cal P w K mg base 2 "jumpif_row" (spD K cFrame Zhl)) (c_load_row:Cal P w K mg base 2 "load_row" (ZeA K cAccount cFrame)) (c_save_row:Cal P w K mg base 5 "save_row" (ZeC K cAccount cJournal cSave cMove cNote cFrame)) (c_me_row:Cal P w K mg base 2 "me_row" (spD K cFrame rMe)) (c_from_row:Cal P w K mg base 2 "from_row" (spD K cFrame rFrom)) (c_sent_row:Cal P w K mg base 2 "sent_row" (spD K cFrame rSent)) (c_word_row:Cal P w K mg base 2 "word_row" (spD K cFrame rWord)) (c_coin_row:Cal P w K mg base 2 "coin_row" (ZeB K cAccount cFrame)) (c_note_row:Cal P w K mg base 5 "note_row" (ZeD K cAccount cJournal cSave cMove cNote cFrame)) (c_give_row:Cal P w K mg base 2 "give_row" (spD K cFrame rGive)) (c_fail_row:Cal P w K mg base 2 "fail_row" (spD K cFrame rFail)):DoOk P w K cAccount cJournal cSave cMove cNote cFrame mg base aD:=by
  refine ⟨_,dk,fun x sp h=>?_⟩
  rcases h with ⟨R,h,rfl⟩|⟨rfl,rfl⟩|⟨rfl,rfl⟩|⟨rfl,rfl⟩|⟨rfl,rfl⟩
  . have hm:=Zdd h
    simp only [RDL,List.mem_cons,Prod.mk.injEq,List.not_mem_nil,or_false] at hm
    rcases hm with ⟨rfl,rfl⟩|⟨rfl,rfl⟩|⟨rfl,rfl⟩|⟨rfl,rfl⟩|⟨rfl,rfl⟩|⟨rfl,rfl⟩|⟨rfl,rfl⟩|⟨rfl,rfl⟩|⟨rfl,rfl⟩|⟨rfl,rfl⟩|⟨rfl,rfl⟩|⟨rfl,rfl⟩|⟨rfl,rfl⟩|⟨rfl,rfl⟩|⟨rfl,rfl⟩|⟨rfl,rfl⟩|⟨rfl,rfl⟩|⟨rfl,rfl⟩|⟨rfl,rfl⟩|⟨rfl,rfl⟩|⟨rfl,rfl⟩|⟨rfl,rfl⟩|⟨rfl,rfl⟩|⟨rfl,rfl⟩
    . exact Zbf m_push_row c_push_row (by decide) rfl
    . exact Zbf m_drop_row c_drop_row (by decide) rfl
    . exact Zbf m_copy_row c_copy_row (by decide) rfl
    . exact Zbf m_swap_row c_swap_row (by decide) rfl
    . exact Zbf m_reckon_row c_reckon_row (by decide) rfl
    . exact Zbf m_reckon_row c_reckon_row (by decide) rfl
    . exact Zbf m_reckon_row c_reckon_row (by decide) rfl
    . exact Zbf m_reckon_row c_reckon_row (by decide) rfl
    . exact Zbf m_reckon_row c_reckon_row (by decide) rfl
    . exact Zbf m_reckon_row c_reckon_row (by decide) rfl
    . exact Zbf m_reckon_row c_reckon_row (by decide) rfl
    . exact Zbf m_reckon_row c_reckon_row (by decide) rfl
    . exact Zbf m_reckon_row c_reckon_row (by decide) rfl
    . exact Zbf m_reckon_row c_reckon_row (by decide) rfl
    . exact Zbf m_reckon_row c_reckon_row (by decide) rfl
    . exact Zbf m_reckon_row c_reckon_row (by decide) rfl
    . exact Zbf m_jump_row c_jump_row (by decide) rfl
    . exact Zbf m_jumpif_row c_jumpif_row (by decide) rfl
    . exact Zbf m_me_row c_me_row (by decide) rfl
    . exact Zbf m_from_row c_from_row (by decide) rfl
    . exact Zbf m_sent_row c_sent_row (by decide) rfl
    . exact Zbf m_word_row c_word_row (by decide) rfl
    . exact Zbf m_give_row c_give_row (by decide) rfl
    . exact Zbf m_fail_row c_fail_row (by decide) rfl
  . exact Zbf m_load_row c_load_row (by decide) rfl
  . exact Zbf m_coin_row c_coin_row (by decide) rfl
  . exact Zbf m_save_row c_save_row (by decide) rfl
  . exact Zbf m_note_row c_note_row (by decide) rfl
theorem ZjW:FnScope ["rooms", "journal", "frame", "row"] ["rooms", "journal", "frame", "row"] (Zac Zfi):=⟨rfl,rfl,rfl,by decide +kernel,rfl,by decide +kernel,by decide +kernel⟩
theorem ZjX  {cAccount cJournal cSave cMove cNote cFrame aD:Addr} (DO:DoOk P w K cAccount cJournal cSave cMove cNote cFrame mg base aD)  (D:Zaq K mg "do_row" Zfi) (g_DOINGS:Za0 mg "DOINGS" (.ref aD)):Cal P w K mg base 6 "do_row" (ZhL K cAccount cJournal cSave cMove cNote cFrame):=by
  refine ZaA (N:=["rooms", "journal", "frame", "row"]) (ps:=["rooms", "journal", "frame", "row"]) D ZjW (fun vs H Q E h=>?_) (fun _ _ _ _ _ _ us hl=>bd4 (R:=fun us=>bindArgs _ ⟨us,[]⟩=pure (List.zip _ us)) (fun _ _ _ _=>rfl) us hl) (fun f cdv A outer s H vs Q E hr h=>?_)
  . obtain ⟨vR,vJ,a,p,w,n,sp,rfl,_⟩:=h; rfl
  . obtain ⟨vR,vJ,a,p,wd,n,sp,rfl,hp,hS,k⟩:=h
    refine ⟨_,(Zaf (Zay (Zh5 (k:=5) (hr.mono (by decide)) (Ze0 (ZbO rfl g_DOINGS) (ZaK Zbe (pv 3) Zag (fun _ _=>rfl)) (fun _ _=>rfl)) (Zaa (pv 0) (Zaa (pv 1) (Zaa (pv 2) (Zaa (pv 3) Zae))))))),?_⟩
    walk_at "nx"
    obtain ⟨ts,dk,al⟩:=DO
    obtain ⟨fa,hv,cf⟩:=al wd sp hS
    refine Zjh ?_
    unfold tCallV
    repeat walk_at "rw"
    refine Zjo (v:=.ref fa) dk hv rfl ?_
    refine ⟨fa,_,rfl,cf,?_⟩
    repeat walk_at "rdk"
    exact k
end
theorem Zig:∀ (kvs:List (Key × V)),(∀ p ∈ kvs,∃ i n:Int,p=(Sum.inl i,.int n)/\n ≠ 0)->∃ ks:List Int,kvs.map (·.1)=ks.map Sum.inl
  | [],_=>⟨[],rfl⟩
  | p :: r,h=>by
    obtain ⟨i,n,rfl,_⟩:=h p (by simp)
    obtain ⟨ks,e⟩:=Zig r fun q hq=>h q (by simp [hq])
    exact ⟨i :: ks,by rw [List.map_cons,e]; rfl⟩
theorem Zk2 {kvs:List (Key × V)} {k:Key} {v:V} (h:valV kvs k=some v):(k,v) ∈ kvs:=by
  unfold valV at h
  obtain ⟨p,hp,rfl⟩:=Option.map_eq_some_iff.mp h
  have h1:=List.find?_some hp
  have h2:=List.mem_of_find?_eq_some hp
  simp only [decide_eq_true_eq] at h1
  rw [<- h1]
  exact h2
noncomputable def placeD:Dd->Option Int
  | .save _ p _ _=>some p
  | _=>none
theorem ZjY (S:Nat->AcS) (d:Dd) (i:Nat) (p:Int) (h:(doneS S d i).store p ≠ 0):(S i).store p ≠ 0\/placeD d=some p:=by
  cases d with
  | save s q o n =>
    by_cases e:q=p
    . exact .inr (by rw [<- e]; rfl)
    . refine .inl fun z=>h ?_
      show (setS S s.toNat _ i).store p=0
      unfold setS
      by_cases w:i=s.toNat
      . rw [if_pos w]
        show putFn _ q n p=0
        unfold putFn
        rw [if_neg (Ne.symm e),<- w]
        exact z
      . rw [if_neg w]
        exact z
  | move s t k =>
    refine .inl fun z=>h ?_
    show (moved S _ _ k i).store p=0
    rw [Zb9]
    exact z
  | note s n=>exact .inl h
theorem Zih:∀ (ds:List Dd) (S:Nat->AcS) (i:Nat) (p:Int),(runS S ds i).store p ≠ 0->(S i).store p ≠ 0\/p ∈ ds.filterMap placeD
  | [],S,i,p,h=>.inl h
  | d :: ds,S,i,p,h=>by
    rcases Zih ds (doneS S d) i p h with h|h
    . rcases ZjY S d i p h with h|h
      . exact .inl h
      . exact .inr (List.mem_filterMap.mpr ⟨d,by simp,h⟩)
    . obtain ⟨e,he,ep⟩:=List.mem_filterMap.mp h
      exact .inr (List.mem_filterMap.mpr ⟨e,by simp [he],ep⟩)
theorem ZgK:∀ (ks ps:List Int),ks.Nodup->(∀ k ∈ ks,k ∈ ps)->ks.length <= ps.length
  | [],ps,_,_=>Nat.zero_le _
  | k :: ks,ps,hn,h=>by
    obtain ⟨n1,n2⟩:=List.nodup_cons.mp hn
    have hk:=h k (by simp)
    have:=ZgK ks (ps.erase k) n2 fun x hx=>(List.mem_erase_of_ne (fun z=>n1 (by rw [<- z]; exact hx))).mpr (h x (by simp [hx]))
    rw [List.length_erase_of_mem hk] at this
    have:0 < ps.length:=List.length_pos_of_mem hk
    simp only [List.length_cons]
    omega
theorem StoreAt.tight {H:Hp} {d:Addr} {f:Int->Int} {m:Nat} (h:StoreAt H d f m) {ps:List Int} (hp:∀ p,f p ≠ 0->p ∈ ps):StoreAt H d f ps.length:=by
  obtain ⟨kvs,e1,e2,e3,e4,e5⟩:=h
  refine ⟨kvs,e1,?_,e3,e4,e5⟩
  obtain ⟨ks,hk⟩:=Zig kvs e4
  have hkn:ks.Nodup:=by
    rw [hk] at e3
    exact (List.pairwise_map.mp e3).imp fun h e=>h (by rw [e])
  have hl:kvs.length=ks.length:=by
    have:=congrArg List.length hk
    rw [List.length_map,List.length_map] at this
    exact this
  rw [hl]
  refine ZgK ks ps hkn fun k hk'=>hp k ?_
  have hm:(Sum.inl k:Key) ∈ kvs.map (·.1):=by rw [hk]; exact List.mem_map.mpr ⟨k,hk',rfl⟩
  cases e:valV kvs (Sum.inl k:Key) with
  | none=>exact absurd hm (Zh4 e)
  | some v =>
    obtain ⟨j,n,z,hn0⟩:=e4 _ (Zk2 e)
    cases z
    have:=e5 k
    rw [e] at this
    rw [<- V.int.inj (show V.int n=V.int (f k) from this)]
    exact hn0
noncomputable def SupB (S0:Nat->AcS) (m0:Nat):Prop:=∀ i,∃ ps:List Int,ps.length <= m0/\∀ p,(S0 i).store p ≠ 0->p ∈ ps
theorem Rooms.tight2 {K:PySem.W.Frag} {C:Addr} {H:Hp} {R:Addr} {A:Nat->Option AcI} {S0:Nat->AcS} {ds:List Dd} {m m0:Nat} (r:Rooms K C H R A (runS S0 ds) m) (z:SupB S0 m0):Rooms K C H R A (runS S0 ds) (m0 + ds.length) :=
  ⟨r.ob,fun i x hi hx=>let h:=r.ac i x hi hx; let ⟨ps,e0,e9⟩:=z i; ⟨h.ob,h.pg,let ⟨kvs,e1,e2,e3⟩:=StoreAt.tight h.sto (ps:=ps ++ ds.filterMap placeD) (fun p hp=>List.mem_append.mpr ((Zih ds S0 i p hp).imp (e9 p) id)); ⟨kvs,e1,Nat.le_trans e2 (by rw [List.length_append]; exact Nat.add_le_add e0 (List.length_filterMap_le _ _)),e3⟩⟩,r.da,r.ds⟩
structure Wd (K:PySem.W.Frag) (C cJ cS cM cN:Addr) (H:Hp) (j dx R L:Addr) (A:Nat->Option AcI) (S0:Nat->AcS) (m0:Nat) (ds:List Dd):Prop where
  J:∃ es,es.map (·.d)=ds/\Jr cJ cS cM cN H j dx R L A es
  r:Rooms K C H R A (runS S0 ds) (m0 + ds.length)
  ri:ZbK S0 ds
  ti:SupB S0 m0
  b:m0 <= 100000
noncomputable def newP (H0 H:Hp):Hp:=fun b=>match H0 b with
  | none=>H b
  | some _=>none
noncomputable def Stp (K:PySem.W.Frag) (H0 H:Hp) (st:List Dt) (vs:List V):Prop:=DVs K (newP H0 H) st vs
theorem ZeG {H0 H:Hp} {b:Addr} {o:HO} (h0:H0 b=none) (h:H b=some o):newP H0 H b=some o:=by unfold newP; rw [h0]; exact h
theorem ZhM {H0 H:Hp} {b:Addr} {o:HO} (h:newP H0 H b=some o):H0 b=none/\H b=some o:=by
  unfold newP at h
  split at h
  . rename_i e; exact ⟨e,h⟩
  . cases h
theorem ZeH {K:PySem.W.Frag} {H:Hp}:∀ {ds es:List Dt} {xs ys:List V},DVs K H ds xs->DVs K H es ys->DVs K H (ds ++ es) (xs ++ ys)
  | [],es,xs,ys,h,q=>by unfold DVs at h; subst h; exact q
  | d :: ds,es,xs,ys,h,q=>by
    unfold DVs at h
    obtain ⟨x,t,rfl,h1,h2⟩:=h
    exact Zab h1 (ZeH h2 q)
section
variable {K:PySem.W.Frag} {C cJ cS cM cN cF:Addr} {H H0 H1 H':Hp} {j dx R L:Addr} {A:Nat->Option AcI} {S0:Nat->AcS} {m0:Nat} {ds:List Dd} {f g:FrI} {x y:FrS} {ws vs:List V} {st:List Dt}
theorem Stp.nil:Stp K H0 H [] []:=ZaH
theorem Stp.int (i:Int):Stp K H0 H [.int i] [.int i]:=Zab Zaj ZaH
theorem Stp.app {s2:List Dt} {v2:List V} (a:Stp K H0 H st vs) (b:Stp K H0 H s2 v2):Stp K H0 H (st ++ s2) (vs ++ v2):=ZeH a b
theorem Stp.kept {Y:Addr->Prop} (a:Stp K H0 H st vs) (k:KeptX Y H H') (d:∀ b,Y b->H0 b ≠ none):Stp K H0 H' st vs :=
  DVs.keep (fun b o e=>let ⟨e1,e2⟩:=ZhM e; ZeG e1 (k b o e2 fun z=>d b z e1)) a
theorem Stp.same (a:Stp K H0 H st vs) (s:Same H H'):Stp K H0 H' st vs:=a.kept (Y:=fun _=>False) s.keptX fun _ z=>z.elim
theorem Stp.base (a:Stp K H1 H st vs) (d:∀ b,H1 b=none->H0 b=none):Stp K H0 H st vs:=DVs.keep (fun b o e=>let ⟨e1,e2⟩:=ZhM e; ZeG (d b e1) e2) a
theorem Stp.tell {t:Addr} {d:Dd} (h0:H0 t=none) (h:H t=some (.tup (tellV d))):Stp K H0 H [tellD d] [.ref t]:=Zab (ZcS (ZaX (ZeG h0 h)) (Zfv d)) ZaH
theorem Stp.dv {d:Dt} {v:V} (a:Stp K H0 H [d] [v]):DV K H d v:=by
  have h:DVs K H [d] [v]:=DVs.keep (fun b o e=>(ZhM e).2) a
  unfold DVs at h
  obtain ⟨x,t,e,h,_⟩:=h
  cases e
  exact h
theorem Wd.same (W:Wd K C cJ cS cM cN H j dx R L A S0 m0 ds) (s:Same H H'):Wd K C cJ cS cM cN H' j dx R L A S0 m0 ds:=⟨let ⟨es,e,J⟩:=W.J; ⟨es,e,J.same s⟩,W.r.same s,W.ri,W.ti,W.b⟩
theorem Wd.frame (W:Wd K C cJ cS cM cN H j dx R L A S0 m0 ds) (F:FrAt cF H f x ws) (a:Ap R L A f) (k:KeptX (inF3 f) H H'):Wd K C cJ cS cM cN H' j dx R L A S0 m0 ds:=⟨let ⟨es,e,J⟩:=W.J; ⟨es,e,J.frame F a k⟩,W.r.frame F a k,W.ri,W.ti,W.b⟩
theorem Wd.wrote {e:DI} {es:List DI} {m:Nat} (W:Wd K C cJ cS cM cN H j dx R L A S0 m0 ds) (he:es.map (·.d)=ds) (r:Rooms K C H' R A (doneS (runS S0 ds) e.d) m) (J:Jr cJ cS cM cN H' j dx R L A (es ++ [e])) (h:rightD (runS S0 ds) e.d):Wd K C cJ cS cM cN H' j dx R L A S0 m0 (ds ++ [e.d]) :=
  ⟨⟨_,by rw [List.map_append,he]; rfl,J⟩,Rooms.tight2 (by rw [Zgx]; exact r) W.ti,(Zch _ _ _).mpr ⟨W.ri,h⟩,W.ti,W.b⟩
theorem ZdZ (F:FrAt cF H f x ws) {b:Addr} (h:inF3 f b):H b ≠ none:=by
  rcases h with rfl|rfl|rfl
  . rw [F.ob]; intro z; cases z
  . rw [F.st]; intro z; cases z
  . rw [F.ss]; intro z; cases z
theorem Zlw (W:Wd K C cJ cS cM cN H j dx R L A S0 m0 ds) {b:Addr} (h:¬ Out A b\/b=L):H b ≠ none:=fun z=>by
  rcases h with h|rfl
  . exact h (W.r.outN z)
  . obtain ⟨es,_,J⟩:=W.J
    rw [J.li] at z; cases z
theorem Ze1 (W:Wd K C cJ cS cM cN H j dx R L A S0 m0 ds) (F:FrAt cF H f x ws) {b:Addr} (h:goX A L f b):H b ≠ none:=by
  rcases h with h|h|h
  . exact Zlw W (.inl h)
  . exact Zlw W (.inr h)
  . exact ZdZ F h
theorem ZeI {Y:Addr->Prop} (k:KeptX Y H0 H) (d:∀ b,Y b->H b ≠ none) (b:Addr) (h:H b=none):H0 b=none:=by
  cases z:H0 b with
  | none=>rfl
  | some o =>
    exfalso
    by_cases q:Y b
    . exact d b q h
    . rw [k b o z q] at h; cases h
structure NewF (H:Hp) (g:FrI):Prop where
  a:H g.a=none
  t:H g.ST=none
  s:H g.SS=none
theorem NewF.not (n:NewF H g) {b:Addr} (h:H b ≠ none):¬ inF3 g b:=by
  rintro (rfl|rfl|rfl)
  . exact h n.a
  . exact h n.t
  . exact h n.s
theorem NewF.ap (n:NewF H g) (W:Wd K C cJ cS cM cN H j dx R L A S0 m0 ds):Ap R L A g:=by
  obtain ⟨es,_,J⟩:=W.J
  exact ⟨Ne.symm (Zam W.r.ob n.t),Ne.symm (Zam W.r.ob n.s),Ne.symm (Zam J.li n.t),Ne.symm (Zam J.li n.s),fun i y hi hy=>by
      obtain ⟨xs,e1,_⟩:=(W.r.ac i y hi hy).pg
      exact ⟨Ne.symm (Zam e1 n.t),Ne.symm (Zam e1 n.s)⟩⟩
theorem FrAt.callee (F:FrAt cF H f x ws) (W:Wd K C cJ cS cM cN H j dx R L A S0 m0 ds) (a:Ap R L A f) (n:NewF H g) {x1:FrS} {ws1:List V} (F1:FrAt cF H1 f x1 ws1) (k:KeptX (goX A L g) H1 H'):FrAt cF H' f x1 ws1:=by
  obtain ⟨es,_,J⟩:=W.J
  have oa:Out A f.a:=fun i y hi hy=>⟨Zic F.ob (W.r.ac i y hi hy).ob (by show 15 ≠ 5; decide),let ⟨_,g,_⟩:=(W.r.ac i y hi hy).sto; Zbl F.ob g (by intro z; cases z)⟩
  refine F1.kept k ?_ ?_ ?_
  . rintro (z|z|z)
    . exact z oa
    . exact Zbl F.ob J.li (by intro z; cases z) z
    . exact n.not (ZdZ F (.inl rfl)) z
  . rintro (z|z|z)
    . exact z (W.r.outL F.st)
    . exact a.tL z
    . exact n.not (ZdZ F (.inr (.inl rfl))) z
  . rintro (z|z|z)
    . exact z (W.r.outL F.ss)
    . exact a.sL z
    . exact n.not (ZdZ F (.inr (.inr rfl))) z
theorem ZgL (k1:KeptX (inF3 f) H H1) (n:NewF H g) (k:KeptX (goX A L g) H1 H'):KeptX (goX A L f) H H':=fun b o e nb=>k b o (k1 b o e fun z=>nb (.inr (.inr z))) fun z=>by
  rcases z with z|z|z
  . exact nb (.inl z)
  . exact nb (.inr (.inl z))
  . exact n.not (by rw [e]; intro q; cases q) z
end
noncomputable def endD:Option Str->Dt
  | none=>.non
  | some s=>.str s
noncomputable def treeD (x:FrS) (st:List Dt):Dt:=.tup [.str x.kind,.int x.who,.int x.whose,.int x.caller,.int x.coin,.int x.word,.int x.given,endD x.fin,.int x.answer,.int x.used,.lst st]
theorem Stp.tree {K:PySem.W.Frag} {H0 H:Hp} {x:FrS} {st:List Dt} {vs:List V} {p T:Addr} (a:Stp K H0 H st vs) (hT:H0 T=none) (h1:H T=some (.lst vs)) (hp:H0 p=none) (h2:H p=some (.tup (treeV x T))):Stp K H0 H [treeD x st] [.ref p]:=by
  refine Zab (ZcS (ZaX (ZeG hp h2)) (Zab ZbT (Zab Zaj (Zab Zaj (Zab Zaj (Zab Zaj (Zab Zaj (Zab Zaj (Zab ?_ (Zab Zaj (Zab Zaj (Zab (Zei (ZaF (ZeG hT h1)) a) ZaH)))))))))))) ZaH
  cases e:x.fin with
  | none=>unfold endD DV; rfl
  | some s=>exact ZbT
noncomputable def wellI (e:Option Str):Int:=if e=some ("well" : Str) then 1 else 0
noncomputable abbrev GR:=List Dd->FrS->List Dd->FrS->List Dt->Prop
noncomputable def Zk3 (A:Nat->Option AcI) (S0:Nat->AcS) (G:GR) (w:Str) (ds:List Dd) (x:FrS) (ds':List Dd) (x':FrS) (d:Dt):Prop:=∃ (s:List Int) (y y':FrS) (st:List Dt) (e:Option Str),ZjV x w s y/\x'={ x with stack:=s ++ [y'.answer,wellI y'.fin],used:=x.used + y'.used }/\d=treeD y' st/\s.length <= 900/\ZhK A (runS S0 ds) y e /\
  ((∃ e1,e=some e1/\ds'=ds/\y'={ y with given:=0,fin:=some e1,answer:=0 }/\st=[])\/(e=none/\G ds { y with given:=if x.given - x.used < y.given then x.given - x.used else y.given } ds' y' st))
inductive DoW (A:Nat->Option AcI) (S0:Nat->AcS) (G:GR):Str->Option Int->List Dd->FrS->List Dd->FrS->List Dt->Prop
  | pure {w:Str} {n:Option Int} {ds:List Dd} {x x':FrS} {D:RD} (hC:inS w ["call", "borrow", "look"]=false) (h:RDL.lookup w=some D) (hD:D x w n x'):DoW A S0 G w n ds x ds x' []
  | load {n:Option Int} {ds:List Dd} {x:FrS} {s:List Int} {pl:Int} {i:Nat} {y:AcI} (ew:x.who=(i:Int)) (hi:i < 16) (hy:A i=some y) (e:x.stack=s ++ [pl]):DoW A S0 G "load" n ds x ds { x with stack:=s ++ [(runS S0 ds i).store pl] } []
  | coin {n:Option Int} {ds:List Dd} {x:FrS} {s:List Int} {sl:Int} (e:x.stack=s ++ [sl]):DoW A S0 G "coin" n ds x ds { x with stack:=s ++ [ZhE A (runS S0 ds) sl] } []
  | save {n:Option Int} {ds:List Dd} {x:FrS} {s:List Int} {pl v:Int} {i:Nat} {y:AcI} (ew:x.who=(i:Int)) (hi:i < 16) (hy:A i=some y) (e:x.stack=s ++ [pl,v]):DoW A S0 G "save" n ds x (ds ++ [.save (i:Int) pl ((runS S0 ds i).store pl) v]) { x with stack:=s } [tellD (.save (i:Int) pl ((runS S0 ds i).store pl) v)]
  | note {n:Option Int} {ds:List Dd} {x:FrS} {s:List Int} {v:Int} (e:x.stack=s ++ [v]):DoW A S0 G "note" n ds x (ds ++ [.note x.who v]) { x with stack:=s } [tellD (.note x.who v)]
  | call {w:Str} {n:Option Int} {ds ds':List Dd} {x x':FrS} {d:Dt} (hC:inS w ["call", "borrow", "look"]=true) (h:Zk3 A S0 G w ds x ds' x' d):DoW A S0 G w n ds x ds' x' [d]
noncomputable def OnW (A:Nat->Option AcI) (S0:Nat->AcS) (G:GR) (rows:List Row) (ds:List Dd) (x:FrS) (ds':List Dd) (x':FrS) (add:List Dt):Prop :=
  ((rows.length:Int) <= x.row/\ds'=ds/\x'={ x with fin:=some ("well" : Str),answer:=0 }/\add=[])\/∃ (i:Nat) (w:Str) (n:Option Int),x.row=(i:Int)/\rows[i]?=some (w,n) /\
    ((∃ e,aheadR A (runS S0 ds) x w n (some e)/\ds'=ds/\x'={ x with fin:=some e,answer:=0 }/\add=[]) \/
     (aheadR A (runS S0 ds) x w n none/\∃ (b1 b2:Bool) (t l pr d:Int) (ad:List Dt),Zck x w b1/\fillsR A (runS S0 ds) x w b2/\RT.lookup w=some (t,l,pr,d)/\DoW A S0 G w n ds (ZdI x (if (b1 || b2)=true then d else pr)) ds' x' ad/\add=.int x.row :: ad))
inductive RunW (A:Nat->Option AcI) (S0:Nat->AcS) (G:GR) (rows:List Row):Nat->List Dd->FrS->List Dd->FrS->List Dt->Prop
  | done {ds:List Dd} {x:FrS} (h:x.fin ≠ none):RunW A S0 G rows 0 ds x ds x []
  | step {n:Nat} {ds ds1 ds2:List Dd} {x x' y:FrS} {add st:List Dt} (h:x.fin=none) (o:OnW A S0 G rows ds x ds1 x' add) (l:x.stack.length <= 900) (e:x'.whose=x.whose) (q:RunW A S0 G rows n ds1 x' ds2 y st):RunW A S0 G rows (n + 1) ds x ds2 y (add ++ st)
noncomputable def mvD (x:FrS):Option Dd:=if x.kind = "call" /\ 0 < x.coin then some (.move x.caller x.who x.coin) else none
noncomputable def GoW (A:Nat->Option AcI) (S0:Nat->AcS):Nat->GR
  | 0=>fun _ _ _ _ _=>False
  | n + 1=>fun ds x ds' y st=>∃ (i:Nat) (ac:AcI) (k:Nat) (ds1:List Dd) (st1:List Dt),x.fin=none/\x.whose=(i:Int)/\i < 16/\A i=some ac/\(∀ d,mvD x=some d->fitsD A d)/\RunW A S0 (GoW A S0 n) (S0 i).rows k (ds ++ (mvD x).toList) x ds1 y st1/\k <= 40000/\ds1.length <= 100000/\ds'=(if y.fin=some ("well" : Str) then ds1 else ds)/\st=(mvD x).toList.map tellD ++ st1
noncomputable def PreG (G:GR):Prop:=∀ ds x ds' y st,G ds x ds' y st->ds <+: ds'/\∃ e,y.fin=some e
theorem DoW.pre {A:Nat->Option AcI} {S0:Nat->AcS} {G:GR} (hG:PreG G) {w:Str} {n:Option Int} {ds ds':List Dd} {x x':FrS} {ad:List Dt} (h:DoW A S0 G w n ds x ds' x' ad):ds <+: ds'/\ad.length <= 1:=by
  cases h with
  | pure=>exact ⟨List.prefix_rfl,Nat.zero_le _⟩
  | load=>exact ⟨List.prefix_rfl,Nat.zero_le _⟩
  | coin=>exact ⟨List.prefix_rfl,Nat.zero_le _⟩
  | save=>exact ⟨List.prefix_append _ _,Nat.le_refl _⟩
  | note=>exact ⟨List.prefix_append _ _,Nat.le_refl _⟩
  | call hC h =>
    obtain ⟨s,y,y',st,e,_,_,_,_,_,h⟩:=h
    rcases h with ⟨_,_,rfl,_⟩|⟨_,h⟩
    . exact ⟨List.prefix_rfl,Nat.le_refl _⟩
    . exact ⟨(hG _ _ _ _ _ h).1,Nat.le_refl _⟩
theorem OnW.pre {A:Nat->Option AcI} {S0:Nat->AcS} {G:GR} (hG:PreG G) {rows:List Row} {ds ds':List Dd} {x x':FrS} {ad:List Dt} (h:OnW A S0 G rows ds x ds' x' ad):ds <+: ds'/\ad.length <= 2:=by
  rcases h with ⟨_,rfl,_,rfl⟩|⟨_,_,_,_,_,⟨_,_,rfl,_,rfl⟩|⟨_,_,_,_,_,_,_,_,_,_,_,h,rfl⟩⟩
  . exact ⟨List.prefix_rfl,Nat.zero_le _⟩
  . exact ⟨List.prefix_rfl,Nat.zero_le _⟩
  . exact ⟨(h.pre hG).1,Nat.succ_le_succ (h.pre hG).2⟩
theorem RunW.pre {A:Nat->Option AcI} {S0:Nat->AcS} {G:GR} (hG:PreG G) {rows:List Row}:∀ {n:Nat} {ds ds':List Dd} {x y:FrS} {st:List Dt},RunW A S0 G rows n ds x ds' y st->ds <+: ds'/\∃ e,y.fin=some e
  | _,_,_,_,_,_,.done h=>by
    rename_i x
    refine ⟨List.prefix_rfl,?_⟩
    cases e:x.fin with
    | none=>exact absurd e h
    | some e'=>exact ⟨e',rfl⟩
  | _,_,_,_,_,_,.step _ o _ _ q=>⟨(o.pre hG).1.trans (q.pre hG).1,(q.pre hG).2⟩
theorem GoW.pre {A:Nat->Option AcI} {S0:Nat->AcS}:∀ n,PreG (GoW A S0 n)
  | 0=>fun _ _ _ _ _ h=>h.elim
  | n + 1=>fun ds x ds' y st h=>by
    obtain ⟨i,ac,k,ds1,st1,_,_,_,_,_,h,_,_,rfl,_⟩:=h
    have:=h.pre (GoW.pre n)
    refine ⟨?_,this.2⟩
    split
    . exact (List.prefix_append _ _).trans this.1
    . exact List.prefix_rfl
theorem ZjZ (S:Nat->AcS) (d:Dd) (i:Nat):(doneS S d i).rows=(S i).rows:=by
  cases d with
  | save s p o n =>
    show (setS S s.toNat _ i).rows=_
    unfold setS
    by_cases w:i=s.toNat
    . rw [if_pos w,<- w]
    . rw [if_neg w]
  | move s t k=>show (moved S _ _ k i).rows=_; rw [Zb9]
  | note s n=>rfl
theorem Zii:∀ (ds:List Dd) (S:Nat->AcS) (i:Nat),(runS S ds i).rows=(S i).rows
  | [],_,_=>rfl
  | d :: ds,S,i=>(Zii ds (doneS S d) i).trans (ZjZ S d i)
noncomputable def Post (K:PySem.W.Frag) (C cJ cS cM cN cF:Addr) (H:Hp) (j dx R L:Addr) (A:Nat->Option AcI) (S0:Nat->AcS) (m0:Nat) (f:FrI) (ws:List V) (ds':List Dd) (x':FrS) (add:List Dt) (Q:VK):Prop :=
  ∀ vs H',Wd K C cJ cS cM cN H' j dx R L A S0 m0 ds'->FrAt cF H' f x' (ws ++ vs)->Stp K H H' add vs->KeptX (goX A L f) H H'->Q .non H'
noncomputable def spGoW (K:PySem.W.Frag) (C cJ cS cM cN cF:Addr) (n:Nat):Sp:=fun vs H Q _=>∃ (j dx R L:Addr) (A:Nat->Option AcI) (S0:Nat->AcS) (m0:Nat) (ds:List Dd) (f:FrI) (x:FrS) (ds':List Dd) (y:FrS) (st:List Dt),vs=[.ref R,.ref j,.ref f.a]/\Wd K C cJ cS cM cN H j dx R L A S0 m0 ds/\FrAt cF H f x []/\Ap R L A f/\GoW A S0 n ds x ds' y st/\Post K C cJ cS cM cN cF H j dx R L A S0 m0 f [] ds' y st Q
noncomputable def ZgM (K:PySem.W.Frag) (C cJ cS cM cN cF:Addr) (n:Nat):Sp:=fun vs H Q _=>∃ (j dx R L:Addr) (A:Nat->Option AcI) (S0:Nat->AcS) (m0:Nat) (ds:List Dd) (f:FrI) (x:FrS) (ws:List V) (p:Addr) (w:Str) (nn:Option Int) (ds':List Dd) (x':FrS) (d:Dt),vs=[.ref R,.ref j,.ref f.a,.ref p]/\Wd K C cJ cS cM cN H j dx R L A S0 m0 ds/\FrAt cF H f x ws/\Ap R L A f/\ZbM K H p w nn/\Zk3 A S0 (GoW A S0 n) w ds x ds' x' d/\ws.length <= 99000/\Post K C cJ cS cM cN cF H j dx R L A S0 m0 f ws ds' x' [d] Q
noncomputable def Zij (K:PySem.W.Frag) (C cJ cS cM cN cF:Addr) (n:Nat):Sp:=fun vs H Q _=>∃ (j dx R L:Addr) (A:Nat->Option AcI) (S0:Nat->AcS) (m0:Nat) (ds:List Dd) (f:FrI) (x:FrS) (ws:List V) (p:Addr) (w:Str) (nn:Option Int) (ds':List Dd) (x':FrS) (ad:List Dt) (b1 b2:Bool) (t l pr d:Int),vs=[.ref R,.ref j,.ref f.a,.ref p]/\Wd K C cJ cS cM cN H j dx R L A S0 m0 ds/\FrAt cF H f x ws/\Ap R L A f/\ZbM K H p w nn/\Zck x w b1/\fillsR A (runS S0 ds) x w b2/\RT.lookup w=some (t,l,pr,d)/\DoW A S0 (GoW A S0 n) w nn ds (ZdI x (if (b1 || b2)=true then d else pr)) ds' x' ad/\x.stack.length <= 900/\ws.length <= 90000/\ds.length <= 100000/\Post K C cJ cS cM cN cF H j dx R L A S0 m0 f ws ds' x' (.int x.row :: ad) Q
noncomputable def Zj0 (K:PySem.W.Frag) (C cJ cS cM cN cF:Addr) (n:Nat):Sp:=fun vs H Q _=>∃ (j dx R L:Addr) (A:Nat->Option AcI) (S0:Nat->AcS) (m0:Nat) (ds:List Dd) (f:FrI) (x:FrS) (ws:List V) (ds':List Dd) (x':FrS) (add:List Dt) (i:Nat) (y:AcI),vs=[.ref R,.ref j,.ref f.a]/\Wd K C cJ cS cM cN H j dx R L A S0 m0 ds/\FrAt cF H f x ws/\Ap R L A f/\x.whose=(i:Int)/\i < 16/\A i=some y/\OnW A S0 (GoW A S0 n) (S0 i).rows ds x ds' x' add/\x.stack.length <= 900/\ws.length <= 90000/\ds.length <= 100000/\Post K C cJ cS cM cN cF H j dx R L A S0 m0 f ws ds' x' add Q
section
end
section
variable {P:Program} {w:World} {K:PySem.W.Frag} {mg:Str->Option Value} {base:Heap}
theorem Zc6:FnScope ["rooms", "journal", "frame", "row", "other", "end"] ["rooms", "journal", "frame", "row"] (Zac ZcK):=⟨rfl,rfl,rfl,by decide +kernel,rfl,by decide +kernel,by decide +kernel⟩
theorem ZhN  {k n:Nat} {cAccount cJournal cSave cMove cNote:Addr} {cFrame:Addr} (D:Zaq K mg "call_row" ZcK) (tFrame:T_Frame K mg cFrame) (m_Frame_left:MCal P w K mg base 1 cFrame "left" (spLeft cFrame)) (m_Frame_finish:MCal P w K mg base 1 cFrame "finish" (ZcL cFrame)) (m_Frame_tree:MCal P w K mg base 1 cFrame "tree" (spTree cFrame)) (m_Frame_lay:MCal P w K mg base 1 cFrame "lay" (spLay cFrame)) (c_other_call:Cal P w K mg base 3 "other_call" (ZhJ K cFrame)) (c_end_ahead_of_call:Cal P w K mg base 2 "end_ahead_of_call" (ZfI K cAccount cFrame)) (c_go:Cal P w K mg base (k + 8) "go" (spGoW K cAccount cJournal cSave cMove cNote cFrame n)) (n_min:mg "min" = none):Cal P w K mg base (k + 9) "call_row" (ZgM K cAccount cJournal cSave cMove cNote cFrame n):=by
  refine ZaA (N:=["rooms", "journal", "frame", "row", "other", "end"]) (ps:=["rooms", "journal", "frame", "row"]) D Zc6 (fun vs H Q E h=>?_) (fun _ _ _ _ _ _ us hl=>bd4 (R:=fun us=>bindArgs _ ⟨us,[]⟩=pure (List.zip _ us)) (fun _ _ _ _=>rfl) us hl) (fun f cdv A outer s H vs Q E hr h=>?_)
  . obtain ⟨j,dx,R,L,A,S0,m0,ds,f,x,ws,p,w,nn,ds',x',d,rfl,_⟩:=h; rfl
  . obtain ⟨j,dx,R,L,Ar,S0,m0,ds,fr,x,ws,p,wd,nn,ds',x',d,rfl,W,F,ap,hp,⟨s0,y,y',st,e,hO,rfl,rfl,hs,ha,hC⟩,hw,kk⟩:=h
    refine ⟨_,(Zad (Zat (i:=4) Zc6.nd rfl (by first|exact Or.inl rfl|exact Or.inr rfl) (ZaG c_other_call (hr.mono (by omega)) rfl (Zaa (pv 2) (Zaa (pv 3) Zae))))
      (Zad (Zat (i:=5) Zc6.nd rfl (by first|exact Or.inl rfl|exact Or.inr rfl) (ZaG c_end_ahead_of_call (hr.mono (by omega)) rfl (Zaa (pv 0) (Zaa (pv 4) Zae))))
      (Zad (Zgj (Zbi (ZaD Zef (pv 5) Zcn (nomark _)) (Zad (ZaU (pv 4) (ZaI (Zlp rfl) rfl n_min PyProof.Rows.boot_min (Zaa (Zal (pv 4) rfl) (Zaa (ZcI m_Frame_left (hr.mono (by omega)) (pv 2)) Zae))) rfl)
      (Zaf (Zay (ZaG c_go (hr.mono (by omega)) rfl (Zaa (pv 0) (Zaa (pv 1) (Zaa (pv 4) Zae))))))) (Zad (ZaU (pv 4) Zag rfl)
      (Zaf (Zay (ZaL m_Frame_finish (hr.mono (by omega)) (pv 4) (Zaa (pv 5) (Zaa Zag Zae))))))))
      (Zad (Zcp (pv 2) (Zal (pv 4) rfl) Zh0)
      (Zad (Zay (Zf1 PySem.F.plainAttrs_list PySem.F.slot_list_append PySem.F.type_list_append ZbC (Zal (pv 2) rfl) (Zaa (ZcI m_Frame_tree (hr.mono (by omega)) (pv 4)) Zae)))
      (Zad (Zay (ZaL m_Frame_lay (hr.mono (by omega)) (pv 2) (Zaa (Zal (pv 4) rfl) Zae)))
      (Zaf (Zay (ZaL m_Frame_lay (hr.mono (by omega)) (pv 2) (Zaa (Zd0 (ZaD Zb7 (Zal (pv 4) rfl) Zav (nomark _)) Zag Zag) Zae)))))))))),?_⟩
    walk_at "nx"
    obtain ⟨e0,he0⟩:∃ e0,y'.fin=some e0:=by
      rcases hC with ⟨e1,_,_,rfl,_⟩|⟨_,h⟩
      . exact ⟨e1,rfl⟩
      . exact (GoW.pre n _ _ _ _ _ h).2
    repeat walk_at "rw"
    refine ⟨fr,x,y,ws,p,wd,nn,s0,rfl,F,hp,hO,fun gf H1 ga gt gs k1 F1 G1=>?_⟩
    have nf:NewF H gf:=⟨ga,gt,gs⟩
    have k1':KeptX (inF3 fr) H H1:=k1.mono fun _ h=>.inr (.inl h)
    have W1:=W.frame F ap k1'
    have apg:=nf.ap W
    have d1:=ZeI k1' fun b z=>ZdZ F1 z
    repeat walk_at "rw"
    refine ⟨R,Ar,_,_,gf,y,[],e,rfl,W1.r,G1,ha,?_⟩
    repeat walk_at "rw"
    refine Zgi (fun σ' H'=>∃ vs v,Wd K cAccount cJournal cSave cMove cNote H' j dx R L Ar S0 m0 ds'/\FrAt cFrame H' fr { x with stack:=s0 } ws/\FrAt cFrame H' gf y' vs/\Stp K H H' st vs/\KeptX (goX Ar L fr) H H'/\σ'=[some (.ref R),some (.ref j),some (.ref fr.a),some (.ref p),some (.ref gf.a),v]) ?_ ?_
    . rcases hC with ⟨e1,rfl,rfl,rfl,rfl⟩|⟨rfl,hG⟩
      . rw [show endV (some e1)=V.str e1 from rfl]
        repeat walk_at "rw"
        refine ⟨rfl,?_⟩
        rw [decide_eq_false (show ¬ V.str e1=V.non by intro z; cases z)]
        repeat walk_at "rw"
        refine Zau G1.ob tFrame.k.cl tFrame.n_given (by show 15 < 1000; decide) ?_
        have G2:=G1.setF { y with given:=0 } rfl
        have e2:putF "given" (.int 0) (fldF gf y)=fldF gf { y with given:=0 }:=rfl
        rw [e2]
        have k2:KeptX (inF3 gf) H1 (upd H1 gf.a (.ins cFrame gf.dx (fldF gf { y with given:=0 }))):=KeptX.upd (.inl rfl)
        generalize upd H1 gf.a _=H2 at G2 k2
        repeat walk_at "rw"
        refine Zap G2.ob rfl ?_
        repeat walk_at "rw"
        refine ⟨gf,_,[],e1,0,rfl,G2,fun H3 k3 G3=>?_⟩
        have k3':KeptX (inF3 gf) H1 H3:=k2.trans (k3.mono fun _ h=>.inl h)
        repeat walk_at "rw"
        exact ⟨[],_,W1.frame G1 apg k3',F.callee W ap nf F1 (Zdn k3'),G3,Stp.nil,ZgL k1' nf (Zdn k3'),rfl⟩
      . rw [show endV none=V.non from rfl]
        repeat walk_at "rw"
        refine Zai G1.ob tFrame.k.cl tFrame.n_given rfl ?_
        repeat walk_at "rw"
        refine Zap F1.ob rfl ?_
        refine ⟨fr,_,ws,rfl,F1,?_⟩
        generalize hgv:(if x.given - x.used < y.given then x.given - x.used else y.given)=gv at hG
        repeat walk_at "rw"
        try (refine Zjl ?_; repeat walk_at "rw")
        refine Zau G1.ob tFrame.k.cl tFrame.n_given (by show 15 < 1000; decide) ?_
        have G2:=G1.setF { y with given:=gv } rfl
        have e2:putF "given" (.int (if x.given - x.used < y.given then x.given - x.used else y.given)) (fldF gf y)=fldF gf { y with given:=gv }:=by rw [hgv]; rfl
        rw [e2]
        have k2:KeptX (inF3 gf) H1 (upd H1 gf.a (.ins cFrame gf.dx (fldF gf { y with given:=gv }))):=KeptX.upd (.inl rfl)
        generalize upd H1 gf.a _=H2 at G2 k2
        have W2:=W1.frame G1 apg k2
        have d2:∀ b,H2 b=none->H b=none:=fun b h=>d1 b (ZeI k2 (fun b z=>ZdZ G2 z) b h)
        repeat walk_at "rw"
        refine ⟨j,dx,R,L,Ar,S0,m0,ds,gf,_,ds',y',st,rfl,W2,G2,apg,hG,fun vs H3 W3 G3 S3 k3=>?_⟩
        have k3':=(Zdn (A:=Ar) (L:=L) k2).trans k3
        repeat walk_at "rw"
        exact ⟨vs,_,W3,F.callee W ap nf F1 k3',G3,S3.base d2,ZgL k1' nf k3',rfl⟩
    rintro σ3 H3 ⟨vs,v,W3,F3,G3,S3,k3,rfl⟩
    have fl:∀ fs,fs=fldF gf y'->fs.lookup (Str.ofString "end")=some (V.str e0):=fun fs q=>by rw [q]; show some (endV y'.fin)=_; rw [he0]; rfl
    have d3:=ZeI k3 fun b z=>Ze1 W3 F3 z
    repeat walk_at "rw"
    refine Zdg F3.ob tFrame.k.cl tFrame.n_used rfl ?_
    repeat walk_at "rw"
    refine Zai G3.ob tFrame.k.cl tFrame.n_used rfl ?_
    repeat walk_at "rw"
    refine ⟨fr.dx,_,F3.ob,by show 15 < 1000; decide,?_⟩
    have F4:=F3.setF { x with stack:=s0,used:=x.used + y'.used } rfl
    have e4:putF "used" (.int (x.used + y'.used)) (fldF fr { x with stack:=s0 })=fldF fr { x with stack:=s0,used:=x.used + y'.used }:=rfl
    rw [e4]
    have k4:KeptX (inF3 fr) H3 (upd H3 fr.a (.ins cFrame fr.dx (fldF fr { x with stack:=s0,used:=x.used + y'.used }))):=KeptX.upd (.inl rfl)
    generalize upd H3 fr.a _=H4 at F4 k4
    have gk:∀ {Ha Hb:Hp} {xs:List V},FrAt cFrame Ha gf y' xs->KeptX (inF3 fr) Ha Hb->FrAt cFrame Hb gf y' xs:=fun q kq=>q.kept kq (fun z=>nf.not (ZdZ F z) (.inl rfl)) (fun z=>nf.not (ZdZ F z) (.inr (.inl rfl))) (fun z=>nf.not (ZdZ F z) (.inr (.inr rfl)))
    have G4:=gk G3 k4
    have W4:=W3.frame F3 ap k4
    have S4:=S3.kept k4 fun b z=>ZdZ F z
    have kk4:=k3.trans (Zdn k4)
    have d4:=ZeI kk4 fun b z=>Ze1 W4 F4 z
    repeat walk_at "rw"
    refine Zai F4.ob tFrame.k.cl tFrame.n_steps rfl ?_
    refine ⟨Zb3 (ZaF F4.ss),?_⟩
    repeat walk_at "rw"
    refine Zap G4.ob rfl ?_
    refine ⟨gf,y',vs,rfl,G4,fun q T H5 s5 hq hT h1 h2=>?_⟩
    have F5:=F4.same s5
    have G5:=G4.same s5
    have W5:=W4.same s5
    have S5:=(S4.same s5).tree (d4 _ hT) h1 (d4 _ hq) h2
    repeat walk_at "rw"
    refine ZbL F5.ss (Nat.lt_of_le_of_lt hw (by decide)) ?_
    have F6:=F5.setSS (ws ++ [.ref q])
    have k6:KeptX (inF3 fr) H5 (upd H5 fr.SS (.lst (ws ++ [.ref q]))):=KeptX.upd (.inr (.inr rfl))
    have G6:=gk G5 k6
    generalize upd H5 fr.SS _=H6 at F6 k6 G6
    repeat walk_at "rw"
    refine Zap F6.ob rfl ?_
    repeat walk_at "rw"
    refine Zai G6.ob tFrame.k.cl tFrame.n_answer rfl ?_
    repeat walk_at "rw"
    refine ⟨fr,_,_,_,rfl,F6,Nat.le_trans hs (by decide),fun H7 k7 F7=>?_⟩
    have k7':KeptX (inF3 fr) H5 H7:=k6.trans (k7.mono fun _ h=>.inr (.inl h))
    have G7:=gk G5 k7'
    have fin:∀ z H8,z=wellI y'.fin->KeptX (·=fr.ST) H7 H8->FrAt cFrame H8 fr { x with stack:=s0 ++ [y'.answer] ++ [z],used:=x.used + y'.used } (ws ++ [.ref q])->Q .non H8:=fun z H8 ez k8 F8=>by
      have k8':=k7'.trans (k8.mono fun _ h=>.inr (.inl h))
      rw [List.append_assoc,ez] at F8
      exact kk [.ref q] H8 (W5.frame F5 ap k8') F8 (S5.kept k8' fun b z=>ZdZ F z) (kk4.trans (s5.keptX.trans (Zdn k8')))
    have hl7:(s0 ++ [y'.answer]).length <= 1000:=by rw [List.length_append]; exact Nat.add_le_add hs (by show 1 <= 100; decide)
    repeat walk_at "rw"
    refine Zap F7.ob rfl ?_
    repeat walk_at "rw"
    refine Zai G7.ob tFrame.k.cl tFrame.n_end (fl _ rfl) ?_
    repeat' walk_at "rw"
    . rename_i hz
      refine ⟨fr,_,_,_,rfl,F7,hl7,fun H8 k8 F8=>?_⟩
      repeat walk_at "rw"
      exact fin 1 H8 (by unfold wellI; rw [he0,hz,if_pos rfl]) k8 F8
    . rename_i hz
      refine ⟨fr,_,_,_,rfl,F7,hl7,fun H8 k8 F8=>?_⟩
      repeat walk_at "rw"
      exact fin 0 H8 (by unfold wellI; rw [he0,if_neg (fun q=>hz (Option.some.inj q))]) k8 F8
end
section
variable {P:Program} {w:World} {K:PySem.W.Frag} {mg:Str->Option Value} {base:Heap}
theorem Zj1:FnScope ["rooms", "journal", "frame", "row"] ["rooms", "journal", "frame", "row"] (Zac Zd2):=⟨rfl,rfl,rfl,by decide +kernel,rfl,by decide +kernel,by decide +kernel⟩
theorem Zj2  {k n:Nat} {cAccount cJournal cSave cMove cNote:Addr} {aC:Addr} (tC3:TupK K aC ((["call", "borrow", "look"]:List Str).map V.str)) {cFrame:Addr} (D:Zaq K mg "go_row" Zd2) (tFrame:T_Frame K mg cFrame) (c_row_price:Cal P w K mg base 3 "row_price" (ZcM K cAccount cFrame)) (c_call_row:Cal P w K mg base (k + 9) "call_row" (ZgM K cAccount cJournal cSave cMove cNote cFrame n)) (c_do_row:Cal P w K mg base 6 "do_row" (ZhL K cAccount cJournal cSave cMove cNote cFrame)) (g_CALLING:Za0 mg "CALLING" (.ref aC)):Cal P w K mg base (k + 10) "go_row" (Zij K cAccount cJournal cSave cMove cNote cFrame n):=by
  refine ZaA (N:=["rooms", "journal", "frame", "row"]) (ps:=["rooms", "journal", "frame", "row"]) D Zj1 (fun vs H Q E h=>?_) (fun _ _ _ _ _ _ us hl=>bd4 (R:=fun us=>bindArgs _ ⟨us,[]⟩=pure (List.zip _ us)) (fun _ _ _ _=>rfl) us hl) (fun f cdv A outer s H vs Q E hr h=>?_)
  . obtain ⟨j,dx,R,L,A,S0,m0,ds,f,x,ws,p,w,nn,ds',x',ad,b1,b2,t,l,pr,d,rfl,_⟩:=h; rfl
  . obtain ⟨j,dx,R,L,Ar,S0,m0,ds,fr,x,ws,p,wd,nn,ds',x',ad,b1,b2,t,l,pr,d,rfl,W,F,ap,hp,hb1,hb2,hT,hD,hl,hw,hdl,kk⟩:=h
    refine ⟨_,(Zad (Zcp (pv 2) (ZaG c_row_price (hr.mono (by omega)) rfl (Zaa (pv 0) (Zaa (pv 2) (Zaa (pv 3) Zae)))) Zh0)
      (Zad (Zay (Zf1 PySem.F.plainAttrs_list PySem.F.slot_list_append PySem.F.type_list_append ZbC (Zal (pv 2) rfl) (Zaa (Zal (pv 2) rfl) Zae)))
      (Zad (Zcp (pv 2) Zag Zh0)
      (Zaf (Zbi (ZaD Zeb (ZaK Zbe (pv 3) Zag (fun _ _=>rfl)) (ZbO rfl g_CALLING) rfl) (Zaf (Zay (ZaG c_call_row (hr.mono (by omega)) rfl (Zaa (pv 0) (Zaa (pv 1) (Zaa (pv 2) (Zaa (pv 3) Zae))))))) (Zaf (Zay (ZaG c_do_row (hr.mono (by omega)) rfl (Zaa (pv 0) (Zaa (pv 1) (Zaa (pv 2) (Zaa (pv 3) Zae)))))))))))),?_⟩
    walk_at "nx"
    repeat walk_at "rw"
    refine Zdg F.ob tFrame.k.cl tFrame.n_used rfl ?_
    repeat walk_at "rw"
    refine ⟨R,Ar,_,_,fr,x,ws,p,wd,nn,b1,b2,t,l,pr,d,rfl,W.r,F,hp,hb1,hb2,hT,?_⟩
    generalize (if (b1 || b2)=true then d else pr)=c at hD |-
    repeat walk_at "rw"
    refine ⟨fr.dx,_,F.ob,by show 15 < 1000; decide,?_⟩
    have F1:=F.setF { x with used:=x.used + c } rfl
    have e1:putF "used" (.int (x.used + c)) (fldF fr x)=fldF fr { x with used:=x.used + c }:=rfl
    rw [e1]
    have k1:KeptX (inF3 fr) H (upd H fr.a (.ins cFrame fr.dx (fldF fr { x with used:=x.used + c }))):=KeptX.upd (.inl rfl)
    have hp1:ZbM K (upd H fr.a (.ins cFrame fr.dx (fldF fr { x with used:=x.used + c }))) p wd nn:=Zci hp F (KeptX.upd (.inl rfl))
    generalize upd H fr.a _=H1 at F1 k1 hp1
    repeat walk_at "rw"
    refine Zai F1.ob tFrame.k.cl tFrame.n_steps rfl ?_
    refine ⟨Zb3 (ZaF F1.ss),?_⟩
    repeat walk_at "rw"
    refine Zai F1.ob tFrame.k.cl tFrame.n_row rfl ?_
    repeat walk_at "rw"
    refine ZbL F1.ss (Nat.lt_of_le_of_lt hw (by decide)) ?_
    have F2:=F1.setSS (ws ++ [.int x.row])
    have k2:KeptX (inF3 fr) H (upd H1 fr.SS (.lst (ws ++ [.int x.row]))):=k1.trans (KeptX.upd (.inr (.inr rfl)))
    have hp2:ZbM K (upd H1 fr.SS (.lst (ws ++ [.int x.row]))) p wd nn:=(SameI.upd F1.ss ZbJ).tup hp1
    generalize upd H1 fr.SS _=H2 at F2 k2 hp2
    repeat walk_at "rw"
    refine Zdg F2.ob tFrame.k.cl tFrame.n_row rfl ?_
    repeat walk_at "rw"
    refine ⟨fr.dx,_,F2.ob,by show 15 < 1000; decide,?_⟩
    have F3:=F2.setF (ZdI x c) rfl
    have e3:putF "row" (.int (x.row + 1)) (fldF fr { x with used:=x.used + c })=fldF fr (ZdI x c):=rfl
    rw [e3]
    have k3:KeptX (inF3 fr) H (upd H2 fr.a (.ins cFrame fr.dx (fldF fr (ZdI x c)))):=k2.trans (KeptX.upd (.inl rfl))
    have hp3:ZbM K (upd H2 fr.a (.ins cFrame fr.dx (fldF fr (ZdI x c)))) p wd nn:=Zci hp2 F2 (KeptX.upd (.inl rfl))
    generalize upd H2 fr.a _=H3 at F3 k3 hp3
    have W3:=W.frame F ap k3
    have d3:=ZeI k3 fun b z=>ZdZ F3 z
    obtain ⟨es,hes,J3⟩:=W3.J
    have pure:∀ H4,KeptX (inF3 fr) H3 H4->ds'=ds->ad=[]->FrAt cFrame H4 fr x' (ws ++ [.int x.row])->Q .non H4:=fun H4 k4 e1 e2 F4=>by
      subst e1 e2
      exact kk _ H4 (W3.frame F3 ap k4) F4 (Stp.int x.row) (Zdn (k3.trans k4))
    repeat walk_at "rw"
    refine Zjm (tC3.sqt H3) ?_
    cases hD with
    | pure hC hR hDx =>
      rw [hC]
      repeat walk_at "rw"
      refine ⟨.ref R,.ref j,fr.a,p,_,nn,_,rfl,hp3,.inl ⟨_,hR,rfl⟩,?_⟩
      exact ⟨.ref R,.ref j,fr,_,x',_,p,wd,nn,rfl,F3,hp3,hDx,hl,fun H4 k4 F4=>pure H4 (k_F3 k4) rfl rfl F4⟩
    | load ew hi hy e =>
      rw [show inS "load" ["call", "borrow", "look"]=false from rfl]
      repeat walk_at "rw"
      refine ⟨.ref R,.ref j,fr.a,p,_,nn,_,rfl,hp3,.inr (.inl ⟨rfl,rfl⟩),?_⟩
      exact ⟨R,L,.ref j,Ar,_,_,fr,_,_,.ref p,_,_,_,_,rfl,W3.r,F3,ap,ew,hi,hy,e,hl,fun H4 k4 F4=>pure H4 k4 rfl rfl F4⟩
    | coin e =>
      rw [show inS "coin" ["call", "borrow", "look"]=false from rfl]
      repeat walk_at "rw"
      refine ⟨.ref R,.ref j,fr.a,p,_,nn,_,rfl,hp3,.inr (.inr (.inl ⟨rfl,rfl⟩)),?_⟩
      exact ⟨R,L,.ref j,Ar,_,_,fr,_,_,.ref p,_,_,rfl,W3.r,F3,ap,e,hl,fun H4 k4 F4=>pure H4 k4 rfl rfl F4⟩
    | save ew hi hy e =>
      rename_i s0 pl v i yy
      rw [show inS "save" ["call", "borrow", "look"]=false from rfl]
      repeat walk_at "rw"
      refine ⟨.ref R,.ref j,fr.a,p,_,nn,_,rfl,hp3,.inr (.inr (.inr (.inl ⟨rfl,rfl⟩))),?_⟩
      refine ⟨j,dx,R,L,Ar,_,_,es,fr,_,_,.ref p,i,yy,s0,pl,v,rfl,J3,W3.r,by have:=W.b; omega,by rw [<- hes,List.length_map] at hdl; omega,F3,ap,by rw [List.length_append]; show ws.length + 1 <= _; omega,ew,hi,hy,e,fun t e H4 he ht k4 r4 J4 F4 et=>?_⟩
      have W4:=W3.wrote hes (e:=e) (by rw [he]; exact r4) J4 (by rw [he]; show (runS S0 ds (i:Int).toNat).store pl=_; rw [Int.toNat_natCast])
      rw [he] at W4
      rw [List.append_assoc] at F4
      exact kk _ H4 W4 F4 ((Stp.int x.row).app (Stp.tell (d3 _ ht) et)) ((Zdn k3).trans k4)
    | note e =>
      rename_i s0 v
      rw [show inS "note" ["call", "borrow", "look"]=false from rfl]
      repeat walk_at "rw"
      refine ⟨.ref R,.ref j,fr.a,p,_,nn,_,rfl,hp3,.inr (.inr (.inr (.inr ⟨rfl,rfl⟩))),?_⟩
      refine ⟨j,dx,R,L,Ar,_,_,es,fr,_,_,.ref p,s0,v,rfl,J3,W3.r,by have:=W.b; omega,by rw [<- hes,List.length_map] at hdl; omega,F3,ap,by rw [List.length_append]; show ws.length + 1 <= _; omega,e,fun t e H4 he ht k4 r4 J4 F4 et=>?_⟩
      have W4:=W3.wrote hes (e:=e) (by rw [he]; exact r4) J4 (by rw [he]; trivial)
      rw [he] at W4
      rw [List.append_assoc] at F4
      exact kk _ H4 W4 F4 ((Stp.int x.row).app (Stp.tell (d3 _ ht) et)) ((Zdn k3).trans k4)
    | call hC hX =>
      rw [hC]
      repeat walk_at "rw"
      refine ⟨j,dx,R,L,Ar,S0,m0,ds,fr,_,_,p,wd,nn,ds',x',_,rfl,W3,F3,ap,hp3,hX,by rw [List.length_append]; show ws.length + 1 <= _; omega,fun vs H4 W4 F4 S4 k4=>?_⟩
      repeat walk_at "rw"
      rw [List.append_assoc] at F4
      exact kk _ H4 W4 F4 ((Stp.int x.row).app (S4.base d3)) ((Zdn k3).trans k4)
end
section
variable {P:Program} {w:World} {K:PySem.W.Frag} {mg:Str->Option Value} {base:Heap}
theorem Zd5:FnScope ["rooms", "journal", "frame", "program", "row", "end"] ["rooms", "journal", "frame"] (Zac Zfj):=⟨rfl,rfl,rfl,by decide +kernel,rfl,by decide +kernel,by decide +kernel⟩
theorem Zk4  {k n:Nat} {cJournal cSave cMove cNote:Addr} {cAccount:Addr} {cFrame:Addr} (D:Zaq K mg "go_on" Zfj) (tAccount:T_Account K mg cAccount) (tFrame:T_Frame K mg cFrame) (m_Frame_finish:MCal P w K mg base 1 cFrame "finish" (ZcL cFrame)) (c_end_ahead_of:Cal P w K mg base 4 "end_ahead_of" (ZhD K cAccount cFrame)) (c_go_row:Cal P w K mg base (k + 10) "go_row" (Zij K cAccount cJournal cSave cMove cNote cFrame n)) (n_len:mg "len" = none):Cal P w K mg base (k + 11) "go_on" (Zj0 K cAccount cJournal cSave cMove cNote cFrame n):=by
  refine ZaA (N:=["rooms", "journal", "frame", "program", "row", "end"]) (ps:=["rooms", "journal", "frame"]) D Zd5 (fun vs H Q E h=>?_) (fun _ _ _ _ _ _ us hl=>bd3 (R:=fun us=>bindArgs _ ⟨us,[]⟩=pure (List.zip _ us)) (fun _ _ _=>rfl) us hl) (fun f cdv A outer s H vs Q E hr h=>?_)
  . obtain ⟨j,dx,R,L,A,S0,m0,ds,f,x,ws,ds',x',add,i,y,rfl,_⟩:=h; rfl
  . obtain ⟨j,dx,R,L,Ar,S0,m0,ds,fr,x,ws,ds',x',add,iw,y,rfl,W,F,ap,ew,hi,hy,ho,hl,hw,hdl,kk⟩:=h
    refine ⟨_,(Zad (Zat (i:=3) Zd5.nd rfl (by first|exact Or.inl rfl|exact Or.inr rfl) (Zal (ZaK Zaz (pv 0) (Zal (pv 2) rfl) (fun _ _=>rfl)) rfl))
      (Zad (Zbi (ZaD ZlE (Zal (pv 2) rfl) (ZaI ZbP rfl n_len PySem.boot_len (Zaa (pv 3) Zae)) (nomark _)) (Zad (Zay (ZaL m_Frame_finish (hr.mono (by omega)) (pv 2) (Zaa Zav (Zaa Zag Zae))))
      (Zaf ZlC)) ZaJ)
      (Zad (Zat (i:=4) Zd5.nd rfl (by first|exact Or.inl rfl|exact Or.inr rfl) (ZaK Zaz (pv 3) (Zal (pv 2) rfl) (fun _ _=>rfl)))
      (Zad (Zat (i:=5) Zd5.nd rfl (by first|exact Or.inl rfl|exact Or.inr rfl) (ZaG c_end_ahead_of (hr.mono (by omega)) rfl (Zaa (pv 0) (Zaa (pv 2) (Zaa (pv 4) Zae)))))
      (Zaf (Zbi (ZaD Zef (pv 5) Zcn (nomark _)) (Zaf (Zay (ZaG c_go_row (hr.mono (by omega)) rfl (Zaa (pv 0) (Zaa (pv 1) (Zaa (pv 2) (Zaa (pv 4) Zae))))))) (Zaf (Zay (ZaL m_Frame_finish (hr.mono (by omega)) (pv 2) (Zaa (pv 5) (Zaa Zag Zae))))))))))),?_⟩
    walk_at "nx"
    have ay:=W.r.ac iw y hi hy
    obtain ⟨xs,hx1,hx2⟩:=ay.pg
    rw [Zii] at hx2
    have hlen:=hx2.1
    repeat walk_at "rw"
    refine Zai F.ob tFrame.k.cl tFrame.n_whose rfl ?_
    rw [ew]
    refine Za7 (ZaF W.r.ob) (W.r.at hi hy) ?_
    refine Zai ay.ob tAccount.k.cl tAccount.n_program rfl ?_
    repeat walk_at "rw"
    refine Zai F.ob tFrame.k.cl tFrame.n_row rfl ?_
    rcases ho with ⟨h1,rfl,rfl,rfl⟩|⟨i,wd,nn,er,hrow,ho⟩
    . repeat walk_at "rz"
      refine Zap F.ob rfl ?_
      repeat walk_at "rw"
      refine ⟨fr,x,ws, "well", 0,rfl,F,fun H1 k1 F1=>?_⟩
      repeat walk_at "rw"
      have k1':KeptX (inF3 fr) H H1:=k1.mono fun _ h=>.inl h
      exact kk [] H1 (W.frame F ap k1') (by rw [List.append_nil]; exact F1) Stp.nil (Zdn k1')
    . have hil:i < (S0 iw).rows.length:=(List.getElem?_eq_some_iff.mp hrow).1
      obtain ⟨pt,ep,hpt⟩:=hx2.2 i _ _ hrow (List.getElem?_eq_getElem (by rw [<- hlen]; exact hil))
      have exi:atI xs x.row=some (.ref pt):=ZbR (i:=i) (by rw [List.getElem?_eq_getElem (by rw [<- hlen]; exact hil),ep]) er
      have hp:ZbM K H pt wd nn:=hpt
      repeat walk_at "rz"
      refine Zai F.ob tFrame.k.cl tFrame.n_row rfl ?_
      refine Za7 (ZaF hx1) exi ?_
      repeat walk_at "rw"
      rcases ho with ⟨e,ha,rfl,rfl,rfl⟩|⟨ha,b1,b2,t,l,pr,d,ad,hb1,hb2,hT,hD,rfl⟩
      . refine ⟨R,Ar,_,_,fr,x,ws,pt,wd,nn,some e,rfl,W.r,F,hp,ha,fun H1 s1=>?_⟩
        have F1:=F.same s1
        rw [show endV (some e)=V.str e from rfl]
        repeat walk_at "rw"
        refine ⟨rfl,?_⟩
        rw [decide_eq_false (show ¬ V.str e=V.non by intro z; cases z)]
        repeat walk_at "rw"
        refine Zap F1.ob rfl ?_
        repeat walk_at "rw"
        refine ⟨fr,x,ws,e,0,rfl,F1,fun H2 k2 F2=>?_⟩
        repeat walk_at "rw"
        have k2':KeptX (inF3 fr) H1 H2:=k2.mono fun _ h=>.inl h
        exact kk [] H2 ((W.same s1).frame F1 ap k2') (by rw [List.append_nil]; exact F2) Stp.nil (s1.keptX.trans (Zdn k2'))
      . refine ⟨R,Ar,_,_,fr,x,ws,pt,wd,nn,none,rfl,W.r,F,hp,ha,fun H1 s1=>?_⟩
        have F1:=F.same s1
        have hp1:ZbM K H1 pt wd nn:=s1.tup hp
        rw [show endV none=V.non from rfl]
        repeat walk_at "rw"
        refine ⟨j,dx,R,L,Ar,S0,m0,ds,fr,x,ws,pt,wd,nn,ds',x',ad,b1,b2,t,l,pr,d,rfl,W.same s1,F1,ap,hp1,hb1,hb2,hT,hD,hl,hw,hdl,fun vs H2 W2 F2 S2 k2=>?_⟩
        repeat walk_at "rw"
        exact kk vs H2 W2 F2 (S2.base fun b h=>s1.fresh h) (s1.keptX.trans k2)
end
section
variable {P:Program} {w:World} {K:PySem.W.Frag} {mg:Str->Option Value} {base:Heap}
theorem Zmz:FnScope ["rooms", "journal", "frame", "mark"] ["rooms", "journal", "frame"] (Zac s_go):=⟨rfl,rfl,rfl,by decide +kernel,rfl,by decide +kernel,by decide +kernel⟩
theorem ZmA  {k n:Nat} {cAccount cSave cNote:Addr} {cJournal:Addr} {cFrame:Addr} {cMove:Addr} (D:Zaq K mg "go" s_go) (tJournal:T_Journal K mg cJournal) (tFrame:T_Frame K mg cFrame) (tMove:T_Move K mg cMove) (m_Journal_mark:MCal P w K mg base 1 cJournal "mark" (spMark cJournal)) (i_Move:ICal P w K mg base 1 "Move" cMove (Zfs cMove)) (m_Journal_back:MCal P w K mg base 3 cJournal "back" (spBack K cAccount cJournal cSave cMove cNote)) (c_write_step:Cal P w K mg base 4 "write_step" (ZbZ K cAccount cJournal cSave cMove cNote cFrame)) (c_go_on:Cal P w K mg base (k + 11) "go_on" (Zj0 K cAccount cJournal cSave cMove cNote cFrame n)):Cal P w K mg base (k + 12) "go" (spGoW K cAccount cJournal cSave cMove cNote cFrame (n + 1)):=by
  refine ZaA (N:=["rooms", "journal", "frame", "mark"]) (ps:=["rooms", "journal", "frame"]) D Zmz (fun vs H Q E h=>?_) (fun _ _ _ _ _ _ us hl=>bd3 (R:=fun us=>bindArgs _ ⟨us,[]⟩=pure (List.zip _ us)) (fun _ _ _=>rfl) us hl) (fun f cdv A outer s H vs Q E hr h=>?_)
  . obtain ⟨j,dx,R,L,A,S0,m0,ds,f,x,ds',y,st,rfl,_⟩:=h; rfl
  . obtain ⟨j,dx,R,L,Ar,S0,m0,ds,fr,x,ds',y,st,rfl,W,F,ap,⟨iw,ac,kt,ds1,st1,hfin,ew,hi,hac,hfit,hrun,hkt,hd1,rfl,rfl⟩,kk⟩:=h
    refine ⟨_,(Zad (Zat (i:=3) Zmz.nd rfl (by first|exact Or.inl rfl|exact Or.inr rfl) (ZcI m_Journal_mark (hr.mono (by omega)) (pv 1)))
      (Zad (Zgj (Zbi (PW.pt (ZhX (ZaD Zb7 (Zal (pv 2) rfl) Zav (nomark _)) (Ze3 (ZaD Ze5 (Zal (pv 2) rfl) Zag (nomark _))))) (Zaf (Zay (ZaG c_write_step (hr.mono (by omega)) rfl (Zaa (pv 1) (Zaa (pv 2) (Zaa (ZcU i_Move (hr.mono (by omega)) rfl (Zaa (Zal (pv 2) rfl) (Zaa (Zal (pv 2) rfl) (Zaa (Zal (pv 2) rfl) Zae)))) Zae)))))) ZaJ))
      (Zad (Ze4 PassesOwn.never (ZaD Zef (Zal (pv 2) rfl) Zcn (nomark _))
      (Zaf (Zay (ZaG c_go_on (hr.mono (by omega)) rfl (Zaa (pv 0) (Zaa (pv 1) (Zaa (pv 2) Zae)))))))
      (Zaf (Zbi (ZaD Zkg (Zal (pv 2) rfl) Zav (nomark _)) (Zaf (Zay (ZaL m_Journal_back (hr.mono (by omega)) (pv 1) (Zaa (pv 3) Zae)))) ZaJ))))),?_⟩
    walk_at "nx"
    obtain ⟨es,hes,J⟩:=W.J
    have hpr:=(hrun.pre (GoW.pre n)).1
    have hdl:ds.length <= 100000:=Nat.le_trans (((List.prefix_append _ _).trans hpr).length_le) hd1
    have hel:es.length=ds.length:=by rw [<- hes,List.length_map]
    have hb:=W.b
    repeat walk_at "rw"
    refine Zap J.ob rfl ?_
    repeat walk_at "rw"
    refine ⟨j,dx,R,L,_,rfl,J.ob,J.li,?_⟩
    rw [List.length_map]
    repeat walk_at "rw"
    refine Zgi (fun σ' H'=>∃ pre,Wd K cAccount cJournal cSave cMove cNote H' j dx R L Ar S0 m0 (ds ++ (mvD x).toList)/\FrAt cFrame H' fr x pre/\Stp K H H' ((mvD x).toList.map tellD) pre/\KeptX (goX Ar L fr) H H'/\σ'=[some (.ref R),some (.ref j),some (.ref fr.a),some (.int (es.length:Nat))]) ?_ ?_
    . have nomv:mvD x=none->(∃ pre,Wd K cAccount cJournal cSave cMove cNote H j dx R L Ar S0 m0 (ds ++ (mvD x).toList)/\FrAt cFrame H fr x pre/\Stp K H H ((mvD x).toList.map tellD) pre/\KeptX (goX Ar L fr) H H/\[some (V.ref R),some (V.ref j),some (V.ref fr.a),some (V.int (es.length:Nat))]=[some (.ref R),some (.ref j),some (.ref fr.a),some (.int (es.length:Nat))]):=fun e=>by
        rw [e]
        exact ⟨[],by rw [show (none:Option Dd).toList=[] from rfl,List.append_nil]; exact W,F,Stp.nil,KeptX.refl,rfl⟩
      repeat walk_at "rw"
      refine Zai F.ob tFrame.k.cl tFrame.n_kind rfl ?_
      repeat' walk_at "rw"
      . rename_i hk
        refine Zai F.ob tFrame.k.cl tFrame.n_coin rfl ?_
        repeat' walk_at "rw"
        . rename_i hc
          have hmv:mvD x=some (.move x.caller x.who x.coin):=by unfold mvD; rw [if_pos ⟨hk,hc⟩]
          refine Zai F.ob tFrame.k.cl tFrame.n_caller rfl ?_
          repeat walk_at "rw"
          refine Zai F.ob tFrame.k.cl tFrame.n_who rfl ?_
          repeat walk_at "rw"
          refine Zai F.ob tFrame.k.cl tFrame.n_coin rfl ?_
          repeat walk_at "rw"
          intro o odx hx hdx hne
          have hx2:(upd H odx (.own o)) o=none:=by rw [Zak (Ne.symm hne)]; exact hx
          refine ⟨o,odx,x.caller,x.who,x.coin,rfl,Zah,rfl,?_⟩
          rw [ZaY]
          have s1:Same H (upd (upd H odx (.own o)) o (.ins cMove odx (moveF x.caller x.who x.coin))):=(Same.new hdx).newT hx2
          have eo:(upd (upd H odx (.own o)) o (.ins cMove odx (moveF x.caller x.who x.coin))) o=some (.ins cMove odx (moveF x.caller x.who x.coin)):=Zah
          have J1:=J.same s1
          have W1:=W.same s1
          have F1:=F.same s1
          generalize upd (upd H odx (.own o)) o (.ins cMove odx (moveF x.caller x.who x.coin))=H1 at s1 eo J1 W1 F1
          repeat walk_at "rw"
          refine ⟨j,dx,R,L,Ar,_,_,es,⟨o,odx,.move x.caller x.who x.coin⟩,fr,x,[],rfl,J1,W1.r,eo,hfit _ hmv,by omega,by omega,F1,ap,Nat.zero_le _,fun t H2 ht k2 r2 J2 F2 et=>?_⟩
          repeat walk_at "rw"
          rw [hmv]
          exact ⟨[.ref t],W1.wrote hes r2 J2 trivial,F2,Stp.tell (s1.fresh ht) et,s1.keptX.trans k2,rfl⟩
        . rename_i hc
          exact nomv (by unfold mvD; rw [if_neg (fun z=>hc z.2)])
      . rename_i hk
        exact nomv (by unfold mvD; rw [if_neg (fun z=>hk z.1)])
    rintro σ1 H1 ⟨pre,W1,F1,S1,k1,rfl⟩
    have hpl:pre.length <= 1:=by
      have:=DVs.length S1
      rw [List.length_map] at this
      cases e:mvD x with
      | none=>rw [e] at this; rw [<- this]; exact Nat.zero_le _
      | some d=>rw [e] at this; rw [<- this]; exact Nat.le_refl _
    generalize (mvD x).toList.map tellD=st0 at S1 kk
    repeat walk_at "rw"
    refine ⟨fun nn σ' H'=>∃ dx1 xx wz sa sb,RunW Ar S0 (GoW Ar S0 n) (S0 iw).rows nn dx1 xx ds1 y sb/\ds <+: dx1/\sa ++ sb=st0 ++ st1/\Stp K H H' sa wz/\xx.whose=(iw:Int)/\2 * nn + wz.length <= 80001/\Wd K cAccount cJournal cSave cMove cNote H' j dx R L Ar S0 m0 dx1/\FrAt cFrame H' fr xx wz/\KeptX (goX Ar L fr) H H'/\σ'=[some (.ref R),some (.ref j),some (.ref fr.a),some (.int (es.length:Nat))],⟨kt,_,x,pre,st0,st1,hrun,List.prefix_append _ _,rfl,S1,ew,by omega,W1,F1,k1,rfl⟩,?_⟩
    rintro nn σ' H2 ⟨dx1,xx,wz,sa,sb,hrun2,hp2,esb,S2,ew2,hl2,W2,F2,k2,rfl⟩
    have hob:=F2.ob
    cases hrun2 with
    | done hf =>
      obtain ⟨ee,hee⟩:∃ e,y.fin=some e:=by
        cases e:y.fin with
        | none=>exact absurd e hf
        | some e'=>exact ⟨e',rfl⟩
      rw [List.append_nil] at esb
      subst esb
      have fl:(fldF fr y).lookup (Str.ofString "end")=some (V.str ee):=by show some (endV y.fin)=_; rw [hee]; rfl
      repeat walk_at "rw"
      refine Zai F2.ob tFrame.k.cl tFrame.n_end fl ?_
      repeat walk_at "rw"
      refine ⟨rfl,?_⟩
      rw [decide_eq_false (show ¬ V.str ee=V.non by intro z; cases z)]
      repeat walk_at "rw"
      refine Zai F2.ob tFrame.k.cl tFrame.n_end fl ?_
      repeat' walk_at "rw"
      . rename_i hne
        have hw:¬ y.fin=some ("well" : Str):=by rw [hee]; intro z; exact hne (Option.some.inj z)
        rw [if_neg hw] at kk
        obtain ⟨es2,hes2,J2⟩:=W2.J
        have hel2:es2.length=ds1.length:=by rw [<- hes2,List.length_map]
        refine Zap J2.ob rfl ?_
        repeat walk_at "rw"
        have r2:=W2.r
        have ri2:=W2.ri
        rw [<- hes2] at r2 ri2
        refine ⟨j,dx,R,L,Ar,S0,_,es2,(es.length:Nat),rfl,J2,r2,ri2,by rw [List.length_map]; omega,fun H3 k3 r3 ri3 J3=>?_⟩
        have etk:(es2.take es.length).map (·.d)=ds:=by rw [List.map_take,hes2,hel]; exact (List.prefix_iff_eq_take.mp hp2).symm
        rw [Int.toNat_natCast] at r3 ri3 J3
        rw [etk] at r3 ri3
        repeat walk_at "rw"
        have F3:=F2.out W2.r ap J2.li k3
        exact kk wz H3 ⟨⟨_,etk,J3⟩,r3.tight2 W.ti,ri3,W.ti,W.b⟩ F3 (S2.kept (ZjT (f:=fr) k3) fun b z=>Ze1 W F z) (k2.trans (ZjT k3))
      . rename_i he
        subst he
        rw [if_pos hee] at kk
        exact kk wz H2 W2 F2 S2 k2
    | step hf o hl e q =>
      rename_i n1 dsn x' add sn
      have fl:(fldF fr xx).lookup (Str.ofString "end")=some V.non:=by show some (endV xx.fin)=_; rw [hf]; rfl
      have op:=o.pre (GoW.pre n)
      have hdn:dx1.length <= 100000:=Nat.le_trans ((op.1.trans (q.pre (GoW.pre n)).1).length_le) hd1
      repeat walk_at "rw"
      refine Zai F2.ob tFrame.k.cl tFrame.n_end fl ?_
      repeat walk_at "rw"
      refine ⟨fun σ' H'=>∃ m',m' < n1 + 1/\_,fun _ _ h=>h,?_⟩
      repeat walk_at "rw"
      refine ⟨j,dx,R,L,Ar,S0,m0,dx1,fr,xx,wz,dsn,x',add,iw,ac,rfl,W2,F2,ap,ew2,hi,hac,o,hl,by omega,hdn,fun vs H3 W3 F3 S3 k3=>?_⟩
      have d2:=ZeI k2 fun b z=>Ze1 W2 F2 z
      have ln:=DVs.length S3
      have ol:=op.2
      repeat walk_at "rw"
      exact ⟨n1,Nat.lt_succ_self _,dsn,x',wz ++ vs,sa ++ add,sn,q,hp2.trans op.1,by rw [List.append_assoc]; exact esb,(S2.kept k3 fun b z=>Ze1 W F z).app (S3.base d2),by rw [e]; exact ew2,by rw [List.length_append]; omega,W3,F3,k2.trans k3,rfl⟩
theorem go_no {cAccount cJournal cSave cMove cNote cFrame:Addr} (D:Zaq K mg "go" s_go):Cal P w K mg base 8 "go" (spGoW K cAccount cJournal cSave cMove cNote cFrame 0) :=
  ZaA (N:=["rooms", "journal", "frame", "mark"]) (ps:=["rooms", "journal", "frame"]) D Zmz (fun vs H Q E h=>by obtain ⟨j,dx,R,L,A,S0,m0,ds,f,x,ds',y,st,rfl,_⟩:=h; rfl) (fun _ _ _ _ _ _ us hl=>bd3 (R:=fun us=>bindArgs _ ⟨us,[]⟩=pure (List.zip _ us)) (fun _ _ _=>rfl) us hl) (fun _ _ _ _ _ _ _ _ _ _ h=>by obtain ⟨_,_,_,_,_,_,_,_,_,_,_,_,_,_,_,_,_,h,_⟩:=h; exact h.elim)
theorem Zlx {cAccount cJournal cSave cMove cNote cFrame aC:Addr} (tC3:TupK K aC ((["call", "borrow", "look"]:List Str).map V.str)) (D_call_row:Zaq K mg "call_row" ZcK) (tFrame:T_Frame K mg cFrame) (m_Frame_left:MCal P w K mg base 1 cFrame "left" (spLeft cFrame)) (m_Frame_finish:MCal P w K mg base 1 cFrame "finish" (ZcL cFrame)) (m_Frame_tree:MCal P w K mg base 1 cFrame "tree" (spTree cFrame)) (m_Frame_lay:MCal P w K mg base 1 cFrame "lay" (spLay cFrame)) (c_other_call:Cal P w K mg base 3 "other_call" (ZhJ K cFrame)) (c_end_ahead_of_call:Cal P w K mg base 2 "end_ahead_of_call" (ZfI K cAccount cFrame)) (n_min:mg "min" = none) (D_go_row:Zaq K mg "go_row" Zd2) (c_row_price:Cal P w K mg base 3 "row_price" (ZcM K cAccount cFrame)) (c_do_row:Cal P w K mg base 6 "do_row" (ZhL K cAccount cJournal cSave cMove cNote cFrame)) (g_CALLING:Za0 mg "CALLING" (.ref aC)) (D_go_on:Zaq K mg "go_on" Zfj) (tAccount:T_Account K mg cAccount) (c_end_ahead_of:Cal P w K mg base 4 "end_ahead_of" (ZhD K cAccount cFrame)) (n_len:mg "len" = none) (D_go:Zaq K mg "go" s_go) (tJournal:T_Journal K mg cJournal) (tMove:T_Move K mg cMove) (m_Journal_mark:MCal P w K mg base 1 cJournal "mark" (spMark cJournal)) (i_Move:ICal P w K mg base 1 "Move" cMove (Zfs cMove)) (m_Journal_back:MCal P w K mg base 3 cJournal "back" (spBack K cAccount cJournal cSave cMove cNote)) (c_write_step:Cal P w K mg base 4 "write_step" (ZbZ K cAccount cJournal cSave cMove cNote cFrame)):∀ n,Cal P w K mg base (4 * n + 8) "go" (spGoW K cAccount cJournal cSave cMove cNote cFrame n)
  | 0=>go_no D_go
  | n + 1 =>
    have c:=Zlx tC3 D_call_row tFrame m_Frame_left m_Frame_finish m_Frame_tree m_Frame_lay c_other_call c_end_ahead_of_call n_min D_go_row c_row_price c_do_row g_CALLING D_go_on tAccount c_end_ahead_of n_len D_go tJournal tMove m_Journal_mark i_Move m_Journal_back c_write_step n
    have c1:=ZhN (k:=4 * n) (n:=n) D_call_row tFrame m_Frame_left m_Frame_finish m_Frame_tree m_Frame_lay c_other_call c_end_ahead_of_call (c) n_min
    have c2:=Zj2 (k:=4 * n) (n:=n) tC3 D_go_row tFrame c_row_price (c1) c_do_row g_CALLING
    have c3:=Zk4 (k:=4 * n) (n:=n) D_go_on tAccount tFrame m_Frame_finish c_end_ahead_of (c2) n_len
    ZmA (k:=4 * n) (n:=n) D_go tJournal tFrame tMove m_Journal_mark i_Move m_Journal_back c_write_step (c3)
end
noncomputable def Zik (K:PySem.W.Frag) (C cJ cS cM cN:Addr):Sp:=fun vs H Q _=>∃ (j dx R L:Addr) (A:Nat->Option AcI) (S0:Nat->AcS) (m0:Nat) (ds:List Dd) (caller who coin word given:Int) (ds':List Dd) (y:FrS) (st:List Dt),vs=[.ref R,.ref j,.int caller,.int who,.int coin,.int word,.int given]/\Wd K C cJ cS cM cN H j dx R L A S0 m0 ds/\GoW A S0 10 ds (frame0 "call" who who caller coin word given 1 false) ds' y st /\
  ∀ p H',Wd K C cJ cS cM cN H' j dx R L A S0 m0 ds'->Stp K H H' [treeD y st] [.ref p]->KeptX (fun b=>¬ Out A b\/b=L) H H'->Q (.ref p) H'
section
variable {P:Program} {w:World} {K:PySem.W.Frag} {mg:Str->Option Value} {base:Heap}
theorem Zil:FnScope ["rooms", "journal", "caller", "who", "coin", "word", "given", "frame"] ["rooms", "journal", "caller", "who", "coin", "word", "given"] (Zac Zhc):=⟨rfl,rfl,rfl,by decide +kernel,rfl,by decide +kernel,by decide +kernel⟩
theorem Zk5   {cFrame:Addr} (D:Zaq K mg "enter" Zhc) (tFrame:T_Frame K mg cFrame) (m_Frame_tree:MCal P w K mg base 1 cFrame "tree" (spTree cFrame)) (c_go:Cal P w K mg base 48 "go" (spGoW K cAccount cJournal cSave cMove cNote cFrame 10)) (iD7_Frame:Zg7 P w K mg base 1 "Frame" cFrame (Zet cFrame) [.int 1,.bl false]):Cal P w K mg base 49 "enter" (Zik K cAccount cJournal cSave cMove cNote):=by
  refine ZaA (N:=["rooms", "journal", "caller", "who", "coin", "word", "given", "frame"]) (ps:=["rooms", "journal", "caller", "who", "coin", "word", "given"]) D Zil (fun vs H Q E h=>?_) (fun _ _ _ _ _ _ us hl=>bd7 (R:=fun us=>bindArgs _ ⟨us,[]⟩=pure (List.zip _ us)) (fun _ _ _ _ _ _ _=>rfl) us hl) (fun f cdv A outer s H vs Q E hr h=>?_)
  . obtain ⟨j,dx,R,L,A,S0,m0,ds,caller,who,coin,word,given,ds',y,st,rfl,_⟩:=h; rfl
  . obtain ⟨j,dx,R,L,Ar,S0,m0,ds,caller,who,coin,word,given,ds',y,st,rfl,W,hG,k⟩:=h
    refine ⟨_,(Zad (Zat (i:=7) Zil.nd rfl (by first|exact Or.inl rfl|exact Or.inr rfl) (Zd1 iD7_Frame (hr.mono (by decide)) rfl (Zaa Zav (Zaa (pv 3) (Zaa (pv 3) (Zaa (pv 2) (Zaa (pv 4) (Zaa (pv 5) (Zaa (pv 6) Zae)))))))))
      (Zad (Zay (ZaG c_go (hr.mono (by decide)) rfl (Zaa (pv 0) (Zaa (pv 1) (Zaa (pv 7) Zae)))))
      (Zaf (Zar (ZcI m_Frame_tree (hr.mono (by decide)) (pv 7)))))),?_⟩
    walk_at "nx"
    repeat walk_at "rw"
    refine ZkR ?_
    repeat walk_at "rw"
    intro a adx ha hadx hne
    have ha2:(upd H adx (.own a)) a=none:=by rw [Zak (Ne.symm hne)]; exact ha
    have s1:Same H (upd (upd H adx (.own a)) a (.ins cFrame adx [])):=(Same.new hadx).newT ha2
    refine ⟨a,adx, "call", who,who,caller,coin,word,given,1,false,rfl,Zah,fun ST SS H1 hST hSS F1 k1=>?_⟩
    have nf:NewF H ⟨a,adx,ST,SS⟩:=⟨ha,s1.fresh hST,s1.fresh hSS⟩
    have sa:Same H H1:=fun b o e=>k1 b o (s1 b o e) (Zam e ha)
    have W1:=W.same sa
    refine ⟨rfl,?_⟩
    repeat walk_at "rw"
    refine ⟨j,dx,R,L,Ar,S0,m0,ds,⟨a,adx,ST,SS⟩,_,ds',y,st,rfl,W1,F1,nf.ap W,hG,fun vs H2 W2 F2 S2 k2=>?_⟩
    rw [List.nil_append] at F2
    have d2:∀ b,H2 b=none->H b=none:=fun b h=>sa.fresh (ZeI k2 (fun b z=>Ze1 W2 F2 z) b h)
    have kX:KeptX (fun b=>¬ Out Ar b\/b=L) H H2:=fun b o e nb=>k2 b o (sa b o e) fun z=>by
      rcases z with z|z|z
      . exact nb (.inl z)
      . exact nb (.inr z)
      . exact nf.not (by rw [e]; intro q; cases q) z
    repeat walk_at "rw"
    refine Zap F2.ob rfl ?_
    refine ⟨⟨a,adx,ST,SS⟩,y,_,rfl,F2,fun p T H3 s3 hp hT e1 e2=>?_⟩
    exact k p H3 (W2.same s3) (((S2.base fun b h=>sa.fresh h).same s3).tree (d2 _ hT) e1 (d2 _ hp) e2) (kX.trans s3.keptX)
end
noncomputable def atS (x:FrS) (st:List Int) (row used:Int):FrS:={ x with stack:=st,row:=row,used:=used }
noncomputable def endS (x:FrS) (st:List Int) (row used:Int) (e:Str) (a:Int):FrS:={ x with stack:=st,row:=row,used:=used,fin:=some e,answer:=a }
section
variable {A:Nat->Option AcI} {S0:Nat->AcS} {G:GR} {rows:List Row} {n i i':Nat} {ds ds' ds1 ds2:List Dd} {x x' y:FrS} {s:List Dt} {st st':List Int} {w:Str} {nn:Option Int} {u u' r t l c:Int}
theorem ZmB {ad:List Dt} {pr d:Int} {b1 b2:Bool} (hf:x.fin=none) (hw:rows[i]?=some (w,nn)) (e1:ZbX w nn=some r) (e2:RT.lookup w=some (t,l,pr,d)) (h1:t + r <= (st.length:Int)) (h2:(st.length:Int) - t + l <= 24) (hl:st.length <= 24)
    (hb1:Zck (atS x st i u) w b1) (hb2:fillsR A (runS S0 ds) (atS x st i u) w b2) (hb:barB (atS x st i u) w b1=false) (hc:(if (b1 || b2)=true then d else pr)=c) (hu:u + c=u') (hg:u' <= x.given) (hD:DoW A S0 G w nn ds (atS x st ((i:Int) + 1) u') ds' x' ad) (hx:x'.whose=x.whose) (q:RunW A S0 G rows n ds' x' ds2 y s) :
    RunW A S0 G rows (n + 1) ds (atS x st i u) ds2 y (.int (i:Int) :: (ad ++ s)):=by
  refine RunW.step (add:=.int (i:Int) :: ad) hf (.inr ⟨i,w,nn,rfl,hw,.inr ⟨⟨r,t,l,pr,d,e1,e2,.inr (.inr ⟨?_,?_,b1,b2,hb1,hb2,.inr (.inr ⟨hb,?_,rfl⟩)⟩)⟩,b1,b2,t,l,pr,d,ad,hb1,hb2,e2,?_,rfl⟩⟩) (Nat.le_trans hl (by decide)) hx q
  . show ¬ (st.length:Int) < _; omega
  . show ¬ 24 < (st.length:Int) - _ + _; omega
  . rw [hc]; show ¬ x.given - u < c; omega
  . rw [hc,<- hu] at *; exact hD
theorem ZcD {D:RD} (hf:x.fin=none) (hw:rows[i]?=some (w,nn)) (e1:ZbX w nn=some r) (e2:RT.lookup w=some (t,l,c,c)) (h1:t + r <= (st.length:Int)) (h2:(st.length:Int) - t + l <= 24) (hl:st.length <= 24) (nc:w ≠ "call" /\ w ≠ "save" /\ inS w ["save", "note"]=false/\inS w ["call", "borrow", "look"]=false) (hR:RDL.lookup w=some D) (hu:u + c=u') (hg:u' <= x.given)
    (hD:D (atS x st ((i:Int) + 1) u') w nn x') (hx:x'.whose=x.whose) (q:RunW A S0 G rows n ds x' ds2 y s):RunW A S0 G rows (n + 1) ds (atS x st i u) ds2 y (.int (i:Int) :: s) :=
  ZmB (b1:=false) (b2:=false) (ad:=[]) hf hw e1 e2 h1 h2 hl (.inl ⟨nc.1,rfl⟩) (.inl ⟨nc.2.1,rfl⟩) (by unfold barB; rw [nc.2.2.1]; cases (atS x st i u).looking <;> rfl) rfl hu hg (.pure nc.2.2.2 hR hD) hx q
theorem ZbD {k:Int} (hf:x.fin=none) (hw:rows[i]?=some (("push" : Str),some k)) (hl:st.length < 24) (hu:u + 1=u') (hg:u' <= x.given) (q:RunW A S0 G rows n ds (atS x (st ++ [k]) ((i + 1:Nat):Int) u') ds2 y s):RunW A S0 G rows (n + 1) ds (atS x st i u) ds2 y (.int (i:Int) :: s) :=
  ZcD hf hw rfl rfl (by omega) (by omega) (by omega) ⟨by decide,by decide,rfl,rfl⟩ rfl hu hg ⟨k,rfl,rfl⟩ rfl q
theorem ZaT {v:Int} (hf:x.fin=none) (hw:rows[i]?=some (w,none)) (hv:(w = "word" /\ v=x.word)\/(w = "me" /\ v=x.who)\/(w = "from" /\ v=x.caller)\/(w = "sent" /\ v=x.coin)) (hl:st.length < 24) (hu:u + 1=u') (hg:u' <= x.given) (q:RunW A S0 G rows n ds (atS x (st ++ [v]) ((i + 1:Nat):Int) u') ds2 y s):RunW A S0 G rows (n + 1) ds (atS x st i u) ds2 y (.int (i:Int) :: s):=by
  rcases hv with ⟨rfl,rfl⟩|⟨rfl,rfl⟩|⟨rfl,rfl⟩|⟨rfl,rfl⟩
  . exact ZcD (D:=rWord) hf hw rfl rfl (by omega) (by omega) (by omega) ⟨by decide,by decide,rfl,rfl⟩ rfl hu hg rfl rfl q
  . exact ZcD (D:=rMe) hf hw rfl rfl (by omega) (by omega) (by omega) ⟨by decide,by decide,rfl,rfl⟩ rfl hu hg rfl rfl q
  . exact ZcD (D:=rFrom) hf hw rfl rfl (by omega) (by omega) (by omega) ⟨by decide,by decide,rfl,rfl⟩ rfl hu hg rfl rfl q
  . exact ZcD (D:=rSent) hf hw rfl rfl (by omega) (by omega) (by omega) ⟨by decide,by decide,rfl,rfl⟩ rfl hu hg rfl rfl q
theorem Zcm (a:List Int) (b:Int):(a ++ [b]).length=a.length + 1:=by rw [List.length_append]; rfl
theorem st_drop {v:Int} (hf:x.fin=none) (hw:rows[i]?=some (("drop" : Str),none)) (hl:st.length < 24) (hu:u + 1=u') (hg:u' <= x.given) (q:RunW A S0 G rows n ds (atS x st ((i + 1:Nat):Int) u') ds2 y s):RunW A S0 G rows (n + 1) ds (atS x (st ++ [v]) i u) ds2 y (.int (i:Int) :: s) :=
  ZcD (D:=rDrop) hf hw rfl rfl (by rw [Zcm]; omega) (by rw [Zcm]; omega) (by rw [Zcm]; omega) ⟨by decide,by decide,rfl,rfl⟩ rfl hu hg ⟨st,v,rfl,rfl⟩ rfl q
theorem ZaW {v:Int} (hf:x.fin=none) (hk:x.looking=false) (hw:rows[i]?=some (("note" : Str),none)) (hl:st.length < 24) (hu:u + 4=u') (hg:u' <= x.given) (q:RunW A S0 G rows n (ds ++ [.note x.who v]) (atS x st ((i + 1:Nat):Int) u') ds2 y s):RunW A S0 G rows (n + 1) ds (atS x (st ++ [v]) i u) ds2 y (.int (i:Int) :: tellD (.note x.who v) :: s) :=
  ZmB (b1:=false) (b2:=false) (ad:=[tellD (.note x.who v)]) hf hw rfl rfl (by rw [Zcm]; omega) (by rw [Zcm]; omega) (by rw [Zcm]; omega) (.inl ⟨by decide,rfl⟩) (.inl ⟨by decide,rfl⟩) (by unfold barB; show (x.looking && _)=false; rw [hk]; rfl) rfl hu hg (.note (s:=st) (v:=v) rfl) rfl q
theorem ZhO {d:Dt} {pr dd:Int} {b1:Bool} {u2:Int} (hf:x.fin=none) (hw:rows[i]?=some (w,none)) (e2:RT.lookup w=some (t,2,pr,dd)) (e1:ZbX w none=some 0) (h1:t <= (st.length:Int)) (h3:2 <= t) (hl:st.length <= 24) (hb1:Zck (atS x st i u) w b1) (n2:w ≠ "save") (hb:barB (atS x st i u) w b1=false) (hc:(if b1=true then dd else pr)=c) (hu:u + c=u') (hg:u' <= x.given) (hC:inS w ["call", "borrow", "look"]=true)
    (h:Zk3 A S0 G w ds (atS x st ((i + 1:Nat):Int) u') ds1 (atS x st' ((i + 1:Nat):Int) u2) d) (q:RunW A S0 G rows n ds1 (atS x st' ((i + 1:Nat):Int) u2) ds2 y s):RunW A S0 G rows (n + 1) ds (atS x st i u) ds2 y (.int (i:Int) :: d :: s) :=
  ZmB (b1:=b1) (b2:=false) (ad:=[d]) hf hw e1 e2 (by omega) (by omega) hl hb1 (.inl ⟨n2,rfl⟩) hb (by rw [Bool.or_false]; exact hc) hu hg (.call hC h) rfl q
theorem en_of (hf:x.fin=none) (h:(rows.length:Int) <= (i:Int)) (hl:st.length <= 24):RunW A S0 G rows 1 ds (atS x st i u) ds (endS x st i u "well" 0) [] :=
  RunW.step (add:=[]) (st:=[]) hf (.inl ⟨h,rfl,rfl,rfl⟩) (Nat.le_trans hl (by decide)) rfl (.done (by intro z; cases z))
theorem ZmC {v:Int} {e:Str} (hf:x.fin=none) (hw:rows[i]?=some (w,none)) (hv:w = "give" /\ e = "well" \/ w = "fail" /\ e = "fail") (hl:st.length < 24) (hu:u + 1=u') (hg:u' <= x.given):RunW A S0 G rows 1 ds (atS x (st ++ [v]) i u) ds (endS x st ((i:Int) + 1) u' e v) [.int (i:Int)]:=by
  rcases hv with ⟨rfl,rfl⟩|⟨rfl,rfl⟩
  . exact ZcD (D:=rGive) hf hw rfl rfl (by rw [Zcm]; omega) (by rw [Zcm]; omega) (by rw [Zcm]; omega) ⟨by decide,by decide,rfl,rfl⟩ rfl hu hg ⟨st,v,rfl,rfl⟩ rfl (.done (by intro z; cases z))
  . exact ZcD (D:=rFail) hf hw rfl rfl (by rw [Zcm]; omega) (by rw [Zcm]; omega) (by rw [Zcm]; omega) ⟨by decide,by decide,rfl,rfl⟩ rfl hu hg ⟨st,v,rfl,rfl⟩ rfl (.done (by intro z; cases z))
theorem Zca {pr d:Int} {b1 b2:Bool} (hf:x.fin=none) (hw:rows[i]?=some (w,nn)) (e1:ZbX w nn=some r) (e2:RT.lookup w=some (t,l,pr,d)) (h1:t + r <= (st.length:Int)) (h2:(st.length:Int) - t + l <= 24) (hl:st.length <= 24)
    (hb1:Zck (atS x st i u) w b1) (hb2:fillsR A (runS S0 ds) (atS x st i u) w b2) (hb:barB (atS x st i u) w b1=false) (hc:(if (b1 || b2)=true then d else pr)=c) (hg:x.given < u + c):RunW A S0 G rows 1 ds (atS x st i u) ds (endS x st i u "dry" 0) []:=by
  refine RunW.step (add:=[]) (st:=[]) hf (.inr ⟨i,w,nn,rfl,hw,.inl ⟨"dry", ⟨r,t,l,pr,d,e1,e2,.inr (.inr ⟨?_,?_,b1,b2,hb1,hb2,.inr (.inl ⟨hb,?_,rfl⟩)⟩)⟩,rfl,rfl,rfl⟩⟩) (Nat.le_trans hl (by decide)) rfl (.done (by intro z; cases z))
  . show ¬ (st.length:Int) < _; omega
  . show ¬ 24 < (st.length:Int) - _ + _; omega
  . rw [hc]; show x.given - u < c; omega
end
theorem ZhP (S:Nat->AcS) (a b:List Dd):runS S (a ++ b)=runS (runS S a) b:=by unfold runS; rw [List.foldl_append]
theorem ZgN (S:Nat->AcS) (a b:Nat) (k:Int) (j:Nat):(doneS S (.move (a:Int) (b:Int) k) j).coin=(S j).coin - (if j=a then k else 0) + (if j=b then k else 0)/\(doneS S (.move (a:Int) (b:Int) k) j).store=(S j).store:=by
  show (moved S _ _ k j).coin=_/\(moved S _ _ k j).store=_
  rw [Zb9,Int.toNat_natCast,Int.toNat_natCast]; exact ⟨rfl,rfl⟩
section
end
noncomputable def spNo:Sp:=fun _ _ _ _=>False
mutual
noncomputable def ZbQ:Dt->Prop
  | .int _=>True
  | .str _=>True
  | .tup ds=>ds.length <= 100000/\PlainDs ds
  | .lst ds=>ds.length <= 100000/\PlainDs ds
  | _=>False
noncomputable def PlainDs:List Dt->Prop
  | []=>True
  | d :: r=>ZbQ d/\PlainDs r
end
theorem PlainDs.at:∀ {ds:List Dt} {i:Nat} {d:Dt},PlainDs ds->ds[i]?=some d->ZbQ d
  | [],_,_,_,e=>by simp at e
  | d0 :: r,i,d,h,e=>by
    unfold PlainDs at h
    cases i with
    | zero=>cases e; exact h.1
    | succ i=>exact PlainDs.at h.2 (by simpa using e)
theorem ZhQ:∀ {ds:List Dt} {i:Nat} {d:Dt},ds[i]?=some d->d.dep <= Dt.deps ds
  | [],_,_,e=>by simp at e
  | d0 :: r,i,d,e=>by
    unfold Dt.deps
    cases i with
    | zero=>cases e; exact Nat.le_max_left ..
    | succ i=>exact Nat.le_trans (ZhQ (by simpa using e)) (Nat.le_max_right ..)
noncomputable def ZfK (K:PySem.W.Frag) (n:Nat):Sp:=fun vs H Q _=>∃ d v u,vs=[v,u]/\ZbQ d/\d.dep <= n/\DV K H d v/\DV K H d u/\Q (.bl true) H
noncomputable def Zk6 (K:PySem.W.Frag):Nat->Sp
  | 0=>spNo
  | n + 1=>ZfK K n
section
variable {P:Program} {w:World} {K:PySem.W.Frag} {mg:Str->Option Value} {base:Heap}
theorem ZeJ:FnScope ["_law_found", "_law_due", "_law_k"] ["_law_found", "_law_due"] (Zac Zdh):=⟨rfl,rfl,rfl,by decide +kernel,rfl,by decide +kernel,by decide +kernel⟩
theorem Ze2  {n k:Nat}  (D:Zaq K mg "_law_alike" Zdh) (c_Lalike:Cal P w K mg base k "_law_alike" (Zk6 K n)) (n_isinstance:mg "isinstance" = none) (n_int:mg "int" = none) (n_str:mg "str" = none) (n_tuple:mg "tuple" = none) (n_range:mg "range" = none) (n_len:mg "len" = none) (n_list:mg "list" = none) (n_bool:mg "bool" = none):Cal P w K mg base (k + 1) "_law_alike" (ZfK K n):=by
  refine ZaA (N:=["_law_found", "_law_due", "_law_k"]) (ps:=["_law_found", "_law_due"]) D ZeJ (fun vs H Q E h=>?_) (fun _ _ _ _ _ _ us hl=>bd2 (R:=fun us=>bindArgs _ ⟨us,[]⟩=pure (List.zip _ us)) (fun _ _=>rfl) us hl) (fun f cdv A outer s H vs Q E hr h=>?_)
  . obtain ⟨d,v,u,rfl,_⟩:=h; rfl
  . obtain ⟨d,v,u,rfl,pl,dp,hv,hu,k⟩:=h
    refine ⟨_,(Zad (Zbi (Zb6 (ZaI Zcr rfl n_isinstance PyProof.Rows.boot_isinstance (Zaa (pv 1) (Zaa (ZdQ rfl n_int PyProof.Rows.boot_int) Zae)))) (Zaf (Zar (ZeU (ZaI Zcr rfl n_isinstance PyProof.Rows.boot_isinstance (Zaa (pv 0) (Zaa (ZdQ rfl n_int PyProof.Rows.boot_int) Zae))) (ZeU (pe_not (ZaI Zcr rfl n_isinstance PyProof.Rows.boot_isinstance (Zaa (pv 0) (Zaa (ZdQ rfl n_bool PyProof.Rows.boot_bool) Zae)))) (Zd6 (ZbI Zb7 (pv 0) (pv 1) (nomark _))))))) ZaJ)
      (Zad (Zbi (Zb6 (ZaI Zcr rfl n_isinstance PyProof.Rows.boot_isinstance (Zaa (pv 1) (Zaa (ZdQ rfl n_str PyProof.Rows.boot_str) Zae)))) (Zaf (Zar (ZeU (ZaI Zcr rfl n_isinstance PyProof.Rows.boot_isinstance (Zaa (pv 0) (Zaa (ZdQ rfl n_str PyProof.Rows.boot_str) Zae))) (Zd6 (ZbI Zb7 (pv 0) (pv 1) (nomark _)))))) ZaJ)
      (Zad (Zbi (Zb6 (ZaI Zcr rfl n_isinstance PyProof.Rows.boot_isinstance (Zaa (pv 1) (Zaa (ZdQ rfl n_tuple PyProof.Rows.boot_tuple) Zae)))) (Zaf (Zbi (ZeT (Zb6 (ZaI Zcr rfl n_isinstance PyProof.Rows.boot_isinstance (Zaa (pv 0) (Zaa (ZdQ rfl n_tuple PyProof.Rows.boot_tuple) Zae))))) (Zaf (Zar ZfP)) ZaJ)) (Zaf (Zbi (ZeT (Zb6 (ZaI Zcr rfl n_isinstance PyProof.Rows.boot_isinstance (Zaa (pv 0) (Zaa (ZdQ rfl n_list PyProof.Rows.boot_list) Zae))))) (Zaf (Zar ZfP)) ZaJ)))
      (Zad (Zbi (ZaD Zkg (ZaI ZbP rfl n_len PySem.boot_len (Zaa (pv 0) Zae)) (ZaI ZbP rfl n_len PySem.boot_len (Zaa (pv 1) Zae)) (nomark _)) (Zaf (Zar ZfP)) ZaJ)
      (Zad (ZhY PassesOwn.never rfl (Zda rfl n_range (Zaa (ZaI ZbP rfl n_len PySem.boot_len (Zaa (pv 1) Zae)) Zae)) (ZbH (i:=2) ZeJ.nd rfl (by first|exact Or.inl rfl|exact Or.inr rfl))
      (Zaf (Zbi (ZeT (Zb6 (ZaG c_Lalike hr rfl (Zaa (ZaK Zlg (pv 0) (pv 2) (fun _ _=>rfl)) (Zaa (ZaK Zlg (pv 1) (pv 2) (fun _ _=>rfl)) Zae))))) (Zaf (Zar ZfP)) ZaJ)))
      (Zaf (Zar ZfP))))))),?_⟩
    walk_at "nx"
    cases d with
    | non=>unfold ZbQ at pl; exact pl.elim
    | bl b=>unfold ZbQ at pl; exact pl.elim
    | int i =>
      unfold DV at hv hu
      subst hv hu
      repeat walk_at "rdz"
      all_goals first|exact k|exact ZbS (by simp) k
    | str z =>
      unfold DV at hv hu
      subst hv hu
      repeat walk_at "rdz"
      all_goals first|exact k|exact ZbS (by simp) k
    | lst ds =>
      unfold DV at hv hu
      obtain ⟨a1,xs,rfl,h1,d1⟩:=hv
      obtain ⟨a2,ys,rfl,h2,d2⟩:=hu
      unfold ZbQ at pl
      unfold Dt.dep at dp
      have l1:=d1.length
      have l2:=d2.length
      obtain ⟨n,rfl⟩:∃ m,n=m + 1:=⟨n - 1,by omega⟩
      repeat walk_at "rdz"
      all_goals try (exfalso; omega)
      refine Zge (Zdf ?_)
      repeat walk_at "rdz"
      refine ⟨_,rfl,by omega,by omega,?_⟩
      have en:((ys.length:Nat):Int).toNat=ds.length:=by omega
      rw [en]
      refine Zco (fun i σ' H'=>H'=H/\∃ z,σ'=[some (.ref a1),some (.ref a2),z]) ⟨rfl,_,rfl⟩ ?_ ?_
      . rintro i σ' H' hi ⟨rfl,z,rfl⟩
        have e1:=List.getElem?_eq_getElem hi
        have e2:=List.getElem?_eq_getElem (l:=xs) (i:=i) (by omega)
        have e3:=List.getElem?_eq_getElem (l:=ys) (i:=i) (by omega)
        repeat walk_at "rdz"
        refine .inl (Za7 h1 (ZbR e2 (by omega)) ?_)
        repeat walk_at "rdz"
        refine .inl (Za7 h2 (ZbR e3 (by omega)) ?_)
        repeat walk_at "rdz"
        refine ⟨_,_,_,rfl,pl.2.at e1,Nat.le_trans (ZhQ e1) (by omega),d1.get e1 e2,d2.get e1 e3,?_⟩
        repeat walk_at "rdz"
        exact ⟨rfl,_,rfl⟩
      . rintro σ' H' ⟨rfl,z,rfl⟩
        repeat walk_at "rdz"
        exact k
    | tup ds =>
      unfold DV at hv hu
      obtain ⟨a1,xs,rfl,h1,d1⟩:=hv
      obtain ⟨a2,ys,rfl,h2,d2⟩:=hu
      unfold ZbQ at pl
      unfold Dt.dep at dp
      have l1:=d1.length
      have l2:=d2.length
      obtain ⟨n,rfl⟩:∃ m,n=m + 1:=⟨n - 1,by omega⟩
      repeat walk_at "rdz"
      all_goals try (exfalso; omega)
      refine Zge (Zdf ?_)
      repeat walk_at "rdz"
      refine ⟨_,rfl,by omega,by omega,?_⟩
      have en:((ys.length:Nat):Int).toNat=ds.length:=by omega
      rw [en]
      refine Zco (fun i σ' H'=>H'=H/\∃ z,σ'=[some (.ref a1),some (.ref a2),z]) ⟨rfl,_,rfl⟩ ?_ ?_
      . rintro i σ' H' hi ⟨rfl,z,rfl⟩
        have e1:=List.getElem?_eq_getElem hi
        have e2:=List.getElem?_eq_getElem (l:=xs) (i:=i) (by omega)
        have e3:=List.getElem?_eq_getElem (l:=ys) (i:=i) (by omega)
        repeat walk_at "rdz"
        refine .inr (.inl (Zee h1 (ZbR e2 (by omega)) ?_))
        repeat walk_at "rdz"
        refine .inr (.inl (Zee h2 (ZbR e3 (by omega)) ?_))
        repeat walk_at "rdz"
        refine ⟨_,_,_,rfl,pl.2.at e1,Nat.le_trans (ZhQ e1) (by omega),d1.get e1 e2,d2.get e1 e3,?_⟩
        repeat walk_at "rdz"
        exact ⟨rfl,_,rfl⟩
      . rintro σ' H' ⟨rfl,z,rfl⟩
        repeat walk_at "rdz"
        exact k
theorem Zk7 (D:Zaq K mg "_law_alike" Zdh):Cal P w K mg base 1 "_law_alike" spNo :=
  ZaA (N:=["_law_found", "_law_due", "_law_k"]) (ps:=["_law_found", "_law_due"]) D ZeJ (fun _ _ _ _ h=>h.elim) (fun _ _ _ _ _ _ us hl=>bd2 (R:=fun us=>bindArgs _ ⟨us,[]⟩=pure (List.zip _ us)) (fun _ _=>rfl) us hl) (fun _ _ _ _ _ _ _ _ _ _ h=>h.elim)
theorem ZgO (D:Zaq K mg "_law_alike" Zdh) (n_isinstance:mg "isinstance" = none) (n_int:mg "int" = none) (n_str:mg "str" = none) (n_tuple:mg "tuple" = none) (n_range:mg "range" = none) (n_len:mg "len" = none) (n_list:mg "list" = none) (n_bool:mg "bool" = none):∀ n,Cal P w K mg base (n + 2) "_law_alike" (ZfK K n)
  | 0=>Ze2 (n:=0) (k:=1) D (Zk7 D) n_isinstance n_int n_str n_tuple n_range n_len n_list n_bool
  | n + 1=>Ze2 (n:=n + 1) (k:=n + 2) D (ZgO D n_isinstance n_int n_str n_tuple n_range n_len n_list n_bool n) n_isinstance n_int n_str n_tuple n_range n_len n_list n_bool
end
noncomputable def Has (H:Hp):List (Addr × HO)->Prop
  | []=>True
  | p :: r=>H p.1=some p.2/\Has H r
theorem Has.same {H H':Hp} (s:Same H H'):∀ {fs:List (Addr × HO)},Has H fs->Has H' fs
  | [],_=>trivial
  | _ :: _,h=>⟨s _ _ h.1,Has.same s h.2⟩
structure Gw (H0 H:Hp) (fs:List (Addr × HO)):Prop where
  s:Same H0 H
  h:Has H fs
section
variable {H0 H H':Hp} {fs:List (Addr × HO)} {p:Addr} {o:HO}
theorem Gw.start:Gw H H []:=⟨Same.refl _,trivial⟩
theorem Gw.new (g:Gw H0 H fs) (n:H p=none):Gw H0 (upd H p o) ((p,o) :: fs):=⟨g.s.newT n,Zah,g.h.same (Same.new n)⟩
theorem Gw.newE (g:Gw H0 H fs) (n:H p=none) (e:upd H p o=H'):Gw H0 H' ((p,o) :: fs):=by rw [<- e]; exact g.new n
theorem Gw.same (g:Gw H0 H fs) (s:Same H H'):Gw H0 H' fs:=⟨g.s.trans s,g.h.same s⟩
theorem Gw.add (g:Gw H0 H fs) (e:H p=some o):Gw H0 H ((p,o) :: fs):=⟨g.s,e,g.h⟩
theorem Gw.fresh (g:Gw H0 H fs) (n:H p=none):H0 p=none:=g.s.fresh n
end
theorem ZhR {K:PySem.W.Frag} {a b:Addr} {xs ys:List V} {H:Hp} {Q:VK} (h1:SqT K H a xs) (h2:SqT K H b ys) (hx:xs ≠ []) (hy:ys ≠ []) (hz:xs.length + ys.length <= sizeLine) (q:∀ p,H p=none->Q (.ref p) (upd H p (.tup (xs ++ ys)))):rCatT K (.ref a) (.ref b) H Q:=⟨a,b,xs,ys,rfl,rfl,h1,h2,hx,hz,fun z=>absurd z hy,fun _=>q⟩
noncomputable abbrev rw0 (w:Str):Row:=(w,none)
noncomputable abbrev rw1 (w:Str) (k:Int):Row:=(w,some k)
theorem ZfL {A:Nat->Option AcI} {S0:Nat->AcS} {G:GR} {w:Str} {ds ds':List Dd} {x y y':FrS} {s:List Int} {st:List Dt} (gv:Int) (hO:ZjV x w s y) (hl:s.length <= 900) (ha:ZhK A (runS S0 ds) y none) (hgv:(if x.given - x.used < y.given then x.given - x.used else y.given)=gv) (hG:G ds { y with given:=gv } ds' y' st):Zk3 A S0 G w ds x ds' { x with stack:=s ++ [y'.answer,wellI y'.fin],used:=x.used + y'.used } (treeD y' st) :=
  ⟨s,y,y',st,none,hO,rfl,rfl,hl,ha,.inr ⟨rfl,by rw [hgv]; exact hG⟩⟩
theorem Zk8:wellI (some ("well" : Str))=1:=if_pos rfl
theorem ZmD {e:Str} (h:e ≠ "well"):wellI (some e)=0:=if_neg fun z=>h (Option.some.inj z)
noncomputable def prog35 (ans:Int) (l:Str):List Row:=[rw0 "word", rw0 "note", rw0 "from", rw0 "note", rw0 "sent", rw0 "note", rw0 "me", rw0 "note", rw1 "push" ans,rw0 l]
noncomputable def mvI (slot coin one:Int):List Dd:=if coin > 0 then [.move one slot coin] else []
noncomputable def fr35 (one other:Nat) (coin word g:Int):FrS:=frame0 "call" other other one coin word g 2 false
structure St35 (A:Nat->Option AcI) (S0:Nat->AcS) (one other:Nat) (x0 x1:AcI) (ans:Int) (l:Str):Prop where
  a0:A one=some x0
  a1:A other=some x1
  b0:one < 16
  b1:other < 16
  r1:(S0 other).rows=prog35 ans l
noncomputable def Zc7 (one other:Nat) (coin word:Int):List Dd:=[.note (other:Int) word,.note (other:Int) (one:Int),.note (other:Int) coin,.note (other:Int) (other:Int)]
noncomputable def ZaO (one other:Nat) (coin word:Int):Nat->List Dt
  | 0=>[]
  | 1=>[.int 0]
  | 2=>[.int 0,.int 1,tellD (.note (other:Int) word)]
  | 3=>[.int 0,.int 1,tellD (.note (other:Int) word),.int 2]
  | 4=>[.int 0,.int 1,tellD (.note (other:Int) word),.int 2,.int 3,tellD (.note (other:Int) (one:Int))]
  | 5=>[.int 0,.int 1,tellD (.note (other:Int) word),.int 2,.int 3,tellD (.note (other:Int) (one:Int)),.int 4]
  | 6=>[.int 0,.int 1,tellD (.note (other:Int) word),.int 2,.int 3,tellD (.note (other:Int) (one:Int)),.int 4,.int 5,tellD (.note (other:Int) coin)]
  | 7=>[.int 0,.int 1,tellD (.note (other:Int) word),.int 2,.int 3,tellD (.note (other:Int) (one:Int)),.int 4,.int 5,tellD (.note (other:Int) coin),.int 6]
  | 8=>[.int 0,.int 1,tellD (.note (other:Int) word),.int 2,.int 3,tellD (.note (other:Int) (one:Int)),.int 4,.int 5,tellD (.note (other:Int) coin),.int 6,.int 7,tellD (.note (other:Int) (other:Int))]
  | 9=>[.int 0,.int 1,tellD (.note (other:Int) word),.int 2,.int 3,tellD (.note (other:Int) (one:Int)),.int 4,.int 5,tellD (.note (other:Int) coin),.int 6,.int 7,tellD (.note (other:Int) (other:Int)),.int 8]
  | _=>[.int 0,.int 1,tellD (.note (other:Int) word),.int 2,.int 3,tellD (.note (other:Int) (one:Int)),.int 4,.int 5,tellD (.note (other:Int) coin),.int 6,.int 7,tellD (.note (other:Int) (other:Int)),.int 8,.int 9]
noncomputable def cum35:Nat->Int
  | 0=>0
  | 1=>1
  | 2=>5
  | 3=>6
  | 4=>10
  | 5=>11
  | 6=>15
  | 7=>16
  | 8=>20
  | 9=>21
  | _=>22
theorem mv35 (one other:Nat) (coin word g:Int):(mvD (fr35 one other coin word g)).toList=mvI other coin one:=by
  unfold mvD mvI
  by_cases q:coin > 0
  . rw [if_pos q,if_pos ⟨rfl,q⟩]; rfl
  . rw [if_neg q,if_neg (fun z=>q z.2)]; rfl
section
variable {A:Nat->Option AcI} {S0:Nat->AcS} {one other n:Nat} {x0 x1:AcI} {coin word g ans:Int} {l e:Str} {ds:List Dd}
theorem fit35 (X:St35 A S0 one other x0 x1 ans l):∀ d,mvD (fr35 one other coin word g)=some d->fitsD A d:=fun d hq=>by
  unfold mvD at hq
  split at hq
  . cases hq
    exact ⟨⟨one,x0,rfl,X.b0,X.a0⟩,other,x1,rfl,X.b1,X.a1⟩
  . cases hq
theorem mvl35:(mvI (other:Int) coin one).length <= 1:=by unfold mvI; split <;> simp
theorem in_0 (X:St35 A S0 one other x0 x1 ans l) (hle:l = "give" /\ e = "well" \/ l = "fail" /\ e = "fail") (h1:0 <= g) (h2:g < 1) (hd:ds.length <= 90000):∃ y,GoW A S0 (n + 1) ds (fr35 one other coin word g) ds y ((mvI other coin one).map tellD ++ ZaO one other coin word 0)/\y.fin=some ("dry" : Str)/\y.answer=0/\y.used=0/\∀ st,treeD y st=.tup [.str "call", .int (other:Int),.int (other:Int),.int (one:Int),.int coin,.int word,.int g,.str "dry", .int 0,.int 0,.lst st]:=by
  have ml:=mvl35 (other:=other) (coin:=coin) (one:=one)
  refine ⟨endS (fr35 one other coin word g) [] ((0:Nat):Int) 0 "dry" 0,⟨other,x1,1,(ds ++ mvI (other:Int) coin one),ZaO one other coin word 0,rfl,rfl,X.b1,X.a1,fit35 X,?_,by decide,?_,?_,by rw [mv35]⟩,rfl,rfl,rfl,fun _=>rfl⟩
  . rw [mv35,X.r1]
    generalize ds ++ mvI (other:Int) coin one=ds0
    show RunW A S0 _ (prog35 ans l) 1 ds0 (atS (fr35 one other coin word g) [] ((0:Nat):Int) 0) _ _ _
    exact Zca (i:=0) (st:=[]) (r:=0) (t:=0) (l:=1) (pr:=1) (d:=1) (b1:=false) (b2:=false) (c:=1) rfl rfl rfl rfl (by show (0:Int) + 0 <= ((0:Nat):Int); decide) (by show ((0:Nat):Int) - 0 + 1 <= 24; decide) (by show 0 <= 24; decide) (.inl ⟨by decide,rfl⟩) (.inl ⟨by decide,rfl⟩) rfl rfl (by show g < _; omega)
  . simp only [List.length_append,List.length_cons,List.length_nil]; omega
  . exact (if_neg (by show ¬ some ("dry" : Str)=some "well"; decide)).symm
theorem in_1 (X:St35 A S0 one other x0 x1 ans l) (hle:l = "give" /\ e = "well" \/ l = "fail" /\ e = "fail") (h1:1 <= g) (h2:g < 5) (hd:ds.length <= 90000):∃ y,GoW A S0 (n + 1) ds (fr35 one other coin word g) ds y ((mvI other coin one).map tellD ++ ZaO one other coin word 1)/\y.fin=some ("dry" : Str)/\y.answer=0/\y.used=1/\∀ st,treeD y st=.tup [.str "call", .int (other:Int),.int (other:Int),.int (one:Int),.int coin,.int word,.int g,.str "dry", .int 0,.int 1,.lst st]:=by
  have ml:=mvl35 (other:=other) (coin:=coin) (one:=one)
  refine ⟨endS (fr35 one other coin word g) [word] ((1:Nat):Int) 1 "dry" 0,⟨other,x1,2,(ds ++ mvI (other:Int) coin one),ZaO one other coin word 1,rfl,rfl,X.b1,X.a1,fit35 X,?_,by decide,?_,?_,by rw [mv35]⟩,rfl,rfl,rfl,fun _=>rfl⟩
  . rw [mv35,X.r1]
    generalize ds ++ mvI (other:Int) coin one=ds0
    show RunW A S0 _ (prog35 ans l) 2 ds0 (atS (fr35 one other coin word g) [] ((0:Nat):Int) 0) _ _ _
    refine ZaT (w := "word") (v:=word) (u':=1) rfl rfl (.inl ⟨rfl,rfl⟩) (by show 0 < 24; decide) (by omega) (by show _ <= g; omega) ?_
    exact Zca (i:=1) (st:=[word]) (r:=0) (t:=1) (l:=0) (pr:=4) (d:=4) (b1:=false) (b2:=false) (c:=4) rfl rfl rfl rfl (by show (1:Int) + 0 <= ((1:Nat):Int); decide) (by show ((1:Nat):Int) - 1 + 0 <= 24; decide) (by show 1 <= 24; decide) (.inl ⟨by decide,rfl⟩) (.inl ⟨by decide,rfl⟩) rfl rfl (by show g < _; omega)
  . simp only [List.length_append,List.length_cons,List.length_nil]; omega
  . exact (if_neg (by show ¬ some ("dry" : Str)=some "well"; decide)).symm
theorem in_2 (X:St35 A S0 one other x0 x1 ans l) (hle:l = "give" /\ e = "well" \/ l = "fail" /\ e = "fail") (h1:5 <= g) (h2:g < 6) (hd:ds.length <= 90000):∃ y,GoW A S0 (n + 1) ds (fr35 one other coin word g) ds y ((mvI other coin one).map tellD ++ ZaO one other coin word 2)/\y.fin=some ("dry" : Str)/\y.answer=0/\y.used=5/\∀ st,treeD y st=.tup [.str "call", .int (other:Int),.int (other:Int),.int (one:Int),.int coin,.int word,.int g,.str "dry", .int 0,.int 5,.lst st]:=by
  have ml:=mvl35 (other:=other) (coin:=coin) (one:=one)
  refine ⟨endS (fr35 one other coin word g) [] ((2:Nat):Int) 5 "dry" 0,⟨other,x1,3,((ds ++ mvI (other:Int) coin one) ++ [Dd.note (other:Int) word]),ZaO one other coin word 2,rfl,rfl,X.b1,X.a1,fit35 X,?_,by decide,?_,?_,by rw [mv35]⟩,rfl,rfl,rfl,fun _=>rfl⟩
  . rw [mv35,X.r1]
    generalize ds ++ mvI (other:Int) coin one=ds0
    show RunW A S0 _ (prog35 ans l) 3 ds0 (atS (fr35 one other coin word g) [] ((0:Nat):Int) 0) _ _ _
    refine ZaT (w := "word") (v:=word) (u':=1) rfl rfl (.inl ⟨rfl,rfl⟩) (by show 0 < 24; decide) (by omega) (by show _ <= g; omega) ?_
    refine ZaW (st:=[]) (v:=word) (u':=5) rfl rfl rfl (by show 0 < 24; decide) (by omega) (by show _ <= g; omega) ?_
    exact Zca (i:=2) (st:=[]) (r:=0) (t:=0) (l:=1) (pr:=1) (d:=1) (b1:=false) (b2:=false) (c:=1) rfl rfl rfl rfl (by show (0:Int) + 0 <= ((0:Nat):Int); decide) (by show ((0:Nat):Int) - 0 + 1 <= 24; decide) (by show 0 <= 24; decide) (.inl ⟨by decide,rfl⟩) (.inl ⟨by decide,rfl⟩) rfl rfl (by show g < _; omega)
  . simp only [List.length_append,List.length_cons,List.length_nil]; omega
  . exact (if_neg (by show ¬ some ("dry" : Str)=some "well"; decide)).symm
theorem in_3 (X:St35 A S0 one other x0 x1 ans l) (hle:l = "give" /\ e = "well" \/ l = "fail" /\ e = "fail") (h1:6 <= g) (h2:g < 10) (hd:ds.length <= 90000):∃ y,GoW A S0 (n + 1) ds (fr35 one other coin word g) ds y ((mvI other coin one).map tellD ++ ZaO one other coin word 3)/\y.fin=some ("dry" : Str)/\y.answer=0/\y.used=6/\∀ st,treeD y st=.tup [.str "call", .int (other:Int),.int (other:Int),.int (one:Int),.int coin,.int word,.int g,.str "dry", .int 0,.int 6,.lst st]:=by
  have ml:=mvl35 (other:=other) (coin:=coin) (one:=one)
  refine ⟨endS (fr35 one other coin word g) [(one:Int)] ((3:Nat):Int) 6 "dry" 0,⟨other,x1,4,((ds ++ mvI (other:Int) coin one) ++ [Dd.note (other:Int) word]),ZaO one other coin word 3,rfl,rfl,X.b1,X.a1,fit35 X,?_,by decide,?_,?_,by rw [mv35]⟩,rfl,rfl,rfl,fun _=>rfl⟩
  . rw [mv35,X.r1]
    generalize ds ++ mvI (other:Int) coin one=ds0
    show RunW A S0 _ (prog35 ans l) 4 ds0 (atS (fr35 one other coin word g) [] ((0:Nat):Int) 0) _ _ _
    refine ZaT (w := "word") (v:=word) (u':=1) rfl rfl (.inl ⟨rfl,rfl⟩) (by show 0 < 24; decide) (by omega) (by show _ <= g; omega) ?_
    refine ZaW (st:=[]) (v:=word) (u':=5) rfl rfl rfl (by show 0 < 24; decide) (by omega) (by show _ <= g; omega) ?_
    refine ZaT (w := "from") (v:=(one:Int)) (u':=6) rfl rfl (.inr (.inr (.inl ⟨rfl,rfl⟩))) (by show 0 < 24; decide) (by omega) (by show _ <= g; omega) ?_
    exact Zca (i:=3) (st:=[(one:Int)]) (r:=0) (t:=1) (l:=0) (pr:=4) (d:=4) (b1:=false) (b2:=false) (c:=4) rfl rfl rfl rfl (by show (1:Int) + 0 <= ((1:Nat):Int); decide) (by show ((1:Nat):Int) - 1 + 0 <= 24; decide) (by show 1 <= 24; decide) (.inl ⟨by decide,rfl⟩) (.inl ⟨by decide,rfl⟩) rfl rfl (by show g < _; omega)
  . simp only [List.length_append,List.length_cons,List.length_nil]; omega
  . exact (if_neg (by show ¬ some ("dry" : Str)=some "well"; decide)).symm
theorem in_4 (X:St35 A S0 one other x0 x1 ans l) (hle:l = "give" /\ e = "well" \/ l = "fail" /\ e = "fail") (h1:10 <= g) (h2:g < 11) (hd:ds.length <= 90000):∃ y,GoW A S0 (n + 1) ds (fr35 one other coin word g) ds y ((mvI other coin one).map tellD ++ ZaO one other coin word 4)/\y.fin=some ("dry" : Str)/\y.answer=0/\y.used=10/\∀ st,treeD y st=.tup [.str "call", .int (other:Int),.int (other:Int),.int (one:Int),.int coin,.int word,.int g,.str "dry", .int 0,.int 10,.lst st]:=by
  have ml:=mvl35 (other:=other) (coin:=coin) (one:=one)
  refine ⟨endS (fr35 one other coin word g) [] ((4:Nat):Int) 10 "dry" 0,⟨other,x1,5,(((ds ++ mvI (other:Int) coin one) ++ [Dd.note (other:Int) word]) ++ [Dd.note (other:Int) (one:Int)]),ZaO one other coin word 4,rfl,rfl,X.b1,X.a1,fit35 X,?_,by decide,?_,?_,by rw [mv35]⟩,rfl,rfl,rfl,fun _=>rfl⟩
  . rw [mv35,X.r1]
    generalize ds ++ mvI (other:Int) coin one=ds0
    show RunW A S0 _ (prog35 ans l) 5 ds0 (atS (fr35 one other coin word g) [] ((0:Nat):Int) 0) _ _ _
    refine ZaT (w := "word") (v:=word) (u':=1) rfl rfl (.inl ⟨rfl,rfl⟩) (by show 0 < 24; decide) (by omega) (by show _ <= g; omega) ?_
    refine ZaW (st:=[]) (v:=word) (u':=5) rfl rfl rfl (by show 0 < 24; decide) (by omega) (by show _ <= g; omega) ?_
    refine ZaT (w := "from") (v:=(one:Int)) (u':=6) rfl rfl (.inr (.inr (.inl ⟨rfl,rfl⟩))) (by show 0 < 24; decide) (by omega) (by show _ <= g; omega) ?_
    refine ZaW (st:=[]) (v:=(one:Int)) (u':=10) rfl rfl rfl (by show 0 < 24; decide) (by omega) (by show _ <= g; omega) ?_
    exact Zca (i:=4) (st:=[]) (r:=0) (t:=0) (l:=1) (pr:=1) (d:=1) (b1:=false) (b2:=false) (c:=1) rfl rfl rfl rfl (by show (0:Int) + 0 <= ((0:Nat):Int); decide) (by show ((0:Nat):Int) - 0 + 1 <= 24; decide) (by show 0 <= 24; decide) (.inl ⟨by decide,rfl⟩) (.inl ⟨by decide,rfl⟩) rfl rfl (by show g < _; omega)
  . simp only [List.length_append,List.length_cons,List.length_nil]; omega
  . exact (if_neg (by show ¬ some ("dry" : Str)=some "well"; decide)).symm
theorem in_5 (X:St35 A S0 one other x0 x1 ans l) (hle:l = "give" /\ e = "well" \/ l = "fail" /\ e = "fail") (h1:11 <= g) (h2:g < 15) (hd:ds.length <= 90000):∃ y,GoW A S0 (n + 1) ds (fr35 one other coin word g) ds y ((mvI other coin one).map tellD ++ ZaO one other coin word 5)/\y.fin=some ("dry" : Str)/\y.answer=0/\y.used=11/\∀ st,treeD y st=.tup [.str "call", .int (other:Int),.int (other:Int),.int (one:Int),.int coin,.int word,.int g,.str "dry", .int 0,.int 11,.lst st]:=by
  have ml:=mvl35 (other:=other) (coin:=coin) (one:=one)
  refine ⟨endS (fr35 one other coin word g) [coin] ((5:Nat):Int) 11 "dry" 0,⟨other,x1,6,(((ds ++ mvI (other:Int) coin one) ++ [Dd.note (other:Int) word]) ++ [Dd.note (other:Int) (one:Int)]),ZaO one other coin word 5,rfl,rfl,X.b1,X.a1,fit35 X,?_,by decide,?_,?_,by rw [mv35]⟩,rfl,rfl,rfl,fun _=>rfl⟩
  . rw [mv35,X.r1]
    generalize ds ++ mvI (other:Int) coin one=ds0
    show RunW A S0 _ (prog35 ans l) 6 ds0 (atS (fr35 one other coin word g) [] ((0:Nat):Int) 0) _ _ _
    refine ZaT (w := "word") (v:=word) (u':=1) rfl rfl (.inl ⟨rfl,rfl⟩) (by show 0 < 24; decide) (by omega) (by show _ <= g; omega) ?_
    refine ZaW (st:=[]) (v:=word) (u':=5) rfl rfl rfl (by show 0 < 24; decide) (by omega) (by show _ <= g; omega) ?_
    refine ZaT (w := "from") (v:=(one:Int)) (u':=6) rfl rfl (.inr (.inr (.inl ⟨rfl,rfl⟩))) (by show 0 < 24; decide) (by omega) (by show _ <= g; omega) ?_
    refine ZaW (st:=[]) (v:=(one:Int)) (u':=10) rfl rfl rfl (by show 0 < 24; decide) (by omega) (by show _ <= g; omega) ?_
    refine ZaT (w := "sent") (v:=coin) (u':=11) rfl rfl (.inr (.inr (.inr ⟨rfl,rfl⟩))) (by show 0 < 24; decide) (by omega) (by show _ <= g; omega) ?_
    exact Zca (i:=5) (st:=[coin]) (r:=0) (t:=1) (l:=0) (pr:=4) (d:=4) (b1:=false) (b2:=false) (c:=4) rfl rfl rfl rfl (by show (1:Int) + 0 <= ((1:Nat):Int); decide) (by show ((1:Nat):Int) - 1 + 0 <= 24; decide) (by show 1 <= 24; decide) (.inl ⟨by decide,rfl⟩) (.inl ⟨by decide,rfl⟩) rfl rfl (by show g < _; omega)
  . simp only [List.length_append,List.length_cons,List.length_nil]; omega
  . exact (if_neg (by show ¬ some ("dry" : Str)=some "well"; decide)).symm
theorem in_6 (X:St35 A S0 one other x0 x1 ans l) (hle:l = "give" /\ e = "well" \/ l = "fail" /\ e = "fail") (h1:15 <= g) (h2:g < 16) (hd:ds.length <= 90000):∃ y,GoW A S0 (n + 1) ds (fr35 one other coin word g) ds y ((mvI other coin one).map tellD ++ ZaO one other coin word 6)/\y.fin=some ("dry" : Str)/\y.answer=0/\y.used=15/\∀ st,treeD y st=.tup [.str "call", .int (other:Int),.int (other:Int),.int (one:Int),.int coin,.int word,.int g,.str "dry", .int 0,.int 15,.lst st]:=by
  have ml:=mvl35 (other:=other) (coin:=coin) (one:=one)
  refine ⟨endS (fr35 one other coin word g) [] ((6:Nat):Int) 15 "dry" 0,⟨other,x1,7,((((ds ++ mvI (other:Int) coin one) ++ [Dd.note (other:Int) word]) ++ [Dd.note (other:Int) (one:Int)]) ++ [Dd.note (other:Int) coin]),ZaO one other coin word 6,rfl,rfl,X.b1,X.a1,fit35 X,?_,by decide,?_,?_,by rw [mv35]⟩,rfl,rfl,rfl,fun _=>rfl⟩
  . rw [mv35,X.r1]
    generalize ds ++ mvI (other:Int) coin one=ds0
    show RunW A S0 _ (prog35 ans l) 7 ds0 (atS (fr35 one other coin word g) [] ((0:Nat):Int) 0) _ _ _
    refine ZaT (w := "word") (v:=word) (u':=1) rfl rfl (.inl ⟨rfl,rfl⟩) (by show 0 < 24; decide) (by omega) (by show _ <= g; omega) ?_
    refine ZaW (st:=[]) (v:=word) (u':=5) rfl rfl rfl (by show 0 < 24; decide) (by omega) (by show _ <= g; omega) ?_
    refine ZaT (w := "from") (v:=(one:Int)) (u':=6) rfl rfl (.inr (.inr (.inl ⟨rfl,rfl⟩))) (by show 0 < 24; decide) (by omega) (by show _ <= g; omega) ?_
    refine ZaW (st:=[]) (v:=(one:Int)) (u':=10) rfl rfl rfl (by show 0 < 24; decide) (by omega) (by show _ <= g; omega) ?_
    refine ZaT (w := "sent") (v:=coin) (u':=11) rfl rfl (.inr (.inr (.inr ⟨rfl,rfl⟩))) (by show 0 < 24; decide) (by omega) (by show _ <= g; omega) ?_
    refine ZaW (st:=[]) (v:=coin) (u':=15) rfl rfl rfl (by show 0 < 24; decide) (by omega) (by show _ <= g; omega) ?_
    exact Zca (i:=6) (st:=[]) (r:=0) (t:=0) (l:=1) (pr:=1) (d:=1) (b1:=false) (b2:=false) (c:=1) rfl rfl rfl rfl (by show (0:Int) + 0 <= ((0:Nat):Int); decide) (by show ((0:Nat):Int) - 0 + 1 <= 24; decide) (by show 0 <= 24; decide) (.inl ⟨by decide,rfl⟩) (.inl ⟨by decide,rfl⟩) rfl rfl (by show g < _; omega)
  . simp only [List.length_append,List.length_cons,List.length_nil]; omega
  . exact (if_neg (by show ¬ some ("dry" : Str)=some "well"; decide)).symm
theorem in_7 (X:St35 A S0 one other x0 x1 ans l) (hle:l = "give" /\ e = "well" \/ l = "fail" /\ e = "fail") (h1:16 <= g) (h2:g < 20) (hd:ds.length <= 90000):∃ y,GoW A S0 (n + 1) ds (fr35 one other coin word g) ds y ((mvI other coin one).map tellD ++ ZaO one other coin word 7)/\y.fin=some ("dry" : Str)/\y.answer=0/\y.used=16/\∀ st,treeD y st=.tup [.str "call", .int (other:Int),.int (other:Int),.int (one:Int),.int coin,.int word,.int g,.str "dry", .int 0,.int 16,.lst st]:=by
  have ml:=mvl35 (other:=other) (coin:=coin) (one:=one)
  refine ⟨endS (fr35 one other coin word g) [(other:Int)] ((7:Nat):Int) 16 "dry" 0,⟨other,x1,8,((((ds ++ mvI (other:Int) coin one) ++ [Dd.note (other:Int) word]) ++ [Dd.note (other:Int) (one:Int)]) ++ [Dd.note (other:Int) coin]),ZaO one other coin word 7,rfl,rfl,X.b1,X.a1,fit35 X,?_,by decide,?_,?_,by rw [mv35]⟩,rfl,rfl,rfl,fun _=>rfl⟩
  . rw [mv35,X.r1]
    generalize ds ++ mvI (other:Int) coin one=ds0
    show RunW A S0 _ (prog35 ans l) 8 ds0 (atS (fr35 one other coin word g) [] ((0:Nat):Int) 0) _ _ _
    refine ZaT (w := "word") (v:=word) (u':=1) rfl rfl (.inl ⟨rfl,rfl⟩) (by show 0 < 24; decide) (by omega) (by show _ <= g; omega) ?_
    refine ZaW (st:=[]) (v:=word) (u':=5) rfl rfl rfl (by show 0 < 24; decide) (by omega) (by show _ <= g; omega) ?_
    refine ZaT (w := "from") (v:=(one:Int)) (u':=6) rfl rfl (.inr (.inr (.inl ⟨rfl,rfl⟩))) (by show 0 < 24; decide) (by omega) (by show _ <= g; omega) ?_
    refine ZaW (st:=[]) (v:=(one:Int)) (u':=10) rfl rfl rfl (by show 0 < 24; decide) (by omega) (by show _ <= g; omega) ?_
    refine ZaT (w := "sent") (v:=coin) (u':=11) rfl rfl (.inr (.inr (.inr ⟨rfl,rfl⟩))) (by show 0 < 24; decide) (by omega) (by show _ <= g; omega) ?_
    refine ZaW (st:=[]) (v:=coin) (u':=15) rfl rfl rfl (by show 0 < 24; decide) (by omega) (by show _ <= g; omega) ?_
    refine ZaT (w := "me") (v:=(other:Int)) (u':=16) rfl rfl (.inr (.inl ⟨rfl,rfl⟩)) (by show 0 < 24; decide) (by omega) (by show _ <= g; omega) ?_
    exact Zca (i:=7) (st:=[(other:Int)]) (r:=0) (t:=1) (l:=0) (pr:=4) (d:=4) (b1:=false) (b2:=false) (c:=4) rfl rfl rfl rfl (by show (1:Int) + 0 <= ((1:Nat):Int); decide) (by show ((1:Nat):Int) - 1 + 0 <= 24; decide) (by show 1 <= 24; decide) (.inl ⟨by decide,rfl⟩) (.inl ⟨by decide,rfl⟩) rfl rfl (by show g < _; omega)
  . simp only [List.length_append,List.length_cons,List.length_nil]; omega
  . exact (if_neg (by show ¬ some ("dry" : Str)=some "well"; decide)).symm
theorem in_8 (X:St35 A S0 one other x0 x1 ans l) (hle:l = "give" /\ e = "well" \/ l = "fail" /\ e = "fail") (h1:20 <= g) (h2:g < 21) (hd:ds.length <= 90000):∃ y,GoW A S0 (n + 1) ds (fr35 one other coin word g) ds y ((mvI other coin one).map tellD ++ ZaO one other coin word 8)/\y.fin=some ("dry" : Str)/\y.answer=0/\y.used=20/\∀ st,treeD y st=.tup [.str "call", .int (other:Int),.int (other:Int),.int (one:Int),.int coin,.int word,.int g,.str "dry", .int 0,.int 20,.lst st]:=by
  have ml:=mvl35 (other:=other) (coin:=coin) (one:=one)
  refine ⟨endS (fr35 one other coin word g) [] ((8:Nat):Int) 20 "dry" 0,⟨other,x1,9,(((((ds ++ mvI (other:Int) coin one) ++ [Dd.note (other:Int) word]) ++ [Dd.note (other:Int) (one:Int)]) ++ [Dd.note (other:Int) coin]) ++ [Dd.note (other:Int) (other:Int)]),ZaO one other coin word 8,rfl,rfl,X.b1,X.a1,fit35 X,?_,by decide,?_,?_,by rw [mv35]⟩,rfl,rfl,rfl,fun _=>rfl⟩
  . rw [mv35,X.r1]
    generalize ds ++ mvI (other:Int) coin one=ds0
    show RunW A S0 _ (prog35 ans l) 9 ds0 (atS (fr35 one other coin word g) [] ((0:Nat):Int) 0) _ _ _
    refine ZaT (w := "word") (v:=word) (u':=1) rfl rfl (.inl ⟨rfl,rfl⟩) (by show 0 < 24; decide) (by omega) (by show _ <= g; omega) ?_
    refine ZaW (st:=[]) (v:=word) (u':=5) rfl rfl rfl (by show 0 < 24; decide) (by omega) (by show _ <= g; omega) ?_
    refine ZaT (w := "from") (v:=(one:Int)) (u':=6) rfl rfl (.inr (.inr (.inl ⟨rfl,rfl⟩))) (by show 0 < 24; decide) (by omega) (by show _ <= g; omega) ?_
    refine ZaW (st:=[]) (v:=(one:Int)) (u':=10) rfl rfl rfl (by show 0 < 24; decide) (by omega) (by show _ <= g; omega) ?_
    refine ZaT (w := "sent") (v:=coin) (u':=11) rfl rfl (.inr (.inr (.inr ⟨rfl,rfl⟩))) (by show 0 < 24; decide) (by omega) (by show _ <= g; omega) ?_
    refine ZaW (st:=[]) (v:=coin) (u':=15) rfl rfl rfl (by show 0 < 24; decide) (by omega) (by show _ <= g; omega) ?_
    refine ZaT (w := "me") (v:=(other:Int)) (u':=16) rfl rfl (.inr (.inl ⟨rfl,rfl⟩)) (by show 0 < 24; decide) (by omega) (by show _ <= g; omega) ?_
    refine ZaW (st:=[]) (v:=(other:Int)) (u':=20) rfl rfl rfl (by show 0 < 24; decide) (by omega) (by show _ <= g; omega) ?_
    exact Zca (i:=8) (st:=[]) (r:=0) (t:=0) (l:=1) (pr:=1) (d:=1) (b1:=false) (b2:=false) (c:=1) rfl rfl rfl rfl (by show (0:Int) + 0 <= ((0:Nat):Int); decide) (by show ((0:Nat):Int) - 0 + 1 <= 24; decide) (by show 0 <= 24; decide) (.inl ⟨by decide,rfl⟩) (.inl ⟨by decide,rfl⟩) rfl rfl (by show g < _; omega)
  . simp only [List.length_append,List.length_cons,List.length_nil]; omega
  . exact (if_neg (by show ¬ some ("dry" : Str)=some "well"; decide)).symm
theorem in_9 (X:St35 A S0 one other x0 x1 ans l) (hle:l = "give" /\ e = "well" \/ l = "fail" /\ e = "fail") (h1:21 <= g) (h2:g < 22) (hd:ds.length <= 90000):∃ y,GoW A S0 (n + 1) ds (fr35 one other coin word g) ds y ((mvI other coin one).map tellD ++ ZaO one other coin word 9)/\y.fin=some ("dry" : Str)/\y.answer=0/\y.used=21/\∀ st,treeD y st=.tup [.str "call", .int (other:Int),.int (other:Int),.int (one:Int),.int coin,.int word,.int g,.str "dry", .int 0,.int 21,.lst st]:=by
  have ml:=mvl35 (other:=other) (coin:=coin) (one:=one)
  refine ⟨endS (fr35 one other coin word g) [ans] ((9:Nat):Int) 21 "dry" 0,⟨other,x1,10,(((((ds ++ mvI (other:Int) coin one) ++ [Dd.note (other:Int) word]) ++ [Dd.note (other:Int) (one:Int)]) ++ [Dd.note (other:Int) coin]) ++ [Dd.note (other:Int) (other:Int)]),ZaO one other coin word 9,rfl,rfl,X.b1,X.a1,fit35 X,?_,by decide,?_,?_,by rw [mv35]⟩,rfl,rfl,rfl,fun _=>rfl⟩
  . rw [mv35,X.r1]
    generalize ds ++ mvI (other:Int) coin one=ds0
    show RunW A S0 _ (prog35 ans l) 10 ds0 (atS (fr35 one other coin word g) [] ((0:Nat):Int) 0) _ _ _
    refine ZaT (w := "word") (v:=word) (u':=1) rfl rfl (.inl ⟨rfl,rfl⟩) (by show 0 < 24; decide) (by omega) (by show _ <= g; omega) ?_
    refine ZaW (st:=[]) (v:=word) (u':=5) rfl rfl rfl (by show 0 < 24; decide) (by omega) (by show _ <= g; omega) ?_
    refine ZaT (w := "from") (v:=(one:Int)) (u':=6) rfl rfl (.inr (.inr (.inl ⟨rfl,rfl⟩))) (by show 0 < 24; decide) (by omega) (by show _ <= g; omega) ?_
    refine ZaW (st:=[]) (v:=(one:Int)) (u':=10) rfl rfl rfl (by show 0 < 24; decide) (by omega) (by show _ <= g; omega) ?_
    refine ZaT (w := "sent") (v:=coin) (u':=11) rfl rfl (.inr (.inr (.inr ⟨rfl,rfl⟩))) (by show 0 < 24; decide) (by omega) (by show _ <= g; omega) ?_
    refine ZaW (st:=[]) (v:=coin) (u':=15) rfl rfl rfl (by show 0 < 24; decide) (by omega) (by show _ <= g; omega) ?_
    refine ZaT (w := "me") (v:=(other:Int)) (u':=16) rfl rfl (.inr (.inl ⟨rfl,rfl⟩)) (by show 0 < 24; decide) (by omega) (by show _ <= g; omega) ?_
    refine ZaW (st:=[]) (v:=(other:Int)) (u':=20) rfl rfl rfl (by show 0 < 24; decide) (by omega) (by show _ <= g; omega) ?_
    refine ZbD (k:=ans) (u':=21) rfl rfl (by show 0 < 24; decide) (by omega) (by show _ <= g; omega) ?_
    rcases hle with ⟨rfl,rfl⟩|⟨rfl,rfl⟩
    . exact Zca (i:=9) (st:=[ans]) (r:=0) (t:=1) (l:=0) (pr:=1) (d:=1) (b1:=false) (b2:=false) (c:=1) rfl rfl rfl rfl (by show (1:Int) + 0 <= 1; decide) (by show (1:Int) - 1 + 0 <= 24; decide) (by show 1 <= 24; decide) (.inl ⟨by decide,rfl⟩) (.inl ⟨by decide,rfl⟩) rfl rfl (by show g < _; omega)
    . exact Zca (i:=9) (st:=[ans]) (r:=0) (t:=1) (l:=0) (pr:=1) (d:=1) (b1:=false) (b2:=false) (c:=1) rfl rfl rfl rfl (by show (1:Int) + 0 <= 1; decide) (by show (1:Int) - 1 + 0 <= 24; decide) (by show 1 <= 24; decide) (.inl ⟨by decide,rfl⟩) (.inl ⟨by decide,rfl⟩) rfl rfl (by show g < _; omega)
  . simp only [List.length_append,List.length_cons,List.length_nil]; omega
  . exact (if_neg (by show ¬ some ("dry" : Str)=some "well"; decide)).symm
theorem in_10 (X:St35 A S0 one other x0 x1 ans l) (hle:l = "give" /\ e = "well" \/ l = "fail" /\ e = "fail") (h1:22 <= g) (hd:ds.length <= 90000):∃ y,GoW A S0 (n + 1) ds (fr35 one other coin word g) (if some e=some ("well" : Str) then (ds ++ mvI other coin one) ++ Zc7 one other coin word else ds) y ((mvI other coin one).map tellD ++ ZaO one other coin word 10)/\y.fin=some (e:Str)/\y.answer=ans/\y.used=22/\∀ st,treeD y st=.tup [.str "call", .int (other:Int),.int (other:Int),.int (one:Int),.int coin,.int word,.int g,.str e,.int ans,.int 22,.lst st]:=by
  have ml:=mvl35 (other:=other) (coin:=coin) (one:=one)
  refine ⟨endS (fr35 one other coin word g) [] (((9:Nat):Int) + 1) 22 e ans,⟨other,x1,10,(((((ds ++ mvI (other:Int) coin one) ++ [Dd.note (other:Int) word]) ++ [Dd.note (other:Int) (one:Int)]) ++ [Dd.note (other:Int) coin]) ++ [Dd.note (other:Int) (other:Int)]),ZaO one other coin word 10,rfl,rfl,X.b1,X.a1,fit35 X,?_,by decide,?_,?_,by rw [mv35]⟩,rfl,rfl,rfl,fun _=>rfl⟩
  . rw [mv35,X.r1]
    generalize ds ++ mvI (other:Int) coin one=ds0
    show RunW A S0 _ (prog35 ans l) 10 ds0 (atS (fr35 one other coin word g) [] ((0:Nat):Int) 0) _ _ _
    refine ZaT (w := "word") (v:=word) (u':=1) rfl rfl (.inl ⟨rfl,rfl⟩) (by show 0 < 24; decide) (by omega) (by show _ <= g; omega) ?_
    refine ZaW (st:=[]) (v:=word) (u':=5) rfl rfl rfl (by show 0 < 24; decide) (by omega) (by show _ <= g; omega) ?_
    refine ZaT (w := "from") (v:=(one:Int)) (u':=6) rfl rfl (.inr (.inr (.inl ⟨rfl,rfl⟩))) (by show 0 < 24; decide) (by omega) (by show _ <= g; omega) ?_
    refine ZaW (st:=[]) (v:=(one:Int)) (u':=10) rfl rfl rfl (by show 0 < 24; decide) (by omega) (by show _ <= g; omega) ?_
    refine ZaT (w := "sent") (v:=coin) (u':=11) rfl rfl (.inr (.inr (.inr ⟨rfl,rfl⟩))) (by show 0 < 24; decide) (by omega) (by show _ <= g; omega) ?_
    refine ZaW (st:=[]) (v:=coin) (u':=15) rfl rfl rfl (by show 0 < 24; decide) (by omega) (by show _ <= g; omega) ?_
    refine ZaT (w := "me") (v:=(other:Int)) (u':=16) rfl rfl (.inr (.inl ⟨rfl,rfl⟩)) (by show 0 < 24; decide) (by omega) (by show _ <= g; omega) ?_
    refine ZaW (st:=[]) (v:=(other:Int)) (u':=20) rfl rfl rfl (by show 0 < 24; decide) (by omega) (by show _ <= g; omega) ?_
    refine ZbD (k:=ans) (u':=21) rfl rfl (by show 0 < 24; decide) (by omega) (by show _ <= g; omega) ?_
    exact ZmC (st:=[]) (v:=ans) rfl rfl hle (by show 0 < 24; decide) (by omega) (by show _ <= g; omega)
  . simp only [List.length_append,List.length_cons,List.length_nil]; omega
  . show (if some e=some ("well" : Str) then _ else _)=(if some e=some ("well" : Str) then _ else _); unfold Zc7; simp only [List.append_assoc,List.cons_append,List.nil_append]
end
noncomputable def Zcl (other:Nat) (coin asked word:Int):List Row:=[rw1 "push" (other:Int),rw1 "push" coin,rw1 "push" asked,rw1 "push" word,rw0 "call", rw0 "note", rw0 "note"]
noncomputable def fr35o (one caller:Nat) (g:Int):FrS:=frame0 "call" one one caller 0 9 g 1 false
theorem mv35o (one caller:Nat) (g:Int):mvD (fr35o one caller g)=none:=if_neg (fun z=>absurd z.2 (by show ¬ (0:Int) < 0; decide))
section
variable {A:Nat->Option AcI} {S0:Nat->AcS} {one other caller n:Nat} {x0 x1:AcI} {coin word g gi asked pc more u1 a1 ans:Int} {l e1:Str} {ds1:List Dd} {y1:FrS} {s1:List Dt}
theorem out_A (X:St35 A S0 one other x0 x1 ans l) (r0:(S0 one).rows=Zcl other coin asked word) (hcc:coin <= (S0 one).coin) (hpc:(if decide (0 < coin)=true then (12:Int) else 8)=pc) (hg:g=pc + 4 + more) (hgi:(if more < asked then more else asked)=gi) (hG:GoW A S0 n [] (fr35 one other coin word gi) ds1 y1 s1) (hf1:y1.fin=some e1) (ha1:y1.answer=a1) (hu1:y1.used=u1) (u0:0 <= u1) (hl1:ds1.length <= 1000) (h1:u1 + 8 <= more):∃ y,GoW A S0 (n + 1) [] (fr35o one caller g) ((ds1 ++ [.note (one:Int) (wellI (some e1))]) ++ [.note (one:Int) a1]) y [.int 0,.int 1,.int 2,.int 3,.int 4,treeD y1 s1,.int 5,tellD (.note (one:Int) (wellI (some e1))),.int 6,tellD (.note (one:Int) a1)]/\∀ st,treeD y st=.tup [.str "call", .int (one:Int),.int (one:Int),.int (caller:Int),.int 0,.int 9,.int g,.str "well", .int 0,.int (pc + 4 + u1 + 8),.lst st]:=by
  have pcb:8 <= pc/\pc <= 12:=by rw [<- hpc]; split <;> exact ⟨by decide,by decide⟩
  refine ⟨endS (fr35o one caller g) [] ((7:Nat):Int) (pc + 4 + u1 + 8) "well" 0,⟨one,x0,8,((ds1 ++ [.note (one:Int) (wellI (some e1))]) ++ [.note (one:Int) a1]),[.int 0,.int 1,.int 2,.int 3,.int 4,treeD y1 s1,.int 5,tellD (.note (one:Int) (wellI (some e1))),.int 6,tellD (.note (one:Int) a1)],rfl,rfl,X.b0,X.a0,fun d hq=>?_,?_,by decide,?_,?_,by rw [mv35o]; rfl⟩,fun _=>rfl⟩
  . rw [mv35o] at hq; cases hq
  . rw [mv35o,r0]
    show RunW A S0 _ (Zcl other coin asked word) 8 [] (atS (fr35o one caller g) [] ((0:Nat):Int) 0) _ _ _
    refine ZbD (k:=(other:Int)) (u':=1) rfl rfl (by show 0 < 24; decide) (by omega) (by show _ <= g; omega) ?_
    refine ZbD (k:=coin) (u':=2) rfl rfl (by show 1 < 24; decide) (by omega) (by show _ <= g; omega) ?_
    refine ZbD (k:=asked) (u':=3) rfl rfl (by show 2 < 24; decide) (by omega) (by show _ <= g; omega) ?_
    refine ZbD (k:=word) (u':=4) rfl rfl (by show 3 < 24; decide) (by omega) (by show _ <= g; omega) ?_
    have hC:=ZfL (A:=A) (S0:=S0) (G:=GoW A S0 n) (ds:=[]) (x:=atS (fr35o one caller g) [(other:Int),coin,asked,word] ((5:Nat):Int) (pc + 4)) (s:=[]) gi (.inl ⟨rfl,(other:Int),coin,asked,word,rfl,rfl⟩) (by show 0 <= 900; decide) (.inr ⟨x1,by show (0:Int) <= other; omega,by have:=X.b1; show (other:Int) < 16; omega,X.a1,.inr (.inr ⟨by show ¬ (8:Int) < 2; decide,rfl,one,x0,rfl,X.b0,X.a0,.inr ⟨Int.not_lt.mpr hcc,rfl⟩⟩)⟩) (by show (if g - (pc + 4) < asked then g - (pc + 4) else asked)=gi; rw [show g - (pc + 4)=more by omega]; exact hgi) hG
    rw [hf1,ha1,hu1] at hC
    refine ZhO (w := "call") (st':=[a1,wellI (some e1)]) (u':=pc + 4) (u2:=pc + 4 + u1) (c:=pc) rfl rfl rfl rfl (by show 4 <= ((4:Nat):Int); decide) (by decide) (by show 4 <= 24; decide) (.inr ⟨rfl,[(other:Int)],coin,asked,word,rfl,rfl⟩) (by decide) rfl hpc (by omega) (by show _ <= g; omega) rfl hC ?_
    refine ZaW (st:=[a1]) (v:=wellI (some e1)) (u':=pc + 4 + u1 + 4) rfl rfl rfl (by show 1 < 24; decide) rfl (by show _ <= g; omega) ?_
    refine ZaW (st:=[]) (v:=a1) (u':=pc + 4 + u1 + 8) rfl rfl rfl (by show 0 < 24; decide) (by omega) (by show _ <= g; omega) ?_
    exact en_of (i:=7) (st:=[]) rfl (by show (7:Int) <= 7; decide) (by decide)
  . (try simp only [List.length_append,List.length_cons,List.length_nil]); omega
  . exact (if_pos rfl).symm
theorem out_B (X:St35 A S0 one other x0 x1 ans l) (r0:(S0 one).rows=Zcl other coin asked word) (hcc:coin <= (S0 one).coin) (hpc:(if decide (0 < coin)=true then (12:Int) else 8)=pc) (hg:g=pc + 4 + more) (hgi:(if more < asked then more else asked)=gi) (hG:GoW A S0 n [] (fr35 one other coin word gi) ds1 y1 s1) (hf1:y1.fin=some e1) (ha1:y1.answer=a1) (hu1:y1.used=u1) (u0:0 <= u1) (hl1:ds1.length <= 1000) (h1:u1 + 4 <= more) (h2:more < u1 + 8):∃ y,GoW A S0 (n + 1) [] (fr35o one caller g) [] y [.int 0,.int 1,.int 2,.int 3,.int 4,treeD y1 s1,.int 5,tellD (.note (one:Int) (wellI (some e1)))]/\∀ st,treeD y st=.tup [.str "call", .int (one:Int),.int (one:Int),.int (caller:Int),.int 0,.int 9,.int g,.str "dry", .int 0,.int (pc + 4 + u1 + 4),.lst st]:=by
  have pcb:8 <= pc/\pc <= 12:=by rw [<- hpc]; split <;> exact ⟨by decide,by decide⟩
  refine ⟨endS (fr35o one caller g) [a1] ((6:Nat):Int) (pc + 4 + u1 + 4) "dry" 0,⟨one,x0,7,(ds1 ++ [Dd.note (one:Int) (wellI (some e1))]),[.int 0,.int 1,.int 2,.int 3,.int 4,treeD y1 s1,.int 5,tellD (.note (one:Int) (wellI (some e1)))],rfl,rfl,X.b0,X.a0,fun d hq=>?_,?_,by decide,?_,?_,by rw [mv35o]; rfl⟩,fun _=>rfl⟩
  . rw [mv35o] at hq; cases hq
  . rw [mv35o,r0]
    show RunW A S0 _ (Zcl other coin asked word) 7 [] (atS (fr35o one caller g) [] ((0:Nat):Int) 0) _ _ _
    refine ZbD (k:=(other:Int)) (u':=1) rfl rfl (by show 0 < 24; decide) (by omega) (by show _ <= g; omega) ?_
    refine ZbD (k:=coin) (u':=2) rfl rfl (by show 1 < 24; decide) (by omega) (by show _ <= g; omega) ?_
    refine ZbD (k:=asked) (u':=3) rfl rfl (by show 2 < 24; decide) (by omega) (by show _ <= g; omega) ?_
    refine ZbD (k:=word) (u':=4) rfl rfl (by show 3 < 24; decide) (by omega) (by show _ <= g; omega) ?_
    have hC:=ZfL (A:=A) (S0:=S0) (G:=GoW A S0 n) (ds:=[]) (x:=atS (fr35o one caller g) [(other:Int),coin,asked,word] ((5:Nat):Int) (pc + 4)) (s:=[]) gi (.inl ⟨rfl,(other:Int),coin,asked,word,rfl,rfl⟩) (by show 0 <= 900; decide) (.inr ⟨x1,by show (0:Int) <= other; omega,by have:=X.b1; show (other:Int) < 16; omega,X.a1,.inr (.inr ⟨by show ¬ (8:Int) < 2; decide,rfl,one,x0,rfl,X.b0,X.a0,.inr ⟨Int.not_lt.mpr hcc,rfl⟩⟩)⟩) (by show (if g - (pc + 4) < asked then g - (pc + 4) else asked)=gi; rw [show g - (pc + 4)=more by omega]; exact hgi) hG
    rw [hf1,ha1,hu1] at hC
    refine ZhO (w := "call") (st':=[a1,wellI (some e1)]) (u':=pc + 4) (u2:=pc + 4 + u1) (c:=pc) rfl rfl rfl rfl (by show 4 <= ((4:Nat):Int); decide) (by decide) (by show 4 <= 24; decide) (.inr ⟨rfl,[(other:Int)],coin,asked,word,rfl,rfl⟩) (by decide) rfl hpc (by omega) (by show _ <= g; omega) rfl hC ?_
    refine ZaW (st:=[a1]) (v:=wellI (some e1)) (u':=pc + 4 + u1 + 4) rfl rfl rfl (by show 1 < 24; decide) rfl (by show _ <= g; omega) ?_
    exact Zca (i:=6) (st:=[a1]) (w := "note") (nn:=none) (r:=0) (t:=1) (l:=0) (pr:=4) (d:=4) (b1:=false) (b2:=false) (c:=4) rfl rfl rfl rfl (by show (1:Int) + 0 <= ((1:Nat):Int); decide) (by show ((1:Nat):Int) - 1 + 0 <= 24; decide) (by show 1 <= 24; decide) (.inl ⟨by decide,rfl⟩) (.inl ⟨by decide,rfl⟩) rfl rfl (by show g < _; omega)
  . (try simp only [List.length_append,List.length_cons,List.length_nil]); omega
  . exact (if_neg (by show ¬ some ("dry" : Str)=some "well"; decide)).symm
theorem out_C (X:St35 A S0 one other x0 x1 ans l) (r0:(S0 one).rows=Zcl other coin asked word) (hcc:coin <= (S0 one).coin) (hpc:(if decide (0 < coin)=true then (12:Int) else 8)=pc) (hg:g=pc + 4 + more) (hgi:(if more < asked then more else asked)=gi) (hG:GoW A S0 n [] (fr35 one other coin word gi) ds1 y1 s1) (hf1:y1.fin=some e1) (ha1:y1.answer=a1) (hu1:y1.used=u1) (u0:0 <= u1) (hl1:ds1.length <= 1000) (h1:u1 <= more) (h2:more < u1 + 4):∃ y,GoW A S0 (n + 1) [] (fr35o one caller g) [] y [.int 0,.int 1,.int 2,.int 3,.int 4,treeD y1 s1]/\∀ st,treeD y st=.tup [.str "call", .int (one:Int),.int (one:Int),.int (caller:Int),.int 0,.int 9,.int g,.str "dry", .int 0,.int (pc + 4 + u1),.lst st]:=by
  have pcb:8 <= pc/\pc <= 12:=by rw [<- hpc]; split <;> exact ⟨by decide,by decide⟩
  refine ⟨endS (fr35o one caller g) [a1,wellI (some e1)] ((5:Nat):Int) (pc + 4 + u1) "dry" 0,⟨one,x0,6,(ds1),[.int 0,.int 1,.int 2,.int 3,.int 4,treeD y1 s1],rfl,rfl,X.b0,X.a0,fun d hq=>?_,?_,by decide,?_,?_,by rw [mv35o]; rfl⟩,fun _=>rfl⟩
  . rw [mv35o] at hq; cases hq
  . rw [mv35o,r0]
    show RunW A S0 _ (Zcl other coin asked word) 6 [] (atS (fr35o one caller g) [] ((0:Nat):Int) 0) _ _ _
    refine ZbD (k:=(other:Int)) (u':=1) rfl rfl (by show 0 < 24; decide) (by omega) (by show _ <= g; omega) ?_
    refine ZbD (k:=coin) (u':=2) rfl rfl (by show 1 < 24; decide) (by omega) (by show _ <= g; omega) ?_
    refine ZbD (k:=asked) (u':=3) rfl rfl (by show 2 < 24; decide) (by omega) (by show _ <= g; omega) ?_
    refine ZbD (k:=word) (u':=4) rfl rfl (by show 3 < 24; decide) (by omega) (by show _ <= g; omega) ?_
    have hC:=ZfL (A:=A) (S0:=S0) (G:=GoW A S0 n) (ds:=[]) (x:=atS (fr35o one caller g) [(other:Int),coin,asked,word] ((5:Nat):Int) (pc + 4)) (s:=[]) gi (.inl ⟨rfl,(other:Int),coin,asked,word,rfl,rfl⟩) (by show 0 <= 900; decide) (.inr ⟨x1,by show (0:Int) <= other; omega,by have:=X.b1; show (other:Int) < 16; omega,X.a1,.inr (.inr ⟨by show ¬ (8:Int) < 2; decide,rfl,one,x0,rfl,X.b0,X.a0,.inr ⟨Int.not_lt.mpr hcc,rfl⟩⟩)⟩) (by show (if g - (pc + 4) < asked then g - (pc + 4) else asked)=gi; rw [show g - (pc + 4)=more by omega]; exact hgi) hG
    rw [hf1,ha1,hu1] at hC
    refine ZhO (w := "call") (st':=[a1,wellI (some e1)]) (u':=pc + 4) (u2:=pc + 4 + u1) (c:=pc) rfl rfl rfl rfl (by show 4 <= ((4:Nat):Int); decide) (by decide) (by show 4 <= 24; decide) (.inr ⟨rfl,[(other:Int)],coin,asked,word,rfl,rfl⟩) (by decide) rfl hpc (by omega) (by show _ <= g; omega) rfl hC ?_
    exact Zca (i:=5) (st:=[a1,wellI (some e1)]) (w := "note") (nn:=none) (r:=0) (t:=1) (l:=0) (pr:=4) (d:=4) (b1:=false) (b2:=false) (c:=4) rfl rfl rfl rfl (by show (1:Int) + 0 <= ((2:Nat):Int); decide) (by show ((2:Nat):Int) - 1 + 0 <= 24; decide) (by show 2 <= 24; decide) (.inl ⟨by decide,rfl⟩) (.inl ⟨by decide,rfl⟩) rfl rfl (by show g < _; omega)
  . (try simp only [List.length_append,List.length_cons,List.length_nil]); omega
  . exact (if_neg (by show ¬ some ("dry" : Str)=some "well"; decide)).symm
end
section
end
noncomputable def prL:List V:=[.int 1,.int 4,.int 1,.int 4,.int 1,.int 4,.int 1,.int 4,.int 1,.int 1]
noncomputable def spGone:Sp:=fun vs H Q _=>∃ (P:Addr) (g:Int),vs=[.ref P,.int g]/\H P=some (.lst prL)/\0 <= g/\∀ (m:Nat) t H',m <= 10->cum35 m <= g->(m < 10->g < cum35 (m + 1))->Same H H'->H t=none->H' t=some (.tup [.int (m:Int),.int (cum35 m)])->Q (.ref t) H'
theorem pr_at:∀ m:Nat,m < 10->∃ p:Int,atI prL (m:Int)=some (.int p)/\cum35 (m + 1)=cum35 m + p
  | 0,_=>⟨1,rfl,rfl⟩
  | 1,_=>⟨4,rfl,rfl⟩
  | 2,_=>⟨1,rfl,rfl⟩
  | 3,_=>⟨4,rfl,rfl⟩
  | 4,_=>⟨1,rfl,rfl⟩
  | 5,_=>⟨4,rfl,rfl⟩
  | 6,_=>⟨1,rfl,rfl⟩
  | 7,_=>⟨4,rfl,rfl⟩
  | 8,_=>⟨1,rfl,rfl⟩
  | 9,_=>⟨1,rfl,rfl⟩
  | _ + 10,h=>absurd h (by omega)
noncomputable def stepsV35 (d0 d1 d2 d3:V):Nat->List V
  | 0=>[]
  | 1=>[.int 0]
  | 2=>[.int 0,.int 1,d0]
  | 3=>[.int 0,.int 1,d0,.int 2]
  | 4=>[.int 0,.int 1,d0,.int 2,.int 3,d1]
  | 5=>[.int 0,.int 1,d0,.int 2,.int 3,d1,.int 4]
  | 6=>[.int 0,.int 1,d0,.int 2,.int 3,d1,.int 4,.int 5,d2]
  | 7=>[.int 0,.int 1,d0,.int 2,.int 3,d1,.int 4,.int 5,d2,.int 6]
  | 8=>[.int 0,.int 1,d0,.int 2,.int 3,d1,.int 4,.int 5,d2,.int 6,.int 7,d3]
  | 9=>[.int 0,.int 1,d0,.int 2,.int 3,d1,.int 4,.int 5,d2,.int 6,.int 7,d3,.int 8]
  | _=>[.int 0,.int 1,d0,.int 2,.int 3,d1,.int 4,.int 5,d2,.int 6,.int 7,d3,.int 8,.int 9]
noncomputable def ZgP (K:PySem.W.Frag):Sp:=fun vs H Q _=>∃ (D:Addr) (d0 d1 d2 d3:V) (m:Nat),vs=[.ref D,.int (m:Int)]/\H D=some (.lst [d0,d1,d2,d3])/\m <= 10/\∀ q H',Same H H'->H q=none->H' q=some (.lst (stepsV35 d0 d1 d2 d3 m))->Q (.ref q) H'
theorem len35 (d0 d1 d2 d3:V) (m:Nat):(stepsV35 d0 d1 d2 d3 m).length <= 14:=by
  unfold stepsV35; split <;> simp
section
variable {P:Program} {w:World} {K:PySem.W.Frag} {mg:Str->Option Value} {base:Heap}
theorem ZbE:FnScope ["_law_prices", "_law_given", "_law_used", "_law_many"] ["_law_prices", "_law_given"] (Zac ZcA):=⟨rfl,rfl,rfl,by decide +kernel,rfl,by decide +kernel,by decide +kernel⟩
theorem ZfM    (D:Zaq K mg "_law_rows_gone" ZcA) (n_len:mg "len" = none):Cal P w K mg base 1 "_law_rows_gone" spGone:=by
  refine ZaA (N:=["_law_prices", "_law_given", "_law_used", "_law_many"]) (ps:=["_law_prices", "_law_given"]) D ZbE (fun vs H Q E h=>?_) (fun _ _ _ _ _ _ us hl=>bd2 (R:=fun us=>bindArgs _ ⟨us,[]⟩=pure (List.zip _ us)) (fun _ _=>rfl) us hl) (fun f cdv A outer s H vs Q E hr h=>?_)
  . obtain ⟨P,g,rfl,_⟩:=h; rfl
  . obtain ⟨P,g,rfl,hP,hg,k⟩:=h
    refine' ⟨_,?der,?_⟩
    case der =>
      refine' Zad ?h12 ?h13
      case h12 =>
        exact (Zat (i:=2) ZbE.nd rfl (by first|exact Or.inl rfl|exact Or.inr rfl) Zag)
      case h13 =>
        refine' Zad ?h10 ?h11
        case h10 =>
          exact (Zat (i:=3) ZbE.nd rfl (by first|exact Or.inl rfl|exact Or.inr rfl) Zag)
        case h11 =>
          refine' Zad ?h8 ?h9
          case h8 =>
            exact (Ze4 PassesOwn.never (PW.pt (ZhX (ZaD ZfS (pv 3) (ZaI ZbP rfl n_len PySem.boot_len (Zaa (pv 0) Zae)) (nomark _)) (Ze3 (ZaD op_le (ZaC ZbG (pv 2) (ZaK Zaz (pv 0) (pv 3) (fun _ _=>rfl))) (pv 1) (nomark _)))))
      (Zad (Zat (i:=2) ZbE.nd rfl (by first|exact Or.inl rfl|exact Or.inr rfl) (ZaC ZbG (pv 2) (ZaK Zaz (pv 0) (pv 3) (fun _ _=>rfl))))
      (Zaf (Zat (i:=3) ZbE.nd rfl (by first|exact Or.inl rfl|exact Or.inr rfl) (ZaC ZbG (pv 3) Zag)))))
          case h9 =>
            refine' Zaf ?h7
            case h7 =>
              refine' Zar ?h6
              case h6 =>
                refine' ZaQ ?h5
                case h5 =>
                  refine' Zaa ?h3 ?h4
                  case h3 =>
                    exact (pv 3)
                  case h4 =>
                    refine' Zaa ?h1 ?h2
                    case h1 =>
                      exact (pv 2)
                    case h2 =>
                      exact Zae
    walk_at "nx"
    repeat walk_at "rdk"
    have lP:prL.length=10:=rfl
    refine ⟨fun nn σ' H'=>∃ m:Nat,nn=10 - m/\m <= 10/\cum35 m <= g/\H'=H/\σ'=[some (.ref P),some (.int g),some (.int (cum35 m)),some (.int (m:Int))],⟨10,0,rfl,by decide,hg,rfl,rfl⟩,?_⟩
    rintro nn σ' H' ⟨m,rfl,hm,hc,rfl,rfl⟩
    have fin:(m < 10->g < cum35 (m + 1))->(∀ t,H' t=none->Q (.ref t) (upd H' t (.tup [.int (m:Int),.int (cum35 m)]))):=fun hz t ht=>k m t _ hm hc hz (Same.new ht) ht Zah
    by_cases hlt:m < 10
    . obtain ⟨p,ep,ec⟩:=pr_at m hlt
      repeat walk_at "rdz"
      all_goals try (exfalso; omega)
      refine Za7 (ZaF hP) ep ?_
      repeat' walk_at "rdz"
      . refine ⟨fun σ' H'=>∃ m',m' < 10 - m/\_,fun _ _ h=>h,?_⟩
        repeat walk_at "rdz"
        refine Za7 (ZaF hP) ep ?_
        repeat walk_at "rdz"
        exact ⟨10 - (m + 1),by omega,m + 1,rfl,by omega,by omega,rfl,by rw [ec,show ((m + 1:Nat):Int)=(m:Int) + 1 by omega]⟩
      . refine ⟨by show 2 <= sizeLine; decide,fin (fun _=>by omega)⟩
    . repeat walk_at "rdz"
      all_goals try (exfalso; omega)
      refine ⟨by show 2 <= sizeLine; decide,fin (fun z=>absurd z hlt)⟩
end
section
variable {P:Program} {w:World} {K:PySem.W.Frag} {mg:Str->Option Value} {base:Heap}
theorem ZeK:FnScope ["_law_deeds", "_law_many", "_law_steps_here", "_law_k"] ["_law_deeds", "_law_many"] (Zac Zfk):=⟨rfl,rfl,rfl,by decide +kernel,rfl,by decide +kernel,by decide +kernel⟩
theorem Zj3    (D:Zaq K mg "_law_steps" Zfk) (n_range:mg "range" = none) (n_len:mg "len" = none):Cal P w K mg base 1 "_law_steps" (ZgP K):=by
  refine ZaA (N:=["_law_deeds", "_law_many", "_law_steps_here", "_law_k"]) (ps:=["_law_deeds", "_law_many"]) D ZeK (fun vs H Q E h=>?_) (fun _ _ _ _ _ _ us hl=>bd2 (R:=fun us=>bindArgs _ ⟨us,[]⟩=pure (List.zip _ us)) (fun _ _=>rfl) us hl) (fun f cdv A outer s H vs Q E hr h=>?_)
  . obtain ⟨D,d0,d1,d2,d3,m,rfl,_⟩:=h; rfl
  . obtain ⟨D,d0,d1,d2,d3,m,rfl,hD,hm,k⟩:=h
    refine ⟨_,(Zad (Zat (i:=2) ZeK.nd rfl (by first|exact Or.inl rfl|exact Or.inr rfl) (Zbt Zae))
      (Zad (ZhY PassesOwn.never rfl (Zda rfl n_range (Zaa (pv 1) Zae)) (ZbH (i:=3) ZeK.nd rfl (by first|exact Or.inl rfl|exact Or.inr rfl))
      (Zad (Zay (Zf1 PySem.F.plainAttrs_list PySem.F.slot_list_append PySem.F.type_list_append ZbC (pv 2) (Zaa (pv 3) Zae)))
      (Zaf (Zbi (PW.pt (ZhX (ZaD Zb7 (ZaC Zbs (pv 3) Zag) Zag (nomark _)) (Ze3 (ZaD ZfS (ZaC Zb2 (pv 3) Zag) (ZaI ZbP rfl n_len PySem.boot_len (Zaa (pv 0) Zae)) (nomark _))))) (Zaf (Zay (Zf1 PySem.F.plainAttrs_list PySem.F.slot_list_append PySem.F.type_list_append ZbC (pv 2) (Zaa (ZaK Zaz (pv 0) (ZaC Zb2 (pv 3) Zag) (fun _ _=>rfl)) Zae)))) ZaJ))))
      (Zaf (Zar (pv 2))))),?_⟩
    walk_at "nx"
    have h0:Gw H H []:=Gw.start
    repeat walk_at "rdk"
    refine ⟨by show 0 <= sizeLine; decide,fun L0 q_L0=>?_⟩
    generalize e_:upd _ L0 _=H1; have h1:=h0.newE q_L0 e_; clear e_; repeat walk_at "rdk"
    refine Zge (Zdf ?_)
    repeat walk_at "rdk"
    refine ⟨_,rfl,by omega,by omega,?_⟩
    rw [Int.toNat_natCast]
    have nL:=h0.fresh q_L0
    refine Zco (fun i σ' H'=>Same H H'/\H' L0=some (.lst (stepsV35 d0 d1 d2 d3 i))/\∃ v,σ'=[some (.ref D),some (.int (m:Int)),some (.ref L0),v]) ⟨h1.s,h1.h.1,none,rfl⟩ ?_ ?_
    . rintro i σ' H2 hi ⟨s2,eL,v,rfl⟩
      have hD2:=s2 _ _ hD
      have hl:=len35 d0 d1 d2 d3 i
      have hi10:i < 10:=by omega
      have lb:(stepsV35 d0 d1 d2 d3 i).length < sizeLine:=Nat.lt_of_le_of_lt hl (by decide)
      have nDL:D ≠ L0:=Zam hD nL
      have l4:([d0,d1,d2,d3].length:Int)=4:=rfl
      repeat walk_at "rdk"
      refine ⟨Zb3 (ZaF eL),?_⟩
      repeat walk_at "rdk"
      rw [Int.zero_add]
      refine ZbL eL lb ?_
      have hD3:(upd H2 L0 (.lst (stepsV35 d0 d1 d2 d3 i ++ [.int (i:Int)]))) D=some (.lst [d0,d1,d2,d3]):=by rw [Zak nDL]; exact hD2
      have s3:Same H (upd H2 L0 (.lst (stepsV35 d0 d1 d2 d3 i ++ [.int (i:Int)]))):=s2.wr nL
      have eL3:(upd H2 L0 (.lst (stepsV35 d0 d1 d2 d3 i ++ [.int (i:Int)]))) L0=some (.lst (stepsV35 d0 d1 d2 d3 i ++ [.int (i:Int)])):=Zah
      generalize upd H2 L0 _=H3 at hD3 s3 eL3
      by_cases hod:(i:Int) % 2=1/\(i:Int) / 2 < 4
      . obtain ⟨dk,ek,en⟩:∃ dk,atI [d0,d1,d2,d3] ((i:Int) / 2)=some dk/\stepsV35 d0 d1 d2 d3 (i + 1)=stepsV35 d0 d1 d2 d3 i ++ [.int (i:Int)] ++ [dk]:=by
          match i,hi10,hod with
          | 1,_,_=>exact ⟨d0,rfl,rfl⟩
          | 3,_,_=>exact ⟨d1,rfl,rfl⟩
          | 5,_,_=>exact ⟨d2,rfl,rfl⟩
          | 7,_,_=>exact ⟨d3,rfl,rfl⟩
          | 0,_,h=>exact absurd h.1 (by decide)
          | 2,_,h=>exact absurd h.1 (by decide)
          | 4,_,h=>exact absurd h.1 (by decide)
          | 6,_,h=>exact absurd h.1 (by decide)
          | 8,_,h=>exact absurd h.1 (by decide)
          | 9,_,h=>exact absurd h.2 (by decide)
        rw [en]
        generalize stepsV35 d0 d1 d2 d3 i=xs at *
        repeat' walk_at "rdz"
        all_goals try (exfalso; omega)
        refine ⟨Zb3 (ZaF eL3),?_⟩
        repeat walk_at "rdz"
        refine Za7 (ZaF hD3) ek ?_
        repeat walk_at "rdz"
        refine ZbL eL3 (by rw [List.length_append]; exact Nat.lt_of_le_of_lt (Nat.add_le_add_right hl _) (by show 14 + 1 < sizeLine; decide)) ?_
        repeat walk_at "rdz"
        exact ⟨s3.wr nL,Zah,_,rfl⟩
      . have en:stepsV35 d0 d1 d2 d3 (i + 1)=stepsV35 d0 d1 d2 d3 i ++ [.int (i:Int)]:=by
          match i,hi10,hod with
          | 0,_,_=>rfl
          | 2,_,_=>rfl
          | 4,_,_=>rfl
          | 6,_,_=>rfl
          | 8,_,_=>rfl
          | 9,_,_=>rfl
          | 1,_,h=>exact absurd ⟨by decide,by decide⟩ h
          | 3,_,h=>exact absurd ⟨by decide,by decide⟩ h
          | 5,_,h=>exact absurd ⟨by decide,by decide⟩ h
          | 7,_,h=>exact absurd ⟨by decide,by decide⟩ h
        rw [en]
        generalize stepsV35 d0 d1 d2 d3 i=xs at *
        repeat' walk_at "rdz"
        all_goals first|exact ⟨s3,eL3,_,rfl⟩|(exfalso; exact hod ⟨by omega,by omega⟩)
    . rintro σ' H2 ⟨s2,eL,v,rfl⟩
      repeat walk_at "rdk"
      exact k L0 H2 s2 nL eL
end
noncomputable def cellF (ns:List Int) (k:Int):Int:=(ns[k.toNat]?).getD 0
noncomputable def ZhS (K:PySem.W.Frag):Sp:=fun vs H Q _=>∃ (p:Addr) (ns:List Int) (k:Int),vs=[.ref p,.int k]/\0 <= k/\SqL K H p (ns.map V.int)/\Q (.int (cellF ns k)) H
noncomputable def hasAll (A:Nat->Option AcI) (ss:List Nat):Prop:=∀ i ∈ ss,i < 16/\∃ x,A i=some x
noncomputable def setO (A:Nat->Option AcI) (i:Nat) (x:AcI):Nat->Option AcI:=fun j=>if j=i then some x else A j
theorem Zj4 {A:Nat->Option AcI} {i:Nat} {x:AcI} (hi:i < 16):((List.range 16).map fun j=>roomV (A j)).set i (.ref x.a)=(List.range 16).map fun j=>roomV (setO A i x j):=by
  apply List.ext_getElem?
  intro n
  rw [List.getElem?_set]
  by_cases e:i=n
  . subst e
    rw [if_pos rfl,if_pos (by simpa using hi),List.getElem?_map,List.getElem?_range hi]
    show _=some (roomV (setO A i x i))
    unfold setO
    rw [if_pos rfl]
    rfl
  . rw [if_neg e,List.getElem?_map,List.getElem?_map]
    by_cases hn:n < 16
    . rw [List.getElem?_range hn]
      show some _=some (roomV (setO A i x n))
      unfold setO
      rw [if_neg (Ne.symm e)]
    . rw [List.getElem?_eq_none (by simpa using hn)]
      rfl
theorem ZcN {A:Nat->Option AcI} {i:Nat} {x:AcI}:∀ j y,setO A i x j=some y->(j=i/\y=x)\/(j ≠ i/\A j=some y):=fun j y h=>by
  unfold setO at h
  by_cases z:j=i
  . rw [if_pos z] at h; cases h; exact .inl ⟨z,rfl⟩
  . rw [if_neg z] at h; exact .inr ⟨z,h⟩
theorem Rooms.add {K:PySem.W.Frag} {C:Addr} {H H':Hp} {R:Addr} {A:Nat->Option AcI} {S:Nat->AcS} {m:Nat} (r:Rooms K C H R A S m) {i:Nat} (hi:i < 16) {x:AcI} {s:AcS} (e5:H' R=some (.lst (((List.range 16).map fun j=>roomV (A j)).set i (.ref x.a)))) (e6:Acc K C H' x s m)
    (fr:∀ b o,H b=some o->b ≠ R->(∀ kvs,o ≠ .dK kvs)->H' b=some o) (fs:∀ j y,j < 16->A j=some y->H' y.st=H y.st) (np:∀ j y,j < 16->A j=some y->y.pr ≠ R) (n3:H x.a=none) (n4:H x.st=none):Rooms K C H' R (setO A i x) (setS S i s) m:=by
  have hR:=r.ob
  have sne:∀ j y,j < 16->A j=some y->∃ kvs,H y.st=some (.dK kvs):=fun j y hj hy=>let ⟨kvs,a,_⟩:=(r.ac j y hj hy).sto; ⟨kvs,a⟩
  have im:SameI H H':=fun b u e i=>by
    refine fr b u e (fun z=>?_) (fun kvs z=>?_)
    . rw [z,hR] at e; cases e; exact ZbJ i
    . rw [z] at i; exact Zgg i
  refine ⟨by rw [e5,Zj4 hi],fun j y hj hy=>?_,fun j j' y y' hj hj' hy hy' e=>?_,fun j j' y y' hj hj' hy hy' e=>?_⟩
  . rcases ZcN j y hy with ⟨rfl,rfl⟩|⟨z,gy⟩
    . unfold setS; rw [if_pos rfl]; exact e6
    . unfold setS; rw [if_neg z]
      have h:=r.ac j y hj gy
      obtain ⟨xs,g1,g2⟩:=h.pg
      obtain ⟨kvs,g3,g4⟩:=h.sto
      exact ⟨fr _ _ h.ob (Zbl h.ob hR (by intro z; cases z)) (by intro _ z; cases z),⟨xs,fr _ _ g1 (np j y hj gy) (by intro _ z; cases z),g2.keep im⟩,kvs,(fs j y hj gy).trans g3,g4⟩
  . rcases ZcN j y hy with ⟨rfl,rfl⟩|⟨z,gy⟩ <;> rcases ZcN j' y' hy' with ⟨rfl,rfl⟩|⟨z',gy'⟩
    . rfl
    . have h:=(r.ac j' y' hj' gy').ob; rw [<- e,n3] at h; cases h
    . have h:=(r.ac j y hj gy).ob; rw [e,n3] at h; cases h
    . exact r.da j j' y y' hj hj' gy gy' e
  . rcases ZcN j y hy with ⟨rfl,rfl⟩|⟨z,gy⟩ <;> rcases ZcN j' y' hy' with ⟨rfl,rfl⟩|⟨z',gy'⟩
    . rfl
    . obtain ⟨_,h⟩:=sne j' y' hj' gy'; rw [<- e,n4] at h; cases h
    . obtain ⟨_,h⟩:=sne j y hj gy; rw [e,n4] at h; cases h
    . exact r.ds j j' y y' hj hj' gy gy' e
theorem Rooms.empty {K:PySem.W.Frag} {C:Addr} {H:Hp} {R:Addr} {m:Nat} (f:H R=some (.lst ((List.range 16).map fun i=>roomV ((fun _=>none:Nat->Option AcI) i)))) (S:Nat->AcS):Rooms K C H R (fun _=>none) S m :=
  ⟨f,fun _ _ _ h=>(nomatch h),fun _ _ _ _ _ _ h=>(nomatch h),fun _ _ _ _ _ _ h=>(nomatch h)⟩
theorem Rooms.made {K:PySem.W.Frag} {C:Addr} {H H2:Hp} {R:Addr} {A:Nat->Option AcI} {S:Nat->AcS} {m:Nat} (r:Rooms K C H R A S m) {i:Nat} (hi:i < 16) (np:∀ j y,j < 16->A j=some y->y.pr ≠ R) {a dx pr st:Addr} {c p:Int} {rs:List Row} (s:Same H H2) (ha:H a=none) (hpr:H pr=none) (hst:H st=none) (ac:AcAt K C H2 a dx pr st c p 0 rs (fun _=>0) 0) :
    Rooms K C (upd H2 R (.lst (((List.range 16).map fun j=>roomV (A j)).set i (.ref a)))) R (setO A i ⟨a,dx,pr,st⟩) (setS S i ⟨c,p,0,rs,fun _=>0⟩) m/\∀ j y,j < 16->setO A i ⟨a,dx,pr,st⟩ j=some y->y.pr ≠ R:=by
  have nR:pr ≠ R:=Ne.symm (Zam r.ob hpr)
  have im:SameI H2 (upd H2 R (.lst (((List.range 16).map fun j=>roomV (A j)).set i (.ref a)))):=SameI.upd (s _ _ r.ob) ZbJ
  obtain ⟨xs,g1,g2⟩:=ac.pg
  obtain ⟨kvs,g3,g4,g5⟩:=ac.sto
  refine ⟨r.add (x:=⟨a,dx,pr,st⟩) hi Zah ⟨by rw [Zak (Zbl ac.ob (s _ _ r.ob) (by intro z; cases z))]; exact ac.ob,⟨xs,by rw [Zak nR]; exact g1,g2.keep im⟩,kvs,by rw [Zak (Zbl g3 (s _ _ r.ob) (by intro z; cases z))]; exact g3,Nat.le_trans g4 (Nat.zero_le _),g5⟩ (fun b o h h1 _=>by rw [Zak h1]; exact s _ _ h) (fun j y hj hy=>?_) np ha hst,fun j y hj hy=>?_⟩
  . obtain ⟨kv,q,_⟩:=(r.ac j y hj hy).sto
    rw [Zak (Zbl q r.ob (by intro z; cases z)),q]
    exact s _ _ q
  . rcases ZcN j y hy with ⟨rfl,rfl⟩|⟨_,gy⟩
    . exact nR
    . exact np j y hj gy
theorem Rooms.put {K:PySem.W.Frag} {C:Addr} {H0 H H2:Hp} {R:Addr} {A:Nat->Option AcI} {S:Nat->AcS} {m:Nat} (r:Rooms K C H R A S m) (n0:H0 R=none) (s0:Same H0 H) {i:Nat} (hi:i < 16) (np:∀ j y,j < 16->A j=some y->y.pr ≠ R) {a dx pr st:Addr} {c p:Int} {rs:List Row} (s:Same H H2) (ha:H a=none) (hpr:H pr=none) (hst:H st=none) (ac:AcAt K C H2 a dx pr st c p 0 rs (fun _=>0) 0) :
    ∃ H',upd H2 R (.lst (((List.range 16).map fun j=>roomV (A j)).set i (.ref a)))=H'/\Rooms K C H' R (setO A i ⟨a,dx,pr,st⟩) (setS S i ⟨c,p,0,rs,fun _=>0⟩) m/\(∀ j y,j < 16->setO A i ⟨a,dx,pr,st⟩ j=some y->y.pr ≠ R)/\Same H0 H'/\KeptX (·=R) H H' :=
  ⟨_,rfl,(r.made hi np s ha hpr hst ac).1,(r.made hi np s ha hpr hst ac).2,(s0.trans s).wr n0,s.keptX.trans (KeptX.upd rfl)⟩
theorem ZgQ (A:Nat->Option AcI) (i:Nat) (v:AcI):setO A i v i=some v:=by unfold setO; rw [if_pos rfl]
theorem ZmE (A:Nat->Option AcI) {i j:Nat} (v:AcI) (h:j ≠ i):setO A i v j=A j:=by unfold setO; rw [if_neg h]
noncomputable def ZgR (K:PySem.W.Frag) (C:Addr):Sp:=fun vs H Q _=>∃ (a:Addr) (ns:List Int) (one other caller:Nat) (has coin:Int),vs=[.ref a,.int (one:Int),.int (other:Int),.int (caller:Int),.int has,.int coin]/\SqL K H a (ns.map V.int)/\one < 16/\other < 16/\caller < 16/\one ≠ other /\
  ∀ t R asked word ans A S0 x0 x1 H',Same H H'->H' t=some (.tup [.ref R,.int asked,.int word,.int ans])->0 <= asked->Rooms K C H' R A S0 0->St35 A S0 one other x0 x1 ans (if cellF ns 5 % 2=0 then "give" else "fail")->(S0 one).rows=Zcl other coin asked word->(S0 one).coin=has->(S0 other).coin=5->(∀ i q,(S0 i).store q=0)->Q (.ref t) H'
theorem p64:(2:Int) ^ Int.toNat 64=18446744073709551616:=by decide
theorem gf_at (c:Int):atI [V.str "give", .str "fail"] (c % 2)=some (.str (if c % 2=0 then "give" else "fail")):=by
  rcases (by omega:c % 2=0\/c % 2=1) with h|h
  . rw [if_pos h,h]; rfl
  . rw [if_neg (by omega),h]; rfl
section
variable {P:Program} {w:World} {K:PySem.W.Frag} {mg:Str->Option Value} {base:Heap}
theorem ZhT:FnScope ["_law_script", "_law_k"] ["_law_script", "_law_k"] (Zac ZdF):=⟨rfl,rfl,rfl,by decide +kernel,rfl,by decide +kernel,by decide +kernel⟩
theorem ZhU    (D:Zaq K mg "_law_cell_at" ZdF) (n_len:mg "len" = none):Cal P w K mg base 1 "_law_cell_at" (ZhS K):=by
  refine ZaA (N:=["_law_script", "_law_k"]) (ps:=["_law_script", "_law_k"]) D ZhT (fun vs H Q E h=>?_) (fun _ _ _ _ _ _ us hl=>bd2 (R:=fun us=>bindArgs _ ⟨us,[]⟩=pure (List.zip _ us)) (fun _ _=>rfl) us hl) (fun f cdv A outer s H vs Q E hr h=>?_)
  . obtain ⟨p,ns,j,rfl,_⟩:=h; rfl
  . obtain ⟨p,ns,j,rfl,hj,hl,k⟩:=h
    refine ⟨_,(Zad (Zbi (ZaD ZfS (pv 1) (ZaI ZbP rfl n_len PySem.boot_len (Zaa (pv 0) Zae)) (nomark _)) (Zaf (Zar (ZaK Zaz (pv 0) (pv 1) (fun _ _=>rfl)))) ZaJ)
      (Zaf (Zar Zag))),?_⟩
    walk_at "nx"
    repeat' walk_at "rdt"
    . rename_i hlt
      rw [List.length_map] at hlt
      obtain ⟨c,e1,e2⟩:=ZkH (xs:=ns) hj hlt
      have e3:(ns.map V.int)[j.toNat]?=some (.int c):=by rw [List.getElem?_map,e2]; rfl
      refine Za7 hl (ZbR e3 (by omega)) ?_
      unfold cellF at k
      rw [e2] at k
      exact k
    . rename_i hlt
      rw [List.length_map] at hlt
      unfold cellF at k
      rw [List.getElem?_eq_none (by omega)] at k
      exact k
theorem ZbF:FnScope ["_law_script", "_law_one", "_law_other", "_law_caller", "_law_has", "_law_coin", "_law_asked", "_law_word", "_law_answer", "_law_rooms_here", "_law_rows"] ["_law_script", "_law_one", "_law_other", "_law_caller", "_law_has", "_law_coin"] (Zac Zfl):=⟨rfl,rfl,rfl,by decide +kernel,rfl,by decide +kernel,by decide +kernel⟩
theorem Zj5   {cAccount:Addr} (D:Zaq K mg "_law_rooms" Zfl) (tAccount:T_Account K mg cAccount) (i_Account:ICal P w K mg base 1 "Account" cAccount (spInit K cAccount)) (c_Lcell_at:Cal P w K mg base 1 "_law_cell_at" (ZhS K)):Cal P w K mg base 3 "_law_rooms" (ZgR K cAccount):=by
  refine ZaA (N:=["_law_script", "_law_one", "_law_other", "_law_caller", "_law_has", "_law_coin", "_law_asked", "_law_word", "_law_answer", "_law_rooms_here", "_law_rows"]) (ps:=["_law_script", "_law_one", "_law_other", "_law_caller", "_law_has", "_law_coin"]) D ZbF (fun vs H Q E h=>?_) (fun _ _ _ _ _ _ us hl=>bd6 (R:=fun us=>bindArgs _ ⟨us,[]⟩=pure (List.zip _ us)) (fun _ _ _ _ _ _=>rfl) us hl) (fun f cdv A outer s H vs Q E hr h=>?_)
  . obtain ⟨a,ns,one,other,caller,has,coin,rfl,_⟩:=h; rfl
  . obtain ⟨a,ns,one,other,caller,has,coin,rfl,hS,b0,b1,b2,n01,k⟩:=h
    refine' ⟨_,?der,?_⟩
    case der =>
      refine' Zad ?h177 ?h178
      case h177 =>
        exact (Zat (i:=6) ZbF.nd rfl (by first|exact Or.inl rfl|exact Or.inr rfl) (ZaC Zbs (ZaC Zb2 (ZaG c_Lcell_at (hr.mono (by decide)) rfl (Zaa (pv 0) (Zaa Zag Zae))) Zag) (ZaC ZhZ Zag Zag)))
      case h178 =>
        refine' Zad ?h175 ?h176
        case h175 =>
          exact (Zgj (Zbi (ZaD Zb7 (ZaC Zbs (ZaG c_Lcell_at (hr.mono (by decide)) rfl (Zaa (pv 0) (Zaa Zag Zae))) Zag) Zag (nomark _)) (Zaf (Zat (i:=6) ZbF.nd rfl (by first|exact Or.inl rfl|exact Or.inr rfl) (ZaC Zbs (pv 6) Zag))) ZaJ))
        case h176 =>
          refine' Zad ?h173 ?h174
          case h173 =>
            exact (Zat (i:=7) ZbF.nd rfl (by first|exact Or.inl rfl|exact Or.inr rfl) (ZaC Zbs (ZaG c_Lcell_at (hr.mono (by decide)) rfl (Zaa (pv 0) (Zaa Zag Zae))) (ZaC ZhZ Zag Zag)))
          case h174 =>
            refine' Zad ?h171 ?h172
            case h171 =>
              exact (Zat (i:=8) ZbF.nd rfl (by first|exact Or.inl rfl|exact Or.inr rfl) (ZaC Zbs (ZaC Zb2 (ZaG c_Lcell_at (hr.mono (by decide)) rfl (Zaa (pv 0) (Zaa Zag Zae))) Zag) (ZaC ZhZ Zag Zag)))
            case h172 =>
              refine' Zad ?h169 ?h170
              case h169 =>
                refine' Zat (i:=9) ?h20 ?h21 ?h22 ?h23
                case h20 =>
                  exact ZbF.nd
                case h21 =>
                  rfl
                case h22 =>
                  first|exact Or.inl rfl|exact Or.inr rfl
                case h23 =>
                  refine' ZaC ?h17 ?h18 ?h19
                  case h17 =>
                    exact op_rep
                  case h18 =>
                    refine' Zbt ?h16
                    case h16 =>
                      refine' Zaa ?h14 ?h15
                      case h14 =>
                        exact Zcn
                      case h15 =>
                        exact Zae
                  case h19 =>
                    exact Zag
              case h170 =>
                refine' Zad ?h167 ?h168
                case h167 =>
                  exact (ZdN (ZcU i_Account (hr.mono (by decide)) rfl (Zaa Zag (Zaa Zag (Zaa (Zbt Zae) Zae)))) (ZfQ (pv 9) (pv 3) Zdc))
                case h168 =>
                  refine' Zad ?h165 ?h166
                  case h165 =>
                    refine' Zat (i:=10) ?h68 ?h69 ?h70 ?h71
                    case h68 =>
                      exact ZbF.nd
                    case h69 =>
                      rfl
                    case h70 =>
                      first|exact Or.inl rfl|exact Or.inr rfl
                    case h71 =>
                      refine' Zbt ?h67
                      case h67 =>
                        refine' Zaa ?h65 ?h66
                        case h65 =>
                          refine' ZaQ ?h28
                          case h28 =>
                            refine' Zaa ?h26 ?h27
                            case h26 =>
                              exact Zav
                            case h27 =>
                              refine' Zaa ?h24 ?h25
                              case h24 =>
                                exact (pv 2)
                              case h25 =>
                                exact Zae
                        case h66 =>
                          refine' Zaa ?h63 ?h64
                          case h63 =>
                            refine' ZaQ ?h33
                            case h33 =>
                              refine' Zaa ?h31 ?h32
                              case h31 =>
                                exact Zav
                              case h32 =>
                                refine' Zaa ?h29 ?h30
                                case h29 =>
                                  exact (pv 5)
                                case h30 =>
                                  exact Zae
                          case h64 =>
                            refine' Zaa ?h61 ?h62
                            case h61 =>
                              refine' ZaQ ?h38
                              case h38 =>
                                refine' Zaa ?h36 ?h37
                                case h36 =>
                                  exact Zav
                                case h37 =>
                                  refine' Zaa ?h34 ?h35
                                  case h34 =>
                                    exact (pv 6)
                                  case h35 =>
                                    exact Zae
                            case h62 =>
                              refine' Zaa ?h59 ?h60
                              case h59 =>
                                refine' ZaQ ?h43
                                case h43 =>
                                  refine' Zaa ?h41 ?h42
                                  case h41 =>
                                    exact Zav
                                  case h42 =>
                                    refine' Zaa ?h39 ?h40
                                    case h39 =>
                                      exact (pv 7)
                                    case h40 =>
                                      exact Zae
                              case h60 =>
                                refine' Zaa ?h57 ?h58
                                case h57 =>
                                  refine' ZaQ ?h46
                                  case h46 =>
                                    refine' Zaa ?h44 ?h45
                                    case h44 =>
                                      exact Zav
                                    case h45 =>
                                      exact Zae
                                case h58 =>
                                  refine' Zaa ?h55 ?h56
                                  case h55 =>
                                    refine' ZaQ ?h49
                                    case h49 =>
                                      refine' Zaa ?h47 ?h48
                                      case h47 =>
                                        exact Zav
                                      case h48 =>
                                        exact Zae
                                  case h56 =>
                                    refine' Zaa ?h53 ?h54
                                    case h53 =>
                                      refine' ZaQ ?h52
                                      case h52 =>
                                        refine' Zaa ?h50 ?h51
                                        case h50 =>
                                          exact Zav
                                        case h51 =>
                                          exact Zae
                                    case h54 =>
                                      exact Zae
                  case h166 =>
                    refine' Zad ?h163 ?h164
                    case h163 =>
                      exact (ZdN (ZcU i_Account (hr.mono (by decide)) rfl (Zaa (pv 4) (Zaa Zag (Zaa (pv 10) Zae)))) (ZfQ (pv 9) (pv 1) Zdc))
                    case h164 =>
                      refine' Zad ?h161 ?h162
                      case h161 =>
                        refine' Zat (i:=10) ?h113 ?h114 ?h115 ?h116
                        case h113 =>
                          exact ZbF.nd
                        case h114 =>
                          rfl
                        case h115 =>
                          first|exact Or.inl rfl|exact Or.inr rfl
                        case h116 =>
                          refine' Zbt ?h112
                          case h112 =>
                            refine' Zaa ?h110 ?h111
                            case h110 =>
                              refine' ZaQ ?h74
                              case h74 =>
                                refine' Zaa ?h72 ?h73
                                case h72 =>
                                  exact Zav
                                case h73 =>
                                  exact Zae
                            case h111 =>
                              refine' Zaa ?h108 ?h109
                              case h108 =>
                                refine' ZaQ ?h77
                                case h77 =>
                                  refine' Zaa ?h75 ?h76
                                  case h75 =>
                                    exact Zav
                                  case h76 =>
                                    exact Zae
                              case h109 =>
                                refine' Zaa ?h106 ?h107
                                case h106 =>
                                  refine' ZaQ ?h80
                                  case h80 =>
                                    refine' Zaa ?h78 ?h79
                                    case h78 =>
                                      exact Zav
                                    case h79 =>
                                      exact Zae
                                case h107 =>
                                  refine' Zaa ?h104 ?h105
                                  case h104 =>
                                    refine' ZaQ ?h83
                                    case h83 =>
                                      refine' Zaa ?h81 ?h82
                                      case h81 =>
                                        exact Zav
                                      case h82 =>
                                        exact Zae
                                  case h105 =>
                                    refine' Zaa ?h102 ?h103
                                    case h102 =>
                                      refine' ZaQ ?h86
                                      case h86 =>
                                        refine' Zaa ?h84 ?h85
                                        case h84 =>
                                          exact Zav
                                        case h85 =>
                                          exact Zae
                                    case h103 =>
                                      refine' Zaa ?h100 ?h101
                                      case h100 =>
                                        refine' ZaQ ?h89
                                        case h89 =>
                                          refine' Zaa ?h87 ?h88
                                          case h87 =>
                                            exact Zav
                                          case h88 =>
                                            exact Zae
                                      case h101 =>
                                        refine' Zaa ?h98 ?h99
                                        case h98 =>
                                          refine' ZaQ ?h92
                                          case h92 =>
                                            refine' Zaa ?h90 ?h91
                                            case h90 =>
                                              exact Zav
                                            case h91 =>
                                              exact Zae
                                        case h99 =>
                                          refine' Zaa ?h96 ?h97
                                          case h96 =>
                                            refine' ZaQ ?h95
                                            case h95 =>
                                              refine' Zaa ?h93 ?h94
                                              case h93 =>
                                                exact Zav
                                              case h94 =>
                                                exact Zae
                                          case h97 =>
                                            exact Zae
                      case h162 =>
                        refine' Zad ?h159 ?h160
                        case h159 =>
                          refine' Zat (i:=10) ?h142 ?h143 ?h144 ?h145
                          case h142 =>
                            exact ZbF.nd
                          case h143 =>
                            rfl
                          case h144 =>
                            first|exact Or.inl rfl|exact Or.inr rfl
                          case h145 =>
                            refine' ZaC ?h139 ?h140 ?h141
                            case h139 =>
                              exact Zf3
                            case h140 =>
                              exact (pv 10)
                            case h141 =>
                              refine' Zbt ?h138
                              case h138 =>
                                refine' Zaa ?h136 ?h137
                                case h136 =>
                                  refine' ZaQ ?h121
                                  case h121 =>
                                    refine' Zaa ?h119 ?h120
                                    case h119 =>
                                      exact Zav
                                    case h120 =>
                                      refine' Zaa ?h117 ?h118
                                      case h117 =>
                                        exact (pv 8)
                                      case h118 =>
                                        exact Zae
                                case h137 =>
                                  refine' Zaa ?h134 ?h135
                                  case h134 =>
                                    refine' ZaQ ?h133
                                    case h133 =>
                                      refine' Zaa ?h131 ?h132
                                      case h131 =>
                                        refine' ZaK ?h127 ?h128 ?h129 ?h130
                                        case h127 =>
                                          exact Zaz
                                        case h128 =>
                                          refine' Zbt ?h126
                                          case h126 =>
                                            refine' Zaa ?h124 ?h125
                                            case h124 =>
                                              exact Zav
                                            case h125 =>
                                              refine' Zaa ?h122 ?h123
                                              case h122 =>
                                                exact Zav
                                              case h123 =>
                                                exact Zae
                                        case h129 =>
                                          exact (ZaC Zbs (ZaG c_Lcell_at (hr.mono (by decide)) rfl (Zaa (pv 0) (Zaa Zag Zae))) Zag)
                                        case h130 =>
                                          exact fun _ _=>rfl
                                      case h132 =>
                                        exact Zae
                                  case h135 =>
                                    exact Zae
                        case h160 =>
                          refine' Zad ?h157 ?h158
                          case h157 =>
                            exact (ZdN (ZcU i_Account (hr.mono (by decide)) rfl (Zaa Zag (Zaa Zag (Zaa (pv 10) Zae)))) (ZfQ (pv 9) (pv 2) Zdc))
                          case h158 =>
                            refine' Zaf ?h156
                            case h156 =>
                              refine' Zar ?h155
                              case h155 =>
                                refine' ZaQ ?h154
                                case h154 =>
                                  refine' Zaa ?h152 ?h153
                                  case h152 =>
                                    exact (pv 9)
                                  case h153 =>
                                    refine' Zaa ?h150 ?h151
                                    case h150 =>
                                      exact (pv 6)
                                    case h151 =>
                                      refine' Zaa ?h148 ?h149
                                      case h148 =>
                                        exact (pv 7)
                                      case h149 =>
                                        refine' Zaa ?h146 ?h147
                                        case h146 =>
                                          exact (pv 8)
                                        case h147 =>
                                          exact Zae
    walk_at "nx"
    repeat walk_at "rdk"
    refine ⟨a,ns,3,rfl,by decide,hS,?_⟩
    repeat walk_at "rdk"
    rw [p64]
    repeat walk_at "rdk"
    refine Zgi (fun σ' H'=>H'=H/\∃ asked:Int,0 <= asked/\σ'=[some (.ref a),some (.int (one:Int)),some (.int (other:Int)),some (.int (caller:Int)),some (.int has),some (.int coin),some (.int asked),none,none,none,none]) ?_ ?_
    . repeat walk_at "rdk"
      refine ⟨a,ns,3,rfl,by decide,hS,?_⟩
      repeat' walk_at "rdk"
      . exact ⟨rfl,_,by omega,rfl⟩
      . exact ⟨rfl,_,by omega,rfl⟩
    rintro σ1 H9 ⟨rfl,asked,hask,rfl⟩
    repeat walk_at "rdk"
    refine ⟨a,ns,4,rfl,by decide,hS,?_⟩
    repeat walk_at "rdk"
    refine ⟨a,ns,5,rfl,by decide,hS,?_⟩
    repeat walk_at "rdk"
    rw [p64]
    generalize cellF ns 4 % 18446744073709551616=word
    generalize cellF ns 5 / 2 % 18446744073709551616=ans
    have uh0:Gw H9 H9 []:=Gw.start
    repeat walk_at "rdk"
    refine ⟨by show 1 <= sizeLine; decide,fun z q_z=>?_⟩
    generalize e_:upd _ z _=uH1; have uh1:=uh0.newE q_z e_; clear e_; repeat walk_at "rdk"
    refine ⟨z,16,[.non],rfl,rfl,uh1.h.1,by decide,by decide,by decide,fun R q_R=>?_⟩
    have nR:=uh1.fresh q_R
    generalize e_:upd _ R _=uH2; have uh2:=uh1.newE q_R e_; clear e_; repeat walk_at "rdk"
    have r0:Rooms K cAccount uH2 R (fun _=>none) (fun _=>⟨0,0,0,[],fun _=>0⟩) 0:=Rooms.empty uh2.h.1 _
    have np0:∀ j y,j < 16->(fun _=>none:Nat->Option AcI) j=some y->y.pr ≠ R:=fun _ _ _ h=>(nomatch h)
    have sB0:=uh2.s
    have v0h0:Gw uH2 uH2 []:=Gw.start
    repeat walk_at "rdk"
    refine ⟨by show 0 <= sizeLine; decide,fun l4 q_l4=>?_⟩
    generalize e_:upd _ l4 _=v0H1; have v0h1:=v0h0.newE q_l4 e_; clear e_; repeat walk_at "rdk"
    intro x4 dx4 hx4 hdx4 hnx4
    have tx4:(upd v0H1 dx4 (.own x4)) x4=none:=by rw [Zak (Ne.symm hnx4)]; exact hx4
    have mx4:Same v0H1 (upd (upd v0H1 dx4 (.own x4)) x4 (.ins cAccount dx4 [])):=(Same.new hdx4).newT tx4
    refine ⟨x4,dx4,l4,1,1,[],[],rfl,Zah,mx4.seq (ZaF v0h1.h.1),RowsAt.keep RowsAt.nil mx4.imm,fun px4 sx4 Ix4 hpx4 hsx4 _ ax4 kx4=>⟨rfl,?_⟩⟩
    have nx4:Same v0H1 Ix4:=fun b o e=>kx4 b o (mx4 _ _ e) (Zam e hx4)
    have gx4:=v0h1.s
    have zx4:=sB0.trans (gx4.trans nx4)
    repeat walk_at "rdk"
    refine Zeh (nx4 _ _ (gx4 _ _ r0.ob)) (Zfc (j:=caller) rfl (by rw [List.length_map,List.length_range]; exact b2)) ?_
    obtain ⟨J1,eJ1,r1,np1,sB1,kB1⟩:=(r0.same gx4).put nR (sB0.trans gx4) (a:=x4) b2 np0 nx4 hx4 (mx4.fresh hpx4) (mx4.fresh hsx4) ax4
    rw [eJ1]
    clear eJ1
    have v1h0:Gw J1 J1 []:=Gw.start
    repeat walk_at "rdk"
    refine ⟨by show 2 <= sizeLine; decide,fun a0 q_a0=>?_⟩
    generalize e_:upd _ a0 _=v1H1; have v1h1:=v1h0.newE q_a0 e_; clear e_; repeat walk_at "rdk"
    refine ⟨by show 2 <= sizeLine; decide,fun a1 q_a1=>?_⟩
    generalize e_:upd _ a1 _=v1H2; have v1h2:=v1h1.newE q_a1 e_; clear e_; repeat walk_at "rdk"
    refine ⟨by show 2 <= sizeLine; decide,fun a2 q_a2=>?_⟩
    generalize e_:upd _ a2 _=v1H3; have v1h3:=v1h2.newE q_a2 e_; clear e_; repeat walk_at "rdk"
    refine ⟨by show 2 <= sizeLine; decide,fun a3 q_a3=>?_⟩
    generalize e_:upd _ a3 _=v1H4; have v1h4:=v1h3.newE q_a3 e_; clear e_; repeat walk_at "rdk"
    refine ⟨by show 1 <= sizeLine; decide,fun a4 q_a4=>?_⟩
    generalize e_:upd _ a4 _=v1H5; have v1h5:=v1h4.newE q_a4 e_; clear e_; repeat walk_at "rdk"
    refine ⟨by show 1 <= sizeLine; decide,fun a5 q_a5=>?_⟩
    generalize e_:upd _ a5 _=v1H6; have v1h6:=v1h5.newE q_a5 e_; clear e_; repeat walk_at "rdk"
    refine ⟨by show 1 <= sizeLine; decide,fun a6 q_a6=>?_⟩
    generalize e_:upd _ a6 _=v1H7; have v1h7:=v1h6.newE q_a6 e_; clear e_; repeat walk_at "rdk"
    refine ⟨by show 7 <= sizeLine; decide,fun la q_la=>?_⟩
    generalize e_:upd _ la _=v1H8; have v1h8:=v1h7.newE q_la e_; clear e_; repeat walk_at "rdk"
    intro x0 dx0 hx0 hdx0 hnx0
    have tx0:(upd v1H8 dx0 (.own x0)) x0=none:=by rw [Zak (Ne.symm hnx0)]; exact hx0
    have mx0:Same v1H8 (upd (upd v1H8 dx0 (.own x0)) x0 (.ins cAccount dx0 [])):=(Same.new hdx0).newT tx0
    refine ⟨x0,dx0,la,has,3,_,(Zcl other coin asked word),rfl,Zah,mx0.seq (ZaF v1h8.h.1),RowsAt.keep (RowsAt.cons ⟨_,rfl,ZaX v1h8.h.2.2.2.2.2.2.2.1⟩ (RowsAt.cons ⟨_,rfl,ZaX v1h8.h.2.2.2.2.2.2.1⟩ (RowsAt.cons ⟨_,rfl,ZaX v1h8.h.2.2.2.2.2.1⟩ (RowsAt.cons ⟨_,rfl,ZaX v1h8.h.2.2.2.2.1⟩ (RowsAt.cons ⟨_,rfl,ZaX v1h8.h.2.2.2.1⟩ (RowsAt.cons ⟨_,rfl,ZaX v1h8.h.2.2.1⟩ (RowsAt.cons ⟨_,rfl,ZaX v1h8.h.2.1⟩ RowsAt.nil))))))) mx0.imm,fun px0 sx0 Ix0 hpx0 hsx0 _ ax0 kx0=>⟨rfl,?_⟩⟩
    have nx0:Same v1H8 Ix0:=fun b o e=>kx0 b o (mx0 _ _ e) (Zam e hx0)
    have gx0:=v1h8.s
    have zx0:=sB1.trans (gx0.trans nx0)
    repeat walk_at "rdk"
    refine Zeh (nx0 _ _ (gx0 _ _ r1.ob)) (Zfc (j:=one) rfl (by rw [List.length_map,List.length_range]; exact b0)) ?_
    obtain ⟨J2,eJ2,r2,np2,sB2,kB2⟩:=(r1.same gx0).put nR (sB1.trans gx0) (a:=x0) b0 np1 nx0 hx0 (mx0.fresh hpx0) (mx0.fresh hsx0) ax0
    rw [eJ2]
    clear eJ2
    have v2h0:Gw J2 J2 []:=Gw.start
    repeat walk_at "rdk"
    refine ⟨by show 1 <= sizeLine; decide,fun e0 q_e0=>?_⟩
    generalize e_:upd _ e0 _=v2H1; have v2h1:=v2h0.newE q_e0 e_; clear e_; repeat walk_at "rdk"
    refine ⟨by show 1 <= sizeLine; decide,fun e1 q_e1=>?_⟩
    generalize e_:upd _ e1 _=v2H2; have v2h2:=v2h1.newE q_e1 e_; clear e_; repeat walk_at "rdk"
    refine ⟨by show 1 <= sizeLine; decide,fun e2 q_e2=>?_⟩
    generalize e_:upd _ e2 _=v2H3; have v2h3:=v2h2.newE q_e2 e_; clear e_; repeat walk_at "rdk"
    refine ⟨by show 1 <= sizeLine; decide,fun e3 q_e3=>?_⟩
    generalize e_:upd _ e3 _=v2H4; have v2h4:=v2h3.newE q_e3 e_; clear e_; repeat walk_at "rdk"
    refine ⟨by show 1 <= sizeLine; decide,fun e4 q_e4=>?_⟩
    generalize e_:upd _ e4 _=v2H5; have v2h5:=v2h4.newE q_e4 e_; clear e_; repeat walk_at "rdk"
    refine ⟨by show 1 <= sizeLine; decide,fun e5 q_e5=>?_⟩
    generalize e_:upd _ e5 _=v2H6; have v2h6:=v2h5.newE q_e5 e_; clear e_; repeat walk_at "rdk"
    refine ⟨by show 1 <= sizeLine; decide,fun e6 q_e6=>?_⟩
    generalize e_:upd _ e6 _=v2H7; have v2h7:=v2h6.newE q_e6 e_; clear e_; repeat walk_at "rdk"
    refine ⟨by show 1 <= sizeLine; decide,fun e7 q_e7=>?_⟩
    generalize e_:upd _ e7 _=v2H8; have v2h8:=v2h7.newE q_e7 e_; clear e_; repeat walk_at "rdk"
    refine ⟨by show 8 <= sizeLine; decide,fun lb q_lb=>?_⟩
    generalize e_:upd _ lb _=v2H9; have v2h9:=v2h8.newE q_lb e_; clear e_; repeat walk_at "rdk"
    refine ⟨by show 2 <= sizeLine; decide,fun e8 q_e8=>?_⟩
    generalize e_:upd _ e8 _=v2H10; have v2h10:=v2h9.newE q_e8 e_; clear e_; repeat walk_at "rdk"
    refine ⟨by show 2 <= sizeLine; decide,fun gf q_gf=>?_⟩
    generalize e_:upd _ gf _=v2H11; have v2h11:=v2h10.newE q_gf e_; clear e_; repeat walk_at "rdk"
    refine ⟨a,ns,5,rfl,by decide,((sB2.trans v2h11.s).seq hS),?_⟩
    repeat walk_at "rdk"
    refine Za7 (ZaF v2h11.h.1) (gf_at _) ?_
    repeat walk_at "rdk"
    refine ⟨by show 1 <= sizeLine; decide,fun e9 q_e9=>?_⟩
    generalize e_:upd _ e9 _=v2H12; have v2h12:=v2h11.newE q_e9 e_; clear e_; repeat walk_at "rdk"
    refine ⟨by show 2 <= sizeLine; decide,fun lc q_lc=>?_⟩
    generalize e_:upd _ lc _=v2H13; have v2h13:=v2h12.newE q_lc e_; clear e_; repeat walk_at "rdk"
    refine Zgd v2h13.h.2.2.2.2.1 v2h13.h.1 (by simp only [List.length_append,List.length_cons,List.length_nil]; decide) fun ld q_ld=>?_
    generalize e_:upd _ ld _=v2H14; have v2h14:=v2h13.newE q_ld e_; clear e_; repeat walk_at "rdk"
    intro x1 dx1 hx1 hdx1 hnx1
    have tx1:(upd v2H14 dx1 (.own x1)) x1=none:=by rw [Zak (Ne.symm hnx1)]; exact hx1
    have mx1:Same v2H14 (upd (upd v2H14 dx1 (.own x1)) x1 (.ins cAccount dx1 [])):=(Same.new hdx1).newT tx1
    refine ⟨x1,dx1,ld,5,3,_,(prog35 ans (if cellF ns 5 % 2=0 then "give" else "fail")),rfl,Zah,mx1.seq (ZaF v2h14.h.1),RowsAt.keep (RowsAt.cons ⟨_,rfl,ZaX v2h14.h.2.2.2.2.2.2.2.2.2.2.2.2.2.1⟩ (RowsAt.cons ⟨_,rfl,ZaX v2h14.h.2.2.2.2.2.2.2.2.2.2.2.2.1⟩ (RowsAt.cons ⟨_,rfl,ZaX v2h14.h.2.2.2.2.2.2.2.2.2.2.2.1⟩ (RowsAt.cons ⟨_,rfl,ZaX v2h14.h.2.2.2.2.2.2.2.2.2.2.1⟩ (RowsAt.cons ⟨_,rfl,ZaX v2h14.h.2.2.2.2.2.2.2.2.2.1⟩ (RowsAt.cons ⟨_,rfl,ZaX v2h14.h.2.2.2.2.2.2.2.2.1⟩ (RowsAt.cons ⟨_,rfl,ZaX v2h14.h.2.2.2.2.2.2.2.1⟩ (RowsAt.cons ⟨_,rfl,ZaX v2h14.h.2.2.2.2.2.2.1⟩ (RowsAt.cons ⟨_,rfl,ZaX v2h14.h.2.2.2.2.1⟩ (RowsAt.cons ⟨_,rfl,ZaX v2h14.h.2.2.1⟩ RowsAt.nil)))))))))) mx1.imm,fun px1 sx1 Ix1 hpx1 hsx1 _ ax1 kx1=>⟨rfl,?_⟩⟩
    have nx1:Same v2H14 Ix1:=fun b o e=>kx1 b o (mx1 _ _ e) (Zam e hx1)
    have gx1:=v2h14.s
    have zx1:=sB2.trans (gx1.trans nx1)
    repeat walk_at "rdk"
    refine Zeh (nx1 _ _ (gx1 _ _ r2.ob)) (Zfc (j:=other) rfl (by rw [List.length_map,List.length_range]; exact b1)) ?_
    obtain ⟨J3,eJ3,r3,np3,sB3,kB3⟩:=(r2.same gx1).put nR (sB2.trans gx1) (a:=x1) b1 np2 nx1 hx1 (mx1.fresh hpx1) (mx1.fresh hsx1) ax1
    rw [eJ3]
    clear eJ3
    have v3h0:Gw J3 J3 []:=Gw.start
    repeat walk_at "rdk"
    refine ⟨by show 4 <= sizeLine; decide,fun TT q_TT=>?_⟩
    generalize e_:upd _ TT _=v3H1; have v3h1:=v3h0.newE q_TT e_; clear e_; repeat walk_at "rdk"
    refine k TT R asked word ans _ _ ⟨x0,dx0,px0,sx0⟩ ⟨x1,dx1,px1,sx1⟩ _ (sB3.trans v3h1.s) v3h1.h.1 hask (r3.same v3h1.s) ⟨by rw [ZmE _ _ n01,ZgQ],by rw [ZgQ],b0,b1,by rw [ZcB]⟩ (by rw [ZjJ _ _ n01,ZcB]) (by rw [ZjJ _ _ n01,ZcB]) (by rw [ZcB]) (fun i q=>?_)
    unfold setS
    repeat (split <;> try rfl)
end
noncomputable def innV (one other:Nat) (coin word g:Int) (e1:Str) (a1 u:Int) (SP:Addr):List V:=[.str "call", .int (other:Int),.int (other:Int),.int (one:Int),.int coin,.int word,.int g,.str e1,.int a1,.int u,.ref SP]
noncomputable def innD (one other:Nat) (coin word g:Int) (e1:Str) (a1:Int) (m:Nat):Dt:=.tup [.str "call", .int (other:Int),.int (other:Int),.int (one:Int),.int coin,.int word,.int g,.str e1,.int a1,.int (cum35 m),.lst ((mvI other coin one).map tellD ++ ZaO one other coin word m)]
noncomputable def InR (m:Nat) (good:Bool) (ans:Int) (e1:Str) (a1:Int):Prop:=(m < 10/\e1 = "dry" /\ a1=0)\/(m=10/\good=false/\e1 = "fail" /\ a1=ans)\/(m=10/\good=true/\e1 = "well" /\ a1=ans)
noncomputable def Zbp (one other:Nat) (coin word:Int) (e1:Str):List Dd:=if e1 = "well" then mvI other coin one ++ Zc7 one other coin word else []
noncomputable def ZgS (K:PySem.W.Frag):Sp:=fun vs H Q _=>∃ (one other:Nat) (coin word ans:Int) (good:Bool) (g:Int),vs=[.int (one:Int),.int (other:Int),.int coin,.int word,.int ans,.bl good,.int g]/\0 <= g /\
  ∀ (m:Nat) (e1:Str) (a1:Int) (t T SL SP:Addr) (xs:List V) (H':Hp),m <= 10->cum35 m <= g->(m < 10->g < cum35 (m + 1))->InR m good ans e1 a1->Same H H'->H t=none->H' t=some (.tup [.ref T,.ref SL])->H' T=some (.tup (innV one other coin word g e1 a1 (cum35 m) SP))->DV K H' (innD one other coin word g e1 a1 m) (.ref T)->H' SL=some (.lst xs)->DVs K H' ((Zbp one other coin word e1).map tellD) xs->xs.length <= 5->Q (.ref t) H'
theorem ZaM {K:PySem.W.Frag} {H:Hp} {a:Addr} {d:Dd} (h:H a=some (.tup (tellV d))):DV K H (tellD d) (.ref a):=ZcS (ZaX h) (Zfv d)
theorem ZiO {K:PySem.W.Frag} {H:Hp} {one other:Nat} {coin word:Int} {d0 d1 d2 d3:Addr} (h0:H d0=some (.tup (tellV (.note (other:Int) word)))) (h1:H d1=some (.tup (tellV (.note (other:Int) (one:Int))))) (h2:H d2=some (.tup (tellV (.note (other:Int) coin)))) (h3:H d3=some (.tup (tellV (.note (other:Int) (other:Int))))):∀ m:Nat,m <= 10->DVs K H (ZaO one other coin word m) (stepsV35 (.ref d0) (.ref d1) (.ref d2) (.ref d3) m)
  | 0,_=>ZaH
  | 1,_=>(Zab Zaj ZaH)
  | 2,_=>(Zab Zaj (Zab Zaj (Zab (ZaM h0) ZaH)))
  | 3,_=>(Zab Zaj (Zab Zaj (Zab (ZaM h0) (Zab Zaj ZaH))))
  | 4,_=>(Zab Zaj (Zab Zaj (Zab (ZaM h0) (Zab Zaj (Zab Zaj (Zab (ZaM h1) ZaH))))))
  | 5,_=>(Zab Zaj (Zab Zaj (Zab (ZaM h0) (Zab Zaj (Zab Zaj (Zab (ZaM h1) (Zab Zaj ZaH)))))))
  | 6,_=>(Zab Zaj (Zab Zaj (Zab (ZaM h0) (Zab Zaj (Zab Zaj (Zab (ZaM h1) (Zab Zaj (Zab Zaj (Zab (ZaM h2) ZaH)))))))))
  | 7,_=>(Zab Zaj (Zab Zaj (Zab (ZaM h0) (Zab Zaj (Zab Zaj (Zab (ZaM h1) (Zab Zaj (Zab Zaj (Zab (ZaM h2) (Zab Zaj ZaH))))))))))
  | 8,_=>(Zab Zaj (Zab Zaj (Zab (ZaM h0) (Zab Zaj (Zab Zaj (Zab (ZaM h1) (Zab Zaj (Zab Zaj (Zab (ZaM h2) (Zab Zaj (Zab Zaj (Zab (ZaM h3) ZaH))))))))))))
  | 9,_=>(Zab Zaj (Zab Zaj (Zab (ZaM h0) (Zab Zaj (Zab Zaj (Zab (ZaM h1) (Zab Zaj (Zab Zaj (Zab (ZaM h2) (Zab Zaj (Zab Zaj (Zab (ZaM h3) (Zab Zaj ZaH)))))))))))))
  | 10,_=>(Zab Zaj (Zab Zaj (Zab (ZaM h0) (Zab Zaj (Zab Zaj (Zab (ZaM h1) (Zab Zaj (Zab Zaj (Zab (ZaM h2) (Zab Zaj (Zab Zaj (Zab (ZaM h3) (Zab Zaj (Zab Zaj ZaH))))))))))))))
  | _ + 11,h=>absurd h (by omega)
section
variable {P:Program} {w:World} {K:PySem.W.Frag} {mg:Str->Option Value} {base:Heap}
theorem ZbN:FnScope ["_law_one", "_law_other", "_law_coin", "_law_word", "_law_answer", "_law_good", "_law_given", "_law_many", "_law_used", "_law_deeds", "_law_moves", "_law_asks", "_law_steps_here"] ["_law_one", "_law_other", "_law_coin", "_law_word", "_law_answer", "_law_good", "_law_given"] (Zac Zfm):=⟨rfl,rfl,rfl,by decide +kernel,rfl,by decide +kernel,by decide +kernel⟩
theorem Zj6    (D:Zaq K mg "_law_inner" Zfm) (c_Lrows_gone:Cal P w K mg base 1 "_law_rows_gone" spGone) (c_Lsteps:Cal P w K mg base 1 "_law_steps" (ZgP K)):Cal P w K mg base 2 "_law_inner" (ZgS K):=by
  refine ZaA (N:=["_law_one", "_law_other", "_law_coin", "_law_word", "_law_answer", "_law_good", "_law_given", "_law_many", "_law_used", "_law_deeds", "_law_moves", "_law_asks", "_law_steps_here"]) (ps:=["_law_one", "_law_other", "_law_coin", "_law_word", "_law_answer", "_law_good", "_law_given"]) D ZbN (fun vs H Q E h=>?_) (fun _ _ _ _ _ _ us hl=>bd7 (R:=fun us=>bindArgs _ ⟨us,[]⟩=pure (List.zip _ us)) (fun _ _ _ _ _ _ _=>rfl) us hl) (fun f cdv A outer s H vs Q E hr h=>?_)
  . obtain ⟨one,other,coin,word,ans,good,g,rfl,_⟩:=h; rfl
  . obtain ⟨one,other,coin,word,ans,good,g,rfl,hg,k⟩:=h
    refine' ⟨_,?der,?_⟩
    case der =>
      refine' Zad ?h344 ?h345
      case h344 =>
        refine' ZdN ?h184 ?h185
        case h184 =>
          refine' ZaG c_Lrows_gone (hr.mono (by decide)) rfl ?h183
          case h183 =>
            refine' Zaa ?h181 ?h182
            case h181 =>
              refine' Zbt ?h180
              case h180 =>
                refine' pa_cV (vs:=[.int 1,.int 4,.int 1,.int 4,.int 1,.int 4,.int 1,.int 4,.int 1,.int 1]) ?h179
                case h179 =>
                  rfl
            case h182 =>
              exact (Zaa (pv 6) Zae)
        case h185 =>
          exact (ZiU (n:=2) rfl (Zb1 (ZbH (i:=7) ZbN.nd rfl (by first|exact Or.inl rfl|exact Or.inr rfl)) (Zb1 (ZbH (i:=8) ZbN.nd rfl (by first|exact Or.inl rfl|exact Or.inr rfl)) ZgY)))
      case h345 =>
        refine' Zad ?h342 ?h343
        case h342 =>
          refine' Zat (i:=9) ?h223 ?h224 ?h225 ?h226
          case h223 =>
            exact ZbN.nd
          case h224 =>
            rfl
          case h225 =>
            first|exact Or.inl rfl|exact Or.inr rfl
          case h226 =>
            refine' Zbt ?h222
            case h222 =>
              refine' Zaa ?h220 ?h221
              case h220 =>
                refine' ZaQ ?h192
                case h192 =>
                  refine' Zaa ?h190 ?h191
                  case h190 =>
                    exact Zav
                  case h191 =>
                    refine' Zaa ?h188 ?h189
                    case h188 =>
                      exact (pv 1)
                    case h189 =>
                      refine' Zaa ?h186 ?h187
                      case h186 =>
                        exact (pv 3)
                      case h187 =>
                        exact Zae
              case h221 =>
                refine' Zaa ?h218 ?h219
                case h218 =>
                  refine' ZaQ ?h199
                  case h199 =>
                    refine' Zaa ?h197 ?h198
                    case h197 =>
                      exact Zav
                    case h198 =>
                      refine' Zaa ?h195 ?h196
                      case h195 =>
                        exact (pv 1)
                      case h196 =>
                        refine' Zaa ?h193 ?h194
                        case h193 =>
                          exact (pv 0)
                        case h194 =>
                          exact Zae
                case h219 =>
                  refine' Zaa ?h216 ?h217
                  case h216 =>
                    refine' ZaQ ?h206
                    case h206 =>
                      refine' Zaa ?h204 ?h205
                      case h204 =>
                        exact Zav
                      case h205 =>
                        refine' Zaa ?h202 ?h203
                        case h202 =>
                          exact (pv 1)
                        case h203 =>
                          refine' Zaa ?h200 ?h201
                          case h200 =>
                            exact (pv 2)
                          case h201 =>
                            exact Zae
                  case h217 =>
                    refine' Zaa ?h214 ?h215
                    case h214 =>
                      refine' ZaQ ?h213
                      case h213 =>
                        refine' Zaa ?h211 ?h212
                        case h211 =>
                          exact Zav
                        case h212 =>
                          refine' Zaa ?h209 ?h210
                          case h209 =>
                            exact (pv 1)
                          case h210 =>
                            refine' Zaa ?h207 ?h208
                            case h207 =>
                              exact (pv 1)
                            case h208 =>
                              exact Zae
                    case h215 =>
                      exact Zae
        case h343 =>
          refine' Zad ?h340 ?h341
          case h340 =>
            exact (Zat (i:=10) ZbN.nd rfl (by first|exact Or.inl rfl|exact Or.inr rfl) (Zbt Zae))
          case h341 =>
            refine' Zad ?h338 ?h339
            case h338 =>
              refine' Zgj ?h247
              case h247 =>
                refine' Zbi ?h244 ?h245 ?h246
                case h244 =>
                  exact (ZaD Ze5 (pv 2) Zag (nomark _))
                case h245 =>
                  refine' Zaf ?h243
                  case h243 =>
                    refine' Zat (i:=10) ?h239 ?h240 ?h241 ?h242
                    case h239 =>
                      exact ZbN.nd
                    case h240 =>
                      rfl
                    case h241 =>
                      first|exact Or.inl rfl|exact Or.inr rfl
                    case h242 =>
                      refine' Zbt ?h238
                      case h238 =>
                        refine' Zaa ?h236 ?h237
                        case h236 =>
                          refine' ZaQ ?h235
                          case h235 =>
                            refine' Zaa ?h233 ?h234
                            case h233 =>
                              exact Zav
                            case h234 =>
                              refine' Zaa ?h231 ?h232
                              case h231 =>
                                exact (pv 0)
                              case h232 =>
                                refine' Zaa ?h229 ?h230
                                case h229 =>
                                  exact (pv 1)
                                case h230 =>
                                  refine' Zaa ?h227 ?h228
                                  case h227 =>
                                    exact (pv 2)
                                  case h228 =>
                                    exact Zae
                        case h237 =>
                          exact Zae
                case h246 =>
                  exact ZaJ
            case h339 =>
              refine' Zad ?h336 ?h337
              case h336 =>
                refine' Zat (i:=11) ?h263 ?h264 ?h265 ?h266
                case h263 =>
                  exact ZbN.nd
                case h264 =>
                  rfl
                case h265 =>
                  first|exact Or.inl rfl|exact Or.inr rfl
                case h266 =>
                  refine' ZaQ ?h262
                  case h262 =>
                    refine' Zaa ?h260 ?h261
                    case h260 =>
                      exact Zav
                    case h261 =>
                      refine' Zaa ?h258 ?h259
                      case h258 =>
                        exact (pv 1)
                      case h259 =>
                        refine' Zaa ?h256 ?h257
                        case h256 =>
                          exact (pv 1)
                        case h257 =>
                          refine' Zaa ?h254 ?h255
                          case h254 =>
                            exact (pv 0)
                          case h255 =>
                            refine' Zaa ?h252 ?h253
                            case h252 =>
                              exact (pv 2)
                            case h253 =>
                              refine' Zaa ?h250 ?h251
                              case h250 =>
                                exact (pv 3)
                              case h251 =>
                                refine' Zaa ?h248 ?h249
                                case h248 =>
                                  exact (pv 6)
                                case h249 =>
                                  exact Zae
              case h337 =>
                refine' Zad ?h334 ?h335
                case h334 =>
                  exact (Zat (i:=12) ZbN.nd rfl (by first|exact Or.inl rfl|exact Or.inr rfl) (ZaC Zf3 (pv 10) (ZaG c_Lsteps (hr.mono (by decide)) rfl (Zaa (pv 9) (Zaa (pv 7) Zae)))))
                case h335 =>
                  refine' Zad ?h332 ?h333
                  case h332 =>
                    refine' Zbi ?h286 ?h287 ?h288
                    case h286 =>
                      exact (ZaD ZfS (pv 7) Zag (nomark _))
                    case h287 =>
                      refine' Zaf ?h285
                      case h285 =>
                        refine' Zar ?h284
                        case h284 =>
                          refine' ZaQ ?h283
                          case h283 =>
                            refine' Zaa ?h281 ?h282
                            case h281 =>
                              refine' ZaC ?h276 ?h277 ?h278
                              case h276 =>
                                exact Zg1
                              case h277 =>
                                exact (pv 11)
                              case h278 =>
                                refine' ZaQ ?h275
                                case h275 =>
                                  refine' Zaa ?h273 ?h274
                                  case h273 =>
                                    exact Zav
                                  case h274 =>
                                    refine' Zaa ?h271 ?h272
                                    case h271 =>
                                      exact Zag
                                    case h272 =>
                                      refine' Zaa ?h269 ?h270
                                      case h269 =>
                                        exact (pv 8)
                                      case h270 =>
                                        refine' Zaa ?h267 ?h268
                                        case h267 =>
                                          exact (pv 12)
                                        case h268 =>
                                          exact Zae
                            case h282 =>
                              refine' Zaa ?h279 ?h280
                              case h279 =>
                                exact (Zbt Zae)
                              case h280 =>
                                exact Zae
                    case h288 =>
                      exact ZaJ
                  case h333 =>
                    refine' Zad ?h330 ?h331
                    case h330 =>
                      refine' Zbi ?h308 ?h309 ?h310
                      case h308 =>
                        exact (ZeT (Zb6 (pv 5)))
                      case h309 =>
                        refine' Zaf ?h307
                        case h307 =>
                          refine' Zar ?h306
                          case h306 =>
                            refine' ZaQ ?h305
                            case h305 =>
                              refine' Zaa ?h303 ?h304
                              case h303 =>
                                refine' ZaC ?h298 ?h299 ?h300
                                case h298 =>
                                  exact Zg1
                                case h299 =>
                                  exact (pv 11)
                                case h300 =>
                                  refine' ZaQ ?h297
                                  case h297 =>
                                    refine' Zaa ?h295 ?h296
                                    case h295 =>
                                      exact Zav
                                    case h296 =>
                                      refine' Zaa ?h293 ?h294
                                      case h293 =>
                                        exact (pv 4)
                                      case h294 =>
                                        refine' Zaa ?h291 ?h292
                                        case h291 =>
                                          exact (pv 8)
                                        case h292 =>
                                          refine' Zaa ?h289 ?h290
                                          case h289 =>
                                            exact (pv 12)
                                          case h290 =>
                                            exact Zae
                              case h304 =>
                                refine' Zaa ?h301 ?h302
                                case h301 =>
                                  exact (Zbt Zae)
                                case h302 =>
                                  exact Zae
                      case h310 =>
                        exact ZaJ
                    case h331 =>
                      refine' Zaf ?h329
                      case h329 =>
                        refine' Zar ?h328
                        case h328 =>
                          refine' ZaQ ?h327
                          case h327 =>
                            refine' Zaa ?h325 ?h326
                            case h325 =>
                              refine' ZaC ?h320 ?h321 ?h322
                              case h320 =>
                                exact Zg1
                              case h321 =>
                                exact (pv 11)
                              case h322 =>
                                refine' ZaQ ?h319
                                case h319 =>
                                  refine' Zaa ?h317 ?h318
                                  case h317 =>
                                    exact Zav
                                  case h318 =>
                                    refine' Zaa ?h315 ?h316
                                    case h315 =>
                                      exact (pv 4)
                                    case h316 =>
                                      refine' Zaa ?h313 ?h314
                                      case h313 =>
                                        exact (pv 8)
                                      case h314 =>
                                        refine' Zaa ?h311 ?h312
                                        case h311 =>
                                          exact (pv 12)
                                        case h312 =>
                                          exact Zae
                            case h326 =>
                              refine' Zaa ?h323 ?h324
                              case h323 =>
                                exact (ZaC Zf3 (pv 10) (pv 9))
                              case h324 =>
                                exact Zae
    walk_at "nx"
    have uh0:Gw H H []:=Gw.start
    repeat walk_at "rdk"
    refine ⟨by show 10 <= sizeLine; decide,fun P q_P=>?_⟩
    generalize e_:upd _ P _=uH1; have uh1:=uh0.newE q_P e_; clear e_; repeat walk_at "rdk"
    refine ⟨P,g,rfl,uh1.h.1,hg,fun m t1 H5 hm hc1 hc2 s5 q_t1 et1=>?_⟩
    have sA:=uh1.s.trans s5
    repeat walk_at "rdk"
    try (refine rd_tup2 ?_)
    have vh0:Gw H5 H5 []:=Gw.start
    try (refine ⟨t1,_,rfl,ZaX et1,rfl,?_⟩)
    repeat walk_at "rdk"
    refine ⟨by show 3 <= sizeLine; decide,fun d0 q_d0=>?_⟩
    generalize e_:upd _ d0 _=vH1; have vh1:=vh0.newE q_d0 e_; clear e_; repeat walk_at "rdk"
    refine ⟨by show 3 <= sizeLine; decide,fun d1 q_d1=>?_⟩
    generalize e_:upd _ d1 _=vH2; have vh2:=vh1.newE q_d1 e_; clear e_; repeat walk_at "rdk"
    refine ⟨by show 3 <= sizeLine; decide,fun d2 q_d2=>?_⟩
    generalize e_:upd _ d2 _=vH3; have vh3:=vh2.newE q_d2 e_; clear e_; repeat walk_at "rdk"
    refine ⟨by show 3 <= sizeLine; decide,fun d3 q_d3=>?_⟩
    generalize e_:upd _ d3 _=vH4; have vh4:=vh3.newE q_d3 e_; clear e_; repeat walk_at "rdk"
    refine ⟨by show 4 <= sizeLine; decide,fun DL q_DL=>?_⟩
    generalize e_:upd _ DL _=vH5; have vh5:=vh4.newE q_DL e_; clear e_; repeat walk_at "rdk"
    refine ⟨by show 0 <= sizeLine; decide,fun M0 q_M0=>?_⟩
    generalize e_:upd _ M0 _=vH6; have vh6:=vh5.newE q_M0 e_; clear e_; repeat walk_at "rdk"
    refine Zgi (fun σ' H'=>∃ ML mvs,Same vH6 H'/\H' ML=some (.lst mvs)/\DVs K H' ((mvI other coin one).map tellD) mvs/\mvs.length <= 1/\σ'=[some (.int (one:Int)),some (.int (other:Int)),some (.int coin),some (.int word),some (.int ans),some (.bl good),some (.int g),some (.int (m:Int)),some (.int (cum35 m)),some (.ref DL),some (.ref ML),none,none]) ?_ ?_
    . repeat' walk_at "rdk"
      . rename_i hpos
        have z0:Gw vH6 vH6 []:=Gw.start
        refine ⟨by show 4 <= sizeLine; decide,fun mt q_mt=>?_⟩
        generalize e_:upd _ mt _=Z1; have z1:=z0.newE q_mt e_; clear e_; repeat walk_at "rdk"
        refine ⟨by show 1 <= sizeLine; decide,fun ML q_ML=>?_⟩
        generalize e_:upd _ ML _=Z2; have z2:=z1.newE q_ML e_; clear e_; repeat walk_at "rdk"
        refine ⟨ML,_,z2.s,z2.h.1,?_,Nat.le_refl _,rfl⟩
        unfold mvI
        rw [if_pos hpos]
        exact Zab (ZaM z2.h.2.1) ZaH
      . rename_i hpos
        refine ⟨M0,_,Same.refl _,vh6.h.1,?_,Nat.zero_le _,rfl⟩
        unfold mvI
        rw [if_neg hpos]
        exact ZaH
    rintro σ1 HM ⟨ML,mvs,sM,eML,dvM,lmv,rfl⟩
    have gDL:=sM _ _ vh6.h.2.1
    have gd0:=sM _ _ vh6.h.2.2.2.2.2.1
    have gd1:=sM _ _ vh6.h.2.2.2.2.1
    have gd2:=sM _ _ vh6.h.2.2.2.1
    have gd3:=sM _ _ vh6.h.2.2.1
    have sC:=sA.trans (vh6.s.trans sM)
    have wh0:Gw HM HM []:=Gw.start
    repeat walk_at "rdk"
    refine ⟨by show 7 <= sizeLine; decide,fun AS q_AS=>?_⟩
    generalize e_:upd _ AS _=wH1; have wh1:=wh0.newE q_AS e_; clear e_; repeat walk_at "rdk"
    refine ⟨DL,_,_,_,_,m,rfl,wh1.s _ _ gDL,hm,fun SQ HQ sQ q_SQ eSQ=>?_⟩
    have wq:=(wh1.same sQ).add eSQ
    have yh0:Gw HQ HQ []:=Gw.start
    have hl14:=len35 (.ref d0) (.ref d1) (.ref d2) (.ref d3) m
    repeat walk_at "rdk"
    refine Zgd (wq.s _ _ eML) wq.h.1 (Nat.le_trans (Nat.add_le_add lmv hl14) (by show 1 + 14 <= sizeLine; decide)) fun SP q_SP=>?_
    generalize e_:upd _ SP _=yH1; have yh1:=yh0.newE q_SP e_; clear e_
    have fAS:=yh1.s _ _ wq.h.2.1
    have dvS:DVs K yH1 ((mvI other coin one).map tellD ++ ZaO one other coin word m) (mvs ++ stepsV35 (.ref d0) (.ref d1) (.ref d2) (.ref d3) m):=ZeH ((dvM.keep wq.s).keep yh1.s) (ZiO (yh1.s _ _ (wq.s _ _ gd0)) (yh1.s _ _ (wq.s _ _ gd1)) (yh1.s _ _ (wq.s _ _ gd2)) (yh1.s _ _ (wq.s _ _ gd3)) m hm)
    have fSP:=yh1.h.1
    have fML:=yh1.s _ _ (wq.s _ _ eML)
    have fDL:=yh1.s _ _ (wq.s _ _ gDL)
    have fd0:=yh1.s _ _ (wq.s _ _ gd0)
    have fd1:=yh1.s _ _ (wq.s _ _ gd1)
    have fd2:=yh1.s _ _ (wq.s _ _ gd2)
    have fd3:=yh1.s _ _ (wq.s _ _ gd3)
    have fM:=(dvM.keep wq.s).keep yh1.s
    have sE:=sC.trans (wq.s.trans yh1.s)
    clear eSQ eML gDL gd0 gd1 gd2 gd3 dvM wq
    have b0:Gw yH1 yH1 []:=Gw.start
    by_cases hlt:m < 10
    . repeat walk_at "rdz"
      all_goals try (exfalso; omega)
      refine ⟨by show 4 <= sizeLine; decide,fun Q1 q_Q1=>?_⟩
      generalize e_:upd _ Q1 _=B1; have b1:=b0.newE q_Q1 e_; clear e_; repeat walk_at "rdk"
      refine ZhR (ZaX (b1.s _ _ fAS)) (ZaX b1.h.1) (by intro z; cases z) (by intro z; cases z) (by show 7 + 4 <= sizeLine; decide) fun TT q_TT=>?_
      generalize e_:upd _ TT _=B2; have b2:=b1.newE q_TT e_; clear e_; repeat walk_at "rdk"
      refine ⟨by show 0 <= sizeLine; decide,fun SL q_SL=>?_⟩
      generalize e_:upd _ SL _=B3; have b3:=b2.newE q_SL e_; clear e_; repeat walk_at "rdk"
      refine ⟨by show 2 <= sizeLine; decide,fun RT q_RT=>?_⟩
      generalize e_:upd _ RT _=B4; have b4:=b3.newE q_RT e_; clear e_; repeat walk_at "rdk"
      exact k m "dry" 0 RT TT SL SP [] _ hm hc1 hc2 (.inl ⟨hlt,rfl,rfl⟩) (sE.trans b4.s) (sE.fresh (b3.fresh q_RT)) b4.h.1 b4.h.2.2.1 (ZcS (ZaX b4.h.2.2.1) (Zab ZbT (Zab Zaj (Zab Zaj (Zab Zaj (Zab Zaj (Zab Zaj (Zab Zaj (Zab ZbT (Zab Zaj (Zab Zaj (Zab (Zei (ZaF (b4.s _ _ fSP)) (dvS.keep b4.s)) ZaH)))))))))))) b4.h.2.1 (by rw [show Zbp one other coin word "dry" = [] from if_neg (by decide)]; exact ZaH) (by decide)
    . obtain rfl:m=10:=by omega
      cases good with
      | false =>
        repeat walk_at "rdz"
        all_goals try (exfalso; omega)
        refine ⟨by show 4 <= sizeLine; decide,fun Q1 q_Q1=>?_⟩
        generalize e_:upd _ Q1 _=B1; have b1:=b0.newE q_Q1 e_; clear e_; repeat walk_at "rdk"
        refine ZhR (ZaX (b1.s _ _ fAS)) (ZaX b1.h.1) (by intro z; cases z) (by intro z; cases z) (by show 7 + 4 <= sizeLine; decide) fun TT q_TT=>?_
        generalize e_:upd _ TT _=B2; have b2:=b1.newE q_TT e_; clear e_; repeat walk_at "rdk"
        refine ⟨by show 0 <= sizeLine; decide,fun SL q_SL=>?_⟩
        generalize e_:upd _ SL _=B3; have b3:=b2.newE q_SL e_; clear e_; repeat walk_at "rdk"
        refine ⟨by show 2 <= sizeLine; decide,fun RT q_RT=>?_⟩
        generalize e_:upd _ RT _=B4; have b4:=b3.newE q_RT e_; clear e_; repeat walk_at "rdk"
        exact k 10 "fail" ans RT TT SL SP [] _ hm hc1 hc2 (.inr (.inl ⟨rfl,rfl,rfl,rfl⟩)) (sE.trans b4.s) (sE.fresh (b3.fresh q_RT)) b4.h.1 b4.h.2.2.1 (ZcS (ZaX b4.h.2.2.1) (Zab ZbT (Zab Zaj (Zab Zaj (Zab Zaj (Zab Zaj (Zab Zaj (Zab Zaj (Zab ZbT (Zab Zaj (Zab Zaj (Zab (Zei (ZaF (b4.s _ _ fSP)) (dvS.keep b4.s)) ZaH)))))))))))) b4.h.2.1 (by rw [show Zbp one other coin word "fail" = [] from if_neg (by decide)]; exact ZaH) (by decide)
      | true =>
        repeat walk_at "rdz"
        all_goals try (exfalso; omega)
        refine ⟨by show 4 <= sizeLine; decide,fun Q1 q_Q1=>?_⟩
        generalize e_:upd _ Q1 _=B1; have b1:=b0.newE q_Q1 e_; clear e_; repeat walk_at "rdk"
        refine ZhR (ZaX (b1.s _ _ fAS)) (ZaX b1.h.1) (by intro z; cases z) (by intro z; cases z) (by show 7 + 4 <= sizeLine; decide) fun TT q_TT=>?_
        generalize e_:upd _ TT _=B2; have b2:=b1.newE q_TT e_; clear e_; repeat walk_at "rdk"
        refine Zgd (b2.s _ _ fML) (b2.s _ _ fDL) (Nat.le_trans (Nat.add_le_add_right lmv _) (by show 1 + 4 <= sizeLine; decide)) fun SL q_SL=>?_
        generalize e_:upd _ SL _=B3; have b3:=b2.newE q_SL e_; clear e_; repeat walk_at "rdk"
        refine ⟨by show 2 <= sizeLine; decide,fun RT q_RT=>?_⟩
        generalize e_:upd _ RT _=B4; have b4:=b3.newE q_RT e_; clear e_; repeat walk_at "rdk"
        exact k 10 "well" ans RT TT SL SP _ _ hm hc1 hc2 (.inr (.inr ⟨rfl,rfl,rfl,rfl⟩)) (sE.trans b4.s) (sE.fresh (b3.fresh q_RT)) b4.h.1 b4.h.2.2.1 (ZcS (ZaX b4.h.2.2.1) (Zab ZbT (Zab Zaj (Zab Zaj (Zab Zaj (Zab Zaj (Zab Zaj (Zab Zaj (Zab ZbT (Zab Zaj (Zab Zaj (Zab (Zei (ZaF (b4.s _ _ fSP)) (dvS.keep b4.s)) ZaH)))))))))))) b4.h.2.1 (by rw [show Zbp one other coin word "well" = mvI other coin one ++ Zc7 one other coin word from if_pos rfl,List.map_append]; exact ZeH (fM.keep b4.s) ((Zab (ZaM (b4.s _ _ fd0)) (Zab (ZaM (b4.s _ _ fd1)) (Zab (ZaM (b4.s _ _ fd2)) (Zab (ZaM (b4.s _ _ fd3)) ZaH)))))) (by rw [List.length_append]; exact Nat.add_le_add_right lmv _)
end
noncomputable def ZmF (o:HO):Prop:=(∀ xs,o ≠ .lst xs)/\(∀ xs,o ≠ .tup xs)/\∀ q u,o ≠ .frz q u
structure KeptD (H H':Hp):Prop where
  k:∀ b o,H b=some o->H' b=some o\/ZmF o
section
variable {K:PySem.W.Frag} {H H':Hp}
theorem KeptD.at (s:KeptD H H') {b:Addr} {o:HO} (h:H b=some o) (n:¬ ZmF o):H' b=some o:=(s.k b o h).resolve_right n
theorem KeptD.l (s:KeptD H H') {b:Addr} {xs:List V} (h:H b=some (.lst xs)):H' b=some (.lst xs):=s.at h fun z=>z.1 _ rfl
theorem KeptD.t (s:KeptD H H') {b:Addr} {xs:List V} (h:H b=some (.tup xs)):H' b=some (.tup xs):=s.at h fun z=>z.2.1 _ rfl
theorem KeptD.sl (s:KeptD H H') {a:Addr} {xs:List V} (h:SqL K H a xs):SqL K H' a xs:=by
  rcases h with (h|⟨o,h⟩)|h
  . exact .inl (.inl (s.l h))
  . exact .inl (.inr ⟨o,s.at h fun z=>z.2.2 _ _ rfl⟩)
  . exact .inr h
theorem KeptD.st (s:KeptD H H') {a:Addr} {xs:List V} (h:SqT K H a xs):SqT K H' a xs:=by
  rcases h with (h|⟨o,h⟩)|h
  . exact .inl (.inl (s.t h))
  . exact .inl (.inr ⟨o,s.at h fun z=>z.2.2 _ _ rfl⟩)
  . exact .inr h
mutual
theorem DV.keptD (s:KeptD H H'):∀ {d:Dt} {v:V},DV K H d v->DV K H' d v
  | .non,v,h=>by unfold DV at h |-; exact h
  | .bl b,v,h=>by unfold DV at h |-; exact h
  | .int i,v,h=>by unfold DV at h |-; exact h
  | .str x,v,h=>by unfold DV at h |-; exact h
  | .lst ds,v,h=>by
    unfold DV at h |-
    obtain ⟨a,xs,e,q,r⟩:=h
    exact ⟨a,xs,e,s.sl q,DVs.keptD s r⟩
  | .tup ds,v,h=>by
    unfold DV at h |-
    obtain ⟨a,xs,e,q,r⟩:=h
    exact ⟨a,xs,e,s.st q,DVs.keptD s r⟩
theorem DVs.keptD (s:KeptD H H'):∀ {ds:List Dt} {xs:List V},DVs K H ds xs->DVs K H' ds xs
  | [],xs,h=>by unfold DVs at h |-; exact h
  | d :: r,xs,h=>by
    unfold DVs at h |-
    obtain ⟨x,t,e,h1,h2⟩:=h
    exact ⟨x,t,e,DV.keptD s h1,DVs.keptD s h2⟩
end
theorem Zk9 {C:Addr} {H1:Hp} {R L:Addr} {A:Nat->Option AcI} {S:Nat->AcS} {m:Nat} (r:Rooms K C H R A S m) (s:Same H H1) (n:H L=none) (k:KeptX (fun b=>¬ Out A b\/b=L) H1 H'):KeptD H H':=⟨fun b o e=>by
  by_cases q:ZmF o
  . exact .inr q
  . refine .inl (k b o (s _ _ e) fun z=>?_)
    rcases z with z|rfl
    . refine z fun i x hi hx=>⟨fun w=>q ?_,fun w=>q ?_⟩
      . rw [w,(r.ac i x hi hx).ob] at e; cases e
        exact ⟨fun _ w=>(nomatch w),fun _ w=>(nomatch w),fun _ _ w=>(nomatch w)⟩
      . obtain ⟨kv,g1,_⟩:=(r.ac i x hi hx).sto
        rw [w,g1] at e; cases e
        exact ⟨fun _ w=>(nomatch w),fun _ w=>(nomatch w),fun _ _ w=>(nomatch w)⟩
    . rw [n] at e; cases e⟩
end
theorem ZdL (d:Dd):ZbQ (tellD d):=by cases d <;> simp [tellD,tellDs,ZbQ,PlainDs]
theorem ZfN (d:Dd):(tellD d).dep=1:=by cases d <;> simp [tellD,tellDs,Dt.dep,Dt.deps]
theorem Zc8:∀ ds:List Dd,PlainDs (ds.map tellD)
  | []=>by unfold List.map PlainDs; trivial
  | d :: ds=>by rw [List.map_cons]; unfold PlainDs; exact ⟨ZdL d,Zc8 ds⟩
theorem ZdM:∀ ds:List Dd,Dt.deps (ds.map tellD) <= 1
  | []=>Nat.zero_le _
  | d :: ds=>by rw [List.map_cons]; unfold Dt.deps; rw [ZfN]; exact Nat.max_le.mpr ⟨Nat.le_refl _,ZdM ds⟩
theorem ZgT:∀ {ds es:List Dt},PlainDs ds->PlainDs es->PlainDs (ds ++ es)
  | [],_,_,q=>q
  | _ :: _,_,h,q=>by
    unfold PlainDs at h
    show PlainDs (_ :: (_ ++ _))
    unfold PlainDs
    exact ⟨h.1,ZgT h.2 q⟩
theorem Zim:∀ (ds es:List Dt),Dt.deps (ds ++ es)=max (Dt.deps ds) (Dt.deps es)
  | [],es=>by show Dt.deps es=max 0 _; omega
  | d :: ds,es=>by
    show max d.dep (Dt.deps (ds ++ es))=max (max d.dep (Dt.deps ds)) (Dt.deps es)
    rw [Zim ds es]
    generalize Dt.deps es=z
    omega
noncomputable def spLaw (K:PySem.W.Frag):Sp:=fun vs H Q _=>∃ (a:Addr) (ns:List Int),vs=[.ref a]/\SqL K H a (ns.map V.int)/\ns.length <= 63/\∀ H',Q (.bl true) H'
theorem Zla (e:Str):(if decide (e = "well")=true then (1:Int) else 0)=wellI (some e):=by
  unfold wellI
  by_cases h:e = "well"
  . rw [if_pos (decide_eq_true h),if_pos (by rw [h])]
  . rw [if_neg (by rw [decide_eq_false h]; decide),if_neg (fun z=>h (Option.some.inj z))]
theorem p62:(2:Int) ^ Int.toNat 62=4611686018427387904:=by decide
theorem slots2 (c:Int):∃ o1 o2:Nat,c % 16=(o1:Int)/\(c % 16 + 1 + c / 16 % 15) % 16=(o2:Int)/\o1 < 16/\o2 < 16/\o1 ≠ o2 :=
  ⟨(c % 16).toNat,((c % 16 + 1 + c / 16 % 15) % 16).toNat,by omega,by omega,by omega,by omega,by omega⟩
noncomputable def cOk (c:Nat) (more u:Int):Prop:=(c=2/\u + 8 <= more)\/(c=1/\u + 4 <= more/\more < u + 8)\/(c=0/\u <= more/\more < u + 4)
theorem cut35 (n0 n1:V) (more u:Int) (h:u <= more):∃ c:Nat,c <= 2/\cOk c more u/\cutV [n0,n1] none (some ((more - u) / 4))=[n0,n1].take c:=by
  unfold cutV
  rcases (by omega:(u + 8 <= more)\/(u + 4 <= more/\more < u + 8)\/(u <= more/\more < u + 4)) with q|q|q
  . refine ⟨2,by decide,.inl ⟨rfl,q⟩,?_⟩
    obtain ⟨k,hk⟩:∃ k:Nat,(more - u) / 4=((k + 2:Nat):Int):=⟨((more - u) / 4 - 2).toNat,by omega⟩
    rw [hk]
    show ([n0,n1].drop (HT.sIx 2 0 none)).take (HT.sIx 2 2 (some ((k + 2:Nat):Int)) - HT.sIx 2 0 none)=_
    have e:HT.sIx 2 2 (some ((k + 2:Nat):Int))=2:=by unfold HT.sIx; simp; split <;> omega
    rw [e]; rfl
  . refine ⟨1,by decide,.inr (.inl ⟨rfl,q⟩),?_⟩
    rw [show (more - u) / 4=1 by omega]; rfl
  . refine ⟨0,by decide,.inr (.inr ⟨rfl,q⟩),?_⟩
    rw [show (more - u) / 4=0 by omega]; rfl
noncomputable def stepV35 (T n0 n1:V):Nat->List V
  | 0=>[.int 0,.int 1,.int 2,.int 3,.int 4,T]
  | 1=>[.int 0,.int 1,.int 2,.int 3,.int 4,T,.int 5,n0]
  | _=>[.int 0,.int 1,.int 2,.int 3,.int 4,T,.int 5,n0,.int 6,n1]
noncomputable def Zb0 (T:Dt) (one:Nat) (fl a1:Int):Nat->List Dt
  | 0=>[.int 0,.int 1,.int 2,.int 3,.int 4,T]
  | 1=>[.int 0,.int 1,.int 2,.int 3,.int 4,T,.int 5,tellD (.note (one:Int) fl)]
  | _=>[.int 0,.int 1,.int 2,.int 3,.int 4,T,.int 5,tellD (.note (one:Int) fl),.int 6,tellD (.note (one:Int) a1)]
noncomputable def endC (c:Nat):Str:=if c < 2 then "dry" else "well"
noncomputable def dsC (one other:Nat) (coin word:Int) (e1:Str) (a1:Int) (c:Nat):List Dd:=if c < 2 then [] else (Zbp one other coin word e1 ++ [.note (one:Int) (wellI (some e1))]) ++ [.note (one:Int) a1]
section
variable {A:Nat->Option AcI} {S0:Nat->AcS} {one other caller n m:Nat} {x0 x1:AcI} {coin word g gi asked pc more a1 ans:Int} {l e e1:Str} {good:Bool}
theorem in_all (X:St35 A S0 one other x0 x1 ans l) (hle:l = "give" /\ e = "well" \/ l = "fail" /\ e = "fail") (he:e=(if good then ("well" : Str) else ("fail" : Str))) (h1:cum35 m <= g) (h2:m < 10->g < cum35 (m + 1)) (hm:m <= 10) (hin:InR m good ans e1 a1):∃ y s1,GoW A S0 (n + 1) [] (fr35 one other coin word g) (Zbp one other coin word e1) y s1/\y.fin=some e1/\y.answer=a1/\y.used=cum35 m/\treeD y s1=innD one other coin word g e1 a1 m:=by
  rcases hin with ⟨hlt,rfl,rfl⟩|⟨rfl,hg,rfl,rfl⟩|⟨rfl,hg,rfl,rfl⟩
  . have hz:Zbp one other coin word "dry" = []:=if_neg (by decide)
    rw [hz]
    match m,hlt,h1,h2 with
    | 0,_,h1,h2=>obtain ⟨y,a,b,c,d,t⟩:=in_0 (ds:=[]) (n:=n) (coin:=coin) (word:=word) X hle h1 (h2 (by decide)) (by decide); exact ⟨y,_,a,b,c,d,t _⟩
    | 1,_,h1,h2=>obtain ⟨y,a,b,c,d,t⟩:=in_1 (ds:=[]) (n:=n) (coin:=coin) (word:=word) X hle h1 (h2 (by decide)) (by decide); exact ⟨y,_,a,b,c,d,t _⟩
    | 2,_,h1,h2=>obtain ⟨y,a,b,c,d,t⟩:=in_2 (ds:=[]) (n:=n) (coin:=coin) (word:=word) X hle h1 (h2 (by decide)) (by decide); exact ⟨y,_,a,b,c,d,t _⟩
    | 3,_,h1,h2=>obtain ⟨y,a,b,c,d,t⟩:=in_3 (ds:=[]) (n:=n) (coin:=coin) (word:=word) X hle h1 (h2 (by decide)) (by decide); exact ⟨y,_,a,b,c,d,t _⟩
    | 4,_,h1,h2=>obtain ⟨y,a,b,c,d,t⟩:=in_4 (ds:=[]) (n:=n) (coin:=coin) (word:=word) X hle h1 (h2 (by decide)) (by decide); exact ⟨y,_,a,b,c,d,t _⟩
    | 5,_,h1,h2=>obtain ⟨y,a,b,c,d,t⟩:=in_5 (ds:=[]) (n:=n) (coin:=coin) (word:=word) X hle h1 (h2 (by decide)) (by decide); exact ⟨y,_,a,b,c,d,t _⟩
    | 6,_,h1,h2=>obtain ⟨y,a,b,c,d,t⟩:=in_6 (ds:=[]) (n:=n) (coin:=coin) (word:=word) X hle h1 (h2 (by decide)) (by decide); exact ⟨y,_,a,b,c,d,t _⟩
    | 7,_,h1,h2=>obtain ⟨y,a,b,c,d,t⟩:=in_7 (ds:=[]) (n:=n) (coin:=coin) (word:=word) X hle h1 (h2 (by decide)) (by decide); exact ⟨y,_,a,b,c,d,t _⟩
    | 8,_,h1,h2=>obtain ⟨y,a,b,c,d,t⟩:=in_8 (ds:=[]) (n:=n) (coin:=coin) (word:=word) X hle h1 (h2 (by decide)) (by decide); exact ⟨y,_,a,b,c,d,t _⟩
    | 9,_,h1,h2=>obtain ⟨y,a,b,c,d,t⟩:=in_9 (ds:=[]) (n:=n) (coin:=coin) (word:=word) X hle h1 (h2 (by decide)) (by decide); exact ⟨y,_,a,b,c,d,t _⟩
    | _ + 10,h,_,_=>exact absurd h (by omega)
  . obtain ⟨y,a,b,c,d,t⟩:=in_10 (ds:=[]) (n:=n) (coin:=coin) (word:=word) X hle h1 (by decide)
    subst hg
    have he':e = "fail" := he
    subst he'
    refine ⟨y,_,?_,b,c,d,t _⟩
    rw [if_neg (by show ¬ some ("fail" : Str)=some "well"; decide)] at a
    rw [show Zbp one other coin word "fail" = [] from if_neg (by decide)]; exact a
  . obtain ⟨y,a,b,c,d,t⟩:=in_10 (ds:=[]) (n:=n) (coin:=coin) (word:=word) X hle h1 (by decide)
    subst hg
    have he':e = "well" := he
    subst he'
    refine ⟨y,_,?_,b,c,d,t _⟩
    rw [if_pos rfl] at a
    rw [show Zbp one other coin word "well" = mvI other coin one ++ Zc7 one other coin word from if_pos rfl]; exact a
theorem ZmG {c:Nat} (X:St35 A S0 one other x0 x1 ans l) (r0:(S0 one).rows=Zcl other coin asked word) (hcc:coin <= (S0 one).coin) (hpc:(if decide (0 < coin)=true then (12:Int) else 8)=pc) (hg:g=pc + 4 + more) (hgi:(if more < asked then more else asked)=gi) {y1:FrS} {s1:List Dt} (hG:GoW A S0 n [] (fr35 one other coin word gi) (Zbp one other coin word e1) y1 s1) (hf1:y1.fin=some e1) (ha1:y1.answer=a1) (hu1:y1.used=cum35 m) (u0:0 <= cum35 m) (hc:cOk c more (cum35 m)):∃ y st,GoW A S0 (n + 1) [] (fr35o one caller g) (dsC one other coin word e1 a1 c) y st/\treeD y st=.tup [.str "call", .int (one:Int),.int (one:Int),.int (caller:Int),.int 0,.int 9,.int g,.str (endC c),.int 0,.int (pc + 4 + cum35 m + 4 * (c:Int)),.lst (Zb0 (treeD y1 s1) one (wellI (some e1)) a1 c)]:=by
  have hl:(Zbp one other coin word e1).length <= 1000:=by
    unfold Zbp Zc7 mvI
    split
    . split <;> simp
    . simp
  rcases hc with ⟨rfl,q⟩|⟨rfl,q1,q2⟩|⟨rfl,q1,q2⟩
  . obtain ⟨y,a,t⟩:=out_A (caller:=caller) X r0 hcc hpc hg hgi hG hf1 ha1 hu1 u0 hl q
    exact ⟨y,_,a,t _⟩
  . obtain ⟨y,a,t⟩:=out_B (caller:=caller) X r0 hcc hpc hg hgi hG hf1 ha1 hu1 u0 hl q1 q2
    exact ⟨y,_,a,t _⟩
  . obtain ⟨y,a,t⟩:=out_C (caller:=caller) X r0 hcc hpc hg hgi hG hf1 ha1 hu1 u0 hl q1 q2
    refine ⟨y,_,a,(t _).trans ?_⟩
    rw [show pc + 4 + cum35 m + 4 * ((0:Nat):Int)=pc + 4 + cum35 m by omega]; rfl
theorem fin35 {c:Nat} {has:Int} (n12:one ≠ other) (c0:0 <= coin) (h1:(S0 one).coin=has) (h2:(S0 other).coin=5):(runS S0 (dsC one other coin word e1 a1 c) one).coin=has - coin * (if c < 2 then 0 else wellI (some e1))/\(runS S0 (dsC one other coin word e1 a1 c) other).coin=5 + coin * (if c < 2 then 0 else wellI (some e1)):=by
  unfold dsC
  by_cases q:c < 2
  . simp only [if_pos q]
    exact ⟨by show (S0 one).coin=_; rw [h1]; omega,by show (S0 other).coin=_; rw [h2]; omega⟩
  . simp only [if_neg q]
    rw [ZhP,ZhP]
    show (runS S0 (Zbp one other coin word e1) one).coin=_/\(runS S0 (Zbp one other coin word e1) other).coin=_
    unfold Zbp
    by_cases w:e1 = "well"
    . rw [if_pos w,w,Zk8,ZhP]
      show (runS S0 (mvI other coin one) one).coin=_/\(runS S0 (mvI other coin one) other).coin=_
      unfold mvI
      by_cases hc:coin > 0
      . rw [if_pos hc]
        have e1:=ZgN S0 one other coin one
        have e2:=ZgN S0 one other coin other
        refine ⟨?_,?_⟩
        . show (doneS S0 (.move (one:Int) (other:Int) coin) one).coin=_
          rw [e1.1,if_pos rfl,if_neg n12,h1]; omega
        . show (doneS S0 (.move (one:Int) (other:Int) coin) other).coin=_
          rw [e2.1,if_neg (Ne.symm n12),if_pos rfl,h2]; omega
      . rw [if_neg hc]
        exact ⟨by show (S0 one).coin=_; rw [h1]; omega,by show (S0 other).coin=_; rw [h2]; omega⟩
    . rw [if_neg w,ZmD w]
      exact ⟨by show (S0 one).coin=_; rw [h1]; omega,by show (S0 other).coin=_; rw [h2]; omega⟩
end
theorem Zlb (one other caller:Nat) (coin word gi:Int) (e1:Str) (a1:Int) (m c:Nat) (fl g u:Int):ZbQ (.tup [.str "call", .int (one:Int),.int (one:Int),.int (caller:Int),.int 0,.int 9,.int g,.str (endC c),.int 0,.int u,.lst (Zb0 (innD one other coin word gi e1 a1 m) one fl a1 c)])/\(Dt.tup [.str "call", .int (one:Int),.int (one:Int),.int (caller:Int),.int 0,.int 9,.int g,.str (endC c),.int 0,.int u,.lst (Zb0 (innD one other coin word gi e1 a1 m) one fl a1 c)]).dep <= 10:=by
  have p1:PlainDs (ZaO one other coin word m):=by unfold ZaO; split <;> simp [PlainDs,ZbQ,ZdL]
  have d1:Dt.deps (ZaO one other coin word m) <= 1:=by unfold ZaO; split <;> simp [Dt.deps,Dt.dep,ZfN]
  have l1:(ZaO one other coin word m).length <= 20:=by unfold ZaO; split <;> simp
  have lm:((mvI other coin one).map tellD).length <= 1:=by rw [List.length_map]; exact mvl35
  have l2:((mvI other coin one).map tellD ++ ZaO one other coin word m).length <= 100000:=by rw [List.length_append]; omega
  have dm:=ZdM (mvI other coin one)
  have pI:ZbQ (innD one other coin word gi e1 a1 m):=by
    unfold innD
    simp only [ZbQ,PlainDs,ZgT (Zc8 _) p1,l2,List.length_cons,List.length_nil]
    simp
  have dI:(innD one other coin word gi e1 a1 m).dep <= 3:=by
    unfold innD
    simp only [Dt.dep,Dt.deps,Zim]
    omega
  have pS:PlainDs (Zb0 (innD one other coin word gi e1 a1 m) one fl a1 c):=by unfold Zb0; split <;> simp [PlainDs,ZbQ,ZdL,pI]
  have dS:Dt.deps (Zb0 (innD one other coin word gi e1 a1 m) one fl a1 c) <= 3:=by
    unfold Zb0
    split <;> (simp only [Dt.deps,Dt.dep,ZfN]; omega)
  have lS:(Zb0 (innD one other coin word gi e1 a1 m) one fl a1 c).length <= 100000:=by unfold Zb0; split <;> simp
  refine ⟨?_,?_⟩
  . simp only [ZbQ,PlainDs,pS,lS,List.length_cons,List.length_nil]
    simp
  . simp only [Dt.dep,Dt.deps]
    omega
section
end
section
variable {P:Program} {w:World} {K:PySem.W.Frag} {mg:Str->Option Value} {base:Heap}
theorem Zbg:FnScope ["_law_script", "_law_one", "_law_other", "_law_has", "_law_coin", "_law_more", "_law_caller", "_law_rooms_here", "_law_asked", "_law_word", "_law_answer", "_law_inner_here", "_law_stand", "_law_flag", "_law_ahead", "_law_made", "_law_steps_here", "_law_k", "_law_end", "_law_journal", "_law_found", "_law_used", "_law_due"] ["_law_script"] (Zac Zmu):=⟨rfl,rfl,rfl,by decide +kernel,rfl,by decide +kernel,by decide +kernel⟩
theorem ok_law   {cJournal:Addr} {cAccount:Addr} {f:Addr} {fd:FuncData} (F:Fun K "law" "law" Zmu f fd) (tJournal:T_Journal K mg cJournal) (tAccount:T_Account K mg cAccount) (i_Journal:ICal P w K mg base 1 "Journal" cJournal (ZjL cJournal)) (m_Journal_told:MCal P w K mg base 2 cJournal "told" (ZjO cJournal cSave cMove cNote)) (c_Lrooms:Cal P w K mg base 3 "_law_rooms" (ZgR K cAccount)) (c_Linner:Cal P w K mg base 2 "_law_inner" (ZgS K)) (c_enter:Cal P w K mg base 49 "enter" (Zik K cAccount cJournal cSave cMove cNote)) (c_Lcell_at:Cal P w K mg base 1 "_law_cell_at" (ZhS K)) (c_Lalike:Cal P w K mg base 12 "_law_alike" (ZfK K 10)) (n_int:mg "int" = none) (n_range:mg "range" = none) (n_min:mg "min" = none) (n_len:mg "len" = none):FnOk P w K mg base CX0 50 f fd ["_law_script"] (spLaw K):=by
  refine F.ok (N:=["_law_script", "_law_one", "_law_other", "_law_has", "_law_coin", "_law_more", "_law_caller", "_law_rooms_here", "_law_asked", "_law_word", "_law_answer", "_law_inner_here", "_law_stand", "_law_flag", "_law_ahead", "_law_made", "_law_steps_here", "_law_k", "_law_end", "_law_journal", "_law_found", "_law_used", "_law_due"]) Zbg (fun vs H Q E h=>?_) (fun cdv A outer s H vs Q E hr h=>?_)
  . obtain ⟨a,ns,rfl,_⟩:=h; rfl
  . obtain ⟨a,ns,rfl,hS,hlen,k⟩:=h
    refine' ⟨_,?der,?_⟩
    case der =>
      refine' Zad ?h428 ?h429
      case h428 =>
        exact (Zat (i:=1) Zbg.nd rfl (by first|exact Or.inl rfl|exact Or.inr rfl) (ZaC Zbs (ZaG c_Lcell_at (hr.mono (by decide)) rfl (Zaa (pv 0) (Zaa Zag Zae))) Zag))
      case h429 =>
        refine' Zad ?h426 ?h427
        case h426 =>
          exact (Zat (i:=2) Zbg.nd rfl (by first|exact Or.inl rfl|exact Or.inr rfl) (ZaC Zbs (ZaC ZbG (ZaC ZbG (pv 1) Zag) (ZaC Zbs (ZaC Zb2 (ZaG c_Lcell_at (hr.mono (by decide)) rfl (Zaa (pv 0) (Zaa Zag Zae))) Zag) Zag)) Zag))
        case h427 =>
          refine' Zad ?h424 ?h425
          case h424 =>
            exact (Zat (i:=3) Zbg.nd rfl (by first|exact Or.inl rfl|exact Or.inr rfl) (ZaC Zbs (ZaG c_Lcell_at (hr.mono (by decide)) rfl (Zaa (pv 0) (Zaa Zag Zae))) (ZaC ZhZ Zag Zag)))
          case h425 =>
            refine' Zad ?h422 ?h423
            case h422 =>
              exact (Zat (i:=4) Zbg.nd rfl (by first|exact Or.inl rfl|exact Or.inr rfl) (ZaC ZeV (ZaC Zbs (ZaC Zb2 (ZaG c_Lcell_at (hr.mono (by decide)) rfl (Zaa (pv 0) (Zaa Zag Zae))) Zag) (ZaC ZbG (pv 3) Zag)) (ZaC Zbs (ZaG c_Lcell_at (hr.mono (by decide)) rfl (Zaa (pv 0) (Zaa Zag Zae))) Zag)))
            case h423 =>
              refine' Zad ?h420 ?h421
              case h420 =>
                exact (Zat (i:=5) Zbg.nd rfl (by first|exact Or.inl rfl|exact Or.inr rfl) (ZaC Zbs (ZaG c_Lcell_at (hr.mono (by decide)) rfl (Zaa (pv 0) (Zaa Zag Zae))) Zag))
              case h421 =>
                refine' Zad ?h418 ?h419
                case h418 =>
                  exact (Zat (i:=6) Zbg.nd rfl (by first|exact Or.inl rfl|exact Or.inr rfl) (ZaC Zbs (ZaG c_Lcell_at (hr.mono (by decide)) rfl (Zaa (pv 0) (Zaa Zag Zae))) Zag))
                case h419 =>
                  refine' Zad ?h416 ?h417
                  case h416 =>
                    exact (ZdN (ZaG c_Lrooms (hr.mono (by decide)) rfl (Zaa (pv 0) (Zaa (pv 1) (Zaa (pv 2) (Zaa (pv 6) (Zaa (pv 3) (Zaa (pv 4) Zae))))))) (ZiU (n:=4) rfl (Zb1 (ZbH (i:=7) Zbg.nd rfl (by first|exact Or.inl rfl|exact Or.inr rfl)) (Zb1 (ZbH (i:=8) Zbg.nd rfl (by first|exact Or.inl rfl|exact Or.inr rfl)) (Zb1 (ZbH (i:=9) Zbg.nd rfl (by first|exact Or.inl rfl|exact Or.inr rfl)) (Zb1 (ZbH (i:=10) Zbg.nd rfl (by first|exact Or.inl rfl|exact Or.inr rfl)) ZgY))))))
                  case h417 =>
                    refine' Zad ?h414 ?h415
                    case h414 =>
                      exact (ZdN (ZaG c_Linner (hr.mono (by decide)) rfl (Zaa (pv 1) (Zaa (pv 2) (Zaa (pv 4) (Zaa (pv 9) (Zaa (pv 10) (Zaa (ZbI Zb7 (ZaC Zbs (ZaG c_Lcell_at (hr.mono (by decide)) rfl (Zaa (pv 0) (Zaa Zag Zae))) Zag) Zag (nomark _)) (Zaa (ZaI (Zlp rfl) rfl n_min PyProof.Rows.boot_min (Zaa (pv 8) (Zaa (pv 5) Zae))) Zae)))))))) (ZiU (n:=2) rfl (Zb1 (ZbH (i:=11) Zbg.nd rfl (by first|exact Or.inl rfl|exact Or.inr rfl)) (Zb1 (ZbH (i:=12) Zbg.nd rfl (by first|exact Or.inl rfl|exact Or.inr rfl)) ZgY))))
                    case h415 =>
                      refine' Zad ?h412 ?h413
                      case h412 =>
                        exact (Zat (i:=13) Zbg.nd rfl (by first|exact Or.inl rfl|exact Or.inr rfl) (Zdb ZfT rfl n_int PyProof.Rows.boot_int (Zaa (ZbI Zb7 (ZaK Zbe (pv 11) Zag (fun _ _=>rfl)) Zav (nomark _)) Zae)))
                      case h413 =>
                        refine' Zad ?h410 ?h411
                        case h410 =>
                          exact (Zat (i:=14) Zbg.nd rfl (by first|exact Or.inl rfl|exact Or.inr rfl) (ZaC ZbG Zag (ZaC ZeV Zag (Zdb ZfT rfl n_int PyProof.Rows.boot_int (Zaa (ZbI Ze5 (pv 4) Zag (nomark _)) Zae)))))
                        case h411 =>
                          refine' Zad ?h408 ?h409
                          case h408 =>
                            exact (Zat (i:=15) Zbg.nd rfl (by first|exact Or.inl rfl|exact Or.inr rfl) (Zkm ZlO (Zbt (Zaa (ZaQ (Zaa Zav (Zaa (pv 1) (Zaa (pv 13) Zae)))) (Zaa (ZaQ (Zaa Zav (Zaa (pv 1) (Zaa (ZaK Zbe (pv 11) Zag (fun _ _=>rfl)) Zae)))) Zae))) ZlL (ZlM (ZaC Zb2 (ZaC ZdO (pv 5) (ZaK Zbe (pv 11) Zag (fun _ _=>rfl))) Zag))))
                          case h409 =>
                            refine' Zad ?h406 ?h407
                            case h406 =>
                              refine' Zat (i:=16) ?h359 ?h360 ?h361 ?h362
                              case h359 =>
                                exact Zbg.nd
                              case h360 =>
                                rfl
                              case h361 =>
                                first|exact Or.inl rfl|exact Or.inr rfl
                              case h362 =>
                                refine' Zbt ?h358
                                case h358 =>
                                  refine' Zaa ?h356 ?h357
                                  case h356 =>
                                    exact Zag
                                  case h357 =>
                                    refine' Zaa ?h354 ?h355
                                    case h354 =>
                                      exact Zag
                                    case h355 =>
                                      refine' Zaa ?h352 ?h353
                                      case h352 =>
                                        exact Zag
                                      case h353 =>
                                        refine' Zaa ?h350 ?h351
                                        case h350 =>
                                          exact Zag
                                        case h351 =>
                                          refine' Zaa ?h348 ?h349
                                          case h348 =>
                                            exact Zag
                                          case h349 =>
                                            refine' Zaa ?h346 ?h347
                                            case h346 =>
                                              exact (pv 11)
                                            case h347 =>
                                              exact Zae
                            case h407 =>
                              refine' Zad ?h404 ?h405
                              case h404 =>
                                exact (ZhY PassesOwn.never rfl (Zda rfl n_range (Zaa (ZaI ZbP rfl n_len PySem.boot_len (Zaa (pv 15) Zae)) Zae)) (ZbH (i:=17) Zbg.nd rfl (by first|exact Or.inl rfl|exact Or.inr rfl))
      (Zaf (Zat (i:=16) Zbg.nd rfl (by first|exact Or.inl rfl|exact Or.inr rfl) (ZaC Zf3 (pv 16) (Zbt (Zaa (ZaC ZbG Zag (pv 17)) (Zaa (ZaK Zaz (pv 15) (pv 17) (fun _ _=>rfl)) Zae)))))))
                              case h405 =>
                                refine' Zad ?h402 ?h403
                                case h402 =>
                                  exact (Zat (i:=18) Zbg.nd rfl (by first|exact Or.inl rfl|exact Or.inr rfl) Zav)
                                case h403 =>
                                  refine' Zad ?h400 ?h401
                                  case h400 =>
                                    exact (Zat (i:=12) Zbg.nd rfl (by first|exact Or.inl rfl|exact Or.inr rfl) (ZaC Zf3 (pv 12) (pv 15)))
                                  case h401 =>
                                    refine' Zad ?h398 ?h399
                                    case h398 =>
                                      exact (Zgj (Zbi (ZaD ZfS (ZaI ZbP rfl n_len PySem.boot_len (Zaa (pv 15) Zae)) Zag (nomark _)) (Zad (Zat (i:=18) Zbg.nd rfl (by first|exact Or.inl rfl|exact Or.inr rfl) Zav)
      (Zad (Zat (i:=12) Zbg.nd rfl (by first|exact Or.inl rfl|exact Or.inr rfl) (Zbt Zae))
      (Zaf (Zat (i:=13) Zbg.nd rfl (by first|exact Or.inl rfl|exact Or.inr rfl) Zag)))) ZaJ))
                                    case h399 =>
                                      refine' Zad ?h396 ?h397
                                      case h396 =>
                                        exact (Zat (i:=19) Zbg.nd rfl (by first|exact Or.inl rfl|exact Or.inr rfl) (ZcU i_Journal (hr.mono (by decide)) rfl (Zaa (pv 7) Zae)))
                                      case h397 =>
                                        refine' Zad ?h394 ?h395
                                        case h394 =>
                                          exact (Zat (i:=20) Zbg.nd rfl (by first|exact Or.inl rfl|exact Or.inr rfl) (ZaG c_enter (hr.mono (by decide)) rfl (Zaa (pv 7) (Zaa (pv 19) (Zaa (pv 6) (Zaa (pv 1) (Zaa Zag (Zaa Zag (Zaa (ZaC ZbG (pv 14) (pv 5)) Zae)))))))))
                                        case h395 =>
                                          refine' Zad ?h392 ?h393
                                          case h392 =>
                                            exact (Zat (i:=21) Zbg.nd rfl (by first|exact Or.inl rfl|exact Or.inr rfl) (ZaC ZbG (ZaC ZbG (pv 14) (ZaK Zbe (pv 11) Zag (fun _ _=>rfl))) (ZaC ZeV Zag (ZaI ZbP rfl n_len PySem.boot_len (Zaa (pv 15) Zae)))))
                                          case h393 =>
                                            refine' Zad ?h390 ?h391
                                            case h390 =>
                                              refine' Zat (i:=22) ?h386 ?h387 ?h388 ?h389
                                              case h386 =>
                                                exact Zbg.nd
                                              case h387 =>
                                                rfl
                                              case h388 =>
                                                first|exact Or.inl rfl|exact Or.inr rfl
                                              case h389 =>
                                                refine' ZaQ ?h385
                                                case h385 =>
                                                  refine' Zaa ?h383 ?h384
                                                  case h383 =>
                                                    exact Zav
                                                  case h384 =>
                                                    refine' Zaa ?h381 ?h382
                                                    case h381 =>
                                                      exact (pv 1)
                                                    case h382 =>
                                                      refine' Zaa ?h379 ?h380
                                                      case h379 =>
                                                        exact (pv 1)
                                                      case h380 =>
                                                        refine' Zaa ?h377 ?h378
                                                        case h377 =>
                                                          exact (pv 6)
                                                        case h378 =>
                                                          refine' Zaa ?h375 ?h376
                                                          case h375 =>
                                                            exact Zag
                                                          case h376 =>
                                                            refine' Zaa ?h373 ?h374
                                                            case h373 =>
                                                              exact Zag
                                                            case h374 =>
                                                              refine' Zaa ?h371 ?h372
                                                              case h371 =>
                                                                exact (ZaC ZbG (pv 14) (pv 5))
                                                              case h372 =>
                                                                refine' Zaa ?h369 ?h370
                                                                case h369 =>
                                                                  exact (pv 18)
                                                                case h370 =>
                                                                  refine' Zaa ?h367 ?h368
                                                                  case h367 =>
                                                                    exact Zag
                                                                  case h368 =>
                                                                    refine' Zaa ?h365 ?h366
                                                                    case h365 =>
                                                                      exact (pv 21)
                                                                    case h366 =>
                                                                      refine' Zaa ?h363 ?h364
                                                                      case h363 =>
                                                                        exact (pv 16)
                                                                      case h364 =>
                                                                        exact Zae
                                            case h391 =>
                                              exact (Zad (Zbi (PW.pt (pw_or (ZeT (Zb6 (ZaG c_Lalike (hr.mono (by decide)) rfl (Zaa (pv 20) (Zaa (pv 22) Zae))))) (Zle (ZeT (Zb6 (ZaG c_Lalike (hr.mono (by decide)) rfl (Zaa (ZcI m_Journal_told (hr.mono (by decide)) (pv 19)) (Zaa (pv 12) Zae)))))))) (Zaf (Zar ZfP)) ZaJ)
      (Zaf (Zar (ZeU (ZbI Zb7 (Zal (ZaK Zaz (pv 7) (pv 1) (fun _ _=>rfl)) rfl) (ZaC ZdO (pv 3) (ZaC ZeV (pv 4) (pv 13))) (nomark _)) (Zd6 (ZbI Zb7 (Zal (ZaK Zaz (pv 7) (pv 2) (fun _ _=>rfl)) rfl) (ZaC ZbG Zag (ZaC ZeV (pv 4) (pv 13))) (nomark _)))))))
    walk_at "nx"
    repeat walk_at "rdk"
    refine ⟨a,ns,0,rfl,by decide,hS,?_⟩
    repeat walk_at "rdk"
    refine ⟨a,ns,0,rfl,by decide,hS,?_⟩
    repeat walk_at "rdk"
    generalize cellF ns 0=c0
    obtain ⟨o1,o2,eo1,eo2,b1,b2,n12⟩:=slots2 c0
    rw [eo2,eo1]
    refine ⟨a,ns,1,rfl,by decide,hS,?_⟩
    repeat walk_at "rdk"
    rw [p62]
    obtain ⟨has,ehas⟩:∃ z,cellF ns 1 % 4611686018427387904=z:=⟨_,rfl⟩
    have has0:0 <= has:=by omega
    rw [ehas]
    have sp:0 < has + 1:=by omega
    refine ⟨a,ns,2,rfl,by decide,hS,?_⟩
    repeat walk_at "rdk"
    try (refine ⟨_,_,rfl,rfl,sp,?_⟩; repeat walk_at "rdk")
    refine ⟨a,ns,2,rfl,by decide,hS,?_⟩
    repeat walk_at "rdk"
    try (refine ⟨_,_,rfl,rfl,.inr ⟨by omega,by omega⟩,?_⟩; repeat walk_at "rdk")
    obtain ⟨coin,ecoin,coin0,coin1⟩:∃ z,cellF ns 2 / 2 % (has + 1) * (cellF ns 2 % 2)=z/\0 <= z/\z <= has:=by
      have h1:=Int.emod_nonneg (cellF ns 2 / 2) (show has + 1 ≠ 0 by omega)
      have h2:=Int.emod_lt_of_pos (cellF ns 2 / 2) sp
      generalize cellF ns 2 / 2 % (has + 1)=z at h1 h2
      rcases (by omega:cellF ns 2 % 2=0\/cellF ns 2 % 2=1) with q|q
      . exact ⟨_,rfl,by rw [q]; omega,by rw [q]; omega⟩
      . exact ⟨_,rfl,by rw [q]; omega,by rw [q]; omega⟩
    rw [ecoin]
    refine ⟨a,ns,6,rfl,by decide,hS,?_⟩
    repeat walk_at "rdk"
    obtain ⟨more,emore,mo0,mo1⟩:∃ z,cellF ns 6 % 70=z/\0 <= z/\z < 70:=⟨_,rfl,by omega,by omega⟩
    rw [emore]
    refine ⟨a,ns,7,rfl,by decide,hS,?_⟩
    repeat walk_at "rdk"
    obtain ⟨o3,eo3,b3⟩:∃ z:Nat,cellF ns 7 % 16=(z:Int)/\z < 16:=⟨(cellF ns 7 % 16).toNat,by omega,by omega⟩
    rw [eo3]
    clear eo1 eo2 eo3 ehas ecoin emore
    refine ⟨a,ns,o1,o2,o3,has,coin,rfl,hS,b1,b2,b3,n12,fun t0 R asked word ans Ar S0 x0 x1 H1 s1 et0 hask r1 X35 rw1 cn1 cn2 kz=>?_⟩
    have hS1:=s1.seq hS
    repeat walk_at "rdk"
    try (refine ⟨t0,_,rfl,ZaX et0,rfl,?_⟩; repeat walk_at "rdk")
    refine ⟨a,ns,5,rfl,by decide,hS1,?_⟩
    repeat walk_at "rdk"
    obtain ⟨gi,hgi⟩:∃ z,(if more < asked then more else asked)=z:=⟨_,rfl⟩
    have gi0:0 <= gi:=by rw [<- hgi]; split <;> omega
    have gi1:gi <= more:=by rw [<- hgi]; split <;> omega
    obtain ⟨good,hgood⟩:∃ b:Bool,b=decide (cellF ns 5 % 2=0):=⟨_,rfl⟩
    rw [<- hgood,hgi]
    refine ⟨o1,o2,coin,word,ans,good,gi,rfl,gi0,fun m e1 a1 t2 T SL SP xs H2 hm hc1 hc2 hin s2 _ et2 eT dvT eSL dvSL lxs=>?_⟩
    have eT:H2 T=some (.tup [.str "call", .int (o2:Int),.int (o2:Int),.int (o1:Int),.int coin,.int word,.int gi,.str e1,.int a1,.int (cum35 m),.ref SP]):=eT
    repeat walk_at "rdk"
    try (refine ⟨t2,_,rfl,ZaX et2,rfl,?_⟩; repeat walk_at "rdk")
    refine .inr ⟨_,rfl,?_⟩
    rw [Zla]
    repeat walk_at "rdk"
    refine .inr ⟨_,rfl,?_⟩
    repeat walk_at "rdk"
    obtain ⟨pc,hpc⟩:∃ z,(if decide (0 < coin)=true then (12:Int) else 8)=z:=⟨_,rfl⟩
    have pcb:8 <= pc/\pc <= 12:=by rw [<- hpc]; split <;> exact ⟨by decide,by decide⟩
    rw [show 12 + 4 * (if decide (coin > 0)=true then (1:Int) else 0)=pc + 4 by rw [<- hpc]; split <;> rfl]
    generalize hfl:wellI (some e1)=fl
    have um:cum35 m <= more:=by omega
    have u0:0 <= cum35 m:=by unfold cum35; split <;> decide
    have rr:=r1.same s2
    clear et0 et2 hS1 r1
    have bh0:Gw H2 H2 []:=Gw.start
    refine ⟨by show 3 <= sizeLine; decide,fun n0 q_n0=>?_⟩
    generalize e_:upd _ n0 _=bH1; have bh1:=bh0.newE q_n0 e_; clear e_; repeat walk_at "rdk"
    have yT:=bh1.s _ _ eT
    repeat walk_at "rdk"
    refine ⟨by show 3 <= sizeLine; decide,fun n1 q_n1=>?_⟩
    generalize e_:upd _ n1 _=bH2; have bh2:=bh1.newE q_n1 e_; clear e_; repeat walk_at "rdk"
    refine ⟨by show 2 <= sizeLine; decide,fun ML q_ML=>?_⟩
    generalize e_:upd _ ML _=bH3; have bh3:=bh2.newE q_ML e_; clear e_; repeat walk_at "rdk"
    have yT2:=bh3.s _ _ eT
    repeat walk_at "rdk"
    obtain ⟨c,hc,hcok,ecut⟩:=cut35 (.ref n0) (.ref n1) more (cum35 m) um
    refine Zlo (ZaF bh3.h.1) fun MD q_MD=>?_
    rw [ecut]
    generalize e_:upd _ MD _=bH4; have bh4:=bh3.newE q_MD e_; clear e_; repeat walk_at "rdk"
    refine ⟨by show 6 <= sizeLine; decide,fun SZ q_SZ=>?_⟩
    generalize e_:upd _ SZ _=bH5; have bh5:=bh4.newE q_SZ e_; clear e_; repeat walk_at "rdk"
    have lc:([V.ref n0,.ref n1].take c).length=c:=by rw [List.length_take]; show min c 2=c; omega
    have eMD:=bh5.h.2.1
    refine Zge (Zdf ?_)
    repeat walk_at "rdk"
    refine ⟨_,rfl,by omega,by omega,?_⟩
    rw [lc,Int.toNat_natCast]
    refine Zco (fun i σ' H'=>Same bH5 H'/\∃ q v,H' q=some (.lst (stepV35 (.ref T) (.ref n0) (.ref n1) i))/\σ'=[some (.ref a),some (.int (o1:Int)),some (.int (o2:Int)),some (.int has),some (.int coin),some (.int more),some (.int (o3:Int)),some (.ref R),some (.int asked),some (.int word),some (.int ans),some (.ref T),some (.ref SL),some (.int fl),some (.int (pc + 4)),some (.ref MD),some (.ref q),v,none,none,none,none,none]) ⟨Same.refl _,SZ,none,bh5.h.1,rfl⟩ ?_ ?_
    . rintro i σ' HA hi ⟨sA,q,v,hq,rfl⟩
      have eMA:=sA _ _ eMD
      obtain ⟨dk,ek,en⟩:∃ dk,atI ([V.ref n0,.ref n1].take c) (i:Int)=some dk/\stepV35 (.ref T) (.ref n0) (.ref n1) (i + 1)=stepV35 (.ref T) (.ref n0) (.ref n1) i ++ [.int (5 + (i:Int)),dk]:=by
        match c,i,hc,hi with
        | 1,0,_,_=>exact ⟨_,rfl,rfl⟩
        | 2,0,_,_=>exact ⟨_,rfl,rfl⟩
        | 2,1,_,_=>exact ⟨_,rfl,rfl⟩
        | 0,_,_,h=>exact absurd h (by omega)
        | 1,_ + 1,_,h=>exact absurd h (by omega)
        | 2,_ + 2,_,h=>exact absurd h (by omega)
        | _ + 3,_,h,_=>exact absurd h (by omega)
      have hl:(stepV35 (.ref T) (.ref n0) (.ref n1) i).length <= 10:=by unfold stepV35; split <;> simp
      rw [en]
      generalize stepV35 (.ref T) (.ref n0) (.ref n1) i=zs at *
      have z0:Gw HA HA []:=Gw.start
      repeat walk_at "rdk"
      simp only [Int.zero_add]
      refine Za7 (ZaF eMA) ek ?_
      repeat walk_at "rdk"
      refine ⟨by show 2 <= sizeLine; decide,fun B1 q_B1=>?_⟩
      generalize e_:upd _ B1 _=Z1; have z1:=z0.newE q_B1 e_; clear e_; repeat walk_at "rdk"
      refine Zgd (z1.s _ _ hq) z1.h.1 (Nat.le_trans (Nat.add_le_add_right hl 2) (by decide)) fun C1 q_C1=>?_
      generalize e_:upd _ C1 _=Z2; have z2:=z1.newE q_C1 e_; clear e_; repeat walk_at "rdk"
      exact ⟨sA.trans z2.s,C1,_,z2.h.1,rfl⟩
    rintro σ1 H3 ⟨s3,q,v,eq,rfl⟩
    have s23:=bh5.s.trans s3
    have fn0:=s3 _ _ bh5.h.2.2.2.2.1
    have fn1:=s3 _ _ bh5.h.2.2.2.1
    have fMD:=s3 _ _ bh5.h.2.1
    have fSL:=s23 _ _ eSL
    have fT:=s23 _ _ eT
    have fdT:=dvT.keep s23
    have fdS:=dvSL.keep s23
    have r3:=rr.same s23
    clear eSL eT dvT dvSL rr eMD
    have ch0:Gw H3 H3 []:=Gw.start
    repeat walk_at "rdk"
    refine Zgd fSL fMD (Nat.le_trans (Nat.add_le_add lxs (by rw [lc]; exact hc)) (by show 5 + 2 <= sizeLine; decide)) fun ST q_ST=>?_
    generalize e_:upd _ ST _=cH1; have ch1:=ch0.newE q_ST e_; clear e_
    have yMD:=ch1.s _ _ fMD
    repeat walk_at "rdk"
    refine Zgi (fun σ' H'=>∃ SF ys,Same H3 H'/\H' SF=some (.lst ys)/\DVs K H' ((dsC o1 o2 coin word e1 a1 c).map tellD) ys/\σ'=[some (.ref a),some (.int (o1:Int)),some (.int (o2:Int)),some (.int has),some (.int coin),some (.int more),some (.int (o3:Int)),some (.ref R),some (.int asked),some (.int word),some (.int ans),some (.ref T),some (.ref SF),some (.int (if c < 2 then 0 else fl)),some (.int (pc + 4)),some (.ref MD),some (.ref q),v,some (.str (endC c)),none,none,none,none]) ?_ ?_
    . have lci:(([V.ref n0,.ref n1].take c).length:Int)=(c:Int):=by rw [lc]
      by_cases hc2:c < 2
      . repeat' walk_at "rdz"
        all_goals try (exfalso; omega)
        refine ⟨by show 0 <= sizeLine; decide,fun E0 q_E0=>?_⟩
        generalize e_:upd _ E0 _=Z1; have z1:=ch1.newE q_E0 e_; clear e_; repeat walk_at "rdk"
        refine ⟨E0,_,z1.s,z1.h.1,by rw [show dsC o1 o2 coin word e1 a1 c=[] from if_pos hc2]; exact ZaH,?_⟩
        rw [if_pos hc2,show endC c = "dry" from if_pos hc2]
      . repeat' walk_at "rdz"
        all_goals try (exfalso; omega)
        obtain rfl:c=2:=by omega
        refine ⟨ST,_,ch1.s,ch1.h.1,?_,by rw [if_neg hc2,show endC 2 = "well" from rfl]⟩
        rw [show dsC o1 o2 coin word e1 a1 2=(Zbp o1 o2 coin word e1 ++ [.note (o1:Int) (wellI (some e1))]) ++ [.note (o1:Int) a1] from rfl,hfl,List.map_append,List.map_append,List.append_assoc]
        exact ZeH (fdS.keep ch1.s) (Zab (ZaM (ch1.s _ _ fn0)) (Zab (ZaM (ch1.s _ _ fn1)) ZaH))
    rintro σ1 H4 ⟨SF,ys,s4,eSF,dvSF,rfl⟩
    have gT:=s4 _ _ fT
    have gq:=s4 _ _ eq
    have gn0:=s4 _ _ fn0
    have gn1:=s4 _ _ fn1
    have gdT:=fdT.keep s4
    have r12:=r3.same s4
    have gMD:=s4 _ _ fMD
    clear fT eq fn0 fn1 fdT r3 fMD fSL fdS
    repeat walk_at "rdk"
    intro j jdx hj hjdx hnej
    have hj2:(upd H4 jdx (.own j)) j=none:=by rw [Zak (Ne.symm hnej)]; exact hj
    have sj:Same H4 (upd (upd H4 jdx (.own j)) j (.ins cJournal jdx [])):=(Same.new hjdx).newT hj2
    refine ⟨j,jdx,R,rfl,Zah,fun L hL=>⟨rfl,?_⟩⟩
    have hL12:=sj.fresh hL
    have nLj:L ≠ j:=fun q=>by rw [q,Zah] at hL; cases hL
    have s13:Same H4 (upd (upd (upd (upd H4 jdx (.own j)) j (.ins cJournal jdx [])) L (.lst [])) j (.ins cJournal jdx (jF R L))):=fun b o e=>by
      rw [Zak (Zam e hj),Zak (Zam e hL12)]; exact sj b o e
    have J13:Jr cJournal cSave cMove cNote (upd (upd (upd (upd H4 jdx (.own j)) j (.ins cJournal jdx [])) L (.lst [])) j (.ins cJournal jdx (jF R L))) j jdx R L Ar []:=⟨Zah,by rw [Zak nLj,Zah]; rfl,fun _ h=>(nomatch h),Ne.symm (Zam r12.ob hL12),fun i y hi hy=>by obtain ⟨xs,e1,_⟩:=(r12.ac i y hi hy).pg; exact Ne.symm (Zam e1 hL12)⟩
    generalize upd (upd (upd (upd H4 jdx (.own j)) j (.ins cJournal jdx [])) L (.lst [])) j _=H13 at s13 J13
    have W13:Wd K cAccount cJournal cSave cMove cNote H13 j jdx R L Ar S0 0 []:=⟨⟨[],rfl,J13⟩,r12.same s13,trivial,fun i=>⟨[],by decide,fun p hp=>absurd (kz i p) hp⟩,by decide⟩
    obtain ⟨ee,hee⟩:∃ z:Str,z=(if good then ("well" : Str) else ("fail" : Str)):=⟨_,rfl⟩
    have hle:(if cellF ns 5 % 2=0 then ("give" : Str) else "fail") = "give" /\ ee = "well" \/ (if cellF ns 5 % 2=0 then ("give" : Str) else "fail") = "fail" /\ ee = "fail" := by
      by_cases q:cellF ns 5 % 2=0
      . rw [if_pos q,hee,hgood,decide_eq_true q]; exact .inl ⟨rfl,rfl⟩
      . rw [if_neg q,hee,hgood,decide_eq_false q]; exact .inr ⟨rfl,rfl⟩
    obtain ⟨y1,z1,hG,hf1,ha1,hu1,ht1⟩:=in_all (n:=8) (coin:=coin) (word:=word) X35 hle hee hc1 hc2 hm hin
    obtain ⟨yF,sF,hG2,ht2⟩:=ZmG (caller:=o3) (c:=c) X35 rw1 (by rw [cn1]; exact coin1) hpc rfl hgi hG hf1 ha1 hu1 u0 hcok
    rw [ht1,hfl] at ht2
    repeat walk_at "rdk"
    refine ⟨j,jdx,R,L,Ar,S0,0,[],(o3:Int),(o1:Int),0,9,pc + 4 + more,_,yF,sF,rfl,W13,hG2,fun pF HF WF SF2 kF=>?_⟩
    have kD:=Zk9 r12 s13 hL12 kF
    have tT:=kD.t gT
    have tMD:=kD.l gMD
    have tdSF:=DVs.keptD kD dvSF
    have tSF:=kD.l eSF
    have dF:=SF2.dv
    rw [ht2] at dF
    have lci:(([V.ref n0,.ref n1].take c).length:Int)=(c:Int):=by rw [lc]
    have tdS:DVs K HF (Zb0 (innD o1 o2 coin word gi e1 a1 m) o1 fl a1 c) (stepV35 (.ref T) (.ref n0) (.ref n1) c):=by
      have dT:=DV.keptD kD gdT
      have d0:=ZaM (K:=K) (d:=.note (o1:Int) fl) (kD.t gn0)
      have d1:=ZaM (K:=K) (d:=.note (o1:Int) a1) (kD.t gn1)
      match c,hc with
      | 0,_=>exact (Zab Zaj (Zab Zaj (Zab Zaj (Zab Zaj (Zab Zaj (Zab dT ZaH))))))
      | 1,_=>exact (Zab Zaj (Zab Zaj (Zab Zaj (Zab Zaj (Zab Zaj (Zab dT (Zab Zaj (Zab d0 ZaH))))))))
      | 2,_=>exact (Zab Zaj (Zab Zaj (Zab Zaj (Zab Zaj (Zab Zaj (Zab dT (Zab Zaj (Zab d0 (Zab Zaj (Zab d1 ZaH))))))))))
      | _ + 3,h=>exact absurd h (by omega)
    have tq:=kD.l gq
    clear gT gq gn0 gn1 gdT gMD SF2 kF W13 J13 s13 sj kD hG hG2 ht1 ht2 r12 dvSF eSF
    repeat walk_at "rdk"
    have z0:Gw HF HF []:=Gw.start
    rw [lci]
    refine ⟨by show 11 <= sizeLine; decide,fun DU q_DU=>?_⟩
    generalize e_:upd _ DU _=Z1; have z1:=z0.newE q_DU e_; clear e_; repeat walk_at "rdk"
    have dD:DV K Z1 (.tup [.str "call", .int (o1:Int),.int (o1:Int),.int (o3:Int),.int 0,.int 9,.int (pc + 4 + more),.str (endC c),.int 0,.int (pc + 4 + cum35 m + 4 * (c:Int)),.lst (Zb0 (innD o1 o2 coin word gi e1 a1 m) o1 fl a1 c)]) (.ref DU):=ZcS (ZaX z1.h.1) (Zab ZbT (Zab Zaj (Zab Zaj (Zab Zaj (Zab Zaj (Zab Zaj (Zab Zaj (Zab ZbT (Zab Zaj (Zab Zaj (Zab (Zei (ZaF (z1.s _ _ tq)) (tdS.keep z1.s)) ZaH)))))))))))
    have dF2:=dF.keep z1.s
    have WG:=WF.same z1.s
    have dS2:DV K Z1 (.lst ((dsC o1 o2 coin word e1 a1 c).map tellD)) (.ref SF):=Zei (ZaF (z1.s _ _ tSF)) (tdSF.keep z1.s)
    generalize hfg:(if c < 2 then (0:Int) else fl)=fg
    have okD:=Zlb o1 o2 o3 coin word gi e1 a1 m c fl (pc + 4 + more) (pc + 4 + cum35 m + 4 * (c:Int))
    have FN:=fin35 (c:=c) (e1:=e1) (a1:=a1) (word:=word) n12 coin0 cn1 cn2
    rw [hfl,hfg] at FN
    have fgb:0 <= fg/\fg <= 1:=by
      rw [<- hfg,<- hfl]; unfold wellI
      split
      . exact ⟨by decide,by decide⟩
      . split <;> exact ⟨by decide,by decide⟩
    refine ⟨_,_,_,rfl,okD.1,okD.2,dF2,dD,?_⟩
    repeat walk_at "rdk"
    obtain ⟨es,hes,JG⟩:=WG.J
    refine Zap JG.ob rfl ?_
    repeat walk_at "rdk"
    have hesl:es.length <= 1000:=by
      have:=congrArg List.length hes
      rw [List.length_map] at this
      rw [this]
      unfold dsC Zbp Zc7 mvI
      split
      . simp
      . split
        . split <;> simp
        . simp
    refine ⟨j,jdx,R,L,Ar,es,rfl,JG,hesl,fun tq2 ts HQ sQ htq etq tp=>?_⟩
    rw [hes] at tp
    have dv3:=tp.dv (K:=K) etq
    have dv4:=dS2.keep sQ
    have rQ:=WG.r.same sQ
    repeat walk_at "rdk"
    refine ⟨_,_,_,rfl,by unfold ZbQ; exact ⟨by rw [List.length_map,<- hes,List.length_map]; omega,Zc8 _⟩,by unfold Dt.dep; have:=ZdM (dsC o1 o2 coin word e1 a1 c); omega,dv3,dv4,?_⟩
    generalize dsC o1 o2 coin word e1 a1 c=dsF at *
    have ay1:=rQ.ac o1 _ b1 X35.a0
    have ay2:=rQ.ac o2 _ b2 X35.a1
    clear okD dv3 dv4 dD dF dF2 hes hesl tp hcok hin hfg hpc hgi
    repeat walk_at "rdk"
    refine Za7 (ZaF rQ.ob) (rQ.at b1 X35.a0) ?_
    refine Zai ay1.ob tAccount.k.cl tAccount.n_coin rfl ?_
    rw [FN.1]
    repeat' walk_at "rdk"
    . refine Za7 (ZaF rQ.ob) (rQ.at b2 X35.a1) ?_
      refine Zai ay2.ob tAccount.k.cl tAccount.n_coin rfl ?_
      rw [FN.2]
      repeat walk_at "rdk"
      refine ZbS (congrArg V.bl (decide_eq_true rfl)) (k _)
    . rename_i hz
      exact absurd rfl hz
end
section
variable {P:Program} {w:World} {K:PySem.W.Frag} {mg:Str->Option Value} {base:Heap}
theorem ZmH {h:Heap} {aT:Addr} {es:Array DictEntry} {ep:Nat} {l:List (Str × Tok × Value)} {a1 a2 a3 a4 a5 a6 a7 a8 a9 a10 a11 a12 a13 a14 a15 a16 a17 a18 a19 a20 a21 a22 a23 a24 a25 a26 a27 a28 a29 a30 a31:Addr} (X:K.In h) (G:h.Ns mainGlobals mg) (a:PySem.W.nsIn K mainGlobals "ROWS" = some (some (.ref aT))) (lk:K.lookup aT=some ⟨.type "dict", none,.dict es ep,#[]⟩)
    (he:entsOf es=l) (h2:es=(l.map (sEnt w)).toArray) (h3:l.map (fun p=>(p.1,p.2.2))=[(("push" : Str),Value.ref a1),(("drop" : Str),Value.ref a2),(("copy" : Str),Value.ref a3),(("swap" : Str),Value.ref a4),(("add" : Str),Value.ref a5),(("minus" : Str),Value.ref a6),(("times" : Str),Value.ref a7),(("over" : Str),Value.ref a8),(("rest" : Str),Value.ref a9),(("below" : Str),Value.ref a10),(("same" : Str),Value.ref a11),(("both" : Str),Value.ref a12),(("either" : Str),Value.ref a13),(("unlike" : Str),Value.ref a14),(("up" : Str),Value.ref a15),(("down" : Str),Value.ref a16),(("jump" : Str),Value.ref a17),(("jumpif" : Str),Value.ref a18),(("load" : Str),Value.ref a19),(("save" : Str),Value.ref a20),(("me" : Str),Value.ref a21),(("from" : Str),Value.ref a22),(("sent" : Str),Value.ref a23),(("word" : Str),Value.ref a24),(("coin" : Str),Value.ref a25),(("note" : Str),Value.ref a26),(("call" : Str),Value.ref a27),(("borrow" : Str),Value.ref a28),(("look" : Str),Value.ref a29),(("give" : Str),Value.ref a30),(("fail" : Str),Value.ref a31)])
    (t1:TupK K a1 [.int 0,.int 1,.int 1,.int 1]) (t2:TupK K a2 [.int 1,.int 0,.int 1,.int 1]) (t3:TupK K a3 [.int 1,.int 2,.int 1,.int 1]) (t4:TupK K a4 [.int 1,.int 1,.int 1,.int 1]) (t5:TupK K a5 [.int 2,.int 1,.int 1,.int 1]) (t6:TupK K a6 [.int 2,.int 1,.int 1,.int 1]) (t7:TupK K a7 [.int 2,.int 1,.int 2,.int 2]) (t8:TupK K a8 [.int 2,.int 1,.int 2,.int 2]) (t9:TupK K a9 [.int 2,.int 1,.int 2,.int 2]) (t10:TupK K a10 [.int 2,.int 1,.int 1,.int 1]) (t11:TupK K a11 [.int 2,.int 1,.int 1,.int 1]) (t12:TupK K a12 [.int 2,.int 1,.int 1,.int 1]) (t13:TupK K a13 [.int 2,.int 1,.int 1,.int 1]) (t14:TupK K a14 [.int 2,.int 1,.int 1,.int 1]) (t15:TupK K a15 [.int 2,.int 1,.int 1,.int 1]) (t16:TupK K a16 [.int 2,.int 1,.int 1,.int 1]) (t17:TupK K a17 [.int 0,.int 0,.int 1,.int 1]) (t18:TupK K a18 [.int 1,.int 0,.int 1,.int 1]) (t19:TupK K a19 [.int 1,.int 1,.int 3,.int 3]) (t20:TupK K a20 [.int 2,.int 0,.int 5,.int 12]) (t21:TupK K a21 [.int 0,.int 1,.int 1,.int 1]) (t22:TupK K a22 [.int 0,.int 1,.int 1,.int 1]) (t23:TupK K a23 [.int 0,.int 1,.int 1,.int 1]) (t24:TupK K a24 [.int 0,.int 1,.int 1,.int 1]) (t25:TupK K a25 [.int 1,.int 1,.int 3,.int 3]) (t26:TupK K a26 [.int 1,.int 0,.int 4,.int 4]) (t27:TupK K a27 [.int 4,.int 2,.int 8,.int 12]) (t28:TupK K a28 [.int 3,.int 2,.int 6,.int 6]) (t29:TupK K a29 [.int 3,.int 2,.int 6,.int 6]) (t30:TupK K a30 [.int 1,.int 0,.int 1,.int 1]) (t31:TupK K a31 [.int 1,.int 0,.int 1,.int 1]):∃ aT:Addr,Za0 mg "ROWS" (.ref aT)/\Zgq P w K aT:=by
  subst he
  have d:=Zed (P:=P) (w:=w) lk h2 (by
    have e:(entsOf es).map (·.1)=((entsOf es).map (fun p=>(p.1,p.2.2))).map (·.1):=by rw [List.map_map]; rfl
    rw [e,h3]
    show (["push", "drop", "copy", "swap", "add", "minus", "times", "over", "rest", "below", "same", "both", "either", "unlike", "up", "down", "jump", "jumpif", "load", "save", "me", "from", "sent", "word", "coin", "note", "call", "borrow", "look", "give", "fail"]:List Str).Nodup
    decide +kernel)
  have e:((entsOf es).map fun p=>((Sum.inr p.1:Key),p.2.2))=((entsOf es).map (fun p=>(p.1,p.2.2))).map fun q=>((Sum.inr q.1:Key),q.2):=by rw [List.map_map]; rfl
  rw [e,h3] at d
  refine ⟨aT,ZcH X G a,_,d,fun x t l p dd hx=>?_⟩
  have hm:=Zdd hx
  simp only [RT,List.mem_cons,Prod.mk.injEq,List.not_mem_nil,or_false] at hm
  rcases hm with ⟨rfl,rfl,rfl,rfl,rfl⟩|⟨rfl,rfl,rfl,rfl,rfl⟩|⟨rfl,rfl,rfl,rfl,rfl⟩|⟨rfl,rfl,rfl,rfl,rfl⟩|⟨rfl,rfl,rfl,rfl,rfl⟩|⟨rfl,rfl,rfl,rfl,rfl⟩|⟨rfl,rfl,rfl,rfl,rfl⟩|⟨rfl,rfl,rfl,rfl,rfl⟩|⟨rfl,rfl,rfl,rfl,rfl⟩|⟨rfl,rfl,rfl,rfl,rfl⟩|⟨rfl,rfl,rfl,rfl,rfl⟩|⟨rfl,rfl,rfl,rfl,rfl⟩|⟨rfl,rfl,rfl,rfl,rfl⟩|⟨rfl,rfl,rfl,rfl,rfl⟩|⟨rfl,rfl,rfl,rfl,rfl⟩|⟨rfl,rfl,rfl,rfl,rfl⟩|⟨rfl,rfl,rfl,rfl,rfl⟩|⟨rfl,rfl,rfl,rfl,rfl⟩|⟨rfl,rfl,rfl,rfl,rfl⟩|⟨rfl,rfl,rfl,rfl,rfl⟩|⟨rfl,rfl,rfl,rfl,rfl⟩|⟨rfl,rfl,rfl,rfl,rfl⟩|⟨rfl,rfl,rfl,rfl,rfl⟩|⟨rfl,rfl,rfl,rfl,rfl⟩|⟨rfl,rfl,rfl,rfl,rfl⟩|⟨rfl,rfl,rfl,rfl,rfl⟩|⟨rfl,rfl,rfl,rfl,rfl⟩|⟨rfl,rfl,rfl,rfl,rfl⟩|⟨rfl,rfl,rfl,rfl,rfl⟩|⟨rfl,rfl,rfl,rfl,rfl⟩|⟨rfl,rfl,rfl,rfl,rfl⟩
  . exact ⟨_,rfl,t1⟩
  . exact ⟨_,rfl,t2⟩
  . exact ⟨_,rfl,t3⟩
  . exact ⟨_,rfl,t4⟩
  . exact ⟨_,rfl,t5⟩
  . exact ⟨_,rfl,t6⟩
  . exact ⟨_,rfl,t7⟩
  . exact ⟨_,rfl,t8⟩
  . exact ⟨_,rfl,t9⟩
  . exact ⟨_,rfl,t10⟩
  . exact ⟨_,rfl,t11⟩
  . exact ⟨_,rfl,t12⟩
  . exact ⟨_,rfl,t13⟩
  . exact ⟨_,rfl,t14⟩
  . exact ⟨_,rfl,t15⟩
  . exact ⟨_,rfl,t16⟩
  . exact ⟨_,rfl,t17⟩
  . exact ⟨_,rfl,t18⟩
  . exact ⟨_,rfl,t19⟩
  . exact ⟨_,rfl,t20⟩
  . exact ⟨_,rfl,t21⟩
  . exact ⟨_,rfl,t22⟩
  . exact ⟨_,rfl,t23⟩
  . exact ⟨_,rfl,t24⟩
  . exact ⟨_,rfl,t25⟩
  . exact ⟨_,rfl,t26⟩
  . exact ⟨_,rfl,t27⟩
  . exact ⟨_,rfl,t28⟩
  . exact ⟨_,rfl,t29⟩
  . exact ⟨_,rfl,t30⟩
  . exact ⟨_,rfl,t31⟩
theorem ZmI {h:Heap} {aS:Addr} {es:Array DictEntry} {ep:Nat} {l:List (Str × Tok × Value)} {u1 u2 u3 u4 u5 u6 u7 u8 u9 u10 u11 u12:Value} (X:K.In h) (G:h.Ns mainGlobals mg) (a:PySem.W.nsIn K mainGlobals "SUMS" = some (some (.ref aS))) (lk:K.lookup aS=some ⟨.type "dict", none,.dict es ep,#[]⟩)
    (he:entsOf es=l) (h2:es=(l.map (sEnt w)).toArray) (h3:l.map (fun p=>(p.1,p.2.2))=[(("add" : Str),u1),(("minus" : Str),u2),(("times" : Str),u3),(("over" : Str),u4),(("rest" : Str),u5),(("below" : Str),u6),(("same" : Str),u7),(("both" : Str),u8),(("either" : Str),u9),(("unlike" : Str),u10),(("up" : Str),u11),(("down" : Str),u12)])
    (a1:PySem.W.nsIn K mainGlobals "added" = some (some u1)) (a2:PySem.W.nsIn K mainGlobals "lessened" = some (some u2)) (a3:PySem.W.nsIn K mainGlobals "multiplied" = some (some u3)) (a4:PySem.W.nsIn K mainGlobals "contained" = some (some u4)) (a5:PySem.W.nsIn K mainGlobals "left_over" = some (some u5)) (a6:PySem.W.nsIn K mainGlobals "is_below" = some (some u6)) (a7:PySem.W.nsIn K mainGlobals "is_same" = some (some u7)) (a8:PySem.W.nsIn K mainGlobals "in_both" = some (some u8)) (a9:PySem.W.nsIn K mainGlobals "in_either" = some (some u9)) (a10:PySem.W.nsIn K mainGlobals "in_just_one" = some (some u10)) (a11:PySem.W.nsIn K mainGlobals "doubled" = some (some u11)) (a12:PySem.W.nsIn K mainGlobals "halved" = some (some u12)):∃ (aS:Addr) (u1 u2 u3 u4 u5 u6 u7 u8 u9 u10 u11 u12:Value),Za0 mg "SUMS" (.ref aS)/\Zde P w K aS [(Sum.inr "add", u1),(Sum.inr "minus", u2),(Sum.inr "times", u3),(Sum.inr "over", u4),(Sum.inr "rest", u5),(Sum.inr "below", u6),(Sum.inr "same", u7),(Sum.inr "both", u8),(Sum.inr "either", u9),(Sum.inr "unlike", u10),(Sum.inr "up", u11),(Sum.inr "down", u12)]/\mg "added" = some u1/\mg "lessened" = some u2/\mg "multiplied" = some u3/\mg "contained" = some u4/\mg "left_over" = some u5/\mg "is_below" = some u6/\mg "is_same" = some u7/\mg "in_both" = some u8/\mg "in_either" = some u9/\mg "in_just_one" = some u10/\mg "doubled" = some u11/\mg "halved" = some u12:=by
  subst he
  refine ⟨aS,u1,u2,u3,u4,u5,u6,u7,u8,u9,u10,u11,u12,ZcH X G a,?_,PySem.W.mg_of X G a1,PySem.W.mg_of X G a2,PySem.W.mg_of X G a3,PySem.W.mg_of X G a4,PySem.W.mg_of X G a5,PySem.W.mg_of X G a6,PySem.W.mg_of X G a7,PySem.W.mg_of X G a8,PySem.W.mg_of X G a9,PySem.W.mg_of X G a10,PySem.W.mg_of X G a11,PySem.W.mg_of X G a12⟩
  have d:=Zed (P:=P) (w:=w) lk h2 (by
    have e:(entsOf es).map (·.1)=((entsOf es).map (fun p=>(p.1,p.2.2))).map (·.1):=by rw [List.map_map]; rfl
    rw [e,h3]
    show (["add", "minus", "times", "over", "rest", "below", "same", "both", "either", "unlike", "up", "down"]:List Str).Nodup
    decide +kernel)
  have e:((entsOf es).map fun p=>((Sum.inr p.1:Key),p.2.2))=((entsOf es).map (fun p=>(p.1,p.2.2))).map fun q=>((Sum.inr q.1:Key),q.2):=by rw [List.map_map]; rfl
  rw [e,h3] at d
  exact d
theorem do_at {h:Heap} {aD:Addr} {es:Array DictEntry} {ep:Nat} {l:List (Str × Tok × Value)} {u1 u2 u3 u4 u5 u6 u7 u8 u9 u10 u11 u12 u13 u14 u15 u16 u17:Value} (X:K.In h) (G:h.Ns mainGlobals mg) (a:PySem.W.nsIn K mainGlobals "DOINGS" = some (some (.ref aD))) (lk:K.lookup aD=some ⟨.type "dict", none,.dict es ep,#[]⟩)
    (he:entsOf es=l) (h2:es=(l.map (sEnt w)).toArray) (h3:l.map (fun p=>(p.1,p.2.2))=[(("push" : Str),u1),(("drop" : Str),u2),(("copy" : Str),u3),(("swap" : Str),u4),(("add" : Str),u5),(("minus" : Str),u5),(("times" : Str),u5),(("over" : Str),u5),(("rest" : Str),u5),(("below" : Str),u5),(("same" : Str),u5),(("both" : Str),u5),(("either" : Str),u5),(("unlike" : Str),u5),(("up" : Str),u5),(("down" : Str),u5),(("jump" : Str),u6),(("jumpif" : Str),u7),(("load" : Str),u8),(("save" : Str),u9),(("me" : Str),u10),(("from" : Str),u11),(("sent" : Str),u12),(("word" : Str),u13),(("coin" : Str),u14),(("note" : Str),u15),(("give" : Str),u16),(("fail" : Str),u17)])
    (a_push_row:PySem.W.nsIn K mainGlobals "push_row" = some (some u1)) (a_drop_row:PySem.W.nsIn K mainGlobals "drop_row" = some (some u2)) (a_copy_row:PySem.W.nsIn K mainGlobals "copy_row" = some (some u3)) (a_swap_row:PySem.W.nsIn K mainGlobals "swap_row" = some (some u4)) (a_reckon_row:PySem.W.nsIn K mainGlobals "reckon_row" = some (some u5)) (a_jump_row:PySem.W.nsIn K mainGlobals "jump_row" = some (some u6)) (a_jumpif_row:PySem.W.nsIn K mainGlobals "jumpif_row" = some (some u7)) (a_load_row:PySem.W.nsIn K mainGlobals "load_row" = some (some u8)) (a_save_row:PySem.W.nsIn K mainGlobals "save_row" = some (some u9)) (a_me_row:PySem.W.nsIn K mainGlobals "me_row" = some (some u10)) (a_from_row:PySem.W.nsIn K mainGlobals "from_row" = some (some u11)) (a_sent_row:PySem.W.nsIn K mainGlobals "sent_row" = some (some u12)) (a_word_row:PySem.W.nsIn K mainGlobals "word_row" = some (some u13)) (a_coin_row:PySem.W.nsIn K mainGlobals "coin_row" = some (some u14)) (a_note_row:PySem.W.nsIn K mainGlobals "note_row" = some (some u15)) (a_give_row:PySem.W.nsIn K mainGlobals "give_row" = some (some u16)) (a_fail_row:PySem.W.nsIn K mainGlobals "fail_row" = some (some u17)):∃ (aD:Addr) (u1 u2 u3 u4 u5 u6 u7 u8 u9 u10 u11 u12 u13 u14 u15 u16 u17:Value),Za0 mg "DOINGS" (.ref aD)/\Zde P w K aD [(Sum.inr "push", u1),(Sum.inr "drop", u2),(Sum.inr "copy", u3),(Sum.inr "swap", u4),(Sum.inr "add", u5),(Sum.inr "minus", u5),(Sum.inr "times", u5),(Sum.inr "over", u5),(Sum.inr "rest", u5),(Sum.inr "below", u5),(Sum.inr "same", u5),(Sum.inr "both", u5),(Sum.inr "either", u5),(Sum.inr "unlike", u5),(Sum.inr "up", u5),(Sum.inr "down", u5),(Sum.inr "jump", u6),(Sum.inr "jumpif", u7),(Sum.inr "load", u8),(Sum.inr "save", u9),(Sum.inr "me", u10),(Sum.inr "from", u11),(Sum.inr "sent", u12),(Sum.inr "word", u13),(Sum.inr "coin", u14),(Sum.inr "note", u15),(Sum.inr "give", u16),(Sum.inr "fail", u17)]/\mg "push_row" = some u1/\mg "drop_row" = some u2/\mg "copy_row" = some u3/\mg "swap_row" = some u4/\mg "reckon_row" = some u5/\mg "jump_row" = some u6/\mg "jumpif_row" = some u7/\mg "load_row" = some u8/\mg "save_row" = some u9/\mg "me_row" = some u10/\mg "from_row" = some u11/\mg "sent_row" = some u12/\mg "word_row" = some u13/\mg "coin_row" = some u14/\mg "note_row" = some u15/\mg "give_row" = some u16/\mg "fail_row" = some u17:=by
  subst he
  refine ⟨aD,u1,u2,u3,u4,u5,u6,u7,u8,u9,u10,u11,u12,u13,u14,u15,u16,u17,ZcH X G a,?_,PySem.W.mg_of X G a_push_row,PySem.W.mg_of X G a_drop_row,PySem.W.mg_of X G a_copy_row,PySem.W.mg_of X G a_swap_row,PySem.W.mg_of X G a_reckon_row,PySem.W.mg_of X G a_jump_row,PySem.W.mg_of X G a_jumpif_row,PySem.W.mg_of X G a_load_row,PySem.W.mg_of X G a_save_row,PySem.W.mg_of X G a_me_row,PySem.W.mg_of X G a_from_row,PySem.W.mg_of X G a_sent_row,PySem.W.mg_of X G a_word_row,PySem.W.mg_of X G a_coin_row,PySem.W.mg_of X G a_note_row,PySem.W.mg_of X G a_give_row,PySem.W.mg_of X G a_fail_row⟩
  have d:=Zed (P:=P) (w:=w) lk h2 (by
    have e:(entsOf es).map (·.1)=((entsOf es).map (fun p=>(p.1,p.2.2))).map (·.1):=by rw [List.map_map]; rfl
    rw [e,h3]
    show (["push", "drop", "copy", "swap", "add", "minus", "times", "over", "rest", "below", "same", "both", "either", "unlike", "up", "down", "jump", "jumpif", "load", "save", "me", "from", "sent", "word", "coin", "note", "give", "fail"]:List Str).Nodup
    decide +kernel)
  have e:((entsOf es).map fun p=>((Sum.inr p.1:Key),p.2.2))=((entsOf es).map (fun p=>(p.1,p.2.2))).map fun q=>((Sum.inr q.1:Key),q.2):=by rw [List.map_map]; rfl
  rw [e,h3] at d
  exact d
theorem Zj7:FnScope ["self", "kind", "who", "whose", "caller", "coin", "word", "given", "depth", "looking"] ["self", "kind", "who", "whose", "caller", "coin", "word", "given", "depth", "looking"] (Zac Zax):=⟨rfl,rfl,rfl,by decide +kernel,rfl,by decide +kernel,by decide +kernel⟩
theorem ZgU {cFrame:Addr} {tok:Tok} (D:Zcs K cFrame "__init__" "Frame.__init__" Zax #[.int 1 tok,.bool false]) (tFrame:T_Frame K mg cFrame) (ds:List Value) {dvs:List V} (v:Vals dvs ds)
    (hb:∀ (T:Addr) (kV doc pm:Value) (an:Option Addr) (cdv ct:Value) (us:List Value),(us ++ ds).length=10->∃ k:Option (Array Value)->Sem (List (Str × Value)),bindArgs (PySem.W.fnOf "__init__" "Frame.__init__" (Zaw Zax) (Zas Zax) (Zac Zax) (.ref T) kV doc pm an cdv ct) ⟨us,[]⟩=seqItems? (.ref T) >>= k/\k (some #[.int 1 tok,.bool false])=pure ((["self", "kind", "who", "whose", "caller", "coin", "word", "given", "depth", "looking"]:List Str).zip (us ++ ds))):Zg7 P w K mg base 1 "Frame" cFrame (Zet cFrame) dvs:=by
  refine ZkQ (N:=["self", "kind", "who", "whose", "caller", "coin", "word", "given", "depth", "looking"]) (ps:=["self", "kind", "who", "whose", "caller", "coin", "word", "given", "depth", "looking"]) D tFrame.k Zj7 (fun vs H Q E h=>?_) (fun f cdv A outer s H vs Q E hr h=>?_) ds v hb
  . obtain ⟨a,dx,kind,who,whose,caller,coin,word,given,depth,looking,rfl,_⟩:=h; rfl
  . obtain ⟨a,dx,kind,who,whose,caller,coin,word,given,depth,looking,rfl,ha,k⟩:=h
    refine ⟨_,(Zad (ZaU (pv 0) (pv 1) rfl)
      (Zad (ZaU (pv 0) (pv 2) rfl)
      (Zad (ZaU (pv 0) (pv 3) rfl)
      (Zad (ZaU (pv 0) (pv 4) rfl)
      (Zad (ZaU (pv 0) (pv 5) rfl)
      (Zad (ZaU (pv 0) (pv 6) rfl)
      (Zad (ZaU (pv 0) (pv 7) rfl)
      (Zad (ZaU (pv 0) (pv 8) rfl)
      (Zad (ZaU (pv 0) (pv 9) rfl)
      (Zad (ZaU (pv 0) Zag rfl)
      (Zad (ZaU (pv 0) (Zbt Zae) rfl)
      (Zad (ZaU (pv 0) Zag rfl)
      (Zad (ZaU (pv 0) (Zbt Zae) rfl)
      (Zad (ZaU (pv 0) Zcn rfl)
      (Zaf (ZaU (pv 0) Zag rfl)))))))))))))))),?_⟩
    walk_at "nx"
    repeat walk_at "rdk"
    refine Zau ha tFrame.k.cl tFrame.n_kind (by decide) ?_
    repeat walk_at "rdk"
    refine Zau Zah tFrame.k.cl tFrame.n_who (by show 1 < 1000; decide) ?_
    rw [ZaY]
    repeat walk_at "rdk"
    refine Zau Zah tFrame.k.cl tFrame.n_whose (by show 2 < 1000; decide) ?_
    rw [ZaY]
    repeat walk_at "rdk"
    refine Zau Zah tFrame.k.cl tFrame.n_caller (by show 3 < 1000; decide) ?_
    rw [ZaY]
    repeat walk_at "rdk"
    refine Zau Zah tFrame.k.cl tFrame.n_coin (by show 4 < 1000; decide) ?_
    rw [ZaY]
    repeat walk_at "rdk"
    refine Zau Zah tFrame.k.cl tFrame.n_word (by show 5 < 1000; decide) ?_
    rw [ZaY]
    repeat walk_at "rdk"
    refine Zau Zah tFrame.k.cl tFrame.n_given (by show 6 < 1000; decide) ?_
    rw [ZaY]
    repeat walk_at "rdk"
    refine Zau Zah tFrame.k.cl tFrame.n_depth (by show 7 < 1000; decide) ?_
    rw [ZaY]
    repeat walk_at "rdk"
    refine Zau Zah tFrame.k.cl tFrame.n_looking (by show 8 < 1000; decide) ?_
    rw [ZaY]
    repeat walk_at "rdk"
    refine Zau Zah tFrame.k.cl tFrame.n_used (by show 9 < 1000; decide) ?_
    rw [ZaY]
    repeat walk_at "rdk"
    refine ⟨by decide,fun l hl=>?_⟩
    have nl:l ≠ a:=fun z=>by rw [z,Zah] at hl; cases hl
    have hlH:H l=none:=by rw [Zak nl] at hl; exact hl
    repeat walk_at "rdk"
    refine Zau (by rw [Zak (Ne.symm nl)]; exact Zah) tFrame.k.cl tFrame.n_stack (by show 10 < 1000; decide) ?_
    repeat walk_at "rdk"
    refine Zau Zah tFrame.k.cl tFrame.n_row (by show 11 < 1000; decide) ?_
    rw [ZaY]
    repeat walk_at "rdk"
    refine ⟨by decide,fun q hq=>?_⟩
    have nq:q ≠ a:=fun z=>by rw [z,Zah] at hq; cases hq
    have nql:q ≠ l:=fun z=>by rw [Zak nq,z,Zah] at hq; cases hq
    have hqH:H q=none:=by rw [Zak nq,Zak nql,Zak nq] at hq; exact hq
    repeat walk_at "rdk"
    refine Zau (by rw [Zak (Ne.symm nq)]; exact Zah) tFrame.k.cl tFrame.n_steps (by show 12 < 1000; decide) ?_
    repeat walk_at "rdk"
    refine Zau Zah tFrame.k.cl tFrame.n_end (by show 13 < 1000; decide) ?_
    rw [ZaY]
    repeat walk_at "rdk"
    refine Zau Zah tFrame.k.cl tFrame.n_answer (by show 14 < 1000; decide) ?_
    rw [ZaY]
    refine k l q _ hlH hqH ⟨?_,?_,?_,Ne.symm nql⟩ ?_
    . show upd _ a _ a=_
      rw [Zah]; rfl
    . show upd _ a _ l=_
      rw [Zak nl,Zak (Ne.symm nql),Zak nl,Zah]; rfl
    . show upd _ a _ q=_
      rw [Zak nq,Zah]
    . intro b o e n
      rw [Zak n,Zak (Zam e hqH),Zak n,Zak (Zam e hlH),Zak n]
      exact e
theorem mkFI {K:PySem.W.Frag} {h:Heap} {mg:Str->Option Value} {C f T:Addr} {oc c2:Value} {od an d2:Option Addr} {osl s2:Array (Option Value)} {kV doc pm cdv ct:Value} {tok:Tok} {n:Nat} (X:K.In h) (G:h.Ns mainGlobals mg) (aC:PySem.W.nsIn K mainGlobals "Frame" = some (some (.ref C)))
    (a:PySem.W.findIn K (.ref C) "__init__" = some (some (.ref f))) (i:PySem.W.isFn K (.ref f)=true) (l:K.lookup f=some ⟨oc,od,.func (PySem.W.fnOf "__init__" "Frame.__init__" (Zaw Zax) (Zas Zax) (Zac Zax) (.ref T) kV doc pm an cdv ct),osl⟩)
    (c:PySem.W.codeIn K cdv "Frame.__init__" = true) (k:PySem.W.keepIn K (.ref f)=true) (d:K.lookup T=some ⟨c2,d2,.seq #[.int 1 tok,.bool false] n,s2⟩):∃ C tok,mg "Frame" = some (.ref C)/\Zcs K C "__init__" "Frame.__init__" Zax #[.int 1 tok,.bool false] :=
  ⟨C,tok,PySem.W.mg_of X G aC,Ziz a i l c k d⟩
theorem Zj8 {P:Program} {w:World} {K:PySem.W.Frag} {mg:Str->Option Value} {base:Heap} {cFrame:Addr} {tok:Tok} (D:Zcs K cFrame "__init__" "Frame.__init__" Zax #[.int 1 tok,.bool false]) (tFrame:T_Frame K mg cFrame):Zg7 P w K mg base 1 "Frame" cFrame (Zet cFrame) [.int 1,.bl false] :=
  ZgU D tFrame [.int 1 tok,.bool false] (.cons ⟨_,rfl⟩ (.cons rfl .nil)) (fun T kV doc pm an cdv ct us hl=>bd8 (R:=fun us=>∃ k:Option (Array Value)->Sem (List (Str × Value)),bindArgs _ ⟨us,[]⟩=seqItems? (.ref T) >>= k/\k (some _)=pure (List.zip _ (us ++ [.int 1 tok,.bool false]))) (fun _ _ _ _ _ _ _ _=>⟨_,rfl,rfl⟩) us (by rw [List.length_append] at hl; exact Nat.add_right_cancel hl))
theorem Zj9 {P:Program} {w:World} {K:PySem.W.Frag} {mg:Str->Option Value} {base:Heap} {cFrame:Addr} {tok:Tok} (D:Zcs K cFrame "__init__" "Frame.__init__" Zax #[.int 1 tok,.bool false]) (tFrame:T_Frame K mg cFrame):Zg7 P w K mg base 1 "Frame" cFrame (Zet cFrame) [] :=
  ZgU D tFrame [] .nil (fun T kV doc pm an cdv ct us hl=>bd10 (R:=fun us=>∃ k:Option (Array Value)->Sem (List (Str × Value)),bindArgs _ ⟨us,[]⟩=seqItems? (.ref T) >>= k/\k (some _)=pure (List.zip _ (us ++ []))) (fun _ _ _ _ _ _ _ _ _ _=>⟨_,rfl,rfl⟩) us (by rw [List.length_append] at hl; exact hl))
theorem ZiP {K:PySem.W.Frag} {h:Heap} {mg:Str->Option Value} {C:Addr} {f0:Addr} {oc0 kV0 dc0 pm0 cd0 ct0:Value} {od0 an0:Option Addr} {sl0:Array (Option Value)} {f1:Addr} {oc1 kV1 dc1 pm1 cd1 ct1:Value} {od1 an1:Option Addr} {sl1:Array (Option Value)} {f2:Addr} {oc2 kV2 dc2 pm2 cd2 ct2:Value} {od2 an2:Option Addr} {sl2:Array (Option Value)} (X:K.In h) (G:h.Ns mainGlobals mg) (aC:PySem.W.nsIn K mainGlobals "Account" = some (some (.ref C))) (pg:PySem.W.plainGet K C Str.empty=true) (hd:PySem.W.hasDictIn K C=true) (po:PySem.W.plainOver K C=true) (sa:PySem.W.findIn K (.ref C) "__setattr__" = some (some (.builtin "object.__setattr__"))) (mk:PySem.W.makesIn K C=true) (kc:PySem.W.keepIn K (.ref C)=true) (ncoin:PySem.W.findIn K (.ref C) "coin" = some none) (npurse:PySem.W.findIn K (.ref C) "purse" = some none) (ncount:PySem.W.findIn K (.ref C) "count" = some none) (nprogram:PySem.W.findIn K (.ref C) "program" = some none) (nstore:PySem.W.findIn K (.ref C) "store" = some none) (a__init__:PySem.W.findIn K (.ref C) "__init__" = some (some (.ref f0))) (i__init__:PySem.W.isFn K (.ref f0)=true) (l__init__:K.lookup f0=some ⟨oc0,od0,.func (PySem.W.fnOf "__init__" "Account.__init__" (Zaw ZaR) (Zas ZaR) (Zac ZaR) .none kV0 dc0 pm0 an0 cd0 ct0),sl0⟩) (c__init__:PySem.W.codeIn K cd0 "Account.__init__" = true) (k__init__:PySem.W.keepIn K (.ref f0)=true) (aloaded:PySem.W.findIn K (.ref C) "loaded" = some (some (.ref f1))) (iloaded:PySem.W.isFn K (.ref f1)=true) (lloaded:K.lookup f1=some ⟨oc1,od1,.func (PySem.W.fnOf "loaded" "Account.loaded" (Zaw ZaZ) (Zas ZaZ) (Zac ZaZ) .none kV1 dc1 pm1 an1 cd1 ct1),sl1⟩) (cloaded:PySem.W.codeIn K cd1 "Account.loaded" = true) (kloaded:PySem.W.keepIn K (.ref f1)=true) (akeep:PySem.W.findIn K (.ref C) "keep" = some (some (.ref f2))) (ikeep:PySem.W.isFn K (.ref f2)=true) (lkeep:K.lookup f2=some ⟨oc2,od2,.func (PySem.W.fnOf "keep" "Account.keep" (Zaw Zba) (Zas Zba) (Zac Zba) .none kV2 dc2 pm2 an2 cd2 ct2),sl2⟩) (ckeep:PySem.W.codeIn K cd2 "Account.keep" = true) (kkeep:PySem.W.keepIn K (.ref f2)=true):∃ C,T_Account K mg C/\Zao K C "__init__" "Account.__init__" ZaR/\Zao K C "loaded" "Account.loaded" ZaZ/\Zao K C "keep" "Account.keep" Zba :=
  ⟨C,⟨⟨⟨pg,hd,po,sa⟩,mk,kc,PySem.W.mg_of X G aC⟩,ncoin,npurse,ncount,nprogram,nstore⟩,ZaB a__init__ i__init__ l__init__ c__init__ k__init__,ZaB aloaded iloaded lloaded cloaded kloaded,ZaB akeep ikeep lkeep ckeep kkeep⟩
theorem ZmJ {K:PySem.W.Frag} {h:Heap} {mg:Str->Option Value} {C:Addr} {f0:Addr} {oc0 kV0 dc0 pm0 cd0 ct0:Value} {od0 an0:Option Addr} {sl0:Array (Option Value)} {f1:Addr} {oc1 kV1 dc1 pm1 cd1 ct1:Value} {od1 an1:Option Addr} {sl1:Array (Option Value)} {f2:Addr} {oc2 kV2 dc2 pm2 cd2 ct2:Value} {od2 an2:Option Addr} {sl2:Array (Option Value)} {f3:Addr} {oc3 kV3 dc3 pm3 cd3 ct3:Value} {od3 an3:Option Addr} {sl3:Array (Option Value)} (X:K.In h) (G:h.Ns mainGlobals mg) (aC:PySem.W.nsIn K mainGlobals "Save" = some (some (.ref C))) (pg:PySem.W.plainGet K C Str.empty=true) (hd:PySem.W.hasDictIn K C=true) (po:PySem.W.plainOver K C=true) (sa:PySem.W.findIn K (.ref C) "__setattr__" = some (some (.builtin "object.__setattr__"))) (mk:PySem.W.makesIn K C=true) (kc:PySem.W.keepIn K (.ref C)=true) (nslot:PySem.W.findIn K (.ref C) "slot" = some none) (nplace:PySem.W.findIn K (.ref C) "place" = some none) (nold:PySem.W.findIn K (.ref C) "old" = some none) (nnew:PySem.W.findIn K (.ref C) "new" = some none) (a__init__:PySem.W.findIn K (.ref C) "__init__" = some (some (.ref f0))) (i__init__:PySem.W.isFn K (.ref f0)=true) (l__init__:K.lookup f0=some ⟨oc0,od0,.func (PySem.W.fnOf "__init__" "Save.__init__" (Zaw Za3) (Zas Za3) (Zac Za3) .none kV0 dc0 pm0 an0 cd0 ct0),sl0⟩) (c__init__:PySem.W.codeIn K cd0 "Save.__init__" = true) (k__init__:PySem.W.keepIn K (.ref f0)=true) (ado:PySem.W.findIn K (.ref C) "do" = some (some (.ref f1))) (ido:PySem.W.isFn K (.ref f1)=true) (ldo:K.lookup f1=some ⟨oc1,od1,.func (PySem.W.fnOf "do" "Save.do" (Zaw ZbU) (Zas ZbU) (Zac ZbU) .none kV1 dc1 pm1 an1 cd1 ct1),sl1⟩) (cdo:PySem.W.codeIn K cd1 "Save.do" = true) (kdo:PySem.W.keepIn K (.ref f1)=true) (aundo:PySem.W.findIn K (.ref C) "undo" = some (some (.ref f2))) (iundo:PySem.W.isFn K (.ref f2)=true) (lundo:K.lookup f2=some ⟨oc2,od2,.func (PySem.W.fnOf "undo" "Save.undo" (Zaw Zbv) (Zas Zbv) (Zac Zbv) .none kV2 dc2 pm2 an2 cd2 ct2),sl2⟩) (cundo:PySem.W.codeIn K cd2 "Save.undo" = true) (kundo:PySem.W.keepIn K (.ref f2)=true) (atold:PySem.W.findIn K (.ref C) "told" = some (some (.ref f3))) (itold:PySem.W.isFn K (.ref f3)=true) (ltold:K.lookup f3=some ⟨oc3,od3,.func (PySem.W.fnOf "told" "Save.told" (Zaw Zbw) (Zas Zbw) (Zac Zbw) .none kV3 dc3 pm3 an3 cd3 ct3),sl3⟩) (ctold:PySem.W.codeIn K cd3 "Save.told" = true) (ktold:PySem.W.keepIn K (.ref f3)=true):∃ C,T_Save K mg C/\Zao K C "__init__" "Save.__init__" Za3/\Zao K C "do" "Save.do" ZbU/\Zao K C "undo" "Save.undo" Zbv/\Zao K C "told" "Save.told" Zbw :=
  ⟨C,⟨⟨⟨pg,hd,po,sa⟩,mk,kc,PySem.W.mg_of X G aC⟩,nslot,nplace,nold,nnew⟩,ZaB a__init__ i__init__ l__init__ c__init__ k__init__,ZaB ado ido ldo cdo kdo,ZaB aundo iundo lundo cundo kundo,ZaB atold itold ltold ctold ktold⟩
theorem ZmK {K:PySem.W.Frag} {h:Heap} {mg:Str->Option Value} {C:Addr} {f0:Addr} {oc0 kV0 dc0 pm0 cd0 ct0:Value} {od0 an0:Option Addr} {sl0:Array (Option Value)} {f1:Addr} {oc1 kV1 dc1 pm1 cd1 ct1:Value} {od1 an1:Option Addr} {sl1:Array (Option Value)} {f2:Addr} {oc2 kV2 dc2 pm2 cd2 ct2:Value} {od2 an2:Option Addr} {sl2:Array (Option Value)} {f3:Addr} {oc3 kV3 dc3 pm3 cd3 ct3:Value} {od3 an3:Option Addr} {sl3:Array (Option Value)} (X:K.In h) (G:h.Ns mainGlobals mg) (aC:PySem.W.nsIn K mainGlobals "Move" = some (some (.ref C))) (pg:PySem.W.plainGet K C Str.empty=true) (hd:PySem.W.hasDictIn K C=true) (po:PySem.W.plainOver K C=true) (sa:PySem.W.findIn K (.ref C) "__setattr__" = some (some (.builtin "object.__setattr__"))) (mk:PySem.W.makesIn K C=true) (kc:PySem.W.keepIn K (.ref C)=true) (nslot:PySem.W.findIn K (.ref C) "slot" = some none) (ntaker:PySem.W.findIn K (.ref C) "taker" = some none) (nmany:PySem.W.findIn K (.ref C) "many" = some none) (a__init__:PySem.W.findIn K (.ref C) "__init__" = some (some (.ref f0))) (i__init__:PySem.W.isFn K (.ref f0)=true) (l__init__:K.lookup f0=some ⟨oc0,od0,.func (PySem.W.fnOf "__init__" "Move.__init__" (Zaw Za4) (Zas Za4) (Zac Za4) .none kV0 dc0 pm0 an0 cd0 ct0),sl0⟩) (c__init__:PySem.W.codeIn K cd0 "Move.__init__" = true) (k__init__:PySem.W.keepIn K (.ref f0)=true) (ado:PySem.W.findIn K (.ref C) "do" = some (some (.ref f1))) (ido:PySem.W.isFn K (.ref f1)=true) (ldo:K.lookup f1=some ⟨oc1,od1,.func (PySem.W.fnOf "do" "Move.do" (Zaw ZbV) (Zas ZbV) (Zac ZbV) .none kV1 dc1 pm1 an1 cd1 ct1),sl1⟩) (cdo:PySem.W.codeIn K cd1 "Move.do" = true) (kdo:PySem.W.keepIn K (.ref f1)=true) (aundo:PySem.W.findIn K (.ref C) "undo" = some (some (.ref f2))) (iundo:PySem.W.isFn K (.ref f2)=true) (lundo:K.lookup f2=some ⟨oc2,od2,.func (PySem.W.fnOf "undo" "Move.undo" (Zaw Zbx) (Zas Zbx) (Zac Zbx) .none kV2 dc2 pm2 an2 cd2 ct2),sl2⟩) (cundo:PySem.W.codeIn K cd2 "Move.undo" = true) (kundo:PySem.W.keepIn K (.ref f2)=true) (atold:PySem.W.findIn K (.ref C) "told" = some (some (.ref f3))) (itold:PySem.W.isFn K (.ref f3)=true) (ltold:K.lookup f3=some ⟨oc3,od3,.func (PySem.W.fnOf "told" "Move.told" (Zaw Zby) (Zas Zby) (Zac Zby) .none kV3 dc3 pm3 an3 cd3 ct3),sl3⟩) (ctold:PySem.W.codeIn K cd3 "Move.told" = true) (ktold:PySem.W.keepIn K (.ref f3)=true):∃ C,T_Move K mg C/\Zao K C "__init__" "Move.__init__" Za4/\Zao K C "do" "Move.do" ZbV/\Zao K C "undo" "Move.undo" Zbx/\Zao K C "told" "Move.told" Zby :=
  ⟨C,⟨⟨⟨pg,hd,po,sa⟩,mk,kc,PySem.W.mg_of X G aC⟩,nslot,ntaker,nmany⟩,ZaB a__init__ i__init__ l__init__ c__init__ k__init__,ZaB ado ido ldo cdo kdo,ZaB aundo iundo lundo cundo kundo,ZaB atold itold ltold ctold ktold⟩
theorem ZmL {K:PySem.W.Frag} {h:Heap} {mg:Str->Option Value} {C:Addr} {f0:Addr} {oc0 kV0 dc0 pm0 cd0 ct0:Value} {od0 an0:Option Addr} {sl0:Array (Option Value)} {f1:Addr} {oc1 kV1 dc1 pm1 cd1 ct1:Value} {od1 an1:Option Addr} {sl1:Array (Option Value)} {f2:Addr} {oc2 kV2 dc2 pm2 cd2 ct2:Value} {od2 an2:Option Addr} {sl2:Array (Option Value)} {f3:Addr} {oc3 kV3 dc3 pm3 cd3 ct3:Value} {od3 an3:Option Addr} {sl3:Array (Option Value)} (X:K.In h) (G:h.Ns mainGlobals mg) (aC:PySem.W.nsIn K mainGlobals "Note" = some (some (.ref C))) (pg:PySem.W.plainGet K C Str.empty=true) (hd:PySem.W.hasDictIn K C=true) (po:PySem.W.plainOver K C=true) (sa:PySem.W.findIn K (.ref C) "__setattr__" = some (some (.builtin "object.__setattr__"))) (mk:PySem.W.makesIn K C=true) (kc:PySem.W.keepIn K (.ref C)=true) (nslot:PySem.W.findIn K (.ref C) "slot" = some none) (nnumber:PySem.W.findIn K (.ref C) "number" = some none) (a__init__:PySem.W.findIn K (.ref C) "__init__" = some (some (.ref f0))) (i__init__:PySem.W.isFn K (.ref f0)=true) (l__init__:K.lookup f0=some ⟨oc0,od0,.func (PySem.W.fnOf "__init__" "Note.__init__" (Zaw Za5) (Zas Za5) (Zac Za5) .none kV0 dc0 pm0 an0 cd0 ct0),sl0⟩) (c__init__:PySem.W.codeIn K cd0 "Note.__init__" = true) (k__init__:PySem.W.keepIn K (.ref f0)=true) (atold:PySem.W.findIn K (.ref C) "told" = some (some (.ref f1))) (itold:PySem.W.isFn K (.ref f1)=true) (ltold:K.lookup f1=some ⟨oc1,od1,.func (PySem.W.fnOf "told" "Note.told" (Zaw Zbz) (Zas Zbz) (Zac Zbz) .none kV1 dc1 pm1 an1 cd1 ct1),sl1⟩) (ctold:PySem.W.codeIn K cd1 "Note.told" = true) (ktold:PySem.W.keepIn K (.ref f1)=true) (ado:PySem.W.findIn K (.ref C) "do" = some (some (.ref f2))) (ido:PySem.W.isFn K (.ref f2)=true) (ldo:K.lookup f2=some ⟨oc2,od2,.func (PySem.W.fnOf "do" "Deed.do" (Zaw ZbW) (Zas ZbW) (Zac ZbW) .none kV2 dc2 pm2 an2 cd2 ct2),sl2⟩) (cdo:PySem.W.codeIn K cd2 "Deed.do" = true) (kdo:PySem.W.keepIn K (.ref f2)=true) (aundo:PySem.W.findIn K (.ref C) "undo" = some (some (.ref f3))) (iundo:PySem.W.isFn K (.ref f3)=true) (lundo:K.lookup f3=some ⟨oc3,od3,.func (PySem.W.fnOf "undo" "Deed.undo" (Zaw ZbB) (Zas ZbB) (Zac ZbB) .none kV3 dc3 pm3 an3 cd3 ct3),sl3⟩) (cundo:PySem.W.codeIn K cd3 "Deed.undo" = true) (kundo:PySem.W.keepIn K (.ref f3)=true):∃ C,T_Note K mg C/\Zao K C "__init__" "Note.__init__" Za5/\Zao K C "told" "Note.told" Zbz/\Zao K C "do" "Deed.do" ZbW/\Zao K C "undo" "Deed.undo" ZbB :=
  ⟨C,⟨⟨⟨pg,hd,po,sa⟩,mk,kc,PySem.W.mg_of X G aC⟩,nslot,nnumber⟩,ZaB a__init__ i__init__ l__init__ c__init__ k__init__,ZaB atold itold ltold ctold ktold,ZaB ado ido ldo cdo kdo,ZaB aundo iundo lundo cundo kundo⟩
theorem ZiQ {K:PySem.W.Frag} {h:Heap} {mg:Str->Option Value} {C:Addr} {f0:Addr} {oc0 kV0 dc0 pm0 cd0 ct0:Value} {od0 an0:Option Addr} {sl0:Array (Option Value)} {f1:Addr} {oc1 kV1 dc1 pm1 cd1 ct1:Value} {od1 an1:Option Addr} {sl1:Array (Option Value)} {f2:Addr} {oc2 kV2 dc2 pm2 cd2 ct2:Value} {od2 an2:Option Addr} {sl2:Array (Option Value)} {f3:Addr} {oc3 kV3 dc3 pm3 cd3 ct3:Value} {od3 an3:Option Addr} {sl3:Array (Option Value)} {f4:Addr} {oc4 kV4 dc4 pm4 cd4 ct4:Value} {od4 an4:Option Addr} {sl4:Array (Option Value)} (X:K.In h) (G:h.Ns mainGlobals mg) (aC:PySem.W.nsIn K mainGlobals "Journal" = some (some (.ref C))) (pg:PySem.W.plainGet K C Str.empty=true) (hd:PySem.W.hasDictIn K C=true) (po:PySem.W.plainOver K C=true) (sa:PySem.W.findIn K (.ref C) "__setattr__" = some (some (.builtin "object.__setattr__"))) (mk:PySem.W.makesIn K C=true) (kc:PySem.W.keepIn K (.ref C)=true) (nrooms:PySem.W.findIn K (.ref C) "rooms" = some none) (ndeeds:PySem.W.findIn K (.ref C) "deeds" = some none) (a__init__:PySem.W.findIn K (.ref C) "__init__" = some (some (.ref f0))) (i__init__:PySem.W.isFn K (.ref f0)=true) (l__init__:K.lookup f0=some ⟨oc0,od0,.func (PySem.W.fnOf "__init__" "Journal.__init__" (Zaw ZaS) (Zas ZaS) (Zac ZaS) .none kV0 dc0 pm0 an0 cd0 ct0),sl0⟩) (c__init__:PySem.W.codeIn K cd0 "Journal.__init__" = true) (k__init__:PySem.W.keepIn K (.ref f0)=true) (awrite:PySem.W.findIn K (.ref C) "write" = some (some (.ref f1))) (iwrite:PySem.W.isFn K (.ref f1)=true) (lwrite:K.lookup f1=some ⟨oc1,od1,.func (PySem.W.fnOf "write" "Journal.write" (Zaw Za6) (Zas Za6) (Zac Za6) .none kV1 dc1 pm1 an1 cd1 ct1),sl1⟩) (cwrite:PySem.W.codeIn K cd1 "Journal.write" = true) (kwrite:PySem.W.keepIn K (.ref f1)=true) (amark:PySem.W.findIn K (.ref C) "mark" = some (some (.ref f2))) (imark:PySem.W.isFn K (.ref f2)=true) (lmark:K.lookup f2=some ⟨oc2,od2,.func (PySem.W.fnOf "mark" "Journal.mark" (Zaw Zbc) (Zas Zbc) (Zac Zbc) .none kV2 dc2 pm2 an2 cd2 ct2),sl2⟩) (cmark:PySem.W.codeIn K cd2 "Journal.mark" = true) (kmark:PySem.W.keepIn K (.ref f2)=true) (aback:PySem.W.findIn K (.ref C) "back" = some (some (.ref f3))) (iback:PySem.W.isFn K (.ref f3)=true) (lback:K.lookup f3=some ⟨oc3,od3,.func (PySem.W.fnOf "back" "Journal.back" (Zaw Zbd) (Zas Zbd) (Zac Zbd) .none kV3 dc3 pm3 an3 cd3 ct3),sl3⟩) (cback:PySem.W.codeIn K cd3 "Journal.back" = true) (kback:PySem.W.keepIn K (.ref f3)=true) (atold:PySem.W.findIn K (.ref C) "told" = some (some (.ref f4))) (itold:PySem.W.isFn K (.ref f4)=true) (ltold:K.lookup f4=some ⟨oc4,od4,.func (PySem.W.fnOf "told" "Journal.told" (Zaw Za1) (Zas Za1) (Zac Za1) .none kV4 dc4 pm4 an4 cd4 ct4),sl4⟩) (ctold:PySem.W.codeIn K cd4 "Journal.told" = true) (ktold:PySem.W.keepIn K (.ref f4)=true):∃ C,T_Journal K mg C/\Zao K C "__init__" "Journal.__init__" ZaS/\Zao K C "write" "Journal.write" Za6/\Zao K C "mark" "Journal.mark" Zbc/\Zao K C "back" "Journal.back" Zbd/\Zao K C "told" "Journal.told" Za1 :=
  ⟨C,⟨⟨⟨pg,hd,po,sa⟩,mk,kc,PySem.W.mg_of X G aC⟩,nrooms,ndeeds⟩,ZaB a__init__ i__init__ l__init__ c__init__ k__init__,ZaB awrite iwrite lwrite cwrite kwrite,ZaB amark imark lmark cmark kmark,ZaB aback iback lback cback kback,ZaB atold itold ltold ctold ktold⟩
theorem Zlc {K:PySem.W.Frag} {h:Heap} {mg:Str->Option Value} {C:Addr} {f0:Addr} {oc0 kV0 dc0 pm0 cd0 ct0:Value} {od0 an0:Option Addr} {sl0:Array (Option Value)} {f1:Addr} {oc1 kV1 dc1 pm1 cd1 ct1:Value} {od1 an1:Option Addr} {sl1:Array (Option Value)} {f2:Addr} {oc2 kV2 dc2 pm2 cd2 ct2:Value} {od2 an2:Option Addr} {sl2:Array (Option Value)} {f3:Addr} {oc3 kV3 dc3 pm3 cd3 ct3:Value} {od3 an3:Option Addr} {sl3:Array (Option Value)} {f4:Addr} {oc4 kV4 dc4 pm4 cd4 ct4:Value} {od4 an4:Option Addr} {sl4:Array (Option Value)} {f5:Addr} {oc5 kV5 dc5 pm5 cd5 ct5:Value} {od5 an5:Option Addr} {sl5:Array (Option Value)} {f6:Addr} {oc6 kV6 dc6 pm6 cd6 ct6:Value} {od6 an6:Option Addr} {sl6:Array (Option Value)} (X:K.In h) (G:h.Ns mainGlobals mg) (aC:PySem.W.nsIn K mainGlobals "Frame" = some (some (.ref C))) (pg:PySem.W.plainGet K C Str.empty=true) (hd:PySem.W.hasDictIn K C=true) (po:PySem.W.plainOver K C=true) (sa:PySem.W.findIn K (.ref C) "__setattr__" = some (some (.builtin "object.__setattr__"))) (mk:PySem.W.makesIn K C=true) (kc:PySem.W.keepIn K (.ref C)=true) (nkind:PySem.W.findIn K (.ref C) "kind" = some none) (nwho:PySem.W.findIn K (.ref C) "who" = some none) (nwhose:PySem.W.findIn K (.ref C) "whose" = some none) (ncaller:PySem.W.findIn K (.ref C) "caller" = some none) (ncoin:PySem.W.findIn K (.ref C) "coin" = some none) (nword:PySem.W.findIn K (.ref C) "word" = some none) (ngiven:PySem.W.findIn K (.ref C) "given" = some none) (ndepth:PySem.W.findIn K (.ref C) "depth" = some none) (nlooking:PySem.W.findIn K (.ref C) "looking" = some none) (nused:PySem.W.findIn K (.ref C) "used" = some none) (nstack:PySem.W.findIn K (.ref C) "stack" = some none) (nrow:PySem.W.findIn K (.ref C) "row" = some none) (nsteps:PySem.W.findIn K (.ref C) "steps" = some none) (nend:PySem.W.findIn K (.ref C) "end" = some none) (nanswer:PySem.W.findIn K (.ref C) "answer" = some none) (aleft:PySem.W.findIn K (.ref C) "left" = some (some (.ref f0))) (ileft:PySem.W.isFn K (.ref f0)=true) (lleft:K.lookup f0=some ⟨oc0,od0,.func (PySem.W.fnOf "left" "Frame.left" (Zaw Zbn) (Zas Zbn) (Zac Zbn) .none kV0 dc0 pm0 an0 cd0 ct0),sl0⟩) (cleft:PySem.W.codeIn K cd0 "Frame.left" = true) (kleft:PySem.W.keepIn K (.ref f0)=true) (ashort_for:PySem.W.findIn K (.ref C) "short_for" = some (some (.ref f1))) (ishort_for:PySem.W.isFn K (.ref f1)=true) (lshort_for:K.lookup f1=some ⟨oc1,od1,.func (PySem.W.fnOf "short_for" "Frame.short_for" (Zaw ZaV) (Zas ZaV) (Zac ZaV) .none kV1 dc1 pm1 an1 cd1 ct1),sl1⟩) (cshort_for:PySem.W.codeIn K cd1 "Frame.short_for" = true) (kshort_for:PySem.W.keepIn K (.ref f1)=true) (afull_behind:PySem.W.findIn K (.ref C) "full_behind" = some (some (.ref f2))) (ifull_behind:PySem.W.isFn K (.ref f2)=true) (lfull_behind:K.lookup f2=some ⟨oc2,od2,.func (PySem.W.fnOf "full_behind" "Frame.full_behind" (Zaw ZaP) (Zas ZaP) (Zac ZaP) .none kV2 dc2 pm2 an2 cd2 ct2),sl2⟩) (cfull_behind:PySem.W.codeIn K cd2 "Frame.full_behind" = true) (kfull_behind:PySem.W.keepIn K (.ref f2)=true) (ataken:PySem.W.findIn K (.ref C) "taken" = some (some (.ref f3))) (itaken:PySem.W.isFn K (.ref f3)=true) (ltaken:K.lookup f3=some ⟨oc3,od3,.func (PySem.W.fnOf "taken" "Frame.taken" (Zaw Zbk) (Zas Zbk) (Zac Zbk) .none kV3 dc3 pm3 an3 cd3 ct3),sl3⟩) (ctaken:PySem.W.codeIn K cd3 "Frame.taken" = true) (ktaken:PySem.W.keepIn K (.ref f3)=true) (alay:PySem.W.findIn K (.ref C) "lay" = some (some (.ref f4))) (ilay:PySem.W.isFn K (.ref f4)=true) (llay:K.lookup f4=some ⟨oc4,od4,.func (PySem.W.fnOf "lay" "Frame.lay" (Zaw ZbA) (Zas ZbA) (Zac ZbA) .none kV4 dc4 pm4 an4 cd4 ct4),sl4⟩) (clay:PySem.W.codeIn K cd4 "Frame.lay" = true) (klay:PySem.W.keepIn K (.ref f4)=true) (afinish:PySem.W.findIn K (.ref C) "finish" = some (some (.ref f5))) (ifinish:PySem.W.isFn K (.ref f5)=true) (lfinish:K.lookup f5=some ⟨oc5,od5,.func (PySem.W.fnOf "finish" "Frame.finish" (Zaw Zbb) (Zas Zbb) (Zac Zbb) .none kV5 dc5 pm5 an5 cd5 ct5),sl5⟩) (cfinish:PySem.W.codeIn K cd5 "Frame.finish" = true) (kfinish:PySem.W.keepIn K (.ref f5)=true) (atree:PySem.W.findIn K (.ref C) "tree" = some (some (.ref f6))) (itree:PySem.W.isFn K (.ref f6)=true) (ltree:K.lookup f6=some ⟨oc6,od6,.func (PySem.W.fnOf "tree" "Frame.tree" (Zaw Zbo) (Zas Zbo) (Zac Zbo) .none kV6 dc6 pm6 an6 cd6 ct6),sl6⟩) (ctree:PySem.W.codeIn K cd6 "Frame.tree" = true) (ktree:PySem.W.keepIn K (.ref f6)=true):∃ C,T_Frame K mg C/\Zao K C "left" "Frame.left" Zbn/\Zao K C "short_for" "Frame.short_for" ZaV/\Zao K C "full_behind" "Frame.full_behind" ZaP/\Zao K C "taken" "Frame.taken" Zbk/\Zao K C "lay" "Frame.lay" ZbA/\Zao K C "finish" "Frame.finish" Zbb/\Zao K C "tree" "Frame.tree" Zbo :=
  ⟨C,⟨⟨⟨pg,hd,po,sa⟩,mk,kc,PySem.W.mg_of X G aC⟩,nkind,nwho,nwhose,ncaller,ncoin,nword,ngiven,ndepth,nlooking,nused,nstack,nrow,nsteps,nend,nanswer⟩,ZaB aleft ileft lleft cleft kleft,ZaB ashort_for ishort_for lshort_for cshort_for kshort_for,ZaB afull_behind ifull_behind lfull_behind cfull_behind kfull_behind,ZaB ataken itaken ltaken ctaken ktaken,ZaB alay ilay llay clay klay,ZaB afinish ifinish lfinish cfinish kfinish,ZaB atree itree ltree ctree ktree⟩
end
end My
namespace L2
open PySem PySem.W
theorem Zld {q:Program} {loose:List Str} {XP:(Str->Option Value)->Heap->Prop} {r:RowW} {d:DefRec} {kwd:List (Str × PySem.Expr)} {run:Value->List Value->Sem Value} {K:Params->Frag} {as:List Addr} {n t:Nat} (e:∀ P,as=(K P).map (·.1))
    (h:WalkO q loose XP (fun w h=>(K w.params).In h) r d kwd run):WalkX q loose XP (X.obsZ as) (X.valZ K n t) r d kwd run :=
  fun w s₀ s₁ mg mb G y a o pm cd doc dV kV h1 h2 h3 h4 h5 h6 args vals as' L=>h w s₀ s₁ mg mb G (InK.keeps w s₀.heap s₁.heap (X.z_facts e y).2.1 (Laid.keeps L)) a o pm cd doc dV kV h1 h2 h3 h4 h5 h6 args vals as'
end L2
open PySem PySem.W PyProof.Rows
local macro_rules|`(tactic| walk_at "vals")=>`(tactic| first
  | exact L2.ZkE
  | (refine L2.ZkF ?_; walk_at "vals")
  | (refine L2.ZkG ?_; walk_at "vals")
  | fail)
namespace PySem.W.Fast
theorem tw773488375656197009:True:=⟨⟩
theorem tw11169780824452860068:True:=⟨⟩
theorem tw2781887006752523296:True:=⟨⟩
theorem tw9622831957228397600:True:=⟨⟩
theorem tw5666322177456449696:True:=⟨⟩
theorem tw968829806959692960:True:=⟨⟩
theorem tw6438580262898938048:True:=⟨⟩
theorem tw17123454926918139136:True:=⟨⟩
theorem tw12235301419306871040:True:=⟨⟩
theorem tw14747790884458570016:True:=⟨⟩
theorem tw12788309630746611008:True:=⟨⟩
theorem tw12588721403721499968:True:=⟨⟩
theorem tw10915995549290957152:True:=⟨⟩
theorem tw7374699179940453728:True:=⟨⟩
theorem tw2051663028883826048:True:=⟨⟩
theorem tw9082796821158722016:True:=⟨⟩
theorem tw16467429122378344928:True:=⟨⟩
theorem tw3608992728519064064:True:=⟨⟩
theorem tw14904322018376450592:True:=⟨⟩
theorem tw7205547459035817536:True:=⟨⟩
theorem tw9615784254436173376:True:=⟨⟩
theorem tw6264105836840301152:True:=⟨⟩
theorem tw1887526898074508064:True:=⟨⟩
theorem tw17780626491448742720:True:=⟨⟩
theorem tw9024920533218425696:True:=⟨⟩
theorem tw9743245982163291040:True:=⟨⟩
theorem tw9107818577785159584:True:=⟨⟩
theorem tw9780888535459390465:True:=⟨⟩
theorem tw14632580207718397953:True:=⟨⟩
theorem tw7947935850043232289:True:=⟨⟩
theorem tw11325688703671226401:True:=⟨⟩
theorem tw6843281299364432961:True:=⟨⟩
theorem tw10654023883516093569:True:=⟨⟩
theorem tw1070265379448597665:True:=⟨⟩
theorem tw16916756990387664065:True:=⟨⟩
theorem tw6669144964785653953:True:=⟨⟩
theorem tw11798121753030973633:True:=⟨⟩
theorem tw6451926175660799169:True:=⟨⟩
theorem tw10160971438298434785:True:=⟨⟩
theorem tw17036161637736455393:True:=⟨⟩
theorem tw17437680293365969121:True:=⟨⟩
theorem tw2610609258164944097:True:=⟨⟩
theorem tw5465336381103555841:True:=⟨⟩
theorem tw1152748889366133089:True:=⟨⟩
theorem tw10352597712449313121:True:=⟨⟩
theorem tw3527812060634877313:True:=⟨⟩
theorem tw12286543993051443585:True:=⟨⟩
theorem tw15427711029423029729:True:=⟨⟩
theorem tw3557744153131600385:True:=⟨⟩
theorem tw17734502201723016737:True:=⟨⟩
theorem tw1667484913021367873:True:=⟨⟩
theorem tw6825309529268526785:True:=⟨⟩
theorem tw7871119633074052801:True:=⟨⟩
theorem tw9325800054006407873:True:=⟨⟩
theorem tw933479994386997985:True:=⟨⟩
theorem tw10010566671490413281:True:=⟨⟩
theorem tw3431572430808564481:True:=⟨⟩
theorem tw2629143595755833089:True:=⟨⟩
theorem tw4575296081359416193:True:=⟨⟩
theorem tw17514630984389606337:True:=⟨⟩
theorem tw17329445756980340770:True:=⟨⟩
theorem tw1145569098391470178:True:=⟨⟩
theorem tw13479299089449408610:True:=⟨⟩
theorem tw9818042158550101122:True:=⟨⟩
theorem tw302803140115997826:True:=⟨⟩
theorem tw1475467580944257186:True:=⟨⟩
theorem tw5003178929534695586:True:=⟨⟩
theorem tw7076557531471566018:True:=⟨⟩
theorem tw3354360485982290146:True:=⟨⟩
theorem tw8212389276721353986:True:=⟨⟩
theorem tw14809449743644943618:True:=⟨⟩
theorem tw2250797934743192898:True:=⟨⟩
theorem tw15346388080317815138:True:=⟨⟩
theorem tw899193686805928322:True:=⟨⟩
theorem tw11342538010507588258:True:=⟨⟩
theorem tw15255734737052573378:True:=⟨⟩
theorem tw1102851151433766626:True:=⟨⟩
theorem tw10266293304636512994:True:=⟨⟩
theorem tw4782013108345655010:True:=⟨⟩
theorem tw16502140799143786274:True:=⟨⟩
theorem tw55171894876864354:True:=⟨⟩
theorem tw13979433442480532354:True:=⟨⟩
theorem tw5033317129153535906:True:=⟨⟩
theorem tw3628794685945991106:True:=⟨⟩
theorem tw3026063364099156035:True:=⟨⟩
theorem tw2235213399398980707:True:=⟨⟩
theorem tw11755517423105224835:True:=⟨⟩
theorem tw12152867804258999427:True:=⟨⟩
theorem tw11953479813836977315:True:=⟨⟩
theorem tw11162770710908411107:True:=⟨⟩
theorem tw14948422839810723075:True:=⟨⟩
theorem tw16744222884709809411:True:=⟨⟩
theorem tw12142406879450336547:True:=⟨⟩
theorem tw434134350366286147:True:=⟨⟩
theorem tw3913268669909450051:True:=⟨⟩
theorem tw5871863847381217635:True:=⟨⟩
theorem tw2575589575372802435:True:=⟨⟩
theorem tw3328864872545445347:True:=⟨⟩
theorem tw14401487120652572163:True:=⟨⟩
theorem tw2708407377015626243:True:=⟨⟩
theorem tw3902819680525518371:True:=⟨⟩
theorem tw9977152817849937443:True:=⟨⟩
theorem tw11035912560556397091:True:=⟨⟩
theorem tw1230632382937337411:True:=⟨⟩
theorem tw4989870936657598019:True:=⟨⟩
theorem tw15174113767285577539:True:=⟨⟩
theorem tw18413893750938866563:True:=⟨⟩
theorem tw17916071651073185667:True:=⟨⟩
theorem tw12835644229206526883:True:=⟨⟩
theorem tw8175630644111803331:True:=⟨⟩
theorem tw14407747071318106083:True:=⟨⟩
theorem tw14949776941977247780:True:=⟨⟩
theorem tw3078363053778436196:True:=⟨⟩
theorem tw4767499922454195300:True:=⟨⟩
theorem tw12217660790470433924:True:=⟨⟩
theorem tw16999928147683897508:True:=⟨⟩
theorem tw18271448459140512964:True:=⟨⟩
theorem tw8573374596081644804:True:=⟨⟩
theorem tw14935162284435925316:True:=⟨⟩
theorem tw16566422899245153604:True:=⟨⟩
theorem tw4857275715408098692:True:=⟨⟩
theorem tw11249322797155750340:True:=⟨⟩
theorem tw6805149729402622468:True:=⟨⟩
theorem tw14148716051966890500:True:=⟨⟩
theorem tw16228574329459966500:True:=⟨⟩
theorem tw4375130966972833316:True:=⟨⟩
theorem tw12777204837411831332:True:=⟨⟩
theorem tw10170350105860072036:True:=⟨⟩
theorem tw14311317926388538084:True:=⟨⟩
theorem tw14919928453952207620:True:=⟨⟩
theorem tw5960541777106089828:True:=⟨⟩
theorem tw12657604028786554820:True:=⟨⟩
theorem tw5812339230273684420:True:=⟨⟩
theorem tw2220027808521471972:True:=⟨⟩
theorem tw13580720359975327716:True:=⟨⟩
theorem tw2868922076099870692:True:=⟨⟩
theorem tw3125047545590364229:True:=⟨⟩
theorem tw5641708682736059525:True:=⟨⟩
theorem tw3865170920843872389:True:=⟨⟩
theorem tw3828114702602524837:True:=⟨⟩
theorem tw10190932568654447013:True:=⟨⟩
theorem tw6919833231077691845:True:=⟨⟩
theorem tw7014866341865610693:True:=⟨⟩
theorem tw3492495717009254885:True:=⟨⟩
theorem tw10277941978206117349:True:=⟨⟩
theorem tw9984796868914922021:True:=⟨⟩
theorem tw1622397058718802501:True:=⟨⟩
theorem tw4853420474259000901:True:=⟨⟩
theorem tw1972372529239067237:True:=⟨⟩
theorem tw2286400970733981349:True:=⟨⟩
theorem tw17388905163566510757:True:=⟨⟩
theorem tw6973937549787112133:True:=⟨⟩
theorem tw12388679816900212421:True:=⟨⟩
theorem tw15351082488794099429:True:=⟨⟩
theorem tw11588526438529602309:True:=⟨⟩
theorem tw2414914680928103173:True:=⟨⟩
theorem tw13251303664589807429:True:=⟨⟩
theorem tw8747243288718544741:True:=⟨⟩
theorem tw12996114561950223237:True:=⟨⟩
theorem tw3264540941090080677:True:=⟨⟩
theorem tw2230005877613193157:True:=⟨⟩
theorem tw16775249524782114822:True:=⟨⟩
theorem tw15800147032261934086:True:=⟨⟩
theorem tw5035042272329197574:True:=⟨⟩
theorem tw3144003081330168870:True:=⟨⟩
theorem tw11020049680926183494:True:=⟨⟩
theorem tw13445158368604895302:True:=⟨⟩
theorem tw6191881846107987014:True:=⟨⟩
theorem tw250622781696180358:True:=⟨⟩
theorem tw8110752467131753606:True:=⟨⟩
theorem tw4763424875472583814:True:=⟨⟩
theorem tw942214921292890278:True:=⟨⟩
theorem tw4297376394510438598:True:=⟨⟩
theorem tw13909368943188340934:True:=⟨⟩
theorem tw8399281168630993126:True:=⟨⟩
theorem tw1485195750098394342:True:=⟨⟩
theorem tw13879550138613626182:True:=⟨⟩
theorem tw9123582028621625702:True:=⟨⟩
theorem tw8323965377208468838:True:=⟨⟩
theorem tw1234722460964027782:True:=⟨⟩
theorem tw14569684334395896198:True:=⟨⟩
theorem tw14103609511096701350:True:=⟨⟩
theorem tw3139271097370632678:True:=⟨⟩
theorem tw13358549266015338086:True:=⟨⟩
theorem tw7965645942776974950:True:=⟨⟩
theorem tw12421353381578418822:True:=⟨⟩
theorem tw8994194212227935910:True:=⟨⟩
theorem tw13844013240530149062:True:=⟨⟩
theorem tw3820546785053291206:True:=⟨⟩
theorem tw15930993893565451974:True:=⟨⟩
theorem tw13697707216442513126:True:=⟨⟩
theorem tw13185168615753847558:True:=⟨⟩
theorem tw3669817256280674118:True:=⟨⟩
theorem tw12782135991168985926:True:=⟨⟩
theorem tw1310167870406868838:True:=⟨⟩
theorem tw12629210979539542982:True:=⟨⟩
theorem tw2016903188069115878:True:=⟨⟩
theorem tw16165061073240977415:True:=⟨⟩
theorem tw9887598490890724423:True:=⟨⟩
theorem tw11225832707651550311:True:=⟨⟩
theorem tw17785021958587990183:True:=⟨⟩
theorem tw10326910383928169799:True:=⟨⟩
theorem tw8655463546313521543:True:=⟨⟩
theorem tw8591129686370098567:True:=⟨⟩
theorem tw11983039336159867335:True:=⟨⟩
theorem tw9759314533354934823:True:=⟨⟩
theorem tw9024548674821785159:True:=⟨⟩
theorem tw3773417409160781383:True:=⟨⟩
theorem tw13865554508926817959:True:=⟨⟩
theorem tw18289904650491259591:True:=⟨⟩
theorem tw368688576608662215:True:=⟨⟩
theorem tw6416324591503328007:True:=⟨⟩
theorem tw4251718920976083783:True:=⟨⟩
theorem tw9814599300144357223:True:=⟨⟩
theorem tw7354647791979816871:True:=⟨⟩
theorem tw12206209523063996327:True:=⟨⟩
theorem tw2374409833373476807:True:=⟨⟩
theorem tw4230220388096856039:True:=⟨⟩
theorem tw9130198643443552231:True:=⟨⟩
theorem tw8744952147526710247:True:=⟨⟩
theorem tw535456980504164360:True:=⟨⟩
theorem tw12522845885402997800:True:=⟨⟩
theorem tw14539730710253429800:True:=⟨⟩
theorem tw7510190832295808104:True:=⟨⟩
theorem tw17862694823605699720:True:=⟨⟩
theorem tw9711725406663822472:True:=⟨⟩
theorem tw17797889769486460040:True:=⟨⟩
theorem tw3941736996159071432:True:=⟨⟩
theorem tw11953713603968217320:True:=⟨⟩
theorem tw10477302677772099848:True:=⟨⟩
theorem tw1133741420619617640:True:=⟨⟩
theorem tw9471185141878848872:True:=⟨⟩
theorem tw18239216551208506792:True:=⟨⟩
theorem tw7534859028569747912:True:=⟨⟩
theorem tw3460903129815691784:True:=⟨⟩
theorem tw16179984398819849736:True:=⟨⟩
theorem tw1592547928104504936:True:=⟨⟩
theorem tw1448464068059235976:True:=⟨⟩
theorem tw12353342430152115912:True:=⟨⟩
theorem tw641183590290471816:True:=⟨⟩
theorem tw17405879379389767592:True:=⟨⟩
theorem tw15738247536464509896:True:=⟨⟩
theorem tw6519984140632810440:True:=⟨⟩
theorem tw17237885558527981512:True:=⟨⟩
theorem tw2112132901186558985:True:=⟨⟩
theorem tw2917430322545938473:True:=⟨⟩
theorem tw2116446991523159209:True:=⟨⟩
theorem tw673171846788750569:True:=⟨⟩
theorem tw12154942063837674729:True:=⟨⟩
theorem tw1531695391936919945:True:=⟨⟩
theorem tw3605771786291428745:True:=⟨⟩
theorem tw13125977504586554761:True:=⟨⟩
theorem tw7299651424854765961:True:=⟨⟩
theorem tw15752544504964089257:True:=⟨⟩
theorem tw1695157183818517961:True:=⟨⟩
theorem tw6413299889723829705:True:=⟨⟩
theorem tw2010402593327690249:True:=⟨⟩
theorem tw5324531080100268585:True:=⟨⟩
theorem tw24477106541227561:True:=⟨⟩
theorem tw6500328200507305609:True:=⟨⟩
theorem tw9902215516012958409:True:=⟨⟩
theorem tw4139272644414852873:True:=⟨⟩
theorem tw1754693692392705833:True:=⟨⟩
theorem tw15571955211715030825:True:=⟨⟩
theorem tw2144428585549521705:True:=⟨⟩
theorem tw3713600852711045929:True:=⟨⟩
theorem tw7538369077499956073:True:=⟨⟩
theorem tw4170362028075938697:True:=⟨⟩
theorem tw15642991634761429929:True:=⟨⟩
theorem tw6931035942721286057:True:=⟨⟩
theorem tw14266420539449868233:True:=⟨⟩
theorem tw8612109578169806825:True:=⟨⟩
theorem tw4353125581629097994:True:=⟨⟩
theorem tw8141605738522759210:True:=⟨⟩
theorem tw12553942539958250570:True:=⟨⟩
theorem tw9585776654975336522:True:=⟨⟩
theorem tw16327551844393136266:True:=⟨⟩
theorem tw10826224116348871850:True:=⟨⟩
theorem tw3459586455435556010:True:=⟨⟩
theorem tw5628340094470049994:True:=⟨⟩
theorem tw1850177934740407530:True:=⟨⟩
theorem tw44648438475409674:True:=⟨⟩
theorem tw1773105520083495210:True:=⟨⟩
theorem tw16014583975079910698:True:=⟨⟩
theorem tw5273135850922097962:True:=⟨⟩
theorem tw15578848407117084042:True:=⟨⟩
theorem tw5804820350630623626:True:=⟨⟩
theorem tw8986297571474060810:True:=⟨⟩
theorem tw14939989205519256074:True:=⟨⟩
theorem tw17189773608889458218:True:=⟨⟩
theorem tw9700537395167128138:True:=⟨⟩
theorem tw16587608496484189898:True:=⟨⟩
theorem tw16771335659098830570:True:=⟨⟩
theorem tw14955160852925135626:True:=⟨⟩
theorem tw11323804732164037418:True:=⟨⟩
theorem tw15573648391580478282:True:=⟨⟩
theorem tw3348647343556930474:True:=⟨⟩
theorem tw7729256550912184331:True:=⟨⟩
theorem tw18010395802922680363:True:=⟨⟩
theorem tw11924464938606485579:True:=⟨⟩
theorem tw4868958079812139115:True:=⟨⟩
theorem tw12320627938627461259:True:=⟨⟩
theorem tw17776606449127342251:True:=⟨⟩
theorem tw16289752088232375563:True:=⟨⟩
theorem tw5339949553495313771:True:=⟨⟩
theorem tw16594327991417904491:True:=⟨⟩
theorem tw4954617135049815403:True:=⟨⟩
theorem tw16582684379254987179:True:=⟨⟩
theorem tw13796333161074712011:True:=⟨⟩
theorem tw5984882299657094635:True:=⟨⟩
theorem tw13251676094429348427:True:=⟨⟩
theorem tw16505560271833733707:True:=⟨⟩
theorem tw11563635827398151787:True:=⟨⟩
theorem tw9250889107777748587:True:=⟨⟩
theorem tw16343488758416700075:True:=⟨⟩
theorem tw11577511189158675147:True:=⟨⟩
theorem tw14678803760201503467:True:=⟨⟩
theorem tw12546129301533222731:True:=⟨⟩
theorem tw16830884475411524459:True:=⟨⟩
theorem tw12065429522085371787:True:=⟨⟩
theorem tw4606476839960435627:True:=⟨⟩
theorem tw14863995953956022219:True:=⟨⟩
theorem tw14895429306953665483:True:=⟨⟩
theorem tw17580523350674974732:True:=⟨⟩
theorem tw4082649665507190860:True:=⟨⟩
theorem tw10399701926375605356:True:=⟨⟩
theorem tw17990640620001580140:True:=⟨⟩
theorem tw162384945426708620:True:=⟨⟩
theorem tw2970054079251827852:True:=⟨⟩
theorem tw2653630014575367308:True:=⟨⟩
theorem tw17295986609420542188:True:=⟨⟩
theorem tw7335516220667905260:True:=⟨⟩
theorem tw14171178826334781740:True:=⟨⟩
theorem tw17158435025317231916:True:=⟨⟩
theorem tw3179836407236081996:True:=⟨⟩
theorem tw1512368860515385676:True:=⟨⟩
theorem tw12244273090464315724:True:=⟨⟩
theorem tw1702536995758506444:True:=⟨⟩
theorem tw14908926736833650124:True:=⟨⟩
theorem tw12389932396517376492:True:=⟨⟩
theorem tw6272669558843984364:True:=⟨⟩
theorem tw13499801447818521100:True:=⟨⟩
theorem tw15714520900519832140:True:=⟨⟩
theorem tw16908446344796980844:True:=⟨⟩
theorem tw16347088710572188300:True:=⟨⟩
theorem tw15755384526094832300:True:=⟨⟩
theorem tw4763639739428722444:True:=⟨⟩
theorem tw3625587561163143948:True:=⟨⟩
theorem tw1951243285075088236:True:=⟨⟩
theorem tw13274501625948938124:True:=⟨⟩
theorem tw81482552836568972:True:=⟨⟩
theorem tw10079199526755088268:True:=⟨⟩
theorem tw957393280868995980:True:=⟨⟩
theorem tw14310624813352985516:True:=⟨⟩
theorem tw6947463853576304556:True:=⟨⟩
theorem tw6173568864485010412:True:=⟨⟩
theorem tw13886994211608244204:True:=⟨⟩
theorem tw15903089772717886509:True:=⟨⟩
theorem tw3545463569240551469:True:=⟨⟩
theorem tw11437844426874629197:True:=⟨⟩
theorem tw1400848998887151821:True:=⟨⟩
theorem tw10079699262730488045:True:=⟨⟩
theorem tw5990583760262613229:True:=⟨⟩
theorem tw15449151943711123693:True:=⟨⟩
theorem tw5416233074448365837:True:=⟨⟩
theorem tw12351782216451790125:True:=⟨⟩
theorem tw8200574764004471181:True:=⟨⟩
theorem tw3929761592633035245:True:=⟨⟩
theorem tw4347798566523031053:True:=⟨⟩
theorem tw11420480955623933485:True:=⟨⟩
theorem tw17269332019560172077:True:=⟨⟩
theorem tw6627567090648985229:True:=⟨⟩
theorem tw11901525274407459469:True:=⟨⟩
theorem tw5950237832345752237:True:=⟨⟩
theorem tw10810785212758050541:True:=⟨⟩
theorem tw8101338704228000621:True:=⟨⟩
theorem tw15906321830188800877:True:=⟨⟩
theorem tw3948034602291906445:True:=⟨⟩
theorem tw10877433734552478605:True:=⟨⟩
theorem tw6828459865910994829:True:=⟨⟩
theorem tw7127702334486258637:True:=⟨⟩
theorem tw5720552849005427693:True:=⟨⟩
theorem tw9225465319223815278:True:=⟨⟩
theorem tw9351292908242242702:True:=⟨⟩
theorem tw15221669620392535182:True:=⟨⟩
theorem tw9035166331018492046:True:=⟨⟩
theorem tw9925813199724301454:True:=⟨⟩
theorem tw17024408612568690830:True:=⟨⟩
theorem tw7279734153428148398:True:=⟨⟩
theorem tw6713751664183301326:True:=⟨⟩
theorem tw2908752919322617134:True:=⟨⟩
theorem tw865823124325135662:True:=⟨⟩
theorem tw14990107825901926702:True:=⟨⟩
theorem tw11247317878734264654:True:=⟨⟩
theorem tw12642315283213285774:True:=⟨⟩
theorem tw14237313913818457486:True:=⟨⟩
theorem tw12737179702134235566:True:=⟨⟩
theorem tw7875232043128287758:True:=⟨⟩
theorem tw5837661629287016014:True:=⟨⟩
theorem tw15249227843270453870:True:=⟨⟩
theorem tw16676683750314493550:True:=⟨⟩
theorem tw16375047371733479054:True:=⟨⟩
theorem tw5569186205407710894:True:=⟨⟩
theorem tw14735631860560690894:True:=⟨⟩
theorem tw8756341717616492238:True:=⟨⟩
theorem tw17923013718754766574:True:=⟨⟩
theorem tw7660491538791549678:True:=⟨⟩
theorem tw15731261624788514574:True:=⟨⟩
theorem tw14493922378391677710:True:=⟨⟩
theorem tw11603621475224728430:True:=⟨⟩
theorem tw3189305265208277870:True:=⟨⟩
theorem tw16928032517439820686:True:=⟨⟩
theorem tw4794934232400184206:True:=⟨⟩
theorem tw16078836014148609934:True:=⟨⟩
theorem tw934419043438016462:True:=⟨⟩
theorem tw15952361770324134894:True:=⟨⟩
theorem tw13057319510515938286:True:=⟨⟩
theorem tw1100099229068065774:True:=⟨⟩
theorem tw1873048429501984783:True:=⟨⟩
theorem tw9117081550551218191:True:=⟨⟩
theorem tw9413295996980294703:True:=⟨⟩
theorem tw40570114437345391:True:=⟨⟩
theorem tw13031008367438539023:True:=⟨⟩
theorem tw1956651179050033647:True:=⟨⟩
theorem tw18274150607124473359:True:=⟨⟩
theorem tw4549743952215339567:True:=⟨⟩
theorem tw1915815802723713679:True:=⟨⟩
theorem tw5509174026273554063:True:=⟨⟩
theorem tw8998764424743806639:True:=⟨⟩
theorem tw15245879503497147087:True:=⟨⟩
theorem tw1432126490877100783:True:=⟨⟩
theorem tw11077400518073795375:True:=⟨⟩
theorem tw18284830679434859343:True:=⟨⟩
theorem tw4056421684229314383:True:=⟨⟩
theorem tw17673449187550628719:True:=⟨⟩
theorem tw15588368099918088079:True:=⟨⟩
theorem tw8521699584113713071:True:=⟨⟩
theorem tw18367368124047213487:True:=⟨⟩
theorem tw3152491380103453679:True:=⟨⟩
theorem tw17078051173412751408:True:=⟨⟩
theorem tw7990572453627422768:True:=⟨⟩
theorem tw1169777732029655120:True:=⟨⟩
theorem tw13899701498007791728:True:=⟨⟩
theorem tw13335926140826206320:True:=⟨⟩
theorem tw2283735525278260368:True:=⟨⟩
theorem tw13917480275089219760:True:=⟨⟩
theorem tw9588619275747037392:True:=⟨⟩
theorem tw7051304866518676720:True:=⟨⟩
theorem tw7399668591209181424:True:=⟨⟩
theorem tw13826839525913279760:True:=⟨⟩
theorem tw17231468008570094928:True:=⟨⟩
theorem tw7830676739921259856:True:=⟨⟩
theorem tw17638039779175844304:True:=⟨⟩
theorem tw13361838620056218064:True:=⟨⟩
theorem tw17704724803152405040:True:=⟨⟩
theorem tw2756866403770168880:True:=⟨⟩
theorem tw17619526275466999376:True:=⟨⟩
theorem tw10096364438996407920:True:=⟨⟩
theorem tw2660716498247614064:True:=⟨⟩
theorem tw13773126271012109968:True:=⟨⟩
theorem tw16145607921251286704:True:=⟨⟩
theorem tw7111579937966690000:True:=⟨⟩
theorem tw8594010584809324400:True:=⟨⟩
theorem tw7371556153649084272:True:=⟨⟩
theorem tw821488255612421008:True:=⟨⟩
theorem tw14455163898045324208:True:=⟨⟩
theorem tw15462594645775637456:True:=⟨⟩
theorem tw13373984091192619984:True:=⟨⟩
theorem tw14168875297034960880:True:=⟨⟩
theorem tw17008239394476852273:True:=⟨⟩
theorem tw4483847929147431985:True:=⟨⟩
theorem tw3637572947256293489:True:=⟨⟩
theorem tw8232535336143689873:True:=⟨⟩
theorem tw9462460004411013297:True:=⟨⟩
theorem tw4264569434542606513:True:=⟨⟩
theorem tw1732940615361639697:True:=⟨⟩
theorem tw11272895434253274417:True:=⟨⟩
theorem tw6531122480089411953:True:=⟨⟩
theorem tw9517772287786488209:True:=⟨⟩
theorem tw3648121964861159825:True:=⟨⟩
theorem tw2000138018226394577:True:=⟨⟩
theorem tw9042926745112972849:True:=⟨⟩
theorem tw85582027495444113:True:=⟨⟩
theorem tw13358487734592329361:True:=⟨⟩
theorem tw12762666000667251377:True:=⟨⟩
theorem tw7659267913858135729:True:=⟨⟩
theorem tw12419485172962997937:True:=⟨⟩
theorem tw12645707501472756433:True:=⟨⟩
theorem tw7711873541019331313:True:=⟨⟩
theorem tw17405595401929976689:True:=⟨⟩
theorem tw14942777051477102449:True:=⟨⟩
theorem tw2376936309405646801:True:=⟨⟩
theorem tw6183542676794267633:True:=⟨⟩
theorem tw16256975859154590705:True:=⟨⟩
theorem tw1439426605432615954:True:=⟨⟩
theorem tw14633825827504458834:True:=⟨⟩
theorem tw5784845141897334866:True:=⟨⟩
theorem tw2410299955188328562:True:=⟨⟩
theorem tw3886441883381822610:True:=⟨⟩
theorem tw4823393641438322834:True:=⟨⟩
theorem tw11718940082366842034:True:=⟨⟩
theorem tw12330721851514144946:True:=⟨⟩
theorem tw1989031960154883282:True:=⟨⟩
theorem tw11767776315670289618:True:=⟨⟩
theorem tw18269041463495410930:True:=⟨⟩
theorem tw15158757482363604306:True:=⟨⟩
theorem tw12126262911574350194:True:=⟨⟩
theorem tw16220915671190489458:True:=⟨⟩
theorem tw13700104831232282002:True:=⟨⟩
theorem tw18431894463842157970:True:=⟨⟩
theorem tw6370986452682606002:True:=⟨⟩
theorem tw17924348292969672114:True:=⟨⟩
theorem tw11901098754144295346:True:=⟨⟩
theorem tw17537389953327489458:True:=⟨⟩
theorem tw1715082530050470322:True:=⟨⟩
theorem tw11705846351752892914:True:=⟨⟩
theorem tw12545683107016418802:True:=⟨⟩
theorem tw12963200418919668210:True:=⟨⟩
theorem tw1994369753781659250:True:=⟨⟩
theorem tw4275311508531446418:True:=⟨⟩
theorem tw1843997255081767634:True:=⟨⟩
theorem tw10701534722452856594:True:=⟨⟩
theorem tw2003102052475089714:True:=⟨⟩
theorem tw13159091731609277234:True:=⟨⟩
theorem tw2154354219929555794:True:=⟨⟩
theorem tw14854355587097405298:True:=⟨⟩
theorem tw15897387144373909426:True:=⟨⟩
theorem tw7173056362287124499:True:=⟨⟩
theorem tw7481407428008485971:True:=⟨⟩
theorem tw16873294018092707955:True:=⟨⟩
theorem tw11725207312466330739:True:=⟨⟩
theorem tw997401925338783859:True:=⟨⟩
theorem tw8976807090071126195:True:=⟨⟩
theorem tw7077719636432197971:True:=⟨⟩
theorem tw3645691396181083475:True:=⟨⟩
theorem tw18314651939882767763:True:=⟨⟩
theorem tw2222628579321480627:True:=⟨⟩
theorem tw3719500081317920179:True:=⟨⟩
theorem tw11442926670587164083:True:=⟨⟩
theorem tw6506774946366116339:True:=⟨⟩
theorem tw11916157844798910003:True:=⟨⟩
theorem tw2361616314520971923:True:=⟨⟩
theorem tw3223651534514390707:True:=⟨⟩
theorem tw9870140676909831859:True:=⟨⟩
theorem tw4327209645191062195:True:=⟨⟩
theorem tw7190962583111918259:True:=⟨⟩
theorem tw14692622509165343411:True:=⟨⟩
theorem tw14474125652851827411:True:=⟨⟩
theorem tw5304755106010347219:True:=⟨⟩
theorem tw12986798849384039123:True:=⟨⟩
theorem tw1511834605390780115:True:=⟨⟩
theorem tw17681029029894472563:True:=⟨⟩
theorem tw13838793836160185235:True:=⟨⟩
theorem tw7595510796203336691:True:=⟨⟩
theorem tw14435459956546290708:True:=⟨⟩
theorem tw15736435625091591188:True:=⟨⟩
theorem tw17193724451583795316:True:=⟨⟩
theorem tw18082158059917956212:True:=⟨⟩
theorem tw15126448380678344916:True:=⟨⟩
theorem tw9984467041996155124:True:=⟨⟩
theorem tw3299075166764861716:True:=⟨⟩
theorem tw12196841876612832564:True:=⟨⟩
theorem tw13588041806326846804:True:=⟨⟩
theorem tw6643504592692061524:True:=⟨⟩
theorem tw3099994820250905972:True:=⟨⟩
theorem tw10459641550860108180:True:=⟨⟩
theorem tw2434083060798053780:True:=⟨⟩
theorem tw16353764666001992116:True:=⟨⟩
theorem tw9577777935099418068:True:=⟨⟩
theorem tw866218898004212404:True:=⟨⟩
theorem tw6696326630614985396:True:=⟨⟩
theorem tw1706491493873126164:True:=⟨⟩
theorem tw5465434513552787220:True:=⟨⟩
theorem tw2921589103123576628:True:=⟨⟩
theorem tw4804875373665770324:True:=⟨⟩
theorem tw10149482078489395124:True:=⟨⟩
theorem tw9237234672376399828:True:=⟨⟩
theorem tw7443733244133072917:True:=⟨⟩
theorem tw6288405559673901109:True:=⟨⟩
theorem tw1756844058262645:True:=⟨⟩
theorem tw5556503607271817397:True:=⟨⟩
theorem tw11194455116163089653:True:=⟨⟩
theorem tw12019082296779643125:True:=⟨⟩
theorem tw1525576506084080917:True:=⟨⟩
theorem tw3639599593106134293:True:=⟨⟩
theorem tw12147544294260591957:True:=⟨⟩
theorem tw17404090362137418165:True:=⟨⟩
theorem tw13610132843804142005:True:=⟨⟩
theorem tw11842894128787253717:True:=⟨⟩
theorem tw11910420729889223125:True:=⟨⟩
theorem tw8875420283460777525:True:=⟨⟩
theorem tw11800577213792991861:True:=⟨⟩
theorem tw6853006014757615221:True:=⟨⟩
theorem tw2375767755355369077:True:=⟨⟩
theorem tw12377643414693105333:True:=⟨⟩
theorem tw5203414820236198581:True:=⟨⟩
theorem tw12572806944769012437:True:=⟨⟩
theorem tw3618674830988122869:True:=⟨⟩
theorem tw6034918862769302261:True:=⟨⟩
theorem tw4670223192942638837:True:=⟨⟩
theorem tw17090368267615757109:True:=⟨⟩
theorem tw7988790375468516181:True:=⟨⟩
theorem tw4905907837390411605:True:=⟨⟩
theorem tw5038557152045721429:True:=⟨⟩
theorem tw6715755884891630421:True:=⟨⟩
theorem tw17337746063090423669:True:=⟨⟩
theorem tw4358139276760059797:True:=⟨⟩
theorem tw17796932770845724565:True:=⟨⟩
theorem tw9163684276221522837:True:=⟨⟩
theorem tw1592220065222058901:True:=⟨⟩
theorem tw9368999516487153653:True:=⟨⟩
theorem tw17002133135558090838:True:=⟨⟩
theorem tw3956107254822605974:True:=⟨⟩
theorem tw5226138217714517206:True:=⟨⟩
theorem tw12576586948821003478:True:=⟨⟩
theorem tw6451564332155946198:True:=⟨⟩
theorem tw17761472559368589558:True:=⟨⟩
theorem tw2407064755331753206:True:=⟨⟩
theorem tw10475338315172060406:True:=⟨⟩
theorem tw15533935854317168918:True:=⟨⟩
theorem tw9201758972760796502:True:=⟨⟩
theorem tw15918252695864815958:True:=⟨⟩
theorem tw4597972724659044694:True:=⟨⟩
theorem tw11254112656083732886:True:=⟨⟩
theorem tw9434429755814572470:True:=⟨⟩
theorem tw13382335527296348630:True:=⟨⟩
theorem tw17143112443571586518:True:=⟨⟩
theorem tw13212658393755697654:True:=⟨⟩
theorem tw16903222818042841686:True:=⟨⟩
theorem tw6444960178120864374:True:=⟨⟩
theorem tw14032658254738030198:True:=⟨⟩
theorem tw3145445745856397046:True:=⟨⟩
theorem tw12088054533211330326:True:=⟨⟩
theorem tw13676521295145226006:True:=⟨⟩
theorem tw1404111095455491958:True:=⟨⟩
theorem tw4359463688824637334:True:=⟨⟩
theorem tw1417454353445657494:True:=⟨⟩
theorem tw8692734809351605206:True:=⟨⟩
theorem tw16926259990934579223:True:=⟨⟩
theorem tw10246311873453441079:True:=⟨⟩
theorem tw652655671700609143:True:=⟨⟩
theorem tw1459579737889221783:True:=⟨⟩
theorem tw15850405472432794775:True:=⟨⟩
theorem tw8581806049332312247:True:=⟨⟩
theorem tw561980202311593143:True:=⟨⟩
theorem tw1212992347776301303:True:=⟨⟩
theorem tw13317606629004279063:True:=⟨⟩
theorem tw15073921809368401175:True:=⟨⟩
theorem tw8693896889362847031:True:=⟨⟩
theorem tw13008480564234629463:True:=⟨⟩
theorem tw4319325234976372055:True:=⟨⟩
theorem tw14311388647750161783:True:=⟨⟩
theorem tw6029419151879955863:True:=⟨⟩
theorem tw10016442326887596471:True:=⟨⟩
theorem tw16393872904636943799:True:=⟨⟩
theorem tw16159921608130737687:True:=⟨⟩
theorem tw11234384965532679703:True:=⟨⟩
theorem tw4089743025406897719:True:=⟨⟩
theorem tw7587126684675652215:True:=⟨⟩
theorem tw3978281566055025271:True:=⟨⟩
theorem tw6102933221822723735:True:=⟨⟩
theorem tw15483265168291881719:True:=⟨⟩
theorem tw10144409201442104087:True:=⟨⟩
theorem tw15029375129298224983:True:=⟨⟩
theorem tw15163842480078105559:True:=⟨⟩
theorem tw10799828885116833783:True:=⟨⟩
theorem tw11533698883641192439:True:=⟨⟩
theorem tw10318226199407964184:True:=⟨⟩
theorem tw1197216891453691032:True:=⟨⟩
theorem tw4811762527001531544:True:=⟨⟩
theorem tw17244833110571430104:True:=⟨⟩
theorem tw15390743351794815288:True:=⟨⟩
theorem tw15147101947123882328:True:=⟨⟩
theorem tw13652416507272070520:True:=⟨⟩
theorem tw4206212446140064216:True:=⟨⟩
theorem tw4084082904269196792:True:=⟨⟩
theorem tw15866958185100052056:True:=⟨⟩
theorem tw5694695711618854488:True:=⟨⟩
theorem tw16394147895164165752:True:=⟨⟩
theorem tw6583201448825585272:True:=⟨⟩
theorem tw17325362468505925272:True:=⟨⟩
theorem tw10712169382467514040:True:=⟨⟩
theorem tw13179848455975717592:True:=⟨⟩
theorem tw4285948095381565144:True:=⟨⟩
theorem tw8516234812605650680:True:=⟨⟩
theorem tw18255277026701412312:True:=⟨⟩
theorem tw9376076220366007256:True:=⟨⟩
theorem tw14024063499051055064:True:=⟨⟩
theorem tw4246615819574858712:True:=⟨⟩
theorem tw2453302428295628792:True:=⟨⟩
theorem tw1078996254113584153:True:=⟨⟩
theorem tw9673952457982979129:True:=⟨⟩
theorem tw1499522367402233977:True:=⟨⟩
theorem tw13285614418581141657:True:=⟨⟩
theorem tw3210335212704606393:True:=⟨⟩
theorem tw7560688232696734905:True:=⟨⟩
theorem tw12422575089805362393:True:=⟨⟩
theorem tw5978273135241609433:True:=⟨⟩
theorem tw9431234177570260185:True:=⟨⟩
theorem tw9190526514829491449:True:=⟨⟩
theorem tw13264364650141322553:True:=⟨⟩
theorem tw11346911487246328185:True:=⟨⟩
theorem tw15351577852558631353:True:=⟨⟩
theorem tw3514425076462788089:True:=⟨⟩
theorem tw15836991209868822169:True:=⟨⟩
theorem tw13503263911580876473:True:=⟨⟩
theorem tw18133326126714277561:True:=⟨⟩
theorem tw9695594329384258265:True:=⟨⟩
theorem tw5831328216529907449:True:=⟨⟩
theorem tw1838860035080014681:True:=⟨⟩
theorem tw16318281835029421945:True:=⟨⟩
theorem tw12817756313932425081:True:=⟨⟩
theorem tw3365658739822402553:True:=⟨⟩
theorem tw8744175344876224505:True:=⟨⟩
theorem tw12372182454008949850:True:=⟨⟩
theorem tw12102981503343716442:True:=⟨⟩
theorem tw14028962068465361018:True:=⟨⟩
theorem tw10015575416204927162:True:=⟨⟩
theorem tw9478553338178265306:True:=⟨⟩
theorem tw7014503361597524346:True:=⟨⟩
theorem tw13046052417993810298:True:=⟨⟩
theorem tw1585401081196832154:True:=⟨⟩
theorem tw11022507785205979578:True:=⟨⟩
theorem tw9293739536825977370:True:=⟨⟩
theorem tw7604877358547197466:True:=⟨⟩
theorem tw7781630152500933146:True:=⟨⟩
theorem tw7468263502209523258:True:=⟨⟩
theorem tw3538140020673266234:True:=⟨⟩
theorem tw2838000333040325242:True:=⟨⟩
theorem tw1487934016748035802:True:=⟨⟩
theorem tw9601281700997934842:True:=⟨⟩
theorem tw3571713256239256378:True:=⟨⟩
theorem tw14727361148854444890:True:=⟨⟩
theorem tw7428089548216364954:True:=⟨⟩
theorem tw4148152077272180666:True:=⟨⟩
theorem tw4762191531573683194:True:=⟨⟩
theorem tw5405182077690332187:True:=⟨⟩
theorem tw15081125103945770043:True:=⟨⟩
theorem tw15344182752626090107:True:=⟨⟩
theorem tw18401289882227878011:True:=⟨⟩
theorem tw1324609339207341211:True:=⟨⟩
theorem tw14103237858283604123:True:=⟨⟩
theorem tw17577183757471135931:True:=⟨⟩
theorem tw10792382681226471643:True:=⟨⟩
theorem tw14211111742902538523:True:=⟨⟩
theorem tw1063936207255084347:True:=⟨⟩
theorem tw12886896698090684731:True:=⟨⟩
theorem tw16702592059037115707:True:=⟨⟩
theorem tw543048812253225339:True:=⟨⟩
theorem tw16289515540282722683:True:=⟨⟩
theorem tw11906615821873762683:True:=⟨⟩
theorem tw15620068097513667003:True:=⟨⟩
theorem tw7141573830364423675:True:=⟨⟩
theorem tw12152343470152055355:True:=⟨⟩
theorem tw7686326260194370267:True:=⟨⟩
theorem tw14745046615075750619:True:=⟨⟩
theorem tw17068093528265812731:True:=⟨⟩
theorem tw5012353091268350811:True:=⟨⟩
theorem tw9758136198063962011:True:=⟨⟩
theorem tw18102749928914882555:True:=⟨⟩
theorem tw8688388792823642107:True:=⟨⟩
theorem tw9802054965505558620:True:=⟨⟩
theorem tw3215121284745965660:True:=⟨⟩
theorem tw2792718851046806684:True:=⟨⟩
theorem tw8272653809804211388:True:=⟨⟩
theorem tw4083861290176624860:True:=⟨⟩
theorem tw5929164569105321244:True:=⟨⟩
theorem tw16514590993700756764:True:=⟨⟩
theorem tw10389200925891706172:True:=⟨⟩
theorem tw3788257156207758748:True:=⟨⟩
theorem tw6893429782047156668:True:=⟨⟩
theorem tw16403775346947127740:True:=⟨⟩
theorem tw6382728351864029660:True:=⟨⟩
theorem tw17355812526420691420:True:=⟨⟩
theorem tw3595258343546056156:True:=⟨⟩
theorem tw14083519769691629116:True:=⟨⟩
theorem tw12872391019445365308:True:=⟨⟩
theorem tw7190647101559476828:True:=⟨⟩
theorem tw4353620206977696444:True:=⟨⟩
theorem tw9237770171512693500:True:=⟨⟩
theorem tw13834124489458032412:True:=⟨⟩
theorem tw184921232575938364:True:=⟨⟩
theorem tw11221891259260291900:True:=⟨⟩
theorem tw9930171872341854044:True:=⟨⟩
theorem tw13086456718562279260:True:=⟨⟩
theorem tw13016918603789141884:True:=⟨⟩
theorem tw10903150348735355804:True:=⟨⟩
theorem tw7655123711377843132:True:=⟨⟩
theorem tw4930623355473218524:True:=⟨⟩
theorem tw4722540276724851676:True:=⟨⟩
theorem tw6588869539245326365:True:=⟨⟩
theorem tw6635392388368437277:True:=⟨⟩
theorem tw2826624439122306077:True:=⟨⟩
theorem tw2151945503666416669:True:=⟨⟩
theorem tw2442639661817355325:True:=⟨⟩
theorem tw6552780161374827581:True:=⟨⟩
theorem tw10324558196597420189:True:=⟨⟩
theorem tw15217364044308863197:True:=⟨⟩
theorem tw10103677058309389533:True:=⟨⟩
theorem tw11433064327968835837:True:=⟨⟩
theorem tw15805529494287664413:True:=⟨⟩
theorem tw17844558506425243965:True:=⟨⟩
theorem tw17969528159948060029:True:=⟨⟩
theorem tw11107629734635844989:True:=⟨⟩
theorem tw10643284933866881437:True:=⟨⟩
theorem tw12814107830499627421:True:=⟨⟩
theorem tw1175286320117477789:True:=⟨⟩
theorem tw11590548740400894397:True:=⟨⟩
theorem tw3719361379171978717:True:=⟨⟩
theorem tw14857968902008838621:True:=⟨⟩
theorem tw14358047382514432509:True:=⟨⟩
theorem tw2434755628528698941:True:=⟨⟩
theorem tw17134499014789925437:True:=⟨⟩
theorem tw2875605970857386557:True:=⟨⟩
theorem tw2678984383597495901:True:=⟨⟩
theorem tw14160395181871446813:True:=⟨⟩
theorem tw11454281468935872317:True:=⟨⟩
theorem tw4061823813545770813:True:=⟨⟩
theorem tw20574178506426173:True:=⟨⟩
theorem tw12234886176657068861:True:=⟨⟩
theorem tw11439477999690193853:True:=⟨⟩
theorem tw11275337363801256893:True:=⟨⟩
theorem tw15642192548575332317:True:=⟨⟩
theorem tw10283815311820388349:True:=⟨⟩
theorem tw749953631177366525:True:=⟨⟩
theorem tw8082088252414281758:True:=⟨⟩
theorem tw16847555394671984670:True:=⟨⟩
theorem tw10722559684609196222:True:=⟨⟩
theorem tw14887980501370631422:True:=⟨⟩
theorem tw5601241305980906814:True:=⟨⟩
theorem tw9820740580087419198:True:=⟨⟩
theorem tw9758056403386759582:True:=⟨⟩
theorem tw17454271279140936126:True:=⟨⟩
theorem tw16279161146901124542:True:=⟨⟩
theorem tw7023311675691544030:True:=⟨⟩
theorem tw9923603749903815134:True:=⟨⟩
theorem tw8478209561535809022:True:=⟨⟩
theorem tw7474920466320632318:True:=⟨⟩
theorem tw16727120298200116734:True:=⟨⟩
theorem tw9003869249280993790:True:=⟨⟩
theorem tw13808672239464373790:True:=⟨⟩
theorem tw5615264045396235838:True:=⟨⟩
theorem tw10001584061145427550:True:=⟨⟩
theorem tw16669472002570239582:True:=⟨⟩
theorem tw10235914839298001534:True:=⟨⟩
theorem tw1705017380913260222:True:=⟨⟩
theorem tw17261126910588531454:True:=⟨⟩
theorem tw724927317077292830:True:=⟨⟩
theorem tw1810401786356000574:True:=⟨⟩
theorem tw14192671125047063358:True:=⟨⟩
theorem tw18193256833352741726:True:=⟨⟩
theorem tw16086040717934248830:True:=⟨⟩
theorem tw8504934729534575550:True:=⟨⟩
theorem tw13396940015586971582:True:=⟨⟩
theorem tw14870083090142207934:True:=⟨⟩
theorem tw16822412553818421214:True:=⟨⟩
theorem tw5667965219437530110:True:=⟨⟩
theorem tw12983021330184183839:True:=⟨⟩
theorem tw17946809471227883551:True:=⟨⟩
theorem tw8854863697115836447:True:=⟨⟩
theorem tw5307156874931313855:True:=⟨⟩
theorem tw17431755961451025727:True:=⟨⟩
theorem tw3997094338157124991:True:=⟨⟩
theorem tw14323842330416237951:True:=⟨⟩
theorem tw10682884771187286399:True:=⟨⟩
theorem tw4811727055311568319:True:=⟨⟩
theorem tw14260376778782012895:True:=⟨⟩
theorem tw16705996692758446591:True:=⟨⟩
theorem tw5990148631998083615:True:=⟨⟩
theorem tw17080828992639153759:True:=⟨⟩
theorem tw14278424801766398559:True:=⟨⟩
theorem tw8207355456872699551:True:=⟨⟩
theorem tw10594471269846227647:True:=⟨⟩
theorem tw15662358784828154559:True:=⟨⟩
theorem tw2936626793203746495:True:=⟨⟩
theorem tw4788667222780403423:True:=⟨⟩
theorem tw7374083277151315711:True:=⟨⟩
theorem tw2174211341236461407:True:=⟨⟩
theorem tw16656425222737697631:True:=⟨⟩
theorem tw5793786871498094527:True:=⟨⟩
end PySem.W.Fast
set_option maxRecDepth 100000 in
set_option maxHeartbeats 0 in
theorem PySem.Challenge.cw_meterhouse_k35_a_call_holds : PySem.Challenge.rw_meterhouse_k35_a_call.Holds := by
  w_on; o_law; z_head; (case hw=>w_witness2)
  k_fill
  refine L2.Zld (fun _=>by kernel_rfl) ?_
  refine L2.Zkx (l:=PySem.Challenge.rw_meterhouse_k35_a_call) (n:=63) (k:=50) (x := "_law_script") (CX:=L2.CX0) (sp:=My.spLaw) rfl (by decide) rfl ⟨rfl,by decide,by decide⟩ (fun w h Y=>Y) ?F ?S ?C
  case F =>
    intro w mg fa h KX G hmg
    have D_added:L2.Zaq (L2.KOf KX) mg "added" My.Zhb:=by
      dsimp only [L2.KOf]
      refine' L2.Zan KX G ?a ?l ?c ?k
      (case a=>k_is); (case l=>k_is); (case c=>k_is); (case k=>k_is)
    have D_lessened:L2.Zaq (L2.KOf KX) mg "lessened" My.Zdp:=by
      dsimp only [L2.KOf]
      refine' L2.Zan KX G ?a ?l ?c ?k
      (case a=>k_is); (case l=>k_is); (case c=>k_is); (case k=>k_is)
    have D_multiplied:L2.Zaq (L2.KOf KX) mg "multiplied" My.Zcv:=by
      dsimp only [L2.KOf]
      refine' L2.Zan KX G ?a ?l ?c ?k
      (case a=>k_is); (case l=>k_is); (case c=>k_is); (case k=>k_is)
    have D_contained:L2.Zaq (L2.KOf KX) mg "contained" My.ZcV:=by
      dsimp only [L2.KOf]
      refine' L2.Zan KX G ?a ?l ?c ?k
      (case a=>k_is); (case l=>k_is); (case c=>k_is); (case k=>k_is)
    have D_left_over:L2.Zaq (L2.KOf KX) mg "left_over" My.ZcW:=by
      dsimp only [L2.KOf]
      refine' L2.Zan KX G ?a ?l ?c ?k
      (case a=>k_is); (case l=>k_is); (case c=>k_is); (case k=>k_is)
    have D_is_below:L2.Zaq (L2.KOf KX) mg "is_below" My.Zdq:=by
      dsimp only [L2.KOf]
      refine' L2.Zan KX G ?a ?l ?c ?k
      (case a=>k_is); (case l=>k_is); (case c=>k_is); (case k=>k_is)
    have D_is_same:L2.Zaq (L2.KOf KX) mg "is_same" My.Zej:=by
      dsimp only [L2.KOf]
      refine' L2.Zan KX G ?a ?l ?c ?k
      (case a=>k_is); (case l=>k_is); (case c=>k_is); (case k=>k_is)
    have D_in_both:L2.Zaq (L2.KOf KX) mg "in_both" My.Zek:=by
      dsimp only [L2.KOf]
      refine' L2.Zan KX G ?a ?l ?c ?k
      (case a=>k_is); (case l=>k_is); (case c=>k_is); (case k=>k_is)
    have D_in_either:L2.Zaq (L2.KOf KX) mg "in_either" My.ZcX:=by
      dsimp only [L2.KOf]
      refine' L2.Zan KX G ?a ?l ?c ?k
      (case a=>k_is); (case l=>k_is); (case c=>k_is); (case k=>k_is)
    have D_in_just_one:L2.Zaq (L2.KOf KX) mg "in_just_one" My.Zce:=by
      dsimp only [L2.KOf]
      refine' L2.Zan KX G ?a ?l ?c ?k
      (case a=>k_is); (case l=>k_is); (case c=>k_is); (case k=>k_is)
    have D_doubled:L2.Zaq (L2.KOf KX) mg "doubled" My.Zel:=by
      dsimp only [L2.KOf]
      refine' L2.Zan KX G ?a ?l ?c ?k
      (case a=>k_is); (case l=>k_is); (case c=>k_is); (case k=>k_is)
    have D_halved:L2.Zaq (L2.KOf KX) mg "halved" My.Zff:=by
      dsimp only [L2.KOf]
      refine' L2.Zan KX G ?a ?l ?c ?k
      (case a=>k_is); (case l=>k_is); (case c=>k_is); (case k=>k_is)
    have D_reckon:L2.Zaq (L2.KOf KX) mg "reckon" My.Zfg:=by
      dsimp only [L2.KOf]
      refine' L2.Zan KX G ?a ?l ?c ?k
      (case a=>k_is); (case l=>k_is); (case c=>k_is); (case k=>k_is)
    have D_reach:L2.Zaq (L2.KOf KX) mg "reach" My.Zg8:=by
      dsimp only [L2.KOf]
      refine' L2.Zan KX G ?a ?l ?c ?k
      (case a=>k_is); (case l=>k_is); (case c=>k_is); (case k=>k_is)
    have D_takes:L2.Zaq (L2.KOf KX) mg "takes" My.Zg9:=by
      dsimp only [L2.KOf]
      refine' L2.Zan KX G ?a ?l ?c ?k
      (case a=>k_is); (case l=>k_is); (case c=>k_is); (case k=>k_is)
    have D_leaves:L2.Zaq (L2.KOf KX) mg "leaves" My.Zfe:=by
      dsimp only [L2.KOf]
      refine' L2.Zan KX G ?a ?l ?c ?k
      (case a=>k_is); (case l=>k_is); (case c=>k_is); (case k=>k_is)
    have D_shift_coin:L2.Zaq (L2.KOf KX) mg "shift_coin" My.Zcu:=by
      dsimp only [L2.KOf]
      refine' L2.Zan KX G ?a ?l ?c ?k
      (case a=>k_is); (case l=>k_is); (case c=>k_is); (case k=>k_is)
    have D_push_row:L2.Zaq (L2.KOf KX) mg "push_row" My.Zdr:=by
      dsimp only [L2.KOf]
      refine' L2.Zan KX G ?a ?l ?c ?k
      (case a=>k_is); (case l=>k_is); (case c=>k_is); (case k=>k_is)
    have D_drop_row:L2.Zaq (L2.KOf KX) mg "drop_row" My.Zds:=by
      dsimp only [L2.KOf]
      refine' L2.Zan KX G ?a ?l ?c ?k
      (case a=>k_is); (case l=>k_is); (case c=>k_is); (case k=>k_is)
    have D_copy_row:L2.Zaq (L2.KOf KX) mg "copy_row" My.Zdt:=by
      dsimp only [L2.KOf]
      refine' L2.Zan KX G ?a ?l ?c ?k
      (case a=>k_is); (case l=>k_is); (case c=>k_is); (case k=>k_is)
    have D_swap_row:L2.Zaq (L2.KOf KX) mg "swap_row" My.Zdu:=by
      dsimp only [L2.KOf]
      refine' L2.Zan KX G ?a ?l ?c ?k
      (case a=>k_is); (case l=>k_is); (case c=>k_is); (case k=>k_is)
    have D_reckon_row:L2.Zaq (L2.KOf KX) mg "reckon_row" My.Zcx:=by
      dsimp only [L2.KOf]
      refine' L2.Zan KX G ?a ?l ?c ?k
      (case a=>k_is); (case l=>k_is); (case c=>k_is); (case k=>k_is)
    have D_jump_row:L2.Zaq (L2.KOf KX) mg "jump_row" My.Zdv:=by
      dsimp only [L2.KOf]
      refine' L2.Zan KX G ?a ?l ?c ?k
      (case a=>k_is); (case l=>k_is); (case c=>k_is); (case k=>k_is)
    have D_jumpif_row:L2.Zaq (L2.KOf KX) mg "jumpif_row" My.Zcy:=by
      dsimp only [L2.KOf]
      refine' L2.Zan KX G ?a ?l ?c ?k
      (case a=>k_is); (case l=>k_is); (case c=>k_is); (case k=>k_is)
    have D_me_row:L2.Zaq (L2.KOf KX) mg "me_row" My.Zfh:=by
      dsimp only [L2.KOf]
      refine' L2.Zan KX G ?a ?l ?c ?k
      (case a=>k_is); (case l=>k_is); (case c=>k_is); (case k=>k_is)
    have D_from_row:L2.Zaq (L2.KOf KX) mg "from_row" My.Zdy:=by
      dsimp only [L2.KOf]
      refine' L2.Zan KX G ?a ?l ?c ?k
      (case a=>k_is); (case l=>k_is); (case c=>k_is); (case k=>k_is)
    have D_sent_row:L2.Zaq (L2.KOf KX) mg "sent_row" My.Zdz:=by
      dsimp only [L2.KOf]
      refine' L2.Zan KX G ?a ?l ?c ?k
      (case a=>k_is); (case l=>k_is); (case c=>k_is); (case k=>k_is)
    have D_word_row:L2.Zaq (L2.KOf KX) mg "word_row" My.ZdA:=by
      dsimp only [L2.KOf]
      refine' L2.Zan KX G ?a ?l ?c ?k
      (case a=>k_is); (case l=>k_is); (case c=>k_is); (case k=>k_is)
    have D_give_row:L2.Zaq (L2.KOf KX) mg "give_row" My.ZdD:=by
      dsimp only [L2.KOf]
      refine' L2.Zan KX G ?a ?l ?c ?k
      (case a=>k_is); (case l=>k_is); (case c=>k_is); (case k=>k_is)
    have D_fail_row:L2.Zaq (L2.KOf KX) mg "fail_row" My.ZdE:=by
      dsimp only [L2.KOf]
      refine' L2.Zan KX G ?a ?l ?c ?k
      (case a=>k_is); (case l=>k_is); (case c=>k_is); (case k=>k_is)
    have D_brings_coin:L2.Zaq (L2.KOf KX) mg "brings_coin" My.Zcf:=by
      dsimp only [L2.KOf]
      refine' L2.Zan KX G ?a ?l ?c ?k
      (case a=>k_is); (case l=>k_is); (case c=>k_is); (case k=>k_is)
    have D_fills_place:L2.Zaq (L2.KOf KX) mg "fills_place" My.Zcg:=by
      dsimp only [L2.KOf]
      refine' L2.Zan KX G ?a ?l ?c ?k
      (case a=>k_is); (case l=>k_is); (case c=>k_is); (case k=>k_is)
    have D_row_price:L2.Zaq (L2.KOf KX) mg "row_price" My.ZcY:=by
      dsimp only [L2.KOf]
      refine' L2.Zan KX G ?a ?l ?c ?k
      (case a=>k_is); (case l=>k_is); (case c=>k_is); (case k=>k_is)
    have D_is_barred:L2.Zaq (L2.KOf KX) mg "is_barred" My.ZcZ:=by
      dsimp only [L2.KOf]
      refine' L2.Zan KX G ?a ?l ?c ?k
      (case a=>k_is); (case l=>k_is); (case c=>k_is); (case k=>k_is)
    have D_end_ahead_of:L2.Zaq (L2.KOf KX) mg "end_ahead_of" My.Zb4:=by
      dsimp only [L2.KOf]
      refine' L2.Zan KX G ?a ?l ?c ?k
      (case a=>k_is); (case l=>k_is); (case c=>k_is); (case k=>k_is)
    have D_write_step:L2.Zaq (L2.KOf KX) mg "write_step" My.Zcw:=by
      dsimp only [L2.KOf]
      refine' L2.Zan KX G ?a ?l ?c ?k
      (case a=>k_is); (case l=>k_is); (case c=>k_is); (case k=>k_is)
    have D_account_at:L2.Zaq (L2.KOf KX) mg "account_at" My.Zct:=by
      dsimp only [L2.KOf]
      refine' L2.Zan KX G ?a ?l ?c ?k
      (case a=>k_is); (case l=>k_is); (case c=>k_is); (case k=>k_is)
    have D_load_row:L2.Zaq (L2.KOf KX) mg "load_row" My.Zdw:=by
      dsimp only [L2.KOf]
      refine' L2.Zan KX G ?a ?l ?c ?k
      (case a=>k_is); (case l=>k_is); (case c=>k_is); (case k=>k_is)
    have D_coin_row:L2.Zaq (L2.KOf KX) mg "coin_row" My.ZdB:=by
      dsimp only [L2.KOf]
      refine' L2.Zan KX G ?a ?l ?c ?k
      (case a=>k_is); (case l=>k_is); (case c=>k_is); (case k=>k_is)
    have D_save_row:L2.Zaq (L2.KOf KX) mg "save_row" My.Zdx:=by
      dsimp only [L2.KOf]
      refine' L2.Zan KX G ?a ?l ?c ?k
      (case a=>k_is); (case l=>k_is); (case c=>k_is); (case k=>k_is)
    have D_note_row:L2.Zaq (L2.KOf KX) mg "note_row" My.ZdC:=by
      dsimp only [L2.KOf]
      refine' L2.Zan KX G ?a ?l ?c ?k
      (case a=>k_is); (case l=>k_is); (case c=>k_is); (case k=>k_is)
    have D_do_row:L2.Zaq (L2.KOf KX) mg "do_row" My.Zfi:=by
      dsimp only [L2.KOf]
      refine' L2.Zan KX G ?a ?l ?c ?k
      (case a=>k_is); (case l=>k_is); (case c=>k_is); (case k=>k_is)
    have D_other_call:L2.Zaq (L2.KOf KX) mg "other_call" My.Zcz:=by
      dsimp only [L2.KOf]
      refine' L2.Zan KX G ?a ?l ?c ?k
      (case a=>k_is); (case l=>k_is); (case c=>k_is); (case k=>k_is)
    have D_end_ahead_of_call:L2.Zaq (L2.KOf KX) mg "end_ahead_of_call" My.Zbu:=by
      dsimp only [L2.KOf]
      refine' L2.Zan KX G ?a ?l ?c ?k
      (case a=>k_is); (case l=>k_is); (case c=>k_is); (case k=>k_is)
    have D_call_row:L2.Zaq (L2.KOf KX) mg "call_row" My.ZcK:=by
      dsimp only [L2.KOf]
      refine' L2.Zan KX G ?a ?l ?c ?k
      (case a=>k_is); (case l=>k_is); (case c=>k_is); (case k=>k_is)
    have D_go_row:L2.Zaq (L2.KOf KX) mg "go_row" My.Zd2:=by
      dsimp only [L2.KOf]
      refine' L2.Zan KX G ?a ?l ?c ?k
      (case a=>k_is); (case l=>k_is); (case c=>k_is); (case k=>k_is)
    have D_go_on:L2.Zaq (L2.KOf KX) mg "go_on" My.Zfj:=by
      dsimp only [L2.KOf]
      refine' L2.Zan KX G ?a ?l ?c ?k
      (case a=>k_is); (case l=>k_is); (case c=>k_is); (case k=>k_is)
    have D_go:L2.Zaq (L2.KOf KX) mg "go" My.s_go:=by
      dsimp only [L2.KOf]
      refine' L2.Zan KX G ?a ?l ?c ?k
      (case a=>k_is); (case l=>k_is); (case c=>k_is); (case k=>k_is)
    have D_enter:L2.Zaq (L2.KOf KX) mg "enter" My.Zhc:=by
      dsimp only [L2.KOf]
      refine' L2.Zan KX G ?a ?l ?c ?k
      (case a=>k_is); (case l=>k_is); (case c=>k_is); (case k=>k_is)
    have D_Lalike:L2.Zaq (L2.KOf KX) mg "_law_alike" My.Zdh:=by
      dsimp only [L2.KOf]
      refine' L2.Zan KX G ?a ?l ?c ?k
      (case a=>k_is); (case l=>k_is); (case c=>k_is); (case k=>k_is)
    have D_Lcell_at:L2.Zaq (L2.KOf KX) mg "_law_cell_at" My.ZdF:=by
      dsimp only [L2.KOf]
      refine' L2.Zan KX G ?a ?l ?c ?k
      (case a=>k_is); (case l=>k_is); (case c=>k_is); (case k=>k_is)
    have D_Lrows_gone:L2.Zaq (L2.KOf KX) mg "_law_rows_gone" My.ZcA:=by
      dsimp only [L2.KOf]
      refine' L2.Zan KX G ?a ?l ?c ?k
      (case a=>k_is); (case l=>k_is); (case c=>k_is); (case k=>k_is)
    have D_Lsteps:L2.Zaq (L2.KOf KX) mg "_law_steps" My.Zfk:=by
      dsimp only [L2.KOf]
      refine' L2.Zan KX G ?a ?l ?c ?k
      (case a=>k_is); (case l=>k_is); (case c=>k_is); (case k=>k_is)
    have D_Lrooms:L2.Zaq (L2.KOf KX) mg "_law_rooms" My.Zfl:=by
      dsimp only [L2.KOf]
      refine' L2.Zan KX G ?a ?l ?c ?k
      (case a=>k_is); (case l=>k_is); (case c=>k_is); (case k=>k_is)
    have D_Linner:L2.Zaq (L2.KOf KX) mg "_law_inner" My.Zfm:=by
      dsimp only [L2.KOf]
      refine' L2.Zan KX G ?a ?l ?c ?k
      (case a=>k_is); (case l=>k_is); (case c=>k_is); (case k=>k_is)
    have D_law:L2.Zaq (L2.KOf KX) mg "law" My.Zmu:=by
      dsimp only [L2.KOf]
      refine' L2.Zan KX G ?a ?l ?c ?k
      (case a=>k_is); (case l=>k_is); (case c=>k_is); (case k=>k_is)
    have x_Account:∃ C,My.T_Account (L2.KOf KX) mg C/\L2.Zao (L2.KOf KX) C "__init__" "Account.__init__" My.ZaR/\L2.Zao (L2.KOf KX) C "loaded" "Account.loaded" My.ZaZ/\L2.Zao (L2.KOf KX) C "keep" "Account.keep" My.Zba:=by
      dsimp only [L2.KOf]
      refine' My.ZiP KX G ?aC ?pg ?hd ?po ?sa ?mk ?kc ?ncoin ?npurse ?ncount ?nprogram ?nstore ?a__init__ ?i__init__ ?l__init__ ?c__init__ ?k__init__ ?aloaded ?iloaded ?lloaded ?cloaded ?kloaded ?akeep ?ikeep ?lkeep ?ckeep ?kkeep
      (case aC=>k_is); (case pg=>k_is); (case hd=>k_is); (case po=>k_is); (case sa=>k_is); (case mk=>k_is); (case kc=>k_is); (case ncoin=>k_is); (case npurse=>k_is); (case ncount=>k_is); (case nprogram=>k_is); (case nstore=>k_is); (case a__init__=>k_is); (case i__init__=>k_is); (case l__init__=>k_is); (case c__init__=>k_is); (case k__init__=>k_is); (case aloaded=>k_is); (case iloaded=>k_is); (case lloaded=>k_is); (case cloaded=>k_is); (case kloaded=>k_is); (case akeep=>k_is); (case ikeep=>k_is); (case lkeep=>k_is); (case ckeep=>k_is); (case kkeep=>k_is)
    obtain ⟨cAccount,tAccount,D_Account___init__,D_Account_loaded,D_Account_keep⟩:=x_Account
    have x_Save:∃ C,My.T_Save (L2.KOf KX) mg C/\L2.Zao (L2.KOf KX) C "__init__" "Save.__init__" My.Za3/\L2.Zao (L2.KOf KX) C "do" "Save.do" My.ZbU/\L2.Zao (L2.KOf KX) C "undo" "Save.undo" My.Zbv/\L2.Zao (L2.KOf KX) C "told" "Save.told" My.Zbw:=by
      dsimp only [L2.KOf]
      refine' My.ZmJ KX G ?aC ?pg ?hd ?po ?sa ?mk ?kc ?nslot ?nplace ?nold ?nnew ?a__init__ ?i__init__ ?l__init__ ?c__init__ ?k__init__ ?ado ?ido ?ldo ?cdo ?kdo ?aundo ?iundo ?lundo ?cundo ?kundo ?atold ?itold ?ltold ?ctold ?ktold
      (case aC=>k_is); (case pg=>k_is); (case hd=>k_is); (case po=>k_is); (case sa=>k_is); (case mk=>k_is); (case kc=>k_is); (case nslot=>k_is); (case nplace=>k_is); (case nold=>k_is); (case nnew=>k_is); (case a__init__=>k_is); (case i__init__=>k_is); (case l__init__=>k_is); (case c__init__=>k_is); (case k__init__=>k_is); (case ado=>k_is); (case ido=>k_is); (case ldo=>k_is); (case cdo=>k_is); (case kdo=>k_is); (case aundo=>k_is); (case iundo=>k_is); (case lundo=>k_is); (case cundo=>k_is); (case kundo=>k_is); (case atold=>k_is); (case itold=>k_is); (case ltold=>k_is); (case ctold=>k_is); (case ktold=>k_is)
    obtain ⟨cSave,tSave,D_Save___init__,D_Save_do,D_Save_undo,D_Save_told⟩:=x_Save
    have x_Move:∃ C,My.T_Move (L2.KOf KX) mg C/\L2.Zao (L2.KOf KX) C "__init__" "Move.__init__" My.Za4/\L2.Zao (L2.KOf KX) C "do" "Move.do" My.ZbV/\L2.Zao (L2.KOf KX) C "undo" "Move.undo" My.Zbx/\L2.Zao (L2.KOf KX) C "told" "Move.told" My.Zby:=by
      dsimp only [L2.KOf]
      refine' My.ZmK KX G ?aC ?pg ?hd ?po ?sa ?mk ?kc ?nslot ?ntaker ?nmany ?a__init__ ?i__init__ ?l__init__ ?c__init__ ?k__init__ ?ado ?ido ?ldo ?cdo ?kdo ?aundo ?iundo ?lundo ?cundo ?kundo ?atold ?itold ?ltold ?ctold ?ktold
      (case aC=>k_is); (case pg=>k_is); (case hd=>k_is); (case po=>k_is); (case sa=>k_is); (case mk=>k_is); (case kc=>k_is); (case nslot=>k_is); (case ntaker=>k_is); (case nmany=>k_is); (case a__init__=>k_is); (case i__init__=>k_is); (case l__init__=>k_is); (case c__init__=>k_is); (case k__init__=>k_is); (case ado=>k_is); (case ido=>k_is); (case ldo=>k_is); (case cdo=>k_is); (case kdo=>k_is); (case aundo=>k_is); (case iundo=>k_is); (case lundo=>k_is); (case cundo=>k_is); (case kundo=>k_is); (case atold=>k_is); (case itold=>k_is); (case ltold=>k_is); (case ctold=>k_is); (case ktold=>k_is)
    obtain ⟨cMove,tMove,D_Move___init__,D_Move_do,D_Move_undo,D_Move_told⟩:=x_Move
    have x_Note:∃ C,My.T_Note (L2.KOf KX) mg C/\L2.Zao (L2.KOf KX) C "__init__" "Note.__init__" My.Za5/\L2.Zao (L2.KOf KX) C "told" "Note.told" My.Zbz/\L2.Zao (L2.KOf KX) C "do" "Deed.do" My.ZbW/\L2.Zao (L2.KOf KX) C "undo" "Deed.undo" My.ZbB:=by
      dsimp only [L2.KOf]
      refine' My.ZmL KX G ?aC ?pg ?hd ?po ?sa ?mk ?kc ?nslot ?nnumber ?a__init__ ?i__init__ ?l__init__ ?c__init__ ?k__init__ ?atold ?itold ?ltold ?ctold ?ktold ?ado ?ido ?ldo ?cdo ?kdo ?aundo ?iundo ?lundo ?cundo ?kundo
      (case aC=>k_is); (case pg=>k_is); (case hd=>k_is); (case po=>k_is); (case sa=>k_is); (case mk=>k_is); (case kc=>k_is); (case nslot=>k_is); (case nnumber=>k_is); (case a__init__=>k_is); (case i__init__=>k_is); (case l__init__=>k_is); (case c__init__=>k_is); (case k__init__=>k_is); (case atold=>k_is); (case itold=>k_is); (case ltold=>k_is); (case ctold=>k_is); (case ktold=>k_is); (case ado=>k_is); (case ido=>k_is); (case ldo=>k_is); (case cdo=>k_is); (case kdo=>k_is); (case aundo=>k_is); (case iundo=>k_is); (case lundo=>k_is); (case cundo=>k_is); (case kundo=>k_is)
    obtain ⟨cNote,tNote,D_Note___init__,D_Note_told,D_Note_do,D_Note_undo⟩:=x_Note
    have x_Journal:∃ C,My.T_Journal (L2.KOf KX) mg C/\L2.Zao (L2.KOf KX) C "__init__" "Journal.__init__" My.ZaS/\L2.Zao (L2.KOf KX) C "write" "Journal.write" My.Za6/\L2.Zao (L2.KOf KX) C "mark" "Journal.mark" My.Zbc/\L2.Zao (L2.KOf KX) C "back" "Journal.back" My.Zbd/\L2.Zao (L2.KOf KX) C "told" "Journal.told" My.Za1:=by
      dsimp only [L2.KOf]
      refine' My.ZiQ KX G ?aC ?pg ?hd ?po ?sa ?mk ?kc ?nrooms ?ndeeds ?a__init__ ?i__init__ ?l__init__ ?c__init__ ?k__init__ ?awrite ?iwrite ?lwrite ?cwrite ?kwrite ?amark ?imark ?lmark ?cmark ?kmark ?aback ?iback ?lback ?cback ?kback ?atold ?itold ?ltold ?ctold ?ktold
      (case aC=>k_is); (case pg=>k_is); (case hd=>k_is); (case po=>k_is); (case sa=>k_is); (case mk=>k_is); (case kc=>k_is); (case nrooms=>k_is); (case ndeeds=>k_is); (case a__init__=>k_is); (case i__init__=>k_is); (case l__init__=>k_is); (case c__init__=>k_is); (case k__init__=>k_is); (case awrite=>k_is); (case iwrite=>k_is); (case lwrite=>k_is); (case cwrite=>k_is); (case kwrite=>k_is); (case amark=>k_is); (case imark=>k_is); (case lmark=>k_is); (case cmark=>k_is); (case kmark=>k_is); (case aback=>k_is); (case iback=>k_is); (case lback=>k_is); (case cback=>k_is); (case kback=>k_is); (case atold=>k_is); (case itold=>k_is); (case ltold=>k_is); (case ctold=>k_is); (case ktold=>k_is)
    obtain ⟨cJournal,tJournal,D_Journal___init__,D_Journal_write,D_Journal_mark,D_Journal_back,D_Journal_told⟩:=x_Journal
    have x_Frame:∃ C,My.T_Frame (L2.KOf KX) mg C/\L2.Zao (L2.KOf KX) C "left" "Frame.left" My.Zbn/\L2.Zao (L2.KOf KX) C "short_for" "Frame.short_for" My.ZaV/\L2.Zao (L2.KOf KX) C "full_behind" "Frame.full_behind" My.ZaP/\L2.Zao (L2.KOf KX) C "taken" "Frame.taken" My.Zbk/\L2.Zao (L2.KOf KX) C "lay" "Frame.lay" My.ZbA/\L2.Zao (L2.KOf KX) C "finish" "Frame.finish" My.Zbb/\L2.Zao (L2.KOf KX) C "tree" "Frame.tree" My.Zbo:=by
      dsimp only [L2.KOf]
      refine' My.Zlc KX G ?aC ?pg ?hd ?po ?sa ?mk ?kc ?nkind ?nwho ?nwhose ?ncaller ?ncoin ?nword ?ngiven ?ndepth ?nlooking ?nused ?nstack ?nrow ?nsteps ?nend ?nanswer ?aleft ?ileft ?lleft ?cleft ?kleft ?ashort_for ?ishort_for ?lshort_for ?cshort_for ?kshort_for ?afull_behind ?ifull_behind ?lfull_behind ?cfull_behind ?kfull_behind ?ataken ?itaken ?ltaken ?ctaken ?ktaken ?alay ?ilay ?llay ?clay ?klay ?afinish ?ifinish ?lfinish ?cfinish ?kfinish ?atree ?itree ?ltree ?ctree ?ktree
      (case aC=>k_is); (case pg=>k_is); (case hd=>k_is); (case po=>k_is); (case sa=>k_is); (case mk=>k_is); (case kc=>k_is); (case nkind=>k_is); (case nwho=>k_is); (case nwhose=>k_is); (case ncaller=>k_is); (case ncoin=>k_is); (case nword=>k_is); (case ngiven=>k_is); (case ndepth=>k_is); (case nlooking=>k_is); (case nused=>k_is); (case nstack=>k_is); (case nrow=>k_is); (case nsteps=>k_is); (case nend=>k_is); (case nanswer=>k_is); (case aleft=>k_is); (case ileft=>k_is); (case lleft=>k_is); (case cleft=>k_is); (case kleft=>k_is); (case ashort_for=>k_is); (case ishort_for=>k_is); (case lshort_for=>k_is); (case cshort_for=>k_is); (case kshort_for=>k_is); (case afull_behind=>k_is); (case ifull_behind=>k_is); (case lfull_behind=>k_is); (case cfull_behind=>k_is); (case kfull_behind=>k_is); (case ataken=>k_is); (case itaken=>k_is); (case ltaken=>k_is); (case ctaken=>k_is); (case ktaken=>k_is); (case alay=>k_is); (case ilay=>k_is); (case llay=>k_is); (case clay=>k_is); (case klay=>k_is); (case afinish=>k_is); (case ifinish=>k_is); (case lfinish=>k_is); (case cfinish=>k_is); (case kfinish=>k_is); (case atree=>k_is); (case itree=>k_is); (case ltree=>k_is); (case ctree=>k_is); (case ktree=>k_is)
    obtain ⟨cFrame,tFrame,D_Frame_left,D_Frame_short_for,D_Frame_full_behind,D_Frame_taken,D_Frame_lay,D_Frame_finish,D_Frame_tree⟩:=x_Frame
    have n_max:mg "max" = none:=by
      refine' PySem.W.mg_none_of KX G ?a
      (case a=>k_is)
    have n_list:mg "list" = none:=by
      refine' PySem.W.mg_none_of KX G ?a
      (case a=>k_is)
    have n_len:mg "len" = none:=by
      refine' PySem.W.mg_none_of KX G ?a
      (case a=>k_is)
    have n_range:mg "range" = none:=by
      refine' PySem.W.mg_none_of KX G ?a
      (case a=>k_is)
    have n_reversed:mg "reversed" = none:=by
      refine' PySem.W.mg_none_of KX G ?a
      (case a=>k_is)
    have n_min:mg "min" = none:=by
      refine' PySem.W.mg_none_of KX G ?a
      (case a=>k_is)
    have n_isinstance:mg "isinstance" = none:=by
      refine' PySem.W.mg_none_of KX G ?a
      (case a=>k_is)
    have n_int:mg "int" = none:=by
      refine' PySem.W.mg_none_of KX G ?a
      (case a=>k_is)
    have n_str:mg "str" = none:=by
      refine' PySem.W.mg_none_of KX G ?a
      (case a=>k_is)
    have n_tuple:mg "tuple" = none:=by
      refine' PySem.W.mg_none_of KX G ?a
      (case a=>k_is)
    have n_bool:mg "bool" = none:=by
      refine' PySem.W.mg_none_of KX G ?a
      (case a=>k_is)
    have g_WIDE:L2.Za0 mg "WIDE" (.int 18446744073709551616):=by
      refine' L2.ZcG KX G ?a
      (case a=>k_is)
    have g_FIGURES:L2.Za0 mg "FIGURES" (.int 64):=by
      refine' L2.ZcG KX G ?a
      (case a=>k_is)
    have g_MOST_ON_STACK:L2.Za0 mg "MOST_ON_STACK" (.int 24):=by
      refine' L2.ZcG KX G ?a
      (case a=>k_is)
    have g_MOST_CALLS:L2.Za0 mg "MOST_CALLS" (.int 8):=by
      refine' L2.ZcG KX G ?a
      (case a=>k_is)
    have D_price:L2.Zjr (L2.KOf KX) mg "price" My.Zha #[.bool false]:=by
      dsimp only [L2.KOf]
      refine' L2.Zjs KX G ?a ?l ?c ?k ?d
      (case a=>k_is); (case l=>k_is); (case c=>k_is); (case k=>k_is); (case d=>k_is)
    have RR:∃ aT:Addr,L2.Za0 mg "ROWS" (.ref aT)/\My.Zgq PySem.Challenge.rw_meterhouse_k35_a_call.prog w (L2.KOf KX) aT:=by
      dsimp only [L2.KOf]
      refine' My.ZmH KX G ?a ?l ?e1 ?e2 ?e3 ?t1 ?t2 ?t3 ?t4 ?t5 ?t6 ?t7 ?t8 ?t9 ?t10 ?t11 ?t12 ?t13 ?t14 ?t15 ?t16 ?t17 ?t18 ?t19 ?t20 ?t21 ?t22 ?t23 ?t24 ?t25 ?t26 ?t27 ?t28 ?t29 ?t30 ?t31
      (case a=>k_is); (case l=>k_is); (case e1=>rfl); (case e2=>rfl); (case e3=>rfl)
      case t1 =>
        refine' L2.ZaN ?l ?v ?z
        (case l=>k_is); (case v=>walk_at "vals"); (case z=>decide)
      case t2 =>
        refine' L2.ZaN ?l ?v ?z
        (case l=>k_is); (case v=>walk_at "vals"); (case z=>decide)
      case t3 =>
        refine' L2.ZaN ?l ?v ?z
        (case l=>k_is); (case v=>walk_at "vals"); (case z=>decide)
      case t4 =>
        refine' L2.ZaN ?l ?v ?z
        (case l=>k_is); (case v=>walk_at "vals"); (case z=>decide)
      case t5 =>
        refine' L2.ZaN ?l ?v ?z
        (case l=>k_is); (case v=>walk_at "vals"); (case z=>decide)
      case t6 =>
        refine' L2.ZaN ?l ?v ?z
        (case l=>k_is); (case v=>walk_at "vals"); (case z=>decide)
      case t7 =>
        refine' L2.ZaN ?l ?v ?z
        (case l=>k_is); (case v=>walk_at "vals"); (case z=>decide)
      case t8 =>
        refine' L2.ZaN ?l ?v ?z
        (case l=>k_is); (case v=>walk_at "vals"); (case z=>decide)
      case t9 =>
        refine' L2.ZaN ?l ?v ?z
        (case l=>k_is); (case v=>walk_at "vals"); (case z=>decide)
      case t10 =>
        refine' L2.ZaN ?l ?v ?z
        (case l=>k_is); (case v=>walk_at "vals"); (case z=>decide)
      case t11 =>
        refine' L2.ZaN ?l ?v ?z
        (case l=>k_is); (case v=>walk_at "vals"); (case z=>decide)
      case t12 =>
        refine' L2.ZaN ?l ?v ?z
        (case l=>k_is); (case v=>walk_at "vals"); (case z=>decide)
      case t13 =>
        refine' L2.ZaN ?l ?v ?z
        (case l=>k_is); (case v=>walk_at "vals"); (case z=>decide)
      case t14 =>
        refine' L2.ZaN ?l ?v ?z
        (case l=>k_is); (case v=>walk_at "vals"); (case z=>decide)
      case t15 =>
        refine' L2.ZaN ?l ?v ?z
        (case l=>k_is); (case v=>walk_at "vals"); (case z=>decide)
      case t16 =>
        refine' L2.ZaN ?l ?v ?z
        (case l=>k_is); (case v=>walk_at "vals"); (case z=>decide)
      case t17 =>
        refine' L2.ZaN ?l ?v ?z
        (case l=>k_is); (case v=>walk_at "vals"); (case z=>decide)
      case t18 =>
        refine' L2.ZaN ?l ?v ?z
        (case l=>k_is); (case v=>walk_at "vals"); (case z=>decide)
      case t19 =>
        refine' L2.ZaN ?l ?v ?z
        (case l=>k_is); (case v=>walk_at "vals"); (case z=>decide)
      case t20 =>
        refine' L2.ZaN ?l ?v ?z
        (case l=>k_is); (case v=>walk_at "vals"); (case z=>decide)
      case t21 =>
        refine' L2.ZaN ?l ?v ?z
        (case l=>k_is); (case v=>walk_at "vals"); (case z=>decide)
      case t22 =>
        refine' L2.ZaN ?l ?v ?z
        (case l=>k_is); (case v=>walk_at "vals"); (case z=>decide)
      case t23 =>
        refine' L2.ZaN ?l ?v ?z
        (case l=>k_is); (case v=>walk_at "vals"); (case z=>decide)
      case t24 =>
        refine' L2.ZaN ?l ?v ?z
        (case l=>k_is); (case v=>walk_at "vals"); (case z=>decide)
      case t25 =>
        refine' L2.ZaN ?l ?v ?z
        (case l=>k_is); (case v=>walk_at "vals"); (case z=>decide)
      case t26 =>
        refine' L2.ZaN ?l ?v ?z
        (case l=>k_is); (case v=>walk_at "vals"); (case z=>decide)
      case t27 =>
        refine' L2.ZaN ?l ?v ?z
        (case l=>k_is); (case v=>walk_at "vals"); (case z=>decide)
      case t28 =>
        refine' L2.ZaN ?l ?v ?z
        (case l=>k_is); (case v=>walk_at "vals"); (case z=>decide)
      case t29 =>
        refine' L2.ZaN ?l ?v ?z
        (case l=>k_is); (case v=>walk_at "vals"); (case z=>decide)
      case t30 =>
        refine' L2.ZaN ?l ?v ?z
        (case l=>k_is); (case v=>walk_at "vals"); (case z=>decide)
      case t31 =>
        refine' L2.ZaN ?l ?v ?z
        (case l=>k_is); (case v=>walk_at "vals"); (case z=>decide)
    obtain ⟨aT,g_ROWS,rok⟩:=RR
    have S1:∃ (aS:Addr) (u1 u2 u3 u4 u5 u6 u7 u8 u9 u10 u11 u12:Value),L2.Za0 mg "SUMS" (.ref aS)/\L2.Zde PySem.Challenge.rw_meterhouse_k35_a_call.prog w (L2.KOf KX) aS [(Sum.inr "add", u1),(Sum.inr "minus", u2),(Sum.inr "times", u3),(Sum.inr "over", u4),(Sum.inr "rest", u5),(Sum.inr "below", u6),(Sum.inr "same", u7),(Sum.inr "both", u8),(Sum.inr "either", u9),(Sum.inr "unlike", u10),(Sum.inr "up", u11),(Sum.inr "down", u12)]/\mg "added" = some u1/\mg "lessened" = some u2/\mg "multiplied" = some u3/\mg "contained" = some u4/\mg "left_over" = some u5/\mg "is_below" = some u6/\mg "is_same" = some u7/\mg "in_both" = some u8/\mg "in_either" = some u9/\mg "in_just_one" = some u10/\mg "doubled" = some u11/\mg "halved" = some u12:=by
      dsimp only [L2.KOf]
      refine' My.ZmI KX G ?a ?l ?e1 ?e2 ?e3 ?m1 ?m2 ?m3 ?m4 ?m5 ?m6 ?m7 ?m8 ?m9 ?m10 ?m11 ?m12
      (case a=>k_is); (case l=>k_is); (case e1=>rfl); (case e2=>rfl); (case e3=>rfl)
      (case m1=>k_is); (case m2=>k_is); (case m3=>k_is); (case m4=>k_is); (case m5=>k_is); (case m6=>k_is); (case m7=>k_is); (case m8=>k_is); (case m9=>k_is); (case m10=>k_is); (case m11=>k_is); (case m12=>k_is)
    obtain ⟨aS,u1,u2,u3,u4,u5,u6,u7,u8,u9,u10,u11,u12,g_SUMS,dk,m1,m2,m3,m4,m5,m6,m7,m8,m9,m10,m11,m12⟩:=S1
    have DO1:∃ (aD:Addr) (u1 u2 u3 u4 u5 u6 u7 u8 u9 u10 u11 u12 u13 u14 u15 u16 u17:Value),L2.Za0 mg "DOINGS" (.ref aD)/\L2.Zde PySem.Challenge.rw_meterhouse_k35_a_call.prog w (L2.KOf KX) aD [(Sum.inr "push", u1),(Sum.inr "drop", u2),(Sum.inr "copy", u3),(Sum.inr "swap", u4),(Sum.inr "add", u5),(Sum.inr "minus", u5),(Sum.inr "times", u5),(Sum.inr "over", u5),(Sum.inr "rest", u5),(Sum.inr "below", u5),(Sum.inr "same", u5),(Sum.inr "both", u5),(Sum.inr "either", u5),(Sum.inr "unlike", u5),(Sum.inr "up", u5),(Sum.inr "down", u5),(Sum.inr "jump", u6),(Sum.inr "jumpif", u7),(Sum.inr "load", u8),(Sum.inr "save", u9),(Sum.inr "me", u10),(Sum.inr "from", u11),(Sum.inr "sent", u12),(Sum.inr "word", u13),(Sum.inr "coin", u14),(Sum.inr "note", u15),(Sum.inr "give", u16),(Sum.inr "fail", u17)]/\mg "push_row" = some u1/\mg "drop_row" = some u2/\mg "copy_row" = some u3/\mg "swap_row" = some u4/\mg "reckon_row" = some u5/\mg "jump_row" = some u6/\mg "jumpif_row" = some u7/\mg "load_row" = some u8/\mg "save_row" = some u9/\mg "me_row" = some u10/\mg "from_row" = some u11/\mg "sent_row" = some u12/\mg "word_row" = some u13/\mg "coin_row" = some u14/\mg "note_row" = some u15/\mg "give_row" = some u16/\mg "fail_row" = some u17:=by
      dsimp only [L2.KOf]
      refine' My.do_at KX G ?a ?l ?e1 ?e2 ?e3 ?m_push_row ?m_drop_row ?m_copy_row ?m_swap_row ?m_reckon_row ?m_jump_row ?m_jumpif_row ?m_load_row ?m_save_row ?m_me_row ?m_from_row ?m_sent_row ?m_word_row ?m_coin_row ?m_note_row ?m_give_row ?m_fail_row
      (case a=>k_is); (case l=>k_is); (case e1=>rfl); (case e2=>rfl); (case e3=>rfl)
      (case m_push_row=>k_is); (case m_drop_row=>k_is); (case m_copy_row=>k_is); (case m_swap_row=>k_is); (case m_reckon_row=>k_is); (case m_jump_row=>k_is); (case m_jumpif_row=>k_is); (case m_load_row=>k_is); (case m_save_row=>k_is); (case m_me_row=>k_is); (case m_from_row=>k_is); (case m_sent_row=>k_is); (case m_word_row=>k_is); (case m_coin_row=>k_is); (case m_note_row=>k_is); (case m_give_row=>k_is); (case m_fail_row=>k_is)
    obtain ⟨aD,u1,u2,u3,u4,u5,u6,u7,u8,u9,u10,u11,u12,u13,u14,u15,u16,u17,g_DOINGS,dkD,m_push_row,m_drop_row,m_copy_row,m_swap_row,m_reckon_row,m_jump_row,m_jumpif_row,m_load_row,m_save_row,m_me_row,m_from_row,m_sent_row,m_word_row,m_coin_row,m_note_row,m_give_row,m_fail_row⟩:=DO1
    have T_REACHING:∃ a,L2.Za0 mg "REACHING" (.ref a)/\L2.TupK (L2.KOf KX) a ((["copy", "swap"]:List PySem.Str).map L2.V.str):=by
      dsimp only [L2.KOf]
      refine' L2.Zjq KX G ?a ?l ?v ?z
      (case a=>k_is); (case l=>k_is); (case v=>walk_at "vals"); (case z=>decide)
    obtain ⟨a_REACHING,g_REACHING,t_REACHING⟩:=T_REACHING
    have T_CALLING:∃ a,L2.Za0 mg "CALLING" (.ref a)/\L2.TupK (L2.KOf KX) a ((["call", "borrow", "look"]:List PySem.Str).map L2.V.str):=by
      dsimp only [L2.KOf]
      refine' L2.Zjq KX G ?a ?l ?v ?z
      (case a=>k_is); (case l=>k_is); (case v=>walk_at "vals"); (case z=>decide)
    obtain ⟨a_CALLING,g_CALLING,t_CALLING⟩:=T_CALLING
    have x_FI:∃ C tok,mg "Frame" = some (.ref C)/\L2.Zcs (L2.KOf KX) C "__init__" "Frame.__init__" My.Zax #[.int 1 tok,.bool false]:=by
      dsimp only [L2.KOf]
      refine' My.mkFI KX G ?aC ?a ?i ?l ?c ?k ?d
      (case aC=>k_is); (case a=>k_is); (case i=>k_is); (case l=>k_is); (case c=>k_is); (case k=>k_is); (case d=>k_is)
    have y_FI:∃ tok,L2.Zcs (L2.KOf KX) cFrame "__init__" "Frame.__init__" My.Zax #[.int 1 tok,.bool false]:=by
      obtain ⟨C,tok,e1,q⟩:=x_FI
      have h1:=tFrame.k.mgC
      rw [e1] at h1
      cases h1
      exact ⟨tok,q⟩
    obtain ⟨tokF,D_FI⟩:=y_FI
    obtain ⟨fl,fd,FL,ml⟩:=D_law
    have e0:=hmg.symm.trans ml
    cases e0
    refine ⟨fd,L2.Ziw FL,fun base KB GB=>?_⟩
    have c_added:=My.ZkT (P:=PySem.Challenge.rw_meterhouse_k35_a_call.prog) (w:=w) (base:=base)  D_added    g_WIDE
    have c_lessened:=My.Zhe (P:=PySem.Challenge.rw_meterhouse_k35_a_call.prog) (w:=w) (base:=base)  D_lessened    g_WIDE
    have c_multiplied:=My.Zfo (P:=PySem.Challenge.rw_meterhouse_k35_a_call.prog) (w:=w) (base:=base)  D_multiplied    g_WIDE
    have c_contained:=My.Zgl (P:=PySem.Challenge.rw_meterhouse_k35_a_call.prog) (w:=w) (base:=base)  D_contained
    have c_left_over:=My.Zgn (P:=PySem.Challenge.rw_meterhouse_k35_a_call.prog) (w:=w) (base:=base)  D_left_over
    have c_is_below:=My.Zhg (P:=PySem.Challenge.rw_meterhouse_k35_a_call.prog) (w:=w) (base:=base)  D_is_below
    have c_is_same:=My.ZiC (P:=PySem.Challenge.rw_meterhouse_k35_a_call.prog) (w:=w) (base:=base)  D_is_same
    have c_in_both:=My.ZiE (P:=PySem.Challenge.rw_meterhouse_k35_a_call.prog) (w:=w) (base:=base)  D_in_both
    have c_in_either:=My.Zgp (P:=PySem.Challenge.rw_meterhouse_k35_a_call.prog) (w:=w) (base:=base)  D_in_either
    have c_in_just_one:=My.ZeM (P:=PySem.Challenge.rw_meterhouse_k35_a_call.prog) (w:=w) (base:=base)  D_in_just_one
    have c_doubled:=My.ZiG (P:=PySem.Challenge.rw_meterhouse_k35_a_call.prog) (w:=w) (base:=base)  D_doubled    n_max g_FIGURES g_WIDE
    have c_halved:=My.ZjD (P:=PySem.Challenge.rw_meterhouse_k35_a_call.prog) (w:=w) (base:=base)  D_halved    n_max g_FIGURES
    have sok:=My.Zmx (P:=PySem.Challenge.rw_meterhouse_k35_a_call.prog) (w:=w) (base:=base) dk m1 m2 m3 m4 m5 m6 m7 m8 m9 m10 m11 m12 c_added c_lessened c_multiplied c_contained c_left_over c_is_below c_is_same c_in_both c_in_either c_in_just_one c_doubled c_halved
    have c_reckon:=My.ZjF (P:=PySem.Challenge.rw_meterhouse_k35_a_call.prog) (w:=w) (base:=base) sok D_reckon    g_SUMS
    have c_reach:=My.ZkV (P:=PySem.Challenge.rw_meterhouse_k35_a_call.prog) (w:=w) (base:=base) t_REACHING D_reach    g_REACHING
    have c_takes:=My.ZkX (P:=PySem.Challenge.rw_meterhouse_k35_a_call.prog) (w:=w) (base:=base) rok D_takes    c_reach g_ROWS
    have c_leaves:=My.ZjI (P:=PySem.Challenge.rw_meterhouse_k35_a_call.prog) (w:=w) (base:=base) rok D_leaves    c_reach g_ROWS
    have cd2_price:=My.ZkZ (P:=PySem.Challenge.rw_meterhouse_k35_a_call.prog) (w:=w) (base:=base) rok D_price g_ROWS
    have i_Account:=My.Zc1 (P:=PySem.Challenge.rw_meterhouse_k35_a_call.prog) (w:=w) (base:=base)  D_Account___init__ tAccount   n_list
    have m_Account_loaded:=My.ZdH (P:=PySem.Challenge.rw_meterhouse_k35_a_call.prog) (w:=w) (base:=base)  D_Account_loaded tAccount
    have m_Account_keep:=My.Zen (P:=PySem.Challenge.rw_meterhouse_k35_a_call.prog) (w:=w) (base:=base)  D_Account_keep tAccount
    have c_shift_coin:=My.Zfr (P:=PySem.Challenge.rw_meterhouse_k35_a_call.prog) (w:=w) (base:=base)  D_shift_coin tAccount
    have i_Save:=My.ZdS (P:=PySem.Challenge.rw_meterhouse_k35_a_call.prog) (w:=w) (base:=base)  D_Save___init__ tSave
    have i_Move:=My.ZdU (P:=PySem.Challenge.rw_meterhouse_k35_a_call.prog) (w:=w) (base:=base)  D_Move___init__ tMove
    have i_Note:=My.ZdW (P:=PySem.Challenge.rw_meterhouse_k35_a_call.prog) (w:=w) (base:=base)  D_Note___init__ tNote
    have m_Save_do:=My.ZiJ (P:=PySem.Challenge.rw_meterhouse_k35_a_call.prog) (w:=w) (base:=base)  D_Save_do tSave tAccount m_Account_keep
    have m_Move_do:=My.ZiL (P:=PySem.Challenge.rw_meterhouse_k35_a_call.prog) (w:=w) (base:=base)  D_Move_do tMove   c_shift_coin
    have m_Note_do:=My.ZiN (P:=PySem.Challenge.rw_meterhouse_k35_a_call.prog) (w:=w) (base:=base) (cAccount:=cAccount) D_Note_do tNote
    have m_Save_undo:=My.Zgs (P:=PySem.Challenge.rw_meterhouse_k35_a_call.prog) (w:=w) (base:=base)  D_Save_undo tSave tAccount m_Account_keep
    have m_Move_undo:=My.Zgu (P:=PySem.Challenge.rw_meterhouse_k35_a_call.prog) (w:=w) (base:=base)  D_Move_undo tMove   c_shift_coin
    have m_Note_undo:=My.Zgw (P:=PySem.Challenge.rw_meterhouse_k35_a_call.prog) (w:=w) (base:=base) (cAccount:=cAccount) D_Note_undo tNote
    have i_Journal:=My.Zc3 (P:=PySem.Challenge.rw_meterhouse_k35_a_call.prog) (w:=w) (base:=base)  D_Journal___init__ tJournal
    have m_Journal_mark:=My.Zep (P:=PySem.Challenge.rw_meterhouse_k35_a_call.prog) (w:=w) (base:=base)  D_Journal_mark tJournal   n_len
    have m_Journal_write:=My.ZdY (P:=PySem.Challenge.rw_meterhouse_k35_a_call.prog) (w:=w) (base:=base)  D_Journal_write tJournal tSave tMove tNote tAccount m_Save_do m_Move_do m_Note_do
    have m_Journal_back:=My.Zeq (P:=PySem.Challenge.rw_meterhouse_k35_a_call.prog) (w:=w) (base:=base)  D_Journal_back tJournal tSave tMove tNote tAccount m_Save_undo m_Move_undo m_Note_undo  n_len n_max
    have m_Save_told:=My.Zgz (P:=PySem.Challenge.rw_meterhouse_k35_a_call.prog) (w:=w) (base:=base)  D_Save_told tSave
    have m_Move_told:=My.ZgB (P:=PySem.Challenge.rw_meterhouse_k35_a_call.prog) (w:=w) (base:=base)  D_Move_told tMove
    have m_Note_told:=My.ZgD (P:=PySem.Challenge.rw_meterhouse_k35_a_call.prog) (w:=w) (base:=base)  D_Note_told tNote
    have m_Journal_told:=My.Zes (P:=PySem.Challenge.rw_meterhouse_k35_a_call.prog) (w:=w) (base:=base)  D_Journal_told tJournal tSave tMove tNote m_Save_told m_Move_told m_Note_told
    have m_Frame_left:=My.Zfx (P:=PySem.Challenge.rw_meterhouse_k35_a_call.prog) (w:=w) (base:=base)  D_Frame_left tFrame
    have m_Frame_short_for:=My.Zdk (P:=PySem.Challenge.rw_meterhouse_k35_a_call.prog) (w:=w) (base:=base)  D_Frame_short_for tFrame   c_takes n_len
    have m_Frame_full_behind:=My.ZcP (P:=PySem.Challenge.rw_meterhouse_k35_a_call.prog) (w:=w) (base:=base)  D_Frame_full_behind tFrame   c_leaves c_takes n_len g_MOST_ON_STACK
    have m_Frame_taken:=My.ZeN (P:=PySem.Challenge.rw_meterhouse_k35_a_call.prog) (w:=w) (base:=base)  D_Frame_taken tFrame   n_range n_list n_reversed
    have m_Frame_lay:=My.ZgF (P:=PySem.Challenge.rw_meterhouse_k35_a_call.prog) (w:=w) (base:=base)  D_Frame_lay tFrame
    have m_Frame_finish:=My.Zev (P:=PySem.Challenge.rw_meterhouse_k35_a_call.prog) (w:=w) (base:=base)  D_Frame_finish tFrame
    have m_Frame_tree:=My.Zfz (P:=PySem.Challenge.rw_meterhouse_k35_a_call.prog) (w:=w) (base:=base)  D_Frame_tree tFrame   n_list
    have c_push_row:=My.Zhn (P:=PySem.Challenge.rw_meterhouse_k35_a_call.prog) (w:=w) (base:=base)  D_push_row tFrame m_Frame_lay
    have c_drop_row:=My.Zhp (P:=PySem.Challenge.rw_meterhouse_k35_a_call.prog) (w:=w) (base:=base)  D_drop_row tFrame m_Frame_taken
    have c_copy_row:=My.Zhr (P:=PySem.Challenge.rw_meterhouse_k35_a_call.prog) (w:=w) (base:=base)  D_copy_row tFrame m_Frame_lay
    have c_swap_row:=My.Zhs (P:=PySem.Challenge.rw_meterhouse_k35_a_call.prog) (w:=w) (base:=base)  D_swap_row tFrame   n_len
    have c_reckon_row:=My.ZfB (P:=PySem.Challenge.rw_meterhouse_k35_a_call.prog) (w:=w) (base:=base)  D_reckon_row tFrame m_Frame_taken m_Frame_lay  c_reckon
    have c_jump_row:=My.Zhu (P:=PySem.Challenge.rw_meterhouse_k35_a_call.prog) (w:=w) (base:=base)  D_jump_row tFrame
    have c_jumpif_row:=My.ZfC (P:=PySem.Challenge.rw_meterhouse_k35_a_call.prog) (w:=w) (base:=base)  D_jumpif_row tFrame m_Frame_taken
    have c_me_row:=My.ZjR (P:=PySem.Challenge.rw_meterhouse_k35_a_call.prog) (w:=w) (base:=base)  D_me_row tFrame m_Frame_lay
    have c_from_row:=My.Zhw (P:=PySem.Challenge.rw_meterhouse_k35_a_call.prog) (w:=w) (base:=base)  D_from_row tFrame m_Frame_lay
    have c_sent_row:=My.Zhy (P:=PySem.Challenge.rw_meterhouse_k35_a_call.prog) (w:=w) (base:=base)  D_sent_row tFrame m_Frame_lay
    have c_word_row:=My.ZhA (P:=PySem.Challenge.rw_meterhouse_k35_a_call.prog) (w:=w) (base:=base)  D_word_row tFrame m_Frame_lay
    have c_give_row:=My.ZhB (P:=PySem.Challenge.rw_meterhouse_k35_a_call.prog) (w:=w) (base:=base)  D_give_row tFrame m_Frame_taken m_Frame_finish
    have c_fail_row:=My.ZhC (P:=PySem.Challenge.rw_meterhouse_k35_a_call.prog) (w:=w) (base:=base)  D_fail_row tFrame m_Frame_taken m_Frame_finish
    have c_brings_coin:=My.ZeP (P:=PySem.Challenge.rw_meterhouse_k35_a_call.prog) (w:=w) (base:=base)  D_brings_coin tFrame
    have c_fills_place:=My.ZeR (P:=PySem.Challenge.rw_meterhouse_k35_a_call.prog) (w:=w) (base:=base)  D_fills_place tFrame tAccount m_Account_loaded
    have c_row_price:=My.ZgH (P:=PySem.Challenge.rw_meterhouse_k35_a_call.prog) (w:=w) (base:=base)  D_row_price    cd2_price c_brings_coin c_fills_place
    have c_is_barred:=My.ZgJ (P:=PySem.Challenge.rw_meterhouse_k35_a_call.prog) (w:=w) (base:=base)  D_is_barred tFrame   c_brings_coin
    have c_end_ahead_of:=My.Zez (P:=PySem.Challenge.rw_meterhouse_k35_a_call.prog) (w:=w) (base:=base)  D_end_ahead_of tFrame m_Frame_short_for m_Frame_full_behind m_Frame_left  c_is_barred c_row_price
    have c_write_step:=My.ZfF (P:=PySem.Challenge.rw_meterhouse_k35_a_call.prog) (w:=w) (base:=base)  D_write_step tJournal tFrame tSave tMove tNote m_Journal_write m_Save_told m_Move_told m_Note_told
    have c_account_at:=My.ZfH (P:=PySem.Challenge.rw_meterhouse_k35_a_call.prog) (w:=w) (base:=base) (cAccount:=cAccount) D_account_at    n_len
    have c_load_row:=My.ZhF (P:=PySem.Challenge.rw_meterhouse_k35_a_call.prog) (w:=w) (base:=base)  D_load_row tFrame tAccount m_Frame_taken m_Frame_lay m_Account_loaded
    have c_coin_row:=My.ZhG (P:=PySem.Challenge.rw_meterhouse_k35_a_call.prog) (w:=w) (base:=base)  D_coin_row tFrame tAccount m_Frame_taken m_Frame_lay  c_account_at
    have c_save_row:=My.ZhH (P:=PySem.Challenge.rw_meterhouse_k35_a_call.prog) (w:=w) (base:=base)  D_save_row tFrame tAccount tSave m_Frame_taken m_Account_loaded i_Save  c_write_step
    have c_note_row:=My.ZhI (P:=PySem.Challenge.rw_meterhouse_k35_a_call.prog) (w:=w) (base:=base)  D_note_row tFrame tNote m_Frame_taken i_Note  c_write_step
    have dok:=My.do_ok (P:=PySem.Challenge.rw_meterhouse_k35_a_call.prog) (w:=w) (base:=base) (cAccount:=cAccount) (cJournal:=cJournal) (cSave:=cSave) (cMove:=cMove) (cNote:=cNote) (cFrame:=cFrame) dkD m_push_row m_drop_row m_copy_row m_swap_row m_reckon_row m_jump_row m_jumpif_row m_load_row m_save_row m_me_row m_from_row m_sent_row m_word_row m_coin_row m_note_row m_give_row m_fail_row c_push_row c_drop_row c_copy_row c_swap_row c_reckon_row c_jump_row c_jumpif_row c_load_row c_save_row c_me_row c_from_row c_sent_row c_word_row c_coin_row c_note_row c_give_row c_fail_row
    have c_do_row:=My.ZjX (P:=PySem.Challenge.rw_meterhouse_k35_a_call.prog) (w:=w) (base:=base) dok D_do_row    g_DOINGS
    have iD9_Frame:=My.Zj9 (P:=PySem.Challenge.rw_meterhouse_k35_a_call.prog) (w:=w) (base:=base) D_FI tFrame
    have c_other_call:=My.ZfJ (P:=PySem.Challenge.rw_meterhouse_k35_a_call.prog) (w:=w) (base:=base)  D_other_call tFrame m_Frame_taken  c_takes iD9_Frame
    have c_end_ahead_of_call:=My.ZcR (P:=PySem.Challenge.rw_meterhouse_k35_a_call.prog) (w:=w) (base:=base)  D_end_ahead_of_call tFrame tAccount   c_account_at g_MOST_CALLS
    have c_go:=My.Zlx (P:=PySem.Challenge.rw_meterhouse_k35_a_call.prog) (w:=w) (base:=base) (cAccount:=cAccount) (cJournal:=cJournal) (cSave:=cSave) (cMove:=cMove) (cNote:=cNote) t_CALLING D_call_row tFrame m_Frame_left m_Frame_finish m_Frame_tree m_Frame_lay c_other_call c_end_ahead_of_call n_min D_go_row c_row_price c_do_row g_CALLING D_go_on tAccount c_end_ahead_of n_len D_go tJournal tMove m_Journal_mark i_Move m_Journal_back c_write_step 10
    have iD7_Frame:=My.Zj8 (P:=PySem.Challenge.rw_meterhouse_k35_a_call.prog) (w:=w) (base:=base) D_FI tFrame
    have c_enter:=My.Zk5 (P:=PySem.Challenge.rw_meterhouse_k35_a_call.prog) (w:=w) (base:=base)  D_enter tFrame m_Frame_tree  c_go iD7_Frame
    have c_Lalike:=My.ZgO (P:=PySem.Challenge.rw_meterhouse_k35_a_call.prog) (w:=w) (base:=base) D_Lalike n_isinstance n_int n_str n_tuple n_range n_len n_list n_bool 10
    have c_Lcell_at:=My.ZhU (P:=PySem.Challenge.rw_meterhouse_k35_a_call.prog) (w:=w) (base:=base)  D_Lcell_at    n_len
    have c_Lrows_gone:=My.ZfM (P:=PySem.Challenge.rw_meterhouse_k35_a_call.prog) (w:=w) (base:=base)  D_Lrows_gone    n_len
    have c_Lsteps:=My.Zj3 (P:=PySem.Challenge.rw_meterhouse_k35_a_call.prog) (w:=w) (base:=base)  D_Lsteps    n_range n_len
    have c_Lrooms:=My.Zj5 (P:=PySem.Challenge.rw_meterhouse_k35_a_call.prog) (w:=w) (base:=base)  D_Lrooms tAccount i_Account  c_Lcell_at
    have c_Linner:=My.Zj6 (P:=PySem.Challenge.rw_meterhouse_k35_a_call.prog) (w:=w) (base:=base)  D_Linner    c_Lrows_gone c_Lsteps
    exact My.ok_law  FL tJournal tAccount i_Journal m_Journal_told  c_Lrooms c_Linner c_enter c_Lcell_at c_Lalike n_int n_range n_min n_len
  case S=>exact fun K H a ns hl hO hS=>⟨a,ns,rfl,hS,hl,fun _=>rfl⟩
  case C=>exact fun _ _ _ _ z=>z
