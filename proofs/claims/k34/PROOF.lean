import PyProof.Rows.All
import Wide.All
import OpenK.AllK
import Wide.FinOn
import Lean
import PyProof.EqAt
import PyProof.EqKinds
import PyProof.TupleCall
import PySem.Challenge.RW_meterhouse_k34_store_rows
set_option Elab.async false
set_option linter.all false
set_option maxRecDepth 100000
set_option maxHeartbeats 4000000
namespace L2
open PySem PySem.Spec PyProof.Rows
noncomputable abbrev Key:=Sum Int Str
noncomputable def keyIs:Key->Value->Bool
  | .inl k,v=>Value.isInt k v
  | .inr x,v=>Value.isStrOf x v
noncomputable def keyH (w:World):Key->Int
  | .inl k=>hashInt k
  | .inr x=>hashStr w x
theorem Zbe:∀ {k:Key} {v:Value},keyIs k v=true->(∃ i t,k=Sum.inl i/\v=Value.int i t)\/(∃ x t,k=Sum.inr x/\v=Value.str x t)
  | .inl i,v,h=>by
    obtain ⟨t,e⟩:=Value.isInt_shape (k:=i) (v:=v) h
    exact .inl ⟨i,t,rfl,e⟩
  | .inr x,v,h=>by
    obtain ⟨t,e⟩:=Value.isStrOf_shape (x:=x) (v:=v) h
    exact .inr ⟨x,t,rfl,e⟩
theorem Zgb (i:Int) (t:Tok):keyIs (.inl i) (.int i t)=true:=by simp [keyIs,Value.isInt]
theorem Zc3 (x:Str) (t:Tok):keyIs (.inr x) (.str x t)=true:=by simp [keyIs,Value.isStrOf]
theorem key_ll (a b:Int):decide ((Sum.inl a:Key)=Sum.inl b)=(a == b):=by
  by_cases e:a=b
  . subst e; simp
  . have h:¬ (Sum.inl a:Key)=Sum.inl b:=fun q=>e (Sum.inl.inj q)
    rw [decide_eq_false h]
    exact (beq_eq_false_iff_ne.mpr e).symm
theorem key_rr (a b:Str):decide ((Sum.inr a:Key)=Sum.inr b)=decide (a=b):=by
  by_cases e:a=b
  . subst e; simp
  . have h:¬ (Sum.inr a:Key)=Sum.inr b:=fun q=>e (Sum.inr.inj q)
    rw [decide_eq_false h,decide_eq_false e]
theorem key_lr (a:Int) (b:Str):decide ((Sum.inl a:Key)=Sum.inr b)=false:=decide_eq_false (fun q=>nomatch q)
theorem key_rl (a:Str) (b:Int):decide ((Sum.inr a:Key)=Sum.inl b)=false:=decide_eq_false (fun q=>nomatch q)
noncomputable def Za3 (prog:Program) (w:World):PySem.KeyKind prog w Key where
  is:=keyIs
  hash:=keyH w
  inj:=fun v a b ha hb=>by
    rcases Zbe ha with ⟨i,t,rfl,rfl⟩|⟨x,t,rfl,rfl⟩
    . rcases Zbe hb with ⟨j,u,rfl,e⟩|⟨y,u,rfl,e⟩
      . injection e with e1 _; rw [e1]
      . exact nomatch e
    . rcases Zbe hb with ⟨j,u,rfl,e⟩|⟨y,u,rfl,e⟩
      . exact nomatch e
      . injection e with e1 _; rw [e1]
  byValue:=fun k v h=>by
    rcases Zbe h with ⟨i,t,rfl,rfl⟩|⟨x,t,rfl,rfl⟩ <;> rfl
  pyHash:=fun hv h=>by
    rcases Zbe hv with ⟨i,t,rfl,rfl⟩|⟨x,t,rfl,rfl⟩
    . exact wpAny_pyHash_int h
    . exact wpAny_pyHash_str h
  eqBool:=fun hu hv h=>by
    rcases Zbe hu with ⟨i,t,rfl,rfl⟩|⟨x,t,rfl,rfl⟩
    . rcases Zbe hv with ⟨j,u,rfl,rfl⟩|⟨y,u,rfl,rfl⟩
      . rw [key_ll] at h; exact wpAny_eqBool_int h
      . rw [key_lr] at h; exact SeqAt.EqAt.int_str i t y u _ _ _ _ h
    . rcases Zbe hv with ⟨j,u,rfl,rfl⟩|⟨y,u,rfl,rfl⟩
      . rw [key_rl] at h; exact SeqAt.EqAt.str_int x t j u _ _ _ _ h
      . rw [key_rr] at h; exact wpAny_eqBool_str h
  «strs»:=fun k x t v h=>by
    rcases Zbe h with ⟨i,u,rfl,e⟩|⟨y,u,rfl,e⟩
    . exact nomatch e
    . injection e with e1 _
      subst e1
      cases v <;> rfl
theorem Zg8 (prog:Program) (w:World) (i:Int) (t:Tok):(Za3 prog w).is (.inl i) (.int i t)=true:=Zgb i t
theorem Zg9 (prog:Program) (w:World) (x:Str) (t:Tok):(Za3 prog w).is (.inr x) (.str x t)=true:=Zc3 x t
end L2
namespace L2
open PySem PySem.Spec PyProof.Rows
inductive V where
  | non|bl (b:Bool)|int (i:Int)|str (x:Str)|byt (b:Array UInt8)|flt (b:UInt64)|ref (a:Addr)|ty (n:String)
  deriving DecidableEq
noncomputable def RelV:V->Value->Prop
  | .non,u=>u=Value.none
  | .bl b,u=>u=Value.bool b
  | .int i,u=>∃ t,u=Value.int i t
  | .str x,u=>∃ t,u=Value.str x t
  | .byt b,u=>∃ t,u=Value.bytes b t
  | .flt b,u=>∃ t,u=Value.float b t
  | .ref a,u=>u=Value.ref a
  | .ty n,u=>u=Value.type n
noncomputable abbrev Vals:List V->List Value->Prop:=Paired RelV
theorem Vals.length {xs:List V} {us:List Value} (r:Vals xs us):xs.length=us.length:=Paired.length r
theorem Vals.get:∀ {xs:List V} {us:List Value} {i:Nat} {x:V},Vals xs us->xs[i]?=some x->∃ u,us[i]?=some u/\RelV x u
  | _,_,_,_,.nil,e=>by simp at e
  | _,_,0,_,.cons r _,e=>by simp at e; subst e; exact ⟨_,rfl,r⟩
  | _,_,i + 1,x,.cons _ t,e=>by
    obtain ⟨u,h1,h2⟩:=Vals.get (i:=i) (x:=x) t (by simpa using e)
    exact ⟨u,by simpa using h1,h2⟩
theorem Vals.set {x:V} {u:Value} (r:RelV x u):∀ {xs:List V} {us:List Value} (i:Nat),Vals xs us->Vals (xs.set i x) (us.set i u)
  | _,_,_,.nil=>.nil
  | _,_,0,.cons _ t=>.cons r t
  | _,_,i + 1,.cons q t=>.cons q (Vals.set r i t)
theorem Vals.append:∀ {xs ys:List V} {us ws:List Value},Vals xs us->Vals ys ws->Vals (xs ++ ys) (us ++ ws)
  | _,_,_,_,.nil,s=>s
  | _,_,_,_,.cons r t,s=>.cons r (Vals.append t s)
theorem Vals.take:∀ {xs:List V} {us:List Value} (n:Nat),Vals xs us->Vals (xs.take n) (us.take n)
  | _,_,0,_=>.nil
  | _,_,_ + 1,.nil=>.nil
  | _,_,n + 1,.cons r t=>.cons r (Vals.take n t)
theorem Vals.drop:∀ {xs:List V} {us:List Value} (n:Nat),Vals xs us->Vals (xs.drop n) (us.drop n)
  | _,_,0,r=>r
  | _,_,_ + 1,.nil=>.nil
  | _,_,n + 1,.cons _ t=>Vals.drop n t
theorem Vals.none_of:∀ {xs:List V} {us:List Value} {i:Nat},Vals xs us->xs[i]?=none->us[i]?=none:=fun {xs us i} r e=>by
  have h1:=r.length
  have h2:xs.length <= i:=List.getElem?_eq_none_iff.mp e
  exact List.getElem?_eq_none_iff.mpr (by omega)
noncomputable def RelO:Option V->Option Value->Prop
  | some v,some u=>RelV v u
  | none,none=>True
  | _,_=>False
noncomputable def KV {κ:Type}:List (κ × V)->List (κ × Value)->Prop:=Paired fun (p:κ × V) (q:κ × Value)=>p.1=q.1/\RelV p.2 q.2
noncomputable def kV:Key->V
  | .inl i=>.int i
  | .inr x=>.str x
inductive HO where
  | lst (xs:List V)
  | tup (xs:List V)
  | dK (kvs:List (Key × V))|dT (kvs:List (List Key × V))
  | set (S:Int->Bool) (n:Nat)
  | ins (C dx:Addr) (fs:List (Str × V))
  | own (x:Addr)
  | xd (fs:List (Str × V))
  | met (f x:Addr)
  | rng (lo hi:Int)
  | frz (o:Obj) (u:HO)
  | tbl (ps:Array Value)
  | ext (φ:Heap->Prop)
noncomputable abbrev Hp:=Addr->Option HO
noncomputable def upd (H:Hp) (a:Addr) (o:HO):Hp:=fun b=>if b=a then some o else H b
theorem Zag {H:Hp} {a:Addr} {o:HO}:upd H a o a=some o:=by unfold upd; rw [if_pos rfl]
theorem Zaj {H:Hp} {a b:Addr} {o:HO} (h:b ≠ a):upd H a o b=H b:=by unfold upd; rw [if_neg h]
theorem ZaR {H:Hp} {a:Addr} {o u:HO}:upd (upd H a o) a u=upd H a u:=by
  funext b; unfold upd; split <;> rfl
theorem Za2 {H:Hp} {a b:Addr} {o u:HO} (h:H a=some o) (h':H b=some u) (d:o ≠ u):a ≠ b:=by
  intro e; subst e; rw [h] at h'; exact d (Option.some.inj h')
theorem Zah {H:Hp} {a b:Addr} {o:HO} (h:H a=some o) (h':H b=none):a ≠ b:=by
  intro e; subst e; rw [h] at h'; cases h'
section
variable (P:Program) (w:World)
noncomputable def ObjOk (H:Hp) (h:Heap) (a:Addr):HO->Prop
  | .lst xs=>xs.length <= sizeLine/\∃ (its:List Value) (n:Nat),Vals xs its/\h.get? a=some { cls:=.type "list", data:=.seq its.toArray n }
  | .tup xs=>xs.length <= sizeLine/\∃ its:List Value,Vals xs its/\IsTup h a its.toArray
  | .dK kvs=>kvs.length <= sizeLine/\(a == sysModules)=false/\∃ vs,KV kvs vs/\h.DictOf (Za3 P w) a vs
  | .dT kvs=>kvs.length <= sizeLine/\(a == sysModules)=false/\∃ xs:List (List Key × Addr × Value),
      Paired (fun (p:List Key × V) (q:List Key × Addr × Value)=>p.1=q.1/\H q.2.1=some (.tup (p.1.map kV))/\RelV p.2 q.2.2) kvs xs /\
      ∃ o es ep,h.get? a=some o/\o.ExactDict/\o.data=.dict es ep/\es.toList=xs.map (entryOfKey (tupleKind (Za3 P w)))/\(xs.map (·.1)).Nodup
  | .set S n=>h.SetOf (intKind P w) a S n
  | .ins C dx fs=>H dx=some (.own a)/\fs.length <= 1000/\dx ≠ a/\h.get? a=some (PySem.W.instObj C dx) /\
      ∃ mA,h.Ns1 dx mA/\(∀ f,RelO (fs.lookup f) (mA f))/\PySem.Within mA (fs.map (·.1))
  | .own _=>∃ o,h.get? a=some o
  | .xd fs=>∃ mA,h.Ns1 a mA/\∀ f,RelO (fs.lookup f) (mA f)
  | .rng lo hi=>∃ t u v,h.get? a=some { cls:=.type "range", data:=.fields #[.int lo t,.int hi u,.int 1 v] }
  | .frz o u=>h.get? a=some o/\ObjOk H h a u
  | .tbl ps=>h.get? a=some { cls:=.none,data:=.fields ps }
  | .met f x=>h.get? a=some (PySem.W.methodObj (.ref f) (.ref x))
  | .ext φ=>φ h/\(∃ o,h.get? a=some o)/\∀ h1 h2:Heap,φ h1->(∀ o,h1.get? a=some o->h2.get? a=some o)->φ h2
noncomputable def HOk (H:Hp) (h:Heap):Prop:=∀ a o,H a=some o->ObjOk P w H h a o
end
section
variable {P:Program} {w:World} {H H':Hp} {h h':Heap} {a:Addr} {o:HO}
theorem ObjOk.lt (x:ObjOk P w H h a o):a < h.objs.size:=by
  cases o with
  | lst xs=>obtain ⟨_,_,_,_,e⟩:=x; exact Heap.lt_size e
  | tup xs=>obtain ⟨_,_,_,p⟩:=x; exact p.lt
  | dK kvs=>obtain ⟨_,_,_,_,o,_,_,e,_⟩:=x; exact Heap.lt_size e
  | dT kvs=>obtain ⟨_,_,_,_,o,_,_,e,_⟩:=x; exact Heap.lt_size e
  | set S n=>obtain ⟨o,_,_,_,e,_⟩:=x; exact Heap.lt_size e
  | ins C dx fs=>obtain ⟨_,_,_,e,_⟩:=x; exact Heap.lt_size e
  | own y=>obtain ⟨_,e⟩:=x; exact Heap.lt_size e
  | xd fs=>obtain ⟨_,⟨_,_,_,e,_⟩,_⟩:=x; exact Heap.lt_size e
  | rng lo hi=>obtain ⟨_,_,_,e⟩:=x; exact Heap.lt_size e
  | frz ob u=>obtain ⟨e,_⟩:=x; exact Heap.lt_size e
  | tbl ps=>exact Heap.lt_size (show h.get? a=some _ from x)
  | met f y=>exact Heap.lt_size (show h.get? a=some _ from x)
  | ext φ=>obtain ⟨_,⟨_,e⟩,_⟩:=x; exact Heap.lt_size e
theorem Paired.mapP {α β:Type} {F G:α->β->Prop}:∀ {l₁:List α} {l₂:List β},Paired F l₁ l₂->(∀ a b,F a b->G a b)->Paired G l₁ l₂
  | _,_,.nil,_=>.nil
  | _,_,.cons r t,f=>.cons (f _ _ r) (Paired.mapP t f)
theorem ObjOk.stay (x:ObjOk P w H h a o) (k:∀ b u,(b=a\/H b=some (.own a))->h.get? b=some u->h'.get? b=some u)
    (ho:∀ b,H b=some (.own a)->H' b=some (.own a)) (ht:∀ b xs,H b=some (.tup xs)->H' b=some (.tup xs)):ObjOk P w H' h' a o:=by
  induction o with
  | lst xs=>obtain ⟨z,its,n,r,e⟩:=x; exact ⟨z,its,n,r,k _ _ (.inl rfl) e⟩
  | tup xs=>obtain ⟨z,its,r,ob,e,c⟩:=x; exact ⟨z,its,r,ob,k _ _ (.inl rfl) e,c⟩
  | dK kvs=>obtain ⟨z,y,vs,r,ob,es,ep,e,c⟩:=x; exact ⟨z,y,vs,r,ob,es,ep,k _ _ (.inl rfl) e,c⟩
  | dT kvs =>
    obtain ⟨z,y,xs,r,ob,es,ep,e,c⟩:=x
    exact ⟨z,y,xs,Paired.mapP r fun p q z=>⟨z.1,ht _ _ z.2.1,z.2.2⟩,ob,es,ep,k _ _ (.inl rfl) e,c⟩
  | set S n=>obtain ⟨ob,es,ep,t,e,c⟩:=x; exact ⟨ob,es,ep,t,k _ _ (.inl rfl) e,c⟩
  | ins C dx fs =>
    obtain ⟨d,z,ne,e,mA,⟨od,es,ep,e2,c⟩,r⟩:=x
    exact ⟨ho _ d,z,ne,k _ _ (.inl rfl) e,mA,⟨od,es,ep,k _ _ (.inr d) e2,c⟩,r⟩
  | own y=>obtain ⟨ob,e⟩:=x; exact ⟨ob,k _ _ (.inl rfl) e⟩
  | xd fs=>obtain ⟨mA,⟨od,es,ep,e,c⟩,r⟩:=x; exact ⟨mA,⟨od,es,ep,k _ _ (.inl rfl) e,c⟩,r⟩
  | rng lo hi=>obtain ⟨t,u,v,e⟩:=x; exact ⟨t,u,v,k _ _ (.inl rfl) e⟩
  | frz ob u ih=>obtain ⟨e,q⟩:=x; exact ⟨k _ _ (.inl rfl) e,ih q⟩
  | tbl ps =>
    have e:h.get? a=some { cls:=.none,data:=.fields ps }:=x
    show h'.get? a=some { cls:=.none,data:=.fields ps }
    exact k a _ (.inl rfl) e
  | met f y =>
    have e:h.get? a=some (PySem.W.methodObj (.ref f) (.ref y)):=x
    show h'.get? a=some (PySem.W.methodObj (.ref f) (.ref y))
    exact k a _ (.inl rfl) e
  | ext φ=>obtain ⟨p,⟨o,e⟩,st⟩:=x; exact ⟨st _ _ p fun o q=>k _ _ (.inl rfl) q,⟨o,k _ _ (.inl rfl) e⟩,st⟩
theorem HOk.lt (x:HOk P w H h) (e:H a=some o):a < h.objs.size:=(x a o e).lt
theorem HOk.fresh (x:HOk P w H h) (e:h.objs.size <= a):H a=none:=by
  cases q:H a with
  | none=>rfl
  | some u=>exact absurd (Nat.lt_of_lt_of_le (x.lt q) e) (Nat.lt_irrefl _)
theorem HOk.kept (x:HOk P w H h) (k:∀ b u,h.get? b=some u->h'.get? b=some u):HOk P w H h':=fun a o e =>
  (x a o e).stay (fun b u _ q=>k b u q) (fun _ q=>q) fun _ _ q=>q
theorem HOk.laid (x:HOk P w H h) (k:∀ b u,h.get? b=some u->h'.get? b=some u) (hp:h.objs.size <= a) (new:ObjOk P w (upd H a o) h' a o):HOk P w (upd H a o) h':=fun b u e=>by
  have hn:=x.fresh hp
  by_cases hb:b=a
  . subst hb; rw [Zag] at e; cases e; exact new
  . rw [Zaj hb] at e
    exact (x b u e).stay (fun c v _ q=>k c v q) (fun c q=>by rw [Zaj (Zah q hn)]; exact q) fun c xs q=>by rw [Zaj (Zah q hn)]; exact q
end
noncomputable def Rd (H:Hp) (a:Addr) (u:HO):Prop:=H a=some u\/∃ o,H a=some (.frz o u)
theorem Rd.of {H:Hp} {a:Addr} {u:HO} (h:H a=some u):Rd H a u:=.inl h
theorem Rd.ok {P:Program} {w:World} {H:Hp} {h:Heap} {a:Addr} {u:HO} (r:Rd H a u) (x:HOk P w H h):ObjOk P w H h a u:=by
  rcases r with r|⟨o,r⟩
  . exact x a u r
  . obtain ⟨_,q⟩:=x a _ r
    exact q
noncomputable def Mut:Option HO->Prop
  | some (.lst _)=>True
  | some (.dK _)=>True
  | some (.dT _)=>True
  | some (.set _ _)=>True
  | some (.ins _ _ _)=>True
  | some (.ext _)=>True
  | _=>False
section
variable {P:Program} {w:World} {H:Hp} {h h':Heap} {x e:Addr} {o':HO}
theorem HOk.write (ok:HOk P w H h) (mu:Mut (H x)) (he:e=x\/H e=some (.own x)) (k:∀ b u,b ≠ e->h.get? b=some u->h'.get? b=some u) (heo:∃ u,h'.get? e=some u)
    (new:ObjOk P w (upd H x o') h' x o'):HOk P w (upd H x o') h':=fun b u q=>by
  have nown:∀ c y,H c=some (.own y)->c ≠ x:=fun c y r z=>by subst z; rw [r] at mu; exact mu
  have ntup:∀ c xs,H c=some (.tup xs)->c ≠ x:=fun c xs r z=>by subst z; rw [r] at mu; exact mu
  by_cases hb:b=x
  . subst hb; rw [Zag] at q; cases q; exact new
  . rw [Zaj hb] at q
    by_cases hbe:b=e
    . have q':H b=some (.own x):=by
        rcases he with z|z
        . exact absurd (hbe.trans z) hb
        . rw [hbe]; exact z
      rw [q] at q'; cases q'
      obtain ⟨v,hv⟩:=heo
      exact ⟨v,by rw [hbe]; exact hv⟩
    . refine (ok b u q).stay (fun c v hc r=>k c v ?_ r) (fun c r=>by rw [Zaj (nown c b r)]; exact r) fun c xs r=>by rw [Zaj (ntup c xs r)]; exact r
      rcases hc with rfl|hc
      . exact hbe
      . rintro rfl
        rcases he with z|z
        . exact nown c b hc z
        . rw [hc] at z; cases z; exact hb rfl
end
structure Un (fs ex:List Addr) (H H':Hp) (h h':Heap):Prop where
  keep:∀ b o,h.get? b=some o->H b=none->b ∉ fs->b ∉ ex->h'.get? b=some o
  slot:∀ b o,h.get? b=some o->H b=none->b ∈ fs->b ∉ ex->∃ sl,h'.get? b=some { o with slots:=sl }
  free:∀ b o,h.get? b=some o->H b=none->b ∉ ex->H' b=none
  there:∀ b o,h.get? b=some o->b ∉ ex->∃ o',h'.get? b=some o'
  tups:∀ b xs,H b=some (.tup xs)->H' b=some (.tup xs)
  frzs:∀ b o u,H b=some (.frz o u)->H' b=some (.frz o u)
  tbls:∀ b ps,H b=some (.tbl ps)->∃ more,H' b=some (.tbl (ps ++ more))
section
variable {fs fs' ex ex':List Addr} {H H1 H2:Hp} {h h1 h2 h':Heap} {a x e:Addr} {o:HO}
theorem Un.any (u:Un fs ex H H1 h h1) {b:Addr} {ob:Obj} (q:h.get? b=some ob) (n:H b=none) (hx:b ∉ ex):∃ sl,h1.get? b=some { ob with slots:=sl }:=by
  by_cases hb:b ∈ fs
  . exact u.slot b ob q n hb hx
  . exact ⟨ob.slots,u.keep b ob q n hb hx⟩
theorem Un.trans (a:Un fs ex H H1 h h1) (b:Un fs ex H1 H2 h1 h2):Un fs ex H H2 h h2 where
  keep:=fun c ob q n hc hx=>b.keep c ob (a.keep c ob q n hc hx) (a.free c ob q n hx) hc hx
  slot:=fun c ob q n hc hx=>by
    obtain ⟨sl,e1⟩:=a.slot c ob q n hc hx
    obtain ⟨sl',e2⟩:=b.slot c _ e1 (a.free c ob q n hx) hc hx
    exact ⟨sl',e2⟩
  free:=fun c ob q n hx=>by
    obtain ⟨o',e1⟩:=a.there c ob q hx
    exact b.free c o' e1 (a.free c ob q n hx) hx
  there:=fun c ob q hx=>by
    obtain ⟨o',e1⟩:=a.there c ob q hx
    exact b.there c o' e1 hx
  tups:=fun c xs q=>b.tups c xs (a.tups c xs q)
  frzs:=fun c ob xs q=>b.frzs c ob xs (a.frzs c ob xs q)
  tbls:=fun c ps q=>by
    obtain ⟨m1,e1⟩:=a.tbls c ps q
    obtain ⟨m2,e2⟩:=b.tbls c _ e1
    exact ⟨m1 ++ m2,by rw [e2,Array.append_assoc]⟩
theorem Un.kept (k:∀ b u,h.get? b=some u->h'.get? b=some u):Un fs ex H H h h' :=
  ⟨fun b ob q _ _ _=>k b ob q,fun b ob q _ _ _=>⟨ob.slots,k b ob q⟩,fun _ _ _ n _=>n,fun b ob q _=>⟨ob,k b ob q⟩,fun _ _ q=>q,fun _ _ _ q=>q,fun _ ps q=>⟨#[],by rw [q]; simp⟩⟩
theorem Un.refl:Un fs ex H H h h:=Un.kept fun _ _ q=>q
theorem Un.laid (k:∀ b u,h.get? b=some u->h'.get? b=some u) (hp:h.objs.size <= a) (hn:H a=none):Un fs ex H (upd H a o) h h' where
  keep:=fun b u q _ _ _=>k b u q
  slot:=fun b u q _ _ _=>⟨u.slots,k b u q⟩
  free:=fun b u q n _=>by rw [Zaj (Nat.ne_of_lt (Nat.lt_of_lt_of_le (Heap.lt_size q) hp))]; exact n
  there:=fun b u q _=>⟨u,k b u q⟩
  tups:=fun b xs q=>by rw [Zaj (Zah q hn)]; exact q
  frzs:=fun b u xs q=>by rw [Zaj (Zah q hn)]; exact q
  tbls:=fun b ps q=>⟨#[],by rw [Zaj (Zah q hn),q]; simp⟩
theorem Un.write (mu:Mut (H x)) (he:e=x\/H e=some (.own x)) (k:∀ b u,b ≠ e->h.get? b=some u->h'.get? b=some u) (heo:∃ u,h'.get? e=some u):Un fs ex H (upd H x o) h h':=by
  have hx:∀ b,H b=none->b ≠ x:=fun b n z=>by subst z; rw [n] at mu; exact mu
  have hb:∀ b,H b=none->b ≠ e:=fun b n z=>by
    subst z
    rcases he with r|r
    . exact hx b n r
    . rw [n] at r; cases r
  have hm:∀ b u,H b=some u->¬ Mut (some u)->b ≠ x:=fun b u q nm z=>by subst z; rw [q] at mu; exact nm mu
  refine ⟨fun b u q n _ _=>k b u (hb b n) q,fun b u q n _ _=>⟨u.slots,k b u (hb b n) q⟩,fun b u q n _=>by rw [Zaj (hx b n)]; exact n,fun b u q _=>?_,
    fun b xs q=>by rw [Zaj (hm b _ q fun z=>z)]; exact q,fun b u xs q=>by rw [Zaj (hm b _ q fun z=>z)]; exact q,fun b ps q=>⟨#[],by rw [Zaj (hm b _ q fun z=>z),q]; simp⟩⟩
  by_cases hbe:b=e
  . subst hbe; exact heo
  . exact ⟨u,k b u hbe q⟩
theorem Un.mono (u:Un fs ex H H1 h h1) (hs:∀ b ∈ fs,b ∈ fs') (hx:∀ b ∈ ex,b ∈ ex'):Un fs' ex' H H1 h h1 :=
  ⟨fun b ob q n hb he=>u.keep b ob q n (fun z=>hb (hs b z)) fun z=>he (hx b z),fun _ _ q n _ he=>u.any q n fun z=>he (hx _ z),fun b ob q n he=>u.free b ob q n fun z=>he (hx b z),fun b ob q he=>u.there b ob q fun z=>he (hx b z),u.tups,u.frzs,u.tbls⟩
end
noncomputable def trk (h:Heap) (H:Hp):List Addr:=(List.range h.objs.size).filter fun a=>(H a).isSome
noncomputable def hidT (h:Heap) (H:Hp):Heap:=PySem.W.hideAll h (trk h H)
theorem Zjn (h:Heap) (H:Hp):(hidT h H).objs.size=h.objs.size:=PySem.W.hideAll_size _ _
theorem ZkN {h:Heap} {H:Hp} {b:Addr} {o:Obj} (e:h.get? b=some o) (n:H b=none):(hidT h H).get? b=some o :=
  PySem.W.hideAll_get _ e fun hm=>by
    have q:(H b).isSome=true:=(List.mem_filter.mp hm).2
    rw [n] at q; simp at q
theorem Zl4 {h:Heap} {H:Hp} {b:Addr} {o:Obj} (e:(hidT h H).get? b=some o):h.get? b=some o/\H b=none:=by
  have e':h.get? b=some o:=PySem.W.of_hideAll (trk h H) e
  refine ⟨e',?_⟩
  cases q:H b with
  | none=>rfl
  | some x =>
    have hm:b ∈ trk h H:=List.mem_filter.mpr ⟨List.mem_range.mpr (Heap.lt_size e'),by simp [q]⟩
    have z:(hidT h H).get? b=none:=PySem.W.hideAll_none (trk h H) hm
    rw [z] at e; cases e
noncomputable def Zl5 (g h:Heap) (L:Addr):List (Addr × Obj):=(List.range h.objs.size).filterMap fun a=>if a=L\/(g.get? a).isSome=true then none else (h.get? a).map fun o=>(a,o)
noncomputable def rest (g h:Heap) (L d:Addr):List (Addr × Obj):=(Zl5 g h L).filter fun p=>decide (p.1 ≠ d)
end L2
namespace L2
open PySem PySem.Spec PyProof.Rows
structure Mod (K:PySem.W.Frag) (mg:Str->Option Value) (base:Heap):Prop where
  kin:K.In base
  glob:base.Ns mainGlobals mg
  blt:∃ mb,base.Ns builtinsNs mb/\∀ x:Str,x ≠ "__name__" -> mb x=bootBuiltins x
  nolimit:base.NoLimit
structure Cx where
  prog:Program
  w:World
  K:PySem.W.Frag
  mg:Str->Option Value
  base:Heap
  A:Around
  N:List Str
  s₀:Shared
  H₀:Hp
  env:Env
  outer:List Env
  stack:List Env
  ex:List Addr
  fn:Str->Bool
  calm:Bool
  pn:List (Addr × Obj)
  xe:Value->Shared->Prop
noncomputable def frs (l:List Env):List Addr:=l.filterMap (·.frame)
noncomputable abbrev Cx.fs (X:Cx):List Addr:=frs X.outer
noncomputable def Vis (sc:Scope) (x:Str):Prop:=sc.names.lookup x=some .local\/sc.names.lookup x=some .cell\/sc.names.lookup x=some .free
noncomputable def Loc (sc:Scope) (x:Str):Prop:=sc.names.lookup x=some .local\/sc.names.lookup x=some .cell
noncomputable def Look (env:Env) (h:Heap) (m:Str->Option Value) (x:Str) (u:Value):Prop :=
  (env.kindOf x=some .local/\m x=some u)\/((env.kindOf x=some .cell\/env.kindOf x=some .free)/\∃ c,env.cells.lookup x=some c/\h.IsCell c (some u))
structure Cx.Ok (X:Cx):Prop where
  mod:Mod X.K X.mg X.base
  kind:X.env.scope.kind=.function
  glob:X.env.globals=mainGlobals
  blt:X.env.builtins=builtinsNs
  above:X.s₀.heap.objs.size <= X.env.locals
  inj:∀ x y c,X.env.cells.lookup x=some c->X.env.cells.lookup y=some c->x=y
  has:∀ x,(X.env.kindOf x=some .cell\/X.env.kindOf x=some .free)->∃ c,X.env.cells.lookup x=some c
  cab:∀ x c,X.fn x=true->X.env.cells.lookup x=some c->X.s₀.heap.objs.size <= c
  hd:X.calm=true->X.A.handled=none
  frames:X.A.frames=some X.stack
  stk:X.stack=X.outer\/(X.stack=X.env :: X.outer/\X.env.frame=some X.env.locals)
  exf:∀ b ∈ X.ex,b ≠ X.env.locals/\∀ x c,X.env.cells.lookup x=some c->c ≠ b
  bs:∀ b o,X.base.get? b=some o->X.s₀.heap.get? b=some o/\X.H₀ b=none
  bsz:X.base.objs.size <= X.s₀.heap.objs.size
  noex:∀ b o,X.base.get? b=some o->b ∉ X.ex
  exfs:∀ b ∈ X.ex,b ∉ X.fs
  funs:X.s₀.heap.FunFrames X.base X.outer
  frf:∀ b ∈ X.fs,X.H₀ b=none
structure Inv (X:Cx) (pins:List (Addr × Obj)) (σ:List (Option V)) (H:Hp) (s:Shared):Prop where
  ok:X.Ok
  os:s.os=X.s₀.os
  bare:AllBare s.gens
  base:Un X.fs X.ex X.H₀ H X.s₀.heap s.heap
  loc:∃ m,s.heap.Ns X.env.locals m/\∀ (i:Nat) (x:Str) (v:V),X.N[i]?=some x->σ[i]?=some (some v)->Vis X.env.scope x->∃ u,RelV v u/\Look X.env s.heap m x u
  cell:∀ x c,X.env.cells.lookup x=some c->∃ v,s.heap.IsCell c v
  free:H X.env.locals=none
  freeC:∀ x c,X.env.cells.lookup x=some c->H c=none
  pin:∀ p ∈ X.pn ++ pins,s.heap.get? p.1=some p.2/\H p.1=none/\p.1 ≠ X.env.locals/\p.1 ∉ X.fs/\∀ v,p.2.data ≠ .cell v
  hok:HOk X.prog X.w H s.heap
  len:σ.length=X.N.length
section
variable {X:Cx} {pins:List (Addr × Obj)} {σ:List (Option V)} {H H':Hp} {s:Shared} {h':Heap}
theorem Cx.Ok.nofr (ok:X.Ok) {b:Addr} {o:Obj} (e:X.base.get? b=some o):b ∉ X.fs:=fun hb=>by
  have:=(ok.funs.mem hb).1
  rw [e] at this; cases this
theorem Inv.bs (I:Inv X pins σ H s):∀ b o,X.base.get? b=some o->s.heap.get? b=some o/\H b=none:=fun b o e =>
  ⟨I.base.keep b o (I.ok.bs b o e).1 (I.ok.bs b o e).2 (I.ok.nofr e) (I.ok.noex b o e),I.base.free b o (I.ok.bs b o e).1 (I.ok.bs b o e).2 (I.ok.noex b o e)⟩
theorem Inv.bk (I:Inv X pins σ H s):∀ b o,X.base.get? b=some o->s.heap.get? b=some o:=fun b o e=>(I.bs b o e).1
theorem Inv.mod (I:Inv X pins σ H s):Mod X.K X.mg X.base:=I.ok.mod
theorem Inv.kIn (I:Inv X pins σ H s):X.K.In s.heap:=I.ok.mod.kin.keeps I.bk
theorem Inv.nolimit (I:Inv X pins σ H s):s.heap.NoLimit:=I.ok.mod.nolimit.keeps I.bk
theorem Inv.fr (I:Inv X pins σ H s):∃ m,Fr X.base X.env.locals s.heap m :=
  let ⟨m,hn,_⟩:=I.loc
  ⟨m,hn,I.bk,Nat.le_trans I.ok.bsz I.ok.above⟩
theorem Inv.lt (I:Inv X pins σ H s):X.env.locals < s.heap.objs.size:=let ⟨_,hn,_⟩:=I.loc; hn.lt
theorem Inv.sz (I:Inv X pins σ H s):X.s₀.heap.objs.size <= s.heap.objs.size:=Nat.le_trans I.ok.above (Nat.le_of_lt I.lt)
theorem Inv.nofs (I:Inv X pins σ H s) {a:Addr} (h:s.heap.objs.size <= a):a ∉ X.fs:=fun hb=>by
  obtain ⟨_,o,ho,_⟩:=I.ok.funs.mem hb
  exact absurd (Nat.lt_of_lt_of_le (Heap.lt_size ho) (Nat.le_trans I.sz h)) (Nat.lt_irrefl _)
theorem Inv.cne (I:Inv X pins σ H s):∀ x c,X.env.cells.lookup x=some c->c ≠ X.env.locals:=fun x c e z=>by
  obtain ⟨v,o,ho,hd⟩:=I.cell x c e
  obtain ⟨m,⟨o',es,ep,ho',hd',_⟩,_⟩:=I.loc
  rw [z,ho'] at ho; cases ho; rw [hd'] at hd; cases hd
theorem Inv.funs (I:Inv X pins σ H s):s.heap.FunFrames X.base X.outer:=by
  have all:∀ (l:List Env),(∀ b ∈ frs l,b ∈ X.fs)->X.s₀.heap.FunFrames X.base l->s.heap.FunFrames X.base l:=by
    intro l
    induction l with
    | nil=>intro _ _; trivial
    | cons env r ih =>
      intro hs hl
      obtain ⟨hk,⟨L,o,hf,hn,ho,hd⟩,hr⟩:=hl
      have hL:L ∈ X.fs:=hs L (by unfold frs; rw [List.filterMap_cons,hf]; exact List.mem_cons_self)
      obtain ⟨sl,e⟩:=I.base.slot L o ho (I.ok.frf L hL) hL fun z=>I.ok.exfs L z hL
      exact ⟨hk,⟨L,_,hf,hn,e,hd⟩,ih (fun b hb=>hs b (by unfold frs; rw [List.filterMap_cons,hf]; exact List.mem_cons_of_mem _ hb)) hr⟩
  exact all X.outer (fun _ hb=>hb) I.ok.funs
theorem Inv.stack (I:Inv X pins σ H s):s.heap.FunFrames X.base X.stack:=by
  rcases I.ok.stk with e|⟨e,hf⟩
  . rw [e]; exact I.funs
  . rw [e]
    obtain ⟨m,hn,_⟩:=I.loc
    refine .cons (by rw [I.ok.kind]; decide) hf hn ?_ I.funs
    exact Heap.get?_none_of_le (Nat.le_trans I.ok.bsz I.ok.above)
theorem Inv.stkSub (I:Inv X pins σ H s):∀ b ∈ frs X.stack,b ∈ X.env.locals :: X.fs:=fun b hb=>by
  rcases I.ok.stk with e|⟨e,hf⟩
  . rw [e] at hb; exact List.mem_cons_of_mem _ hb
  . rw [e] at hb
    unfold frs at hb
    rw [List.filterMap_cons,hf] at hb
    exact hb
theorem Inv.stkFree (I:Inv X pins σ H s):∀ b ∈ frs X.stack,H b=none:=fun b hb=>by
  rcases List.mem_cons.mp (I.stkSub b hb) with e|hb
  . rw [e]; exact I.free
  . obtain ⟨_,o,ho,_⟩:=I.ok.funs.mem hb
    exact I.base.free b o ho (I.ok.frf b hb) fun z=>I.ok.exfs b z hb
theorem Inv.step {g':Array GenState} {t':Nat} {d':Drawn} {ch:List Addr} (I:Inv X pins σ H s)
    (hch:∀ b ∈ ch,(b ∈ X.ex\/X.s₀.heap.objs.size <= b)/\b ≠ X.env.locals/\(∀ x c,X.env.cells.lookup x=some c->c ≠ b)/\∀ p ∈ X.pn ++ pins,p.1 ≠ b)
    (keep:∀ b o,b ≠ X.env.locals->b ∉ X.fs->b ∉ ch->s.heap.get? b=some o->H b=none->h'.get? b=some o)
    (slot:∀ b o,b ≠ X.env.locals->b ∈ X.fs->b ∉ ch->s.heap.get? b=some o->H b=none->∃ sl,h'.get? b=some { o with slots:=sl }) (free:∀ b o,b ∉ ch->s.heap.get? b=some o->H b=none->H' b=none)
    (there:∀ b o,b ∉ ch->s.heap.get? b=some o->∃ o',h'.get? b=some o')
    (tups:∀ b xs,H b=some (.tup xs)->H' b=some (.tup xs)) (frzs:∀ b o u,H b=some (.frz o u)->H' b=some (.frz o u)) (tbls:∀ b ps,H b=some (.tbl ps)->∃ more,H' b=some (.tbl (ps ++ more)))
    (ns:∀ m,s.heap.Ns X.env.locals m->h'.Ns X.env.locals m) (hok:HOk X.prog X.w H' h') (hg:AllBare g') :
    Inv X pins σ H' { s with heap:=h',gens:=g',drawn:=d',toks:=t' }:=by
  have neL:∀ b o,X.s₀.heap.get? b=some o->b ≠ X.env.locals:=fun b o e=>Nat.ne_of_lt (Nat.lt_of_lt_of_le (Heap.lt_size e) I.ok.above)
  have neC:∀ b o,X.s₀.heap.get? b=some o->b ∉ X.ex->b ∉ ch:=fun b o e hx hb=>by
    rcases (hch b hb).1 with z|z
    . exact hx z
    . exact absurd (Nat.lt_of_lt_of_le (Heap.lt_size e) z) (Nat.lt_irrefl _)
  have cellK:∀ x c,X.env.cells.lookup x=some c->∀ v,s.heap.IsCell c v->h'.IsCell c v:=fun x c e v ⟨o,ho,hd⟩=>by
    have nch:c ∉ ch:=fun z=>(hch c z).2.2.1 x c e rfl
    by_cases hc:c ∈ X.fs
    . obtain ⟨sl,q⟩:=slot c o (I.cne x c e) hc nch ho (I.freeC x c e)
      exact ⟨_,q,hd⟩
    . exact ⟨o,keep c o (I.cne x c e) hc nch ho (I.freeC x c e),hd⟩
  refine ⟨I.ok,I.os,hg,⟨fun b o e n hb hx=>?_,fun b o e n hb hx=>?_,fun b o e n hx=>?_,fun b o e hx=>?_,fun b xs e=>tups b xs (I.base.tups b xs e),fun b o xs e=>frzs b o xs (I.base.frzs b o xs e),fun b ps e=>?_⟩,?_,fun x c e=>?_,?_,fun x c e=>?_,fun p hp=>?_,hok,I.len⟩
  . exact keep b o (neL b o e) hb (neC b o e hx) (I.base.keep b o e n hb hx) (I.base.free b o e n hx)
  . obtain ⟨sl,e1⟩:=I.base.slot b o e n hb hx
    obtain ⟨sl',e2⟩:=slot b _ (neL b o e) hb (neC b o e hx) e1 (I.base.free b o e n hx)
    exact ⟨sl',e2⟩
  . obtain ⟨o',e1⟩:=I.base.there b o e hx
    exact free b o' (neC b o e hx) e1 (I.base.free b o e n hx)
  . obtain ⟨o',e1⟩:=I.base.there b o e hx
    exact there b o' (neC b o e hx) e1
  . obtain ⟨m1,e1⟩:=I.base.tbls b ps e
    obtain ⟨m2,e2⟩:=tbls b _ e1
    exact ⟨m1 ++ m2,by rw [e2,Array.append_assoc]⟩
  . obtain ⟨m,hn,hl⟩:=I.loc
    refine ⟨m,ns m hn,fun i x v e1 e2 e3=>?_⟩
    obtain ⟨u,r,l⟩:=hl i x v e1 e2 e3
    refine ⟨u,r,?_⟩
    rcases l with l|⟨k,c,e,z⟩
    . exact .inl l
    . exact .inr ⟨k,c,e,cellK x c e _ z⟩
  . obtain ⟨v,z⟩:=I.cell x c e
    exact ⟨v,cellK x c e v z⟩
  . obtain ⟨m,⟨o,_,_,ho,_⟩,_⟩:=I.loc
    exact free _ o (fun z=>(hch _ z).2.1 rfl) ho I.free
  . obtain ⟨v,o,ho,hd⟩:=I.cell x c e
    exact free c o (fun z=>(hch c z).2.2.1 x c e rfl) ho (I.freeC x c e)
  . obtain ⟨e,n,ne,nf,d⟩:=I.pin p hp
    have nch:p.1 ∉ ch:=fun z=>(hch p.1 z).2.2.2 p hp rfl
    exact ⟨keep p.1 p.2 ne nf nch e n,free p.1 p.2 nch e n,ne,nf,d⟩
theorem Inv.un {t':Nat} (I:Inv X pins σ H s) (u:Un X.fs [] H H' s.heap h') (hok:HOk X.prog X.w H' h'):Inv X pins σ H' { s with heap:=h',toks:=t' }:=by
  obtain ⟨m,⟨o,es,ep,ho,r⟩,_⟩:=id I.loc
  obtain ⟨sl,hL⟩:=u.any ho I.free (by simp)
  exact I.step (g':=s.gens) (d':=s.drawn) (ch:=[]) (fun _ z=>nomatch z) (fun b o _ hb _ e n=>u.keep b o e n hb (by simp)) (fun b o _ hb _ e n=>u.slot b o e n hb (by simp)) (fun b o _ e n=>u.free b o e n (by simp)) (fun b o _ e=>u.there b o e (by simp)) u.tups u.frzs u.tbls (fun m' hm=>by
    obtain ⟨o',es',ep',ho',r'⟩:=hm
    rw [ho] at ho'; cases ho'
    exact ⟨_,es',ep',hL,r'⟩) hok I.bare
theorem Inv.call {g':Array GenState} {t':Nat} {d':Drawn} {ch:List Addr} (I:Inv X pins σ H s) (u:Un (frs X.stack) ch H H' s.heap h') (hok:HOk X.prog X.w H' h') (hg:AllBare g')
    (hch:∀ b ∈ ch,(b ∈ X.ex\/X.s₀.heap.objs.size <= b)/\b ≠ X.env.locals/\(∀ x c,X.env.cells.lookup x=some c->c ≠ b)/\∀ p ∈ X.pn ++ pins,p.1 ≠ b) :
    Inv X pins σ H' { s with heap:=h',gens:=g',drawn:=d',toks:=t' }:=by
  obtain ⟨m,⟨o,es,ep,ho,r⟩,_⟩:=id I.loc
  obtain ⟨sl,hL⟩:=u.any ho I.free fun z=>(hch _ z).2.1 rfl
  exact I.step (ch:=ch) hch (fun b o hL hb hc e n=>u.keep b o e n (fun z=>(List.mem_cons.mp (I.stkSub b z)).elim hL hb) hc) (fun b o _ _ hc e n=>u.any e n hc) (fun b o hc e n=>u.free b o e n hc) (fun b o hc e=>u.there b o e hc) u.tups u.frzs u.tbls (fun m' hm=>by
    obtain ⟨o',es',ep',ho',r'⟩:=hm
    rw [ho] at ho'; cases ho'
    exact ⟨_,es',ep',hL,r'⟩) hok hg
theorem Inv.turned {t':Nat} {it:Addr} (I:Inv X pins σ H s) (k:∀ b o,b ≠ it->s.heap.get? b=some o->h'.get? b=some o) (hn:H it=none) (hL:it ≠ X.env.locals)
    (h1:it ∈ X.ex\/X.s₀.heap.objs.size <= it) (h2:∀ x c,X.env.cells.lookup x=some c->c ≠ it) (h3:∀ p ∈ X.pn ++ pins,p.1 ≠ it):Inv X pins σ H { s with heap:=h',toks:=t' }:=by
  have nit:∀ b u,H b=some u->b ≠ it:=fun b u e z=>by rw [z,hn] at e; cases e
  refine I.step (g':=s.gens) (d':=s.drawn) (ch:=[it]) (fun b hb=>?_) (fun b o _ _ hc e _=>k b o (fun z=>hc (by simp [z])) e) (fun b o _ _ hc e _=>⟨o.slots,k b o (fun z=>hc (by simp [z])) e⟩) (fun _ _ _ _ n=>n)
    (fun b o hc e=>⟨o,k b o (fun z=>hc (by simp [z])) e⟩) (fun _ _ e=>e) (fun _ _ _ e=>e) (fun b ps e=>⟨#[],by rw [e]; simp⟩) (fun m hm=>?_) (fun b u e=>?_) I.bare
  . have e:b=it:=by simpa using hb
    subst e
    exact ⟨h1,hL,h2,h3⟩
  . obtain ⟨o,es,ep,ho,r⟩:=hm
    exact ⟨o,es,ep,k _ o (Ne.symm hL) ho,r⟩
  . refine (I.hok b u e).stay (fun c v hc q=>k c v ?_ q) (fun _ q=>q) fun _ _ q=>q
    rcases hc with z|z
    . rw [z]; exact nit b u e
    . exact nit c _ z
theorem Inv.tok (I:Inv X pins σ H s) (t:Nat):Inv X pins σ H { s with toks:=t }:=I.un (h':=s.heap) (t':=t) Un.refl I.hok
theorem Inv.kept {t':Nat} (I:Inv X pins σ H s) (k:∀ b u,s.heap.get? b=some u->h'.get? b=some u):Inv X pins σ H { s with heap:=h',toks:=t' }:=I.un (Un.kept k) (I.hok.kept k)
theorem Inv.laid {a:Addr} {o:HO} {t':Nat} (I:Inv X pins σ H s) (k:∀ b u,s.heap.get? b=some u->h'.get? b=some u) (hp:s.heap.objs.size <= a) (new:ObjOk X.prog X.w (upd H a o) h' a o) :
    Inv X pins σ (upd H a o) { s with heap:=h',toks:=t' }:=I.un (Un.laid k hp (I.hok.fresh hp)) (I.hok.laid k hp new)
theorem Inv.write {x e:Addr} {o:HO} {t':Nat} (I:Inv X pins σ H s) (mu:Mut (H x)) (he:e=x\/H e=some (.own x)) (k:∀ b u,b ≠ e->s.heap.get? b=some u->h'.get? b=some u) (heo:∃ u,h'.get? e=some u)
    (new:ObjOk X.prog X.w (upd H x o) h' x o):Inv X pins σ (upd H x o) { s with heap:=h',toks:=t' }:=I.un (Un.write mu he k heo) (I.hok.write mu he k heo new)
theorem Inv.pins_of {pins':List (Addr × Obj)} (I:Inv X pins σ H s) (h:∀ p ∈ pins',s.heap.get? p.1=some p.2/\H p.1=none/\p.1 ≠ X.env.locals/\p.1 ∉ X.fs/\∀ v,p.2.data ≠ .cell v):Inv X pins' σ H s :=
  ⟨I.ok,I.os,I.bare,I.base,I.loc,I.cell,I.free,I.freeC,fun p hp=>(List.mem_append.mp hp).elim (fun z=>I.pin p (List.mem_append_left _ z)) (h p),I.hok,I.len⟩
theorem Zii {N:List Str} (hN:N.Nodup) {i j:Nat} {x:Str} (a:N[i]?=some x) (b:N[j]?=some x):i=j:=by
  obtain ⟨h1,e1⟩:=List.getElem?_eq_some_iff.mp a
  obtain ⟨h2,e2⟩:=List.getElem?_eq_some_iff.mp b
  exact (List.getElem_inj hN).mp (e1.trans e2.symm)
theorem Zgc {M:Model} {A:Around} {E:Value->Shared->Prop} {i:Nat} {x:Str} {v:V} {u:Value} {Q:Unit->Shared->Prop} (I:Inv X pins σ H s) (hN:X.N.Nodup) (hi:X.N[i]?=some x) (hx:Loc X.env.scope x) (r:RelV v u)
    (h:∀ s',Inv X pins (σ.set i (some v)) H s'->(∃ a,Heap.SameBut a s.heap s'.heap/\(a=X.env.locals\/X.env.cells.lookup x=some a))->Q () s') (hf:X.fn x=true\/X.env.scope.names.lookup x=some .local:=by first|exact .inl rfl|exact .inr rfl|assumption):wpAny M A (storeName X.env x u) Q E s:=by
  obtain ⟨m,hn,hl⟩:=id I.loc
  have hcls:(X.env.scope.kind == .class || (X.env.scope.kind == .module && X.env.locals != X.env.globals))=false:=by rw [I.ok.kind]; rfl
  have hiσ:i < σ.length:=by rw [I.len]; exact (List.getElem?_eq_some_iff.mp hi).1
  have cne:=I.cne
  have tracked:∀ {a:Addr} {h':Heap},(∃ o,s.heap.get? a=some o/\H a=none)->Heap.SameBut a s.heap h'->HOk X.prog X.w H h':=fun {a h'} ha hs b ob e=>by
    obtain ⟨_,_,hfree⟩:=ha
    refine (I.hok b ob e).stay (fun c w' hc q=>(hs.2 c ?_).trans q) (fun _ q=>q) fun _ _ q=>q
    rintro rfl
    rcases hc with rfl|hc
    . rw [hfree] at e; cases e
    . rw [hfree] at hc; cases hc
  rcases hx with hk|hk
  . refine wpAny_storeName_local hk hn (fun h' hn' hs=>?_) hcls
    obtain ⟨oL,_,_,hoL,_⟩:=id hn
    refine h _ ⟨I.ok,I.os,I.bare,⟨fun b o e n hb hx=>?_,fun b o e n hb hx=>?_,I.base.free,fun b o e hx=>?_,I.base.tups,I.base.frzs,I.base.tbls⟩,⟨_,hn',fun j y v' e1 e2 e3=>?_⟩,fun y c e=>?_,I.free,I.freeC,fun p hp=>?_,tracked ⟨oL,hoL,I.free⟩ hs,by simpa using I.len⟩ ⟨_,hs,.inl rfl⟩
    . exact (hs.2 b (Nat.ne_of_lt (Nat.lt_of_lt_of_le (Heap.lt_size e) I.ok.above))).trans (I.base.keep b o e n hb hx)
    . obtain ⟨sl,e1⟩:=I.base.slot b o e n hb hx
      exact ⟨sl,(hs.2 b (Nat.ne_of_lt (Nat.lt_of_lt_of_le (Heap.lt_size e) I.ok.above))).trans e1⟩
    . obtain ⟨o',e1⟩:=I.base.there b o e hx
      exact ⟨o',(hs.2 b (Nat.ne_of_lt (Nat.lt_of_lt_of_le (Heap.lt_size e) I.ok.above))).trans e1⟩
    . by_cases hj:j=i
      . subst hj
        rw [hi] at e1; cases e1
        rw [List.getElem?_set_self hiσ] at e2
        cases e2
        exact ⟨u,r,.inl ⟨hk,by simp⟩⟩
      . rw [List.getElem?_set_ne (Ne.symm hj)] at e2
        obtain ⟨u',r',q⟩:=hl j y v' e1 e2 e3
        refine ⟨u',r',?_⟩
        rcases q with ⟨k,e⟩|⟨k,c,e,z⟩
        . refine .inl ⟨k,?_⟩
          have:y ≠ x:=fun e=>hj (Zii hN e1 (e ▸ hi))
          simp [this,e]
        . exact .inr ⟨k,c,e,z.sameBut hs (cne y c e)⟩
    . obtain ⟨w',z⟩:=I.cell y c e
      exact ⟨w',z.sameBut hs (cne y c e)⟩
    . obtain ⟨e,n,ne,nf,d⟩:=I.pin p hp
      exact ⟨(hs.2 p.1 ne).trans e,n,ne,nf,d⟩
  . have hfn:X.fn x=true:=by
      rcases hf with z|z
      . exact z
      . rw [z] at hk; cases hk
    obtain ⟨c,hc⟩:=I.ok.has x (.inl hk)
    obtain ⟨w',z⟩:=I.cell x c hc
    refine wpAny_storeName_cell I.ok.kind hk hc z (fun h' hc' hs=>?_)
    obtain ⟨oc,hoc,hocd⟩:=id z
    refine h { s with heap:=h' } ⟨I.ok,I.os,I.bare,⟨fun b o e n hb hx=>?_,fun b o e n hb hx=>?_,I.base.free,fun b o e hx=>?_,I.base.tups,I.base.frzs,I.base.tbls⟩,⟨m,hn.sameBut hs (Ne.symm (cne x c hc)),fun j y v' e1 e2 e3=>?_⟩,fun y c' e=>?_,I.free,I.freeC,fun p hp=>?_,tracked ⟨oc,hoc,I.freeC x c hc⟩ hs,by simpa using I.len⟩ ⟨c,hs,.inr hc⟩
    . exact (hs.2 b (Nat.ne_of_lt (Nat.lt_of_lt_of_le (Heap.lt_size e) (I.ok.cab x c hfn hc)))).trans (I.base.keep b o e n hb hx)
    . obtain ⟨sl,e1⟩:=I.base.slot b o e n hb hx
      exact ⟨sl,(hs.2 b (Nat.ne_of_lt (Nat.lt_of_lt_of_le (Heap.lt_size e) (I.ok.cab x c hfn hc)))).trans e1⟩
    . obtain ⟨o',e1⟩:=I.base.there b o e hx
      exact ⟨o',(hs.2 b (Nat.ne_of_lt (Nat.lt_of_lt_of_le (Heap.lt_size e) (I.ok.cab x c hfn hc)))).trans e1⟩
    . by_cases hj:j=i
      . subst hj
        rw [hi] at e1; cases e1
        rw [List.getElem?_set_self hiσ] at e2
        cases e2
        exact ⟨u,r,.inr ⟨.inl hk,c,hc,hc'⟩⟩
      . rw [List.getElem?_set_ne (Ne.symm hj)] at e2
        obtain ⟨u',r',q⟩:=hl j y v' e1 e2 e3
        refine ⟨u',r',?_⟩
        rcases q with q|⟨k,c',e,z'⟩
        . exact .inl q
        . refine .inr ⟨k,c',e,z'.sameBut hs ?_⟩
          rintro rfl
          exact hj (Zii hN e1 (I.ok.inj _ _ _ e hc ▸ hi))
    . by_cases hcc:c'=c
      . subst hcc; exact ⟨_,hc'⟩
      . obtain ⟨w2,z2⟩:=I.cell y c' e
        exact ⟨w2,z2.sameBut hs hcc⟩
    . obtain ⟨e,n,ne,nf,d⟩:=I.pin p hp
      refine ⟨(hs.2 p.1 ?_).trans e,n,ne,nf,d⟩
      intro q
      rw [q,hoc] at e
      have q':oc=p.2:=Option.some.inj e
      exact d w' (by rw [<- q']; exact hocd)
theorem Zij {M:Model} {A:Around} {E:Value->Shared->Prop} {i:Nat} {x:Str} {v:V} {u:Value} {Q:Unit->Shared->Prop} (I:Inv X pins σ H s) (hN:X.N.Nodup) (hi:X.N[i]?=some x) (hx:Loc X.env.scope x) (r:RelV v u)
    (h:∀ s',Inv X pins (σ.set i (some v)) H s'->Q () s') (hf:X.fn x=true\/X.env.scope.names.lookup x=some .local:=by first|exact .inl rfl|exact .inr rfl|assumption):wpAny M A (storeName X.env x u) Q E s :=
  Zgc I hN hi hx r (fun s' I' _=>h s' I') hf
theorem Inv.call' {s':Shared} {ch:List Addr} (I:Inv X pins σ H s) (ho:s'.os=s.os) (u:Un (frs X.stack) ch H H' s.heap s'.heap) (hok:HOk X.prog X.w H' s'.heap) (hg:AllBare s'.gens)
    (hch:∀ b ∈ ch,(b ∈ X.ex\/X.s₀.heap.objs.size <= b)/\b ≠ X.env.locals/\(∀ x c,X.env.cells.lookup x=some c->c ≠ b)/\∀ p ∈ X.pn ++ pins,p.1 ≠ b):Inv X pins σ H' s':=by
  obtain ⟨h',g',d',t',o'⟩:=s'
  have e:o'=s.os:=ho
  subst e
  exact I.call (g':=g') (t':=t') (d':=d') u hok hg hch
end
noncomputable abbrev XK:=Value->Option Addr->Hp->Prop
noncomputable abbrev St:=List (Option V)
noncomputable abbrev VK:=V->Hp->Prop
noncomputable abbrev TE:=St->Hp->VK->Prop
noncomputable abbrev TT:=St->Hp->(Bool->Hp->Prop)->Prop
noncomputable abbrev TA:=St->Hp->(List V->Hp->Prop)->Prop
structure Ends where
  nx:St->Hp->Prop
  rt:VK
  bk:St->Hp->Prop:=fun _ _=>False
  ct:St->Hp->Prop:=fun _ _=>False
noncomputable abbrev TS:=Ends->St->Hp->Prop
noncomputable def EP (X:Cx) (pins:List (Addr × Obj)) (σ:St) (Q:VK) (u:Value) (s':Shared):Prop:=∃ v H',Inv X pins σ H' s'/\RelV v u/\Q v H'
noncomputable def TP (X:Cx) (pins:List (Addr × Obj)) (σ:St) (Q:Bool->Hp->Prop) (b:Bool) (s':Shared):Prop:=∃ H',Inv X pins σ H' s'/\Q b H'
noncomputable def AP (X:Cx) (pins:List (Addr × Obj)) (σ:St) (Q:List V->Hp->Prop) (us:List Value) (s':Shared):Prop:=∃ vs H',Inv X pins σ H' s'/\Vals vs us/\Q vs H'
noncomputable def SP (X:Cx) (pins:List (Addr × Obj)) (D:Ends) (f:Flow) (s':Shared):Prop :=
  match f with
  | .next=>∃ σ' H',Inv X pins σ' H' s'/\D.nx σ' H'
  | .brk=>∃ σ' H',Inv X pins σ' H' s'/\D.bk σ' H'
  | .cont=>∃ σ' H',Inv X pins σ' H' s'/\D.ct σ' H'
  | .ret u=>∃ v σ' H',Inv X pins σ' H' s'/\RelV v u/\D.rt v H'
noncomputable def PE (X:Cx) (e:Expr) (t:TE):Prop :=
  ∀ (pins:List (Addr × Obj)) (s:Shared) (σ:St) (H:Hp) (Q:VK),Inv X pins σ H s->t σ H Q->wpAny (model X.prog X.w) X.A (eval e X.env) (EP X pins σ Q) X.xe s
noncomputable def PT (X:Cx) (e:Expr) (t:TT):Prop :=
  ∀ (pins:List (Addr × Obj)) (s:Shared) (σ:St) (H:Hp) (Q:Bool->Hp->Prop),Inv X pins σ H s->t σ H Q->wpAny (model X.prog X.w) X.A (isTrue e X.env (eval e X.env)) (TP X pins σ Q) X.xe s
noncomputable def PW (X:Cx) (e:Expr) (t:TT):Prop :=
  ∀ (whole:Sem Value) (pins:List (Addr × Obj)) (s:Shared) (σ:St) (H:Hp) (Q:Bool->Hp->Prop),Inv X pins σ H s->t σ H Q->wpAny (model X.prog X.w) X.A (isTrue e X.env whole) (TP X pins σ Q) X.xe s
theorem PW.pt {X:Cx} {e:Expr} {t:TT} (h:PW X e t):PT X e t:=h _
noncomputable def PA (X:Cx) (es:List Expr) (t:TA):Prop :=
  ∀ (pos:Pos) (pins:List (Addr × Obj)) (s:Shared) (σ:St) (H:Hp) (Q:List V->Hp->Prop),Inv X pins σ H s->t σ H Q->wpAny (model X.prog X.w) X.A (spliced (backTo pos (starEach es X.env))) (AP X pins σ Q) X.xe s
noncomputable def PS (X:Cx) (st:Stmt) (t:TS):Prop :=
  ∀ (pins:List (Addr × Obj)) (s:Shared) (σ:St) (H:Hp) (D:Ends),Inv X pins σ H s->t D σ H->wpAny (model X.prog X.w) X.A (exec st X.env) (SP X pins D) X.xe s
noncomputable def PSs (X:Cx) (st:List Stmt) (t:TS):Prop :=
  ∀ (pins:List (Addr × Obj)) (s:Shared) (σ:St) (H:Hp) (D:Ends),Inv X pins σ H s->t D σ H->wpAny (model X.prog X.w) X.A (execs st X.env) (SP X pins D) X.xe s
theorem thn {α:Type} {t:Sem α} {Q Q':α->Shared->Prop} {M:Model} {A:Around} {E:Value->Shared->Prop} {s:Shared} (h:wpAny M A t Q E s) (hQ:∀ a s,Q a s->Q' a s):wpAny M A t Q' E s:=wpAny_mono h hQ fun _ _ x=>x
end L2
namespace L2
open PySem PySem.Spec PyProof.Rows
section
variable {X:Cx}
theorem bin {a b:Expr} {ta tb:TE} (ha:PE X a ta) (hb:PE X b tb) {pins:List (Addr × Obj)} {s:Shared} {σ:St} {H:Hp} {R:V->V->Hp->Prop} (I:Inv X pins σ H s) (h:ta σ H fun x H1=>tb σ H1 fun y H2=>R x y H2)
    {α:Type} {Q:α->Shared->Prop} {f:Value->Value->Sem α}
    (hf:∀ v u s2 x y H2,Inv X pins σ H2 s2->RelV x v->RelV y u->R x y H2->wpAny (model X.prog X.w) X.A (f v u) Q X.xe s2) :
    wpAny (model X.prog X.w) X.A (eval a X.env) (fun v s₁=>wpAny (model X.prog X.w) X.A (eval b X.env) (fun u s₂=>wpAny (model X.prog X.w) X.A (f v u) Q X.xe s₂) X.xe s₁) X.xe s:=by
  refine thn (ha pins s σ H _ I h) fun v s1 ⟨x,H1,I1,r1,q1⟩=>?_
  refine thn (hb pins s1 σ H1 _ I1 q1) fun u s2 ⟨y,H2,I2,r2,q2⟩=>?_
  exact hf v u s2 x y H2 I2 r1 r2 q2
noncomputable def tVar (i:Nat):TE:=fun σ H Q=>∃ v,σ[i]?=some (some v)/\Q v H
noncomputable def tC (v:V):TE:=fun _ H Q=>Q v H
theorem pe_var {i:Nat} {x:Str} {pos:Pos} (hN:X.N[i]?=some x) (hv:Vis X.env.scope x) (hd:(x == ("__debug__" : Str))=false:=by decide) (hcd:(x == ("__classdict__" : Str))=false:=by decide):PE X (.Name x pos) (tVar i):=by
  intro pins s σ H Q I h
  obtain ⟨v,e,h⟩:=h
  obtain ⟨m,hn,hl⟩:=I.loc
  obtain ⟨u,r,l⟩:=hl i x v hN e hv
  have fin:EP X pins σ Q u s:=⟨v,H,I,r,h⟩
  rcases l with ⟨hk,hm⟩|⟨hk,c,hc,hcell⟩
  . exact wpAny_Name (wpAny_loadName_local I.ok.kind hk hn hm fin) hd
  . rcases hk with hk|hk
    . exact wpAny_Name (wpAny_loadName_cell I.ok.kind hk hc hcell fin) hd
    . exact wpAny_Name (wpAny_loadName_free I.ok.kind hk hc hcell fin hcd) hd
theorem Zaf {i j pos}:PE X (.Constant (.int i) j pos) (tC (.int i)):=fun _ _ _ H _ I h=>wpAny_Constant_int ⟨.int i,H,I.tok _,⟨_,rfl⟩,h⟩
theorem ZeU {b j pos}:PE X (.Constant (.bool b) j pos) (tC (.bl b)):=fun _ _ _ H _ I h=>Constant_bool ⟨.bl b,H,I,rfl,h⟩
theorem Zcn {j pos}:PE X (.Constant .none j pos) (tC .non):=fun _ _ _ H _ I h=>Constant_none ⟨.non,H,I,rfl,h⟩
theorem ZaJ {x j pos}:PE X (.Constant (.str x) j pos) (tC (.str x)):=fun _ _ _ H _ I h=>Calls.Constant_str ⟨.str x,H,I.tok _,⟨_,rfl⟩,h⟩
noncomputable def Gl (X:Cx) (x:Str):Prop:=X.env.kindOf x=some .globalImplicit
theorem Zha {E:Value->Shared->Prop} {pins:List (Addr × Obj)} {s:Shared} {σ:St} {H:Hp} {x:Str} {u:Value} {pos:Pos} {Q:Value->Shared->Prop} (I:Inv X pins σ H s) (hg:Gl X x) (hm:X.mg x=some u) (h:Q u s)
    (hd:(x == ("__debug__" : Str))=false:=by decide):wpAny (model X.prog X.w) X.A (eval (.Name x pos) X.env) Q E s :=
  Calls.Name_function_global I.ok.kind hg (Calls.loadGlobal_global (by rw [I.ok.glob]; exact I.mod.glob.keeps I.bk) hm h) hd
theorem Ze2 {E:Value->Shared->Prop} {pins:List (Addr × Obj)} {s:Shared} {σ:St} {H:Hp} {x:Str} {u:Value} {pos:Pos} {Q:Value->Shared->Prop} (I:Inv X pins σ H s) (hg:Gl X x) (hm:X.mg x=none) (hv:bootBuiltins x=some u) (h:Q u s)
    (hn:x ≠ "__name__" := by decide) (hd:(x == ("__debug__" : Str))=false:=by decide):wpAny (model X.prog X.w) X.A (eval (.Name x pos) X.env) Q E s:=by
  obtain ⟨mb,h1,h2⟩:=I.mod.blt
  exact Calls.Name_function_global I.ok.kind hg (Calls.loadGlobal_builtin (by rw [I.ok.glob]; exact I.mod.glob.keeps I.bk) hm (by rw [I.ok.blt]; exact h1.keeps I.bk) ((h2 x hn).trans hv) h) hd
theorem Zl6 {x:Str} {v:V} {u:Value} {pos:Pos} (hg:Gl X x) (hm:X.mg x=some u) (r:RelV v u) (hd:(x == ("__debug__" : Str))=false:=by decide):PE X (.Name x pos) (tC v) :=
  fun _ _ _ H _ I h=>Zha I hg hm ⟨v,H,I,r,h⟩ hd
theorem Zl7 {x:Str} {v:V} {u:Value} {pos:Pos} (hg:Gl X x) (hm:X.mg x=none) (hv:bootBuiltins x=some u) (r:RelV v u) (hn:x ≠ "__name__" := by decide) (hd:(x == ("__debug__" : Str))=false:=by decide):PE X (.Name x pos) (tC v) :=
  fun _ _ _ H _ I h=>Ze2 I hg hm hv ⟨v,H,I,r,h⟩ hn hd
noncomputable def t2I (ta tb:TE) (k:Int->Int->Hp->Prop):St->Hp->Prop:=fun σ H=>ta σ H fun x H1=>tb σ H1 fun y H2=>∃ i j,x=.int i/\y=.int j/\k i j H2
variable {a b:Expr} {ta tb:TE} {pos:Pos}
noncomputable def PC (X:Cx) (op:CmpOp) (a b:Expr) (t:TE):Prop :=
  ∀ (pins:List (Addr × Obj)) (s:Shared) (σ:St) (H:Hp) (Q:VK),Inv X pins σ H s->t σ H Q ->
    wpAny (model X.prog X.w) X.A (eval a X.env) (fun v s₁=>wpAny (model X.prog X.w) X.A (eval b X.env) (fun u s₂=>wpAny (model X.prog X.w) X.A (compareOp op v u) (EP X pins σ Q) X.xe s₂) X.xe s₁) X.xe s
theorem ZkO (b:Expr) {op:CmpOp} (h:op ≠ .In) (h2:op ≠ .NotIn):behindInMarks op b=false:=by
  have e1:(op == CmpOp.In)=false:=by cases op <;> first|rfl|exact absurd rfl h
  have e2:(op == CmpOp.NotIn)=false:=by cases op <;> first|rfl|exact absurd rfl h2
  cases b <;> simp [behindInMarks,e1,e2]
noncomputable def tCmp (p:Int->Int->Bool) (ta tb:TE):TE:=fun σ H Q=>t2I ta tb (fun i j H2=>Q (.bl (p i j)) H2) σ H
noncomputable abbrev tLt:TE->TE->TE:=tCmp fun i j=>decide (i < j)
noncomputable abbrev tLe:TE->TE->TE:=tCmp fun i j=>decide (i <= j)
noncomputable abbrev tGt:TE->TE->TE:=tCmp fun i j=>decide (j < i)
noncomputable abbrev tGe:TE->TE->TE:=tCmp fun i j=>decide (j <= i)
noncomputable abbrev tEqI:TE->TE->TE:=tCmp fun i j=>decide (i=j)
noncomputable abbrev tNeI:TE->TE->TE:=tCmp fun i j=>!decide (i=j)
noncomputable def tB (t:TE):TT:=fun σ H Q=>t σ H fun x H1=>∃ c,x=.bl c/\Q c H1
theorem pt_cmp {op:CmpOp} {t:TE} (h:PC X op a b t) (h1:behindInMarks op b=false:=by first|exact ZkO _ (by decide) (by decide)|rfl):PT X (.Compare a [op] [b] pos) (tB t):=by
  intro pins s σ H Q I hw
  refine wpAny_isTrue_Compare1 (thn (h pins s σ H _ I hw) fun v s1 h1=>thn h1 fun u s2 h2=>thn h2 fun c s3 ⟨x,H1,I1,r1,q1⟩=>?_) h1
  obtain ⟨d,rfl,q⟩:=q1
  cases r1
  exact wpAny_truthy_bool ⟨H1,I1,q⟩
theorem Zb3 {e:Expr} {t:TE} (h:PE X e t) (he:∀ whole,isTrue e X.env whole=(do let v <- whole; standAt e.pos; holding [v] (truthy v)):=by intro _; rfl):PT X e (tB t):=by
  intro pins s σ H Q I hw
  refine isTrue_plain (thn (h pins s σ H _ I hw) fun v s1 ⟨x,H1,I1,r1,q1⟩=>?_) (he _)
  obtain ⟨d,rfl,q⟩:=q1
  cases r1
  exact wpAny_truthy_bool ⟨H1,I1,q⟩
variable {tA tB':TT} {rest:List Expr}
noncomputable def tAnd (t u:TT):TT:=fun σ H Q=>t σ H fun c H1=>if c=true then u σ H1 Q else Q false H1
noncomputable def tOr (t u:TT):TT:=fun σ H Q=>t σ H fun c H1=>if c=true then Q true H1 else u σ H1 Q
noncomputable def tNot (t:TT):TT:=fun σ H Q=>t σ H fun c H1=>Q (!c) H1
theorem Zhb (ha:PT X a tA):PW X (.BoolOp .And [a] pos) tA:=by
  intro wh pins s σ H Q I h
  refine isTrue_and (thn (ha pins s σ H Q I h) fun c s1 e=>?_)
  cases c with
  | true=>exact isTrue_and_nil e
  | false=>exact e
theorem ZlK (ha:PT X a tA):PW X (.BoolOp .Or [a] pos) tA:=by
  intro wh pins s σ H Q I h
  refine isTrue_or (thn (ha pins s σ H Q I h) fun c s1 e=>?_)
  cases c with
  | false=>exact isTrue_or_nil e
  | true=>exact e
theorem Zjo (ha:PT X a tA) (hb:PW X (.BoolOp .And (b :: rest) pos) tB'):PW X (.BoolOp .And (a :: b :: rest) pos) (tAnd tA tB'):=by
  intro wh pins s σ H Q I h
  refine isTrue_and (thn (ha pins s σ H _ I h) fun c s1 ⟨H1,I1,q1⟩=>?_)
  cases c with
  | true=>exact hb wh pins s1 σ H1 Q I1 q1
  | false=>exact ⟨H1,I1,q1⟩
theorem pw_or (ha:PT X a tA) (hb:PW X (.BoolOp .Or (b :: rest) pos) tB'):PW X (.BoolOp .Or (a :: b :: rest) pos) (tOr tA tB'):=by
  intro wh pins s σ H Q I h
  refine isTrue_or (thn (ha pins s σ H _ I h) fun c s1 ⟨H1,I1,q1⟩=>?_)
  cases c with
  | true=>exact ⟨H1,I1,q1⟩
  | false=>exact hb wh pins s1 σ H1 Q I1 q1
theorem Ze3 (ha:PT X a tA):PT X (.UnaryOp .Not a pos) (tNot tA):=by
  intro pins s σ H Q I h
  exact isTrue_not (ha pins s σ H (fun c H1=>Q (!c) H1) I h)
noncomputable def tAndV (ta tb:TE):TE:=fun σ H Q=>ta σ H fun x H1=>∃ c,x=.bl c/\if c=true then tb σ H1 Q else Q (.bl false) H1
noncomputable def tOrV (ta tb:TE):TE:=fun σ H Q=>ta σ H fun x H1=>∃ c,x=.bl c/\if c=true then Q (.bl true) H1 else tb σ H1 Q
noncomputable def tNotV (ta:TE):TE:=fun σ H Q=>ta σ H fun x H1=>∃ c,x=.bl c/\Q (.bl (!c)) H1
theorem Zc4 {op} {t:TE} (h:PE X a t):PE X (.BoolOp op [a] pos) t:=fun pins s σ H Q I hw=>BoolOp_one (h pins s σ H Q I hw)
theorem Zc5 (ha:PE X a ta) (hb:PE X (.BoolOp .And (b :: rest) pos) tb):PE X (.BoolOp .And (a :: b :: rest) pos) (tAndV ta tb):=by
  intro pins s σ H Q I h
  refine BoolOp_and (thn (ha pins s σ H _ I h) fun v s1 ⟨x,H1,I1,r1,q1⟩=>?_)
  obtain ⟨c,rfl,q1⟩:=q1
  cases r1
  refine wpAny_truthy_bool ?_
  cases c with
  | true=>exact hb pins s1 σ H1 Q I1 q1
  | false=>exact ⟨.bl false,H1,I1,rfl,q1⟩
theorem pe_or (ha:PE X a ta) (hb:PE X (.BoolOp .Or (b :: rest) pos) tb):PE X (.BoolOp .Or (a :: b :: rest) pos) (tOrV ta tb):=by
  intro pins s σ H Q I h
  refine BoolOp_or (thn (ha pins s σ H _ I h) fun v s1 ⟨x,H1,I1,r1,q1⟩=>?_)
  obtain ⟨c,rfl,q1⟩:=q1
  cases r1
  refine wpAny_truthy_bool ?_
  cases c with
  | false=>exact hb pins s1 σ H1 Q I1 q1
  | true=>exact ⟨.bl true,H1,I1,rfl,q1⟩
theorem pe_not (ha:PE X a ta):PE X (.UnaryOp .Not a pos) (tNotV ta):=by
  intro pins s σ H Q I h
  refine UnaryOp_ (thn (ha pins s σ H _ I h) fun v s1 ⟨x,H1,I1,r1,q1⟩=>?_)
  obtain ⟨c,rfl,q1⟩:=q1
  cases r1
  exact not_of (wpAny_truthy_bool ⟨.bl (!c),H1,I1,rfl,q1⟩)
noncomputable def tIf (t:TT) (ta tb:TE):TE:=fun σ H Q=>t σ H fun c H1=>if c=true then ta σ H1 Q else tb σ H1 Q
theorem Zd1 {c:Expr} (hc:PT X c tA) (ha:PE X a ta) (hb:PE X b tb):PE X (.IfExp c a b pos) (tIf tA ta tb):=by
  intro pins s σ H Q I h
  refine wpAny_IfExp (thn (hc pins s σ H _ I h) fun d s1 ⟨H1,I1,q1⟩=>?_)
  cases d with
  | true=>exact ha pins s1 σ H1 Q I1 q1
  | false=>exact hb pins s1 σ H1 Q I1 q1
end
end L2
namespace L2
open PySem PySem.Spec PyProof.Rows
noncomputable def SqL (K:PySem.W.Frag) (H:Hp) (a:Addr) (xs:List V):Prop :=
  Rd H a (.lst xs) \/
    ∃ (o:Obj) (its:Array Value) (n:Nat),K.lookup a=some o/\o.cls=.type "list" /\ o.dict=none/\o.data=.seq its n/\its.size <= sizeLine/\Vals xs its.toList
noncomputable def SqT (K:PySem.W.Frag) (H:Hp) (a:Addr) (xs:List V):Prop :=
  Rd H a (.tup xs) \/
    ∃ (o:Obj) (its:Array Value) (n:Nat),K.lookup a=some o/\o.cls=.type "tuple" /\ o.data=.seq its n/\its.size <= sizeLine/\Vals xs its.toList
noncomputable def absV:Value->Option V
  | .none=>some .non
  | .bool b=>some (.bl b)
  | .int i _=>some (.int i)
  | .str x _=>some (.str x)
  | .bytes b _=>some (.byt b)
  | .float b _=>some (.flt b)
  | .ref a=>some (.ref a)
  | .type n=>some (.ty n)
  | _=>none
theorem RelV.abs {x:V} {u:Value} (r:RelV x u):absV u=some x:=by
  cases x with
  | non=>cases r; rfl
  | bl _=>cases r; rfl
  | int _=>obtain ⟨t,rfl⟩:=r; rfl
  | str _=>obtain ⟨t,rfl⟩:=r; rfl
  | byt _=>obtain ⟨t,rfl⟩:=r; rfl
  | flt _=>obtain ⟨t,rfl⟩:=r; rfl
  | ref _=>cases r; rfl
  | ty _=>cases r; rfl
theorem RelV.inj {x y:V} {u:Value} (r:RelV x u) (q:RelV y u):x=y:=Option.some.inj (r.abs.symm.trans q.abs)
theorem Vals.inj:∀ {xs ys:List V} {us:List Value},Vals xs us->Vals ys us->xs=ys
  | _,_,_,.nil,.nil=>rfl
  | _,_,_,.cons r t,.cons r' t'=>by rw [r.inj r',Vals.inj t t']
section
variable {X:Cx} {pins:List (Addr × Obj)} {σ:St} {H:Hp} {s:Shared} {a:Addr} {xs ys:List V}
theorem SqL.of {K:PySem.W.Frag} (h:H a=some (.lst xs)):SqL K H a xs:=.inl (.inl h)
theorem SqT.of {K:PySem.W.Frag} (h:H a=some (.tup xs)):SqT K H a xs:=.inl (.inl h)
theorem Inv.list (I:Inv X pins σ H s) (h:SqL X.K H a xs):∃ its:List Value,Vals xs its/\PlainL s.heap a its.toArray/\xs.length <= sizeLine:=by
  rcases h with h|⟨o,its,n,hk,hc,hd,hs,hz,r⟩
  . obtain ⟨z,its,n,r,e⟩:=h.ok I.hok
    exact ⟨its,r,⟨_,n,e,rfl,rfl,rfl⟩,z⟩
  . refine ⟨its.toList,r,⟨o,n,I.kIn a o hk,hc,hd,by simpa using hs⟩,?_⟩
    have e:=r.length
    simp only [Array.length_toList] at e
    omega
theorem Inv.tuple (I:Inv X pins σ H s) (h:SqT X.K H a xs):∃ its:List Value,Vals xs its/\IsTup s.heap a its.toArray/\xs.length <= sizeLine:=by
  rcases h with h|⟨o,its,n,hk,hc,hs,hz,r⟩
  . obtain ⟨z,its,r,p⟩:=h.ok I.hok
    exact ⟨its,r,p,z⟩
  . refine ⟨its.toList,r,⟨o,I.kIn a o hk,hc,n,by simpa using hs⟩,?_⟩
    have e:=r.length
    simp only [Array.length_toList] at e
    omega
theorem Inv.list_inj (I:Inv X pins σ H s) (h:SqL X.K H a xs) (h':SqL X.K H a ys):xs=ys:=by
  obtain ⟨its,r,⟨o,n,e,_,_,d⟩,_⟩:=I.list h
  obtain ⟨its',r',⟨o',n',e',_,_,d'⟩,_⟩:=I.list h'
  rw [e] at e'; cases e'
  rw [d] at d'
  injection d' with d1 _
  have:its=its':=by simpa using congrArg Array.toList d1
  subst this
  exact r.inj r'
theorem Inv.tuple_inj (I:Inv X pins σ H s) (h:SqT X.K H a xs) (h':SqT X.K H a ys):xs=ys:=by
  obtain ⟨its,r,⟨o,e,_,n,d⟩,_⟩:=I.tuple h
  obtain ⟨its',r',⟨o',e',_,n',d'⟩,_⟩:=I.tuple h'
  rw [e] at e'; cases e'
  rw [d] at d'
  injection d' with d1 _
  have:its=its':=by simpa using congrArg Array.toList d1
  subst this
  exact r.inj r'
end
noncomputable abbrev Cx.wish (X:Cx) (E:Value->Shared->Prop):Cx:={ X with xe:=E }
noncomputable abbrev Cx.nox (X:Cx):Cx:=X.wish fun _ _=>False
theorem Cx.Ok.wish {X:Cx} (ok:X.Ok) (E:Value->Shared->Prop):(X.wish E).Ok :=
  ⟨ok.mod,ok.kind,ok.glob,ok.blt,ok.above,ok.inj,ok.has,ok.cab,ok.hd,ok.frames,ok.stk,ok.exf,ok.bs,ok.bsz,ok.noex,ok.exfs,ok.funs,ok.frf⟩
theorem Cx.Ok.unwish {X:Cx} {E:Value->Shared->Prop} (ok:(X.wish E).Ok):X.Ok :=
  ⟨ok.mod,ok.kind,ok.glob,ok.blt,ok.above,ok.inj,ok.has,ok.cab,ok.hd,ok.frames,ok.stk,ok.exf,ok.bs,ok.bsz,ok.noex,ok.exfs,ok.funs,ok.frf⟩
section
variable {X:Cx} {pins:List (Addr × Obj)} {σ:St} {H:Hp} {s:Shared} {E:Value->Shared->Prop}
theorem Inv.wish (I:Inv X pins σ H s) (E:Value->Shared->Prop):Inv (X.wish E) pins σ H s:=⟨I.ok.wish E,I.os,I.bare,I.base,I.loc,I.cell,I.free,I.freeC,I.pin,I.hok,I.len⟩
theorem Inv.unwish (I:Inv (X.wish E) pins σ H s):Inv X pins σ H s:=⟨I.ok.unwish,I.os,I.bare,I.base,I.loc,I.cell,I.free,I.freeC,I.pin,I.hok,I.len⟩
theorem SP.unwish {D:Ends} {f:Flow} {s':Shared} (h:SP (X.wish E) pins D f s'):SP X pins D f s':=by
  cases f with
  | next=>obtain ⟨σ',H',I,q⟩:=h; exact ⟨σ',H',I.unwish,q⟩
  | brk=>obtain ⟨σ',H',I,q⟩:=h; exact ⟨σ',H',I.unwish,q⟩
  | cont=>obtain ⟨σ',H',I,q⟩:=h; exact ⟨σ',H',I.unwish,q⟩
  | ret u=>obtain ⟨v,σ',H',I,r,q⟩:=h; exact ⟨v,σ',H',I.unwish,r,q⟩
theorem PE.nox {e:Expr} {t:TE} (h:PE X.nox e t):PE X e t:=fun pins s σ H Q I hw =>
  wpAny_mono (h pins s σ H Q (I.wish _) hw) (fun _ _ ⟨v,H',I',r,q⟩=>⟨v,H',I'.unwish,r,q⟩) fun _ _ z=>False.elim z
theorem PT.nox {e:Expr} {t:TT} (h:PT X.nox e t):PT X e t:=fun pins s σ H Q I hw =>
  wpAny_mono (h pins s σ H Q (I.wish _) hw) (fun _ _ ⟨H',I',q⟩=>⟨H',I'.unwish,q⟩) fun _ _ z=>False.elim z
theorem PSs.nox {st:List Stmt} {t:TS} (h:PSs X.nox st t):PSs X st t:=fun pins s σ H D I hw =>
  wpAny_mono (h pins s σ H D (I.wish _) hw) (fun _ _ q=>q.unwish) fun _ _ z=>False.elim z
end
section
variable {X:Cx} {st:Stmt} {rest:List Stmt} {t u:TS} {e:Expr} {te:TE} {pos:Pos}
noncomputable def tNext:TS:=fun D σ H=>D.nx σ H
noncomputable def tSeq (t u:TS):TS:=fun D σ H=>t { D with nx:=u D } σ H
theorem ZaE:PSs X [] tNext:=fun _ _ σ H _ I h=>wpAny_execs_nil ⟨σ,H,I,h⟩
theorem Zac (h1:PS X st t) (h2:PSs X rest u):PSs X (st :: rest) (tSeq t u):=by
  intro pins s σ H D I h
  refine wpAny_execs_cons (thn (h1 pins s σ H { D with nx:=u D } I h) fun f s1 q=>?_)
  cases f with
  | next =>
    obtain ⟨σ',H',I',q⟩:=q
    exact h2 pins s1 σ' H' D I' q
  | ret v=>exact q
  | brk=>exact q
  | cont=>exact q
theorem Zad (h1:PS X st t):PSs X [st] t:=by
  intro pins s σ H D I h
  refine wpAny_execs_cons (thn (h1 pins s σ H D I h) fun f s1 q=>?_)
  cases f with
  | next=>exact wpAny_execs_nil q
  | ret v=>exact q
  | brk=>exact q
  | cont=>exact q
theorem Zjp:PS X (.Pass pos) tNext:=fun _ _ σ H _ I h=>wpAny_Pass ⟨σ,H,I,h⟩
theorem Inv.quiet {pins:List (Addr × Obj)} {σ:St} {H:Hp} {s:Shared} (I:Inv X pins σ H s):interactive X.env=false:=by simp [interactive,I.ok.kind]
noncomputable def tDrop (te:TE):TS:=fun D σ H=>te σ H fun _ H1=>D.nx σ H1
theorem Zat (he:PE X e te) (hs:swapsWith e none pos.line X.env=pure false:=by rfl):PS X (.Expr e pos) (tDrop te):=by
  intro pins s σ H D I h
  exact wpAny_Expr_any (thn (he pins s σ H _ I h) fun v s1 ⟨x,H1,I1,r1,q1⟩=>⟨σ,H1,I1,q1⟩) I.quiet hs
noncomputable def tRet (te:TE):TS:=fun D σ H=>te σ H D.rt
theorem Zaq (he:PE X e te):PS X (.Return (some e) pos) (tRet te):=by
  intro pins s σ H D I h
  exact wpAny_Return_some (thn (he pins s σ H _ I h) fun v s1 ⟨x,H1,I1,r1,q1⟩=>⟨x,σ,H1,I1,r1,q1⟩)
noncomputable def tRetN:TS:=fun D _ H=>D.rt .non H
theorem Zl8:PS X (.Return none pos) tRetN:=fun _ _ σ H _ I h=>wpAny_Return_none ⟨.non,σ,H,I,rfl,h⟩
noncomputable def tIfS (c:TT) (t u:TS):TS:=fun D σ H=>c σ H fun b H1=>if b=true then t D σ H1 else u D σ H1
theorem Zba {c:Expr} {a b:List Stmt} {tc:TT} (hc:PT X c tc) (ha:PSs X a t) (hb:PSs X b u):PS X (.If c a b pos) (tIfS tc t u):=by
  intro pins s σ H D I h
  refine wpAny_If (thn (hc pins s σ H _ I h) fun d s1 ⟨H1,I1,q1⟩=>?_)
  cases d with
  | true=>exact ha pins s1 σ H1 D I1 q1
  | false=>exact hb pins s1 σ H1 D I1 q1
end
noncomputable abbrev TG:=V->St->Hp->(St->Hp->Prop)->Prop
noncomputable abbrev TGs:=List V->St->Hp->(St->Hp->Prop)->Prop
noncomputable def PG (X:Cx) (target:Expr) (t:TG):Prop :=
  ∀ (pins:List (Addr × Obj)) (s:Shared) (σ:St) (H:Hp) (v:V) (u:Value) (Q:St->Hp->Prop),Inv X pins σ H s->RelV v u->t v σ H Q ->
    wpAny (model X.prog X.w) X.A (assign target X.env u) (fun _ s'=>∃ σ' H',Inv X pins σ' H' s'/\Q σ' H') X.xe s
noncomputable def PGs (X:Cx) (ts:List Expr) (t:TGs):Prop :=
  ∀ (pins:List (Addr × Obj)) (s:Shared) (σ:St) (H:Hp) (vs:List V) (us:List Value) (Q:St->Hp->Prop),Inv X pins σ H s->Vals vs us->t vs σ H Q ->
    wpAny (model X.prog X.w) X.A (assignInOrder ((assignEach ts X.env).map (·.2)) us) (fun _ s'=>∃ σ' H',Inv X pins σ' H' s'/\Q σ' H') X.xe s
noncomputable abbrev TSet:=V->V->V->Hp->(Hp->Prop)->Prop
noncomputable def PSet (X:Cx) (t:TSet):Prop :=
  ∀ (pins:List (Addr × Obj)) (s:Shared) (σ:St) (H:Hp) (o i v:V) (ov iv u:Value) (Q:Hp->Prop),Inv X pins σ H s->RelV o ov->RelV i iv->RelV v u->t o i v H Q ->
    wpAny (model X.prog X.w) X.A (setItem ov iv u) (fun _ s'=>∃ H',Inv X pins σ H' s'/\Q H') X.xe s
noncomputable abbrev TIp:=V->V->Hp->VK->Prop
section
variable {X:Cx} {pos:Pos}
noncomputable def gName (i:Nat):TG:=fun v σ H Q=>Q (σ.set i (some v)) H
theorem Zbr {i:Nat} {x:Str} (hN:X.N.Nodup) (hi:X.N[i]?=some x) (hx:Loc X.env.scope x) (hf:X.fn x=true\/X.env.scope.names.lookup x=some .local:=by first|exact .inl rfl|exact .inr rfl|assumption):PG X (.Name x pos) (gName i):=by
  intro pins s σ H v u Q I r h
  exact wpAny_assign_Name (Zij I hN hi hx r (fun s' I'=>⟨_,H,I',h⟩) hf)
noncomputable def gNil:TGs:=fun vs σ H Q=>vs=[]/\Q σ H
noncomputable def gCons (t:TG) (u:TGs):TGs:=fun vs σ H Q=>∃ v r,vs=v :: r/\t v σ H fun σ' H'=>u r σ' H' Q
theorem Zl9:PGs X [] gNil:=by
  intro pins s σ H vs us Q I r h
  obtain ⟨e,h⟩:=h
  subst e
  cases r
  exact assignInOrder_nil ⟨σ,H,I,h⟩
theorem Zd2 {e:Expr} {es:List Expr} {t:TG} {u:TGs} (h1:PG X e t) (h2:PGs X es u)
    (hs:(assignEach (e :: es) X.env).map (·.2)=assign e X.env :: (assignEach es X.env).map (·.2):=by rfl):PGs X (e :: es) (gCons t u):=by
  intro pins s σ H vs us Q I r h
  obtain ⟨v,vr,e1,h⟩:=h
  subst e1
  cases r with
  | cons r rr =>
    rw [hs]
    refine assignInOrder_cons (thn (h1 pins s σ H _ _ _ I r h) fun _ s1 ⟨σ1,H1,I1,q1⟩=>?_)
    exact h2 pins s1 σ1 H1 _ _ Q I1 rr q1
noncomputable def gTup (K:PySem.W.Frag) (n:Nat) (t:TGs):TG:=fun v σ H Q=>∃ a xs,v=.ref a/\SqT K H a xs/\xs.length=n/\t xs σ H Q
theorem pg_tup {es:List Expr} {k:Nat} {t:TGs} {n:Nat} (hc:X.calm=true) (h:PGs X es t)
    (hn:(assignEach es X.env).length=n:=by rfl) (hst:(assignEach es X.env).findIdx? (·.1)=none:=by rfl):PG X (.Tuple es k pos) (gTup X.K n t):=by
  intro pins s σ H v u Q I r hw
  obtain ⟨a,xs,e1,hq,hl,hw⟩:=hw
  subst e1
  cases r
  obtain ⟨its,rv,ht,hz⟩:=I.tuple hq
  refine assign_Tuple_tuple (I.ok.hd hc) ht (by simp [hn,<- hl,rv.length]) hst fun h' hx=>?_
  have I1:Inv X pins σ H { s with heap:=h' }:=I.kept (t':=s.toks) fun b o e=>hx b o (Nat.ne_of_lt (Heap.lt_size e)) e
  exact h pins _ σ H xs _ Q I1 (by simpa using rv) hw
noncomputable def gSub (to ti:TE) (t:TSet):TG:=fun v σ H Q=>to σ H fun o H1=>ti σ H1 fun i H2=>t o i v H2 fun H3=>Q σ H3
theorem Zik {o i:Expr} {to ti:TE} {t:TSet} (ho:PE X o to) (hi:PE X i ti) (hs:PSet X t)
    (ha:∀ v,assign (.Subscript o i pos) X.env v=(do
      let ov <- holding [v] (eval o X.env)
      let iv <- holding [v,ov] (eval i X.env)
      standAt pos
      holding [v,ov,iv] (setItem ov iv v)
      release [v,ov,iv] []):=by intro _; rfl):PG X (.Subscript o i pos) (gSub to ti t):=by
  intro pins s σ H v u Q I r h
  rw [ha]
  refine wpAny_bind (wpAny_holding (thn (ho pins s σ H _ I h) fun ov s1 ⟨x,H1,I1,r1,q1⟩=>?_))
  refine wpAny_bind (wpAny_holding (thn (hi pins s1 σ H1 _ I1 q1) fun iv s2 ⟨y,H2,I2,r2,q2⟩=>?_))
  refine wpAny_bind (wpAny_standAt (wpAny_bind (wpAny_holding (thn (hs pins s2 σ H2 x y v ov iv u _ I2 r1 r2 r q2) fun _ s3 ⟨H3,I3,q3⟩=>?_))))
  exact wpAny_release ⟨σ,H3,I3,q3⟩
noncomputable def tAsg (te:TE) (g:TG):TS:=fun D σ H=>te σ H fun x H1=>g x σ H1 D.nx
theorem Zgd {tg e:Expr} {te:TE} {g:TG} (he:PE X e te) (hg:PG X tg g) (hs:swapsWithSole [tg] e pos.line X.env=pure false:=by rfl) (hw:swappedStores [tg] e X.env=pure none:=by rfl)
    (h1:(assignEach [tg] X.env).map (·.2)=[assign tg X.env]:=by rfl):PS X (.Assign [tg] e pos) (tAsg te g):=by
  intro pins s σ H D I h
  refine wpAny_Assign_stores (thn (he pins s σ H _ I h) fun v s1 ⟨x,H1,I1,r1,q1⟩=>?_) hs hw
  rw [h1]
  exact thn (hg pins s1 σ H1 x v _ I1 r1 q1) fun _ s2 q=>q
theorem Zax {i:Nat} {x:Str} {e:Expr} {te:TE} {pos':Pos} (hN:X.N.Nodup) (hi:X.N[i]?=some x) (hx:Loc X.env.scope x) (he:PE X e te) (hs:swapsWith e (some (.Name x pos')) pos.line X.env=pure false:=by rfl) (hf:X.fn x=true\/X.env.scope.names.lookup x=some .local:=by first|exact .inl rfl|exact .inr rfl|assumption) :
    PS X (.Assign [.Name x pos'] e pos) (tAsg te (gName i)):=by
  intro pins s σ H D I h
  refine wpAny_Assign_Name (thn (he pins s σ H _ I h) fun v s1 ⟨y,H1,I1,r1,q1⟩=>?_) hs
  exact Zij I1 hN hi hx r1 (fun s2 I2=>⟨_,H1,I2,q1⟩) hf
end
section
variable {X:Cx} {pos:Pos}
noncomputable def tWhile (c:TT) (tb:TS):TS:=fun D σ H=>∃ W:Nat->St->Hp->Prop,(∃ m,W m σ H)/\∀ m σ H,W m σ H ->
  c σ H fun b H1=>if b=true then ∃ N:St->Hp->Prop,(∀ σ' H',N σ' H'->∃ m',m' < m/\W m' σ' H')/\tb { D with nx:=N,ct:=N,bk:=D.nx } σ H1 else D.nx σ H1
theorem Zil {c:Expr} {body:List Stmt} {tc:TT} {tb:TS} (hp:PassesOwn (model X.prog X.w) X.A X.env X.xe) (hc:PT X c tc) (hb:PSs X body tb):PS X (.While c body [] pos) (tWhile tc tb):=by
  intro pins s σ H D I h
  obtain ⟨W,⟨m0,w0⟩,turn⟩:=h
  refine wpAny_While (codeAny_whileLoop (fun n s'=>∃ σ' H',Inv X pins σ' H' s'/\W n σ' H') ?_ m0 ⟨σ,H,I,w0⟩)
  rintro n s1 ⟨σ1,H1,I1,w1⟩
  refine wpAny_passesOwn hp (thn (hc pins s1 σ1 H1 _ I1 (turn n σ1 H1 w1)) fun b s2 ⟨H2,I2,q2⟩=>?_)
  cases b with
  | true =>
    obtain ⟨N,hN,q2⟩:=q2
    rw [if_pos rfl]
    refine wpAny_passesOwn hp (thn (hb pins s2 σ1 H2 _ I2 q2) fun f s3 q3=>?_)
    cases f with
    | next =>
      obtain ⟨σ3,H3,I3,n3⟩:=q3
      obtain ⟨m',hm,w3⟩:=hN σ3 H3 n3
      exact ⟨m',hm,σ3,H3,I3,w3⟩
    | cont =>
      obtain ⟨σ3,H3,I3,n3⟩:=q3
      obtain ⟨m',hm,w3⟩:=hN σ3 H3 n3
      exact ⟨m',hm,σ3,H3,I3,w3⟩
    | brk=>exact q3
    | ret v=>exact q3
  | false =>
    rw [if_neg Bool.false_ne_true]
    exact wpAny_execs_nil ⟨σ1,H2,I2,q2⟩
end
structure It where
  go:Nat->Hp->Prop
  yld:Nat->Hp->V->Hp->Prop
  stop:Nat->Hp->Prop
noncomputable def FpOk (X:Cx) (pins:List (Addr × Obj)) (H:Hp) (b:Addr):Prop :=
  H b=none/\b ≠ X.env.locals/\b ∉ X.fs/\(b ∈ X.ex\/X.s₀.heap.objs.size <= b)/\(∀ x c,X.env.cells.lookup x=some c->c ≠ b)/\∀ p ∈ X.pn ++ pins,p.1 ≠ b
theorem Inv.fpOk {X:Cx} {pins:List (Addr × Obj)} {σ:St} {H H':Hp} {s:Shared} {b:Addr} (I:Inv X pins σ H s) (hb:s.heap.objs.size <= b) (hn:H' b=none):FpOk X pins H' b:=by
  refine ⟨hn,Nat.ne_of_gt (Nat.lt_of_lt_of_le I.lt hb),I.nofs hb,.inr (Nat.le_trans I.sz hb),fun x c e z=>?_,fun p hp z=>?_⟩
  . obtain ⟨v,q⟩:=I.cell x c e
    exact absurd (Nat.lt_of_lt_of_le q.lt (by rw [z]; exact hb)) (Nat.lt_irrefl _)
  . exact absurd (Nat.lt_of_lt_of_le (Heap.lt_size (I.pin p hp).1) (by rw [z]; exact hb)) (Nat.lt_irrefl _)
structure Turn (P:Program) (w:World) (K:PySem.W.Frag) (tg:Expr) (J:It) (fp:List Addr) (it:Addr) (tn:Nat->Heap->Prop):Prop where
  mem:it ∈ fp
  obj:∀ i h,tn i h->∀ b ∈ fp,∃ o,h.get? b=some o/\∀ v,o.data ≠ .cell v
  keep:∀ i h h',tn i h->(∀ b ∈ fp,∀ o,h.get? b=some o->h'.get? b=some o)->tn i h'
  item:∀ (X:Cx),X.prog=P->X.w=w->X.K=K->X.calm=true->∀ (i:Nat) (pins:List (Addr × Obj)) (s:Shared) (σ:St) (H:Hp) (E:Value->Shared->Prop),Inv X pins σ H s->(∀ b ∈ fp,FpOk X pins H b)->tn i s.heap->J.go i H ->
    wpAny (model P w) X.A (pyNext (.ref it)) (fun r s1=>∃ u,r=some u /\
      wpAny (model P w) X.A (letOwnedTupleGo tg (.ref it) u) (fun _ s2=>∃ x H',Inv X pins σ H' s2/\RelV x u/\J.yld i H x H'/\tn (i + 1) s2.heap/\∀ b ∈ fp,H' b=none) E s1) E s
  done:∀ (X:Cx),X.prog=P->X.w=w->X.K=K->X.calm=true->∀ (i:Nat) (pins:List (Addr × Obj)) (s:Shared) (σ:St) (H:Hp) (E:Value->Shared->Prop),Inv X pins σ H s->(∀ b ∈ fp,FpOk X pins H b)->tn i s.heap->J.stop i H ->
    wpAny (model P w) X.A (pyNext (.ref it)) (fun r s1=>r=none/\Inv X pins σ H s1) E s
  self:∀ (A:Around) (i:Nat) (s:Shared) (Q:Value->Shared->Prop) (E:Value->Shared->Prop),tn i s.heap->Q (.ref it) s->wpAny (model P w) A (pyIter (.ref it)) Q E s
noncomputable abbrev TI:=St->Hp->(It->Hp->Prop)->Prop
noncomputable def PIE (X:Cx) (pins:List (Addr × Obj)) (σ:St) (tg:Expr) (R:It->Hp->Prop) (itv:Value) (s2:Shared):Prop :=
  ∃ (it:Addr) (fp:List Addr) (tn:Nat->Heap->Prop) (J:It) (H':Hp),itv=.ref it/\Inv X pins σ H' s2/\Turn X.prog X.w X.K tg J fp it tn/\tn 0 s2.heap/\(∀ b ∈ fp,FpOk X pins H' b)/\R J H'
noncomputable def PI (X:Cx) (tg iter:Expr) (wi:TI):Prop :=
  ∀ (pins:List (Addr × Obj)) (s:Shared) (σ:St) (H:Hp) (R:It->Hp->Prop),Inv X pins σ H s->wi σ H R ->
    wpAny (model X.prog X.w) X.A (eval iter X.env) (fun v s1=>wpAny (model X.prog X.w) X.A (pyIter v) (PIE X pins σ tg R) X.xe s1) X.xe s
theorem go_of {M:Model} {A:Around} {E:Value->Shared->Prop} {s:Shared} {tg:Expr} {it:Addr} {u:Value} {o:Obj} {n:String} {vs:Array Value} {Q:Unit->Shared->Prop} (ho:s.heap.get? it=some o) (hc:o.cls=.type n) (hd:o.data=.fields vs)
    (hn:["enumerate", "zip", "dict_itemiterator", "dict_reverseitemiterator", "odict_iterator", "itertools.zip_longest", "itertools.pairwise"].contains n=false) (hQ:Q () s):wpAny M A (letOwnedTupleGo tg (.ref it) u) Q E s:=by
  unfold letOwnedTupleGo
  cases tg <;> first
    | exact wpAny_pure hQ
    | (cases u <;> first
        | exact wpAny_pure hQ
        | (refine wpAny_bind (wpAny_load ho ?_)
           rw [hc,hd]
           show wpAny M A (if (["enumerate", "zip", "dict_itemiterator", "dict_reverseitemiterator", "odict_iterator", "itertools.zip_longest", "itertools.pairwise"].contains n && vs[0]? == some (rawInt _))=true then _ else _) Q E s
           rw [if_neg (by intro h; rw [hn,Bool.false_and] at h; cases h)]
           exact wpAny_pure hQ))
noncomputable def Itl (K:PySem.W.Frag) (a:Addr):It :=
  ⟨fun i H=>∃ xs x,SqL K H a xs/\xs[i]?=some x,fun i H x H'=>H'=H/\∀ xs,SqL K H a xs->xs[i]?=some x,fun i H=>∃ xs,SqL K H a xs/\xs.length <= i⟩
noncomputable def Itr (lo:Int) (n:Nat):It:=⟨fun i _=>i < n,fun i H x H'=>H'=H/\x=.int (lo + i),fun i _=>n <= i⟩
theorem Zjq {P:Program} {w:World} {K:PySem.W.Frag} {tg:Expr} (a it:Addr):Turn P w K tg (Itl K a) [it] it (fun i h=>h.IsListIter it a i) where
  mem:=by simp
  obj:=fun i h st b hb=>by
    have e:b=it:=by simpa using hb
    subst e
    obtain ⟨o,e,c,d⟩:=st
    exact ⟨o,e,fun v z=>by rw [d] at z; cases z⟩
  keep:=fun i h h' st k=>st.at fun o e=>k it (by simp) o e
  item:=by
    intro X hP hw hK hc i pins s σ H E I hf st hg
    subst hP hw hK
    obtain ⟨xs,x,hq,hx⟩:=hg
    obtain ⟨its,rv,p,hz⟩:=I.list hq
    obtain ⟨u,hu,ru⟩:=rv.get hx
    obtain ⟨f0,f1,f2,f3,f4,f5⟩:=hf it (by simp)
    refine wpAny_pyNext_list_item st p.isList (x:=u) (by simpa using hu) fun h' st' sb=>?_
    have I1:Inv X pins σ H { s with heap:=h' }:=I.turned (t':=s.toks) (fun b o hb e=>(sb.2 b hb).trans e) f0 f1 f3 f4 f5
    obtain ⟨o,e,c,d⟩:=id st'
    exact ⟨u,rfl,go_of (s:={ s with heap:=h' }) e c d (by decide) ⟨x,H,I1,ru,⟨rfl,fun ys hy=>by rw [I.list_inj hy hq]; exact hx⟩,st',fun b hb=>(hf b hb).1⟩⟩
  done:=by
    intro X hP hw hK hc i pins s σ H E I hf st hg
    subst hP hw hK
    obtain ⟨xs,hq,hx⟩:=hg
    obtain ⟨its,rv,p,hz⟩:=I.list hq
    obtain ⟨f0,f1,f2,f3,f4,f5⟩:=hf it (by simp)
    have hl:=rv.length
    exact wpAny_pyNext_list_end (I.ok.hd hc) st p.isList (by simp; omega) fun h' eb=>⟨rfl,I.turned (t':=s.toks) (fun b o hb e=>eb b o hb e) f0 f1 f3 f4 f5⟩
  self:=fun _ _ _ _ _ st h=>wpAny_pyIter_listiter st h
theorem ZiR {P:Program} {w:World} {K:PySem.W.Frag} {tg:Expr} (it:Addr) (lo:Int) (n:Nat):Turn P w K tg (Itr lo n) [it] it (fun i h=>IsRangeIter h it (lo + (i:Nat) * 1) ((n:Int) - (i:Nat)) 1) where
  mem:=by simp
  obj:=fun i h st b hb=>by
    have e:b=it:=by simpa using hb
    subst e
    exact ⟨_,st,fun v z=>by
      have z':Data.fields _=Data.cell v:=z
      cases z'⟩
  keep:=fun i h h' st k=>k it (by simp) _ st
  item:=by
    intro X hP hw hK hc i pins s σ H E I hf st hg
    subst hP hw hK
    obtain ⟨f0,f1,f2,f3,f4,f5⟩:=hf it (by simp)
    have W:=Walks.range (prog:=X.prog) (w:=X.w) (I.ok.hd hc) it lo 1 n
    refine W.item i s _ _ hg st fun v h' tk hv st' kk=>?_
    obtain ⟨t,rfl⟩:=hv
    have I1:Inv X pins σ H { s with heap:=h',toks:=tk }:=I.turned (fun b o hb e=>kk b o (by simpa using hb) e) f0 f1 f3 f4 f5
    refine ⟨_,rfl,go_of (s:={ s with heap:=h',toks:=tk }) (n := "range_iterator") st' rfl rfl (by decide) ⟨.int (lo + i),H,I1,⟨t,?_⟩,⟨rfl,rfl⟩,st',fun b hb=>(hf b hb).1⟩⟩
    rw [Int.mul_one]
  done:=by
    intro X hP hw hK hc i pins s σ H E I hf st hg
    subst hP hw hK
    obtain ⟨f0,f1,f2,f3,f4,f5⟩:=hf it (by simp)
    exact wpAny_pyNext_range_end (I.ok.hd hc) st (by have:n <= i:=hg; omega) fun h' eb=>⟨rfl,I.turned (t':=s.toks) (fun b o hb e=>eb b o hb e) f0 f1 f3 f4 f5⟩
  self:=fun _ _ _ _ _ st h=>wpAny_pyIter_rangeiter st h
end L2
namespace L2
open PySem PySem.Spec PyProof.Rows
section
variable {X:Cx} {tg:Expr}
noncomputable def iList (K:PySem.W.Frag) (tl:TE):TI:=fun σ H R=>tl σ H fun x H1=>∃ a,x=.ref a/\(∃ xs,SqL K H1 a xs)/\R (Itl K a) H1
theorem ZcP {l:Expr} {tl:TE} (hl:PE X l tl):PI X tg l (iList X.K tl):=by
  intro pins s σ H R I h
  refine thn (hl pins s σ H _ I h) fun v s1 ⟨x,H1,I1,r1,q1⟩=>?_
  obtain ⟨a,e,⟨xs,hq⟩,q⟩:=q1
  subst e
  cases r1
  obtain ⟨its,rv,p,hz⟩:=I1.list hq
  refine wpAny_pyIter_list p.isList ?_
  refine ⟨s1.heap.objs.size,[s1.heap.objs.size],_,_,H1,rfl,I1.kept (t':=s1.toks) fun b o e=>Heap.get?_push_of_some _ e,Zjq a _,⟨_,Heap.get?_push_size _ rfl,rfl,rfl⟩,fun b hb=>?_,q⟩
  have e:b=s1.heap.objs.size:=by simpa using hb
  subst e
  exact I1.fpOk (Nat.le_refl _) (I1.hok.fresh (Nat.le_refl _))
theorem ZkP {pins:List (Addr × Obj)} {σ:St} {H:Hp} {s:Shared} {R:It->Hp->Prop} {E:Value->Shared->Prop} {lo hi:Int} {t u v:Tok} {tk:Nat} (I:Inv X pins σ H s) (h1:-(2 ^ 62) <= lo) (h2:lo < 2 ^ 62) (h3:-(2 ^ 62) <= hi) (h4:hi < 2 ^ 62)
    (q:R (Itr lo (hi - lo).toNat) H):wpAny (model X.prog X.w) X.A (pyIter (.ref s.heap.objs.size)) (PIE X pins σ tg R) E { s with heap:=s.heap.push { cls:=.type "range", data:=.fields #[.int lo t,.int hi u,.int 1 v] },toks:=tk }:=by
  refine wpAny_pyIter_range (IsRange.new ..) (small_one h1 h2 h3 h4) ?_
  have I1:Inv X pins σ H { s with heap:=s.heap.push { cls:=.type "range", data:=.fields #[.int lo t,.int hi u,.int 1 v] },toks:=tk }:=I.kept fun b o e=>Heap.get?_push_of_some _ e
  refine ⟨(s.heap.push { cls:=.type "range", data:=.fields #[.int lo t,.int hi u,.int 1 v] }).objs.size,[(s.heap.push { cls:=.type "range", data:=.fields #[.int lo t,.int hi u,.int 1 v] }).objs.size],_,_,H,rfl,
    I1.kept (t':=tk) fun b o e=>Heap.get?_push_of_some _ e,ZiR _ lo (hi - lo).toNat,?_,fun b hb=>?_,q⟩
  . have e1:lo + ((0:Nat):Int) * 1=lo:=by simp
    have e2:(((hi - lo).toNat:Nat):Int) - ((0:Nat):Int)=Builtin.Range.rangeSize lo hi 1:=by rw [rangeSize_one]; split <;> omega
    show IsRangeIter _ _ (lo + ((0:Nat):Int) * 1) ((((hi - lo).toNat:Nat):Int) - ((0:Nat):Int)) 1
    rw [e1,e2]
    exact Heap.get?_push_size _ rfl
  . have e:b=(s.heap.push { cls:=.type "range", data:=.fields #[.int lo t,.int hi u,.int 1 v] }).objs.size:=by simpa using hb
    subst e
    exact I1.fpOk (Nat.le_refl _) (I1.hok.fresh (Nat.le_refl _))
noncomputable def iRng1 (ta:TA):TI:=fun σ H R=>ta σ H fun vs H1=>∃ j:Int,vs=[.int j]/\-(2 ^ 62) <= j/\j < 2 ^ 62/\R (Itr 0 j.toNat) H1
theorem Zc6 {a:Expr} {ta:TA} {p pos:Pos} (hg:Gl X "range") (hm:X.mg "range" = none) (ha:PA X [a] ta) (hs:starEach [a] X.env=[(false,eval a X.env)]:=by rfl):PI X tg (.Call (.Name "range" p) [a] [] pos) (iRng1 ta):=by
  intro pins s σ H R I h
  refine Call_ (Ze2 I hg hm boot_range (PyProof.Rows.callWith_type1 (thn (ha pos pins s σ H _ I h) fun us s1 ⟨vs,H1,I1,r1,q1⟩=>?_) hs rfl))
  obtain ⟨j,e,q1,q2,q⟩:=q1
  subst e
  cases r1 with
  | cons r rr =>
    cases rr
    obtain ⟨t,rfl⟩:=r
    exact call_range_1 (ZkP I1 (by omega) (by omega) q1 q2 (by simpa using q))
noncomputable def tFor (wi:TI) (g:TG) (tb:TS):TS:=fun D σ H=>wi σ H fun J H1=>∃ W:Nat->Nat->St->Hp->Prop,(∃ m,W 0 m σ H1)/\∀ i m σ H,W i m σ H ->
  (J.stop i H/\D.nx σ H)\/(J.go i H/\∃ N:St->Hp->Prop,(∀ σ' H',N σ' H'->∃ m',m' < m/\W (i + 1) m' σ' H')/\∀ x H',J.yld i H x H'->g x σ H' fun σ2 H2=>tb { D with nx:=N,ct:=N,bk:=D.nx } σ2 H2)
noncomputable def pinsAt (fp:List Addr) (h:Heap):List (Addr × Obj):=fp.filterMap fun b=>(h.get? b).map fun o=>(b,o)
theorem ZcD {fp:List Addr} {h:Heap} {b:Addr} {o:Obj} (hb:b ∈ fp) (e:h.get? b=some o):(b,o) ∈ pinsAt fp h:=List.mem_filterMap.mpr ⟨b,hb,by rw [e]; rfl⟩
theorem Zjr {fp:List Addr} {h:Heap} {p:Addr × Obj} (hp:p ∈ pinsAt fp h):p.1 ∈ fp/\h.get? p.1=some p.2:=by
  obtain ⟨b,hb,e⟩:=List.mem_filterMap.mp hp
  cases q:h.get? b with
  | none=>rw [q] at e; cases e
  | some o =>
    rw [q] at e
    have e':(b,o)=p:=Option.some.inj e
    subst e'
    exact ⟨hb,q⟩
theorem Inv.pinned {pins:List (Addr × Obj)} {σ:St} {H:Hp} {s:Shared} {fp:List Addr} (I:Inv X pins σ H s) (hf:∀ b ∈ fp,FpOk X pins H b) (ho:∀ b ∈ fp,∃ o,s.heap.get? b=some o/\∀ v,o.data ≠ .cell v):Inv X (pins ++ pinsAt fp s.heap) σ H s :=
  I.pins_of fun p hp=>(List.mem_append.mp hp).elim (fun z=>I.pin p (List.mem_append_right _ z)) fun z=>by
    obtain ⟨hb,e⟩:=Zjr z
    obtain ⟨f0,f1,f2,_⟩:=hf p.1 hb
    obtain ⟨o,e',d⟩:=ho p.1 hb
    rw [e] at e'; cases e'
    exact ⟨e,f0,f1,f2,d⟩
theorem Inv.unpinned {pins pl:List (Addr × Obj)} {σ:St} {H:Hp} {s:Shared} (I:Inv X (pins ++ pl) σ H s):Inv X pins σ H s:=I.pins_of fun p hp=>I.pin p (List.mem_append_right _ (List.mem_append_left _ hp))
theorem Zea {iter:Expr} {body:List Stmt} {wi:TI} {g:TG} {tb:TS} {pos:Pos} (hp:PassesOwn (model X.prog X.w) X.A X.env X.xe) (hc:X.calm=true) (hi:PI X tg iter wi) (hg:PG X tg g) (hb:PSs X body tb)
    (hs:∀ x,foldedSetIterable iter X.env x=pure x:=by intro _; rfl):PS X (.For tg iter body [] pos) (tFor wi g tb):=by
  intro pins s σ H D I h
  refine wpAny_For (thn (hi pins s σ H _ I h) fun v s1 h1=>thn h1 fun itv s2 h2=>?_) hs
  obtain ⟨it,fp,tn,J,H2,e,I2,T,st2,f2,W,⟨m0,w0⟩,turn⟩:=h2
  subst e
  have stat:∀ {H':Hp},(∀ b ∈ fp,H' b=none)->∀ b ∈ fp,FpOk X pins H' b:=fun hn b hb=>⟨hn b hb,(f2 b hb).2⟩
  refine codeAny_forLoop_any (fun n s'=>∃ i σ' H',Inv X pins σ' H' s'/\tn i s'.heap/\(∀ b ∈ fp,H' b=none)/\W i n σ' H') ?_ m0 ⟨0,σ,H2,I2,st2,fun b hb=>(f2 b hb).1,w0⟩
  rintro n s3 ⟨i,σ3,H3,I3,st3,fr3,w3⟩
  rcases turn i n σ3 H3 w3 with ⟨stop,qn⟩|⟨go,N,hN,step⟩
  . refine wpAny_passesOwn hp (thn (T.done X rfl rfl rfl hc i pins s3 σ3 H3 X.xe I3 (stat fr3) st3 stop) fun r s4 ⟨hr,I4⟩=>?_)
    subst hr
    exact wpAny_execs_nil ⟨σ3,H3,I4,qn⟩
  . refine wpAny_passesOwn hp (thn (T.item X rfl rfl rfl hc i pins s3 σ3 H3 X.xe I3 (stat fr3) st3 go) fun r s4 ⟨u,hr,h4⟩=>?_)
    subst hr
    refine wpAny_passesOwn hp (thn h4 fun _ s5 ⟨x,H5,I5,r5,y5,st5,fr5⟩=>?_)
    have I5':=I5.pinned (stat fr5) (T.obj _ _ st5)
    refine wpAny_passesOwn hp (thn (hg _ s5 σ3 H5 x u _ I5' r5 (step x H5 y5)) fun _ s6 ⟨σ6,H6,I6,q6⟩=>?_)
    refine wpAny_passesOwn hp (thn (hb _ s6 σ6 H6 _ I6 q6) fun f s7 q7=>?_)
    have again:∀ {σ7:St} {H7:Hp},Inv X (pins ++ pinsAt fp s5.heap) σ7 H7 s7->N σ7 H7->∃ m,m < n/\∃ i σ' H',Inv X pins σ' H' s7/\tn i s7.heap/\(∀ b ∈ fp,H' b=none)/\W i m σ' H':=fun {σ7 H7} I7 n7=>by
      obtain ⟨m',hm,w7⟩:=hN σ7 H7 n7
      refine ⟨m',hm,i + 1,σ7,H7,I7.unpinned,T.keep _ _ _ st5 fun b hb o e=>(I7.pin (b,o) (List.mem_append_right _ (List.mem_append_right _ (ZcD hb e)))).1,fun b hb=>?_,w7⟩
      obtain ⟨o,e,d⟩:=T.obj _ _ st5 b hb
      exact (I7.pin (b,o) (List.mem_append_right _ (List.mem_append_right _ (ZcD hb e)))).2.1
    cases f with
    | next=>obtain ⟨σ7,H7,I7,n7⟩:=q7; exact again I7 n7
    | cont=>obtain ⟨σ7,H7,I7,n7⟩:=q7; exact again I7 n7
    | brk=>obtain ⟨σ7,H7,I7,q7⟩:=q7; exact ⟨σ7,H7,I7.unpinned,q7⟩
    | ret v=>obtain ⟨x7,σ7,H7,I7,r7,q7⟩:=q7; exact ⟨x7,σ7,H7,I7.unpinned,r7,q7⟩
end
theorem Zd3 {K:PySem.W.Frag} {a:Addr} {xs:List V} {g:TG} {tb:TS} {D:Ends} {σ:St} {H:Hp} (Pv:Nat->St->Hp->Prop) (h0:Pv 0 σ H) (hl:∀ i σ H,i <= xs.length->Pv i σ H->SqL K H a xs)
    (hs:∀ i x σ H,xs[i]?=some x->Pv i σ H->g x σ H fun σ2 H2=>tb { D with nx:=Pv (i + 1),ct:=Pv (i + 1),bk:=D.nx } σ2 H2) (hd:∀ σ H,Pv xs.length σ H->D.nx σ H) :
    ∃ W:Nat->Nat->St->Hp->Prop,(∃ m,W 0 m σ H)/\∀ i m σ H,W i m σ H ->
      ((Itl K a).stop i H/\D.nx σ H)\/((Itl K a).go i H/\∃ N:St->Hp->Prop,(∀ σ' H',N σ' H'->∃ m',m' < m/\W (i + 1) m' σ' H')/\∀ x H',(Itl K a).yld i H x H'->g x σ H' fun σ2 H2=>tb { D with nx:=N,ct:=N,bk:=D.nx } σ2 H2):=by
  refine ⟨fun i m σ H=>m=xs.length - i/\i <= xs.length/\Pv i σ H,⟨xs.length,by simp,Nat.zero_le _,h0⟩,?_⟩
  rintro i m σ H ⟨rfl,hi,p⟩
  have q:=hl i σ H hi p
  by_cases hlt:i < xs.length
  . refine .inr ⟨⟨xs,xs[i],q,by simp [hlt]⟩,Pv (i + 1),fun σ' H' p'=>⟨xs.length - (i + 1),by omega,rfl,hlt,p'⟩,fun x H' y=>?_⟩
    obtain ⟨e,y⟩:=y
    subst e
    exact hs i x σ _ (y xs q) p
  . have e:i=xs.length:=by omega
    subst e
    exact .inl ⟨⟨xs,q,Nat.le_refl _⟩,hd σ H p⟩
theorem Zc7 {lo:Int} {n:Nat} {g:TG} {tb:TS} {D:Ends} {σ:St} {H:Hp} (Pv:Nat->St->Hp->Prop) (h0:Pv 0 σ H)
    (hs:∀ i σ H,i < n->Pv i σ H->g (.int (lo + i)) σ H fun σ2 H2=>tb { D with nx:=Pv (i + 1),ct:=Pv (i + 1),bk:=D.nx } σ2 H2) (hd:∀ σ H,Pv n σ H->D.nx σ H) :
    ∃ W:Nat->Nat->St->Hp->Prop,(∃ m,W 0 m σ H)/\∀ i m σ H,W i m σ H ->
      ((Itr lo n).stop i H/\D.nx σ H)\/((Itr lo n).go i H/\∃ N:St->Hp->Prop,(∀ σ' H',N σ' H'->∃ m',m' < m/\W (i + 1) m' σ' H')/\∀ x H',(Itr lo n).yld i H x H'->g x σ H' fun σ2 H2=>tb { D with nx:=N,ct:=N,bk:=D.nx } σ2 H2):=by
  refine ⟨fun i m σ H=>m=n - i/\i <= n/\Pv i σ H,⟨n,by simp,Nat.zero_le _,h0⟩,?_⟩
  rintro i m σ H ⟨rfl,hi,p⟩
  by_cases hlt:i < n
  . refine .inr ⟨hlt,Pv (i + 1),fun σ' H' p'=>⟨n - (i + 1),by omega,rfl,hlt,p'⟩,fun x H' y=>?_⟩
    obtain ⟨e,y⟩:=y
    subst e y
    exact hs i σ _ hlt p
  . have e:i=n:=by omega
    subst e
    exact .inl ⟨Nat.le_refl _,hd σ H p⟩
end L2
namespace L2
open PySem PySem.Spec PyProof.Rows
noncomputable abbrev R2:=V->V->Hp->VK->Prop
noncomputable def OpR (X:Cx) (f:Value->Value->Sem Value) (r:R2):Prop :=
  ∀ (pins:List (Addr × Obj)) (s:Shared) (σ:St) (H:Hp) (x y:V) (v u:Value) (Q:VK),Inv X pins σ H s->RelV x v->RelV y u->r x y H Q ->
    wpAny (model X.prog X.w) X.A (f v u) (EP X pins σ Q) X.xe s
noncomputable def UnR (X:Cx) (f:Value->Sem Value) (r:V->Hp->VK->Prop):Prop :=
  ∀ (pins:List (Addr × Obj)) (s:Shared) (σ:St) (H:Hp) (x:V) (v:Value) (Q:VK),Inv X pins σ H s->RelV x v->r x H Q ->
    wpAny (model X.prog X.w) X.A (f v) (EP X pins σ Q) X.xe s
noncomputable def CallR (X:Cx) (f:Value) (r:List V->Hp->VK->Prop):Prop :=
  ∀ (pins:List (Addr × Obj)) (s:Shared) (σ:St) (H:Hp) (xs:List V) (us:List Value) (Q:VK),Inv X pins σ H s->Vals xs us->r xs H Q ->
    wpAny (model X.prog X.w) X.A (call f us) (EP X pins σ Q) X.xe s
noncomputable def tOp (r:R2) (ta tb:TE):TE:=fun σ H Q=>ta σ H fun x H1=>tb σ H1 fun y H2=>r x y H2 Q
noncomputable def tUn (r:V->Hp->VK->Prop) (ta:TE):TE:=fun σ H Q=>ta σ H fun x H1=>r x H1 Q
noncomputable def rI (C:Int->Int->Prop) (g:Int->Int->V):R2:=fun x y H Q=>∃ i j,x=.int i/\y=.int j/\C i j/\Q (g i j) H
noncomputable def rI0 (g:Int->Int->V):R2:=fun x y H Q=>∃ i j,x=.int i/\y=.int j/\Q (g i j) H
noncomputable def rU (g:Int->V):V->Hp->VK->Prop:=fun x H Q=>∃ i,x=.int i/\Q (g i) H
section
variable {X:Cx} {a b c:Expr} {ta tb tc:TE} {pos:Pos}
theorem binT (ha:PE X a ta) (hb:PE X b tb) {pins:List (Addr × Obj)} {s:Shared} {σ:St} {H:Hp} {R:V->V->Hp->Prop} (I:Inv X pins σ H s)
    (h:ta σ H fun x H1=>tb σ H1 fun y H2=>R x y H2) {Q:Value->Shared->Prop} {f:Value->Value->Sem Value}
    (hf:∀ v u s2 x y H2,Inv X pins σ H2 s2->RelV x v->RelV y u->R x y H2->wpAny (model X.prog X.w) X.A (f v u) Q X.xe s2) :
    wpAny (model X.prog X.w) X.A (eval a X.env) (fun v s₁=>wpAny (model X.prog X.w) X.A (eval b X.env) (fun u s₂=>wpAny (model X.prog X.w) X.A (f v u) Q X.xe s₂) X.xe s₁) X.xe s:=by
  refine thn (ha pins s σ H _ I h) fun v s1 ⟨x,H1,I1,r1,q1⟩=>?_
  refine thn (hb pins s1 σ H1 _ I1 q1) fun u s2 ⟨y,H2,I2,r2,q2⟩=>?_
  exact hf v u s2 x y H2 I2 r1 r2 q2
theorem ZaH {op:Operator} {r:R2} (ho:OpR X (binaryOp op) r) (ha:PE X a ta) (hb:PE X b tb):PE X (.BinOp a op b pos) (tOp r ta tb):=by
  intro pins s σ H Q I h
  exact wpAny_BinOp (binT ha hb I h fun v u s2 x y H2 I2 rx ry q=>ho pins s2 σ H2 x y v u Q I2 rx ry q)
theorem Zfi {op:UnaryOp} {r:V->Hp->VK->Prop} (ho:UnR X (unaryOp op) r) (ha:PE X a ta):PE X (.UnaryOp op a pos) (tUn r ta):=by
  intro pins s σ H Q I h
  exact UnaryOp_ (thn (ha pins s σ H _ I h) fun v s1 ⟨x,H1,I1,r1,q1⟩=>ho pins s1 σ H1 x v Q I1 r1 q1)
theorem opI {f:Value->Value->Sem Value} {C:Int->Int->Prop} {g:Int->Int->Int}
    (rule:∀ (i j:Int) (t u:Tok) (s:Shared) (Q:Value->Shared->Prop) (E:Value->Shared->Prop),C i j->Q (.int (g i j) s.toks) { s with toks:=s.toks + 1 }->wpAny (model X.prog X.w) X.A (f (.int i t) (.int j u)) Q E s) :
    OpR X f (rI C fun i j=>.int (g i j)):=by
  intro pins s σ H x y v u Q I rx ry h
  obtain ⟨i,j,rfl,rfl,hc,q⟩:=h
  obtain ⟨t,rfl⟩:=rx
  obtain ⟨t',rfl⟩:=ry
  exact rule i j t t' s _ _ hc ⟨.int (g i j),H,I.tok _,⟨_,rfl⟩,q⟩
theorem opI0 {f:Value->Value->Sem Value} {g:Int->Int->Int}
    (rule:∀ (i j:Int) (t u:Tok) (s:Shared) (Q:Value->Shared->Prop) (E:Value->Shared->Prop),Q (.int (g i j) s.toks) { s with toks:=s.toks + 1 }->wpAny (model X.prog X.w) X.A (f (.int i t) (.int j u)) Q E s) :
    OpR X f (rI0 fun i j=>.int (g i j)):=by
  intro pins s σ H x y v u Q I rx ry h
  obtain ⟨i,j,rfl,rfl,q⟩:=h
  obtain ⟨t,rfl⟩:=rx
  obtain ⟨t',rfl⟩:=ry
  exact rule i j t t' s _ _ ⟨.int (g i j),H,I.tok _,⟨_,rfl⟩,q⟩
theorem opB0 {f:Value->Value->Sem Value} {g:Int->Int->Bool}
    (rule:∀ (i j:Int) (t u:Tok) (s:Shared) (Q:Value->Shared->Prop) (E:Value->Shared->Prop),Q (.bool (g i j)) s->wpAny (model X.prog X.w) X.A (f (.int i t) (.int j u)) Q E s) :
    OpR X f (rI0 fun i j=>.bl (g i j)):=by
  intro pins s σ H x y v u Q I rx ry h
  obtain ⟨i,j,rfl,rfl,q⟩:=h
  obtain ⟨t,rfl⟩:=rx
  obtain ⟨t',rfl⟩:=ry
  exact rule i j t t' s _ _ ⟨.bl (g i j),H,I,rfl,q⟩
noncomputable def CPow (i j:Int):Prop:=0 <= j/\j <= 1000000/\i.natAbs < 2 ^ 64
noncomputable def CMul (i j:Int):Prop:=(-(2 ^ 64) < i/\i < 2 ^ 64)\/(-(2 ^ 64) < j/\j < 2 ^ 64)
theorem CMul.ok {i j:Int} (h:CMul i j):IntMulOk i j:=by
  rcases h with ⟨h1,h2⟩|⟨h1,h2⟩
  . exact .of_left (intBits_le_64 h1 h2)
  . exact .of_right (intBits_le_64 h1 h2)
theorem ZiS (k:Nat):(0:Int) <= 2 ^ k:=by
  rw [two_pow_cast]
  exact Int.natCast_nonneg _
theorem ZbK:OpR X (binaryOp .Add) (rI0 fun i j=>.int (i + j)):=opI0 fun _ _ _ _ _ _ _ q=>add_int q
theorem Ze4:OpR X (binaryOp .Sub) (rI0 fun i j=>.int (i - j)):=opI0 fun _ _ _ _ _ _ _ q=>sub_int q
theorem Zim:OpR X (binaryOp .Mult) (rI CMul fun i j=>.int (i * j)):=opI fun _ _ _ _ _ _ _ hc q=>mul_int q hc.ok
theorem ZbD:OpR X (binaryOp .Mod) (rI (fun _ j=>0 < j) fun i j=>.int (i % j)):=opI fun i j _ _ _ _ _ hc q=>by
  have h1:(0:Int) < j:=hc
  exact mod_int' (by omega) (by rw [Int.fmod_eq_emod_of_nonneg i (by omega)]; exact q)
theorem Zjs:OpR X (binaryOp .Pow) (rI CPow fun i j=>.int (i ^ j.toNat)):=opI fun _ _ _ _ _ _ _ hc q=>pow_int_small hc.1 hc.2.1 hc.2.2 q
theorem op_shl:OpR X (binaryOp .LShift) (rI CPow fun i j=>.int (i * 2 ^ j.toNat)):=opI fun _ _ _ _ _ _ _ hc q=>lshift_int_small hc.1 hc.2.1 hc.2.2 q
theorem op_shr:OpR X (binaryOp .RShift) (rI (fun _ j=>0 <= j) fun i j=>.int (i / 2 ^ j.toNat)):=opI fun i j _ _ _ _ _ hc q =>
  rshift_int hc (by rw [Int.fdiv_eq_ediv_of_nonneg i (ZiS _)]; exact q)
theorem op_and:OpR X (binaryOp .BitAnd) (rI0 fun i j=>.int (Builtin.bitAnd i j)):=opI0 fun _ _ _ _ _ _ _ q=>and_int q
theorem op_or:OpR X (binaryOp .BitOr) (rI0 fun i j=>.int (Builtin.bitOr i j)):=opI0 fun _ _ _ _ _ _ _ q=>or_int q
theorem op_xor:OpR X (binaryOp .BitXor) (rI0 fun i j=>.int (Builtin.bitXor i j)):=opI0 fun _ _ _ _ _ _ _ q=>xor_int q
theorem unI {f:Value->Sem Value} {g:Int->Int}
    (rule:∀ (i:Int) (t:Tok) (s:Shared) (Q:Value->Shared->Prop) (E:Value->Shared->Prop),Q (.int (g i) s.toks) { s with toks:=s.toks + 1 }->wpAny (model X.prog X.w) X.A (f (.int i t)) Q E s) :
    UnR X f (rU fun i=>.int (g i)):=by
  intro pins s σ H x v Q I rx h
  obtain ⟨i,rfl,q⟩:=h
  obtain ⟨t,rfl⟩:=rx
  exact rule i t s _ _ ⟨.int (g i),H,I.tok _,⟨_,rfl⟩,q⟩
theorem Zc8:UnR X (unaryOp .USub) (rU fun i=>.int (-i)):=unI fun _ _ _ _ _ q=>neg_int q
end
noncomputable def scal:V->V->Bool
  | .non,.non=>true|.non,.int _=>true|.int _,.non=>true|.non,.bl _=>true|.bl _,.non=>true|.non,.str _=>true|.str _,.non=>true
  | .int _,.int _=>true|.bl _,.bl _=>true|.str _,.str _=>true|.byt _,.byt _=>true
  | .int _,.str _=>true|.str _,.int _=>true|.bl _,.str _=>true|.str _,.bl _=>true
  | _,_=>false
noncomputable def rEq:R2:=fun x y H Q=>scal x y=true/\Q (.bl (decide (x=y))) H
noncomputable def rNe:R2:=fun x y H Q=>scal x y=true/\Q (.bl (!decide (x=y))) H
theorem Zjt {i j:Int}:decide (V.int i=V.int j)=(i == j):=by
  rw [Bool.eq_iff_iff]
  simp
theorem ZlL {i j:Bool}:decide (V.bl i=V.bl j)=(i == j):=by
  rw [Bool.eq_iff_iff]
  simp
theorem Zju {i j:Str}:decide (V.str i=V.str j)=(i == j):=by
  rw [Bool.eq_iff_iff]
  simp
theorem Zjv {i j:Array UInt8}:decide (V.byt i=V.byt j)=(i.toList == j.toList):=by
  rw [Bool.eq_iff_iff]
  cases i
  cases j
  simp
section
variable {X:Cx} {a b c:Expr} {ta tb tc:TE} {pos:Pos}
theorem ZaX {pins:List (Addr × Obj)} {σ:St} {H:Hp} {s:Shared} {Q:VK} {k k':Bool} (I:Inv X pins σ H s) (q:Q (.bl k) H) (e:k=k'):EP X pins σ Q (.bool k') s:=by
  subst e
  exact ⟨.bl k,H,I,rfl,q⟩
theorem ZbJ:OpR X (compareOp .Eq) rEq:=by
  intro pins s σ H x y v u Q I rx ry h
  obtain ⟨hs,q⟩:=h
  cases x with
  | non =>
    cases rx
    cases y with
    | non=>cases ry; exact PySem.EqNone.eq_none_none (ZaX I q (by simp))
    | bl j=>cases ry; exact PySem.EqNone.eq_none_bool (ZaX I q (by simp))
    | int j=>obtain ⟨t',rfl⟩:=ry; exact PySem.EqNone.eq_none_int (ZaX I q (by simp))
    | str j=>obtain ⟨t',rfl⟩:=ry; exact PySem.EqNone.eq_none_str (ZaX I q (by simp))
    | _=>exact absurd (show false=true from hs) Bool.false_ne_true
  | bl i =>
    cases rx
    cases y with
    | non=>cases ry; exact PySem.EqNone.eq_bool_none (ZaX I q (by simp))
    | bl j=>cases ry; exact eq_bool (ZaX I q ZlL)
    | str j=>obtain ⟨t',rfl⟩:=ry; exact PySem.EqMixed.eq_bool_str (ZaX I q (by simp))
    | _=>exact absurd (show false=true from hs) Bool.false_ne_true
  | int i =>
    obtain ⟨t,rfl⟩:=rx
    cases y with
    | non=>cases ry; exact PySem.EqNone.eq_int_none (ZaX I q (by simp))
    | int j=>obtain ⟨t',rfl⟩:=ry; exact eq_int (ZaX I q Zjt)
    | str j=>obtain ⟨t',rfl⟩:=ry; exact PySem.EqMixed.eq_int_str (ZaX I q (by simp))
    | _=>exact absurd (show false=true from hs) Bool.false_ne_true
  | str i =>
    obtain ⟨t,rfl⟩:=rx
    cases y with
    | non=>cases ry; exact PySem.EqNone.eq_str_none (ZaX I q (by simp))
    | bl j=>cases ry; exact PySem.EqMixed.eq_str_bool (ZaX I q (by simp))
    | int j=>obtain ⟨t',rfl⟩:=ry; exact PySem.EqMixed.eq_str_int (ZaX I q (by simp))
    | str j=>obtain ⟨t',rfl⟩:=ry; exact eq_str (ZaX I q Zju)
    | _=>exact absurd (show false=true from hs) Bool.false_ne_true
  | byt i =>
    obtain ⟨t,rfl⟩:=rx
    cases y with
    | byt j=>obtain ⟨t',rfl⟩:=ry; exact PySem.W.eq_bytes (ZaX I q Zjv)
    | _=>exact absurd (show false=true from hs) Bool.false_ne_true
  | _=>cases y <;> exact absurd (show false=true from hs) Bool.false_ne_true
theorem Zge:OpR X (compareOp .NotEq) rNe:=by
  intro pins s σ H x y v u Q I rx ry h
  obtain ⟨hs,q⟩:=h
  cases x with
  | non =>
    cases rx
    cases y with
    | non=>cases ry; exact PySem.EqNone.ne_none_none (ZaX I q (by simp))
    | bl j=>cases ry; exact PySem.EqNone.ne_none_bool (ZaX I q (by simp))
    | int j=>obtain ⟨t',rfl⟩:=ry; exact PySem.EqNone.ne_none_int (ZaX I q (by simp))
    | str j=>obtain ⟨t',rfl⟩:=ry; exact PySem.EqNone.ne_none_str (ZaX I q (by simp))
    | _=>exact absurd (show false=true from hs) Bool.false_ne_true
  | bl i =>
    cases rx
    cases y with
    | non=>cases ry; exact PySem.EqNone.ne_bool_none (ZaX I q (by simp))
    | bl j=>cases ry; exact ne_bool (ZaX I q (congrArg not ZlL))
    | str j=>obtain ⟨t',rfl⟩:=ry; exact PySem.EqMixed.ne_bool_str (ZaX I q (by simp))
    | _=>exact absurd (show false=true from hs) Bool.false_ne_true
  | int i =>
    obtain ⟨t,rfl⟩:=rx
    cases y with
    | non=>cases ry; exact PySem.EqNone.ne_int_none (ZaX I q (by simp))
    | int j=>obtain ⟨t',rfl⟩:=ry; exact ne_int (ZaX I q (congrArg not Zjt))
    | str j=>obtain ⟨t',rfl⟩:=ry; exact PySem.EqMixed.ne_int_str (ZaX I q (by simp))
    | _=>exact absurd (show false=true from hs) Bool.false_ne_true
  | str i =>
    obtain ⟨t,rfl⟩:=rx
    cases y with
    | non=>cases ry; exact PySem.EqNone.ne_str_none (ZaX I q (by simp))
    | bl j=>cases ry; exact PySem.EqMixed.ne_str_bool (ZaX I q (by simp))
    | int j=>obtain ⟨t',rfl⟩:=ry; exact PySem.EqMixed.ne_str_int (ZaX I q (by simp))
    | str j=>obtain ⟨t',rfl⟩:=ry; exact ne_str (ZaX I q (congrArg not Zju))
    | _=>exact absurd (show false=true from hs) Bool.false_ne_true
  | byt i =>
    obtain ⟨t,rfl⟩:=rx
    cases y with
    | byt j=>obtain ⟨t',rfl⟩:=ry; exact PySem.W.ne_bytes (ZaX I q (congrArg not Zjv))
    | _=>exact absurd (show false=true from hs) Bool.false_ne_true
  | _=>cases y <;> exact absurd (show false=true from hs) Bool.false_ne_true
theorem ZkQ:OpR X (compareOp .Lt) (rI0 fun i j=>.bl (decide (i < j))):=opB0 fun _ _ _ _ _ _ _ q=>lt_int q
theorem op_le:OpR X (compareOp .LtE) (rI0 fun i j=>.bl (decide (i <= j))):=opB0 fun _ _ _ _ _ _ _ q=>le_int q
theorem Zhc:OpR X (compareOp .Gt) (rI0 fun i j=>.bl (decide (j < i))):=opB0 fun _ _ _ _ _ _ _ q=>gt_int q
theorem Zma:OpR X (compareOp .GtE) (rI0 fun i j=>.bl (decide (j <= i))):=opB0 fun _ _ _ _ _ _ _ q=>ge_int q
theorem op_isN:OpR X (compareOp .Is) (fun x y H Q=>y=.non/\Q (.bl (decide (x=.non))) H):=by
  intro pins s σ H x y v u Q I rx ry h
  obtain ⟨rfl,q⟩:=h
  cases ry
  refine is_none_gen (ZaX I q ?_)
  cases x <;> first
    | (cases rx; rfl)
    | (obtain ⟨t,rfl⟩:=rx; rfl)
theorem OpR.or {f:Value->Value->Sem Value} {r r':R2} (h:OpR X f r) (h':OpR X f r'):OpR X f (fun x y H Q=>r x y H Q\/r' x y H Q):=by
  intro pins s σ H x y v u Q I rx ry q
  rcases q with q|q
  . exact h pins s σ H x y v u Q I rx ry q
  . exact h' pins s σ H x y v u Q I rx ry q
theorem nomark (b:Expr) {op:CmpOp} (h:op ≠ .In:=by decide) (h2:op ≠ .NotIn:=by decide):behindInMarks op b=false:=by
  have e1:(op == CmpOp.In)=false:=by cases op <;> first|rfl|exact absurd rfl h
  have e2:(op == CmpOp.NotIn)=false:=by cases op <;> first|rfl|exact absurd rfl h2
  cases b <;> simp [behindInMarks,e1,e2]
theorem Zbs {op:CmpOp} {r:R2} (ho:OpR X (compareOp op) r) (ha:PE X a ta) (hb:PE X b tb) (hm:behindInMarks op b=false):PE X (.Compare a [op] [b] pos) (tOp r ta tb):=by
  intro pins s σ H Q I h
  exact wpAny_Compare1 (binT ha hb I h fun v u s2 x y H2 I2 rx ry q=>ho pins s2 σ H2 x y v u Q I2 rx ry q) hm
noncomputable def tTest (t:TE):TT:=fun σ H Q=>t σ H fun x H'=>∃ k,x=.bl k/\Q k H'
theorem ZaC {op:CmpOp} {r:R2} (ho:OpR X (compareOp op) r) (ha:PE X a ta) (hb:PE X b tb) (hm:behindInMarks op b=false):PT X (.Compare a [op] [b] pos) (tTest (tOp r ta tb)):=by
  intro pins s σ H Q I h
  refine wpAny_isTrue_Compare1 (thn (ha pins s σ H _ I h) fun v s1 ⟨x,H1,I1,r1,q1⟩=>thn (hb pins s1 σ H1 _ I1 q1) fun u s2 ⟨y,H2,I2,r2,q2⟩ =>
    thn (ho pins s2 σ H2 x y v u _ I2 r1 r2 q2) fun c s3 ⟨z,H3,I3,r3,k,e,q3⟩=>?_) hm
  subst e
  cases r3
  exact wpAny_truthy_bool ⟨H3,I3,q3⟩
noncomputable def tChain (r r':R2) (ta tb tc:TE):TE:=fun σ H Q=>ta σ H fun x H1=>tb σ H1 fun y H2=>r x y H2 fun z H3=>∃ k,z=.bl k /\
  (if k=true then tc σ H3 fun w' H4=>r' y w' H4 Q else Q (.bl false) H3)
theorem ZkR {op op':CmpOp} {r r':R2} (ho:OpR X (compareOp op) r) (ho':OpR X (compareOp op') r') (ha:PE X a ta) (hb:PE X b tb) (hc:PE X c tc)
    (hm:lastMarks [op,op'] [b,c]=false:=by with_unfolding_all rfl):PT X (.Compare a [op,op'] [b,c] pos) (tTest (tChain r r' ta tb tc)):=by
  intro pins s σ H Q I h
  refine isTrue_chain (thn (ha pins s σ H _ I h) fun v s1 ⟨x,H1,I1,r1,q1⟩=>test_link (thn (hb pins s1 σ H1 _ I1 q1) fun u s2 ⟨y,H2,I2,r2,q2⟩ =>
    thn (ho pins s2 σ H2 x y v u _ I2 r1 r2 q2) fun d s3 ⟨z,H3,I3,r3,k,e,q3⟩=>?_)) hm
  subst e
  cases r3
  refine wpAny_truthy_bool ?_
  cases k with
  | false =>
    obtain ⟨k',e',q'⟩:=q3
    cases e'
    exact ite_ff ⟨H3,I3,q'⟩
  | true =>
    refine ite_tt (test_last (thn (hc pins s3 σ H3 _ I3 q3) fun w' s4 ⟨z',H4,I4,r4,q4⟩=>thn (ho' pins s4 σ H4 y z' u w' _ I4 r2 r4 q4) fun d' s5 ⟨z2,H5,I5,r5,k2,e2,q5⟩=>?_))
    subst e2
    cases r5
    exact wpAny_truthy_bool ⟨H5,I5,q5⟩
theorem line63:(sizeLine:Nat) < 2 ^ 63:=by rw [sizeLine_eq]; decide
theorem vals1 {x:V} {us:List Value} (r:Vals [x] us):∃ u,us=[u]/\RelV x u:=by
  cases r with
  | cons r1 r2=>cases r2; exact ⟨_,rfl,r1⟩
theorem vals2 {x y:V} {us:List Value} (r:Vals [x,y] us):∃ u w',us=[u,w']/\RelV x u/\RelV y w':=by
  cases r with
  | cons r1 r2 =>
    cases r2 with
    | cons r3 r4=>cases r4; exact ⟨_,_,rfl,r1,r3⟩
theorem Zjw (hc:X.calm=true):CallR X (.builtin "max") (fun xs H Q=>∃ i j,xs=[.int i,.int j]/\Q (.int (if j > i then j else i)) H):=by
  intro pins s σ H xs us Q I r h
  obtain ⟨i,j,rfl,q⟩:=h
  obtain ⟨u,w',rfl,⟨t,rfl⟩,⟨t',rfl⟩⟩:=vals2 r
  refine max_two_ints (I.ok.hd hc) fun h' tk k=>⟨_,H,I.kept k,?_,q⟩
  by_cases hj:j > i
  . rw [if_pos hj,if_pos hj]; exact ⟨_,rfl⟩
  . rw [if_neg hj,if_neg hj]; exact ⟨_,rfl⟩
theorem Zjx (hc:X.calm=true):CallR X (.builtin "min") (fun xs H Q=>∃ i j,xs=[.int i,.int j]/\Q (.int (if j < i then j else i)) H):=by
  intro pins s σ H xs us Q I r h
  obtain ⟨i,j,rfl,q⟩:=h
  obtain ⟨u,w',rfl,⟨t,rfl⟩,⟨t',rfl⟩⟩:=vals2 r
  refine min_two_ints (I.ok.hd hc) fun h' tk k=>⟨_,H,I.kept k,?_,q⟩
  by_cases hj:j < i
  . rw [if_pos hj,if_pos hj]; exact ⟨_,rfl⟩
  . rw [if_neg hj,if_neg hj]; exact ⟨_,rfl⟩
theorem Zeb:CallR X (.type "int") (fun xs H Q=>(∃ i,xs=[.int i]/\Q (.int i) H)\/∃ k,xs=[.bl k]/\Q (.int (if k then 1 else 0)) H):=by
  intro pins s σ H xs us Q I r h
  rcases h with ⟨i,rfl,q⟩|⟨k,rfl,q⟩
  . obtain ⟨u,rfl,t,rfl⟩:=vals1 r
    exact call_int_int ⟨.int i,H,I,⟨_,rfl⟩,q⟩
  . obtain ⟨u,rfl,r1⟩:=vals1 r
    cases r1
    exact call_int_bool ⟨.int (if k then 1 else 0),H,I.tok _,⟨_,rfl⟩,q⟩
end
end L2
namespace L2
open PySem PySem.Spec PyProof.Rows
structure ObjM (h:Heap) (x dx C:Addr) (mA:Str->Option Value):Prop where
  obj:h.get? x=some (PySem.W.instObj C dx)
  ns:h.Ns1 dx mA
  ne:dx ≠ x
theorem Zjy {h:Heap} {dx:Addr} {mA:Str->Option Value} (n:h.Ns1 dx mA):∃ od,h.get? dx=some od/\∀ name,PySem.W.lookIn name od=some (mA name):=by
  obtain ⟨o,es,ep,ho,hd,hk,_,hm⟩:=n
  refine ⟨o,ho,fun name=>?_⟩
  have e:=hm name
  unfold nsFind findBy at e
  rw [<- Array.find?_toList] at e
  unfold PySem.W.lookIn
  rw [hd]
  dsimp only
  split
  . rename_i y q
    rw [q] at e
    exact congrArg some e
  . rename_i q
    rw [q] at e
    have a:es.toList.any (·.refKey)=false:=by
      rw [List.any_eq_false]
      intro y hy
      obtain ⟨z,t,hkey⟩:=hk y (Array.mem_toList_iff.mp hy)
      simp [DictEntry.refKey,hkey]
    have a':¬ es.toList.any (·.refKey)=true:=by rw [a]; exact Bool.false_ne_true
    rw [if_neg a']
    exact congrArg some e
theorem ObjM.look {h:Heap} {x dx C:Addr} {mA:Str->Option Value} (I:ObjM h x dx C mA):∃ od,PySem.W.InstAt h x (PySem.W.instObj C dx) C (some od)/\∀ name,PySem.W.lookIn name od=some (mA name) :=
  let ⟨od,ho,hl⟩:=Zjy I.ns
  ⟨od,⟨I.obj,rfl,rfl,ho⟩,hl⟩
section
variable {prog:Program} {w:World} {A:Around} {E:Value->Shared->Prop} {s:Shared} {K:PySem.W.Frag} {x dx C f:Addr} {mA:Str->Option Value} {name:Str} {v:Value}
theorem Zmb {expr:Bool} {Q:Value->Shared->Prop} (X:K.In s.heap) (I:ObjM s.heap x dx C mA) (hg:PySem.W.plainGet K C name=true) (hh:PySem.W.hasDictIn K C=true)
    (ha:PySem.W.findIn K (.ref C) name=some none) (hv:mA name=some v) (hv':PySem.W.handedIn v=true) (h:Q v { s with toks:=s.toks + 1 }) :
    wpAny (model prog w) A (getAttr (.ref x) name expr) Q E s:=by
  obtain ⟨od,J,hl⟩:=I.look
  exact PySem.W.get_value X J (PySem.W.plainGet_of hg).1 (PySem.W.findObj_own hh ha rfl (by rw [hl,hv])) hv' h
theorem ZkS {pl:Sem Bool} {Q:Value × List Value->Shared->Prop} (X:K.In s.heap) (I:ObjM s.heap x dx C mA) (hg:PySem.W.plainGet K C name=true)
    (hf:PySem.W.findIn K (.ref C) name=some (some (.ref f))) (ht:PySem.W.isFn K (.ref f)=true) (hv:mA name=none) (h:Q (.ref f,[.ref x]) s) :
    wpAny (model prog w) A (getMethod (.ref x) name pl) Q E s:=by
  obtain ⟨od,J,hl⟩:=I.look
  exact PySem.W.method_fn X J (PySem.W.plainGet_of hg).1 (PySem.W.plainGet_of hg).2 hf (beq_iff_eq.mp ht) (by show (PySem.W.lookIn name od).map (·.isSome)=some false; rw [hl,hv]; rfl) h
theorem Zmc {ns:List Str} {Q:Unit->Shared->Prop} (X:K.In s.heap) (I:ObjM s.heap x dx C mA)
    (hs:PySem.W.findIn K (.ref C) "__setattr__" = some (some (.builtin "object.__setattr__"))) (hp:PySem.W.plainOver K C=true) (ht:PySem.W.takerIn K C name=some none) (hh:PySem.W.hasDictIn K C=true)
    (hw:PySem.Within mA ns) (hsz:ns.length <= sizeLine)
    (h:∀ h',ObjM h' x dx C (fun y=>if y=name then some v else mA y)->Heap.SameBut dx s.heap h'->Q () { s with heap:=h',toks:=s.toks + 2 }) :
    wpAny (model prog w) A (setAttr (.ref x) name v) Q E s:=by
  obtain ⟨od,J,hl⟩:=I.look
  refine PySem.W.set_plain X J hs (PySem.W.osa_open (s:={ s with toks:=s.toks + 1 }) (r:=none) X J hp ht fun b=>?_)
  obtain ⟨cd,hc,hd'⟩:=PySem.W.any_some hh
  have hx:s.heap.get? x=some ⟨.ref C,some dx,.plain,#[]⟩:=I.obj
  refine wpAny_bind (wpAny_pure (wpAny_bind (wpAny_bind (wpAny_loadPart hx (wpAny_bind (PySem.W.Looks.here (s:={ s with toks:=s.toks + 1 }) (PySem.W.looks_clsIn X hc) ?_))))))
  rw [hd']
  refine wpAny_pure (a:=some dx) (wpAny_bind (wpAny_pure (wpAny_bind ?_)))
  refine wpAny_nsSet1 (s:={ s with toks:=s.toks + 1 }) I.ns fun h' hn2 hs2=>?_
  obtain ⟨oD,esD,epD,hoD,hdD,hcD⟩:=hn2.count (PySem.Within.cons name v hw)
  refine wpAny_bind (wpAny_lookBehind hoD (by rw [hdD]; exact pastItsLine_dict (Nat.le_trans hcD (by rw [List.length_cons]; omega))) ?_)
  exact wpAny_pure (h _ ⟨(hs2.2 _ (Ne.symm I.ne)).trans I.obj,hn2,I.ne⟩ hs2)
theorem ZkT {R:Result->Shared->Prop} {vs:List Value} {kw:List (Str × Value)} (X:K.In s.heap) (hm:PySem.W.makesIn K C=true)
    (hi:PySem.W.findIn K (.ref C) "__init__" = some (some (.ref f))) (hf:PySem.W.typeIn K (.ref f)=some (.type "function"))
    (h:codeAny (model prog w) (A.under (.builtin "type.__call__" ⟨.ref C :: vs,kw⟩)) (.call (.ref f) ⟨.ref (s.heap.objs.size + 1) :: vs,kw⟩) (PySem.W.InitBack (s.heap.objs.size + 1) R)
      { s with heap:=(s.heap.push PySem.W.emptyDict).push (PySem.W.instObj C s.heap.objs.size) }) :
    codeAny (model prog w) A (.call (.ref C) ⟨vs,kw⟩) R s:=by
  obtain ⟨hh,g,d,t,os⟩:=s
  exact PySem.W.make_core (PySem.W.makes_of X hm) (PySem.W.looks_findIn X hi) (fun self=>PySem.W.bind_fn X self hf) (.inl rfl) h
end
noncomputable def putF (f:Str) (v:V):List (Str × V)->List (Str × V)
  | []=>[(f,v)]
  | (g,x) :: r=>if g=f then (g,v) :: r else (g,x) :: putF f v r
theorem Zec (f g:Str) (v:V):∀ fs:List (Str × V),(putF f v fs).lookup g=if g=f then some v else fs.lookup g
  | []=>by
    show List.lookup g [(f,v)]=_
    by_cases h:g=f
    . have hb:(g == f)=true:=beq_iff_eq.mpr h
      simp only [List.lookup,hb,if_pos h]
    . have hb:(g == f)=false:=beq_eq_false_iff_ne.mpr h
      simp only [List.lookup,hb,if_neg h]
  | (k,x) :: r=>by
    have ih:=Zec f g v r
    rw [show putF f v ((k,x) :: r)=(if k=f then (k,v) :: r else (k,x) :: putF f v r) from rfl]
    by_cases hk:k=f
    . rw [if_pos hk]
      by_cases h:g=k
      . have hb:(g == k)=true:=beq_iff_eq.mpr h
        simp only [List.lookup,hb,if_pos (h.trans hk)]
      . have hb:(g == k)=false:=beq_eq_false_iff_ne.mpr h
        simp only [List.lookup,hb,if_neg (fun e:g=f=>h (e.trans hk.symm))]
    . rw [if_neg hk]
      by_cases h:g=k
      . have hb:(g == k)=true:=beq_iff_eq.mpr h
        simp only [List.lookup,hb,if_neg (fun e:g=f=>hk (h.symm.trans e))]
      . have hb:(g == k)=false:=beq_eq_false_iff_ne.mpr h
        simp only [List.lookup,hb]
        exact ih
theorem Zed (f:Str) (v:V):∀ fs:List (Str × V),f ∈ (putF f v fs).map (·.1)/\∀ g,g ∈ fs.map (·.1)->g ∈ (putF f v fs).map (·.1)
  | []=>⟨by simp [putF],fun g h=>by simp at h⟩
  | (k,x) :: r=>by
    obtain ⟨i1,i2⟩:=Zed f v r
    rw [show putF f v ((k,x) :: r)=(if k=f then (k,v) :: r else (k,x) :: putF f v r) from rfl]
    by_cases hk:k=f
    . rw [if_pos hk]
      subst hk
      exact ⟨by simp,fun g h=>by simpa using h⟩
    . rw [if_neg hk]
      refine ⟨?_,fun g h=>?_⟩
      . rw [List.map_cons]
        exact List.mem_cons_of_mem _ i1
      . rw [List.map_cons] at h |-
        rcases List.mem_cons.mp h with e|e
        . exact List.mem_cons.mpr (.inl e)
        . exact List.mem_cons_of_mem _ (i2 g e)
theorem Zee (f:Str) (v:V):∀ fs:List (Str × V),(putF f v fs).length <= fs.length + 1
  | []=>by simp [putF]
  | (k,x) :: r=>by
    have ih:=Zee f v r
    rw [show putF f v ((k,x) :: r)=(if k=f then (k,v) :: r else (k,x) :: putF f v r) from rfl]
    by_cases hk:k=f
    . rw [if_pos hk,List.length_cons,List.length_cons]; omega
    . rw [if_neg hk,List.length_cons,List.length_cons]; omega
theorem RelO.some_of {v:V} {o:Option Value} (r:RelO (some v) o):∃ u,o=some u/\RelV v u:=by
  cases o with
  | none=>exact (show False from r).elim
  | some u=>exact ⟨u,rfl,r⟩
theorem RelO.none_of {o:Option Value} (r:RelO none o):o=none:=by
  cases o with
  | none=>rfl
  | some u=>exact (show False from r).elim
theorem Zjz {v:V} {u:Value} (r:RelV v u):PySem.W.handedIn u=true:=by
  cases v with
  | non=>cases (show u=Value.none from r); rfl
  | bl b=>cases (show u=Value.bool b from r); rfl
  | int i=>obtain ⟨t,e⟩:=(show ∃ t,u=Value.int i t from r); cases e; rfl
  | str x=>obtain ⟨t,e⟩:=(show ∃ t,u=Value.str x t from r); cases e; rfl
  | byt b=>obtain ⟨t,e⟩:=(show ∃ t,u=Value.bytes b t from r); cases e; rfl
  | flt b=>obtain ⟨t,e⟩:=(show ∃ t,u=Value.float b t from r); cases e; rfl
  | ref a=>cases (show u=Value.ref a from r); rfl
  | ty n=>cases (show u=Value.type n from r); rfl
section
variable {P:Program} {w:World} {H H':Hp} {h h':Heap} {a C dx:Addr} {fs fs':List (Str × V)}
theorem Zhd (hok:HOk P w H h) (e:H a=some (.ins C dx fs)):∃ mA,ObjM h a dx C mA/\(∀ f,RelO (fs.lookup f) (mA f))/\PySem.Within mA (fs.map (·.1))/\fs.length <= 1000/\H dx=some (.own a):=by
  obtain ⟨d,z,ne,ob,mA,n,r,q⟩:=(show ObjOk P w H h a (.ins C dx fs) from hok a _ e)
  exact ⟨mA,⟨ob,n,ne⟩,r,q,z,d⟩
end
structure Cls (K:PySem.W.Frag) (C:Addr):Prop where
  pg:PySem.W.plainGet K C Str.empty=true
  hd:PySem.W.hasDictIn K C=true
  po:PySem.W.plainOver K C=true
  sa:PySem.W.findIn K (.ref C) "__setattr__" = some (some (.builtin "object.__setattr__"))
theorem Cls.get {K:PySem.W.Frag} {C:Addr} (c:Cls K C) (f:Str):PySem.W.plainGet K C f=true:=c.pg
noncomputable def NoAttr (K:PySem.W.Frag) (C:Addr) (f:Str):Prop:=PySem.W.findIn K (.ref C) f=some none
theorem NoAttr.taker {K:PySem.W.Frag} {C:Addr} {f:Str} (n:NoAttr K C f):PySem.W.takerIn K C f=some none:=by
  unfold PySem.W.takerIn
  rw [show PySem.W.findIn K (.ref C) f=some none from n]
  rfl
structure Con (K:PySem.W.Frag) (C:Addr) (f:Str) (v:V) (u:Value):Prop where
  at_:PySem.W.findIn K (.ref C) f=some (some u)
  rel:RelV v u
  get:PySem.W.specialIn K u "__get__" = some none
  cp:PySem.W.copiedNames.contains f=false
structure Meth (K:PySem.W.Frag) (C:Addr) (m:Str) (f:Addr):Prop where
  at_:PySem.W.findIn K (.ref C) m=some (some (.ref f))
  fn:PySem.W.isFn K (.ref f)=true
  kp:PySem.W.keepIn K (.ref f)=true
section
variable {X:Cx} {pins:List (Addr × Obj)} {σ:St} {H:Hp} {s:Shared} {a C dx:Addr} {fs:List (Str × V)} {f:Str} {v:V} {A:Around} {E:Value->Shared->Prop}
theorem Ze5 {b:Bool} {Q:Value->Shared->Prop} (I:Inv X pins σ H s) (e:H a=some (.ins C dx fs)) (c:Cls X.K C) (n:NoAttr X.K C f) (l:fs.lookup f=some v)
    (h:∀ u s',Inv X pins σ H s'->RelV v u->Q u s'):wpAny (model X.prog X.w) A (getAttr (.ref a) f b) Q E s:=by
  obtain ⟨mA,O,r,_,_,_⟩:=Zhd I.hok e
  obtain ⟨u,hu,ru⟩:=RelO.some_of (v:=v) (o:=mA f) (by rw [<- l]; exact r f)
  exact Zmb I.kIn O (c.get f) c.hd n hu (Zjz ru) (h u _ (I.tok _) ru)
theorem Zb4 {m:Str} {g:Addr} {pl:Sem Bool} {Q:Value × List Value->Shared->Prop} (I:Inv X pins σ H s) (e:H a=some (.ins C dx fs)) (c:Cls X.K C) (k:Meth X.K C m g) (l:fs.lookup m=none)
    (h:Q (.ref g,[.ref a]) s):wpAny (model X.prog X.w) A (getMethod (.ref a) m pl) Q E s:=by
  obtain ⟨mA,O,r,_,_,_⟩:=Zhd I.hok e
  have hn:mA m=none:=RelO.none_of (by rw [<- l]; exact r m)
  exact ZkS I.kIn O (c.get m) k.at_ k.fn hn h
theorem Ze6 {y:V} {u:Value} {Q:Unit->Shared->Prop} (I:Inv X pins σ H s) (e:H a=some (.ins C dx fs)) (c:Cls X.K C) (n:NoAttr X.K C f) (hl:fs.length < 1000) (ry:RelV y u)
    (h:∀ s',Inv X pins σ (upd H a (.ins C dx (putF f y fs))) s'->Q () s'):wpAny (model X.prog X.w) A (setAttr (.ref a) f u) Q E s:=by
  obtain ⟨mA,O,r,wi,_,ho⟩:=Zhd I.hok e
  have hz:(fs.map (·.1)).length <= sizeLine:=by rw [List.length_map,sizeLine_eq]; omega
  refine Zmc I.kIn O c.sa c.po n.taker c.hd wi hz fun h' O' sb=>h _ ?_
  have hd:∃ o,h'.get? dx=some o:=let ⟨o,_,_,e',_⟩:=O'.ns; ⟨o,e'⟩
  refine I.write (x:=a) (e:=dx) (by rw [e]; exact True.intro) (.inr ho) (fun b q hb z=>(sb.2 b hb).trans z) hd ?_
  refine ⟨by rw [Zaj O.ne]; exact ho,?_,O.ne,O'.obj,_,O'.ns,fun g=>?_,fun g hg=>?_⟩
  . have:=Zee f y fs; omega
  . show RelO ((putF f y fs).lookup g) (if g=f then some u else mA g)
    rw [Zec]
    by_cases q:g=f
    . rw [if_pos q,if_pos q]; exact ry
    . rw [if_neg q,if_neg q]; exact r g
  . by_cases q:g=f
    . rw [q]; exact (Zed f y fs).1
    . refine (Zed f y fs).2 g (wi g fun z=>hg ?_)
      show (if g=f then some u else mA g)=none
      rw [if_neg q]; exact z
theorem Inv.made (I:Inv X pins σ H s):Inv X pins σ (upd (upd H s.heap.objs.size (.own (s.heap.objs.size + 1))) (s.heap.objs.size + 1) (.ins C s.heap.objs.size []))
    { s with heap:=(s.heap.push PySem.W.emptyDict).push (PySem.W.instObj C s.heap.objs.size) }:=by
  have e1:(s.heap.push PySem.W.emptyDict).get? s.heap.objs.size=some PySem.W.emptyDict:=Heap.get?_push_size s.heap rfl
  have e2:((s.heap.push PySem.W.emptyDict).push (PySem.W.instObj C s.heap.objs.size)).get? (s.heap.objs.size + 1)=some (PySem.W.instObj C s.heap.objs.size):=by
    have:=Heap.get?_push_size (s.heap.push PySem.W.emptyDict) (o:=PySem.W.instObj C s.heap.objs.size) rfl
    rwa [Heap.size_push] at this
  have e3:(s.heap.push PySem.W.emptyDict).Ns s.heap.objs.size (fun _=>none):=⟨PySem.W.emptyDict,#[],_,e1,rfl,(fun e he=>absurd he (by simp)),fun _=>rfl⟩
  have I1:=I.laid (a:=s.heap.objs.size) (o:=.own (s.heap.objs.size + 1)) (h':=s.heap.push PySem.W.emptyDict) (t':=s.toks) (fun b u q=>Heap.get?_push_of_some _ q) (Nat.le_refl _) ⟨_,e1⟩
  refine I1.laid (a:=s.heap.objs.size + 1) (o:=.ins C s.heap.objs.size []) (t':=s.toks) (fun b u q=>Heap.get?_push_of_some _ q) (Nat.le_of_eq (Heap.size_push _ _)) ?_
  have ne:s.heap.objs.size ≠ s.heap.objs.size + 1:=Nat.ne_of_lt (Nat.lt_succ_self _)
  refine ⟨by rw [Zaj ne,Zag],Nat.zero_le _,ne,e2,fun _=>none,(Heap.Ns1.of_empty e3).at fun o q=>Heap.get?_push_of_some _ q,fun _=>True.intro,fun y hy=>absurd rfl hy⟩
theorem Zmd {prog:Program} {w:World} {env:Env} {e:Expr} {f:Str} {pos:Pos} {s:Shared} {Q:Value->Shared->Prop} (hb:attributeBase e f env (eval e env)=eval e env)
    (h:wpAny (model prog w) A (eval e env) (fun o s₁=>wpAny (model prog w) A (getAttr o f true) Q E s₁) E s):wpAny (model prog w) A (eval (.Attribute e f pos) env) Q E s :=
  Attribute_any_ h (by rw [arm_eval_Attribute,hb])
end
noncomputable def tFld (K:PySem.W.Frag) (ta:TE) (f:Str):TE:=fun σ H Q=>ta σ H fun x H1=>∃ a C dx fs v,x=.ref a/\H1 a=some (.ins C dx fs)/\Cls K C/\NoAttr K C f/\fs.lookup f=some v/\Q v H1
noncomputable def sFld (K:PySem.W.Frag) (ta tv:TE) (f:Str):TS:=fun D σ H=>tv σ H fun y H1=>ta σ H1 fun x H2=>∃ a C dx fs,x=.ref a/\H2 a=some (.ins C dx fs)/\Cls K C/\NoAttr K C f/\fs.length < 1000 /\
  D.nx σ (upd H2 a (.ins C dx (putF f y fs)))
noncomputable def InOp (X:Cx) (op:Operator) (rd:V->V->Hp->VK->Prop):Prop :=
  ∀ (pins:List (Addr × Obj)) (s:Shared) (σ:St) (H:Hp) (x y:V) (u v:Value) (Q:VK),Inv X pins σ H s->RelV x u->RelV y v->rd x y H Q->wpAny (model X.prog X.w) X.A (inplaceOp op u v) (EP X pins σ Q) X.xe s
noncomputable def ZjA (K:PySem.W.Frag) (ta tv:TE) (rd:V->V->Hp->VK->Prop) (f:Str):TS:=fun D σ H=>ta σ H fun x H1=>∃ a C dx fs v,x=.ref a/\H1 a=some (.ins C dx fs)/\Cls K C/\NoAttr K C f/\fs.lookup f=some v /\
  tv σ H1 fun y H2=>rd v y H2 fun z H3=>∃ dx' fs',H3 a=some (.ins C dx' fs')/\fs'.length < 1000/\D.nx σ (upd H3 a (.ins C dx' (putF f z fs')))
section
variable {X:Cx} {o e value:Expr} {f:Str} {pos pos' tpos:Pos} {ta tv:TE}
theorem Zak (he:PE X e ta) (hb:attributeBase e f X.env (eval e X.env)=eval e X.env):PE X (.Attribute e f pos) (tFld X.K ta f):=by
  intro pins s σ H Q I h
  refine Zmd hb (thn (he pins s σ H _ I h) fun u s1 ⟨x,H1,I1,rx,a,C,dx,fs,v,ex,ea,c,n,l,q⟩=>?_)
  subst ex
  obtain rfl:u=Value.ref a:=rx
  exact Ze5 I1 ea c n l fun u' s2 I2 ru=>⟨v,H1,I2,ru,q⟩
theorem ZaO (ha:PE X o ta) (hv:PE X value tv) (hs:swapsWith value (some (.Attribute o f pos')) pos.line X.env=pure false):PS X (.Assign [.Attribute o f pos'] value pos) (sFld X.K ta tv f):=by
  intro pins s σ H D I h
  refine plainObj_wpAny_Assign_Attribute (thn (hv pins s σ H _ I h) fun u s1 ⟨y,H1,I1,ry,q⟩=>thn (ha pins s1 σ H1 _ I1 q) fun ov s2 ⟨x,H2,I2,rx,a,C,dx,fs,ex,ea,c,n,l,q2⟩=>?_) hs
  subst ex
  obtain rfl:ov=Value.ref a:=rx
  exact Ze6 I2 ea c n l ry fun s3 I3=>⟨σ,_,I3,q2⟩
theorem Zco {op:Operator} {rd:V->V->Hp->VK->Prop} (ha:PE X o ta) (hv:PE X value tv) (hop:InOp X op rd):PS X (.AugAssign (.Attribute o f tpos) op value pos) (ZjA X.K ta tv rd f):=by
  intro pins s σ H D I h
  refine wpAny_AugAssign_AttributeAny (thn (ha pins s σ H _ I h) fun ov s1 ⟨x,H1,I1,rx,a,C,dx,fs,v,ex,ea,c,n,l,q⟩=>?_)
  subst ex
  obtain rfl:ov=Value.ref a:=rx
  refine Ze5 I1 ea c n l fun u s2 I2 ru=>thn (hv pins s2 σ H1 _ I2 q) fun w3 s3 ⟨y,H2,I3,ry,q3⟩=>thn (hop pins s3 σ H2 v y u w3 _ I3 ru ry q3) fun w4 s4 ⟨z,H3,I4,rz,dx',fs',ea',l',q4⟩=>?_
  exact Ze6 I4 ea' c n l' rz fun s5 I5=>⟨σ,_,I5,q4⟩
noncomputable def rAdd:V->V->Hp->VK->Prop:=fun x y H Q=>∃ i j,x=.int i/\y=.int j/\Q (.int (i + j)) H
noncomputable def rSub:V->V->Hp->VK->Prop:=fun x y H Q=>∃ i j,x=.int i/\y=.int j/\Q (.int (i - j)) H
theorem Zin:InOp X .Add rAdd:=by
  rintro pins s σ H x y u v Q I rx ry ⟨i,j,rfl,rfl,q⟩
  obtain ⟨t,rfl⟩:=(show ∃ t,u=Value.int i t from rx)
  obtain ⟨t',rfl⟩:=(show ∃ t',v=Value.int j t' from ry)
  exact PyProof.Rows.iadd_int ⟨.int (i + j),H,I.tok _,⟨_,rfl⟩,q⟩
theorem in_sub:InOp X .Sub rSub:=by
  rintro pins s σ H x y u v Q I rx ry ⟨i,j,rfl,rfl,q⟩
  obtain ⟨t,rfl⟩:=(show ∃ t,u=Value.int i t from rx)
  obtain ⟨t',rfl⟩:=(show ∃ t',v=Value.int j t' from ry)
  exact PyProof.Rows.isub_int ⟨.int (i - j),H,I.tok _,⟨_,rfl⟩,q⟩
theorem Zme {pl:Sem Bool} {m:Str} {apos:Pos} {args:List Expr} {pins:List (Addr × Obj)} {s:Shared} {σ:St} {H:Hp} {Q:Value->Shared->Prop} {te:TE} (he:PE X e te) (I:Inv X pins σ H s)
    (h:te σ H fun x H1=>∃ a C dx fs g,x=.ref a/\H1 a=some (.ins C dx fs)/\Cls X.K C/\Meth X.K C m g/\fs.lookup m=none /\
      ∀ s1,Inv X pins σ H1 s1->wpAny (model X.prog X.w) X.A (callWith pos (.ref g) [.ref a] (backTo pos (starEach args X.env)) (backToKw pos (keywordEach [] X.env))) Q X.xe s1)
    (ht:eval (.Call (.Attribute e m apos) args [] pos) X.env=(do
      let ov <- eval e X.env
      standAt apos.atName
      let (f,first) <- holding [ov] (getMethod ov m pl)
      callWith pos f first (backTo pos (starEach args X.env)) (backToKw pos (keywordEach [] X.env)))) :
    wpAny (model X.prog X.w) X.A (eval (.Call (.Attribute e m apos) args [] pos) X.env) Q X.xe s:=by
  refine PySem.W.methodCall_KW (pl:=pl) (thn (he pins s σ H _ I h) fun u s1 ⟨x,H1,I1,rx,a,C,dx,fs,g,ex,ea,c,k,l,q⟩=>?_) ht
  subst ex
  obtain rfl:u=Value.ref a:=rx
  exact Zb4 I1 ea c k l (q s1 I1)
end
section
variable {X:Cx} {pins:List (Addr × Obj)} {σ:St} {H:Hp} {s:Shared} {A:Around} {E:Value->Shared->Prop} {Q:Value->Shared->Prop} {c:Value} {b:Bool}
inductive TyOf (K:PySem.W.Frag) (H:Hp):V->Value->Prop where
  | non:TyOf K H .non (.type "NoneType")
  | bl (x:Bool):TyOf K H (.bl x) (.type "bool")
  | int (i:Int):TyOf K H (.int i) (.type "int")
  | str (x:Str):TyOf K H (.str x) (.type "str")
  | flt (x:UInt64):TyOf K H (.flt x) (.type "float")
  | lst {a:Addr} {xs:List V} (e:H a=some (.lst xs)):TyOf K H (.ref a) (.type "list")
  | frz {a:Addr} {o:Obj} {xs:List V} (e:H a=some (.frz o (.lst xs))):TyOf K H (.ref a) (.type "list")
  | tup {a:Addr} {xs:List V} (e:H a=some (.tup xs)):TyOf K H (.ref a) (.type "tuple")
  | dK {a:Addr} {kvs:List (Key × V)} (e:H a=some (.dK kvs)):TyOf K H (.ref a) (.type "dict")
  | dT {a:Addr} {kvs:List (List Key × V)} (e:H a=some (.dT kvs)):TyOf K H (.ref a) (.type "dict")
  | ins {a C dx:Addr} {fs:List (Str × V)} (e:H a=some (.ins C dx fs)) (cl:Cls K C) (ha:PySem.W.findIn K (.ref C) "__class__" = some (some (.builtin "object.__class__")))
      (hn:PySem.W.specialIn K (.builtin "object.__class__") "__get__" = some (some (.builtin "getset_descriptor.__get__"))) (htk:PySem.W.takesIn K (.builtin "object.__class__")=some true)
      (hm:PySem.W.mroIn K C (.type "object")=some true):TyOf K H (.ref a) (.ref C)
end
end L2
namespace L2
open PySem PySem.Spec PyProof.Rows
structure Room (k:Nat) (A:Around):Prop where
  hd:A.handled=none
  dp:A.depth + 3 * k + 5 < recursionLimit
  un:A.units + 16 * k + 200 < cLine
theorem Room.mono {j k:Nat} {A:Around} (r:Room k A) (h:j <= k):Room j A:=⟨r.hd,by have:=r.dp; omega,by have:=r.un; omega⟩
theorem Room.deeper {k:Nat} {A:Around} (r:Room (k + 1) A) (env:Env):Room k (A.deeper env) :=
  ⟨r.hd,by have:=r.dp; show A.depth + 1 + 3 * k + 5 < _; omega,by have:=r.un; show A.units + 3 + 16 * k + 200 < _; omega⟩
theorem Room.in1 {k:Nat} {A:Around} (r:Room (k + 1) A):Room k A.in1 :=
  ⟨r.hd,by have:=r.dp; show A.depth + 3 * k + 5 < _; omega,by have:=r.un; show A.units + 1 + 16 * k + 200 < _; omega⟩
theorem ZiT {A:Around} {C:Addr} {us:List Value} {kw:List (Str × Value)}:(A.under (.builtin "type.__call__" ⟨.ref C :: us,kw⟩)).depth=A.depth + 1:=by
  first|rfl|simp [Around.under,Code.weight,Code.isCreation,Code.isGuard,Code.isCaller,Code.frames,Code.isFrame,guardIds]
theorem ZiU {A:Around} {C:Addr} {us:List Value} {kw:List (Str × Value)}:(A.under (.builtin "type.__call__" ⟨.ref C :: us,kw⟩)).units=A.units + 1:=by
  first|rfl|simp [Around.under,Code.cUnits,Code.frames,Code.isFrame]
theorem Room.make {k:Nat} {A:Around} (r:Room (k + 1) A) (C:Addr) (us:List Value) (kw:List (Str × Value)):Room k (A.under (.builtin "type.__call__" ⟨.ref C :: us,kw⟩)) :=
  ⟨r.hd,by have:=r.dp; rw [ZiT]; omega,by have:=r.un; rw [ZiU]; omega⟩
theorem Room.depth {k:Nat} {A:Around} (r:Room k A):A.depth < recursionLimit:=by have:=r.dp; omega
theorem Room.units {k:Nat} {A:Around} (r:Room k A):A.units + 64 < cLine:=by have:=r.un; omega
noncomputable def tNil:TA:=fun _ H Q=>Q [] H
noncomputable def tCons (ta:TE) (tr:TA):TA:=fun σ H Q=>ta σ H fun x H1=>tr σ H1 fun xs H2=>Q (x :: xs) H2
section
variable {X:Cx} {e:Expr} {es:List Expr} {te:TE} {t:TA} {pos:Pos}
theorem Zae:PA X [] tNil:=fun _ _ _ _ H Q I h=>Calls.spliced_nil ⟨[],H,I,.nil,h⟩
theorem Zaa (ha:PE X e te) (hr:PA X es t) (hs:starEach (e :: es) X.env=(false,eval e X.env) :: starEach es X.env:=by rfl):PA X (e :: es) (tCons te t):=by
  intro pos pins s σ H Q I h
  rw [hs]
  show wpAny _ _ (spliced ((false,eval e X.env) :: backTo pos (starEach es X.env))) _ _ s
  refine Calls.spliced_cons (thn (ha pins s σ H _ I h) fun u s1 ⟨x,H1,I1,r1,q1⟩=>?_)
  exact thn (hr pos pins s1 σ H1 _ I1 q1) fun us s2 ⟨xs,H2,I2,r2,q2⟩=>⟨x :: xs,H2,I2,.cons r1 r2,q2⟩
noncomputable def tTup (t:TA):TE:=fun σ H Q=>t σ H fun xs H1=>xs.length <= sizeLine/\∀ p,H1 p=none->Q (.ref p) (upd H1 p (.tup xs))
noncomputable def tLst (t:TA):TE:=fun σ H Q=>t σ H fun xs H1=>xs.length <= sizeLine/\∀ p,H1 p=none->Q (.ref p) (upd H1 p (.lst xs))
theorem ZbB {x1} (h:PA X es t):PE X (.Tuple es x1 pos) (tTup t):=by
  intro pins s σ H Q I hq
  refine wpAny_Tuple_spliced (thn (h pos pins s σ H _ I hq) fun us s1 ⟨xs,H1,I1,r,z,q⟩=>⟨by rw [<- r.length]; exact z,?_⟩)
  have hf:H1 s1.heap.objs.size=none:=I1.hok.fresh (Nat.le_refl _)
  refine ⟨.ref s1.heap.objs.size,upd H1 s1.heap.objs.size (.tup xs),I1.laid (t':=s1.toks) (fun b u e=>Heap.get?_push_of_some _ e) (Nat.le_refl _) ?_,rfl,q _ hf⟩
  exact ⟨z,us,r,⟨_,Heap.get?_push_size _ rfl,rfl,_,rfl⟩⟩
theorem ZbL (h:PA X es t):PE X (.List es pos) (tLst t):=by
  intro pins s σ H Q I hq
  refine wpAny_List_spliced (thn (h pos pins s σ H _ I hq) fun us s1 ⟨xs,H1,I1,r,z,q⟩=>⟨by rw [<- r.length]; exact z,?_⟩)
  have hf:H1 s1.heap.objs.size=none:=I1.hok.fresh (Nat.le_refl _)
  refine ⟨.ref s1.heap.objs.size,upd H1 s1.heap.objs.size (.lst xs),I1.laid (t':=s1.toks) (fun b u e=>Heap.get?_push_of_some _ e) (Nat.le_refl _) ?_,rfl,q _ hf⟩
  exact ⟨z,us,0,r,Heap.get?_push_size _ rfl⟩
end
noncomputable abbrev Sp:=List V->Hp->VK->XK->Prop
noncomputable abbrev CXT:=List Env->Hp->Shared->XK->Value->Shared->Prop
structure Env0 (P:Program) (w:World) (K:PySem.W.Frag) (mg:Str->Option Value) (base:Heap) (A:Around) (outer:List Env) (s:Shared) (H:Hp):Prop where
  frames:A.frames=some outer
  mod:Mod K mg base
  bs:∀ b o,base.get? b=some o->s.heap.get? b=some o/\H b=none
  bsz:base.objs.size <= s.heap.objs.size
  funs:s.heap.FunFrames base outer
  frf:∀ b ∈ frs outer,H b=none
  hok:HOk P w H s.heap
  bare:AllBare s.gens
noncomputable def CE (outer:List Env) (P:Program) (w:World) (H:Hp) (s:Shared) (Q:VK) (u:Value) (s':Shared):Prop :=
  ∃ v H',s'.os=s.os/\AllBare s'.gens/\Un (frs outer) [] H H' s.heap s'.heap/\HOk P w H' s'.heap/\RelV v u/\Q v H'
noncomputable def CR (CX:CXT) (outer:List Env) (P:Program) (w:World) (H:Hp) (s:Shared) (Q:VK) (E:XK) (r:Result) (s':Shared):Prop :=
  match r with
  | .ok (.ret u)=>CE outer P w H s Q u s'
  | .ok _=>False
  | .error e=>CX outer H s E e s'
structure FnOk (P:Program) (w:World) (K:PySem.W.Frag) (mg:Str->Option Value) (base:Heap) (CX:CXT) (k:Nat) (f:Addr) (fd:FuncData) (ps:List Str) (sp:Sp):Prop where
  len:∀ vs H Q E,sp vs H Q E->vs.length=ps.length
  run:∀ (A:Around) (outer:List Env) (s:Shared) (H:Hp) (args:Args) (us:List Value) (vs:List V) (Q:VK) (E:XK),Room k A->Env0 P w K mg base A outer s H->BindsTo s fd args (ps.zip us)->Vals vs us->sp vs H Q E ->
    codeAny (model P w) A (.call (.ref f) args) (CR CX outer P w H s Q E) s
theorem FnOk.mono {P:Program} {w:World} {K:PySem.W.Frag} {mg:Str->Option Value} {base:Heap} {CX:CXT} {j k:Nat} {f:Addr} {fd:FuncData} {ps:List Str} {sp:Sp} (F:FnOk P w K mg base CX j f fd ps sp) (h:j <= k) :
    FnOk P w K mg base CX k f fd ps sp:=⟨F.len,fun A outer s H args us vs Q E hr=>F.run A outer s H args us vs Q E (hr.mono h)⟩
theorem FnOk.imp {P:Program} {w:World} {K:PySem.W.Frag} {mg:Str->Option Value} {base:Heap} {CX:CXT} {k:Nat} {f:Addr} {fd:FuncData} {ps:List Str} {sp sp':Sp} (F:FnOk P w K mg base CX k f fd ps sp)
    (h:∀ vs H Q E,sp' vs H Q E->sp vs H Q E):FnOk P w K mg base CX k f fd ps sp' :=
  ⟨fun vs H Q E q=>F.len vs H Q E (h _ _ _ _ q),fun A outer s H args us vs Q E hr he hb hv hs=>F.run A outer s H args us vs Q E hr he hb hv (h _ _ _ _ hs)⟩
theorem Env0.make {P:Program} {w:World} {K:PySem.W.Frag} {mg:Str->Option Value} {base:Heap} {A:Around} {outer:List Env} {s:Shared} {H:Hp} (e:Env0 P w K mg base A outer s H) (C:Addr) (us:List Value) (kw:List (Str × Value)) :
    Env0 P w K mg base (A.under (.builtin "type.__call__" ⟨.ref C :: us,kw⟩)) outer s H:=⟨by first|exact e.frames|(simpa [Around.under,Code.envs,Code.isFrame,pushEnvs] using e.frames),e.mod,e.bs,e.bsz,e.funs,e.frf,e.hok,e.bare⟩
theorem Env0.in1 {P:Program} {w:World} {K:PySem.W.Frag} {mg:Str->Option Value} {base:Heap} {A:Around} {outer:List Env} {s:Shared} {H:Hp} (e:Env0 P w K mg base A outer s H) :
    Env0 P w K mg base A.in1 outer s H:=⟨e.frames,e.mod,e.bs,e.bsz,e.funs,e.frf,e.hok,e.bare⟩
section
variable {X:Cx} {pins:List (Addr × Obj)} {σ:St} {H:Hp} {s s':Shared}
theorem Inv.env0 (I:Inv X pins σ H s):Env0 X.prog X.w X.K X.mg X.base X.A X.stack s H :=
  ⟨I.ok.frames,I.ok.mod,I.bs,Nat.le_trans I.ok.bsz I.sz,I.stack,I.stkFree,I.hok,I.bare⟩
theorem Inv.after {Q:VK} {u:Value} (I:Inv X pins σ H s) (h:CE X.stack X.prog X.w H s Q u s'):EP X pins σ Q u s':=by
  obtain ⟨v,H',os,bare,un,hok,r,q⟩:=h
  obtain ⟨hh,g,d,t,os'⟩:=s'
  obtain rfl:os'=s.os:=os
  exact ⟨v,H',I.call (h':=hh) (g':=g) (d':=d) (t':=t) (ch:=[]) un hok bare (fun b z=>absurd z (by simp)),r,q⟩
end
noncomputable def tCall (sp:Sp) (dvs:List V) (E:XK) (t:TA):TE:=fun σ H Q=>t σ H fun vs H1=>sp (vs ++ dvs) H1 Q E
noncomputable def tMeth (C:Addr) (m:Str) (sp:Sp) (dvs:List V) (E:XK) (ta:TE) (t:TA):TE:=fun σ H Q=>ta σ H fun x H1=>∃ a dx fs,x=.ref a/\H1 a=some (.ins C dx fs)/\fs.lookup m=none /\
  t σ H1 fun vs H2=>sp (x :: (vs ++ dvs)) H2 Q E
noncomputable def tMake (C:Addr) (sp:Sp) (dvs:List V) (E:XK) (t:TA):TE:=fun σ H Q=>t σ H fun vs H1=>∀ x dx,H1 x=none->H1 dx=none->dx ≠ x ->
  sp (.ref x :: (vs ++ dvs)) (upd (upd H1 dx (.own x)) x (.ins C dx [])) (fun v H2=>v=.non/\Q (.ref x) H2) E
noncomputable def Binds (K:PySem.W.Frag) (fd:FuncData) (ps:List Str) (ds:List Value):Prop :=
  ∀ (s:Shared) (us:List Value),K.In s.heap->(us ++ ds).length=ps.length->BindsTo s fd ⟨us,[]⟩ (ps.zip (us ++ ds))
theorem Binds.all {K:PySem.W.Frag} {fd:FuncData} {ps:List Str} (h:∀ us:List Value,us.length=ps.length->bindArgs fd ⟨us,[]⟩=pure (ps.zip us)):Binds K fd ps []:=fun s us _ hl=>by
  rw [List.append_nil] at hl |-
  exact .of_eq (h us hl)
noncomputable def Zef (CX:CXT) (X:Cx) (E:XK):Prop:=∀ (pins:List (Addr × Obj)) (σ:St) (H:Hp) (s:Shared) (e:Value) (s':Shared),Inv X pins σ H s->CX X.stack H s E e s'->X.xe e s'
section
variable {X:Cx} {CX:CXT} {k:Nat} {f C:Addr} {fd:FuncData} {ps:List Str} {sp:Sp} {dvs:List V} {ds:List Value} {E:XK} {x m:Str} {p pos apos:Pos} {e o:Expr} {es:List Expr} {ta:TE} {t:TA}
theorem Ze7 {pins:List (Addr × Obj)} {σ:St} {H:Hp} {s:Shared} {Q:VK} {us:List Value} {vs:List V} (F:FnOk X.prog X.w X.K X.mg X.base CX k f fd ps sp) (hr:Room k X.A) (hb:Binds X.K fd ps ds) (hd:Vals dvs ds) (hx:Zef CX X E)
    (I:Inv X pins σ H s) (r:Vals vs us) (h:sp (vs ++ dvs) H Q E):wpAny (model X.prog X.w) X.A (call (.ref f) us) (EP X pins σ Q) X.xe s:=by
  have r2:Vals (vs ++ dvs) (us ++ ds):=r.append hd
  have hl:(us ++ ds).length=ps.length:=by rw [<- r2.length]; exact F.len _ _ _ _ h
  refine wpAny_call (codeAny_mono (F.run X.A X.stack s H ⟨us,[]⟩ (us ++ ds) (vs ++ dvs) Q E hr I.env0 (hb s us I.kIn hl) r2 h) fun r s' hq=>?_)
  cases r with
  | error e=>exact hx pins σ H s e s' I hq
  | ok fl =>
    cases fl with
    | ret u=>exact I.after hq
    | next=>exact False.elim hq
    | brk=>exact False.elim hq
    | cont=>exact False.elim hq
theorem ZjB (F:FnOk X.prog X.w X.K X.mg X.base CX k f fd ps sp) (hr:Room k X.A) (hg:Gl X x) (hm:X.mg x=some (.ref f)) (hk:PySem.W.keepIn X.K (.ref f)=true) (hb:Binds X.K fd ps ds) (hd:Vals dvs ds) (hx:Zef CX X E)
    (ha:PA X (e :: es) t) (hdb:(x == ("__debug__" : Str))=false:=by decide) (he:starEach (e :: es) X.env=(false,eval e X.env) :: starEach es X.env:=by rfl) (hpl:(backTo pos (starEach es X.env)).any (·.1)=false:=by rfl) :
    PE X (.Call (.Name x p) (e :: es) [] pos) (tCall sp dvs E t):=by
  intro pins s σ H Q I h
  refine wpAny_Call_Name_kw (Zha I hg hm ?_ hdb)
  refine PySem.W.callWith_K (h₀:=X.base) I.ok.mod.kin hk (thn (ha pos pins s σ H _ I h) fun us s1 ⟨vs,H1,I1,r,q⟩=>⟨I1.kIn,?_⟩) he hpl
  exact Ze7 F hr hb hd hx I1 r q
theorem Zmf {pl:Sem Bool} (he:PE X o ta) (c:Cls X.K C) (hm:Meth X.K C m f) (F:FnOk X.prog X.w X.K X.mg X.base CX k f fd ps sp) (hr:Room k X.A) (hb:Binds X.K fd ps ds) (hd:Vals dvs ds) (hx:Zef CX X E) (ha:PA X (e :: es) t)
    (hst:starEach (e :: es) X.env=(false,eval e X.env) :: starEach es X.env:=by rfl) (hpl:(backTo pos (starEach es X.env)).any (·.1)=false:=by rfl)
    (ht:eval (.Call (.Attribute o m apos) (e :: es) [] pos) X.env=(do
      let ov <- eval o X.env
      standAt apos.atName
      let (f,first) <- holding [ov] (getMethod ov m pl)
      callWith pos f first (backTo pos (starEach (e :: es) X.env)) (backToKw pos (keywordEach [] X.env))):=by rfl) :
    PE X (.Call (.Attribute o m apos) (e :: es) [] pos) (tMeth C m sp dvs E ta t):=by
  intro pins s σ H Q I h
  refine PySem.W.methodCall_KW (pl:=pl) (thn (he pins s σ H _ I h) fun u s1 ⟨x,H1,I1,rx,a,dx,fs,ex,ea,l,q⟩=>?_) ht
  subst ex
  obtain rfl:u=Value.ref a:=rx
  refine Zb4 I1 ea c hm l ?_
  refine PySem.W.callWith_K (first:=[.ref a]) (h₀:=X.base) I.ok.mod.kin hm.kp (thn (ha pos pins s1 σ H1 _ I1 q) fun us s2 ⟨vs,H2,I2,r,q2⟩=>⟨I2.kIn,?_⟩) hst hpl
  exact Ze7 (us:=.ref a :: us) (vs:=.ref a :: vs) F hr hb hd hx I2 (.cons rfl r) q2
theorem ZkU {pl:Sem Bool} (he:PE X o ta) (c:Cls X.K C) (hm:Meth X.K C m f) (F:FnOk X.prog X.w X.K X.mg X.base CX k f fd ps sp) (hr:Room k X.A) (hb:Binds X.K fd ps ds) (hd:Vals dvs ds) (hx:Zef CX X E)
    (ht:eval (.Call (.Attribute o m apos) [] [] pos) X.env=(do
      let ov <- eval o X.env
      standAt apos.atName
      let (f,first) <- holding [ov] (getMethod ov m pl)
      callWith pos f first (backTo pos (starEach [] X.env)) (backToKw pos (keywordEach [] X.env))):=by rfl) :
    PE X (.Call (.Attribute o m apos) [] [] pos) (tMeth C m sp dvs E ta tNil):=by
  intro pins s σ H Q I h
  refine PySem.W.methodCall_KW (pl:=pl) (thn (he pins s σ H _ I h) fun u s1 ⟨x,H1,I1,rx,a,dx,fs,ex,ea,l,q⟩=>?_) ht
  subst ex
  obtain rfl:u=Value.ref a:=rx
  refine Zb4 I1 ea c hm l ?_
  exact PySem.W.callWith_K0 (first:=[.ref a]) I1.kIn hm.kp (Ze7 (us:=[.ref a]) (vs:=[.ref a]) F hr hb hd hx I1 (.cons rfl .nil) q)
structure Mk (K:PySem.W.Frag) (C f:Addr):Prop where
  makes:PySem.W.makesIn K C=true
  init:PySem.W.findIn K (.ref C) "__init__" = some (some (.ref f))
  fn:PySem.W.isFn K (.ref f)=true
  kp:PySem.W.keepIn K (.ref C)=true
theorem ZkV {pins:List (Addr × Obj)} {σ:St} {H:Hp} {s:Shared} {Q:VK} {us:List Value} {vs:List V} (M:Mk X.K C f) (F:FnOk X.prog X.w X.K X.mg X.base CX k f fd ps sp) (hr:Room (k + 1) X.A) (hb:Binds X.K fd ps ds) (hd:Vals dvs ds)
    (hx:Zef CX X E) (I:Inv X pins σ H s) (r:Vals vs us)
    (h:∀ x dx,H x=none->H dx=none->dx ≠ x->sp (.ref x :: (vs ++ dvs)) (upd (upd H dx (.own x)) x (.ins C dx [])) (fun v H2=>v=.non/\Q (.ref x) H2) E) :
    wpAny (model X.prog X.w) X.A (call (.ref C) us) (EP X pins σ Q) X.xe s:=by
  have hq:=h (s.heap.objs.size + 1) s.heap.objs.size (I.hok.fresh (Nat.le_succ _)) (I.hok.fresh (Nat.le_refl _)) (Nat.ne_of_lt (Nat.lt_succ_self _))
  have I2:=Inv.made (C:=C) I
  have r2:Vals (V.ref (s.heap.objs.size + 1) :: (vs ++ dvs)) (Value.ref (s.heap.objs.size + 1) :: (us ++ ds)):=.cons rfl (r.append hd)
  have hl:(Value.ref (s.heap.objs.size + 1) :: us ++ ds).length=ps.length:=by
    have e:=r2.length
    rw [F.len _ _ _ _ hq] at e
    exact e.symm
  refine wpAny_call (ZkT (f:=f) I.kIn M.makes M.init (beq_iff_eq.mp M.fn) (codeAny_mono (F.run _ X.stack _ _ ⟨Value.ref (s.heap.objs.size + 1) :: us,[]⟩ (Value.ref (s.heap.objs.size + 1) :: (us ++ ds)) _ _ E (hr.make C us [])
    (I2.env0.make C us []) (hb _ (Value.ref (s.heap.objs.size + 1) :: us) I2.kIn hl) r2 hq) fun r s' hq'=>?_))
  cases r with
  | error e=>exact hx pins σ _ _ e s' I2 hq'
  | ok fl =>
    cases fl with
    | ret u =>
      obtain ⟨v,H',I3,rv,ev,q3⟩:=I2.after hq'
      subst ev
      exact ⟨rv,⟨V.ref (s.heap.objs.size + 1),H',I3,rfl,q3⟩⟩
    | next=>exact False.elim hq'
    | brk=>exact False.elim hq'
    | cont=>exact False.elim hq'
theorem ZjC (M:Mk X.K C f) (F:FnOk X.prog X.w X.K X.mg X.base CX k f fd ps sp) (hr:Room (k + 1) X.A) (hg:Gl X x) (hm:X.mg x=some (.ref C)) (hb:Binds X.K fd ps ds) (hd:Vals dvs ds) (hx:Zef CX X E)
    (ha:PA X (e :: es) t) (hdb:(x == ("__debug__" : Str))=false:=by decide) (he:starEach (e :: es) X.env=(false,eval e X.env) :: starEach es X.env:=by rfl) (hpl:(backTo pos (starEach es X.env)).any (·.1)=false:=by rfl) :
    PE X (.Call (.Name x p) (e :: es) [] pos) (tMake C sp dvs E t):=by
  intro pins s σ H Q I h
  refine wpAny_Call_Name_kw (Zha I hg hm ?_ hdb)
  refine PySem.W.callWith_K (h₀:=X.base) I.ok.mod.kin M.kp (thn (ha pos pins s σ H _ I h) fun us s1 ⟨vs,H1,I1,r,q⟩=>⟨I1.kIn,?_⟩) he hpl
  exact ZkV M F hr hb hd hx I1 r q
end
section
variable {X:Cx} {CX:CXT} {k:Nat} {f C:Addr} {fd:FuncData} {ps ks:List Str} {sp:Sp} {E:XK} {x m:Str} {p pos apos kpos:Pos} {e o:Expr} {es:List Expr} {kws:List Keyword} {te ta:TE} {t tk:TA} {nm:Option Str}
structure KBinds (K:PySem.W.Frag) (fd:FuncData) (ps ks:List Str) (g:List Value->List Value->List Value) (gV:List V->List V->List V):Prop where
  to:∀ (s:Shared) (us ws:List Value),K.In s.heap->(g us ws).length=ps.length->BindsTo s fd ⟨us,ks.zip ws⟩ (ps.zip (g us ws))
  rel:∀ {vs:List V} {us:List Value} {zs:List V} {ws:List Value},Vals vs us->Vals zs ws->Vals (gV vs zs) (g us ws)
variable {g:List Value->List Value->List Value} {gV:List V->List V->List V}
end
structure FnScope (N P:List Str) (sc:Scope):Prop where
  kind:sc.kind=.function
  co:sc.isCoroutine=false
  gen:sc.isGenerator=false
  nd:N.Nodup
  pre:N.take P.length=P
  par:∀ x ∈ P,sc.names.lookup x=some .local\/sc.names.lookup x=some .cell
  nofree:∀ y ∈ sc.names,y.2 ≠ .free
theorem Zgf {kindOf:Str->Option NameKind} {x:Str}:∀ {binds:List (Str × Value)} {m:Str->Option Value},(∀ v,(x,v) ∉ binds)->bindL kindOf binds m x=m x
  | [],_,_=>rfl
  | (n,v) :: r,m,h=>by
    unfold bindL
    rw [Zgf fun w hw=>h w (List.mem_cons_of_mem _ hw)]
    split
    . have:x ≠ n:=by rintro rfl; exact h v List.mem_cons_self
      simp [this]
    . rfl
theorem Zgg {kindOf:Str->Option NameKind} {x:Str}:∀ {binds:List (Str × Value)} {m:Str->Option Value},(∀ v,(x,v) ∉ binds)->bindC kindOf binds m x=m x
  | [],_,_=>rfl
  | (n,v) :: r,m,h=>by
    unfold bindC
    rw [Zgg fun w hw=>h w (List.mem_cons_of_mem _ hw)]
    split
    . rfl
    . have:x ≠ n:=by rintro rfl; exact h v List.mem_cons_self
      simp [this]
theorem Zgh {kindOf:Str->Option NameKind} {x:Str} {v:Value}:∀ {P:List Str} {vs:List Value} {i:Nat} {m:Str->Option Value},P.Nodup->P[i]?=some x->vs[i]?=some v->kindOf x=some .local ->
    bindL kindOf (P.zip vs) m x=some v
  | [],_,_,_,_,h,_,_=>by simp at h
  | _ :: _,[],_,_,_,_,h,_=>by simp at h
  | p :: P,w :: vs,0,m,nd,h1,h2,hk=>by
    simp at h1 h2; subst h1; subst h2
    show bindL kindOf ((p,w) :: P.zip vs) m p=_
    unfold bindL
    rw [Zgf fun v hv=>(List.nodup_cons.mp nd).1 (List.of_mem_zip hv).1,if_pos hk]
    simp
  | p :: P,w :: vs,i + 1,m,nd,h1,h2,hk=>by
    show bindL kindOf ((p,w) :: P.zip vs) m x=_
    unfold bindL
    exact Zgh (i:=i) (List.nodup_cons.mp nd).2 (by simpa using h1) (by simpa using h2) hk
theorem Zgi {kindOf:Str->Option NameKind} {x:Str} {v:Value}:∀ {P:List Str} {vs:List Value} {i:Nat} {m:Str->Option Value},P.Nodup->P[i]?=some x->vs[i]?=some v->kindOf x ≠ some .local ->
    bindC kindOf (P.zip vs) m x=some v
  | [],_,_,_,_,h,_,_=>by simp at h
  | _ :: _,[],_,_,_,_,h,_=>by simp at h
  | p :: P,w :: vs,0,m,nd,h1,h2,hk=>by
    simp at h1 h2; subst h1; subst h2
    show bindC kindOf ((p,w) :: P.zip vs) m p=_
    unfold bindC
    rw [Zgg fun v hv=>(List.nodup_cons.mp nd).1 (List.of_mem_zip hv).1,if_neg hk]
    simp
  | p :: P,w :: vs,i + 1,m,nd,h1,h2,hk=>by
    show bindC kindOf ((p,w) :: P.zip vs) m x=_
    unfold bindC
    exact Zgi (i:=i) (List.nodup_cons.mp nd).2 (by simpa using h1) (by simpa using h2) hk
noncomputable def start (N:List Str) (vs:List V):St:=vs.map some ++ List.replicate (N.length - vs.length) none
noncomputable def cxOf (CX:CXT) (P:Program) (w:World) (K:PySem.W.Frag) (mg:Str->Option Value) (base:Heap) (N:List Str) (qual:Str) (scope:Scope) (f:Addr) (cd:Value) (A:Around) (outer:List Env) (s:Shared) (H:Hp) (E:XK):Cx where
  prog:=P
  w:=w
  K:=K
  mg:=mg
  base:=base
  A:=A.deeper (envOfC qual scope s.heap.objs.size f cd)
  N:=N
  s₀:=s
  H₀:=H
  env:=envOfC qual scope s.heap.objs.size f cd
  outer:=outer
  stack:=envOfC qual scope s.heap.objs.size f cd :: outer
  ex:=[]
  calm:=true
  fn:=fun _=>true
  pn:=[]
  xe:=fun e s'=>wpAny (model P w) (A.deeper (envOfC qual scope s.heap.objs.size f cd)) (leaving (envOfC qual scope s.heap.objs.size f cd) e) (fun _ s''=>CX outer H s E e s'') (fun e' s''=>CX outer H s E e' s'') s'
theorem Zio {sc:Scope} {n:Nat} {x:Str} (h:sc.names.lookup x=some .cell):∃ c,(cellsFrom n sc.names []).lookup x=some c:=by
  have q:=PySem.W.cellsFrom_some sc.names n [] (.inl h)
  exact Option.isSome_iff_exists.mp q
theorem ZjD {CX:CXT} {P:Program} {w:World} {K:PySem.W.Frag} {mg:Str->Option Value} {base:Heap} {N ps:List Str} {qual:Str} {scope:Scope} {f:Addr} {cd:Value} {A:Around} {outer:List Env} {s s1:Shared} {H:Hp} {E:XK} {us:List Value} {vs:List V}
    (S:FnScope N ps scope) (hd:A.handled=none) (e0:Env0 P w K mg base A outer s H) (hl:vs.length=ps.length) (r:Vals vs us)
    (x:InCallC s s.heap.objs.size (bindL (envOfC qual scope s.heap.objs.size f cd).kindOf (ps.zip us) fun _=>none) (cellsFrom (s.heap.objs.size + 1) scope.names []) (bindC (envOfC qual scope s.heap.objs.size f cd).kindOf (ps.zip us) fun _=>none) s1) :
    Inv (cxOf CX P w K mg base N qual scope f cd A outer s H E) [] (start N vs) H s1:=by
  have hpl:ps.length <= N.length:=by have:=congrArg List.length S.pre; rw [List.length_take] at this; omega
  obtain ⟨h1,tk,rfl,hk⟩:=x.done
  have noA:∀ b:Addr,b ∉ (cxOf CX P w K mg base N qual scope f cd A outer s H E).ex:=fun b z=>absurd (show b ∈ ([]:List Addr) from z) (by simp)
  refine ⟨⟨e0.mod,S.kind,rfl,rfl,Nat.le_refl _,fun y z c h1 h2=>?_,fun y hy=>?_,fun y c _ h=>?_,fun _=>hd,Around.frames_deeper e0.frames,.inr ⟨rfl,rfl⟩,fun b z=>absurd z (noA b),e0.bs,e0.bsz,fun b _ _=>noA b,fun b z=>absurd z (noA b),e0.funs,e0.frf⟩,
    rfl,e0.bare,Un.kept hk,⟨_,x.toInCall.ns,fun i y v h1 h2 h3=>?_⟩,fun y c h=>⟨_,x.cell y c h⟩,e0.hok.fresh (Nat.le_refl _),fun y c h=>?_,fun p hp=>absurd (show p ∈ ([]:List (Addr × Obj)) from hp) (by simp),e0.hok.kept hk,?_⟩
  . exact name_of_addr x.apart (PySem.mem_of_lookup h1) (PySem.mem_of_lookup h2)
  . have hy:scope.names.lookup y=some .cell\/scope.names.lookup y=some .free:=hy
    rcases hy with hy|hy
    . exact Zio hy
    . exact absurd rfl (S.nofree _ (PySem.mem_of_lookup hy))
  . exact Nat.le_of_lt (x.above y c (PySem.mem_of_lookup h))
  . have hi:i < vs.length:=by
      unfold start at h2
      by_cases hi:i < vs.length
      . exact hi
      . rw [List.getElem?_append_right (by simpa using hi)] at h2
        rw [List.getElem?_replicate] at h2
        split at h2 <;> cases h2
    have ha:vs[i]?=some v:=by
      unfold start at h2
      rw [List.getElem?_append_left (by simpa using hi),List.getElem?_map] at h2
      cases e:vs[i]? with
      | none=>rw [e] at h2; cases h2
      | some a=>rw [e] at h2; cases h2; rfl
    obtain ⟨u,hu,rv⟩:=r.get ha
    have hp:ps[i]?=some y:=by
      rw [<- S.pre,List.getElem?_take_of_lt (by omega)]; exact h1
    have ndP:ps.Nodup:=by rw [<- S.pre]; exact S.nd.sublist (List.take_sublist _ _)
    refine ⟨u,rv,?_⟩
    rcases S.par y (List.mem_of_getElem? hp) with k|k
    . exact .inl ⟨k,Zgh ndP hp hu k⟩
    . obtain ⟨c,e⟩:=Zio (n:=s.heap.objs.size + 1) k
      refine .inr ⟨.inl k,c,e,?_⟩
      have q:=x.cell y c e
      rw [Zgi ndP hp hu (by show scope.names.lookup y ≠ _; rw [k]; decide)] at q
      exact q
  . exact e0.hok.fresh (Nat.le_of_lt (x.above y c (PySem.mem_of_lookup h)))
  . unfold start
    show _=N.length
    rw [List.length_append,List.length_map,List.length_replicate]
    omega
theorem fn_of {CX:CXT} {P:Program} {w:World} {K:PySem.W.Frag} {mg:Str->Option Value} {base:Heap} {k:Nat} {f:Addr} {name qual:Str} {params:Arguments} {body:List Stmt} {scope:Scope} {dV kV doc pm cdv ct oc:Value} {an od:Option Addr}
    {osl:Array (Option Value)} {N ps:List Str} {sp:Sp} (lk:K.lookup f=some ⟨oc,od,.func (PySem.W.fnOf name qual params body scope dV kV doc pm an cdv ct),osl⟩) (hcd:PySem.W.codeIn K cdv qual=true) (S:FnScope N ps scope)
    (len:∀ vs H Q E,sp vs H Q E->vs.length=ps.length)
    (hbody:∀ (A:Around) (outer:List Env) (s:Shared) (H:Hp) (vs:List V) (Q:VK) (E:XK),Room k (A.deeper (envOfC qual scope s.heap.objs.size f cdv))->sp vs H Q E ->
      ∃ t,PSs (cxOf CX P w K mg base N qual scope f cdv A outer s H E) body t/\t { nx:=fun _ H'=>Q .non H',rt:=Q } (start N vs) H) :
    FnOk P w K mg base CX (k + 1) f (PySem.W.fnOf name qual params body scope dV kV doc pm an cdv ct) ps sp:=by
  refine ⟨len,fun A outer s H args us vs Q E hr e0 hb r hsp=>?_⟩
  have hl:=len _ _ _ _ hsp
  have KX:K.In s.heap:=e0.mod.kin.keeps fun b o e=>(e0.bs b o e).1
  have lim:s.heap.NoLimit:=e0.mod.nolimit.keeps fun b o e=>(e0.bs b o e).1
  have hkind:∀ y ∈ ps.zip us,scope.names.lookup y.1=some .local\/(scope.names.lookup y.1=some .cell/\((cellsFrom (s.heap.objs.size + 1) scope.names []).lookup y.1).isSome=true):=fun ⟨n,v⟩ hy=>by
    rcases S.par n (List.of_mem_zip hy).1 with q|q
    . exact .inl q
    . exact .inr ⟨q,PySem.W.cellsFrom_some _ _ _ (.inl q)⟩
  refine codeAny_call_function hr.depth (KX _ _ lk) rfl S.co S.gen rfl (PySem.W.codeRec_of KX hcd) (hb _ _ _ _ ?_)
  refine wpAny_newFunctionEnv_cells S.kind hkind fun env he s1 x=>?_
  subst he
  refine ⟨lim.keeps x.toInCall.keep,codeAny_func ?_⟩
  obtain ⟨t,ht,hq⟩:=hbody A outer s H vs Q E (hr.deeper _) hsp
  have I:Inv (cxOf CX P w K mg base N qual scope f cdv A outer s H E) [] (start N vs) H s1:=ZjD S hr.hd e0 hl r x
  refine wpAny_mono (ht [] s1 (start N vs) H _ I hq) (fun fl s' hs=>?_) fun e s' hs=>hs
  have fin:∀ {σ':St} {H':Hp} {v:V} {u:Value},Inv (cxOf CX P w K mg base N qual scope f cdv A outer s H E) [] σ' H' s'->RelV v u->Q v H'->CE outer P w H s Q u s' :=
    fun {σ' H' v u} J rv q=>⟨v,H',J.os,J.bare,J.base,J.hok,rv,q⟩
  cases fl with
  | ret u =>
    obtain ⟨v,σ',H',J,rv,q⟩:=hs
    exact fin J rv q
  | next =>
    obtain ⟨σ',H',J,q⟩:=hs
    exact fin (v:=V.non) (u:=Value.none) J rfl q
  | brk =>
    obtain ⟨_,_,_,q⟩:=hs
    exact False.elim q
  | cont =>
    obtain ⟨_,_,_,q⟩:=hs
    exact False.elim q
end L2
namespace L2
open PySem PySem.Spec PyProof.Rows
section
variable {X:Cx} {x:Str} {p pos:Pos} {e:Expr} {es:List Expr} {t:TA} {id T:String} {r:List V->Hp->VK->Prop}
noncomputable def tCB (r:List V->Hp->VK->Prop) (t:TA):TE:=fun σ H Q=>t σ H fun vs H1=>r vs H1 Q
theorem ZaG (hc:CallR X (.builtin id) r) (hg:Gl X x) (hm:X.mg x=none) (hv:bootBuiltins x=some (.builtin id)) (ha:PA X (e :: es) t) (hn:x ≠ "__name__" := by decide) (hdb:(x == ("__debug__" : Str))=false:=by decide)
    (he:starEach (e :: es) X.env=(false,eval e X.env) :: starEach es X.env:=by rfl) (hpl:(backTo pos (starEach es X.env)).any (·.1)=false:=by rfl):PE X (.Call (.Name x p) (e :: es) [] pos) (tCB r t):=by
  intro pins s σ H Q I h
  refine wpAny_Call_Name_kw (Ze2 I hg hm hv ?_ hn hdb)
  exact PyProof.Rows.callWith_builtin1 (thn (ha pos pins s σ H _ I h) fun us s1 ⟨vs,H1,I1,r1,q1⟩=>hc pins s1 σ H1 vs us Q I1 r1 q1) he hpl
theorem Zb5 (hc:CallR X (.type T) r) (hg:Gl X x) (hm:X.mg x=none) (hv:bootBuiltins x=some (.type T)) (ha:PA X (e :: es) t) (hn:x ≠ "__name__" := by decide) (hdb:(x == ("__debug__" : Str))=false:=by decide)
    (he:starEach (e :: es) X.env=(false,eval e X.env) :: starEach es X.env:=by rfl) (hpl:(backTo pos (starEach es X.env)).any (·.1)=false:=by rfl):PE X (.Call (.Name x p) (e :: es) [] pos) (tCB r t):=by
  intro pins s σ H Q I h
  refine wpAny_Call_Name_kw (Ze2 I hg hm hv ?_ hn hdb)
  exact PyProof.Rows.callWith_type1 (thn (ha pos pins s σ H _ I h) fun us s1 ⟨vs,H1,I1,r1,q1⟩=>hc pins s1 σ H1 vs us Q I1 r1 q1) he hpl
end
end L2
namespace HT
open PySem PyProof.Rows
section
open PySem.SeqAt
open PySem.AutoSeq1 (wpAny_loadPart')
open PySem.MeetsSeq PySem.MeetsSeq2 PySem.MeetsSeq3
end
section
variable {prog:Program} {w:World} {A:Around} {E:Value->Shared->Prop} {s:Shared}
noncomputable def sIx (n d:Nat):Option Int->Nat
  | none=>d
  | some v=>if v < 0 then (v + (n:Int)).toNat else min v.toNat n
end
end HT
namespace L2
open PySem PySem.Spec PyProof.Rows
noncomputable abbrev TO:=St->Hp->(Option Int->Hp->Prop)->Prop
noncomputable def PO (X:Cx) (e:Option Expr) (t:TO):Prop :=
  ∀ (pins:List (Addr × Obj)) (s:Shared) (σ:St) (H:Hp) (Q:Option Int->Hp->Prop),Inv X pins σ H s->t σ H Q ->
    wpAny (model X.prog X.w) X.A (evalPart e X.env) (fun u s'=>∃ o H',Inv X pins σ H' s'/\IsPart u o/\Q o H') X.xe s
noncomputable def tPart (t:TE):TO:=fun σ H Q=>t σ H fun x H1=>∃ i,x=.int i/\Q (some i) H1
section
variable {X:Cx} {e:Expr} {te:TE} {lo hi:Option Expr} {tl th:TO} {pos p2:Pos}
theorem ZjE (h:PE X e te):PO X (some e) (tPart te):=by
  intro pins s σ H Q I hw
  rw [evalPart_some]
  refine thn (h pins s σ H _ I hw) fun u s1 ⟨x,H1,I1,r1,q1⟩=>?_
  obtain ⟨i,rfl,q⟩:=q1
  obtain ⟨t,rfl⟩:=r1
  exact ⟨some i,H1,I1,.int i t,q⟩
noncomputable def SlR (X:Cx) (r:V->Option Int->Option Int->Hp->VK->Prop):Prop :=
  ∀ (pins:List (Addr × Obj)) (s:Shared) (σ:St) (H:Hp) (x:V) (v vl vu:Value) (lo hi:Option Int) (sl:Addr) (Q:VK),Inv X pins σ H s->RelV x v->s.heap.IsSliceOf sl vl vu .none->IsPart vl lo->IsPart vu hi->r x lo hi H Q ->
    ∃ T id,typeLookup (.type T) "__getitem__" = pure (some (.builtin id))/\s.TypeIs v T/\wpAny (model X.prog X.w) X.A (getItem v (.ref sl)) (EP X pins σ Q) X.xe s
theorem SlR.or {r r':V->Option Int->Option Int->Hp->VK->Prop} (h:SlR X r) (h':SlR X r'):SlR X (fun x lo hi H Q=>r x lo hi H Q\/r' x lo hi H Q):=by
  intro pins s σ H x v vl vu lo hi sl Q I rx hs pl pu q
  rcases q with q|q
  . exact h pins s σ H x v vl vu lo hi sl Q I rx hs pl pu q
  . exact h' pins s σ H x v vl vu lo hi sl Q I rx hs pl pu q
noncomputable def tSl (r:V->Option Int->Option Int->Hp->VK->Prop) (te:TE) (tl th:TO):TE:=fun σ H Q=>te σ H fun x H1=>tl σ H1 fun l H2=>th σ H2 fun u H3=>r x l u H3 Q
theorem ZkW {r:V->Option Int->Option Int->Hp->VK->Prop} (hr:SlR X r) (he:PE X e te) (hl:PO X lo tl) (hu:PO X hi th):PE X (.Subscript e (.Slice lo hi none p2) pos) (tSl r te tl th):=by
  intro pins s σ H Q I h
  refine Subscript_ (thn (he pins s σ H _ I h) fun v s1 ⟨x,H1,I1,r1,q1⟩=>?_)
  refine wpAny_Slice (thn (hl pins s1 σ H1 _ I1 q1) fun vl s2 ⟨l,H2,I2,pl,q2⟩=>thn (hu pins s2 σ H2 _ I2 q2) fun vu s3 ⟨u,H3,I3,pu,q3⟩=>?_)
  rw [evalPart_none]
  refine wpAny_pure ?_
  have I4:Inv X pins σ H3 { s3 with heap:=s3.heap.push { cls:=.type "slice", data:=.fields #[vl,vu,.none] } }:=I3.kept (t':=s3.toks) fun b ob q=>Heap.get?_push_of_some _ q
  obtain ⟨T,id,hT,ht,hg⟩:=hr pins { s3 with heap:=s3.heap.push { cls:=.type "slice", data:=.fields #[vl,vu,.none] } } σ H3 x v vl vu l u s3.heap.objs.size Q I4 r1 (Heap.IsSliceOf.new ..) pl pu q3
  show wpAny (model X.prog X.w) X.A (subscriptTail e (.Slice lo hi none p2) v (.ref s3.heap.objs.size)) (EP X pins σ Q) X.xe { s3 with heap:=s3.heap.push { cls:=.type "slice", data:=.fields #[vl,vu,.none] } }
  exact tail_any (ops:=[.ref s3.heap.objs.size,v]) ht hT hg (by with_unfolding_all rfl)
noncomputable def cutV (xs:List V) (lo hi:Option Int):List V:=(xs.drop (HT.sIx xs.length 0 lo)).take (HT.sIx xs.length xs.length hi - HT.sIx xs.length 0 lo)
theorem Zhe (xs:List V) (lo hi:Option Int):(cutV xs lo hi).length <= xs.length:=by
  unfold cutV
  rw [List.length_take,List.length_drop]
  omega
end
end L2
namespace L2
open PySem PySem.Spec PyProof.Rows
noncomputable def ixN (n:Nat) (i:Int):Option Nat:=if 0 <= i then (if i < n then some i.toNat else none) else if -(n:Int) <= i then some (i + n).toNat else none
noncomputable def atI {α:Type} (xs:List α) (i:Int):Option α:=(ixN xs.length i).bind fun j=>xs[j]?
theorem ZjF {n:Nat} {i:Int} {j:Nat} (h:ixN n i=some j):seqIndex? i n=some j/\j < n/\-(n:Int) <= i/\i < n:=by
  unfold ixN at h
  by_cases h0:0 <= i
  . rw [if_pos h0] at h
    by_cases h1:i < n
    . rw [if_pos h1] at h
      have e:i.toNat=j:=Option.some.inj h
      exact ⟨by rw [seqIndex_of h0 h1,e],by omega,by omega,h1⟩
    . rw [if_neg h1] at h; cases h
  . rw [if_neg h0] at h
    by_cases h1:-(n:Int) <= i
    . rw [if_pos h1] at h
      have e:(i + n).toNat=j:=Option.some.inj h
      exact ⟨by rw [seqIndex_neg (by omega) h1,e],by omega,h1,by omega⟩
    . rw [if_neg h1] at h; cases h
theorem Zhf {α:Type} {xs:List α} {i:Int} {v:α} (h:atI xs i=some v):∃ j,seqIndex? i xs.length=some j/\xs[j]?=some v/\j < xs.length/\-(xs.length:Int) <= i/\i < xs.length:=by
  unfold atI at h
  cases e:ixN xs.length i with
  | none=>rw [e] at h; cases h
  | some j =>
    rw [e] at h
    obtain ⟨h1,h2,h3,h4⟩:=ZjF e
    exact ⟨j,h1,h,h2,h3,h4⟩
theorem Zhg {α:Type} {xs:List α} {j:Nat} {v:α} (h:xs[j]?=some v):atI xs (j:Int)=some v:=by
  have hj:j < xs.length:=(List.getElem?_eq_some_iff.mp h).1
  have e:ixN xs.length (j:Int)=some j:=by
    unfold ixN
    rw [if_pos (by omega),if_pos (by omega)]; simp
  unfold atI; rw [e]; exact h
theorem ZkX {α:Type} (xs:List α) (v:α):atI (xs ++ [v]) (-1)=some v:=by
  have hl:(xs ++ [v]).length=xs.length + 1:=by simp
  have e:ixN (xs ++ [v]).length (-1)=some xs.length:=by
    unfold ixN
    rw [hl,if_neg (by decide),if_pos (by omega)]
    congr 1
    omega
  unfold atI
  rw [e]
  show (xs ++ [v])[xs.length]?=some v
  simp
noncomputable def Zmg (b:Expr):Prop:=∀ o i,subscripted b false o i=operate [o,i] (getItem o i)
noncomputable def IxR (X:Cx) (r:R2):Prop :=
  ∀ (value slice:Expr) (pins:List (Addr × Obj)) (s:Shared) (σ:St) (H:Hp) (x y:V) (v u:Value) (Q:VK),Inv X pins σ H s->RelV x v->RelV y u->r x y H Q ->
    subscripted slice false v u=operate [v,u] (getItem v u)->wpAny (model X.prog X.w) X.A (subscriptTail value slice v u) (EP X pins σ Q) X.xe s
noncomputable def MtR (X:Cx) (id:String) (r:V->List V->Hp->VK->Prop):Prop :=
  ∀ (pins:List (Addr × Obj)) (s:Shared) (σ:St) (H:Hp) (x:V) (xs:List V) (v:Value) (us:List Value) (Q:VK),Inv X pins σ H s->RelV x v->Vals xs us->r x xs H Q ->
    wpAny (model X.prog X.w) X.A (call (.builtin id) (v :: us)) (EP X pins σ Q) X.xe s
section
variable {X:Cx} {a b:Expr} {ta tb:TE} {pos:Pos}
theorem IxR.or {r r':R2} (h:IxR X r) (h':IxR X r'):IxR X (fun x y H Q=>r x y H Q\/r' x y H Q):=by
  intro value slice pins s σ H x y v u Q I rx ry q hs
  rcases q with q|q
  . exact h value slice pins s σ H x y v u Q I rx ry q hs
  . exact h' value slice pins s σ H x y v u Q I rx ry q hs
theorem MtR.or {id:String} {r r':V->List V->Hp->VK->Prop} (h:MtR X id r) (h':MtR X id r'):MtR X id (fun x xs H Q=>r x xs H Q\/r' x xs H Q):=by
  intro pins s σ H x xs v us Q I rx rs q
  rcases q with q|q
  . exact h pins s σ H x xs v us Q I rx rs q
  . exact h' pins s σ H x xs v us Q I rx rs q
theorem ZaI {r:R2} (hr:IxR X r) (ha:PE X a ta) (hb:PE X b tb) (hs:Zmg b):PE X (.Subscript a b pos) (tOp r ta tb):=by
  intro pins s σ H Q I h
  exact Subscript_ (binT ha hb I h fun v u s2 x y H2 I2 rx ry q=>hr a b pins s2 σ H2 x y v u Q I2 rx ry q (hs _ _))
noncomputable def rIxL (K:PySem.W.Frag):R2:=fun x y H Q=>∃ p xs i v,x=.ref p/\y=.int i/\SqL K H p xs/\atI xs i=some v/\Q v H
noncomputable def rIxT (K:PySem.W.Frag):R2:=fun x y H Q=>∃ p xs i v,x=.ref p/\y=.int i/\SqT K H p xs/\atI xs i=some v/\Q v H
noncomputable def rIxS:R2:=fun x y H Q=>∃ z i c,x=.str z/\y=.int i/\z.length <= sizeLine/\atI z.cps.toList i=some c/\Q (.str ⟨#[c]⟩) H
theorem ZaA:IxR X (rIxL X.K):=by
  intro value slice pins s σ H x y v u Q I rx ry h hs
  obtain ⟨p,xs,i,z,rfl,rfl,hq,he,q⟩:=h
  cases rx
  obtain ⟨t,rfl⟩:=ry
  obtain ⟨its,r,pl,hz⟩:=I.list hq
  obtain ⟨j,h1,h2,h3,h4,h5⟩:=Zhf he
  obtain ⟨w,ew,rw'⟩:=r.get h2
  have hl:=r.length
  have hn:=line63
  have fin:EP X pins σ Q w s:=⟨z,H,I,rw',q⟩
  by_cases h0:0 <= i
  . have hj:i.toNat=j:=by
      rw [seqIndex_of h0 h5] at h1
      exact Option.some.inj h1
    exact item_listR pl.isList h0 (by omega) (by rw [hj]; simpa using ew) fin hs
  . have hj:(i + (its.toArray.size:Int)).toNat=j:=by
      rw [seqIndex_neg (by omega) h4] at h1
      rw [List.size_toArray,<- hl]
      exact Option.some.inj h1
    exact subscriptTail_builtinR (x:=w) pl.isList.typeIs slot_list_getitem.lookup
      (wpAny_getItem_list_neg (Q:=fun r s'=>r=w/\EP X pins σ Q r s') pl.isList (by omega) (by rw [List.size_toArray] <;> omega) (by omega) (by rw [hj]; simpa using ew) ⟨rfl,fin⟩) hs
theorem Zbc:IxR X (rIxT X.K):=by
  intro value slice pins s σ H x y v u Q I rx ry h hs
  obtain ⟨p,xs,i,z,rfl,rfl,hq,he,q⟩:=h
  cases rx
  obtain ⟨t,rfl⟩:=ry
  obtain ⟨its,r,pl,hz⟩:=I.tuple hq
  obtain ⟨j,h1,h2,h3,h4,h5⟩:=Zhf he
  obtain ⟨w,ew,rw'⟩:=r.get h2
  have hl:=r.length
  have hn:=line63
  have fin:EP X pins σ Q w s:=⟨z,H,I,rw',q⟩
  exact subscriptTail_builtinR (x:=w) pl.typeIs slot_tuple_getitem.lookup
    (getItem_tuple (j:=j) (Q:=fun r s'=>r=w/\EP X pins σ Q r s') pl (by omega) (by omega) (by rw [List.size_toArray,<- hl]; exact h1) (by simpa using ew) ⟨rfl,fin⟩) hs
theorem ix_str:IxR X rIxS:=by
  intro value slice pins s σ H x y v u Q I rx ry h hs
  obtain ⟨z,i,c,rfl,rfl,hz,he,q⟩:=h
  obtain ⟨t,rfl⟩:=rx
  obtain ⟨t',rfl⟩:=ry
  obtain ⟨j,h1,h2,h3,h4,h5⟩:=Zhf he
  have hl:z.cps.toList.length=z.length:=by simp [Str.length]
  rw [hl] at h1 h4 h5
  have hn:=line63
  exact tail_any (typeIs_str s z t) slot_str_getitem.lookup (getItem_str (c:=c) (by
    have e1:decide (i < -(2 ^ 63:Int))=false:=decide_eq_false (by omega)
    have e2:decide (i >= 2 ^ 63)=false:=decide_eq_false (by omega)
    rw [e1,e2,Bool.or_false]) (by rw [h1]; simpa using h2) ⟨.str ⟨#[c]⟩,H,I.tok _,⟨_,rfl⟩,q⟩) hs
noncomputable def rIx (K:PySem.W.Frag):R2:=fun x y H Q=>rIxL K x y H Q\/rIxT K x y H Q\/rIxS x y H Q
theorem ZlM:IxR X (rIx X.K):=ZaA.or (Zbc.or ix_str)
theorem ZiV (its:List Value) (n j:Nat) (u:Value):Obj.mapSeq (·.setIfInBounds j u) { cls:=.type "list", data:=.seq its.toArray n }={ cls:=.type "list", data:=.seq (its.set j u).toArray n }:=by
  simp [Obj.mapSeq]
theorem Inv.lst {pins:List (Addr × Obj)} {σ:St} {H:Hp} {s:Shared} {p:Addr} {xs:List V} (I:Inv X pins σ H s) (h:H p=some (.lst xs)) :
    ∃ (its:List Value) (n:Nat),Vals xs its/\s.heap.get? p=some { cls:=.type "list", data:=.seq its.toArray n }/\xs.length <= sizeLine:=by
  obtain ⟨z,its,n,r,e⟩:=I.hok p _ h
  exact ⟨its,n,r,e,z⟩
theorem Inv.lstUpd {pins:List (Addr × Obj)} {σ:St} {H:Hp} {s:Shared} {p:Addr} {xs ys:List V} {its its':List Value} {n n':Nat} {f:Obj->Obj} (I:Inv X pins σ H s) (h:H p=some (.lst xs))
    (ho:s.heap.get? p=some { cls:=.type "list", data:=.seq its.toArray n }) (hf:f { cls:=.type "list", data:=.seq its.toArray n }={ cls:=.type "list", data:=.seq its'.toArray n' }) (r:Vals ys its') (hz:ys.length <= sizeLine) (t:Nat) :
    Inv X pins σ (upd H p (.lst ys)) { s with heap:=s.heap.update p f,toks:=t }:=by
  have e:(s.heap.update p f).get? p=some { cls:=.type "list", data:=.seq its'.toArray n' }:=by
    rw [Heap.get?_update_self f ho (by rw [hf] <;> rfl),hf]
  refine I.write (x:=p) (e:=p) (by rw [h]; trivial) (.inl rfl) (fun b u hb q=>(Heap.get?_update_other _ _ (Ne.symm hb)).trans q) ⟨_,e⟩ ?_
  exact ⟨hz,its',n',r,e⟩
noncomputable def rSetL:V->V->V->Hp->(Hp->Prop)->Prop:=fun o i v H Q=>∃ p xs k j,o=.ref p/\i=.int k/\H p=some (.lst xs)/\ixN xs.length k=some j/\Q (upd H p (.lst (xs.set j v)))
theorem Zd4:PSet X rSetL:=by
  intro pins s σ H o i v ov iv u Q I ro ri rv h
  obtain ⟨p,xs,k,j,rfl,rfl,hp,hj,q⟩:=h
  cases ro
  obtain ⟨t,rfl⟩:=ri
  obtain ⟨its,n,r,ho,hz⟩:=I.lst hp
  obtain ⟨h1,h2,h3,h4⟩:=ZjF hj
  have hl:=r.length
  have hn:=line63
  have I':Inv X pins σ (upd H p (.lst (xs.set j v))) { s with heap:=s.heap.update p (Obj.mapSeq (·.setIfInBounds j u)) } :=
    I.lstUpd hp ho (ZiV its n j u) (r.set rv j) (by rw [List.length_set]; exact hz) s.toks
  by_cases h0:0 <= k
  . have hk:k.toNat=j:=by
      rw [seqIndex_of h0 h4] at h1
      exact Option.some.inj h1
    exact PySem.W.ki_setAt ho h0 (by omega) (by rw [List.size_toArray,<- hl]; exact h4) (by rw [hk]; exact ⟨_,I',q⟩)
  . have hk:(k + (its.toArray.size:Int)).toNat=j:=by
      rw [seqIndex_neg (by omega) h3] at h1
      rw [List.size_toArray,<- hl]
      exact Option.some.inj h1
    exact PySem.W.ki_setBack ho (by omega) (by rw [List.size_toArray,<- hl]; exact h3) (by omega) (by rw [hk]; exact ⟨_,I',q⟩)
theorem Zgj (lo hi:Option Int) (n:Nat):(sliceBounds lo hi none n).1=((HT.sIx n 0 lo:Nat):Int)/\(sliceBounds lo hi none n).2.1=((HT.sIx n n hi:Nat):Int)/\(sliceBounds lo hi none n).2.2=1:=by
  refine ⟨?_,?_,rfl⟩
  . cases lo with
    | none=>simp [sliceBounds,HT.sIx]
    | some i =>
      simp only [sliceBounds,HT.sIx,Option.getD_none,show (1:Int) > 0 by decide,if_true]
      by_cases h:i < 0
      . simp only [h,if_true] <;> omega
      . simp only [h,if_false] <;> omega
  . cases hi with
    | none=>simp [sliceBounds,HT.sIx]
    | some i =>
      simp only [sliceBounds,HT.sIx,Option.getD_none,show (1:Int) > 0 by decide,if_true]
      by_cases h:i < 0
      . simp only [h,if_true] <;> omega
      . simp only [h,if_false] <;> omega
theorem Zfj (its:List Value) (lo hi:Option Int):slicePick its.toArray lo hi none=((its.drop (HT.sIx its.length 0 lo)).take (HT.sIx its.length its.length hi - HT.sIx its.length 0 lo)).toArray:=by
  obtain ⟨h1,h2,h3⟩:=Zgj lo hi its.toArray.size
  unfold slicePick
  rw [h1,h2,h3]
  simp only [sliceRange_one,pick_run,List.size_toArray] <;> rfl
noncomputable def rSlL (K:PySem.W.Frag):V->Option Int->Option Int->Hp->VK->Prop:=fun x lo hi H Q=>∃ a xs,x=.ref a/\SqL K H a xs/\∀ p,H p=none->Q (.ref p) (upd H p (.lst (cutV xs lo hi)))
theorem Zmh:SlR X (rSlL X.K):=by
  intro pins s σ H x v vl vu lo hi sl Q I rx hs pl pu h
  obtain ⟨a,xs,rfl,hx,q⟩:=h
  cases rx
  obtain ⟨its,r,ht,hz⟩:=I.list hx
  have hlen:=r.length
  refine ⟨"list", _,slot_list_getitem.lookup,ht.isList.typeIs,?_⟩
  refine wpAny_getItem_list_slice ht.isList hs pl pu .none (by simp) ?_ (by rw [List.size_toArray] <;> omega)
  rw [Zfj,<- hlen]
  refine ⟨.ref s.heap.objs.size,_,I.laid (t':=s.toks) (o:=.lst (cutV xs lo hi)) (fun b ob q=>Heap.get?_push_of_some _ q) (Nat.le_refl _) ?_,rfl,q _ (I.hok.fresh (Nat.le_refl _))⟩
  exact ⟨Nat.le_trans (Zhe xs lo hi) hz,_,0,(r.drop (HT.sIx xs.length 0 lo)).take (HT.sIx xs.length xs.length hi - HT.sIx xs.length 0 lo),Heap.get?_push_size _ rfl⟩
noncomputable def flatV:V->Bool
  | .non=>true
  | .bl _=>true
  | .int _=>true
  | .str _=>true
  | _=>false
noncomputable def eqV:V->V->Bool
  | .non,.non=>true
  | .bl a,.bl b=>a == b
  | .bl a,.int b=>(if a then 1 else 0) == b
  | .int a,.bl b=>a == (if b then 1 else 0)
  | .int a,.int b=>a == b
  | .str a,.str b=>a == b
  | _,_=>false
theorem eqAt_V {A:Around} {s:Shared} {y x:V} {u v:Value} (ry:RelV y u) (rx:RelV x v) (fy:flatV y=true) (fx:flatV x=true):SeqAt.EqAt A s u v (eqV y x):=by
  cases y with
  | non =>
    cases ry
    cases x with
    | non=>cases rx; exact SeqAt.EqAt.same _
    | bl b=>cases rx; exact SeqAt.EqAt.none_bool b
    | int b=>obtain ⟨t,rfl⟩:=rx; exact SeqAt.EqAt.none_int b t
    | str b=>obtain ⟨t,rfl⟩:=rx; exact SeqAt.EqAt.none_str b t
    | _=>exact absurd (show false=true from fx) Bool.false_ne_true
  | bl a =>
    cases ry
    cases x with
    | non=>cases rx; exact SeqAt.EqAt.bool_none a
    | bl b=>cases rx; exact SeqAt.EqAt.bool_bool a b
    | int b=>obtain ⟨t,rfl⟩:=rx; exact SeqAt.EqAt.bool_int a b t
    | str b=>obtain ⟨t,rfl⟩:=rx; exact SeqAt.EqAt.bool_str a b t
    | _=>exact absurd (show false=true from fx) Bool.false_ne_true
  | int a =>
    obtain ⟨t',rfl⟩:=ry
    cases x with
    | non=>cases rx; exact SeqAt.EqAt.int_none a t'
    | bl b=>cases rx; exact SeqAt.EqAt.int_bool a t' b
    | int b=>obtain ⟨t,rfl⟩:=rx; exact SeqAt.EqAt.int_int a t' b t
    | str b=>obtain ⟨t,rfl⟩:=rx; exact SeqAt.EqAt.int_str a t' b t
    | _=>exact absurd (show false=true from fx) Bool.false_ne_true
  | str a =>
    obtain ⟨t',rfl⟩:=ry
    cases x with
    | non=>cases rx; exact SeqAt.EqAt.str_none a t'
    | bl b=>cases rx; exact SeqAt.EqAt.str_bool a t' b
    | int b=>obtain ⟨t,rfl⟩:=rx; exact SeqAt.EqAt.str_int a t' b t
    | str b=>obtain ⟨t,rfl⟩:=rx; exact SeqAt.EqAt.str_str a t' b t
    | _=>exact absurd (show false=true from fx) Bool.false_ne_true
  | _=>exact absurd (show false=true from fy) Bool.false_ne_true
noncomputable def eqU (x:V) (u:Value):Bool:=match u with
  | .none=>eqV .non x
  | .bool b=>eqV (.bl b) x
  | .int i _=>eqV (.int i) x
  | .str z _=>eqV (.str z) x
  | _=>false
theorem ZlN {x y:V} {u:Value} (r:RelV y u) (f:flatV y=true):eqU x u=eqV y x:=by
  cases y with
  | non=>cases r; rfl
  | bl b=>cases r; rfl
  | int i=>obtain ⟨t,rfl⟩:=r; rfl
  | str z=>obtain ⟨t,rfl⟩:=r; rfl
  | _=>exact absurd (show false=true from f) Bool.false_ne_true
theorem Zhh {x:V}:∀ {xs:List V} {us:List Value},Vals xs us->xs.all flatV=true->us.any (eqU x)=xs.any fun y=>eqV y x
  | _,_,.nil,_=>rfl
  | y :: xs,u :: us,.cons r t,f=>by
    rw [List.all_cons,Bool.and_eq_true] at f
    rw [List.any_cons,List.any_cons,ZlN r f.1,Zhh t f.2]
theorem Zfk {A:Around} {s:Shared} {x:V} {v:Value} (rx:RelV x v) (fx:flatV x=true):∀ {xs:List V} {us:List Value},Vals xs us->xs.all flatV=true->∀ u ∈ us,SeqAt.EqAt A s u v (eqU x u)
  | _,_,.nil,_=>fun u hu=>by cases hu
  | y :: xs,u :: us,.cons r t,f=>fun u' hu=>by
    rw [List.all_cons,Bool.and_eq_true] at f
    rcases List.mem_cons.mp hu with rfl|hu
    . rw [ZlN r f.1]; exact eqAt_V r rx f.1 fx
    . exact Zfk rx fx t f.2 u' hu
noncomputable def inV (x:V) (xs:List V):Bool:=xs.any fun y=>eqV y x
noncomputable def rIn (K:PySem.W.Frag) (neg:Bool):R2:=fun x y H Q=>∃ p xs,y=.ref p/\(SqL K H p xs\/SqT K H p xs)/\flatV x=true/\xs.all flatV=true/\Q (.bl (if neg then !inV x xs else inV x xs)) H
theorem Zeg:OpR X (compareOp .In) (rIn X.K false):=by
  intro pins s σ H x y v u Q I rx ry h
  obtain ⟨p,xs,rfl,hq,fx,fs,q⟩:=h
  cases ry
  rcases hq with hq|hq
  . obtain ⟨its,r,pl,hz⟩:=I.list hq
    refine SeqAt.in_listAt (eqU x) pl.isList (fun w hw=>Zfk rx fx r fs w (by simpa using hw)) ⟨.bl _,H,I,rfl,?_⟩
    rw [show its.toArray.any (eqU x)=its.any (eqU x) by simp,Zhh r fs]
    exact q
  . obtain ⟨its,r,pl,hz⟩:=I.tuple hq
    refine SeqAt.in_tupleAt (eqU x) pl (fun w hw=>Zfk rx fx r fs w (by simpa using hw)) ⟨.bl _,H,I,rfl,?_⟩
    rw [show its.toArray.any (eqU x)=its.any (eqU x) by simp,Zhh r fs]
    exact q
theorem Zgk:CallR X (.builtin "len") (fun xs H Q=>∃ p ys,xs=[.ref p]/\(SqL X.K H p ys\/SqT X.K H p ys)/\Q (.int ys.length) H):=by
  intro pins s σ H xs us Q I r h
  obtain ⟨p,ys,rfl,hq,q⟩:=h
  obtain ⟨u,rfl,rx⟩:=vals1 r
  cases rx
  have hn:=line63
  rcases hq with hq|hq
  . obtain ⟨its,r',pl,hz⟩:=I.list hq
    have hlen:=r'.length
    exact Calls.call_len_list pl.isList (by simp only [List.size_toArray] <;> omega) ⟨.int ys.length,H,I.tok _,⟨s.toks + 1,by rw [List.size_toArray,hlen]⟩,q⟩
  . obtain ⟨its,r',pl,hz⟩:=I.tuple hq
    have hlen:=r'.length
    exact len_tuple pl (by simp only [List.size_toArray] <;> omega) ⟨.int ys.length,H,I.tok _,⟨s.toks + 1,by rw [List.size_toArray,hlen]⟩,q⟩
theorem CallR.or {f:Value} {r r':List V->Hp->VK->Prop} (h:CallR X f r) (h':CallR X f r'):CallR X f (fun xs H Q=>r xs H Q\/r' xs H Q):=by
  intro pins s σ H xs us Q I rs q
  rcases q with q|q
  . exact h pins s σ H xs us Q I rs q
  . exact h' pins s σ H xs us Q I rs q
theorem Zgl:CallR X (.type "list") (fun xs H Q=>∃ p ys,xs=[.ref p]/\(SqL X.K H p ys\/SqT X.K H p ys)/\∀ l,H l=none->Q (.ref l) (upd H l (.lst ys))):=by
  intro pins s σ H xs us Q I r h
  obtain ⟨p,ys,rfl,hq,q⟩:=h
  obtain ⟨u,rfl,rx⟩:=vals1 r
  cases rx
  have fin:∀ (its:List Value),Vals ys its->ys.length <= sizeLine->∀ (h':Heap) (c':Nat),(∀ b o',s.heap.get? b=some o'->h'.get? b=some o') ->
      h'.get? s.heap.objs.size=some { cls:=.type "list", dict:=none,data:=.seq its.toArray c',slots:=#[] }->EP X pins σ Q (.ref s.heap.objs.size) { s with heap:=h' }:=fun its r' hz h' c' kp e =>
    ⟨.ref s.heap.objs.size,_,I.laid (t':=s.toks) kp (Nat.le_refl _) (show ObjOk X.prog X.w _ h' _ (.lst ys) from ⟨hz,its,c',r',e⟩),rfl,q _ (I.hok.fresh (Nat.le_refl _))⟩
  rcases hq with hq|hq
  . obtain ⟨its,r',pl,hz⟩:=I.list hq
    have hlen:=r'.length
    obtain ⟨o,ho,hc,n,hd⟩:=pl.isList
    exact call_list_seq p (.inl rfl) ho hc hd (fun h' c' kp e=>fin its r' hz h' c' kp e) (by simp only [List.size_toArray] <;> omega)
  . obtain ⟨its,r',pl,hz⟩:=I.tuple hq
    have hlen:=r'.length
    obtain ⟨o,ho,hc,n,hd⟩:=pl
    exact call_list_seq p (.inr rfl) ho hc hd (fun h' c' kp e=>fin its r' hz h' c' kp e) (by simp only [List.size_toArray] <;> omega)
noncomputable def tyV (K:PySem.W.Frag) (T:String) (x:V) (H:Hp):Prop:=match x with
  | .str _=>T = "str"
  | .int _=>T = "int"
  | .ref p=>(T = "list" /\ ∃ xs,SqL K H p xs)\/(T = "tuple" /\ ∃ o,K.lookup p=some o/\o.cls=.type "tuple" /\ o.dict=none) \/
      (T = "dict" /\ ((∃ kvs,H p=some (.dK kvs))\/∃ kvs,H p=some (.dT kvs)))\/(T = "set" /\ ∃ S n,H p=some (.set S n))
  | _=>False
theorem ZlO {pins:List (Addr × Obj)} {σ:St} {H:Hp} {s:Shared} {T:String} {x:V} {v:Value} (I:Inv X pins σ H s) (r:RelV x v) (ty:tyV X.K T x H) :
    s.TypeIs v T/\∀ a,v=.ref a->∃ ob,s.heap.get? a=some ob/\ob.dict=none:=by
  cases x with
  | str z =>
    obtain ⟨t,rfl⟩:=r
    cases (show T = "str" from ty)
    exact ⟨typeIs_str s z t,fun _ e=>nomatch e⟩
  | int i =>
    obtain ⟨t,rfl⟩:=r
    cases (show T = "int" from ty)
    exact ⟨typeIs_int s i t,fun _ e=>nomatch e⟩
  | ref p =>
    cases r
    rcases ty with ⟨rfl,xs,hq⟩|⟨rfl,o,hk,hc,hd⟩|⟨rfl,hk⟩|⟨rfl,S,n,hk⟩
    . obtain ⟨its,_,pl,_⟩:=I.list hq
      refine ⟨pl.isList.typeIs,fun a e=>?_⟩
      cases e
      obtain ⟨o,n,e,c,hd,_⟩:=pl
      exact ⟨o,e,hd⟩
    . refine ⟨⟨o,I.kIn p o hk,hc⟩,fun a e=>?_⟩
      cases e
      exact ⟨o,I.kIn _ o hk,hd⟩
    . have z:∃ o,s.heap.get? p=some o/\o.ExactDict:=by
        rcases hk with ⟨kvs,hk⟩|⟨kvs,hk⟩
        . obtain ⟨_,_,_,_,o,_,_,e,ex,_⟩:=I.hok p _ hk
          exact ⟨o,e,ex⟩
        . obtain ⟨_,_,_,_,o,_,_,e,ex,_⟩:=I.hok p _ hk
          exact ⟨o,e,ex⟩
      obtain ⟨o,e,ex⟩:=z
      refine ⟨⟨o,e,ex.1⟩,fun a e2=>?_⟩
      cases e2
      exact ⟨o,e,ex.2.1⟩
    . obtain ⟨o,_,_,_,e,ex,_⟩:=I.hok p _ hk
      refine ⟨⟨o,e,ex.1⟩,fun a e2=>?_⟩
      cases e2
      exact ⟨o,e,ex.2.1⟩
  | _=>exact False.elim ty
noncomputable def tBM0 (K:PySem.W.Frag) (T:String) (r:V->List V->Hp->VK->Prop) (to:TE):TE:=fun σ H Q=>to σ H fun x H1=>tyV K T x H1/\r x [] H1 Q
noncomputable def tBM (K:PySem.W.Frag) (T:String) (r:V->List V->Hp->VK->Prop) (to:TE) (t:TA):TE:=fun σ H Q=>to σ H fun x H1=>tyV K T x H1/\t σ H1 fun xs H2=>r x xs H2 Q
variable {o e:Expr} {es:List Expr} {to:TE} {t:TA} {name:Str} {apos cpos:Pos} {T id:String} {r:V->List V->Hp->VK->Prop}
theorem ZlP (pa:PlainAttrs T) (slot:Slot T name id) (hty:typeOf (.builtin id)=pure (.type "method_descriptor")) (hm:MtR X id r) (ho:PE X o to)
    (hbase:attributeBase o name X.env (eval o X.env)=eval o X.env:=by rfl) (hline:(apos.endLine == cpos.line)=true:=by rfl):PE X (.Call (.Attribute o name apos) [] [] cpos) (tBM0 X.K T r to):=by
  intro pins s σ H Q I h
  refine wpAny_Call_method0_late hbase hline (thn (ho pins s σ H _ I h) fun v s1 ⟨x,H1,I1,r1,ty,q1⟩=>?_)
  obtain ⟨h1,h2⟩:=ZlO I1 r1 ty
  exact ⟨T,id,pa,slot,hty,h1,h2,Calls.callWith_builtin rfl (PySem.evalArgs_none (hm pins s1 σ H1 x [] v [] Q I1 r1 .nil q1))⟩
theorem Zhi (pa:PlainAttrs T) (slot:Slot T name id) (hty:typeOf (.builtin id)=pure (.type "method_descriptor")) (hm:MtR X id r) (ho:PE X o to) (ha:PA X (e :: es) t)
    (hbase:attributeBase o name X.env (eval o X.env)=eval o X.env:=by rfl)
    (hfew:((backTo cpos (starEach (e :: es) X.env)).all (fun x=>!x.1) && (backToKw cpos (keywordEach [] X.env)).all (fun x=>x.1.isSome)
      && decide ((e :: es).length + ([]:List Keyword).length + (if ([]:List Keyword).isEmpty then 0 else 1) < 30))=true:=by rfl)
    (hline:(apos.endLine == cpos.line)=true:=by rfl) (hs:starEach (e :: es) X.env=(false,eval e X.env) :: starEach es X.env:=by rfl) (hplain:(backTo cpos (starEach es X.env)).any (·.1)=false:=by rfl) :
    PE X (.Call (.Attribute o name apos) (e :: es) [] cpos) (tBM X.K T r to t):=by
  intro pins s σ H Q I h
  refine wpAny_Call_method_late hbase hfew hline rfl (thn (ho pins s σ H _ I h) fun v s1 ⟨x,H1,I1,r1,ty,q1⟩=>?_)
  obtain ⟨h1,h2⟩:=ZlO I1 r1 ty
  refine ⟨T,id,pa,slot,hty,h1,h2,?_⟩
  have hA:=ha cpos pins s1 σ H1 _ I1 q1
  rw [hs] at hA |-
  refine Calls.callWith_builtin (by show (false || (backTo cpos (starEach es X.env)).any (·.1))=false; rw [hplain] <;> rfl) (Calls.evalArgs_plain ?_)
  exact thn hA fun us s2 ⟨vs,H2,I2,r2,q2⟩=>hm pins s2 σ H2 x vs v us Q I2 r1 r2 q2
end
end L2
namespace L2
open PySem PySem.Spec PyProof.Rows
noncomputable def MtM (X:Cx) (id:String) (r:V->List V->Hp->VK->Prop):Prop :=
  ∀ (pins:List (Addr × Obj)) (s:Shared) (σ:St) (H:Hp) (x:V) (xs:List V) (v:Value) (us:List Value) (Q:VK),Inv X pins σ H s->RelV x v->Vals xs us->r x xs H Q ->
    wpAny (model X.prog X.w) X.A (call (.builtin id) (v :: us)) (EP X pins σ Q) X.xe s
theorem Vals.one:∀ {x:V} {us:List Value},Vals [x] us->∃ u,us=[u]/\RelV x u
  | _,_,.cons r .nil=>⟨_,rfl,r⟩
theorem Vals.zero:∀ {us:List Value},Vals [] us->us=[]
  | _,.nil=>rfl
theorem Vals.dropLast {xs:List V} {us:List Value} (h:Vals xs us):Vals xs.dropLast us.dropLast:=by
  induction h with
  | nil=>exact .nil
  | cons r t ih =>
    cases t with
    | nil=>exact .nil
    | cons q t'=>exact .cons r ih
theorem Vals.eraseIdx:∀ {xs:List V} {us:List Value} (i:Nat),Vals xs us->Vals (xs.eraseIdx i) (us.eraseIdx i)
  | _,_,_,.nil=>.nil
  | _,_,0,.cons _ t=>t
  | _,_,i + 1,.cons r t=>.cons r (Vals.eraseIdx i t)
theorem Vals.reverse {xs:List V} {us:List Value} (h:Vals xs us):Vals xs.reverse us.reverse:=by
  induction h with
  | nil=>exact .nil
  | cons r t ih=>rw [List.reverse_cons,List.reverse_cons]; exact Vals.append ih (.cons r .nil)
theorem Vals.rep {xs:List V} {us:List Value} (h:Vals xs us):∀ k:Nat,Vals (List.replicate k xs).flatten (List.replicate k us).flatten
  | 0=>.nil
  | k + 1=>by
    rw [List.replicate_succ,List.replicate_succ,List.flatten_cons,List.flatten_cons]
    exact Vals.append h (Vals.rep h k)
theorem ZiW {α:Type} (l:List α):l.eraseIdx (l.length - 1)=l.dropLast:=by
  induction l with
  | nil=>rfl
  | cons a r ih =>
    cases r with
    | nil=>rfl
    | cons b r =>
      have e:(a :: b :: r).length - 1=((b :: r).length - 1) + 1:=by
        have h1:(a :: b :: r).length=r.length + 2:=rfl
        have h2:(b :: r).length=r.length + 1:=rfl
        omega
      rw [e,List.eraseIdx_cons_succ,ih]
      all_goals rfl
theorem Zgm (its:List Value):∀ (k:Nat) (acc:List Value),
    List.foldl (fun x1 x2=>x1 ++ x2) acc.toArray (List.replicate k its.toArray)=(acc ++ (List.replicate k its).flatten).toArray
  | 0,acc=>by simp
  | k + 1,acc=>by
    have e:acc.toArray ++ its.toArray=(acc ++ its).toArray:=by simp
    have e2:(acc ++ its) ++ (List.replicate k its).flatten=acc ++ (List.replicate (k + 1) its).flatten:=by
      rw [List.replicate_succ,List.flatten_cons,List.append_assoc]
    rw [<- e2,<- Zgm its k (acc ++ its),<- e,List.replicate_succ,List.foldl_cons]
section
variable {X:Cx} {pins:List (Addr × Obj)} {σ:St} {H:Hp} {s:Shared} {l b:Addr} {xs ys zs:List V}
theorem Inv.lset {its its':List Value} {n:Nat} {f:Array Value->Array Value} {t':Nat} (I:Inv X pins σ H s) (hH:H l=some (.lst xs))
    (e:s.heap.get? l=some { cls:=.type "list", data:=.seq its.toArray n }) (hf:f its.toArray=its'.toArray) (hv:Vals ys its') (hz:ys.length <= sizeLine) :
    Inv X pins σ (upd H l (.lst ys)) { s with heap:=s.heap.update l (Obj.mapSeq f),toks:=t' }:=by
  have q:=PySem.IsL.update e f
  rw [hf] at q
  refine I.write (x:=l) (e:=l) (by rw [hH]; exact trivial) (.inl rfl) (fun b' u hb hu=>(Heap.get?_update_other s.heap (Obj.mapSeq f) (Ne.symm hb)).trans hu) ⟨_,q⟩ ?_
  exact ⟨hz,its',_,hv,q⟩
theorem Inv.lnew {its:List Value} {t':Nat} (I:Inv X pins σ H s) (hv:Vals ys its) (hz:ys.length <= sizeLine) :
    Inv X pins σ (upd H s.heap.objs.size (.lst ys)) { s with heap:=s.heap.push { cls:=.type "list", data:=.seq its.toArray },toks:=t' } :=
  I.laid (fun _ _ q=>Heap.get?_push_of_some _ q) (Nat.le_refl _) ⟨hz,its,0,hv,Heap.get?_push_size _ rfl⟩
theorem Inv.fresh (I:Inv X pins σ H s):H s.heap.objs.size=none:=I.hok.fresh (Nat.le_refl _)
theorem Inv.lstM (I:Inv X pins σ H s) (hH:H l=some (.lst xs)):xs.length <= sizeLine/\∃ (its:List Value) (n:Nat),Vals xs its/\xs.length=its.length/\s.heap.get? l=some { cls:=.type "list", data:=.seq its.toArray n }:=by
  obtain ⟨z,its,n,r,e⟩:=I.hok l _ hH
  exact ⟨z,its,n,r,r.length,e⟩
theorem Zip {n:Nat} (h:n <= sizeLine):Builtin.List.listTooLong n=false:=by
  unfold Builtin.List.listTooLong
  exact decide_eq_false (by omega)
end
section
variable {X:Cx}
noncomputable def ZjG:V->List V->Hp->VK->Prop:=fun x vs H Q=>∃ l xs y,x=.ref l/\vs=[y]/\H l=some (.lst xs)/\xs.length < sizeLine/\Q .non (upd H l (.lst (xs ++ [y])))
theorem ZbG:MtM X "list.append" ZjG:=by
  intro pins s σ H x vs v us Q I rx rv h
  obtain ⟨l,xs,y,rfl,rfl,hH,hz,q⟩:=h
  cases rx
  obtain ⟨u,rfl,ru⟩:=rv.one
  obtain ⟨z,its,n,r,hl,e⟩:=I.lstM hH
  refine call_meets F.slot_list_append ⟨_,e,rfl⟩ F.entry_list_append (F.args_list_append_2 _ _) (PySem.list_append l its.toArray n u (by rw [List.size_toArray]; omega)) ⟨e,?_⟩
  refine ⟨.non,_,I.lset (its':=its ++ [u]) hH e (by simp) (r.append (.cons ru .nil)) ?_,rfl,q⟩
  rw [List.length_append,List.length_singleton]
  omega
noncomputable def Zmi:V->List V->Hp->VK->Prop:=fun x vs H Q=>∃ l b xs zs,x=.ref l/\vs=[.ref b]/\H l=some (.lst xs)/\H b=some (.lst zs)/\xs.length + zs.length <= sizeLine/\Q .non (upd H l (.lst (xs ++ zs)))
theorem mt_extend:MtM X "list.extend" Zmi:=by
  intro pins s σ H x vs v us Q I rx rv h
  obtain ⟨l,b,xs,zs,rfl,rfl,hH,hB,hz,q⟩:=h
  cases rx
  obtain ⟨u,rfl,ru⟩:=rv.one
  cases ru
  obtain ⟨z,its,n,r,hl,e⟩:=I.lstM hH
  obtain ⟨z2,its2,n2,r2,hl2,e2⟩:=I.lstM hB
  have hsz:its.toArray.size + its2.toArray.size <= sizeLine:=by rw [List.size_toArray,List.size_toArray]; omega
  have hlong:¬ (!its.toArray.isEmpty && Builtin.List.listTooLong (its.toArray.size + its2.toArray.size))=true:=by
    rw [Zip hsz,Bool.and_false]
    exact Bool.false_ne_true
  refine call_meets F.slot_list_extend ⟨_,e,rfl⟩ F.entry_list_extend (F.args_list_extend_2 _ _)
    (AutoSeq1.list_extend_list_list_0 l its.toArray n b its2.toArray n2 hlong (by rw [List.size_toArray]; omega) (by omega)) ⟨e,e2,?_⟩
  refine ⟨.non,_,I.lset (its':=its ++ its2) hH e (by simp) (r.append r2) ?_,rfl,q⟩
  rw [List.length_append]
  omega
noncomputable def rPop:V->List V->Hp->VK->Prop:=fun x vs H Q=>∃ l xs y,x=.ref l/\vs=[]/\H l=some (.lst xs)/\xs[xs.length - 1]?=some y/\Q y (upd H l (.lst xs.dropLast))
theorem ZlQ:MtM X "list.pop" rPop:=by
  intro pins s σ H x vs v us Q I rx rv h
  obtain ⟨l,xs,y,rfl,rfl,hH,hy,q⟩:=h
  cases rx
  have hus:=rv.zero
  subst hus
  obtain ⟨z,its,n,r,hl,e⟩:=I.lstM hH
  obtain ⟨u,hu,ru⟩:=r.get hy
  have hy':its.toArray[its.toArray.size - 1]?=some u:=by
    show its.toArray[its.length - 1]?=some u
    rw [<- Array.getElem?_toList,<- hl]
    exact hu
  refine call_meets F.slot_list_pop ⟨_,e,rfl⟩ F.entry_list_pop (F.args_list_pop_1 _) (MeetsSeq.list_pop_last l its.toArray n u hy' (by rw [List.size_toArray]; omega)) ⟨e,?_⟩
  refine ⟨y,_,I.lset (its':=its.dropLast) hH e ?_ r.dropLast ?_,ru,q⟩
  . show its.toArray.eraseIdxIfInBounds (its.toArray.size - 1)=its.dropLast.toArray
    rw [List.size_toArray,List.eraseIdxIfInBounds_toArray,ZiW]
  . rw [List.length_dropLast]
    omega
noncomputable def rCat:R2:=fun x y H Q=>∃ l b xs zs,x=.ref l/\y=.ref b/\H l=some (.lst xs)/\H b=some (.lst zs)/\xs.length + zs.length <= sizeLine/\∀ p,H p=none->Q (.ref p) (upd H p (.lst (xs ++ zs)))
theorem Ze8:OpR X (binaryOp .Add) rCat:=by
  intro pins s σ H x y v u Q I rx ry h
  obtain ⟨l,b,xs,zs,rfl,rfl,hH,hB,hz,q⟩:=h
  cases rx
  cases ry
  obtain ⟨z,its,n,r,hl,e⟩:=I.lstM hH
  obtain ⟨z2,its2,n2,r2,hl2,e2⟩:=I.lstM hB
  refine PySem.P.add_list e e2 ?_ (by rw [List.size_toArray,List.size_toArray]; omega)
  have ea:its.toArray ++ its2.toArray=(its ++ its2).toArray:=by simp
  rw [ea]
  exact ⟨.ref _,_,I.lnew (t':=s.toks) (r.append r2) (by rw [List.length_append]; omega),rfl,q _ I.fresh⟩
noncomputable def rRep:R2:=fun x y H Q=>∃ l k xs,x=.ref l/\y=.int k/\H l=some (.lst xs)/\-(2 ^ 63) <= k/\k < 2 ^ 63/\xs.length * k.toNat <= sizeLine /\
  ∀ p,H p=none->Q (.ref p) (upd H p (.lst (List.replicate k.toNat xs).flatten))
theorem Zmj {α:Type} (xs:List α) (k:Nat):(List.replicate k xs).flatten.length=k * xs.length:=by
  induction k with
  | zero=>simp
  | succ k ih=>rw [List.replicate_succ,List.flatten_cons,List.length_append,ih,Nat.succ_mul,Nat.add_comm]
theorem op_rep:OpR X (binaryOp .Mult) rRep:=by
  intro pins s σ H x y v u Q I rx ry h
  obtain ⟨l,k,xs,rfl,rfl,hH,h1,h2,hz,q⟩:=h
  cases rx
  obtain ⟨t,rfl⟩:=ry
  obtain ⟨z,its,n,r,hl,e⟩:=I.lstM hH
  have hlen:its.toArray.size * k.toNat <= sizeLine:=by rw [List.size_toArray,<- hl]; exact hz
  have hcap:¬ its.toArray.size * k.toNat > (2 ^ 63 - 1) / 8:=by
    have:(sizeLine:Nat) <= (2 ^ 63 - 1) / 8:=by decide
    omega
  have hfit:¬ (!Builtin.List.listFitsIndex k)=true:=by
    rw [fitsIndex_both h1 h2]
    exact Bool.false_ne_true
  have hlong:¬ Builtin.List.listTooLong (its.toArray.size * k.toNat)=true:=by
    rw [Zip hlen]
    exact Bool.false_ne_true
  have hnew:List.foldl (fun x1 x2=>x1 ++ x2) #[] (List.replicate (if its.toArray.isEmpty=true then 0 else k.toNat) its.toArray)=(List.replicate k.toNat its).flatten.toArray:=by
    have f0:∀ m:Nat,List.foldl (fun x1 x2=>x1 ++ x2) #[] (List.replicate m its.toArray)=(List.replicate m its).flatten.toArray:=fun m=>by
      have:=Zgm its m []
      rw [List.nil_append] at this
      exact this
    rw [f0]
    cases its with
    | nil=>simp
    | cons a r'=>rw [if_neg (by simp)]
  refine wpAny_binaryOp_repeat_ref (T := "list") (U := "int") (by decide) ⟨_,e,rfl⟩ (fun s'=>typeIs_int s' k t) noFill_list_mul F.fills_int_mul F.slot_int_rmul repeat_list F.slot_int_index.lookup
    (call_meets F.slot_int_rmul (typeIs_int s k t) F.entry_int_rmul (F.args_int_rmul_2 _ _) (int___rmul___int_list k t l its.toArray n)
      ⟨e,rfl,⟨_,e,rfl⟩,call_meets F.slot_list_mul ⟨_,e,rfl⟩ F.entry_list_mul (F.args_list_mul_2 _ _) (AutoListH.list___mul___list_int_3 l its.toArray n k t hfit hcap hlong) ⟨e,?_⟩⟩)
  rw [hnew]
  exact ⟨.ref _,_,I.lnew (t':=s.toks) (r.rep k.toNat) (by rw [Zmj,Nat.mul_comm]; exact hz),rfl,q _ I.fresh⟩
end
section
variable {prog:Program} {w:World} {A:Around} {E:Value->Shared->Prop} {s:Shared}
end
section
variable {X:Cx}
end
end L2
namespace L2
open PySem PySem.Spec PyProof.Rows
section
variable {κ:Type} [DecidableEq κ]
noncomputable def valV (kvs:List (κ × V)) (k:κ):Option V:=(kvs.find? fun kv=>decide (kv.1=k)).map (·.2)
noncomputable def putK (kvs:List (κ × V)) (k:κ) (v:V):List (κ × V) :=
  if (kvs.any fun kv=>decide (kv.1=k))=true then kvs.map (fun kv=>if kv.1=k then (kv.1,v) else kv) else kvs ++ [(k,v)]
noncomputable def dropK (kvs:List (κ × V)) (k:κ):List (κ × V):=kvs.filter fun kv=>decide (kv.1 ≠ k)
theorem ZkY {k:κ}:valV ([]:List (κ × V)) k=none:=rfl
theorem Zbn {p:κ × V} {r:List (κ × V)} {k:κ} (e:p.1=k):valV (p :: r) k=some p.2:=by simp [valV,List.find?_cons,e]
theorem Zbh {p:κ × V} {r:List (κ × V)} {k:κ} (e:¬ p.1=k):valV (p :: r) k=valV r k:=by simp [valV,List.find?_cons,e]
theorem Zb9 (k:κ):∀ kvs:List (κ × V),(kvs.any fun kv=>decide (kv.1=k))=(valV kvs k).isSome
  | []=>rfl
  | p :: r=>by
    rw [List.any_cons]
    by_cases e:p.1=k
    . simp only [Zbn e,decide_eq_true e,Bool.true_or,Option.isSome_some]
    . rw [Zbh e,decide_eq_false e,Bool.false_or]; exact Zb9 k r
theorem Ziq (k j:κ) (y:V):∀ kvs:List (κ × V),valV (kvs.map fun kv=>if kv.1=k then (kv.1,y) else kv) j=(valV kvs j).map fun x=>if j=k then y else x
  | []=>rfl
  | p :: r=>by
    have ih:=Ziq k j y r
    rw [List.map_cons]
    by_cases h:p.1=k
    . rw [if_pos h]
      by_cases e:p.1=j
      . rw [Zbn (p:=(p.1,y)) e,Zbn e,Option.map_some,if_pos (e.symm.trans h)]
      . rw [Zbh (p:=(p.1,y)) e,Zbh e,ih]
    . rw [if_neg h]
      by_cases e:p.1=j
      . rw [Zbn (p:=p) e,Zbn e,Option.map_some,if_neg (fun z=>h (e.trans z))]
      . rw [Zbh (p:=p) e,Zbh e,ih]
theorem Zgn (k j:κ) (y:V):∀ kvs:List (κ × V),valV kvs k=none->valV (kvs ++ [(k,y)]) j=if j=k then some y else valV kvs j
  | [],_=>by
    by_cases e:k=j
    . rw [if_pos e.symm]; exact Zbn (p:=(k,y)) e
    . rw [if_neg (fun z=>e z.symm)]; exact Zbh (p:=(k,y)) e
  | p :: r,hn=>by
    rw [List.cons_append]
    have hk:¬ p.1=k:=fun z=>by rw [Zbn z] at hn; cases hn
    rw [Zbh hk] at hn
    have ih:=Zgn k j y r hn
    by_cases e:p.1=j
    . rw [Zbn e,Zbn e,if_neg (fun z=>hk (e.trans z))]
    . rw [Zbh e,Zbh e,ih]
theorem Zfl (kvs:List (κ × V)) (k j:κ) (y:V):valV (putK kvs k y) j=if j=k then some y else valV kvs j:=by
  unfold putK
  by_cases a:(kvs.any fun kv=>decide (kv.1=k))=true
  . rw [if_pos a,Ziq]
    rw [Zb9] at a
    by_cases e:j=k
    . obtain ⟨x,hx⟩:=Option.isSome_iff_exists.mp a
      rw [if_pos e,e,hx,Option.map_some,if_pos rfl]
    . rw [if_neg e]
      cases valV kvs j with
      | none=>rfl
      | some x=>rw [Option.map_some,if_neg e]
  . rw [if_neg a]
    refine Zgn k j y kvs ?_
    rw [Zb9] at a
    cases q:valV kvs k with
    | none=>rfl
    | some x=>rw [q] at a; exact (a rfl).elim
theorem ZbQ (kvs:List (κ × V)) (k:κ) (v:V):(putK kvs k v).length <= kvs.length + 1:=by
  unfold putK
  split
  . rw [List.length_map]; omega
  . rw [List.length_append,List.length_cons,List.length_nil]; omega
theorem ZkZ {kvs:List (κ × V)} {k:κ} (v:V) (h:valV kvs k=none):putK kvs k v=kvs ++ [(k,v)]:=by
  unfold putK
  rw [Zb9,h]
  exact if_neg (by decide)
theorem RelO.isSome_eq {o:Option V} {u:Option Value} (r:RelO o u):o.isSome=u.isSome:=by
  cases o with
  | none=>cases u with
    | none=>rfl
    | some _=>exact (show False from r).elim
  | some _=>cases u with
    | none=>exact (show False from r).elim
    | some _=>rfl
theorem RelO.getD {o:Option V} {u:Option Value} {d:V} {d':Value} (r:RelO o u) (rd:RelV d d'):RelV (o.getD d) (u.getD d'):=by
  cases o with
  | none=>cases u with
    | none=>exact rd
    | some _=>exact (show False from r).elim
  | some _=>cases u with
    | none=>exact (show False from r).elim
    | some _=>exact r
theorem KV.val {kvs:List (κ × V)} {vs:List (κ × Value)} (r:KV kvs vs) (k:κ):RelO (valV kvs k) (valueAt vs k):=by
  unfold KV at r
  induction r with
  | nil=>exact True.intro
  | @cons p q ps qs h t ih =>
    obtain ⟨h1,h2⟩:=h
    by_cases e:p.1=k
    . have e':q.1=k:=h1.symm.trans e
      have b:valueAt (q :: qs) k=some q.2:=by simp [valueAt,List.find?_cons,e']
      rw [Zbn e,b]; exact h2
    . have e':¬ q.1=k:=fun z=>e (h1.trans z)
      have b:valueAt (q :: qs) k=valueAt qs k:=by simp [valueAt,List.find?_cons,e']
      rw [Zbh e,b]; exact ih
theorem KV.any {kvs:List (κ × V)} {vs:List (κ × Value)} (r:KV kvs vs) (k:κ):(kvs.any fun kv=>decide (kv.1=k))=vs.any fun kv=>decide (kv.1=k):=by
  unfold KV at r
  induction r with
  | nil=>rfl
  | cons h t ih=>rw [List.any_cons,List.any_cons,ih,h.1]
theorem KV.repl {kvs:List (κ × V)} {vs:List (κ × Value)} (r:KV kvs vs) (k:κ) {y:V} {u:Value} (ry:RelV y u) :
    KV (kvs.map fun kv=>if kv.1=k then (kv.1,y) else kv) (vs.map fun kv=>if kv.1=k then (kv.1,u) else kv):=by
  unfold KV at r |-
  induction r with
  | nil=>exact .nil
  | @cons p q ps qs h t ih =>
    rw [List.map_cons,List.map_cons]
    refine .cons ?_ ih
    obtain ⟨h1,h2⟩:=h
    by_cases e:p.1=k
    . rw [if_pos e,if_pos (h1.symm.trans e)]; exact ⟨h1,ry⟩
    . rw [if_neg e,if_neg (fun z=>e (h1.trans z))]; exact ⟨h1,h2⟩
theorem KV.put {kvs:List (κ × V)} {vs:List (κ × Value)} (r:KV kvs vs) (k:κ) {y:V} {u:Value} (ry:RelV y u):KV (putK kvs k y) (stored vs k u):=by
  unfold putK stored
  rw [r.any k]
  by_cases e:(vs.any fun kv=>decide (kv.1=k))=true
  . rw [if_pos e,if_pos e]; exact r.repl k ry
  . rw [if_neg e,if_neg e]; exact Paired.snoc r ⟨rfl,ry⟩
theorem KV.drop {kvs:List (κ × V)} {vs:List (κ × Value)} (r:KV kvs vs) (k:κ):KV (dropK kvs k) (without vs k):=by
  unfold KV at r |-
  unfold dropK without
  induction r with
  | nil=>exact .nil
  | @cons p q ps qs h t ih =>
    obtain ⟨h1,h2⟩:=h
    rw [List.filter_cons,List.filter_cons]
    by_cases e:p.1=k
    . have a:¬ decide (p.1 ≠ k)=true:=by simp [e]
      have b:¬ decide (q.1 ≠ k)=true:=by simp [h1.symm.trans e]
      rw [if_neg a,if_neg b]; exact ih
    . have e':¬ q.1=k:=fun z=>e (h1.trans z)
      have a:decide (p.1 ≠ k)=true:=by simp [e]
      have b:decide (q.1 ≠ k)=true:=by simp [e']
      rw [if_pos a,if_pos b]; exact .cons ⟨h1,h2⟩ ih
theorem KV.keys {kvs:List (κ × V)} {vs:List (κ × Value)} (r:KV kvs vs):kvs.map (·.1)=vs.map (·.1):=by
  unfold KV at r
  induction r with
  | nil=>rfl
  | cons h t ih=>rw [List.map_cons,List.map_cons,ih,h.1]
theorem KV.length {kvs:List (κ × V)} {vs:List (κ × Value)} (r:KV kvs vs):kvs.length=vs.length:=Paired.length r
theorem Zfm (kvs:List (κ × V)) (k:κ):(dropK kvs k).length <= kvs.length:=List.length_filter_le _ _
end
theorem Zhj {P:Program} {w:World} {k:Key} {u:Value} (r:RelV (kV k) u):(Za3 P w).is k u=true:=by
  cases k with
  | inl i=>obtain ⟨t,e⟩:=(show ∃ t,u=Value.int i t from r); subst e; exact Zg8 P w i t
  | inr x=>obtain ⟨t,e⟩:=(show ∃ t,u=Value.str x t from r); subst e; exact Zg9 P w x t
theorem Zgo {P:Program} {w:World}:∀ {ks:List Key} {us:List Value},Vals (ks.map kV) us->ItemsAre (Za3 P w) ks us
  | [],_,r=>by rw [List.map_nil] at r; cases r; exact .nil
  | k :: ks,_,r=>by
    rw [List.map_cons] at r
    cases r with
    | cons h t=>exact .cons (Zhj h) (Zgo t)
noncomputable abbrev KT (H:Hp):List (List Key × V)->List (List Key × Addr × Value)->Prop:=Paired fun p q=>p.1=q.1/\H q.2.1=some (.tup (p.1.map kV))/\RelV p.2 q.2.2
theorem KT.val {H:Hp} {kvs:List (List Key × V)} {xs:List (List Key × Addr × Value)} (r:KT H kvs xs) (k:List Key):RelO (valV kvs k) ((atKey xs k).map (·.2)):=by
  induction r with
  | nil=>exact True.intro
  | @cons p q ps qs h t ih =>
    obtain ⟨h1,_,h2⟩:=h
    by_cases e:p.1=k
    . have e':q.1=k:=h1.symm.trans e
      have b:atKey (q :: qs) k=some q.2:=by simp [atKey,List.find?_cons,e']
      rw [Zbn e,b]; exact h2
    . have e':¬ q.1=k:=fun z=>e (h1.trans z)
      have b:atKey (q :: qs) k=atKey qs k:=by simp [atKey,List.find?_cons,e']
      rw [Zbh e,b]; exact ih
theorem KT.repl {H:Hp} {kvs:List (List Key × V)} {xs:List (List Key × Addr × Value)} (r:KT H kvs xs) (k:List Key) {y:V} {u:Value} (ry:RelV y u) :
    KT H (kvs.map fun kv=>if kv.1=k then (kv.1,y) else kv) (xs.map (putAt k u)):=by
  induction r with
  | nil=>exact .nil
  | @cons p q ps qs h t ih =>
    rw [List.map_cons,List.map_cons]
    refine .cons ?_ ih
    obtain ⟨h1,h2,h3⟩:=h
    unfold putAt
    by_cases e:p.1=k
    . rw [if_pos e,if_pos (h1.symm.trans e)]; exact ⟨h1,h2,ry⟩
    . rw [if_neg e,if_neg (fun z=>e (h1.trans z))]; exact ⟨h1,h2,h3⟩
theorem KT.put {H:Hp} {kvs:List (List Key × V)} {xs:List (List Key × Addr × Value)} (r:KT H kvs xs) (k:List Key) {b:Addr} {y:V} {u:Value} (hb:H b=some (.tup (k.map kV))) (ry:RelV y u) :
    KT H (putK kvs k y) (storedH xs k b u):=by
  have e:(kvs.any fun kv=>decide (kv.1=k))=(atKey xs k).isSome:=by
    rw [Zb9,(r.val k).isSome_eq,Option.isSome_map]
  unfold putK storedH
  rw [e]
  by_cases q:(atKey xs k).isSome=true
  . rw [if_pos q,if_pos q]; exact r.repl k ry
  . rw [if_neg q,if_neg q]; exact Paired.snoc r ⟨rfl,hb,ry⟩
theorem KT.keeps {H H':Hp} {kvs:List (List Key × V)} {xs:List (List Key × Addr × Value)} (r:KT H kvs xs) (ht:∀ b ys,H b=some (.tup ys)->H' b=some (.tup ys)):KT H' kvs xs :=
  Paired.mapP r fun _ _ z=>⟨z.1,ht _ _ z.2.1,z.2.2⟩
section
variable {P:Program} {w:World} {H:Hp} {h:Heap} {a:Addr}
theorem rd_of {u:HO} (ok:HOk P w H h) (e:Rd H a u):ObjOk P w H h a u:=e.ok ok
theorem ZjH {kvs:List (Key × V)} (ok:HOk P w H h) (e:Rd H a (.dK kvs)):kvs.length <= sizeLine/\(a == sysModules)=false/\∃ vs,KV kvs vs/\h.DictOf (Za3 P w) a vs :=
  show ObjOk P w H h a (.dK kvs) from rd_of ok e
theorem ZjI {kvs:List (Key × V)} (ok:HOk P w H h) (e:H a=some (.dK kvs)):kvs.length <= sizeLine/\(a == sysModules)=false/\∃ vs,KV kvs vs/\h.DictOf (Za3 P w) a vs:=ZjH ok (.inl e)
theorem Zir {ks:List Key} (ok:HOk P w H h) (e:H a=some (.tup (ks.map kV))):(tupleKind (Za3 P w)).is h ks a:=by
  obtain ⟨_,its,r,o,h1,h2,n,h3⟩:=(show ObjOk P w H h a (.tup (ks.map kV)) from ok a _ e)
  exact ⟨o,its.toArray,n,h1,h2,h3,by simpa using Zgo r⟩
theorem ZjJ {kvs:List (List Key × V)} (ok:HOk P w H h) (e:Rd H a (.dT kvs)):kvs.length <= sizeLine/\(a == sysModules)=false /\
    ∃ xs,KT H kvs xs/\h.DictOfH (tupleKind (Za3 P w)) a xs:=by
  obtain ⟨z,y,xs,r,o,es,ep,h1,h2,h3,h4,h5⟩:=(show ObjOk P w H h a (.dT kvs) from rd_of ok e)
  refine ⟨z,y,xs,r,o,es,ep,h1,h2,h3,h4,fun x hx=>?_,h5⟩
  have all:∀ {l:List (List Key × V)} {m:List (List Key × Addr × Value)},KT H l m->∀ x ∈ m,(tupleKind (Za3 P w)).is h x.1 x.2.1:=by
    intro l m q
    induction q with
    | nil=>intro x hx; exact nomatch hx
    | @cons p q ps qs hq t ih =>
      intro x hx
      rcases List.mem_cons.mp hx with e|hx
      . subst e
        exact Zir ok (by rw [<- hq.1]; exact hq.2.1)
      . exact ih x hx
  exact all r x hx
theorem dt_of {kvs:List (List Key × V)} (ok:HOk P w H h) (e:H a=some (.dT kvs)):kvs.length <= sizeLine/\(a == sysModules)=false /\
    ∃ xs,KT H kvs xs/\h.DictOfH (tupleKind (Za3 P w)) a xs:=ZjJ ok (.inl e)
end
noncomputable def DGet (H:Hp) (a:Addr) (y:V) (r:Option V):Prop :=
  (∃ kvs k,Rd H a (.dK kvs)/\y=kV k/\r=valV kvs k)\/∃ kvs k b,Rd H a (.dT kvs)/\y=.ref b/\H b=some (.tup (k.map kV))/\r=valV kvs k
noncomputable def DPut (H:Hp) (a:Addr) (y v:V) (H':Hp):Prop :=
  (∃ kvs k,H a=some (.dK kvs)/\y=kV k/\kvs.length < sizeLine/\H'=upd H a (.dK (putK kvs k v))) \/
  ∃ kvs k b,H a=some (.dT kvs)/\y=.ref b/\H b=some (.tup (k.map kV))/\kvs.length < sizeLine/\H'=upd H a (.dT (putK kvs k v))
theorem DGet.k {H:Hp} {a:Addr} {kvs:List (Key × V)} {k:Key} (e:H a=some (.dK kvs)):DGet H a (kV k) (valV kvs k):=.inl ⟨kvs,k,.inl e,rfl,rfl⟩
theorem DGet.t {H:Hp} {a b:Addr} {kvs:List (List Key × V)} {k:List Key} (e:H a=some (.dT kvs)) (eb:H b=some (.tup (k.map kV))):DGet H a (.ref b) (valV kvs k):=.inr ⟨kvs,k,b,.inl e,rfl,eb,rfl⟩
theorem DPut.k {H:Hp} {a:Addr} {kvs:List (Key × V)} {k:Key} {v:V} (e:H a=some (.dK kvs)) (hl:kvs.length < sizeLine):DPut H a (kV k) v (upd H a (.dK (putK kvs k v))):=.inl ⟨kvs,k,e,rfl,hl,rfl⟩
theorem DPut.t {H:Hp} {a b:Addr} {kvs:List (List Key × V)} {k:List Key} {v:V} (e:H a=some (.dT kvs)) (eb:H b=some (.tup (k.map kV))) (hl:kvs.length < sizeLine) :
    DPut H a (.ref b) v (upd H a (.dT (putK kvs k v))):=.inr ⟨kvs,k,b,e,rfl,eb,hl,rfl⟩
section
variable {X:Cx} {pins:List (Addr × Obj)} {σ:St} {H:Hp} {s:Shared} {a:Addr} {y v:V} {u r:Value} {o:Option V} {A:Around} {E:Value->Shared->Prop}
theorem Inv.big (I:Inv X pins σ H s):sysModules < s.heap.objs.size:=by
  have h:mainGlobals < s.heap.objs.size:=(I.mod.glob.keeps I.bk).lt
  exact Nat.lt_trans (by decide) h
theorem ZjK {Q:Value->Shared->Prop} (hu:A.units + 1 < cLine) (I:Inv X pins σ H s) (g:DGet H a y (some v)) (ry:RelV y u) (h:∀ w' s',Inv X pins σ H s'->RelV v w'->Q w' s') :
    wpAny (model X.prog X.w) A (getItem (.ref a) u) Q E s:=by
  rcases g with ⟨kvs,k,e,ey,l⟩|⟨kvs,k,b,e,ey,eb,l⟩
  . subst ey
    obtain ⟨z,hd,vs,rel,dd⟩:=ZjH I.hok e
    obtain ⟨w',hw,rw'⟩:=RelO.some_of (v:=v) (o:=valueAt vs k) (by rw [l]; exact rel.val k)
    exact wpAny_getItem_of (Zhj ry) dd.mapOf hw (h w' _ (I.tok _) rw')
  . subst ey
    cases (show u=Value.ref b from ry)
    obtain ⟨z,hd,xs,rel,dd⟩:=ZjJ I.hok e
    obtain ⟨w',hw,rw'⟩:=RelO.some_of (v:=v) (o:=(atKey xs k).map (·.2)) (by rw [l]; exact rel.val k)
    obtain ⟨p,hp,hp2⟩:=Option.map_eq_some_iff.mp hw
    refine wpAny_getItem_heap (tupleKind_room_in1 hu) (Zir I.hok eb) dd hp ?_
    rw [hp2]
    exact h w' _ (I.tok _) rw'
theorem Zfn {h':Heap} {t':Nat} {ob:HO} (I:Inv X pins σ H s) (mu:Mut (H a)) (hs:Heap.SameBut a s.heap h') (he:∃ q,h'.get? a=some q) (new:ObjOk X.prog X.w (upd H a ob) h' a ob) :
    Inv X pins σ (upd H a ob) { s with heap:=h',toks:=t' } :=
  I.write (x:=a) (e:=a) mu (.inl rfl) (fun b q hb z=>(hs.2 b hb).trans z) he new
theorem ZjL {P:Program} {w:World} {H':Hp} {h':Heap} {kvs:List (Key × V)} {vs:List (Key × Value)} (z:kvs.length <= sizeLine) (hd:(a == sysModules)=false) (rel:KV kvs vs) (dd:h'.DictOf (Za3 P w) a vs) :
    ObjOk P w H' h' a (.dK kvs):=⟨z,hd,vs,rel,dd⟩
theorem ZjM {H':Hp} {Q:Unit->Shared->Prop} (hu:A.units + 1 < cLine) (I:Inv X pins σ H s) (g:DPut H a y v H') (ry:RelV y u) (rv:RelV v r) (h:∀ s',Inv X pins σ H' s'->Q () s') :
    wpAny (model X.prog X.w) A (setItem (.ref a) u r) Q E s:=by
  rcases g with ⟨kvs,k,e,ey,l,eH⟩|⟨kvs,k,b,e,ey,eb,l,eH⟩
  . subst ey eH
    obtain ⟨z,hd,vs,rel,dd⟩:=ZjI I.hok e
    have hz:vs.length <= sizeLine:=by rw [<- rel.length]; exact z
    have hl:(putK kvs k v).length <= sizeLine:=by have:=ZbQ kvs k v; omega
    refine wpAny_setItem_pairs (hsz:=hz) (Zhj ry) dd fun h' dd' hs=>h _ ?_
    have he:∃ q,h'.get? a=some q:=let ⟨q,_,_,hq,_⟩:=dd'; ⟨q,hq⟩
    exact Zfn I (by rw [e]; exact True.intro) hs he (ZjL hl hd (rel.put k rv) dd')
  . subst ey eH
    cases (show u=Value.ref b from ry)
    obtain ⟨z,hd,xs,rel,dd⟩:=dt_of I.hok e
    have hz:xs.length <= sizeLine:=by rw [<- Paired.length rel]; exact z
    have hl:(putK kvs k v).length <= sizeLine:=by have:=ZbQ kvs k v; omega
    refine wpAny_setItem_heap (hsz:=hz) (tupleKind_room_in1 hu) (Zir I.hok eb) dd fun h' dd' hs=>h _ ?_
    obtain ⟨q,es,ep,hq,h2,h3,h4,_,h5⟩:=dd'
    refine Zfn I (by rw [e]; exact True.intro) hs ⟨q,hq⟩ ⟨hl,hd,_,(rel.put k eb rv).keeps fun c ys ec=>?_,q,es,ep,hq,h2,h3,h4,h5⟩
    rw [Zaj (Za2 ec e (fun z=>nomatch z))]
    exact ec
end
section
variable {X:Cx} {pins:List (Addr × Obj)} {σ:St} {H:Hp} {s:Shared} {a:Addr} {kvs:List (Key × V)} {k:Key} {u:Value} {A:Around} {E:Value->Shared->Prop}
theorem d_delItem {Q:Unit->Shared->Prop} (I:Inv X pins σ H s) (e:H a=some (.dK kvs)) (ry:RelV (kV k) u) (l:(valV kvs k).isSome=true) (h:∀ s',Inv X pins σ (upd H a (.dK (dropK kvs k))) s'->Q () s') :
    wpAny (model X.prog X.w) A (delItem (.ref a) u) Q E s:=by
  obtain ⟨z,hd,vs,rel,dd⟩:=ZjI I.hok e
  refine wpAny_delItem_slot dd.typeIs (by decide) PySem.F.slot_dict_delitem
    (call_meetsIn PySem.F.slot_dict_delitem dd.typeIs PySem.F.entry_dict_delitem (PySem.F.args_dict_delitem_2 _ _) (meets_dict_delitem_pairs (Za3 X.prog X.w) a (Zhj ry)) ⟨vs,dd,by rw [<- rel.length]; exact z,by rw [<- (rel.val k).isSome_eq]; exact l,fun h' dd' hs=>h _ ?_⟩)
  have he:∃ q,h'.get? a=some q:=let ⟨q,_,_,hq,_⟩:=dd'; ⟨q,hq⟩
  exact Zfn I (by rw [e]; exact True.intro) hs he (ZjL (Nat.le_trans (Zfm kvs k) z) hd (rel.drop k) dd')
theorem d_pop {v:V} {more:List Value} {Q:Value->Shared->Prop} (I:Inv X pins σ H s) (e:H a=some (.dK kvs)) (ry:RelV (kV k) u) (l:valV kvs k=some v) (hm:more=[]\/∃ x,more=[x])
    (h:∀ w' s',Inv X pins σ (upd H a (.dK (dropK kvs k))) s'->RelV v w'->Q w' s'):wpAny (model X.prog X.w) A (call (.builtin "dict.pop") (.ref a :: u :: more)) Q E s:=by
  obtain ⟨z,hd,vs,rel,dd⟩:=ZjI I.hok e
  obtain ⟨w',hw,rw'⟩:=RelO.some_of (v:=v) (o:=valueAt vs k) (by rw [<- l]; exact rel.val k)
  have hp:(keyPart u).isSome=true:=by
    cases k with
    | inl i=>obtain ⟨t,q⟩:=(show ∃ t,u=Value.int i t from ry); subst q; rfl
    | inr x=>obtain ⟨t,q⟩:=(show ∃ t,u=Value.str x t from ry); subst q; rfl
  have ha:argsOk "dict.pop" ⟨.ref a :: u :: more,[]⟩:=by
    rcases hm with q|⟨x,q⟩
    . subst q; exact PySem.F.args_dict_pop_2 _ _
    . subst q; exact PySem.F.args_dict_pop_3 _ _ _
  refine call_meetsIn PySem.F.slot_dict_pop dd.typeIs PySem.F.entry_dict_pop ha (meets_dict_pop_there (Za3 X.prog X.w) a (Zhj ry) more hm hp)
    ⟨vs,w',dd,by rw [<- rel.length]; exact z,hw,fun h' dd' hs=>h w' _ ?_ rw'⟩
  have he:∃ q,h'.get? a=some q:=let ⟨q,_,_,hq,_⟩:=dd'; ⟨q,hq⟩
  exact Zfn I (by rw [e]; exact True.intro) hs he (ZjL (Nat.le_trans (Zfm kvs k) z) hd (rel.drop k) dd')
theorem d_popD {r:Value} {Q:Value->Shared->Prop} (I:Inv X pins σ H s) (e:H a=some (.dK kvs)) (ry:RelV (kV k) u) (l:valV kvs k=none) (h:∀ s',Inv X pins σ H s'->Q r s') :
    wpAny (model X.prog X.w) A (call (.builtin "dict.pop") [.ref a,u,r]) Q E s:=by
  obtain ⟨z,hd,vs,rel,dd⟩:=ZjI I.hok e
  have hn:valueAt vs k=none:=RelO.none_of (by rw [<- l]; exact rel.val k)
  have hp:(keyPart u).isSome=true:=by
    cases k with
    | inl i=>obtain ⟨t,q⟩:=(show ∃ t,u=Value.int i t from ry); subst q; rfl
    | inr x=>obtain ⟨t,q⟩:=(show ∃ t,u=Value.str x t from ry); subst q; rfl
  exact call_meetsIn PySem.F.slot_dict_pop dd.typeIs PySem.F.entry_dict_pop (PySem.F.args_dict_pop_3 _ _ _) (meets_dict_pop_default (Za3 X.prog X.w) a (Zhj ry) hd hp r) ⟨vs,dd,hn,h _ (I.tok _)⟩
end
noncomputable def NoSl (i:Expr):Prop:=∀ ov iv,subscripted i false ov iv=operate [ov,iv] (getItem ov iv)
theorem ZjN {prog:Program} {w:World} {A:Around} {E:Value->Shared->Prop} {s:Shared} {env:Env} {value slice:Expr} {pos:Pos} {T id:String} {Q:Value->Shared->Prop}
    (hl:typeLookup (.type T) "__getitem__" = pure (some (.builtin id))) (hs:NoSl slice)
    (h:wpAny (model prog w) A (eval value env) (fun o s₁=>wpAny (model prog w) A (eval slice env) (fun i s₂=>s₂.TypeIs o T/\wpAny (model prog w) A (getItem o i) Q E s₂) E s₁) E s) :
    wpAny (model prog w) A (eval (.Subscript value slice pos) env) Q E s:=by
  refine Subscript_ (wpAny_mono h (fun o s₁ h₁=>wpAny_mono h₁ (fun i s₂ h₂=>?_) fun _ _ x=>x) fun _ _ x=>x)
  obtain ⟨hT,h₂⟩:=h₂
  unfold subscriptTail
  refine wpAny_bind ?_
  rw [getitemInPython_of_ne hT.not_modules]
  refine wpAny_bind (wpAny_specialOf hT hl ?_)
  have fin:wpAny (model prog w) A (subscripted slice false o i) (fun r s₃=>wpAny (model prog w) A (letTemporaryGo value o r >>= fun _=>pure r) Q E s₃) E s₂:=by
    rw [hs o i]
    exact wpAny_operating (wpAny_mono h₂ (fun r s₃ h₃=>wpAny_bind (wpAny_letTemporaryGo (wpAny_pure h₃))) fun _ _ x=>x)
  first
    | exact wpAny_pure (wpAny_bind fin)
    | exact wpAny_bind (wpAny_pure (wpAny_bind fin))
    | exact wpAny_bind fin
theorem Zhk {X:Cx} {pins:List (Addr × Obj)} {σ:St} {H:Hp} {s:Shared} {a:Addr} {y:V} {o:Option V} (I:Inv X pins σ H s) (g:DGet H a y o):s.TypeIs (.ref a) "dict" := by
  rcases g with ⟨kvs,k,e,_,_⟩|⟨kvs,k,b,e,_,_,_⟩
  . obtain ⟨_,_,vs,_,dd⟩:=ZjH I.hok e
    exact dd.typeIs
  . obtain ⟨_,_,xs,_,dd⟩:=ZjJ I.hok e
    exact dd.typeIs
noncomputable def tDGet (td ty:TE):TE:=fun σ H Q=>td σ H fun x H1=>ty σ H1 fun y H2=>∃ a v,x=.ref a/\DGet H2 a y (some v)/\Q v H2
noncomputable def sDPut (td ty tv:TE):TS:=fun D σ H=>tv σ H fun v H1=>td σ H1 fun x H2=>ty σ H2 fun y H3=>∃ a H4,x=.ref a/\DPut H3 a y v H4/\D.nx σ H4
section
variable {X:Cx} {o i e value:Expr} {pos pos' tpos:Pos} {td ty tv:TE}
theorem Zeh (hu:X.A.units + 1 < cLine) (ho:PE X o td) (hi:PE X i ty) (hs:NoSl i):PE X (.Subscript o i pos) (tDGet td ty):=by
  intro pins s σ H Q I h
  refine ZjN PySem.F.slot_dict_getitem.lookup hs (thn (ho pins s σ H _ I h) fun u s1 ⟨x,H1,I1,rx,q1⟩=>thn (hi pins s1 σ H1 _ I1 q1) fun iv s2 ⟨y,H2,I2,ry,a,v,ex,g,q2⟩=>?_)
  subst ex
  obtain rfl:u=Value.ref a:=rx
  exact ⟨Zhk I2 g,ZjK hu I2 g ry fun w' s3 I3 rw'=>⟨v,H2,I3,rw',q2⟩⟩
theorem Zhl (hu:X.A.units + 1 < cLine) (ho:PE X o td) (hi:PE X i ty) (hv:PE X value tv) (hs:swapsWith value (some (.Subscript o i pos')) pos.line X.env=pure false) :
    PS X (.Assign [.Subscript o i pos'] value pos) (sDPut td ty tv):=by
  intro pins s σ H D I h
  refine wpAny_Assign_Subscript (thn (hv pins s σ H _ I h) fun r s1 ⟨v,H1,I1,rv,q1⟩=>thn (ho pins s1 σ H1 _ I1 q1) fun u s2 ⟨x,H2,I2,rx,q2⟩=>thn (hi pins s2 σ H2 _ I2 q2) fun iv s3 ⟨y,H3,I3,ry,a,H4,ex,g,q3⟩=>?_) hs
  subst ex
  obtain rfl:u=Value.ref a:=rx
  exact ZjM hu I3 g ry rv fun s4 I4=>⟨σ,H4,I4,q3⟩
end
theorem Zis {P:Program} {w:World} {H:Hp} (h:Heap) (hb:sysModules < h.objs.size):ObjOk P w H (h.push { cls:=.type "dict", data:=.dict #[] }) h.objs.size (.dK []) :=
  ⟨Nat.zero_le _,beq_eq_false_iff_ne.mpr (Ne.symm (Nat.ne_of_lt hb)),[],.nil,Heap.DictOf.new h⟩
noncomputable def tDNewK:TE:=fun _ H Q=>∀ p,H p=none->Q (.ref p) (upd H p (.dK []))
section
variable {X:Cx} {pos:Pos}
theorem Zit:PE X (.Dict [] [] pos) tDNewK:=fun pins s σ H Q I h =>
  wpAny_Dict_empty ⟨.ref s.heap.objs.size,_,I.laid (a:=s.heap.objs.size) (o:=.dK []) (t':=s.toks) (fun _ _ q=>Heap.get?_push_of_some _ q) (Nat.le_refl _) (Zis s.heap I.big),rfl,h _ (I.hok.fresh (Nat.le_refl _))⟩
end
noncomputable abbrev VV:List (V × V)->List (Value × Value)->Prop:=Paired fun p q=>RelV p.1 q.1/\RelV p.2 q.2
structure M1 (X:Cx) (o:Expr) (m:Str) (apos:Pos) (e:Expr) (cpos:Pos):Prop where
  base:attributeBase o m X.env (eval o X.env)=eval o X.env
  few:((backTo cpos (starEach [e] X.env)).all (fun x=>!x.1) && (backToKw cpos (keywordEach [] X.env)).all (fun x=>x.1.isSome)
    && decide (([e]:List Expr).length + ([]:List Keyword).length + (if ([]:List Keyword).isEmpty then 0 else 1) < 30))=true
  line:(apos.endLine == cpos.line)=true
  trees:backTo cpos (starEach [e] X.env)=[(false,eval e X.env)]
structure M2 (X:Cx) (o:Expr) (m:Str) (apos:Pos) (e f:Expr) (cpos:Pos):Prop where
  base:attributeBase o m X.env (eval o X.env)=eval o X.env
  few:((backTo cpos (starEach [e,f] X.env)).all (fun x=>!x.1) && (backToKw cpos (keywordEach [] X.env)).all (fun x=>x.1.isSome)
    && decide (([e,f]:List Expr).length + ([]:List Keyword).length + (if ([]:List Keyword).isEmpty then 0 else 1) < 30))=true
  line:(apos.endLine == cpos.line)=true
  trees:backTo cpos (starEach [e,f] X.env)=[(false,eval e X.env),(false,eval f X.env)]
noncomputable def IsD (H:Hp) (a:Addr):Prop:=(∃ kvs,Rd H a (.dK kvs))\/∃ kvs,Rd H a (.dT kvs)
theorem ZlR {X:Cx} {pins:List (Addr × Obj)} {σ:St} {H:Hp} {s:Shared} {a:Addr} (I:Inv X pins σ H s) (d:IsD H a) :
    s.TypeIs (.ref a) "dict" /\ (∀ b,Value.ref a=.ref b->∃ ob,s.heap.get? b=some ob/\ob.dict=none)/\(a == sysModules)=false:=by
  rcases d with ⟨kvs,e⟩|⟨kvs,e⟩
  . obtain ⟨_,hd,vs,_,dd⟩:=ZjH I.hok e
    refine ⟨dd.typeIs,fun b q=>?_,hd⟩
    cases q
    obtain ⟨ob,_,_,h1,h2,_⟩:=dd
    exact ⟨ob,h1,h2.2.1⟩
  . obtain ⟨_,hd,xs,_,dd⟩:=ZjJ I.hok e
    refine ⟨dd.typeIs,fun b q=>?_,hd⟩
    cases q
    obtain ⟨ob,_,_,h1,h2,_⟩:=dd
    exact ⟨ob,h1,h2.2.1⟩
section
variable {X:Cx} {pins:List (Addr × Obj)} {σ:St} {H:Hp} {s:Shared} {a:Addr} {y d:V} {u r:Value} {o:Option V} {A:Around} {E:Value->Shared->Prop}
theorem d_get2 {Q:Value->Shared->Prop} (hu:A.units + 1 < cLine) (I:Inv X pins σ H s) (g:DGet H a y o) (ry:RelV y u) (rd:RelV d r) (h:∀ w' s',Inv X pins σ H s'->RelV (o.getD d) w'->Q w' s') :
    wpAny (model X.prog X.w) A (call (.builtin "dict.get") [.ref a,u,r]) Q E s:=by
  rcases g with ⟨kvs,k,e,ey,l⟩|⟨kvs,k,b,e,ey,eb,l⟩
  . subst ey
    obtain ⟨z,hd,vs,rel,dd⟩:=ZjH I.hok e
    refine call_meetsIn PySem.F.slot_dict_get dd.typeIs PySem.F.entry_dict_get (PySem.F.args_dict_get_3 _ _ _) (meets_dict_get_default (Za3 X.prog X.w) a (Zhj ry) hd r) ⟨_,dd.mapOf,h _ _ (I.tok _) ?_⟩
    rw [l]
    exact (rel.val k).getD rd
  . subst ey
    cases (show u=Value.ref b from ry)
    obtain ⟨z,hd,xs,rel,dd⟩:=ZjJ I.hok e
    refine call_meetsIn PySem.F.slot_dict_get dd.typeIs PySem.F.entry_dict_get (PySem.F.args_dict_get_3 _ _ _) (meetsH_dict_get_default (tupleKind (Za3 X.prog X.w)) a b hd r) ⟨tupleKind_room_in1 hu,k,xs,Zir I.hok eb,dd,h _ _ (I.tok _) ?_⟩
    rw [l]
    exact (rel.val k).getD rd
end
noncomputable def tDGet2 (td ty tx:TE):TE:=fun σ H Q=>td σ H fun x H1=>∃ a,x=.ref a/\IsD H1 a/\ty σ H1 fun y H2=>tx σ H2 fun z H3=>∃ o,DGet H3 a y o/\Q (o.getD z) H3
noncomputable def tDPop2 (td ty tx:TE):TE:=fun σ H Q=>td σ H fun x H1=>∃ a,x=.ref a/\IsD H1 a/\ty σ H1 fun y H2=>tx σ H2 fun z H3=>∃ kvs k,H3 a=some (.dK kvs)/\y=kV k /\
  (∀ v,valV kvs k=some v->Q v (upd H3 a (.dK (dropK kvs k))))/\(valV kvs k=none->Q z H3)
section
variable {X:Cx} {o e f:Expr} {apos cpos:Pos} {td ty tx:TE}
theorem Zk0 (hu:X.A.units + 1 < cLine) (ho:PE X o td) (he:PE X e ty) (hf:PE X f tx) (m:M2 X o "get" apos e f cpos):PE X (.Call (.Attribute o "get" apos) [e,f] [] cpos) (tDGet2 td ty tx):=by
  intro pins s σ H Q I h
  refine wpAny_Call_method m.base m.few m.line PySem.F.plainAttrs_dict PySem.F.slot_dict_get PySem.F.type_dict_get (thn (ho pins s σ H _ I h) fun u s1 ⟨x,H1,I1,rx,a,ex,d,q1⟩=>?_)
  subst ex
  obtain rfl:u=Value.ref a:=rx
  obtain ⟨t1,t2,_⟩:=ZlR I1 d
  refine ⟨t1,t2,?_⟩
  rw [m.trees]
  refine Calls.callWith_builtin rfl (Calls.evalArgs_plain (Calls.spliced_cons (thn (he pins s1 σ H1 _ I1 q1) fun iv s2 ⟨y,H2,I2,ry,q2⟩ =>
    Calls.spliced_cons (thn (hf pins s2 σ H2 _ I2 q2) fun fv s3 ⟨z,H3,I3,rz,ov,g,q3⟩=>Calls.spliced_nil ?_))))
  exact d_get2 hu I3 g ry rz fun w' s4 I4 rw'=>⟨_,H3,I4,rw',q3⟩
theorem Zk1 (ho:PE X o td) (he:PE X e ty) (hf:PE X f tx) (m:M2 X o "pop" apos e f cpos):PE X (.Call (.Attribute o "pop" apos) [e,f] [] cpos) (tDPop2 td ty tx):=by
  intro pins s σ H Q I h
  refine wpAny_Call_method m.base m.few m.line PySem.F.plainAttrs_dict PySem.F.slot_dict_pop PySem.F.type_dict_pop (thn (ho pins s σ H _ I h) fun u s1 ⟨x,H1,I1,rx,a,ex,d,q1⟩=>?_)
  subst ex
  obtain rfl:u=Value.ref a:=rx
  obtain ⟨t1,t2,_⟩:=ZlR I1 d
  refine ⟨t1,t2,?_⟩
  rw [m.trees]
  refine Calls.callWith_builtin rfl (Calls.evalArgs_plain (Calls.spliced_cons (thn (he pins s1 σ H1 _ I1 q1) fun iv s2 ⟨y,H2,I2,ry,q2⟩ =>
    Calls.spliced_cons (thn (hf pins s2 σ H2 _ I2 q2) fun fv s3 ⟨z,H3,I3,rz,kvs,k,ea,ey,q3,q4⟩=>Calls.spliced_nil ?_))))
  subst ey
  cases l:valV kvs k with
  | some v=>exact d_pop I3 ea ry l (.inr ⟨fv,rfl⟩) fun w' s4 I4 rw'=>⟨v,_,I4,rw',q3 v l⟩
  | none=>exact d_popD I3 ea ry l fun s4 I4=>⟨z,H3,I4,rz,q4 l⟩
end
section
variable {X:Cx} {pins:List (Addr × Obj)} {σ:St} {H:Hp} {s:Shared} {a:Addr} {kvs:List (Key × V)} {A:Around} {E:Value->Shared->Prop}
end
section
variable {X:Cx} {pins:List (Addr × Obj)} {σ:St} {H:Hp} {s:Shared} {a:Addr} {y:V} {u:Value} {A:Around} {E:Value->Shared->Prop}
end
end L2
namespace Att
open PySem PySem.W PySem.Calls PyProof.Rows
theorem Zei {P:Params} {h:Heap}:∀ (ns:List Int) (vs:List Value),WellAll P h vs (ns.map WData.int)->IntsAre vs ns:=by
  intro ns
  induction ns with
  | nil =>
    intro vs w
    rw [List.map_nil] at w
    cases w
    exact .nil
  | cons n ns ih =>
    intro vs w
    rw [List.map_cons] at w
    cases w with
    | cons a b =>
      cases a
      exact .cons _ _ (ih _ b)
theorem Zgp {l:OpenLaw} {n:Nat} (hn:l.most=some n) {P:Params} {h:Heap} {args:List WData} {vals:List Value}
    (hpre:l.row.toRowW.claim.pre args=true) (hwl:WellAll P h vals args) :
    ∃ a vs ns,vals=[Value.ref a]/\args=[WData.list (ns.map WData.int)]/\h.get? a=some { cls:=.type "list", data:=.seq vs.toArray }/\IntsAre vs ns/\ns.length <= n:=by
  have hsh:WShape.hasAll [] args [.list .int]=true:=(pre_splitW hpre).1
  have hc:l.pre.holds [] { args:=args }=true:=(pre_splitW hpre).2
  obtain ⟨d,r,rfl,h1,h2⟩:=hasAllW_cons hsh
  obtain rfl:=hasAllW_nil h2
  obtain ⟨xs,rfl,h3⟩:=hasW_list h1
  obtain ⟨ns,rfl⟩:=items_int h3
  have hlen:ns.length <= n:=by
    unfold OpenLaw.pre at hc
    have h4:(WTm.not (.lt (.lit (.int (n:Int))) (.len (.arg 0)))).holds [] { args:=[.list (ns.map .int)] }=true:=by
      have h4:=(holds_andW hc).1
      rw [hn] at h4
      exact h4
    have h5:=condW_of h4 (w_not (w_lt w_lit (w_len_list (w_arg rfl))))
    rw [List.length_map] at h5
    refine Nat.le_of_not_lt fun q=>?_
    have q':(n:Int) < ((ns.length:Nat):Int):=by omega
    first
      | (rw [decide_eq_true q'] at h5; exact absurd h5 (by decide))
      | (simp at h5; omega)
  cases hwl with
  | cons w1 w2 =>
    cases w2
    cases w1 with
    | list ho hall=>exact ⟨_,_,ns,rfl,rfl,ho,Zei ns _ hall,hlen⟩
theorem Zgq (l:OpenLaw) (args:List WData):l.row.toRowW.claim.post args (.bool true) args=true :=
  postW_of (r:=l.row.toRowW) (X:=(true == true))
    (show WShape.has [] (.bool true) .bool=true by first|rfl|decide|simp [WShape.has,WShape.arms,WShape.armsAll])
    (show (WTm.eq .res (.lit (.bool true))).value [] { args:=args,res:=some (.bool true),after:=args }=some (.bool (true == true)) from w_eq_bool (w_res rfl) w_lit) rfl
theorem attach {l:OpenLaw} {n:Nat} {q:Program} {loose:List Str} {XP:(Str->Option Value)->Heap->Prop} {YP:World->Heap->Prop} {d:DefRec} {x:Str}
    (hn:l.most=some n) (hdf:d.params.defaults=[])
    (hbind:∀ pm cd doc v:Value,bindArgs (docDef d.name d.params d.body d.scope pm cd doc) ⟨[v],[]⟩=pure [(x,v)])
    (hx:d.scope.names.lookup x=some .local\/d.scope.names.lookup x=some .cell)
    (hk:d.scope.kind=.function) (hco:d.scope.isCoroutine=false) (hgen:d.scope.isGenerator=false)
    (body:∀ (w:World) (s₀ s₁ s:Shared) (mg mb:Str->Option Value) (fa:Addr) (o:Obj) (pm cd doc:Value) (a:Addr) (vs:List Value) (ns:List Int),
      Ground q loose [] XP w s₀ mg mb s₁.heap->YP w s₁.heap ->
      s₁.heap.get? fa=some o->o.data=.func (docDef d.name d.params d.body d.scope pm cd doc)->s₁.heap.CodeRec cd d.name->mg d.name=some (.ref fa) ->
      s₁.heap.get? a=some { cls:=.type "list", data:=.seq vs.toArray }->IntsAre vs ns->ns.length <= n ->
      s.gens=#[]->s.os=s₁.os ->
      Fr s₁.heap s₁.heap.objs.size s.heap (bindL (envOfC d.name d.scope s₁.heap.objs.size fa cd).kindOf [(x,.ref a)] fun _=>none) ->
      Cl s₁.heap.objs.size (cellsFrom (s₁.heap.objs.size + 1) d.scope.names []) s.heap (bindC (envOfC d.name d.scope s₁.heap.objs.size fa cd).kindOf [(x,.ref a)] fun _=>none) ->
      wpAny (model l.prog w) (callerA.deeper (envOfC d.name d.scope s₁.heap.objs.size fa cd)) (execs d.body (envOfC d.name d.scope s₁.heap.objs.size fa cd))
        (fun f s'=>f=.ret (.bool true)/\OldK s₁.heap s'.heap/\s'.os=s₁.os/\AllBare s'.gens) (fun _ _=>False) s) :
    WalkO q loose XP YP l.row.toRowW d [] (fun f vs=>PySem.call f vs):=by
  intro w s₀ s₁ mg mb G Y fa o pm cd doc dV kV ho hd hcd hD hmg hg args vals as hpre hlay hrd hwl hlo
  obtain rfl:dV=.none:=Dflts.none hD hdf
  obtain rfl:kV=.none:=Dflts.noKw hD
  obtain ⟨a,vs,ns,rfl,rfl,hobj,hints,hlen⟩:=Zgp hn hpre hwl
  refine enter_call ?_
  refine call_cells_ret (o:=o) (by rw [depth_caller]; decide) ho (fd_plain hd) G.T.nolimit hcd (hbind pm cd doc (.ref a)) (fun y hy=>?_) (fun h₁ tk F X=>?_) hco hgen hk
  . obtain rfl:y=(x,Value.ref a):=List.mem_singleton.mp hy
    rcases hx with e|e
    . exact .inl e
    . exact .inr ⟨e,cellsFrom_some _ _ _ (.inl e)⟩
  . refine wpAny_mono (body w s₀ s₁ { s₁ with heap:=h₁,toks:=tk } mg mb fa o pm cd doc a vs ns G Y ho (fd_plain hd) hcd hmg hobj hints hlen hg rfl F X) (fun f s' hq=>?_) (fun _ _ hq=>hq)
    obtain ⟨rfl,h2,h3,h4⟩:=hq
    exact ⟨.inl ⟨.bool true,.bool true,[],rfl,fun _=>rfl,.bool true,Zgq l _,fun _=>⟨List.Pairwise.nil,fun _ hm=>(nomatch hm)⟩⟩,h2,h3,h4⟩
theorem Zhm {l:OpenLaw} {n:Nat} {q:Program} {loose:List Str} {XP:(Str->Option Value)->Heap->Prop} {YP:World->Heap->Prop} {d:DefRec}
    (hn:l.most=some n) (hdf:d.params.defaults=[])
    (call:∀ (w:World) (s₀ s₁:Shared) (mg mb:Str->Option Value) (fa:Addr) (o:Obj) (pm cd doc:Value) (a:Addr) (vs:List Value) (ns:List Int),
      Ground q loose [] XP w s₀ mg mb s₁.heap->YP w s₁.heap ->
      s₁.heap.get? fa=some o->o.data=.func (docDef d.name d.params d.body d.scope pm cd doc)->s₁.heap.CodeRec cd d.name->mg d.name=some (.ref fa) ->
      s₁.heap.get? a=some { cls:=.type "list", data:=.seq vs.toArray }->IntsAre vs ns->ns.length <= n->s₁.gens=#[] ->
      codeAny (model l.prog w) callerA (.call (.ref fa) ⟨[.ref a],[]⟩) (fun r s'=>r=.ok (.ret (.bool true))/\OldK s₁.heap s'.heap/\s'.os=s₁.os/\AllBare s'.gens) s₁) :
    WalkO q loose XP YP l.row.toRowW d [] (fun f vs=>PySem.call f vs):=by
  intro w s₀ s₁ mg mb G Y fa o pm cd doc dV kV ho hd hcd hD hmg hg args vals as hpre hlay hrd hwl hlo
  obtain rfl:dV=.none:=Dflts.none hD hdf
  obtain rfl:kV=.none:=Dflts.noKw hD
  obtain ⟨a,vs,ns,rfl,rfl,hobj,hints,hlen⟩:=Zgp hn hpre hwl
  refine enter_call (codeAny_mono (call w s₀ s₁ mg mb fa o pm cd doc a vs ns G Y ho (fd_plain hd) hcd hmg hobj hints hlen hg) fun r s' hq=>?_)
  obtain ⟨rfl,h2,h3,h4⟩:=hq
  exact ⟨.inl ⟨.bool true,.bool true,[],rfl,fun _=>rfl,.bool true,Zgq l _,fun _=>⟨List.Pairwise.nil,fun _ hm=>(nomatch hm)⟩⟩,h2,h3,h4⟩
section
variable {prog:Program} {w:World} {A:Around} {E:Value->Shared->Prop} {s:Shared} {K:Frag}
end
end Att
namespace L2
open PySem PySem.Spec PyProof.Rows
theorem Zgr:∀ {vs:List Value} {ns:List Int},IntsAre vs ns->Vals (ns.map V.int) vs
  | _,_,.nil=>.nil
  | _,_,.cons n t h=>.cons ⟨t,rfl⟩ (Zgr h)
noncomputable def Only (H:Hp):Prop:=∀ b,H b=none\/∃ o xs,H b=some (.frz o (.lst xs))
theorem Zk2 {P:Program} {w:World} {K:PySem.W.Frag} {mg mb:Str->Option Value} {CX:CXT} {k:Nat} {fa a:Addr} {fd:FuncData} {x:Str} {sp:Sp} {s₁:Shared} {vs:List Value} {ns:List Int}
    (KX:K.In s₁.heap) (hns:s₁.heap.Ns mainGlobals mg) (hb:s₁.heap.Ns builtinsNs mb) (hbb:∀ x:Str,x ≠ "__name__" -> mb x=bootBuiltins x) (hlim:s₁.heap.NoLimit) (hg:s₁.gens=#[])
    (ha:s₁.heap.get? a=some { cls:=.type "list", data:=.seq vs.toArray }) (hi:IntsAre vs ns) (hl:ns.length <= sizeLine) (hr:Room k callerA)
    (F:∀ base:Heap,K.In base->base.Ns mainGlobals mg->FnOk P w K mg base CX k fa fd [x] sp) (hbind:∀ (s:Shared) (u:Value),BindsTo s fd ⟨[u],[]⟩ [(x,u)])
    (hsp:∀ H:Hp,Only H->SqL K H a (ns.map V.int)->sp [.ref a] H (fun v _=>v=.bl true) fun _ _ _=>False)
    (hCX:∀ H e s',CX [] H s₁ (fun _ _ _=>False) e s'->False) :
    codeAny (model P w) callerA (.call (.ref fa) ⟨[.ref a],[]⟩) (fun r s'=>r=.ok (.ret (.bool true))/\OldK s₁.heap s'.heap/\s'.os=s₁.os/\AllBare s'.gens) s₁:=by
  have rv:=Zgr hi
  have lenV:=hi.length
  have core:∀ H:Hp,Only H->SqL K H a (ns.map V.int)->HOk P w H s₁.heap->(∀ b,H b ≠ none->b=a)->(H a ≠ none->K.lookup a=none) ->
      codeAny (model P w) callerA (.call (.ref fa) ⟨[.ref a],[]⟩) (fun r s'=>r=.ok (.ret (.bool true))/\OldK s₁.heap s'.heap/\s'.os=s₁.os/\AllBare s'.gens) s₁:=by
    intro H hO hS hok hA hK
    have base_of:∀ {b:Addr} {o:Obj},s₁.heap.get? b=some o->H b=none->(hidT s₁.heap H).get? b=some o:=fun e n=>ZkN e n
    have noA:∀ {b:Addr} {o:Obj} {es:Array DictEntry} {ep:Nat},s₁.heap.get? b=some o->o.data=.dict es ep->H b=none:=fun {b o es ep} e d=>by
      cases q:H b with
      | none=>rfl
      | some u =>
        have e':b=a:=hA b (by rw [q]; simp)
        subst e'
        rw [ha] at e; cases e
        have d':Data.seq vs.toArray _=Data.dict es ep:=d
        cases d'
    have nsK:∀ {b:Addr} {m:Str->Option Value},s₁.heap.Ns b m->(hidT s₁.heap H).Ns b m:=fun {b m} ⟨o,es,ep,e,d,r⟩=>⟨o,es,ep,base_of e (noA e d),d,r⟩
    have hKb:K.In (hidT s₁.heap H):=fun b o e=>base_of (KX b o e) (by
      cases q:H b with
      | none=>rfl
      | some u =>
        have e':b=a:=hA b (by rw [q]; simp)
        subst e'
        rw [hK (by rw [q]; simp)] at e; cases e)
    have hM:Mod K mg (hidT s₁.heap H):=⟨hKb,nsK hns,⟨mb,nsK hb,hbb⟩,let ⟨mc,h1,h2⟩:=hlim; ⟨mc,nsK h1,h2⟩⟩
    have e0:Env0 P w K mg (hidT s₁.heap H) callerA [] s₁ H:=⟨rfl,hM,fun b o e=>Zl4 e,Nat.le_of_eq (Zjn _ _),trivial,fun b hb=>absurd (show b ∈ ([]:List Addr) from hb) (by simp),hok,.of_eq hg⟩
    refine codeAny_mono ((F _ hKb (nsK hns)).run callerA [] s₁ H ⟨[.ref a],[]⟩ [.ref a] [.ref a] _ _ hr e0 (hbind s₁ (.ref a)) (.cons rfl .nil) (hsp H hO hS)) fun r s' h=>?_
    cases r with
    | error e=>exact (hCX H e s' h).elim
    | ok fl =>
      cases fl with
      | next=>exact False.elim h
      | brk=>exact False.elim h
      | cont=>exact False.elim h
      | ret u =>
        obtain ⟨v,H',os,bare,un,hok',r',q⟩:=h
        have q':v=.bl true:=q
        subst q'
        obtain rfl:u=Value.bool true:=r'
        refine ⟨rfl,OldK.of_keep fun b o e=>?_,os,bare⟩
        cases q:H b with
        | none=>exact un.keep b o e q (by intro z; exact absurd (show b ∈ ([]:List Addr) from z) (by simp)) (by simp)
        | some u =>
          rcases hO b with z|⟨ob,xs,z⟩
          . rw [q] at z; cases z
          . have z2:=un.frzs b ob _ z
            obtain ⟨e1,_⟩:=hok b _ z
            obtain ⟨e2,_⟩:=hok' b _ z2
            rw [e] at e1; cases e1
            exact e2
  cases hk:K.lookup a with
  | some o =>
    have e:=KX a o hk
    rw [ha] at e
    cases e
    refine core (fun _=>none) (fun _=>.inl rfl) (.inr ⟨_,vs.toArray,_,hk,rfl,rfl,rfl,by rw [List.size_toArray,lenV]; exact hl,by simpa using rv⟩) (fun b u z=>by have z':(none:Option HO)=some u:=z; cases z') (fun b z=>absurd rfl z) fun z=>absurd rfl z
  | none =>
    refine core (fun b=>if b=a then some (.frz { cls:=.type "list", data:=.seq vs.toArray } (.lst (ns.map V.int))) else none) (fun b=>?_) (.inl (.inr ⟨{ cls:=.type "list", data:=.seq vs.toArray },if_pos rfl⟩)) (fun b u z=>?_) (fun b z=>?_) fun _=>hk
    . by_cases hb:b=a
      . exact .inr ⟨_,_,if_pos hb⟩
      . exact .inl (if_neg hb)
    . by_cases hb:b=a
      . have z':=(if_pos hb).symm.trans z
        cases z'
        subst hb
        exact ⟨ha,by rw [List.length_map]; exact hl,vs,_,rv,ha⟩
      . have z':=(if_neg hb).symm.trans z
        cases z'
    . by_cases hb:b=a
      . exact hb
      . exact absurd (if_neg hb) z
end L2
namespace L2
open PySem PySem.Spec PyProof.Rows
noncomputable abbrev KOf {K:PySem.W.Frag} {h:Heap} (_:K.In h):PySem.W.Frag:=K
theorem Zmk {l:PySem.W.OpenLaw} {n k:Nat} {q:Program} {loose:List Str} {XP:(Str->Option Value)->Heap->Prop} {YP:World->Heap->Prop} {d:DefRec} {K:Params->PySem.W.Frag} {CX:World->CXT} {sp:World->Sp} {x:Str}
    (hn:l.most=some n) (hn2:n <= sizeLine) (hdf:d.params.defaults=[]) (hr:Room k callerA)
    (hY:∀ (w:World) (h:Heap),YP w h->(K w.params).In h)
    (F:∀ (w:World) (mg:Str->Option Value) (fa:Addr) (h:Heap),(K w.params).In h->h.Ns mainGlobals mg->mg d.name=some (.ref fa) ->
      ∃ fd:FuncData,(∀ (s:Shared) (u:Value),BindsTo s fd ⟨[u],[]⟩ [(x,u)]) /\
        ∀ base:Heap,(K w.params).In base->base.Ns mainGlobals mg->FnOk l.prog w (K w.params) mg base (CX w) k fa fd [x] (sp w))
    (hsp:∀ (w:World) (H:Hp) (a:Addr) (ns:List Int),ns.length <= n->Only H->SqL (K w.params) H a (ns.map V.int)->sp w [.ref a] H (fun v _=>v=.bl true) fun _ _ _=>False)
    (hCX:∀ (w:World) (H:Hp) (s:Shared) (e:Value) (s':Shared),CX w [] H s (fun _ _ _=>False) e s'->False) :
    PySem.W.WalkO q loose XP YP l.row.toRowW d [] (fun f vs=>PySem.call f vs):=by
  refine Att.Zhm hn hdf fun w s₀ s₁ mg mb fa o pm cd doc a vs ns G Y ho hd hcd hmg hobj hints hlen hg=>?_
  have KX:=hY w _ Y
  obtain ⟨fd,hb,hF⟩:=F w mg fa _ KX G.T.g hmg
  exact Zk2 KX G.T.g G.T.b G.T.builtins G.T.nolimit hg hobj hints (Nat.le_trans hlen hn2) hr hF hb (fun H hO hS=>hsp w H a ns hlen hO hS) fun H e s'=>hCX w H s₁ e s'
theorem Zk3 {l:PySem.W.OpenLaw} {n k:Nat} {q:Program} {loose:List Str} {XP:(Str->Option Value)->Heap->Prop} {YP:World->Heap->Prop} {d:DefRec} {K:Params->PySem.W.Frag} {CX:CXT} {sp:PySem.W.Frag->Sp} {x:Str}
    (hn:l.most=some n) (hn2:n <= sizeLine) (hdf:d.params.defaults=[]) (hr:Room k callerA)
    (hY:∀ (w:World) (h:Heap),YP w h->(K w.params).In h)
    (F:∀ (w:World) (mg:Str->Option Value) (fa:Addr) (h:Heap),(K w.params).In h->h.Ns mainGlobals mg->mg d.name=some (.ref fa) ->
      ∃ fd:FuncData,(∀ (s:Shared) (u:Value),BindsTo s fd ⟨[u],[]⟩ [(x,u)]) /\
        ∀ base:Heap,(K w.params).In base->base.Ns mainGlobals mg->FnOk l.prog w (K w.params) mg base CX k fa fd [x] (sp (K w.params)))
    (hsp:∀ (K:PySem.W.Frag) (H:Hp) (a:Addr) (ns:List Int),ns.length <= n->Only H->SqL K H a (ns.map V.int)->sp K [.ref a] H (fun v _=>v=.bl true) fun _ _ _=>False)
    (hCX:∀ (H:Hp) (s:Shared) (e:Value) (s':Shared),CX [] H s (fun _ _ _=>False) e s'->False) :
    PySem.W.WalkO q loose XP YP l.row.toRowW d [] (fun f vs=>PySem.call f vs) :=
  Zmk (K:=K) (CX:=fun _=>CX) (sp:=fun w=>sp (K w.params)) hn hn2 hdf hr hY F (fun w H a ns h1 h2 h3=>hsp (K w.params) H a ns h1 h2 h3) fun _ H s e s'=>hCX H s e s'
end L2
namespace L2
open PySem PySem.Spec PyProof.Rows
noncomputable def ZaD (s:Stmt) (j:Nat):Stmt:=match s with
  | .ClassDef _ _ _ body _ _ _ _ _ _ _=>body.getD j (.Pass ⟨0,0,0,0⟩)
  | _=>.Pass ⟨0,0,0,0⟩
noncomputable def Zas (s:Stmt):Arguments:=match s with
  | .FunctionDef _ a _ _ _ _ _ _ _ _=>a
  | _=>{ posonlyargs:=[],args:=[],vararg:=none,kwonlyargs:=[],kw_defaults:=[],kwarg:=none,defaults:=[] }
noncomputable def Zar (s:Stmt):List Stmt:=match s with
  | .FunctionDef _ _ b _ _ _ _ _ _ _=>b
  | _=>[]
noncomputable def Zab (s:Stmt):Scope:=match s with
  | .FunctionDef _ _ _ _ _ _ sc _ _ _=>sc
  | _=>{ kind:=.function,names:=[],isGenerator:=false,isCoroutine:=false }
noncomputable abbrev CX0:CXT:=fun _ _ _ _ _ _=>False
noncomputable abbrev E0:XK:=fun _ _ _=>False
theorem pass0 {X:Cx}:Zef CX0 X E0:=fun _ _ _ _ _ _ _ h=>h.elim
structure Fun (K:PySem.W.Frag) (x qual:Str) (st:Stmt) (f:Addr) (fd:FuncData):Prop where
  ex:∃ (oc:Value) (od:Option Addr) (kV doc pm:Value) (an:Option Addr) (cdv ct:Value) (osl:Array (Option Value)),
    fd=PySem.W.fnOf x qual (Zas st) (Zar st) (Zab st) .none kV doc pm an cdv ct/\K.lookup f=some ⟨oc,od,.func fd,osl⟩/\PySem.W.codeIn K cdv qual=true
  kp:PySem.W.keepIn K (.ref f)=true
section
variable {P:Program} {w:World} {K:PySem.W.Frag} {mg:Str->Option Value} {base:Heap}
theorem Fun.ok {x qual:Str} {st:Stmt} {f:Addr} {fd:FuncData} {N ps:List Str} {k:Nat} {sp:Sp} (F:Fun K x qual st f fd) (S:FnScope N ps (Zab st)) (len:∀ vs H Q E,sp vs H Q E->vs.length=ps.length)
    (hbody:∀ (cdv:Value) (A:Around) (outer:List Env) (s:Shared) (H:Hp) (vs:List V) (Q:VK) (E:XK),Room k (A.deeper (envOfC qual (Zab st) s.heap.objs.size f cdv))->sp vs H Q E ->
      ∃ t,PSs (cxOf CX0 P w K mg base N qual (Zab st) f cdv A outer s H E).nox (Zar st) t/\t { nx:=fun _ H'=>Q .non H',rt:=Q } (start N vs) H):FnOk P w K mg base CX0 (k + 1) f fd ps sp:=by
  obtain ⟨oc,od,kV,doc,pm,an,cdv,ct,osl,rfl,lk,hcd⟩:=F.ex
  refine fn_of lk hcd S len fun A outer s H vs Q E hr hsp=>?_
  obtain ⟨t,h,q⟩:=hbody cdv A outer s H vs Q E hr hsp
  exact ⟨t,h.nox,q⟩
theorem Fun.binds {x qual:Str} {st:Stmt} {f:Addr} {fd:FuncData} {ps:List Str} (F:Fun K x qual st f fd)
    (h:∀ (kV doc pm:Value) (an:Option Addr) (cdv ct:Value) (us:List Value),us.length=ps.length->bindArgs (PySem.W.fnOf x qual (Zas st) (Zar st) (Zab st) .none kV doc pm an cdv ct) ⟨us,[]⟩=pure (ps.zip us)):Binds K fd ps []:=by
  obtain ⟨oc,od,kV,doc,pm,an,cdv,ct,osl,rfl,lk,hcd⟩:=F.ex
  exact .all (h kV doc pm an cdv ct)
theorem ZlS {x qual:Str} {st:Stmt} {f:Addr} {oc:Value} {od an:Option Addr} {osl:Array (Option Value)} {kV doc pm cdv ct:Value} (l:K.lookup f=some ⟨oc,od,.func (PySem.W.fnOf x qual (Zas st) (Zar st) (Zab st) .none kV doc pm an cdv ct),osl⟩)
    (c:PySem.W.codeIn K cdv qual=true) (k:PySem.W.keepIn K (.ref f)=true):Fun K x qual st f (PySem.W.fnOf x qual (Zas st) (Zar st) (Zab st) .none kV doc pm an cdv ct):=⟨⟨oc,od,kV,doc,pm,an,cdv,ct,osl,rfl,l,c⟩,k⟩
end
theorem Zfo {A:Around} {k:Nat} (hr:Room k A):A.units + 1 < cLine:=Nat.lt_of_le_of_lt (Nat.add_le_add_left (by decide:1 <= 64) _) hr.units
section
variable {X:Cx}
theorem pv (i:Nat) {x:Str} {pos:Pos} (hN:X.N[i]?=some x:=by rfl) (hv:Vis X.env.scope x:=by first|exact Or.inl rfl|exact Or.inr (Or.inl rfl)|exact Or.inr (Or.inr rfl)) (hd:(x == ("__debug__" : Str))=false:=by decide)
    (hcd:(x == ("__classdict__" : Str))=false:=by decide):PE X (.Name x pos) (tVar i):=pe_var hN hv hd hcd
end
theorem iteF {A B:Prop} (h:B):if false=true then A else B:=by
  rw [if_neg Bool.false_ne_true]
  exact h
theorem iteT {A B:Prop} (h:A):if true=true then A else B:=by
  rw [if_pos rfl]
  exact h
noncomputable def Same (H H':Hp):Prop:=∀ b o,H b=some o->H' b=some o
theorem Same.refl (H:Hp):Same H H:=fun _ _ h=>h
theorem Same.trans {H H1 H2:Hp} (a:Same H H1) (b:Same H1 H2):Same H H2:=fun c o h=>b c o (a c o h)
theorem Same.free {H H':Hp} (e:Same H H') {l:Addr} (h:H' l=Option.none):H l=Option.none:=by
  cases q:H l with
  | none=>rfl
  | some o =>
    rw [e l o q] at h
    cases h
theorem Same.seq {K:PySem.W.Frag} {H H':Hp} {a:Addr} {xs:List V} (e:Same H H') (h:SqL K H a xs):SqL K H' a xs:=by
  rcases h with (h|⟨o,h⟩)|h
  . exact .inl (.inl (e _ _ h))
  . exact .inl (.inr ⟨o,e _ _ h⟩)
  . exact .inr h
section
variable {κ:Type} [DecidableEq κ]
theorem Ziu {kvs:List (κ × V)} {k:κ} (h:valV kvs k=none):¬ k ∈ kvs.map (·.1):=by
  intro m
  obtain ⟨p,hp,e⟩:=List.mem_map.mp m
  have q:(kvs.any fun kv=>decide (kv.1=k))=true:=List.any_eq_true.mpr ⟨p,hp,decide_eq_true e⟩
  rw [Zb9,h] at q
  exact absurd q (by simp)
theorem ZjO:∀ {l:List κ} {k:κ},l.Nodup->¬ k ∈ l->(l ++ [k]).Nodup
  | [],k,_,_=>by simp
  | a :: r,k,h,hk=>by
    obtain ⟨h1,h2⟩:=List.nodup_cons.mp h
    show (a :: (r ++ [k])).Nodup
    refine List.nodup_cons.mpr ⟨fun m=>?_,ZjO h2 fun m=>hk (List.mem_cons.mpr (Or.inr m))⟩
    rcases List.mem_append.mp m with q|q
    . exact h1 q
    . exact hk (List.mem_cons.mpr (Or.inl (List.mem_singleton.mp q).symm))
theorem Zml {kvs:List (κ × V)} {k:κ} (v:V) (hn:(kvs.map (·.1)).Nodup) (h:valV kvs k=none):((putK kvs k v).map (·.1)).Nodup:=by
  rw [ZkZ v h,List.map_append]
  exact ZjO hn (Ziu h)
theorem Zgs {p:κ × V} {r:List (κ × V)} {k:κ} (e:p.1=k):dropK (p :: r) k=dropK r k:=by
  unfold dropK
  rw [List.filter_cons,if_neg (by simp [e])]
theorem Zgt {p:κ × V} {r:List (κ × V)} {k:κ} (e:¬ p.1=k):dropK (p :: r) k=p :: dropK r k:=by
  unfold dropK
  rw [List.filter_cons,if_pos (by simp [e])]
theorem Zgu {kvs:List (κ × V)} {k:κ} {p:κ × V} (h:p ∈ dropK kvs k):p ∈ kvs:=(List.mem_filter.mp h).1
theorem Zfp:∀ {kvs:List (κ × V)} {k:κ},(kvs.map (·.1)).Nodup->((dropK kvs k).map (·.1)).Nodup
  | [],_,_=>List.nodup_nil
  | p :: r,k,h=>by
    have h:(p.1 :: r.map (·.1)).Nodup:=h
    obtain ⟨h1,h2⟩:=List.nodup_cons.mp h
    by_cases e:p.1=k
    . rw [Zgs e]
      exact Zfp h2
    . rw [Zgt e]
      show (p.1 :: (dropK r k).map (·.1)).Nodup
      refine List.nodup_cons.mpr ⟨fun m=>h1 ?_,Zfp h2⟩
      obtain ⟨q,hq,eq⟩:=List.mem_map.mp m
      exact List.mem_map.mpr ⟨q,Zgu hq,eq⟩
end
end L2
namespace L2
open PySem PySem.Spec PyProof.Rows
noncomputable def hid (own:List Str) (x:Str):Str:=if own.contains x=true then "" else x
structure CompScope (sc:Scope) (N own:List Str) (scope:Scope):Prop where
  kind:scope.kind=.function
  nocell:∀ y ∈ scope.names,y.2 ≠ .cell
  names:∀ y ∈ scope.names,y.2=.local->scope.names.lookup y.1=some .local
  free:∀ y ∈ scope.names,y.2=.free->sc.names.lookup y.1=some .cell\/sc.names.lookup y.1=some .free
  dis:∀ x ∈ N,scope.names.lookup x=some .local->own.contains x=true
  no:scope.names.lookup ("" : Str)=none
noncomputable def cxComp (X:Cx) (own:List Str) (scope:Scope) (cl:List (Str × Addr)) (C:Addr) (s:Shared) (H:Hp) (ex:List Addr):Cx :=
  { X with N:=own ++ X.N.map (hid own),s₀:=s,H₀:=H,env:=compEnvC scope cl C X.env,outer:=X.stack,stack:=X.stack,ex:=ex,fn:=fun _=>false,pn:=[],xe:=fun _ _=>False }
theorem Zc9 {κ:Type} [BEq κ] [LawfulBEq κ] {β:Type}:∀ {l:List (κ × β)} {x:κ} {v:β},l.lookup x=some v->(x,v) ∈ l
  | [],_,_,h=>by simp at h
  | (y,u) :: r,x,v,h=>by
    rw [List.lookup_cons] at h
    cases e:x == y with
    | true =>
      rw [e] at h
      cases h
      rw [eq_of_beq e]
      exact List.mem_cons_self
    | false =>
      rw [e] at h
      exact List.mem_cons_of_mem _ (Zc9 h)
theorem ZiX {scope:Scope} {env:Env} (h:∀ y ∈ scope.names,y.2=.free->∃ c,env.cells.lookup y.1=some c) :
    ∃ cl,closureFor scope env=pure cl/\(∀ x c,cl.lookup x=some c->env.cells.lookup x=some c)/\∀ y ∈ scope.names,y.2=.free->∃ c,cl.lookup y.1=some c:=by
  have gen:∀ (names:List (Str × NameKind)) (acc:List (Str × Addr)),(∀ y ∈ names,y.2=.free->∃ c,env.cells.lookup y.1=some c)->(∀ x c,acc.lookup x=some c->env.cells.lookup x=some c) ->
      ∃ cl,(forIn names acc fun (x:Str × NameKind) (r:List (Str × Addr))=>if (x.2 == NameKind.free)=true then (do let a <- cellOf env x.1; pure (ForInStep.yield ((x.1,a) :: r))) else pure (ForInStep.yield r):Sem (List (Str × Addr)))=pure cl/\(∀ x c,cl.lookup x=some c->env.cells.lookup x=some c) /\
        (∀ y ∈ names,y.2=.free->∃ c,cl.lookup y.1=some c)/\∀ x c,acc.lookup x=some c->∃ c',cl.lookup x=some c':=by
    intro names
    induction names with
    | nil=>intro acc _ ha; exact ⟨acc,by simp [List.forIn_nil],ha,fun y hy=>by simp at hy,fun x c e=>⟨c,e⟩⟩
    | cons y r ih =>
      intro acc hn ha
      rw [List.forIn_cons]
      by_cases hf:y.2=.free
      . obtain ⟨c,hc⟩:=hn y List.mem_cons_self hf
        have e1:(y.2 == NameKind.free)=true:=by rw [hf]; rfl
        have ce:cellOf env y.1=pure c:=by unfold cellOf; rw [hc]
        obtain ⟨cl,h1,h2,h3,h4⟩:=ih ((y.1,c) :: acc) (fun z hz=>hn z (List.mem_cons_of_mem _ hz)) (fun x c' e=>by
          rw [List.lookup_cons] at e
          cases q:x == y.1 with
          | true=>rw [q] at e; cases e; rw [eq_of_beq q]; exact hc
          | false=>rw [q] at e; exact ha x c' e)
        refine ⟨cl,?_,h2,?_,?_⟩
        . rw [if_pos e1,ce]
          simpa using h1
        . intro z hz zf
          rcases List.mem_cons.mp hz with rfl|hz
          . exact h4 z.1 c (by rw [List.lookup_cons]; simp)
          . exact h3 z hz zf
        . intro x c' e
          cases q:x == y.1 with
          | true=>exact h4 x c (by rw [List.lookup_cons,q])
          | false=>exact h4 x c' (by rw [List.lookup_cons,q]; exact e)
      . have e1:¬ (y.2 == NameKind.free)=true:=by intro z; exact hf (by simpa using z)
        obtain ⟨cl,h1,h2,h3,h4⟩:=ih acc (fun z hz=>hn z (List.mem_cons_of_mem _ hz)) ha
        refine ⟨cl,?_,h2,?_,h4⟩
        . rw [if_neg e1]
          simpa using h1
        . intro z hz zf
          rcases List.mem_cons.mp hz with rfl|hz
          . exact absurd zf hf
          . exact h3 z hz zf
  obtain ⟨cl,h1,h2,h3,_⟩:=gen scope.names [] h (fun x c e=>by simp at e)
  refine ⟨cl,?_,h2,h3⟩
  unfold closureFor
  simpa using h1
theorem Zca {scope:Scope} {env:Env}:∀ {names:List (Str × NameKind)} {x:Str},(∀ y ∈ names,y.2 ≠ .cell) ->
    (names.map fun (n,k)=>if (k == NameKind.free && env.scope.kind == .function && env.kindOf n == some .cell)=true then (n,NameKind.cell) else (n,k)).lookup x=some .local->names.lookup x=some .local
  | [],_,_,h=>by simp at h
  | (n,k) :: r,x,hc,h=>by
    rw [List.map_cons,List.lookup_cons] at h
    rw [List.lookup_cons]
    by_cases q:(k == NameKind.free && env.scope.kind == .function && env.kindOf n == some .cell)=true
    . simp only [q,if_true] at h
      cases e:x == n with
      | true=>rw [e] at h; cases h
      | false=>rw [e] at h; exact Zca (scope:=scope) (env:=env) (fun y hy=>hc y (List.mem_cons_of_mem _ hy)) h
    . simp only [q] at h
      cases e:x == n with
      | true=>simpa [e] using h
      | false =>
        have h':(r.map fun (n,k)=>if (k == NameKind.free && env.scope.kind == .function && env.kindOf n == some .cell)=true then (n,NameKind.cell) else (n,k)).lookup x=some .local:=by simpa [e] using h
        exact Zca (scope:=scope) (env:=env) (fun y hy=>hc y (List.mem_cons_of_mem _ hy)) h'
theorem Zcb {scope:Scope} {env:Env}:∀ {names:List (Str × NameKind)} {x:Str},(∀ y ∈ names,y.2 ≠ .cell) ->
    ((names.map fun (n,k)=>if (k == NameKind.free && env.scope.kind == .function && env.kindOf n == some .cell)=true then (n,NameKind.cell) else (n,k)).lookup x=some .cell \/
     (names.map fun (n,k)=>if (k == NameKind.free && env.scope.kind == .function && env.kindOf n == some .cell)=true then (n,NameKind.cell) else (n,k)).lookup x=some .free)->(x,NameKind.free) ∈ names
  | [],_,_,h=>by simp at h
  | (n,k) :: r,x,hc,h=>by
    rw [List.map_cons,List.lookup_cons] at h
    by_cases q:(k == NameKind.free && env.scope.kind == .function && env.kindOf n == some .cell)=true
    . have kf:k=.free:=by
        simp only [Bool.and_eq_true,beq_iff_eq] at q
        exact q.1.1
      simp only [q,if_true] at h
      cases e:x == n with
      | true=>rw [eq_of_beq e,kf]; exact List.mem_cons_self
      | false =>
        rw [e] at h
        exact List.mem_cons_of_mem _ (Zcb (scope:=scope) (env:=env) (fun y hy=>hc y (List.mem_cons_of_mem _ hy)) h)
    . simp only [q] at h
      cases e:x == n with
      | true =>
        have h':k=.cell\/k=.free:=by simpa [e] using h
        rcases h' with z|z
        . exact absurd z (hc (n,k) List.mem_cons_self)
        . rw [eq_of_beq e,z]; exact List.mem_cons_self
      | false =>
        have h':((r.map fun (n,k)=>if (k == NameKind.free && env.scope.kind == .function && env.kindOf n == some .cell)=true then (n,NameKind.cell) else (n,k)).lookup x=some .cell \/
     (r.map fun (n,k)=>if (k == NameKind.free && env.scope.kind == .function && env.kindOf n == some .cell)=true then (n,NameKind.cell) else (n,k)).lookup x=some .free):=by simpa [e] using h
        exact List.mem_cons_of_mem _ (Zcb (scope:=scope) (env:=env) (fun y hy=>hc y (List.mem_cons_of_mem _ hy)) h')
theorem Zcp {env:Env}:∀ {names:List (Str × NameKind)} {x:Str},names.lookup x=none ->
    (names.map fun (n,k)=>if (k == NameKind.free && env.scope.kind == .function && env.kindOf n == some .cell)=true then (n,NameKind.cell) else (n,k)).lookup x=none
  | [],_,_=>rfl
  | (n,k) :: r,x,h=>by
    rw [List.lookup_cons] at h
    rw [List.map_cons,List.lookup_cons]
    cases e:x == n with
    | true=>rw [e] at h; cases h
    | false =>
      rw [e] at h
      by_cases q:(k == NameKind.free && env.scope.kind == .function && env.kindOf n == some .cell)=true
      . simp only [q,if_true,e]
        exact Zcp h
      . simp only [q,e]
        simpa [e] using Zcp (env:=env) h
theorem Inv.block {X:Cx} {pins:List (Addr × Obj)} {σ:St} {H:Hp} {s:Shared} {own:List Str} {scope:Scope} {cl:List (Str × Addr)} {fp:List Addr} {h':Heap}
    (I:Inv X pins σ H s) (S:CompScope X.env.scope X.N own scope)
    (c1:∀ x c,cl.lookup x=some c->X.env.cells.lookup x=some c) (c2:∀ y ∈ scope.names,y.2=.free->∃ c,cl.lookup y.1=some c)
    (f:∀ b ∈ fp,FpOk X pins H b) (fo:∀ b ∈ fp,b < s.heap.objs.size)
    (ns:h'.Ns s.heap.objs.size (fun _=>none)) (k:∀ b o,s.heap.get? b=some o->h'.get? b=some o) {t':Nat} :
    Inv (cxComp X own scope cl s.heap.objs.size s H fp) [] (List.replicate own.length none ++ σ) H { s with heap:=h',toks:=t' }:=by
  have kd:∀ x,(compEnvC scope cl s.heap.objs.size X.env).kindOf x=some .cell\/(compEnvC scope cl s.heap.objs.size X.env).kindOf x=some .free->(x,NameKind.free) ∈ scope.names:=fun x h=>Zcb (scope:=scope) (env:=X.env) S.nocell h
  have okY:(cxComp X own scope cl s.heap.objs.size s H fp).Ok:=by
    refine ⟨I.ok.mod,S.kind,I.ok.glob,I.ok.blt,Nat.le_refl _,fun x y c hx hy=>I.ok.inj x y c (c1 x c hx) (c1 y c hy),fun x hx=>?_,fun x c hf=>(nomatch hf),I.ok.hd,I.ok.frames,.inl rfl,fun b hb=>⟨?_,fun x c hc=>?_⟩,I.bs,Nat.le_trans I.ok.bsz I.sz,fun b o e hb=>?_,fun b hb hfs=>?_,I.stack,I.stkFree⟩
    . exact c2 (x,.free) (kd x hx) rfl
    . exact Nat.ne_of_lt (fo b hb)
    . exact (f b hb).2.2.2.2.1 x c (c1 x c hc)
    . rcases (f b hb).2.2.2.1 with z|z
      . exact I.ok.noex b o e z
      . exact absurd (Nat.lt_of_lt_of_le (Heap.lt_size e) (Nat.le_trans I.ok.bsz z)) (Nat.lt_irrefl _)
    . obtain ⟨_,f1,f2,_⟩:=f b hb
      rcases List.mem_cons.mp (I.stkSub b hfs) with z|z
      . exact f1 z
      . exact f2 z
  refine ⟨okY,rfl,I.bare,Un.kept k,⟨_,ns,fun i x v e1 e2 e3=>?_⟩,fun x c hc=>?_,I.hok.fresh (Nat.le_refl _),fun x c hc=>I.freeC x c (c1 x c hc),fun p hp=>by simp [cxComp] at hp,I.hok.kept k,?_⟩
  . by_cases hi:i < own.length
    . have e2':(List.replicate own.length (none:Option V) ++ σ)[i]?=some (some v):=e2
      rw [List.getElem?_append_left (by simpa using hi),List.getElem?_replicate,if_pos hi] at e2'
      cases e2'
    . have hle:own.length <= i:=Nat.le_of_not_lt hi
      have e2':σ[i - own.length]?=some (some v):=by
        have e2':(List.replicate own.length (none:Option V) ++ σ)[i]?=some (some v):=e2
        rw [List.getElem?_append_right (by simpa using hle)] at e2'
        simpa using e2'
      have e1'':(X.N.map (hid own))[i - own.length]?=some x:=by
        have e1':(own ++ X.N.map (hid own))[i]?=some x:=e1
        rwa [List.getElem?_append_right hle] at e1'
      rw [List.getElem?_map] at e1''
      obtain ⟨y,e1',ey⟩:=Option.map_eq_some_iff.mp e1''
      have hy:own.contains y=false:=by
        cases hc:own.contains y with
        | false=>rfl
        | true =>
          unfold hid at ey
          rw [if_pos hc] at ey
          subst ey
          have e3':(scope.names.map fun (n,k)=>if (k == NameKind.free && X.env.scope.kind == .function && X.env.kindOf n == some .cell)=true then (n,NameKind.cell) else (n,k)).lookup ("" : Str) ≠ none:=by
            rcases e3 with z|z|z <;> (intro q; have z':(scope.names.map fun (n,k)=>if (k == NameKind.free && X.env.scope.kind == .function && X.env.kindOf n == some .cell)=true then (n,NameKind.cell) else (n,k)).lookup ("" : Str)=_:=z; rw [q] at z'; cases z')
          exact absurd (Zcp S.no) e3'
      have exy:y=x:=by
        unfold hid at ey
        rw [if_neg (by rw [hy]; exact Bool.false_ne_true)] at ey
        exact ey
      subst exy
      have hm:y ∈ X.N:=List.mem_of_getElem? e1'
      have h3:(compEnvC scope cl s.heap.objs.size X.env).kindOf y=some .cell\/(compEnvC scope cl s.heap.objs.size X.env).kindOf y=some .free:=by
        rcases e3 with z|z
        . have:=S.dis y hm (Zca (scope:=scope) (env:=X.env) S.nocell z)
          rw [hy] at this
          cases this
        . exact z
      have hfree:=kd y h3
      obtain ⟨c,hc⟩:=c2 (y,.free) hfree rfl
      have hout:=S.free (y,.free) hfree rfl
      obtain ⟨m,hn,hl⟩:=I.loc
      obtain ⟨u,r,l⟩:=hl _ y v e1' e2' (hout.elim (fun z=>.inr (.inl z)) (fun z=>.inr (.inr z)))
      refine ⟨u,r,.inr ⟨h3,c,hc,?_⟩⟩
      rcases l with ⟨kl,_⟩|⟨_,c',hc',hcell⟩
      . rcases hout with z|z
        . rw [show X.env.kindOf y=X.env.scope.names.lookup y from rfl,z] at kl; cases kl
        . rw [show X.env.kindOf y=X.env.scope.names.lookup y from rfl,z] at kl; cases kl
      . rw [c1 y c hc] at hc'
        cases hc'
        obtain ⟨o,ho,hd⟩:=hcell
        exact ⟨o,k c o ho,hd⟩
  . obtain ⟨v,o,ho,hd⟩:=I.cell x c (c1 x c hc)
    exact ⟨v,o,k c o ho,hd⟩
  . show (List.replicate own.length (none:Option V) ++ σ).length=(own ++ X.N.map (hid own)).length
    rw [List.length_append,List.length_append,List.length_replicate,List.length_map,I.len]
noncomputable def PIf (X:Cx) (ifs:List Expr) (tc:TT):Prop :=
  ∀ (pins:List (Addr × Obj)) (s:Shared) (σ:St) (H:Hp) (Q:Bool->Hp->Prop),Inv X pins σ H s->tc σ H Q ->
    wpAny (model X.prog X.w) X.A (forIn ifs true fun c r=>if r=true then do let ok <- isTrue c X.env (eval c X.env); pure (ForInStep.yield ok) else pure (ForInStep.yield r)) (TP X pins σ Q) X.xe s
noncomputable def tNoIf:TT:=fun _ H Q=>Q true H
theorem Zfq {X:Cx}:PIf X [] tNoIf:=by
  intro pins s σ H Q I h
  rw [List.forIn_nil]
  exact wpAny_pure ⟨H,I,h⟩
noncomputable def tLoopC (k:Nat) (g:TG) (tc:TT) (te:TE) (J:It) (p:Addr) (R:Hp->Prop) (σ:St) (H:Hp):Prop :=
  ∃ W:Nat->Nat->St->Hp->Prop,(∃ m,W 0 m (List.replicate k none ++ σ) (upd H p (.lst [])))/\∀ i m σ' H',W i m σ' H' ->
    (J.stop i H'/\R H')\/(J.go i H'/\∃ N:St->Hp->Prop,(∀ σ2 H2,N σ2 H2->∃ m',m' < m/\W (i + 1) m' σ2 H2)/\∀ x H1,J.yld i H' x H1->g x σ' H1 fun σ2 H2=>tc σ2 H2 fun b H3 =>
      if b=true then te σ2 H3 fun v H4=>∃ ys,H4 p=some (.lst ys)/\ys.length < sizeLine/\N σ2 (upd H4 p (.lst (ys ++ [v]))) else N σ2 H3)
noncomputable def tComp (k:Nat) (wi:TI) (g:TG) (tc:TT) (te:TE):TE:=fun σ H Q=>wi σ H fun J H1=>∀ p,H1 p=none->tLoopC k g tc te J p (fun H'=>Q (.ref p) H') σ H1
theorem Zgv {X:Cx} {tg elt iter:Expr} {ifs:List Expr} {scope:Scope} {pos:Pos} {own:List Str} {wi:TI} {g:TG} {tc:TT} {te:TE} {pins:List (Addr × Obj)} {σ:St} {H:Hp} {s:Shared} {use:Option (Value->Sem Unit)} {Q:Value->Shared->Prop} {R:Addr->Hp->Prop}
    (hc:X.calm=true) (S:CompScope X.env.scope X.N own scope) (hi:PI X tg iter wi)
    (hg:∀ cl C s₀ H₀ ex,PG (cxComp X own scope cl C s₀ H₀ ex) tg g) (ht:∀ cl C s₀ H₀ ex,PIf (cxComp X own scope cl C s₀ H₀ ex) ifs tc) (he:∀ cl C s₀ H₀ ex,PE (cxComp X own scope cl C s₀ H₀ ex) elt te)
    (hs:∀ x,foldedSetIterable iter X.env x=pure x)
    (I:Inv X pins σ H s) (h:wi σ H fun J H1=>∀ p,H1 p=none->tLoopC own.length g tc te J p (R p) σ H1)
    (fin:∀ (p:Addr) (H':Hp) (s':Shared) (C:Addr) (m:Str->Option Value),Inv X pins σ H' s'->FpOk X pins H' C->s'.heap.Ns C m->R p H'->compPost (model X.prog X.w) X.A X.xe use Q (.ref p) C (.ok .next) s') :
    wpAny (model X.prog X.w) X.A (comprehension (.ListComp elt [⟨tg,iter,ifs,0⟩] scope pos) scope X.env (firstIterPos [⟨tg,iter,ifs,0⟩] pos) (newList []) false (eval iter X.env) use) Q X.xe s:=by
  obtain ⟨cl,hcl,c1,c2⟩:=ZiX (scope:=scope) (env:=X.env) fun y hy hf=>I.ok.has y.1 (S.free y hy hf)
  refine wpAny_comprehension_free (use:=use) rfl hs hcl S.kind S.names (thn (hi pins s σ H _ I h) fun xv s1 h1=>thn h1 fun itv s2 h2=>?_)
  obtain ⟨it,fp,tn,J,H2,e,I2,T,st2,f2,q2⟩:=h2
  subst e
  refine wpAny_newObj_type ?_
  have hp:H2 s2.heap.objs.size=none:=I2.hok.fresh (Nat.le_refl _)
  obtain ⟨W,⟨m0,w0⟩,turn⟩:=q2 _ hp
  generalize hP:s2.heap.objs.size=P at hp W w0 turn |-
  have kP:∀ b u,s2.heap.get? b=some u->(s2.heap.push { cls:=.type "list", dict:=none,data:=.seq ([]:List Value).toArray }).get? b=some u:=fun b u e=>Heap.get?_push_of_some _ e
  have I3:Inv X pins σ (upd H2 P (.lst [])) { s2 with heap:=s2.heap.push { cls:=.type "list", dict:=none,data:=.seq ([]:List Value).toArray },toks:=s2.toks } :=
    I2.laid (a:=P) (o:=.lst []) (t':=s2.toks) kP (by rw [hP]; exact Nat.le_refl _) ⟨Nat.zero_le _,[],0,.nil,by rw [<- hP]; exact Heap.get?_push_size _ rfl⟩
  have fP:∀ b ∈ fp,b ≠ P:=fun b hb z=>by
    obtain ⟨o,ho,_⟩:=T.obj _ _ st2 b hb
    have q:=Heap.lt_size ho
    rw [hP,z] at q
    exact Nat.lt_irrefl _ q
  have f3:∀ b ∈ fp,FpOk X pins (upd H2 P (.lst [])) b:=fun b hb=>⟨by rw [Zaj (fP b hb)]; exact (f2 b hb).1,(f2 b hb).2⟩
  have st3:tn 0 (s2.heap.push { cls:=.type "list", dict:=none,data:=.seq ([]:List Value).toArray }):=T.keep _ _ _ st2 fun b _ o e=>kP b o e
  generalize hS3:({ s2 with heap:=s2.heap.push { cls:=.type "list", dict:=none,data:=.seq ([]:List Value).toArray },toks:=s2.toks }:Shared)=s3 at I3
  have st3':tn 0 s3.heap:=by rw [<- hS3]; exact st3
  have fo:∀ b ∈ fp,b < s3.heap.objs.size:=fun b hb=>by
    obtain ⟨o,ho,_⟩:=T.obj _ _ st3' b hb
    exact Heap.lt_size ho
  refine wpAny_newFunctionEnv S.nocell (by intro y hy; simp at hy) (fun h4 hns hsb=>?_) S.kind
  try dsimp only at hns hsb |-
  have k4:∀ b o,s3.heap.get? b=some o->h4.get? b=some o:=fun b o e=>hsb.extBut b o (Nat.ne_of_lt (Heap.lt_size e)) (Heap.get?_push_of_some _ e)
  have I4:=Inv.block (own:=own) (h':=h4) (t':=s3.toks + ([]:List (Str × Value)).length) I3 S c1 c2 f3 fo (by simpa using hns) k4
  have fpY:∀ {H':Hp},(∀ b ∈ fp,H' b=none)->∀ b ∈ fp,FpOk (cxComp X own scope cl s3.heap.objs.size s3 (upd H2 P (.lst [])) fp) [] H' b:=fun hn b hb=>by
    refine ⟨hn b hb,Nat.ne_of_lt (fo b hb),?_,.inl hb,fun x c hx=>(f3 b hb).2.2.2.2.1 x c (c1 x c hx),fun p hp=>by simp [cxComp] at hp⟩
    intro hfs
    rcases List.mem_cons.mp (I3.stkSub b hfs) with z|z
    . exact (f3 b hb).2.1 z
    . exact (f3 b hb).2.2.1 z
  have loop:codeAny (model X.prog X.w) X.A (.compLoop (.ListComp elt [⟨tg,iter,ifs,0⟩] scope pos) 0 (.ref it) (.ref P) (compEnvC scope cl s3.heap.objs.size X.env)) (compPost (model X.prog X.w) X.A X.xe use Q (.ref P) s3.heap.objs.size) { s3 with heap:=h4,toks:=s3.toks + ([]:List (Str × Value)).length }:=by
    refine codeAny_loop rfl (fun n s'=>∃ i σ' H',Inv (cxComp X own scope cl s3.heap.objs.size s3 (upd H2 P (.lst [])) fp) [] σ' H' s'/\tn i s'.heap/\(∀ b ∈ fp,H' b=none)/\W i n σ' H') ?_ m0 ⟨0,_,_,I4,T.keep _ _ _ st3' fun b _ o e=>k4 b o e,fun b hb=>(f3 b hb).1,w0⟩
    rintro n s5 ⟨i,σ5,H5,I5,st5,fr5,w5⟩
    show wpAny _ _ ((compTurn (.ListComp elt [⟨tg,iter,ifs,0⟩] scope pos) 0 (.ref it) (.ref P) (compEnvC scope cl s3.heap.objs.size X.env)).onRaise (fun x=>do noteFrame x (compEnvC scope cl s3.heap.objs.size X.env); theTreesLotGoes x)) _ _ s5
    refine wpAny_noted ?_
    rw [compTurn_list]
    have nE:∀ {α:Type} {t:Sem α} {QQ:α->Shared->Prop} {E':Value->Shared->Prop} {ss:Shared},wpAny (model X.prog X.w) X.A t QQ (fun _ _=>False) ss->wpAny (model X.prog X.w) X.A t QQ E' ss:=fun h=>wpAny_mono h (fun _ _ q=>q) fun _ _ z=>z.elim
    refine wpAny_bind (wpAny_standAt (wpAny_bind ?_))
    rcases turn i n σ5 H5 w5 with ⟨stop,qn⟩|⟨go,N,hN,step⟩
    . refine thn (T.done (cxComp X own scope cl s3.heap.objs.size s3 (upd H2 P (.lst [])) fp) rfl rfl rfl hc i [] s5 σ5 H5 _ I5 (fpY fr5) st5 stop) fun r s6 ⟨hr,I6⟩=>?_
      subst hr
      refine wpAny_pure ?_
      have back:∀ h',Heap.SameBut s3.heap.objs.size s6.heap h'->Inv X pins σ H5 { s6 with heap:=h' }:=fun h' sb=>by
        have nC:∀ b o,s3.heap.get? b=some o->b ≠ s3.heap.objs.size:=fun b o e=>Nat.ne_of_lt (Heap.lt_size e)
        have nH:∀ b u,H5 b=some u->b ≠ s3.heap.objs.size:=fun b u e z=>by
          have:H5 s3.heap.objs.size=none:=I6.free
          rw [z,this] at e; cases e
        refine I3.call' (s':={ s6 with heap:=h' }) (ch:=fp) I6.os ⟨fun b o e n hb hx=>?_,fun b o e n hb hx=>?_,I6.base.free,fun b o e hx=>?_,I6.base.tups,I6.base.frzs,I6.base.tbls⟩ ?_ I6.bare fun b hb=>?_
        . exact (sb.2 b (nC b o e)).trans (I6.base.keep b o e n hb hx)
        . obtain ⟨sl,z⟩:=I6.base.slot b o e n hb hx
          exact ⟨sl,(sb.2 b (nC b o e)).trans z⟩
        . obtain ⟨o',z⟩:=I6.base.there b o e hx
          exact ⟨o',(sb.2 b (nC b o e)).trans z⟩
        . intro b u e
          refine (I6.hok b u e).stay (fun c v hc q=>(sb.2 c ?_).trans q) (fun _ q=>q) fun _ _ q=>q
          rcases hc with z|z
          . rw [z]; exact nH b u e
          . exact nH c _ z
        . obtain ⟨_,g1,g2,g3,g4,g5⟩:=f3 b hb
          exact ⟨g3,g1,g4,g5⟩
      obtain ⟨m,hn,_⟩:=I6.loc
      exact fin P H5 s6 s3.heap.objs.size m (back s6.heap (.refl ..)) (I3.fpOk (Nat.le_refl _) I6.free) hn qn
    . refine thn (T.item (cxComp X own scope cl s3.heap.objs.size s3 (upd H2 P (.lst [])) fp) rfl rfl rfl hc i [] s5 σ5 H5 _ I5 (fpY fr5) st5 go) fun r s6 ⟨u,hr,h6⟩=>?_
      subst hr
      refine wpAny_bind (thn h6 fun _ s7 ⟨x,H7,I7,r7,y7,st7,fr7⟩=>?_)
      have I7':=I7.pinned (fpY fr7) (T.obj _ _ st7)
      refine wpAny_bind (nE (thn (hg cl s3.heap.objs.size s3 (upd H2 P (.lst [])) fp _ s7 σ5 H7 x u _ I7' r7 (step x H7 y7)) fun _ s8 ⟨σ8,H8,I8,q8⟩=>?_))
      have again:∀ {s9:Shared} {H9:Hp},Inv (cxComp X own scope cl s3.heap.objs.size s3 (upd H2 P (.lst [])) fp) ([] ++ pinsAt fp s7.heap) σ8 H9 s9->N σ8 H9->∃ m,m < n/\∃ i σ' H',Inv (cxComp X own scope cl s3.heap.objs.size s3 (upd H2 P (.lst [])) fp) [] σ' H' s9/\tn i s9.heap/\(∀ b ∈ fp,H' b=none)/\W i m σ' H':=fun {s9 H9} I9 n9=>by
        obtain ⟨m',hm,w9⟩:=hN σ8 H9 n9
        refine ⟨m',hm,i + 1,σ8,H9,I9.unpinned,T.keep _ _ _ st7 fun b hb o e=>(I9.pin (b,o) (List.mem_append_right _ (List.mem_append_right _ (ZcD hb e)))).1,fun b hb=>?_,w9⟩
        obtain ⟨o,e,d⟩:=T.obj _ _ st7 b hb
        exact (I9.pin (b,o) (List.mem_append_right _ (List.mem_append_right _ (ZcD hb e)))).2.1
      refine wpAny_bind (nE (thn (ht cl s3.heap.objs.size s3 (upd H2 P (.lst [])) fp _ s8 σ8 H8 _ I8 q8) fun ok s9 ⟨H9,I9,q9⟩=>?_))
      cases ok with
      | false =>
        rw [if_neg (by decide)] at q9
        exact wpAny_pure ⟨rfl,again I9 q9⟩
      | true =>
        rw [if_pos rfl] at q9
        refine wpAny_bind (wpAny_bind (nE (thn (he cl s3.heap.objs.size s3 (upd H2 P (.lst [])) fp _ s9 σ8 H9 _ I9 q9) fun y s10 ⟨v,H10,I10,r10,ys,e10,l10,q10⟩=>?_)))
        refine wpAny_bind (nE (thn (ZbG (X:=cxComp X own scope cl s3.heap.objs.size s3 (upd H2 P (.lst [])) fp) _ s10 σ8 H10 (.ref P) [v] (.ref P) [y] (fun _ H'=>N σ8 H') I10 rfl (.cons r10 .nil) ⟨P,ys,v,rfl,rfl,e10,l10,q10⟩) fun _ s11 ⟨_,H11,I11,_,q11⟩=>?_))
        exact wpAny_pure (wpAny_pure ⟨rfl,again I11 q11⟩)
  have lself:=T.self X.A 0 ({ s3 with heap:=h4,toks:=s3.toks + ([]:List (Str × Value)).length }:Shared) (fun it' s'=>codeAny (model X.prog X.w) X.A (.compLoop (.ListComp elt [⟨tg,iter,ifs,0⟩] scope pos) 0 it' (.ref P) (compEnvC scope cl s3.heap.objs.size X.env)) (compPost (model X.prog X.w) X.A X.xe use Q (.ref P) s3.heap.objs.size) s')
    (notedBy (model X.prog X.w) X.A (compEnvC scope cl s3.heap.objs.size X.env) fun x s'=>compPost (model X.prog X.w) X.A X.xe use Q (.ref P) s3.heap.objs.size (.error x) s') (T.keep _ _ _ st3' fun b _ o e=>k4 b o e) loop
  exact codeAny_compStart_list loop lself
theorem Zhn {X:Cx} {tg elt iter:Expr} {ifs:List Expr} {scope:Scope} {pos:Pos} (own:List Str) {wi:TI} {g:TG} {tc:TT} {te:TE}
    (hc:X.calm=true) (S:CompScope X.env.scope X.N own scope) (hi:PI X tg iter wi)
    (hg:∀ cl C s₀ H₀ ex,PG (cxComp X own scope cl C s₀ H₀ ex) tg g) (ht:∀ cl C s₀ H₀ ex,PIf (cxComp X own scope cl C s₀ H₀ ex) ifs tc) (he:∀ cl C s₀ H₀ ex,PE (cxComp X own scope cl C s₀ H₀ ex) elt te)
    (hs:∀ x,foldedSetIterable iter X.env x=pure x:=by intro _; rfl) :
    PE X (.ListComp elt [⟨tg,iter,ifs,0⟩] scope pos) (tComp own.length wi g tc te):=by
  intro pins s σ H Q I h
  rw [eval_ListComp]
  refine Zgv (use:=none) (R:=fun p H'=>Q (.ref p) H') hc S hi hg ht he hs I h fun p H' s' C m I' f hn q=>?_
  obtain ⟨f0,f1,f2,f3,f4,f5⟩:=f
  exact ⟨m,hn,fun h' sb=>⟨.ref p,H',I'.turned (t':=s'.toks) (fun b o hb e=>(sb.2 b hb).trans e) f0 f1 f3 f4 f5,rfl,q⟩⟩
theorem Zmm {X:Cx} {tg elt iter:Expr} {ifs:List Expr} {scope:Scope} {pos:Pos} (own:List Str) {wi:TI} {g:TG} {tc:TT} {te:TE} {i:Nat} {x:Str} {pos' spos:Pos}
    (hN:X.N.Nodup) (hx0:X.N[i]?=some x) (hx:X.env.scope.names.lookup x=some .local) (hc:X.calm=true) (S:CompScope X.env.scope X.N own scope) (hi:PI X tg iter wi)
    (hg:∀ cl C s₀ H₀ ex,PG (cxComp X own scope cl C s₀ H₀ ex) tg g) (ht:∀ cl C s₀ H₀ ex,PIf (cxComp X own scope cl C s₀ H₀ ex) ifs tc) (he:∀ cl C s₀ H₀ ex,PE (cxComp X own scope cl C s₀ H₀ ex) elt te)
    (hsw:swapsWith (.ListComp elt [⟨tg,iter,ifs,0⟩] scope pos) (some (.Name x pos')) spos.line X.env=pure true:=by rfl)
    (hs:∀ x,foldedSetIterable iter X.env x=pure x:=by intro _; rfl) :
    PS X (.Assign [.Name x pos'] (.ListComp elt [⟨tg,iter,ifs,0⟩] scope pos) spos) (tAsg (tComp own.length wi g tc te) (gName i)):=by
  intro pins s σ H D I h
  rw [exec_Assign_Name_used _ _ _ _ hsw]
  refine wpAny_bind (wpAny_standAt (wpAny_bind ?_))
  show wpAny _ X.A (do let _ <- comprehension (.ListComp elt [⟨tg,iter,ifs,0⟩] scope pos) scope X.env _ (newList []) false (eval iter X.env) (some (assign (.Name x pos') X.env))) _ _ s
  refine wpAny_bind (thn (Zgv (use:=some (assign (.Name x pos') X.env)) (Q:=fun _ s'=>SP X pins D .next s') (R:=fun p H'=>D.nx (σ.set i (some (.ref p))) H') hc S hi hg ht he hs I h fun p H' s' C m I' f hn q=>?_) fun _ s' hq=>wpAny_pure (wpAny_pure hq))
  obtain ⟨f0,f1,f2,f3,f4,f5⟩:=f
  show wpAny _ X.A (assign (.Name x pos') X.env (.ref p)) _ _ s'
  refine wpAny_assign_Name (Zgc I' hN hx0 (.inl hx) (v:=.ref p) rfl (fun s2 I2 ⟨a,sb,ha⟩=>?_) (.inr hx))
  have hCa:C ≠ a:=by
    rcases ha with z|z
    . rw [z]; exact f1
    . exact fun e=>f4 x a z e.symm
  exact ⟨m,hn.sameBut sb hCa,fun h' sb'=>⟨_,H',I2.turned (t':=s2.toks) (fun b o hb e=>(sb'.2 b hb).trans e) f0 f1 f3 f4 f5,q⟩⟩
end L2
namespace L2
open PySem PySem.Spec PyProof.Rows
noncomputable def Zap (K:PySem.W.Frag) (mg:Str->Option Value) (x:Str) (st:Stmt):Prop:=∃ f fd,Fun K x x st f fd/\mg x=some (.ref f)
theorem Zam {K:PySem.W.Frag} {h:Heap} {mg:Str->Option Value} {x:Str} {st:Stmt} {f:Addr} {oc:Value} {od an:Option Addr} {osl:Array (Option Value)} {kV doc pm cdv ct:Value} (X:K.In h) (G:h.Ns mainGlobals mg)
    (a:PySem.W.nsIn K mainGlobals x=some (some (.ref f))) (l:K.lookup f=some ⟨oc,od,.func (PySem.W.fnOf x x (Zas st) (Zar st) (Zab st) .none kV doc pm an cdv ct),osl⟩)
    (c:PySem.W.codeIn K cdv x=true) (k:PySem.W.keepIn K (.ref f)=true):Zap K mg x st :=
  ⟨f,_,ZlS l c k,PySem.W.mg_of X G a⟩
noncomputable def CalF (P:Program) (w:World) (K:PySem.W.Frag) (mg:Str->Option Value) (base:Heap) (k:Nat) (f:Addr) (sp:Sp):Prop :=
  ∃ fd ps,FnOk P w K mg base CX0 k f fd ps sp/\PySem.W.keepIn K (.ref f)=true/\Binds K fd ps []
noncomputable def Cal (P:Program) (w:World) (K:PySem.W.Frag) (mg:Str->Option Value) (base:Heap) (k:Nat) (x:Str) (sp:Sp):Prop :=
  ∃ f,mg x=some (.ref f)/\CalF P w K mg base k f sp
section
variable {P:Program} {w:World} {K:PySem.W.Frag} {mg:Str->Option Value} {base:Heap}
theorem CalF.mono {j k:Nat} {f:Addr} {sp:Sp} (c:CalF P w K mg base j f sp) (h:j <= k):CalF P w K mg base k f sp :=
  let ⟨fd,ps,F,kp,b⟩:=c
  ⟨fd,ps,F.mono h,kp,b⟩
theorem Cal.mono {j k:Nat} {x:Str} {sp:Sp} (c:Cal P w K mg base j x sp) (h:j <= k):Cal P w K mg base k x sp :=
  let ⟨f,m,c⟩:=c
  ⟨f,m,c.mono h⟩
theorem CalF.imp {k:Nat} {f:Addr} {sp sp':Sp} (c:CalF P w K mg base k f sp) (h:∀ vs H Q E,sp' vs H Q E->sp vs H Q E):CalF P w K mg base k f sp' :=
  let ⟨fd,ps,F,kp,b⟩:=c
  ⟨fd,ps,F.imp h,kp,b⟩
theorem Cal.imp {k:Nat} {x:Str} {sp sp':Sp} (c:Cal P w K mg base k x sp) (h:∀ vs H Q E,sp' vs H Q E->sp vs H Q E):Cal P w K mg base k x sp' :=
  let ⟨f,m,c⟩:=c
  ⟨f,m,c.imp h⟩
theorem Zay {x:Str} {st:Stmt} {N ps:List Str} {k:Nat} {sp:Sp} (D:Zap K mg x st) (S:FnScope N ps (Zab st)) (len:∀ vs H Q E,sp vs H Q E->vs.length=ps.length)
    (hb:∀ (kV doc pm:Value) (an:Option Addr) (cdv ct:Value) (us:List Value),us.length=ps.length->bindArgs (PySem.W.fnOf x x (Zas st) (Zar st) (Zab st) .none kV doc pm an cdv ct) ⟨us,[]⟩=pure (ps.zip us))
    (hbody:∀ (f:Addr) (cdv:Value) (A:Around) (outer:List Env) (s:Shared) (H:Hp) (vs:List V) (Q:VK) (E:XK),Room k (A.deeper (envOfC x (Zab st) s.heap.objs.size f cdv))->sp vs H Q E ->
      ∃ t,PSs (cxOf CX0 P w K mg base N x (Zab st) f cdv A outer s H E).nox (Zar st) t/\t { nx:=fun _ H'=>Q .non H',rt:=Q } (start N vs) H):Cal P w K mg base (k + 1) x sp:=by
  obtain ⟨f,fd,F,m⟩:=D
  exact ⟨f,m,fd,ps,F.ok S len (hbody f),F.kp,F.binds hb⟩
end
section
variable {X:Cx} {k:Nat} {x:Str} {sp:Sp} {p pos:Pos} {e func:Expr} {es:List Expr} {t:TA} {tf:TE}
theorem ZaF (c:Cal X.prog X.w X.K X.mg X.base k x sp) (hr:Room k X.A) (hg:Gl X x) (ha:PA X (e :: es) t) (hdb:(x == ("__debug__" : Str))=false:=by decide)
    (he:starEach (e :: es) X.env=(false,eval e X.env) :: starEach es X.env:=by rfl) (hpl:(backTo pos (starEach es X.env)).any (·.1)=false:=by rfl) :
    PE X (.Call (.Name x p) (e :: es) [] pos) (tCall sp [] E0 t):=by
  obtain ⟨f,m,fd,ps,F,kp,b⟩:=c
  exact ZjB F hr hg m kp b .nil pass0 ha hdb he hpl
noncomputable def tCallV (P:Program) (w:World) (K:PySem.W.Frag) (mg:Str->Option Value) (base:Heap) (k:Nat) (tf:TE) (t:TA):TE:=fun σ H Q=>tf σ H fun v H1=>∃ f sp,v=.ref f/\CalF P w K mg base k f sp/\t σ H1 fun vs H2=>sp vs H2 Q E0
theorem Ziv (hr:Room k X.A) (hf:PE X func tf) (ha:PA X (e :: es) t)
    (hc:eval (.Call func (e :: es) [] pos) X.env=(do callWith pos (<- eval func X.env) [] (backTo pos (starEach (e :: es) X.env)) (backToKw pos (keywordEach [] X.env))):=by rfl)
    (he:starEach (e :: es) X.env=(false,eval e X.env) :: starEach es X.env:=by rfl) (hpl:(backTo pos (starEach es X.env)).any (·.1)=false:=by rfl) :
    PE X (.Call func (e :: es) [] pos) (tCallV X.prog X.w X.K X.mg X.base k tf t):=by
  intro pins s σ H Q I h
  refine Call_ (thn (hf pins s σ H _ I h) fun u s1 ⟨v,H1,I1,r,f,sp,ev,⟨fd,ps,F,kp,b⟩,q⟩=>?_) hc
  subst ev
  obtain rfl:u=Value.ref f:=r
  refine PySem.W.callWith_K (h₀:=X.base) I.ok.mod.kin kp (thn (ha pos pins s1 σ H1 _ I1 q) fun us s2 ⟨vs,H2,I2,r2,q2⟩=>⟨I2.kIn,?_⟩) he hpl
  exact Ze7 (dvs:=[]) (E:=E0) F hr b .nil pass0 I2 r2 (by rw [List.append_nil]; exact q2)
end
noncomputable def CDivW (i j:Int):Prop:=0 < j/\j < 2 ^ 200
section
variable {X:Cx}
theorem ZiY {n:Nat} (h:n < 2 ^ 200):n.log2 < 9000:=by
  by_cases z:n=0
  . subst z; decide
  . have:=(Nat.log2_lt z).mpr h
    omega
theorem ZbN:OpR X (binaryOp .FloorDiv) (rI CDivW fun i j=>.int (i / j)):=opI fun i j _ _ _ _ _ hc q=>by
  refine floordiv_int (by have:=hc.1; omega) ?_ (.inl (PyProof.noPylong_of_log2 (ZiY ?_)))
  . rw [Int.fdiv_eq_ediv_of_nonneg _ (Int.le_of_lt hc.1)]
    exact q
  . have h1:=hc.1
    have h2:=hc.2
    have e:((j.natAbs:Nat):Int)=j:=Int.natAbs_of_nonneg (Int.le_of_lt h1)
    have:((j.natAbs:Nat):Int) < ((2 ^ 200:Nat):Int):=by rw [e]; exact h2
    exact Int.ofNat_lt.mp this
end
noncomputable def isiV:V->String->Option Bool
  | .int _, "int" => some true
  | .int _, "bool" => some false
  | .int _, "str" => some false
  | .int _, "tuple" => some false
  | .int _, "list" => some false
  | .bl _, "bool" => some true
  | .bl _, "int" => some true
  | .bl _, "str" => some false
  | .str _, "str" => some true
  | .str _, "int" => some false
  | .str _, "bool" => some false
  | .str _, "tuple" => some false
  | .str _, "list" => some false
  | _,_=>none
section
variable {X:Cx}
theorem Zk4:CallR X (.builtin "isinstance") (fun xs H Q=>∃ x T b,xs=[x,.ty T]/\isiV x T=some b/\Q (.bl b) H):=by
  intro pins s σ H xs us Q I r h
  obtain ⟨x,T,b,rfl,e,q⟩:=h
  obtain ⟨u,v,rfl,ru,rv⟩:=vals2 r
  obtain rfl:v=Value.type T:=rv
  unfold isiV at e
  split at e <;> first
    | (cases e; obtain ⟨t,rfl⟩:=ru; first
        | exact IsiPair.int_int ⟨.bl true,H,I,rfl,q⟩
        | exact IsiPair.int_bool ⟨.bl false,H,I.tok _,rfl,q⟩
        | exact IsiPair.int_str ⟨.bl false,H,I.tok _,rfl,q⟩
        | exact IsiPair.int_tuple ⟨.bl false,H,I.tok _,rfl,q⟩
        | exact IsiPair.int_list ⟨.bl false,H,I.tok _,rfl,q⟩
        | exact IsiPair.str_str ⟨.bl true,H,I,rfl,q⟩
        | exact IsiPair.str_int ⟨.bl false,H,I.tok _,rfl,q⟩
        | exact IsiPair.str_bool ⟨.bl false,H,I.tok _,rfl,q⟩
        | exact IsiPair.str_tuple ⟨.bl false,H,I.tok _,rfl,q⟩
        | exact IsiPair.str_list ⟨.bl false,H,I.tok _,rfl,q⟩)
    | (cases e; cases ru; first
        | exact IsiPair.bool_bool ⟨.bl true,H,I,rfl,q⟩
        | exact IsiPair.bool_int ⟨.bl true,H,I,rfl,q⟩
        | exact IsiPair.bool_str ⟨.bl false,H,I.tok _,rfl,q⟩)
    | cases e
end
noncomputable def Zda (P:Program) (w:World) (K:PySem.W.Frag) (a:Addr) (vs:List (Key × Value)):Prop:=∀ h:Heap,K.In h->h.DictOf (Za3 P w) a vs
theorem Zk5 {P:Program} {w:World} {K:PySem.W.Frag} {a:Addr} {vs:List (Key × Value)} {es:Array DictEntry} {ep:Nat} (l:K.lookup a=some ⟨.type "dict", none,.dict es ep,#[]⟩)
    (hk:∀ e ∈ es.toList,∃ k,keyIs k e.key=true/\e.hash=keyH w k) (hp:Pairs (Za3 P w) es.toList vs) (nd:(vs.map (·.1)).Nodup):Zda P w K a vs:=fun h X =>
  ⟨_,es,ep,X _ _ l,⟨rfl,rfl,rfl⟩,rfl,fun e he=>hk e (Array.mem_toList_iff.mpr he),hp,nd⟩
noncomputable def tDGetK (P:Program) (w:World) (K:PySem.W.Frag) (td ty:TE):TE:=fun σ H Q=>td σ H fun x H1=>ty σ H1 fun y H2=>∃ a vs k u v,x=.ref a/\y=kV k/\Zda P w K a vs/\valueAt vs k=some u/\RelV v u/\Q v H2
theorem kV_isM {P:Program} {w:World} {k:Key} {u:Value} (r:RelV (kV k) u):(Za3 P w).is k u=true:=by
  cases k with
  | inl i=>obtain ⟨t,rfl⟩:=r; exact Zgb i t
  | inr x=>obtain ⟨t,rfl⟩:=r; exact Zc3 x t
section
variable {X:Cx} {o i:Expr} {td ty:TE} {pos:Pos}
theorem Zk6 (ho:PE X o td) (hi:PE X i ty) (hs:NoSl i):PE X (.Subscript o i pos) (tDGetK X.prog X.w X.K td ty):=by
  intro pins s σ H Q I h
  refine ZjN PySem.F.slot_dict_getitem.lookup hs (thn (ho pins s σ H _ I h) fun u s1 ⟨x,H1,I1,rx,q1⟩=>thn (hi pins s1 σ H1 _ I1 q1) fun iv s2 ⟨y,H2,I2,ry,a,vs,k,w',v,ex,ey,D,hv,rv,q2⟩=>?_)
  subst ex ey
  obtain rfl:u=Value.ref a:=rx
  have dd:=D s2.heap I2.kIn
  exact ⟨dd.typeIs,wpAny_getItem_of (kV_isM ry) dd.mapOf hv ⟨v,H2,I2.tok _,rv,q2⟩⟩
end
section
variable {σ:St} {H:Hp} {Q:VK} {D:Ends} {i:Nat} {v:V}
theorem rd_C (q:Q v H):tC v σ H Q:=q
theorem rd_V (e:σ[i]?=some (some v)) (q:Q v H):tVar i σ H Q:=⟨v,e,q⟩
theorem rd_op {r:R2} {ta tb:TE} (q:ta σ H fun x H1=>tb σ H1 fun y H2=>r x y H2 Q):tOp r ta tb σ H Q:=q
theorem rd_un {r:V->Hp->VK->Prop} {ta:TE} (q:ta σ H fun x H1=>r x H1 Q):tUn r ta σ H Q:=q
theorem rd_I {C:Int->Int->Prop} {g:Int->Int->V} {a b:Int} (c:C a b) (q:Q (g a b) H):rI C g (.int a) (.int b) H Q:=⟨a,b,rfl,rfl,c,q⟩
theorem rd_I0 {g:Int->Int->V} {a b:Int} (q:Q (g a b) H):rI0 g (.int a) (.int b) H Q:=⟨a,b,rfl,rfl,q⟩
theorem rd_U {g:Int->V} {a:Int} (q:Q (g a) H):rU g (.int a) H Q:=⟨a,rfl,q⟩
theorem rd_eqI {a b:Int} (q:Q (.bl (decide (a=b))) H):rEq (.int a) (.int b) H Q:=by
  refine ⟨rfl,?_⟩
  have e:decide (V.int a=V.int b)=decide (a=b):=decide_eq_decide.mpr ⟨fun h=>V.int.inj h,fun h=>by rw [h]⟩
  rw [e]; exact q
theorem rd_neI {a b:Int} (q:Q (.bl (!decide (a=b))) H):rNe (.int a) (.int b) H Q:=by
  refine ⟨rfl,?_⟩
  have e:decide (V.int a=V.int b)=decide (a=b):=decide_eq_decide.mpr ⟨fun h=>V.int.inj h,fun h=>by rw [h]⟩
  rw [e]; exact q
theorem rd_eqS {a b:Str} (q:Q (.bl (decide (a=b))) H):rEq (.str a) (.str b) H Q:=by
  refine ⟨rfl,?_⟩
  have e:decide (V.str a=V.str b)=decide (a=b):=decide_eq_decide.mpr ⟨fun h=>V.str.inj h,fun h=>by rw [h]⟩
  rw [e]; exact q
theorem rd_neS {a b:Str} (q:Q (.bl (!decide (a=b))) H):rNe (.str a) (.str b) H Q:=by
  refine ⟨rfl,?_⟩
  have e:decide (V.str a=V.str b)=decide (a=b):=decide_eq_decide.mpr ⟨fun h=>V.str.inj h,fun h=>by rw [h]⟩
  rw [e]; exact q
theorem rd_seq {t u:TS} (q:t { D with nx:=u D } σ H):tSeq t u D σ H:=q
theorem rd_asg {te:TE} {g:TG} (q:te σ H fun x H1=>g x σ H1 D.nx):tAsg te g D σ H:=q
theorem ZjP {R:St->Hp->Prop} (q:R (σ.set i (some v)) H):gName i v σ H R:=q
theorem ZlT {te:TE} (q:te σ H D.rt):tRet te D σ H:=q
theorem Zmn (q:D.nx σ H):tNext D σ H:=q
theorem ZjQ {te:TE} (q:te σ H fun _ H1=>D.nx σ H1):tDrop te D σ H:=q
theorem rd_ifS {c:TT} {t u:TS} (q:c σ H fun b H1=>if b=true then t D σ H1 else u D σ H1):tIfS c t u D σ H:=q
theorem rd_if {c:TT} {ta tb:TE} (q:c σ H fun b H1=>if b=true then ta σ H1 Q else tb σ H1 Q):tIf c ta tb σ H Q:=q
theorem Zmo {te:TE} {R:Bool->Hp->Prop} (q:te σ H fun x H'=>∃ k,x=.bl k/\R k H'):tTest te σ H R:=q
theorem rd_B {te:TE} {R:Bool->Hp->Prop} (q:te σ H fun x H'=>∃ k,x=.bl k/\R k H'):tB te σ H R:=q
theorem rd_bl {b:Bool} {R:Bool->Prop} (q:R b):∃ k,V.bl b=.bl k/\R k:=⟨b,rfl,q⟩
theorem rd_and {t u:TT} {R:Bool->Hp->Prop} (q:t σ H fun c H1=>if c=true then u σ H1 R else R false H1):tAnd t u σ H R:=q
theorem rd_or {t u:TT} {R:Bool->Hp->Prop} (q:t σ H fun c H1=>if c=true then R true H1 else u σ H1 R):tOr t u σ H R:=q
theorem rd_not {t:TT} {R:Bool->Hp->Prop} (q:t σ H fun c H1=>R (!c) H1):tNot t σ H R:=q
theorem Zmp {ta tb:TE} (q:ta σ H fun x H1=>∃ c,x=.bl c/\if c=true then tb σ H1 Q else Q (.bl false) H1):tAndV ta tb σ H Q:=q
theorem rd_orV {ta tb:TE} (q:ta σ H fun x H1=>∃ c,x=.bl c/\if c=true then Q (.bl true) H1 else tb σ H1 Q):tOrV ta tb σ H Q:=q
theorem Zmq {ta:TE} (q:ta σ H fun x H1=>∃ c,x=.bl c/\Q (.bl (!c)) H1):tNotV ta σ H Q:=q
theorem Zmr {ta:TE} {tr:TA} {R:List V->Hp->Prop} (q:ta σ H fun x H1=>tr σ H1 fun xs H2=>R (x :: xs) H2):tCons ta tr σ H R:=q
theorem rd_nil {R:List V->Hp->Prop} (q:R [] H):tNil σ H R:=q
theorem Zms {sp:Sp} {t:TA} (q:t σ H fun vs H1=>sp vs H1 Q E0):tCall sp [] E0 t σ H Q:=by
  unfold tCall
  have e:(fun (vs:List V) H1=>sp (vs ++ []) H1 Q E0)=fun vs H1=>sp vs H1 Q E0:=by funext vs H1; rw [List.append_nil]
  rw [e]
  exact q
theorem rd_CB {r:List V->Hp->VK->Prop} {t:TA} (q:t σ H fun vs H1=>r vs H1 Q):tCB r t σ H Q:=q
theorem Zk7 {r r':R2} {ta tb tc:TE} (q:ta σ H fun x H1=>tb σ H1 fun y H2=>r x y H2 fun z H3=>∃ k,z=.bl k/\if k=true then tc σ H3 fun u H4=>r' y u H4 Q else Q (.bl false) H3):tChain r r' ta tb tc σ H Q:=q
theorem rd_tup {t:TA} (q:t σ H fun xs H1=>xs.length <= sizeLine/\∀ p,H1 p=none->Q (.ref p) (upd H1 p (.tup xs))):tTup t σ H Q:=q
theorem rd_lst {t:TA} (q:t σ H fun xs H1=>xs.length <= sizeLine/\∀ p,H1 p=none->Q (.ref p) (upd H1 p (.lst xs))):tLst t σ H Q:=q
theorem Zdp {c A B:Prop} [Decidable c] (h1:c->A) (h2:¬ c->B):if decide c=true then A else B:=by
  by_cases h:c
  . rw [if_pos (decide_eq_true h)]; exact h1 h
  . rw [if_neg (by rw [decide_eq_false h]; exact Bool.false_ne_true)]; exact h2 h
theorem ZcE {c A B:Prop} [Decidable c] (h1:¬ c->A) (h2:c->B):if (!decide c)=true then A else B:=by
  by_cases h:c
  . rw [decide_eq_true h]; exact iteF (h2 h)
  . rw [decide_eq_false h]; exact iteT (h1 h)
theorem ZbR {u:V} (e:u=v) (q:Q v H):Q u H:=by rw [e]; exact q
end
noncomputable def ZaU (mg:Str->Option Value) (x:Str) (v:V):Prop:=∃ u,mg x=some u/\RelV v u
section
variable {X:Cx} {x:Str} {v:V} {T:String} {pos:Pos}
theorem ZbH (hg:Gl X x) (h:ZaU X.mg x v) (hd:(x == ("__debug__" : Str))=false:=by decide):PE X (.Name x pos) (tC v) :=
  let ⟨_,m,r⟩:=h
  Zl6 hg m r hd
theorem ZdN (hg:Gl X x) (hm:X.mg x=none) (hv:bootBuiltins x=some (.type T)) (hn:x ≠ "__name__" := by decide) (hd:(x == ("__debug__" : Str))=false:=by decide):PE X (.Name x pos) (tC (.ty T)) :=
  Zl7 hg hm hv rfl hn hd
end
noncomputable def sEnt (w:World) (p:Str × Tok × Value):DictEntry:=⟨PyData.keyHash w.params p.1,.str p.1 p.2.1,p.2.2⟩
noncomputable def entsOf (es:Array DictEntry):List (Str × Tok × Value):=es.toList.filterMap fun e=>match e.key with|.str x t=>some (x,t,e.val)|_=>none
theorem Ze9 {P:Program} {w:World}:∀ l:List (Str × Tok × Value),Pairs (Za3 P w) (l.map (sEnt w)) (l.map fun p=>((Sum.inr p.1:Key),p.2.2))
  | []=>.nil
  | p :: r=>.cons (Zc3 p.1 p.2.1) rfl (Ze9 r)
theorem Zgw:∀ {l:List Str},l.Nodup->(l.map fun x=>(Sum.inr x:Key)).Nodup
  | [],_=>List.nodup_nil
  | x :: r,h=>by
    have h1:=List.nodup_cons.mp h
    rw [List.map_cons,List.nodup_cons]
    refine ⟨fun hm=>?_,Zgw h1.2⟩
    obtain ⟨y,hy,e⟩:=List.mem_map.mp hm
    cases e
    exact h1.1 hy
theorem Zej {P:Program} {w:World} {K:PySem.W.Frag} {a:Addr} {es:Array DictEntry} {ep:Nat} (l:K.lookup a=some ⟨.type "dict", none,.dict es ep,#[]⟩) (he:es=((entsOf es).map (sEnt w)).toArray)
    (nd:((entsOf es).map (·.1)).Nodup):Zda P w K a ((entsOf es).map fun p=>((Sum.inr p.1:Key),p.2.2)):=by
  have e:es.toList=(entsOf es).map (sEnt w):=by rw [he]; simp [<- he]
  refine Zk5 l (fun e' he'=>?_) (by rw [e]; exact Ze9 _) ?_
  . rw [e] at he'
    obtain ⟨p,_,rfl⟩:=List.mem_map.mp he'
    exact ⟨.inr p.1,Zc3 p.1 p.2.1,rfl⟩
  . rw [List.map_map]
    have:((fun x:Key × Value=>x.1) ∘ fun p:Str × Tok × Value=>((Sum.inr p.1:Key),p.2.2))=(fun x=>(Sum.inr x:Key)) ∘ (fun p:Str × Tok × Value=>p.1):=rfl
    rw [this,<- List.map_map]
    exact Zgw nd
end L2
namespace L2
open PySem PySem.Spec PyProof.Rows
theorem Same.tup {K:PySem.W.Frag} {H H':Hp} {a:Addr} {xs:List V} (e:Same H H') (h:SqT K H a xs):SqT K H' a xs:=by
  rcases h with (h|⟨o,h⟩)|h
  . exact .inl (.inl (e _ _ h))
  . exact .inl (.inr ⟨o,e _ _ h⟩)
  . exact .inr h
theorem Same.new {H:Hp} {p:Addr} {o:HO} (n:H p=none):Same H (upd H p o):=fun b u e=>by rw [Zaj (Zah e n)]; exact e
theorem Same.newT {H H':Hp} {p:Addr} {o:HO} (s:Same H H') (n:H' p=none):Same H (upd H' p o):=s.trans (Same.new n)
theorem ZjR {K:PySem.W.Frag} {H:Hp} {p:Addr} {xs:List V}:SqT K (upd H p (.tup xs)) p xs:=.inl (.inl Zag)
theorem Zaz {K:PySem.W.Frag} {H:Hp} {p:Addr} {xs:List V} (h:H p=some (.lst xs)):SqL K H p xs:=.inl (.inl h)
theorem ZbS {K:PySem.W.Frag} {H:Hp} {p:Addr} {xs:List V} (h:H p=some (.tup xs)):SqT K H p xs:=.inl (.inl h)
theorem ZbO {α:Type} {xs:List α} {i:Nat} {j:Int} {v:α} (h:xs[i]?=some v) (e:j=(i:Int)):atI xs j=some v:=by rw [e]; exact Zhg h
section
variable {σ:St} {H:Hp} {Q:VK} {K:PySem.W.Frag} {p a b:Addr} {xs ys:List V} {v:V}
theorem Za8 {i:Int} (h:SqL K H p xs) (e:atI xs i=some v) (q:Q v H):rIxL K (.ref p) (.int i) H Q:=⟨p,xs,i,v,rfl,rfl,h,e,q⟩
theorem Zek {i:Int} (h:SqT K H p xs) (e:atI xs i=some v) (q:Q v H):rIxT K (.ref p) (.int i) H Q:=⟨p,xs,i,v,rfl,rfl,h,e,q⟩
theorem ZlU {lo hi:Option Int} (h:SqL K H a xs) (q:∀ p,H p=none->Q (.ref p) (upd H p (.lst (cutV xs lo hi)))):rSlL K (.ref a) lo hi H Q:=⟨a,xs,rfl,h,q⟩
theorem rd_sl {r:V->Option Int->Option Int->Hp->VK->Prop} {te:TE} {tl th:TO} (q:te σ H fun x H1=>tl σ H1 fun l H2=>th σ H2 fun u H3=>r x l u H3 Q):tSl r te tl th σ H Q:=q
theorem Zmt {R:Option Int->Hp->Prop} {t:TE} (q:t σ H fun x H1=>∃ i,x=.int i/\R (some i) H1):tPart t σ H R:=q
theorem rd_ei {R:Int->Prop} {i:Int} (q:R i):∃ j,V.int i=.int j/\R j:=⟨i,rfl,q⟩
theorem Zfa (h1:H a=some (.lst xs)) (h2:H b=some (.lst ys)) (hz:xs.length + ys.length <= sizeLine) (q:∀ p,H p=none->Q (.ref p) (upd H p (.lst (xs ++ ys)))):rCat (.ref a) (.ref b) H Q:=⟨a,b,xs,ys,rfl,rfl,h1,h2,hz,q⟩
end
theorem iteNT {A B:Prop} (h:B):if (!true)=true then A else B:=iteF h
theorem iteNF {A B:Prop} (h:A):if (!false)=true then A else B:=iteT h
section
variable {σ:St} {H:Hp} {Q:VK} {D:Ends}
theorem Zfr {k:Nat} {wi:TI} {g:TG} {tc:TT} {te:TE} (q:wi σ H fun J H1=>∀ p,H1 p=none->tLoopC k g tc te J p (fun H'=>Q (.ref p) H') σ H1):tComp k wi g tc te σ H Q:=q
theorem Zcc {K:PySem.W.Frag} {tl:TE} {R:It->Hp->Prop} (q:tl σ H fun x H1=>∃ a,x=.ref a/\(∃ xs,SqL K H1 a xs)/\R (Itl K a) H1):iList K tl σ H R:=q
theorem Zdb {ta:TA} {R:It->Hp->Prop} (q:ta σ H fun vs H1=>∃ j:Int,vs=[.int j]/\-(2 ^ 62) <= j/\j < 2 ^ 62/\R (Itr 0 j.toNat) H1):iRng1 ta σ H R:=q
theorem ZdO {wi:TI} {g:TG} {tb:TS} (q:wi σ H fun J H1=>∃ W:Nat->Nat->St->Hp->Prop,(∃ m,W 0 m σ H1)/\∀ i m σ H,W i m σ H ->
  (J.stop i H/\D.nx σ H)\/(J.go i H/\∃ N:St->Hp->Prop,(∀ σ' H',N σ' H'->∃ m',m' < m/\W (i + 1) m' σ' H')/\∀ x H',J.yld i H x H'->g x σ H' fun σ2 H2=>tb { D with nx:=N,ct:=N,bk:=D.nx } σ2 H2)):tFor wi g tb D σ H:=q
end
section
variable {CX:CXT} {P:Program} {w:World} {K:PySem.W.Frag} {mg:Str->Option Value} {base:Heap} {N:List Str} {q:Str} {sc:Scope} {f:Addr} {cd:Value} {A:Around} {outer:List Env} {s:Shared} {H:Hp} {E:XK}
theorem nox_K:(cxOf CX P w K mg base N q sc f cd A outer s H E).nox.K=K:=rfl
theorem nox_P:(cxOf CX P w K mg base N q sc f cd A outer s H E).nox.prog=P:=rfl
theorem nox_w:(cxOf CX P w K mg base N q sc f cd A outer s H E).nox.w=w:=rfl
theorem nox_mg:(cxOf CX P w K mg base N q sc f cd A outer s H E).nox.mg=mg:=rfl
theorem Zk8:(cxOf CX P w K mg base N q sc f cd A outer s H E).nox.base=base:=rfl
end
theorem Zb6 {K:PySem.W.Frag} {h:Heap} {mg:Str->Option Value} {x:Str} {i:Int} {t:Tok} (X:K.In h) (G:h.Ns mainGlobals mg) (a:PySem.W.nsIn K mainGlobals x=some (some (.int i t))):ZaU mg x (.int i):=⟨_,PySem.W.mg_of X G a,t,rfl⟩
theorem ZcF {K:PySem.W.Frag} {h:Heap} {mg:Str->Option Value} {x:Str} {i:Addr} (X:K.In h) (G:h.Ns mainGlobals mg) (a:PySem.W.nsIn K mainGlobals x=some (some (.ref i))):ZaU mg x (.ref i):=⟨_,PySem.W.mg_of X G a,rfl⟩
theorem ZiZ {K:PySem.W.Frag} {x qual p:Str} {st:Stmt} {f:Addr} {fd:FuncData} (F:Fun K x qual st f fd)
    (hb:∀ (kV doc pm:Value) (an:Option Addr) (cdv ct u:Value),bindArgs (PySem.W.fnOf x qual (Zas st) (Zar st) (Zab st) .none kV doc pm an cdv ct) ⟨[u],[]⟩=pure [(p,u)]:=by intros; rfl):∀ (s:Shared) (u:Value),BindsTo s fd ⟨[u],[]⟩ [(p,u)]:=by
  obtain ⟨oc,od,kV,doc,pm,an,cdv,ct,osl,rfl,lk,hcd⟩:=F.ex
  exact fun s u=>.of_eq (hb kV doc pm an cdv ct u)
section
variable {σ:St} {H:Hp} {Q:VK} {D:Ends} {i:Nat} {x:V}
end
noncomputable abbrev RC:=List V->Hp->VK->Prop
noncomputable def rMax2:RC:=fun xs H Q=>∃ i j,xs=[.int i,.int j]/\Q (.int (if j > i then j else i)) H
noncomputable def rMin2:RC:=fun xs H Q=>∃ i j,xs=[.int i,.int j]/\Q (.int (if j < i then j else i)) H
noncomputable def rIsi:RC:=fun xs H Q=>∃ x T b,xs=[x,.ty T]/\isiV x T=some b/\Q (.bl b) H
noncomputable def rLenS (K:PySem.W.Frag):RC:=fun xs H Q=>∃ p ys,xs=[.ref p]/\(SqL K H p ys\/SqT K H p ys)/\Q (.int ys.length) H
section
variable {X:Cx} {H:Hp} {Q:VK} {K:PySem.W.Frag}
theorem ZjS (hc:X.calm=true):CallR X (.builtin "max") rMax2:=Zjw hc
theorem cn_min (hc:X.calm=true):CallR X (.builtin "min") rMin2:=Zjx hc
theorem cn_isi:CallR X (.builtin "isinstance") rIsi:=Zk4
theorem Zb7:CallR X (.builtin "len") (rLenS X.K):=Zgk
theorem Zho {a b:Int} (q:Q (.int (if b > a then b else a)) H):rMax2 [.int a,.int b] H Q:=⟨a,b,rfl,q⟩
theorem ZjT {a b:Int} (q:Q (.int (if b < a then b else a)) H):rMin2 [.int a,.int b] H Q:=⟨a,b,rfl,q⟩
theorem Zmu {p:Addr} {xs:List V} (h:SqL K H p xs) (q:Q (.int xs.length) H):rLenS K [.ref p] H Q:=⟨p,xs,rfl,.inl h,q⟩
theorem Zmv {p:Addr} {xs:List V} (h:SqT K H p xs) (q:Q (.int xs.length) H):rLenS K [.ref p] H Q:=⟨p,xs,rfl,.inr h,q⟩
end
end L2
namespace L2
open PySem PySem.Spec PyProof.Rows
section
variable {σ:St} {H:Hp} {Q:VK} {K:PySem.W.Frag} {p:Addr} {xs:List V} {v:V}
theorem rd_bm {T:String} {r:V->List V->Hp->VK->Prop} {to:TE} {t:TA} (q:to σ H fun x H1=>tyV K T x H1/\t σ H1 fun xs H2=>r x xs H2 Q):tBM K T r to t σ H Q:=q
theorem rd_bm0 {T:String} {r:V->List V->Hp->VK->Prop} {to:TE} (q:to σ H fun x H1=>tyV K T x H1/\r x [] H1 Q):tBM0 K T r to σ H Q:=q
theorem Zcd (h:SqL K H p xs):tyV K "list" (.ref p) H:=.inl ⟨rfl,_,h⟩
theorem ZbT (h:H p=some (.lst xs)) (hz:xs.length < sizeLine) (q:Q .non (upd H p (.lst (xs ++ [v])))):ZjG (.ref p) [v] H Q:=⟨p,xs,v,rfl,rfl,h,hz,q⟩
theorem ZlV (h:H p=some (.lst (xs ++ [v]))) (q:Q v (upd H p (.lst xs))):rPop (.ref p) [] H Q:=by
  refine ⟨p,xs ++ [v],v,rfl,rfl,h,by simp,?_⟩
  rw [List.dropLast_concat]
  exact q
end
end L2
namespace L2
open PySem PySem.Spec PyProof.Rows
noncomputable def TupK (K:PySem.W.Frag) (a:Addr) (xs:List V):Prop:=∃ (o:Obj) (its:Array Value) (n:Nat),K.lookup a=some o/\o.cls=.type "tuple" /\ o.data=.seq its n/\its.size <= sizeLine/\Vals xs its.toList
theorem TupK.sqt {K:PySem.W.Frag} {a:Addr} {xs:List V} (h:TupK K a xs) (H:Hp):SqT K H a xs:=.inr h
theorem ZaK {K:PySem.W.Frag} {a:Addr} {xs:List V} {d:Option Addr} {its:Array Value} {n:Nat} {sl:Array (Option Value)} (l:K.lookup a=some ⟨.type "tuple", d,.seq its n,sl⟩) (v:Vals xs its.toList) (z:its.size <= sizeLine):TupK K a xs:=⟨_,its,n,l,rfl,rfl,z,v⟩
noncomputable def inS (x:Str) (xs:List Str):Bool:=xs.any fun y=>y == x
theorem Zmw (x:Str) (xs:List Str):inV (.str x) (xs.map V.str)=inS x xs:=by
  unfold inV inS
  rw [List.any_map]
  rfl
section
variable {σ:St} {H:Hp} {Q:VK} {K:PySem.W.Frag} {p:Addr}
theorem ZjU {x:Str} {xs:List Str} (h:SqT K H p (xs.map V.str)) (q:Q (.bl (inS x xs)) H):rIn K false (.str x) (.ref p) H Q:=by
  refine ⟨p,_,rfl,.inr h,rfl,?_,?_⟩
  . rw [List.all_map]
    exact List.all_eq_true.mpr fun _ _=>rfl
  . rw [if_neg (by decide),Zmw]
    exact q
theorem Zi0 {te:TE} {R:Hp->Prop} {lo:Int} {n:Nat} {ys:List V} (hp:H p=none) (hn:ys.length=n) (hz:n <= sizeLine)
    (he:∀ (i:Nat) (y:V) (H':Hp) (Q:VK),i < n->ys[i]?=some y->Same H H'->Q y H'->te (some (.int (lo + i)) :: σ) H' Q) (fin:R (upd H p (.lst ys))) :
    tLoopC 1 (gName 0) tNoIf te (Itr lo n) p R σ H:=by
  refine ⟨fun i m σ' H'=>m=n - i/\i <= n/\H'=upd H p (.lst (ys.take i))/\∃ v,σ'=v :: σ,⟨n,by omega,Nat.zero_le _,rfl,none,rfl⟩,?_⟩
  rintro i m σ' H' ⟨rfl,hi,rfl,v,rfl⟩
  by_cases hlt:i < n
  . refine .inr ⟨hlt,fun σ2 H2=>H2=upd H p (.lst (ys.take (i + 1)))/\∃ v,σ2=v :: σ,fun σ2 H2 ⟨e,v',e'⟩=>⟨n - (i + 1),by omega,rfl,hlt,e,v',e'⟩,fun x H1 ⟨e,y⟩=>?_⟩
    subst e y
    refine ZjP ?_
    simp only [tNoIf,if_true,List.set_cons_zero]
    have hyl:i < ys.length:=by omega
    refine he i ys[i] _ _ hlt (by simp [hyl]) (Same.new hp) ?_
    refine ⟨ys.take i,Zag,?_,?_,some _,rfl⟩
    . rw [List.length_take]; omega
    . rw [ZaR,List.take_succ_eq_append_getElem hyl]
  . have e:i=n:=by omega
    subst e
    refine .inl ⟨Nat.le_refl _,?_⟩
    rw [<- hn,List.take_length]
    exact fin
end
noncomputable def CalD (P:Program) (w:World) (K:PySem.W.Frag) (mg:Str->Option Value) (base:Heap) (k:Nat) (x:Str) (sp:Sp) (dvs:List V):Prop :=
  ∃ f fd ps ds,mg x=some (.ref f)/\FnOk P w K mg base CX0 k f fd ps sp/\PySem.W.keepIn K (.ref f)=true/\Binds K fd ps ds/\Vals dvs ds
theorem Zmx {X:Cx} {k:Nat} {x:Str} {sp:Sp} {dvs:List V} {p pos:Pos} {e:Expr} {es:List Expr} {t:TA} (c:CalD X.prog X.w X.K X.mg X.base k x sp dvs) (hr:Room k X.A) (hg:Gl X x) (ha:PA X (e :: es) t) (hdb:(x == ("__debug__" : Str))=false:=by decide)
    (he:starEach (e :: es) X.env=(false,eval e X.env) :: starEach es X.env:=by rfl) (hpl:(backTo pos (starEach es X.env)).any (·.1)=false:=by rfl) :
    PE X (.Call (.Name x p) (e :: es) [] pos) (tCall sp dvs E0 t):=by
  obtain ⟨f,fd,ps,ds,m,F,kp,b,v⟩:=c
  exact ZjB F hr hg m kp b v pass0 ha hdb he hpl
noncomputable def isiSeq:Bool->String->Option Bool
  | true, "tuple" => some true
  | true, "list" => some false
  | true, "int" => some false
  | true, "bool" => some false
  | true, "str" => some false
  | false, "list" => some true
  | false, "tuple" => some false
  | false, "int" => some false
  | false, "bool" => some false
  | false, "str" => some false
  | _,_=>none
noncomputable def rIsiQ (K:PySem.W.Frag):RC:=fun xs H Q=>∃ a T ys b,xs=[.ref a,.ty T]/\((SqT K H a ys/\isiSeq true T=some b)\/(SqL K H a ys/\isiSeq false T=some b))/\Q (.bl b) H
theorem ZjV {X:Cx}:CallR X (.builtin "isinstance") (rIsiQ X.K):=by
  intro pins s σ H xs us Q I r h
  obtain ⟨a,T,ys,b,rfl,e,q⟩:=h
  obtain ⟨u,v,rfl,ru,rv⟩:=vals2 r
  obtain rfl:v=Value.type T:=rv
  obtain rfl:u=Value.ref a:=ru
  have kp:∀ b o,s.heap.get? b=some o->s.heap.get? b=some o:=fun _ _ z=>z
  rcases e with ⟨hq,e⟩|⟨hq,e⟩
  . obtain ⟨its,rv,p,hz⟩:=I.tuple hq
    have p':s.heap.IsTuple a its.toArray:=p
    unfold isiSeq at e
    split at e <;> first
      | contradiction
      | (cases e; first
        | exact IsiPair.isTuple_tuple p' kp ⟨.bl true,H,I,rfl,q⟩
        | exact IsiPair.isTuple_list p' kp ⟨.bl false,H,I.tok _,rfl,q⟩
        | exact IsiPair.isTuple_int p' kp ⟨.bl false,H,I.tok _,rfl,q⟩
        | exact IsiPair.isTuple_bool p' kp ⟨.bl false,H,I.tok _,rfl,q⟩
        | exact IsiPair.isTuple_str p' kp ⟨.bl false,H,I.tok _,rfl,q⟩)
      | cases e
      | (rename_i z _; cases z)
  . obtain ⟨its,rv,p,hz⟩:=I.list hq
    have p':s.heap.IsList a its.toArray:=p.isList
    unfold isiSeq at e
    split at e <;> first
      | contradiction
      | (cases e; first
        | exact IsiPair.isList_list p' kp ⟨.bl true,H,I,rfl,q⟩
        | exact IsiPair.isList_tuple p' kp ⟨.bl false,H,I.tok _,rfl,q⟩
        | exact IsiPair.isList_int p' kp ⟨.bl false,H,I.tok _,rfl,q⟩
        | exact IsiPair.isList_bool p' kp ⟨.bl false,H,I.tok _,rfl,q⟩
        | exact IsiPair.isList_str p' kp ⟨.bl false,H,I.tok _,rfl,q⟩)
      | cases e
      | (rename_i z _; cases z)
noncomputable def rIsiA (K:PySem.W.Frag):RC:=fun xs H Q=>rIsi xs H Q\/rIsiQ K xs H Q
theorem Zcq {X:Cx}:CallR X (.builtin "isinstance") (rIsiA X.K):=cn_isi.or ZjV
section
variable {H:Hp} {Q:VK} {K:PySem.W.Frag}
theorem Zmy {x:V} {T:String} {b:Bool} (e:isiV x T=some b) (q:Q (.bl b) H):rIsiA K [x,.ty T] H Q:=.inl ⟨x,T,b,rfl,e,q⟩
theorem Zmz {a:Addr} {T:String} {ys:List V} {b:Bool} (h:SqT K H a ys) (e:isiSeq true T=some b) (q:Q (.bl b) H):rIsiA K [.ref a,.ty T] H Q:=.inr ⟨a,T,ys,b,rfl,.inl ⟨h,e⟩,q⟩
theorem ZmA {a:Addr} {T:String} {ys:List V} {b:Bool} (h:SqL K H a ys) (e:isiSeq false T=some b) (q:Q (.bl b) H):rIsiA K [.ref a,.ty T] H Q:=.inr ⟨a,T,ys,b,rfl,.inr ⟨h,e⟩,q⟩
end
section
variable {σ:St} {H:Hp} {Q:VK} {P:Program} {w:World} {K:PySem.W.Frag} {td ty:TE}
end
noncomputable def rDK (P:Program) (w:World) (K:PySem.W.Frag):R2:=fun x y H Q=>∃ a vs k u v,x=.ref a/\y=kV k/\Zda P w K a vs/\valueAt vs k=some u/\RelV v u/\Q v H
theorem Zfb {X:Cx} {o i:Expr} {td ty:TE} {pos:Pos} (ho:PE X o td) (hi:PE X i ty) (hs:NoSl i):PE X (.Subscript o i pos) (tOp (rDK X.prog X.w X.K) td ty):=Zk6 ho hi hs
section
variable {H:Hp} {Q:VK} {P:Program} {w:World} {K:PySem.W.Frag}
theorem ZjW {a:Addr} {vs:List (Key × Value)} {x:Str} {u:Value} {v:V} (dk:Zda P w K a vs) (hv:valueAt vs (.inr x)=some u) (r:RelV v u) (q:Q v H):rDK P w K (.ref a) (.str x) H Q:=⟨a,vs,.inr x,u,v,rfl,rfl,dk,hv,r,q⟩
end
section
variable {CX:CXT} {P:Program} {w:World} {K:PySem.W.Frag} {mg:Str->Option Value} {base:Heap} {N:List Str} {q:Str} {sc:Scope} {f:Addr} {cd:Value} {A:Around} {outer:List Env} {s:Shared} {H:Hp} {E:XK}
theorem cxOf_K:(cxOf CX P w K mg base N q sc f cd A outer s H E).K=K:=rfl
theorem cxOf_P:(cxOf CX P w K mg base N q sc f cd A outer s H E).prog=P:=rfl
theorem cxOf_w:(cxOf CX P w K mg base N q sc f cd A outer s H E).w=w:=rfl
theorem ZmB:(cxOf CX P w K mg base N q sc f cd A outer s H E).mg=mg:=rfl
theorem ZjX:(cxOf CX P w K mg base N q sc f cd A outer s H E).base=base:=rfl
end
theorem Zk9:Vals [] []:=.nil
theorem Zla {i:Int} {t:Tok} {xs:List V} {us:List Value} (h:Vals xs us):Vals (.int i :: xs) (.int i t :: us):=.cons ⟨t,rfl⟩ h
theorem Zlb {x:Str} {t:Tok} {xs:List V} {us:List Value} (h:Vals xs us):Vals (.str x :: xs) (.str x t :: us):=.cons ⟨t,rfl⟩ h
theorem ZjY {K:PySem.W.Frag} {h:Heap} {mg:Str->Option Value} {x:Str} {i:Addr} {xs:List V} {d:Option Addr} {its:Array Value} {n:Nat} {sl:Array (Option Value)} (X:K.In h) (G:h.Ns mainGlobals mg) (a:PySem.W.nsIn K mainGlobals x=some (some (.ref i)))
    (l:K.lookup i=some ⟨.type "tuple", d,.seq its n,sl⟩) (v:Vals xs its.toList) (z:its.size <= sizeLine):∃ a,ZaU mg x (.ref a)/\TupK K a xs:=⟨i,ZcF X G a,ZaK l v z⟩
structure FunD (K:PySem.W.Frag) (x qual:Str) (st:Stmt) (items:Array Value) (f:Addr) (fd:FuncData):Prop where
  ex:∃ (oc:Value) (od:Option Addr) (T:Addr) (kV doc pm:Value) (an:Option Addr) (cdv ct:Value) (osl:Array (Option Value)) (o:Obj) (n:Nat),
    fd=PySem.W.fnOf x qual (Zas st) (Zar st) (Zab st) (.ref T) kV doc pm an cdv ct/\K.lookup f=some ⟨oc,od,.func fd,osl⟩/\PySem.W.codeIn K cdv qual=true/\K.lookup T=some o/\o.data=.seq items n
  kp:PySem.W.keepIn K (.ref f)=true
noncomputable def ZjZ (K:PySem.W.Frag) (mg:Str->Option Value) (x:Str) (st:Stmt) (items:Array Value):Prop:=∃ f fd,FunD K x x st items f fd/\mg x=some (.ref f)
theorem Zj0 {K:PySem.W.Frag} {h:Heap} {mg:Str->Option Value} {x:Str} {st:Stmt} {f T:Addr} {oc c2:Value} {od an d2:Option Addr} {osl s2:Array (Option Value)} {kV doc pm cdv ct:Value} {items:Array Value} {n:Nat} (X:K.In h) (G:h.Ns mainGlobals mg)
    (a:PySem.W.nsIn K mainGlobals x=some (some (.ref f))) (l:K.lookup f=some ⟨oc,od,.func (PySem.W.fnOf x x (Zas st) (Zar st) (Zab st) (.ref T) kV doc pm an cdv ct),osl⟩)
    (c:PySem.W.codeIn K cdv x=true) (k:PySem.W.keepIn K (.ref f)=true) (d:K.lookup T=some ⟨c2,d2,.seq items n,s2⟩):ZjZ K mg x st items :=
  ⟨f,_,⟨⟨oc,od,T,kV,doc,pm,an,cdv,ct,osl,_,n,rfl,l,c,d,rfl⟩,k⟩,PySem.W.mg_of X G a⟩
section
variable {P:Program} {w:World} {K:PySem.W.Frag} {mg:Str->Option Value} {base:Heap}
theorem FunD.fn {x qual:Str} {st:Stmt} {items:Array Value} {f:Addr} {fd:FuncData} {N ps:List Str} {k:Nat} {sp:Sp} (F:FunD K x qual st items f fd) (S:FnScope N ps (Zab st)) (len:∀ vs H Q E,sp vs H Q E->vs.length=ps.length)
    (hbody:∀ (cdv:Value) (A:Around) (outer:List Env) (s:Shared) (H:Hp) (vs:List V) (Q:VK) (E:XK),Room k (A.deeper (envOfC qual (Zab st) s.heap.objs.size f cdv))->sp vs H Q E ->
      ∃ t,PSs (cxOf CX0 P w K mg base N qual (Zab st) f cdv A outer s H E).nox (Zar st) t/\t { nx:=fun _ H'=>Q .non H',rt:=Q } (start N vs) H):FnOk P w K mg base CX0 (k + 1) f fd ps sp:=by
  obtain ⟨oc,od,T,kV,doc,pm,an,cdv,ct,osl,o,n,rfl,lk,hcd,lt,ld⟩:=F.ex
  refine fn_of lk hcd S len fun A outer s H vs Q E hr hsp=>?_
  obtain ⟨t,h,q⟩:=hbody cdv A outer s H vs Q E hr hsp
  exact ⟨t,h.nox,q⟩
theorem FunD.binds {x qual:Str} {st:Stmt} {items:Array Value} {f:Addr} {fd:FuncData} {ps:List Str} (F:FunD K x qual st items f fd) (ds:List Value)
    (h:∀ (T:Addr) (kV doc pm:Value) (an:Option Addr) (cdv ct:Value) (us:List Value),(us ++ ds).length=ps.length->∃ k:Option (Array Value)->Sem (List (Str × Value)),bindArgs (PySem.W.fnOf x qual (Zas st) (Zar st) (Zab st) (.ref T) kV doc pm an cdv ct) ⟨us,[]⟩=seqItems? (.ref T) >>= k/\k (some items)=pure (ps.zip (us ++ ds))):Binds K fd ps ds:=by
  obtain ⟨oc,od,T,kV,doc,pm,an,cdv,ct,osl,o,n,rfl,lk,hcd,lt,ld⟩:=F.ex
  intro s us X hl
  obtain ⟨k,h1,h2⟩:=h T kV doc pm an cdv ct us hl
  exact BindsTo.of_defaults (fd:=PySem.W.fnOf x qual (Zas st) (Zar st) (Zab st) (.ref T) kV doc pm an cdv ct) rfl (X _ _ lt) ld h1 h2
end
end L2
namespace L2
open PySem PySem.Spec PyProof.Rows PySem.SeqAt
inductive Dt where
  | non
  | bl (b:Bool)
  | int (i:Int)
  | str (x:Str)
  | lst (ds:List Dt)
  | tup (ds:List Dt)
mutual
noncomputable def Dt.eq:Dt->Dt->Bool
  | .non,.non=>true
  | .bl a,.bl b=>a == b
  | .bl a,.int b=>(if a then 1 else 0) == b
  | .int a,.bl b=>a == (if b then 1 else 0)
  | .int a,.int b=>a == b
  | .str a,.str b=>a == b
  | .lst a,.lst b=>Dt.eqs a b
  | .tup a,.tup b=>Dt.eqs a b
  | _,_=>false
noncomputable def Dt.eqs:List Dt->List Dt->Bool
  | [],[]=>true
  | a :: r,b :: t=>Dt.eq a b && Dt.eqs r t
  | _,_=>false
end
mutual
noncomputable def Dt.dep:Dt->Nat
  | .lst ds=>Dt.deps ds + 1
  | .tup ds=>Dt.deps ds + 1
  | _=>0
noncomputable def Dt.deps:List Dt->Nat
  | []=>0
  | d :: r=>max (Dt.dep d) (Dt.deps r)
end
mutual
noncomputable def DV (K:PySem.W.Frag) (H:Hp):Dt->V->Prop
  | .non,v=>v=.non
  | .bl b,v=>v=.bl b
  | .int i,v=>v=.int i
  | .str x,v=>v=.str x
  | .lst ds,v=>∃ a xs,v=.ref a/\SqL K H a xs/\DVs K H ds xs
  | .tup ds,v=>∃ a xs,v=.ref a/\SqT K H a xs/\DVs K H ds xs
noncomputable def DVs (K:PySem.W.Frag) (H:Hp):List Dt->List V->Prop
  | [],xs=>xs=[]
  | d :: r,xs=>∃ x t,xs=x :: t/\DV K H d x/\DVs K H r t
end
theorem DVs.length {K:PySem.W.Frag} {H:Hp}:∀ {ds:List Dt} {xs:List V},DVs K H ds xs->ds.length=xs.length
  | [],xs,h=>by unfold DVs at h; subst h; rfl
  | d :: r,xs,h=>by
    unfold DVs at h
    obtain ⟨x,t,rfl,_,h⟩:=h
    rw [List.length_cons,List.length_cons,DVs.length h]
theorem DVs.get {K:PySem.W.Frag} {H:Hp}:∀ {ds:List Dt} {xs:List V} {i:Nat} {d:Dt} {x:V},DVs K H ds xs->ds[i]?=some d->xs[i]?=some x->DV K H d x
  | [],xs,i,d,x,h,e,_=>by simp at e
  | d0 :: r,xs,i,d,x,h,e1,e2=>by
    unfold DVs at h
    obtain ⟨x0,t,rfl,h0,h⟩:=h
    cases i with
    | zero=>simp at e1 e2; subst e1 e2; exact h0
    | succ i=>exact DVs.get (i:=i) h (by simpa using e1) (by simpa using e2)
theorem Dt.dep_le:∀ {ds:List Dt} {i:Nat} {d:Dt},ds[i]?=some d->d.dep <= Dt.deps ds
  | [],i,d,e=>by simp at e
  | d0 :: r,i,d,e=>by
    unfold Dt.deps
    cases i with
    | zero=>simp at e; subst e; exact Nat.le_max_left _ _
    | succ i=>exact Nat.le_trans (Dt.dep_le (i:=i) (by simpa using e)) (Nat.le_max_right _ _)
theorem Dt.eqs_range:∀ (ds es:List Dt),ds.length=es.length->(List.range ds.length).all (fun j=>Dt.eq (ds.getD j .non) (es.getD j .non))=Dt.eqs ds es
  | [],[],_=>by unfold Dt.eqs; rfl
  | d :: r,e :: t,h=>by
    have ih:=Dt.eqs_range r t (by simpa using h)
    rw [List.length_cons,List.range_succ_eq_map,List.all_cons,List.all_map]
    unfold Dt.eqs
    rw [<- ih]
    rfl
  | [],_ :: _,h=>by simp at h
  | _ :: _,[],h=>by simp at h
section
variable {X:Cx} {pins:List (Addr × Obj)} {σ:St} {H:Hp} {s:Shared}
theorem DV.same (I:Inv X pins σ H s):∀ (n:Nat) (d e:Dt) (x:V),d.dep <= n->DV X.K H d x->DV X.K H e x->Dt.eq d e=true:=by
  intro n
  induction n with
  | zero =>
    intro d e x hn h1 h2
    cases d with
    | lst ds=>unfold Dt.dep at hn; omega
    | tup ds=>unfold Dt.dep at hn; omega
    | non=>unfold DV at h1; subst h1; cases e <;> unfold DV at h2 <;> first|(cases h2; done)|(obtain ⟨_,_,z,_⟩:=h2; cases z; done)|(unfold Dt.eq; rfl)
    | bl b=>unfold DV at h1; subst h1; cases e <;> unfold DV at h2 <;> first|(cases h2; unfold Dt.eq; simp; done)|(obtain ⟨_,_,z,_⟩:=h2; cases z; done)|(cases h2; done)
    | int b=>unfold DV at h1; subst h1; cases e <;> unfold DV at h2 <;> first|(cases h2; unfold Dt.eq; simp; done)|(obtain ⟨_,_,z,_⟩:=h2; cases z; done)|(cases h2; done)
    | str b=>unfold DV at h1; subst h1; cases e <;> unfold DV at h2 <;> first|(cases h2; unfold Dt.eq; simp; done)|(obtain ⟨_,_,z,_⟩:=h2; cases z; done)|(cases h2; done)
  | succ n ih =>
    intro d e x hn h1 h2
    have lists:∀ (ds es:List Dt) (xs:List V),Dt.deps ds <= n->DVs X.K H ds xs->DVs X.K H es xs->Dt.eqs ds es=true:=by
      intro ds es xs hd a b
      have l1:=a.length
      have l2:=b.length
      rw [<- Dt.eqs_range ds es (l1.trans l2.symm),List.all_eq_true]
      intro j hj
      have hj':j < ds.length:=List.mem_range.mp hj
      have e1:ds[j]?=some ds[j]:=List.getElem?_eq_getElem hj'
      have e2:es[j]?=some (es[j]'(by omega)):=List.getElem?_eq_getElem (by omega)
      have e3:xs[j]?=some (xs[j]'(by omega)):=List.getElem?_eq_getElem (by omega)
      rw [List.getD_eq_getElem?_getD,List.getD_eq_getElem?_getD,e1,e2]
      exact ih _ _ _ (Nat.le_trans (Dt.dep_le e1) hd) (a.get e1 e3) (b.get e2 e3)
    cases d with
    | lst ds =>
      unfold Dt.dep at hn
      unfold DV at h1
      obtain ⟨a,xs,rfl,q1,r1⟩:=h1
      cases e with
      | lst es =>
        unfold DV at h2
        obtain ⟨b,ys,z,q2,r2⟩:=h2
        cases z
        rw [I.list_inj q2 q1] at r2
        unfold Dt.eq
        exact lists ds es xs (by omega) r1 r2
      | tup es =>
        unfold DV at h2
        obtain ⟨b,ys,z,q2,r2⟩:=h2
        cases z
        obtain ⟨i1,_,p1,_⟩:=I.list q1
        obtain ⟨i2,_,p2,_⟩:=I.tuple q2
        obtain ⟨o1,g1,c1,_⟩:=p1.isList
        have p2':s.heap.IsTuple a i2.toArray:=p2
        obtain ⟨o2,g2,c2,_⟩:=p2'
        rw [g1] at g2
        cases g2
        rw [c1] at c2
        exact absurd c2 (by decide)
      | non=>unfold DV at h2; cases h2
      | bl b=>unfold DV at h2; cases h2
      | int b=>unfold DV at h2; cases h2
      | str b=>unfold DV at h2; cases h2
    | tup ds =>
      unfold Dt.dep at hn
      unfold DV at h1
      obtain ⟨a,xs,rfl,q1,r1⟩:=h1
      cases e with
      | tup es =>
        unfold DV at h2
        obtain ⟨b,ys,z,q2,r2⟩:=h2
        cases z
        rw [I.tuple_inj q2 q1] at r2
        unfold Dt.eq
        exact lists ds es xs (by omega) r1 r2
      | lst es =>
        unfold DV at h2
        obtain ⟨b,ys,z,q2,r2⟩:=h2
        cases z
        obtain ⟨i1,_,p1,_⟩:=I.list q2
        obtain ⟨i2,_,p2,_⟩:=I.tuple q1
        obtain ⟨o1,g1,c1,_⟩:=p1.isList
        have p2':s.heap.IsTuple a i2.toArray:=p2
        obtain ⟨o2,g2,c2,_⟩:=p2'
        rw [g1] at g2
        cases g2
        rw [c1] at c2
        exact absurd c2 (by decide)
      | non=>unfold DV at h2; cases h2
      | bl b=>unfold DV at h2; cases h2
      | int b=>unfold DV at h2; cases h2
      | str b=>unfold DV at h2; cases h2
    | non=>exact ih _ e x (by unfold Dt.dep; omega) h1 h2
    | bl b=>exact ih _ e x (by unfold Dt.dep; omega) h1 h2
    | int b=>exact ih _ e x (by unfold Dt.dep; omega) h1 h2
    | str b=>exact ih _ e x (by unfold Dt.dep; omega) h1 h2
end
end L2
namespace L2
open PySem PySem.Spec PyProof.Rows PySem.SeqAt
section
variable {X:Cx} {pins:List (Addr × Obj)} {σ:St} {H:Hp} {s:Shared}
end
section
variable {X:Cx}
end
noncomputable def Dt.ints (ns:List Int):List Dt:=ns.map Dt.int
section
variable {H:Hp} {Q:VK} {K:PySem.W.Frag} {a b:Addr}
end
mutual
theorem DV.keep {K:PySem.W.Frag} {H H':Hp} (s:Same H H'):∀ {d:Dt} {v:V},DV K H d v->DV K H' d v
  | .non,v,h=>by unfold DV at h |-; exact h
  | .bl b,v,h=>by unfold DV at h |-; exact h
  | .int i,v,h=>by unfold DV at h |-; exact h
  | .str x,v,h=>by unfold DV at h |-; exact h
  | .lst ds,v,h=>by
    unfold DV at h |-
    obtain ⟨a,xs,e,q,r⟩:=h
    exact ⟨a,xs,e,s.seq q,DVs.keep s r⟩
  | .tup ds,v,h=>by
    unfold DV at h |-
    obtain ⟨a,xs,e,q,r⟩:=h
    exact ⟨a,xs,e,s.tup q,DVs.keep s r⟩
theorem DVs.keep {K:PySem.W.Frag} {H H':Hp} (s:Same H H'):∀ {ds:List Dt} {xs:List V},DVs K H ds xs->DVs K H' ds xs
  | [],xs,h=>by unfold DVs at h |-; exact h
  | d :: r,xs,h=>by
    unfold DVs at h |-
    obtain ⟨x,t,e,h1,h2⟩:=h
    exact ⟨x,t,e,DV.keep s h1,DVs.keep s h2⟩
end
end L2
namespace L2
open PySem PySem.Spec PyProof.Rows Builtin Builtin.Str
end L2
namespace L2
open PySem PySem.Spec PyProof.Rows Builtin Builtin.Str
noncomputable abbrev RM:=V->List V->Hp->VK->Prop
section
variable {X:Cx}
variable {o e:Expr} {es:List Expr} {to:TE} {t:TA} {apos cpos:Pos}
end
section
variable {X:Cx} {H:Hp} {Q:VK} {K:PySem.W.Frag} {z y:Str} {p:Addr} {ts:List Str}
end
end L2
namespace L2
open PySem PySem.Spec PyProof.Rows Builtin Builtin.Str
end L2
namespace L2
open PySem PySem.Spec PyProof.Rows Builtin Builtin.Str
noncomputable def rIsN:R2:=fun x y H Q=>y=.non/\Q (.bl (decide (x=.non))) H
section
variable {X:Cx} {σ:St} {H:Hp} {Q:VK} {K:PySem.W.Frag} {z y:Str} {R:Prop}
theorem Zel:OpR X (compareOp .Is) rIsN:=op_isN
theorem ZmC (q:Q (.bl true) H):rIsN .non .non H Q:=⟨rfl,by rw [decide_eq_true rfl]; exact q⟩
theorem ZmD {p:Addr} (q:Q (.bl false) H):rIsN (.ref p) .non H Q:=⟨rfl,by rw [decide_eq_false (fun e=>nomatch e)]; exact q⟩
end
theorem Zlc {α:Type} {xs:List α} {i:Int} (h0:0 <= i) (h:i < xs.length):∃ c,atI xs i=some c/\xs[i.toNat]?=some c:=by
  have hl:i.toNat < xs.length:=by omega
  exact ⟨xs[i.toNat],ZbO (i:=i.toNat) (by simp [hl]) (by omega),by simp [hl]⟩
section
variable {H:Hp} {Q:VK} {z y:Str} {i:Int} {lo hi:Option Int}
end
end L2
namespace L2
open PySem PySem.Spec PyProof.Rows
noncomputable def Zj1 (K:PySem.W.Frag):RC:=fun xs H Q=>∃ p ys,xs=[.ref p]/\(SqL K H p ys\/SqT K H p ys)/\∀ l,H l=none->Q (.ref l) (upd H l (.lst ys))
theorem Zj2 {X:Cx}:CallR X (.type "list") (Zj1 X.K):=Zgl
section
variable {H:Hp} {Q:VK} {K:PySem.W.Frag} {p:Addr} {xs:List V}
theorem Zfs (h:SqL K H p xs) (q:∀ l,H l=none->Q (.ref l) (upd H l (.lst xs))):Zj1 K [.ref p] H Q:=⟨p,xs,rfl,.inl h,q⟩
end
end L2
namespace L2
open PySem PySem.Spec PyProof.Rows
structure ClsF (K:PySem.W.Frag) (mg:Str->Option Value) (x:Str) (C:Addr):Prop where
  cl:Cls K C
  ms:PySem.W.makesIn K C=true
  kc:PySem.W.keepIn K (.ref C)=true
  mgC:mg x=some (.ref C)
noncomputable def Zal (K:PySem.W.Frag) (C:Addr) (m qual:Str) (st:Stmt):Prop:=∃ f fd,Fun K m qual st f fd/\PySem.W.findIn K (.ref C) m=some (some (.ref f))/\PySem.W.isFn K (.ref f)=true
noncomputable def MCal (P:Program) (w:World) (K:PySem.W.Frag) (mg:Str->Option Value) (base:Heap) (k:Nat) (C:Addr) (m:Str) (sp:Sp):Prop :=
  Cls K C/\∃ f fd ps,Meth K C m f/\FnOk P w K mg base CX0 k f fd ps sp/\Binds K fd ps []
noncomputable def ICal (P:Program) (w:World) (K:PySem.W.Frag) (mg:Str->Option Value) (base:Heap) (k:Nat) (x:Str) (C:Addr) (sp:Sp):Prop :=
  mg x=some (.ref C)/\∃ f fd ps,Mk K C f/\FnOk P w K mg base CX0 k f fd ps sp/\Binds K fd ps []
section
variable {P:Program} {w:World} {K:PySem.W.Frag} {mg:Str->Option Value} {base:Heap}
theorem Zau {C:Addr} {m qual:Str} {st:Stmt} {f:Addr} {oc:Value} {od an:Option Addr} {osl:Array (Option Value)} {kV doc pm cdv ct:Value}
    (a:PySem.W.findIn K (.ref C) m=some (some (.ref f))) (i:PySem.W.isFn K (.ref f)=true) (l:K.lookup f=some ⟨oc,od,.func (PySem.W.fnOf m qual (Zas st) (Zar st) (Zab st) .none kV doc pm an cdv ct),osl⟩)
    (c:PySem.W.codeIn K cdv qual=true) (k:PySem.W.keepIn K (.ref f)=true):Zal K C m qual st:=⟨f,_,ZlS l c k,a,i⟩
theorem ZaS {C:Addr} {m qual:Str} {st:Stmt} {N ps:List Str} {k:Nat} {sp:Sp} (D:Zal K C m qual st) (c:Cls K C) (S:FnScope N ps (Zab st)) (len:∀ vs H Q E,sp vs H Q E->vs.length=ps.length)
    (hb:∀ (kV doc pm:Value) (an:Option Addr) (cdv ct:Value) (us:List Value),us.length=ps.length->bindArgs (PySem.W.fnOf m qual (Zas st) (Zar st) (Zab st) .none kV doc pm an cdv ct) ⟨us,[]⟩=pure (ps.zip us))
    (hbody:∀ (f:Addr) (cdv:Value) (A:Around) (outer:List Env) (s:Shared) (H:Hp) (vs:List V) (Q:VK) (E:XK),Room k (A.deeper (envOfC qual (Zab st) s.heap.objs.size f cdv))->sp vs H Q E ->
      ∃ t,PSs (cxOf CX0 P w K mg base N qual (Zab st) f cdv A outer s H E).nox (Zar st) t/\t { nx:=fun _ H'=>Q .non H',rt:=Q } (start N vs) H):MCal P w K mg base (k + 1) C m sp:=by
  obtain ⟨f,fd,F,a,i⟩:=D
  exact ⟨c,f,fd,ps,⟨a,i,F.kp⟩,F.ok S len (hbody f),F.binds hb⟩
theorem Zem {C:Addr} {x qual:Str} {st:Stmt} {N ps:List Str} {k:Nat} {sp:Sp} (D:Zal K C "__init__" qual st) (c:ClsF K mg x C) (S:FnScope N ps (Zab st)) (len:∀ vs H Q E,sp vs H Q E->vs.length=ps.length)
    (hb:∀ (kV doc pm:Value) (an:Option Addr) (cdv ct:Value) (us:List Value),us.length=ps.length->bindArgs (PySem.W.fnOf "__init__" qual (Zas st) (Zar st) (Zab st) .none kV doc pm an cdv ct) ⟨us,[]⟩=pure (ps.zip us))
    (hbody:∀ (f:Addr) (cdv:Value) (A:Around) (outer:List Env) (s:Shared) (H:Hp) (vs:List V) (Q:VK) (E:XK),Room k (A.deeper (envOfC qual (Zab st) s.heap.objs.size f cdv))->sp vs H Q E ->
      ∃ t,PSs (cxOf CX0 P w K mg base N qual (Zab st) f cdv A outer s H E).nox (Zar st) t/\t { nx:=fun _ H'=>Q .non H',rt:=Q } (start N vs) H):ICal P w K mg base (k + 1) x C sp:=by
  obtain ⟨f,fd,F,a,i⟩:=D
  exact ⟨c.mgC,f,fd,ps,⟨c.ms,a,i,c.kc⟩,F.ok S len (hbody f),F.binds hb⟩
theorem MCal.mono {j k:Nat} {C:Addr} {m:Str} {sp:Sp} (c:MCal P w K mg base j C m sp) (h:j <= k):MCal P w K mg base k C m sp :=
  let ⟨cl,f,fd,ps,M,F,b⟩:=c
  ⟨cl,f,fd,ps,M,F.mono h,b⟩
end
section
variable {X:Cx} {k:Nat} {C:Addr} {sp:Sp} {x m:Str} {p pos apos:Pos} {e o:Expr} {es:List Expr} {ta:TE} {t:TA}
theorem ZaB {pl:Sem Bool} (c:MCal X.prog X.w X.K X.mg X.base k C m sp) (hr:Room k X.A) (he:PE X o ta) (ha:PA X (e :: es) t)
    (hst:starEach (e :: es) X.env=(false,eval e X.env) :: starEach es X.env:=by rfl) (hpl:(backTo pos (starEach es X.env)).any (·.1)=false:=by rfl)
    (ht:eval (.Call (.Attribute o m apos) (e :: es) [] pos) X.env=(do
      let ov <- eval o X.env
      standAt apos.atName
      let (f,first) <- holding [ov] (getMethod ov m pl)
      callWith pos f first (backTo pos (starEach (e :: es) X.env)) (backToKw pos (keywordEach [] X.env))):=by rfl) :
    PE X (.Call (.Attribute o m apos) (e :: es) [] pos) (tMeth C m sp [] E0 ta t):=by
  obtain ⟨cl,f,fd,ps,M,F,b⟩:=c
  exact Zmf he cl M F hr b .nil pass0 ha hst hpl ht
theorem Zce {pl:Sem Bool} (c:MCal X.prog X.w X.K X.mg X.base k C m sp) (hr:Room k X.A) (he:PE X o ta)
    (ht:eval (.Call (.Attribute o m apos) [] [] pos) X.env=(do
      let ov <- eval o X.env
      standAt apos.atName
      let (f,first) <- holding [ov] (getMethod ov m pl)
      callWith pos f first (backTo pos (starEach [] X.env)) (backToKw pos (keywordEach [] X.env))):=by rfl) :
    PE X (.Call (.Attribute o m apos) [] [] pos) (tMeth C m sp [] E0 ta tNil):=by
  obtain ⟨cl,f,fd,ps,M,F,b⟩:=c
  exact ZkU he cl M F hr b .nil pass0 ht
theorem Zcr (c:ICal X.prog X.w X.K X.mg X.base k x C sp) (hr:Room (k + 1) X.A) (hg:Gl X x) (ha:PA X (e :: es) t) (hdb:(x == ("__debug__" : Str))=false:=by decide)
    (he:starEach (e :: es) X.env=(false,eval e X.env) :: starEach es X.env:=by rfl) (hpl:(backTo pos (starEach es X.env)).any (·.1)=false:=by rfl) :
    PE X (.Call (.Name x p) (e :: es) [] pos) (tMake C sp [] E0 t):=by
  obtain ⟨m,f,fd,ps,M,F,b⟩:=c
  exact ZjC M F hr hg m b .nil pass0 ha hdb he hpl
noncomputable def tMethD (T:Addr->Sp->Prop) (m:Str) (ta:TE) (t:TA):TE:=fun σ H Q=>ta σ H fun x H1=>∃ a C dx fs sp,x=.ref a/\H1 a=some (.ins C dx fs)/\fs.lookup m=none/\T C sp/\t σ H1 fun vs H2=>sp (x :: vs) H2 Q E0
theorem Ziw {pl:Sem Bool} {T:Addr->Sp->Prop} (c:∀ C sp,T C sp->MCal X.prog X.w X.K X.mg X.base k C m sp) (hr:Room k X.A) (he:PE X o ta) (ha:PA X (e :: es) t)
    (hst:starEach (e :: es) X.env=(false,eval e X.env) :: starEach es X.env:=by rfl) (hpl:(backTo pos (starEach es X.env)).any (·.1)=false:=by rfl)
    (ht:eval (.Call (.Attribute o m apos) (e :: es) [] pos) X.env=(do
      let ov <- eval o X.env
      standAt apos.atName
      let (f,first) <- holding [ov] (getMethod ov m pl)
      callWith pos f first (backTo pos (starEach (e :: es) X.env)) (backToKw pos (keywordEach [] X.env))):=by rfl) :
    PE X (.Call (.Attribute o m apos) (e :: es) [] pos) (tMethD T m ta t):=by
  intro pins s σ H Q I h
  refine PySem.W.methodCall_KW (pl:=pl) (thn (he pins s σ H _ I h) fun u s1 ⟨x,H1,I1,rx,a,C,dx,fs,sp,ex,ea,l,hT,q⟩=>?_) ht
  obtain ⟨cl,f,fd,ps,M,F,b⟩:=c C sp hT
  subst ex
  obtain rfl:u=Value.ref a:=rx
  refine Zb4 I1 ea cl M l ?_
  refine PySem.W.callWith_K (first:=[.ref a]) (h₀:=X.base) I.ok.mod.kin M.kp (thn (ha pos pins s1 σ H1 _ I1 q) fun us s2 ⟨vs,H2,I2,r,q2⟩=>⟨I2.kIn,?_⟩) hst hpl
  exact Ze7 (us:=.ref a :: us) (vs:=.ref a :: vs) (dvs:=[]) (E:=E0) F hr b .nil pass0 I2 (.cons rfl r) (by rw [List.append_nil]; exact q2)
theorem Zen {pl:Sem Bool} {T:Addr->Sp->Prop} (c:∀ C sp,T C sp->MCal X.prog X.w X.K X.mg X.base k C m sp) (hr:Room k X.A) (he:PE X o ta)
    (ht:eval (.Call (.Attribute o m apos) [] [] pos) X.env=(do
      let ov <- eval o X.env
      standAt apos.atName
      let (f,first) <- holding [ov] (getMethod ov m pl)
      callWith pos f first (backTo pos (starEach [] X.env)) (backToKw pos (keywordEach [] X.env))):=by rfl) :
    PE X (.Call (.Attribute o m apos) [] [] pos) (tMethD T m ta tNil):=by
  intro pins s σ H Q I h
  refine PySem.W.methodCall_KW (pl:=pl) (thn (he pins s σ H _ I h) fun u s1 ⟨x,H1,I1,rx,a,C,dx,fs,sp,ex,ea,l,hT,q⟩=>?_) ht
  obtain ⟨cl,f,fd,ps,M,F,b⟩:=c C sp hT
  subst ex
  obtain rfl:u=Value.ref a:=rx
  refine Zb4 I1 ea cl M l ?_
  exact PySem.W.callWith_K0 (first:=[.ref a]) I1.kIn M.kp (Ze7 (us:=[.ref a]) (vs:=[.ref a]) (dvs:=[]) (E:=E0) F hr b .nil pass0 I1 (.cons rfl .nil) q)
end
section
variable {σ:St} {H:Hp} {Q:VK} {K:PySem.W.Frag} {a C dx:Addr} {fs:List (Str × V)} {f m:Str} {v:V} {D:Ends} {sp:Sp}
theorem rd_fld {ta:TE} (q:ta σ H fun x H1=>∃ a C dx fs v,x=.ref a/\H1 a=some (.ins C dx fs)/\Cls K C/\NoAttr K C f/\fs.lookup f=some v/\Q v H1):tFld K ta f σ H Q:=q
theorem Zai {R:V->Prop} (h:H a=some (.ins C dx fs)) (c:Cls K C) (n:NoAttr K C f) (l:fs.lookup f=some v) (q:R v):∃ a' C dx fs v,V.ref a=.ref a'/\H a'=some (.ins C dx fs)/\Cls K C/\NoAttr K C f/\fs.lookup f=some v/\R v:=⟨a,C,dx,fs,v,rfl,h,c,n,l,q⟩
theorem ZmE {ta tv:TE} (q:tv σ H fun y H1=>ta σ H1 fun x H2=>∃ a C dx fs,x=.ref a/\H2 a=some (.ins C dx fs)/\Cls K C/\NoAttr K C f/\fs.length < 1000/\D.nx σ (upd H2 a (.ins C dx (putF f y fs)))):sFld K ta tv f D σ H:=q
theorem Zav {R:Hp->Prop} {y:V} (h:H a=some (.ins C dx fs)) (c:Cls K C) (n:NoAttr K C f) (l:fs.length < 1000) (q:R (upd H a (.ins C dx (putF f y fs)))):∃ a' C dx fs,V.ref a=.ref a'/\H a'=some (.ins C dx fs)/\Cls K C/\NoAttr K C f/\fs.length < 1000/\R (upd H a' (.ins C dx (putF f y fs))):=⟨a,C,dx,fs,rfl,h,c,n,l,q⟩
theorem ZmF {ta:TE} {t:TA} (q:ta σ H fun x H1=>∃ a dx fs,x=.ref a/\H1 a=some (.ins C dx fs)/\fs.lookup m=none/\t σ H1 fun vs H2=>sp (x :: (vs ++ [])) H2 Q E0):tMeth C m sp [] E0 ta t σ H Q:=q
theorem Zan {R:Prop} (h:H a=some (.ins C dx fs)) (l:fs.lookup m=none) (q:R):∃ a' dx fs,V.ref a=.ref a'/\H a'=some (.ins C dx fs)/\fs.lookup m=none/\R:=⟨a,dx,fs,rfl,h,l,q⟩
theorem Zld (q:∀ p,H p=none->Q (.ref p) (upd H p (.dK []))):tDNewK σ H Q:=q
theorem Zle {td ty tx:TE} (q:td σ H fun x H1=>∃ a,x=.ref a/\IsD H1 a/\ty σ H1 fun y H2=>tx σ H2 fun z H3=>∃ o,DGet H3 a y o/\Q (o.getD z) H3):tDGet2 td ty tx σ H Q:=q
theorem isD_k {kvs:List (Key × V)} (h:H a=some (.dK kvs)):IsD H a:=.inl ⟨kvs,.inl h⟩
end
section
variable {σ:St} {H:Hp} {Q:VK} {a:Addr} {kvs:List (Key × V)} {k:Key} {v:V} {R:Prop}
theorem ZmG {td ty:TE} (q:td σ H fun x H1=>ty σ H1 fun y H2=>∃ a v,x=.ref a/\DGet H2 a y (some v)/\Q v H2):tDGet td ty σ H Q:=q
theorem ZmH {td ty tv:TE} {D:Ends} (q:tv σ H fun v H1=>td σ H1 fun x H2=>ty σ H2 fun y H3=>∃ a H4,x=.ref a/\DPut H3 a y v H4/\D.nx σ H4):sDPut td ty tv D σ H:=q
theorem Zd5 {S:Hp->Prop} {i:Int} (h:H a=some (.dK kvs)) (hl:kvs.length < sizeLine) (q:S (upd H a (.dK (putK kvs (Sum.inl i) v)))):∃ a' H4,V.ref a=.ref a'/\DPut H a' (.int i) v H4/\S H4:=⟨a,_,rfl,DPut.k (k:=Sum.inl i) h hl,q⟩
end
theorem SqL.updI {K:PySem.W.Frag} {H:Hp} {a p C dx:Addr} {fs:List (Str × V)} {xs:List V} {o:HO} (h:SqL K H a xs) (n:H p=some (.ins C dx fs)):SqL K (upd H p o) a xs:=by
  rcases h with (h|⟨ob,h⟩)|h
  . exact .inl (.inl (by rw [Zaj (Za2 h n (by intro z; cases z))]; exact h))
  . exact .inl (.inr ⟨ob,by rw [Zaj (Za2 h n (by intro z; cases z))]; exact h⟩)
  . exact .inr h
end L2
namespace L2
open PySem PySem.Spec PyProof.Rows
theorem Same.wr {H H':Hp} {l:Addr} {o:HO} (s:Same H H') (n:H l=none):Same H (upd H' l o):=fun b u e=>by rw [Zaj (Zah e n)]; exact s b u e
theorem Same.fresh {H H':Hp} {q:Addr} (s:Same H H') (hq:H' q=none):H q=none:=by
  cases e:H q with
  | none=>rfl
  | some o=>rw [s _ _ e] at hq; cases hq
end L2
namespace L2
open PySem PySem.Spec PyProof.Rows
section
variable {σ:St} {H:Hp} {p:Addr}
end
section
variable {σ:St} {H:Hp} {p:Addr} {xs:List V} {v:V}
theorem ZmI {to ti:TE} {t:TSet} {Q:St->Hp->Prop} (q:to σ H fun o H1=>ti σ H1 fun i H2=>t o i v H2 fun H3=>Q σ H3):gSub to ti t v σ H Q:=q
theorem Zft {Q:Hp->Prop} {k:Int} {j:Nat} (h:H p=some (.lst xs)) (hj:ixN xs.length k=some j) (q:Q (upd H p (.lst (xs.set j v)))):rSetL (.ref p) (.int k) v H Q:=⟨p,xs,k,j,rfl,rfl,h,hj,q⟩
theorem Zhp {n j:Nat} {k:Int} (e:k=(j:Int)) (h:j < n):ixN n k=some j:=by
  unfold ixN
  rw [if_pos (by omega),if_pos (by omega),e,Int.toNat_natCast]
theorem Zj3 {n j:Nat} {k:Int} (hk:k < 0) (e:k + n=(j:Int)):ixN n k=some j:=by
  unfold ixN
  rw [if_neg (by omega),if_pos (by omega),e,Int.toNat_natCast]
end
section
variable {σ:St} {H:Hp} {p a:Addr} {K:PySem.W.Frag} {xs:List V}
end
end L2
namespace L2
open PySem PySem.Spec PyProof.Rows
mutual
theorem Dt.eq_self:∀ d:Dt,Dt.eq d d=true
  | .non=>by unfold Dt.eq; rfl
  | .bl b=>by unfold Dt.eq; exact beq_self_eq_true b
  | .int i=>by unfold Dt.eq; exact beq_self_eq_true i
  | .str x=>by unfold Dt.eq; exact beq_self_eq_true x
  | .lst ds=>by unfold Dt.eq; exact Dt.eqs_self ds
  | .tup ds=>by unfold Dt.eq; exact Dt.eqs_self ds
theorem Dt.eqs_self:∀ ds:List Dt,Dt.eqs ds ds=true
  | []=>by unfold Dt.eqs; rfl
  | d :: r=>by unfold Dt.eqs; rw [Dt.eq_self d,Dt.eqs_self r]; rfl
end
section
variable {K:PySem.W.Frag} {H:Hp} {Q:VK} {x y:V} {d:Dt}
theorem ZaQ {i:Int}:DV K H (.int i) (.int i):=by unfold DV; rfl
theorem Zdc {i:Str}:DV K H (.str i) (.str i):=by unfold DV; rfl
theorem Zbq:DVs K H [] []:=by unfold DVs; rfl
theorem Zao {d:Dt} {r:List Dt} {x:V} {t:List V} (h:DV K H d x) (h2:DVs K H r t):DVs K H (d :: r) (x :: t):=by unfold DVs; exact ⟨x,t,rfl,h,h2⟩
theorem Zeo {a:Addr} {xs:List V} {ds:List Dt} (h:SqT K H a xs) (h2:DVs K H ds xs):DV K H (.tup ds) (.ref a):=by unfold DV; exact ⟨a,xs,rfl,h,h2⟩
theorem Zj4 {a:Addr} {xs:List V} {ds:List Dt} (h:SqL K H a xs) (h2:DVs K H ds xs):DV K H (.lst ds) (.ref a):=by unfold DV; exact ⟨a,xs,rfl,h,h2⟩
end
theorem Zi1 {ns:List V} {m n:Nat}:cutV ns (some (m:Int)) (some (n:Int))=(ns.drop m).take (n - m):=by
  have e:HT.sIx ns.length ns.length (some (n:Int))=min n ns.length:=by
    unfold HT.sIx
    simp only []
    split <;> omega
  have e0:HT.sIx ns.length 0 (some (m:Int))=min m ns.length:=by
    unfold HT.sIx
    simp only []
    split <;> omega
  unfold cutV
  rw [e,e0]
  by_cases h:m <= ns.length
  . rw [Nat.min_eq_left h,List.take_eq_take_iff,List.length_drop]
    omega
  . rw [Nat.min_eq_right (show ns.length <= m by omega),List.drop_length,List.drop_eq_nil_of_le (show ns.length <= m by omega),List.take_nil,List.take_nil]
theorem Zlf {σ σ':St} {H:Hp} {i:Nat} {v:V} {R:St->Hp->Prop} (e:σ.set i (some v)=σ') (q:R σ' H):gName i v σ H R:=by subst e; exact q
theorem ZmJ {σ:St} {H:Hp} {Q:VK} {C:Addr} {sp:Sp} {t:TA} (q:t σ H fun vs H1=>∀ x dx,H1 x=none->H1 dx=none->dx ≠ x->sp (.ref x :: (vs ++ [])) (upd (upd H1 dx (.own x)) x (.ins C dx [])) (fun v H2=>v=.non/\Q (.ref x) H2) E0):tMake C sp [] E0 t σ H Q:=q
theorem Same.made {H H':Hp} {x dx C:Addr} {o:HO} (hx:H x=none) (hd:H dx=none) (k:∀ b u,(upd (upd H dx o) x (.ins C dx [])) b=some u->b ≠ x->H' b=some u):Same H H':=fun b u e =>
  k b u (by rw [Zaj (Zah e hx),Zaj (Zah e hd)]; exact e) (Zah e hx)
end L2
namespace L2
open PySem PySem.Spec PyProof.Rows
noncomputable def Imm (u:HO):Prop:=(∃ xs,u=.tup xs)\/∃ o w,u=.frz o w
noncomputable def SameI (H H':Hp):Prop:=∀ b u,H b=some u->Imm u->H' b=some u
theorem SameI.refl (H:Hp):SameI H H:=fun _ _ h _=>h
theorem SameI.trans {H H1 H2:Hp} (a:SameI H H1) (b:SameI H1 H2):SameI H H2:=fun c u h i=>b c u (a c u h i) i
theorem Same.imm {H H':Hp} (s:Same H H'):SameI H H':=fun b u h _=>s b u h
theorem SameI.upd {H:Hp} {a:Addr} {u o:HO} (h:H a=some u) (n:¬ Imm u):SameI H (upd H a o):=fun b v e i=>by
  rw [Zaj (Za2 e h (fun z=>n (z ▸ i)))]; exact e
theorem SameI.new {H:Hp} {a:Addr} {o:HO} (h:H a=none):SameI H (L2.upd H a o):=(Same.new h).imm
theorem SameI.tup {K:PySem.W.Frag} {H H':Hp} {a:Addr} {xs:List V} (e:SameI H H') (h:SqT K H a xs):SqT K H' a xs:=by
  rcases h with (h|⟨o,h⟩)|h
  . exact .inl (.inl (e _ _ h (.inl ⟨_,rfl⟩)))
  . exact .inl (.inr ⟨o,e _ _ h (.inr ⟨_,_,rfl⟩)⟩)
  . exact .inr h
theorem Zbo {xs:List V}:¬ Imm (.lst xs):=by rintro (⟨_,z⟩|⟨_,_,z⟩) <;> cases z
theorem Zep {kvs:List (Key × V)}:¬ Imm (.dK kvs):=by rintro (⟨_,z⟩|⟨_,_,z⟩) <;> cases z
theorem ZcG {C dx:Addr} {fs:List (Str × V)}:¬ Imm (.ins C dx fs):=by rintro (⟨_,z⟩|⟨_,_,z⟩) <;> cases z
noncomputable def SameND (H H':Hp):Prop:=∀ b u,H b=some u->(∀ kvs,u ≠ .dK kvs)->H' b=some u
theorem SameND.refl (H:Hp):SameND H H:=fun _ _ h _=>h
theorem SameND.trans {H H1 H2:Hp} (a:SameND H H1) (b:SameND H1 H2):SameND H H2:=fun c u h i=>b c u (a c u h i) i
theorem Same.nd {H H':Hp} (s:Same H H'):SameND H H':=fun b u h _=>s b u h
theorem SameND.imm {H H':Hp} (s:SameND H H'):SameI H H':=fun b u h i=>s b u h (by
  rintro kvs rfl
  exact Zep i)
theorem SameND.seq {K:PySem.W.Frag} {H H':Hp} {a:Addr} {xs:List V} (e:SameND H H') (h:SqL K H a xs):SqL K H' a xs:=by
  rcases h with (h|⟨o,h⟩)|h
  . exact .inl (.inl (e _ _ h (by intro _ z; cases z)))
  . exact .inl (.inr ⟨o,e _ _ h (by intro _ z; cases z)⟩)
  . exact .inr h
noncomputable abbrev Row:=Str × Option Int
noncomputable def rowVs:Row->List V
  | (w,none)=>[.str w]
  | (w,some n)=>[.str w,.int n]
noncomputable def rowD:Row->Dt
  | (w,none)=>.tup [.str w]
  | (w,some n)=>.tup [.str w,.int n]
noncomputable def RowAt (K:PySem.W.Frag) (H:Hp) (r:Row) (v:V):Prop:=∃ t,v=.ref t/\SqT K H t (rowVs r)
noncomputable def RowsAt (K:PySem.W.Frag) (H:Hp) (rs:List Row) (xs:List V):Prop:=rs.length=xs.length/\∀ (i:Nat) (r:Row) (x:V),rs[i]?=some r->xs[i]?=some x->RowAt K H r x
theorem RowAt.keep {K:PySem.W.Frag} {H H':Hp} {r:Row} {v:V} (h:RowAt K H r v) (s:SameI H H'):RowAt K H' r v:=let ⟨t,e,q⟩:=h; ⟨t,e,s.tup q⟩
theorem RowsAt.keep {K:PySem.W.Frag} {H H':Hp} {rs:List Row} {xs:List V} (h:RowsAt K H rs xs) (s:SameI H H'):RowsAt K H' rs xs:=⟨h.1,fun i r x h1 h2=>(h.2 i r x h1 h2).keep s⟩
theorem RowsAt.nil {K:PySem.W.Frag} {H:Hp}:RowsAt K H [] []:=⟨rfl,fun i r x h=>by simp at h⟩
theorem RowsAt.tail {K:PySem.W.Frag} {H:Hp} {r:Row} {rs:List Row} {x:V} {xs:List V} (h:RowsAt K H (r :: rs) (x :: xs)):RowAt K H r x/\RowsAt K H rs xs :=
  ⟨h.2 0 r x rfl rfl,by have:=h.1; simpa using this,fun i r' x' h1 h2=>h.2 (i + 1) r' x' (by simpa using h1) (by simpa using h2)⟩
theorem RowsAt.cons {K:PySem.W.Frag} {H:Hp} {r:Row} {rs:List Row} {x:V} {xs:List V} (h1:RowAt K H r x) (h:RowsAt K H rs xs):RowsAt K H (r :: rs) (x :: xs):=by
  refine ⟨by simp [h.1],fun i r' x' e1 e2=>?_⟩
  cases i with
  | zero=>cases e1; cases e2; exact h1
  | succ i=>exact h.2 i r' x' (by simpa using e1) (by simpa using e2)
theorem RowAt.dv {K:PySem.W.Frag} {H:Hp} {r:Row} {v:V} (h:RowAt K H r v):DV K H (rowD r) v:=by
  obtain ⟨t,rfl,q⟩:=h
  obtain ⟨w,o⟩:=r
  cases o with
  | none=>exact Zeo q (Zao Zdc Zbq)
  | some n=>exact Zeo q (Zao Zdc (Zao ZaQ Zbq))
theorem RowsAt.dvs {K:PySem.W.Frag} {H:Hp}:∀ {rs:List Row} {xs:List V},RowsAt K H rs xs->DVs K H (rs.map rowD) xs
  | [],[],_=>Zbq
  | r :: rs,x :: xs,h=>Zao h.tail.1.dv h.tail.2.dvs
  | [],x :: xs,h=>by have:=h.1; simp at this
  | r :: rs,[],h=>by have:=h.1; simp at this
noncomputable def putFn (f:Int->Int) (i v:Int):Int->Int:=fun j=>if j=i then v else f j
noncomputable def DictF (H:Hp) (d:Addr) (f:Int->Int) (m:Nat):Prop:=∃ kvs,H d=some (.dK kvs)/\kvs.length <= m/\∀ i:Int,(valV kvs (Sum.inl i:Key)).getD (.int 0)=.int (f i)
noncomputable def StoreAt (H:Hp) (d:Addr) (f:Int->Int) (m:Nat):Prop:=∃ kvs,H d=some (.dK kvs)/\kvs.length <= m/\(kvs.map (·.1)).Nodup/\(∀ p ∈ kvs,∃ i n:Int,p=(Sum.inl i,.int n)/\n ≠ 0)/\∀ i:Int,(valV kvs (Sum.inl i:Key)).getD (.int 0)=.int (f i)
theorem DictF.put {H:Hp} {d:Addr} {kvs:List (Key × V)} {f:Int->Int} {m:Nat} (hl:kvs.length <= m) (hf:∀ i:Int,(valV kvs (Sum.inl i:Key)).getD (.int 0)=.int (f i)) (i v:Int):DictF (upd H d (.dK (putK kvs (Sum.inl i) (.int v)))) d (putFn f i v) (m + 1):=by
  refine ⟨_,Zag,Nat.le_trans (ZbQ ..) (Nat.add_le_add_right hl 1),fun j=>?_⟩
  rw [Zfl]
  unfold putFn
  by_cases e:j=i
  . subst e
    rw [if_pos rfl,if_pos rfl]
    rfl
  . rw [if_neg (fun z=>e (Sum.inl.inj z)),if_neg e]
    exact hf j
theorem Zgx {κ:Type} [DecidableEq κ] (k j:κ):∀ kvs:List (κ × V),valV (dropK kvs k) j=if j=k then none else valV kvs j
  | []=>by
    have:dropK ([]:List (κ × V)) k=[]:=rfl
    rw [this,ZkY]
    split <;> rfl
  | p :: r=>by
    have ih:=Zgx k j r
    by_cases e:p.1=k
    . rw [Zgs e,ih]
      by_cases z:j=k
      . rw [if_pos z,if_pos z]
      . rw [if_neg z,if_neg z,Zbh (fun q=>z (q.symm.trans e))]
    . rw [Zgt e]
      by_cases q:p.1=j
      . rw [Zbn q,Zbn q,if_neg (fun z=>e (q.trans z))]
      . rw [Zbh q,Zbh q,ih]
theorem Zj5 {κ:Type} [DecidableEq κ] {kvs:List (κ × V)} {k:κ} (v:V) (hn:(kvs.map (·.1)).Nodup):((putK kvs k v).map (·.1)).Nodup:=by
  cases e:valV kvs k with
  | none=>exact Zml v hn e
  | some u =>
    have hk:(kvs.any fun kv=>decide (kv.1=k))=true:=by rw [Zb9,e]; rfl
    unfold putK
    rw [if_pos hk,List.map_map]
    have:((fun x:κ × V=>x.1) ∘ fun kv:κ × V=>if kv.1=k then (kv.1,v) else kv)=fun x=>x.1:=by
      funext x
      show (if x.1=k then (x.1,v) else x).1=x.1
      split <;> rfl
    rw [this]
    exact hn
theorem Zlg {κ:Type} [DecidableEq κ] {kvs:List (κ × V)} {k:κ} {v:V} {p:κ × V} (h:p ∈ putK kvs k v):p=(k,v)\/p ∈ kvs:=by
  unfold putK at h
  split at h
  . obtain ⟨q,hq,e⟩:=List.mem_map.mp h
    by_cases z:q.1=k
    . rw [if_pos z] at e; left; rw [<- e,z]
    . rw [if_neg z] at e; right; rw [<- e]; exact hq
  . rcases List.mem_append.mp h with h|h
    . exact .inr h
    . exact .inl (List.mem_singleton.mp h)
theorem StoreAt.put {H:Hp} {d:Addr} {kvs:List (Key × V)} {f:Int->Int} {m:Nat} (hl:kvs.length <= m) (hn:(kvs.map (·.1)).Nodup) (hz:∀ p ∈ kvs,∃ i n:Int,p=(Sum.inl i,.int n)/\n ≠ 0) (hf:∀ i:Int,(valV kvs (Sum.inl i:Key)).getD (.int 0)=.int (f i)) (i v:Int) (hv:v ≠ 0) :
    StoreAt (upd H d (.dK (putK kvs (Sum.inl i) (.int v)))) d (putFn f i v) (m + 1):=by
  obtain ⟨kvs',e1,e2,e3⟩:=DictF.put (H:=H) (d:=d) hl hf i v
  rw [Zag] at e1
  cases e1
  refine ⟨_,Zag,e2,Zj5 _ hn,fun p hp=>?_,e3⟩
  rcases Zlg hp with rfl|hp
  . exact ⟨i,v,rfl,hv⟩
  . exact hz p hp
theorem StoreAt.drop {H:Hp} {d:Addr} {kvs:List (Key × V)} {f:Int->Int} {m:Nat} (hl:kvs.length <= m) (hn:(kvs.map (·.1)).Nodup) (hz:∀ p ∈ kvs,∃ i n:Int,p=(Sum.inl i,.int n)/\n ≠ 0) (hf:∀ i:Int,(valV kvs (Sum.inl i:Key)).getD (.int 0)=.int (f i)) (i:Int) :
    StoreAt (upd H d (.dK (dropK kvs (Sum.inl i)))) d (putFn f i 0) (m + 1):=by
  refine ⟨_,Zag,Nat.le_trans (Zfm ..) (Nat.le_trans hl (Nat.le_succ _)),Zfp hn,fun p hp=>hz p (Zgu hp),fun j=>?_⟩
  rw [Zgx]
  unfold putFn
  by_cases e:j=i
  . subst e
    rw [if_pos rfl,if_pos rfl]
    rfl
  . rw [if_neg (fun z=>e (Sum.inl.inj z)),if_neg e]
    exact hf j
theorem StoreAt.same {H H':Hp} {d:Addr} {f:Int->Int} {m:Nat} (h:StoreAt H d f m) (e:H' d=H d):StoreAt H' d f m:=let ⟨kvs,a,b⟩:=h; ⟨kvs,e.trans a,b⟩
theorem DictF.same {H H':Hp} {d:Addr} {f:Int->Int} {m:Nat} (h:DictF H d f m) (e:H' d=H d):DictF H' d f m:=let ⟨kvs,a,b⟩:=h; ⟨kvs,e.trans a,b⟩
theorem StoreAt.le {H:Hp} {d:Addr} {f:Int->Int} {m m':Nat} (h:StoreAt H d f m) (e:m <= m'):StoreAt H d f m':=let ⟨kvs,a,b,c⟩:=h; ⟨kvs,a,Nat.le_trans b e,c⟩
theorem DictF.le {H:Hp} {d:Addr} {f:Int->Int} {m m':Nat} (h:DictF H d f m) (e:m <= m'):DictF H d f m':=let ⟨kvs,a,b,c⟩:=h; ⟨kvs,a,Nat.le_trans b e,c⟩
section
variable {σ:St} {H:Hp} {Q:VK} {a:Addr} {kvs:List (Key × V)}
theorem Zlh {td ty tx:TE} (q:td σ H fun x H1=>∃ a,x=.ref a/\IsD H1 a/\ty σ H1 fun y H2=>tx σ H2 fun z H3=>∃ kvs k,H3 a=some (.dK kvs)/\y=kV k/\(∀ v,valV kvs k=some v->Q v (upd H3 a (.dK (dropK kvs k))))/\(valV kvs k=none->Q z H3)):tDPop2 td ty tx σ H Q:=q
end
end L2
namespace L2
open PySem PySem.Spec PyProof.Rows
section
variable {σ:St} {H:Hp} {K:PySem.W.Frag} {a l:Addr} {xs:List V} {n:Nat} {t:TGs} {Q:St->Hp->Prop} {v:V} {r:List V} {g:TG} {u:TGs}
theorem ZmK (h:SqT K H a xs) (hl:xs.length=n) (q:t xs σ H Q):gTup K n t (.ref a) σ H Q:=⟨a,xs,rfl,h,hl,q⟩
theorem Zli (q:g v σ H fun σ' H'=>u r σ' H' Q):gCons g u (v :: r) σ H Q:=⟨v,r,rfl,q⟩
theorem ZmL (q:Q σ H):gNil [] σ H Q:=⟨rfl,q⟩
end
end L2
namespace L2
open PySem PySem.Spec PyProof.Rows
section
variable {σ:St} {H:Hp} {p a:Addr} {K:PySem.W.Frag} {xs:List V}
noncomputable def compNx (Pv:Nat->Hp->Prop) (i:Nat) (σ:St):St->Hp->Prop:=fun σ2 H2=>Pv i H2/\∃ v,σ2=v :: σ
theorem Zeq {tc:TT} {te:TE} {R:Hp->Prop} (Pv:Nat->Hp->Prop) (h0:Pv 0 (upd H p (.lst []))) (hl:∀ i H',Pv i H'->SqL K H' a xs)
    (hs:∀ (i:Nat) (x:V) (H':Hp),xs[i]?=some x->Pv i H'->tc (some x :: σ) H' fun b H1=>if b=true then te (some x :: σ) H1 fun y H2=>∃ ys,H2 p=some (.lst ys)/\ys.length < sizeLine/\compNx Pv (i + 1) σ (some x :: σ) (upd H2 p (.lst (ys ++ [y]))) else compNx Pv (i + 1) σ (some x :: σ) H1)
    (fin:∀ H',Pv xs.length H'->R H'):tLoopC 1 (gName 0) tc te (Itl K a) p R σ H:=by
  refine ⟨fun i m σ' H'=>m=xs.length - i/\i <= xs.length/\Pv i H'/\∃ v,σ'=v :: σ,⟨xs.length,by omega,Nat.zero_le _,h0,none,rfl⟩,?_⟩
  rintro i m σ' H' ⟨rfl,hi,hp,v,rfl⟩
  have hs':=hl i H' hp
  by_cases hlt:i < xs.length
  . refine .inr ⟨⟨xs,xs[i],hs',by simp [hlt]⟩,compNx Pv (i + 1) σ,fun σ2 H2 ⟨e,v',e'⟩=>⟨xs.length - (i + 1),by omega,rfl,hlt,e,v',e'⟩,fun x H1 ⟨e,y⟩=>?_⟩
    subst e
    have hx:=y xs hs'
    refine ZjP ?_
    simp only [List.set_cons_zero]
    exact hs i x _ hx hp
  . have e:i=xs.length:=by omega
    subst e
    exact .inl ⟨⟨xs,hs',Nat.le_refl _⟩,fin H' hp⟩
theorem Zhq {σ:St} {H:Hp} {R:Bool->Hp->Prop} (q:R true H):tNoIf σ H R:=q
end
theorem RowsAt.snoc {K:PySem.W.Frag} {H:Hp} {rs:List Row} {xs:List V} {r:Row} {x:V} (h:RowsAt K H rs xs) (h1:RowAt K H r x):RowsAt K H (rs ++ [r]) (xs ++ [x]):=by
  refine ⟨by simp [h.1],fun i r' x' e1 e2=>?_⟩
  by_cases hi:i < rs.length
  . rw [List.getElem?_append_left hi] at e1
    rw [List.getElem?_append_left (by rw [<- h.1]; exact hi)] at e2
    exact h.2 i r' x' e1 e2
  . have hi2:i=rs.length:=by
      have:=(List.getElem?_eq_some_iff.mp e1).1
      simp at this
      omega
    subst hi2
    rw [List.getElem?_append_right (Nat.le_refl _),Nat.sub_self] at e1
    rw [List.getElem?_append_right (by rw [h.1]; exact Nat.le_refl _),h.1,Nat.sub_self] at e2
    cases e1
    cases e2
    exact h1
theorem RowsAt.ins {K:PySem.W.Frag} {H:Hp} {rs:List Row} {xs:List V} {r:Row} {x:V} (h:RowsAt K H rs xs) (h1:RowAt K H r x) (k:Nat):RowsAt K H (rs.take k ++ r :: rs.drop k) (xs.take k ++ x :: xs.drop k):=by
  have ht:RowsAt K H (rs.take k) (xs.take k):=⟨by simp [h.1],fun i r' x' e1 e2=>by
    rw [List.getElem?_take] at e1 e2
    split at e1
    . rename_i hk
      rw [if_pos hk] at e2
      exact h.2 i r' x' e1 e2
    . cases e1⟩
  have hd:RowsAt K H (r :: rs.drop k) (x :: xs.drop k):=.cons h1 ⟨by simp [h.1],fun i r' x' e1 e2=>by
    rw [List.getElem?_drop] at e1 e2
    exact h.2 _ r' x' e1 e2⟩
  refine ⟨by rw [List.length_append,List.length_append,ht.1,hd.1],fun i r' x' e1 e2=>?_⟩
  by_cases hi:i < (rs.take k).length
  . rw [List.getElem?_append_left hi] at e1
    rw [List.getElem?_append_left (by rw [<- ht.1]; exact hi)] at e2
    exact ht.2 i r' x' e1 e2
  . rw [List.getElem?_append_right (by omega)] at e1
    rw [List.getElem?_append_right (by rw [<- ht.1]; omega),<- ht.1] at e2
    exact hd.2 _ r' x' e1 e2
end L2
namespace L2
open PySem PySem.Spec PyProof.Rows PySem.Calls PySem.W
section
variable {Pr:Program} {wo:World} {Ar:Around} {Ex:Value->Shared->Prop} {sh:Shared} {Ty:String} {ro di:Addr} {cnt:Nat} {Pp:Nat->Value->Prop} {Okd:Heap->Prop}
end
theorem Zlj:∀ {ns:List Int} {us:List Value},Vals (ns.map V.int) us->IntsAre us ns:=by
  intro ns
  induction ns with
  | nil=>intro us h; cases h; exact .nil
  | cons n r ih =>
    intro us h
    cases h with
    | cons a b =>
      obtain ⟨t,rfl⟩:=a
      exact .cons _ _ (ih b)
section
variable {K:PySem.W.Frag} {H:Hp} {Q:VK} {d:Addr} {ns:List Int}
end
section
variable {K:PySem.W.Frag} {H:Hp} {Q:VK} {t l b:Addr}
end
end L2
namespace L2
open PySem PySem.Builtin PySem.Builtin.Str PySem.StrLaws
noncomputable def Gap (w:Nat):List Nat->Prop
  | []=>True
  | [_]=>True
  | a :: b :: r=>a + w <= b/\Gap w (b :: r)
theorem Gap.tail {w a:Nat} {r:List Nat} (h:Gap w (a :: r)):Gap w r:=by
  cases r with
  | nil=>trivial
  | cons b r=>exact h.2
theorem Gap.ge {w a:Nat}:∀ {r:List Nat},Gap w (a :: r)->∀ b ∈ r,a + w <= b
  | [],_,b,hb=>by simp at hb
  | c :: r,h,b,hb=>by
    rcases List.mem_cons.mp hb with rfl|hb
    . exact h.1
    . have:=Gap.ge (r:=r) h.2 b hb
      have:=h.1
      omega
end L2
namespace L2
open PySem PySem.Builtin PySem.Builtin.Str PySem.StrLaws
end L2
namespace L2
open PySem PySem.Spec PyProof.Rows
section
variable {X:Cx} {pins:List (Addr × Obj)} {σ:St} {H:Hp} {s:Shared} {a:Addr} {o:Obj} {kvs:List (Key × V)}
end
end L2
namespace L2
open PySem PySem.Spec PyProof.Rows
section
variable {σ:St} {H:Hp} {Q:VK} {D:Ends} {td:TE} {g:TG} {tc:TT} {te:TE} {tb:TS} {k:Nat} {a:Addr} {o:Obj} {kvs:List (Key × V)} {p:Addr}
theorem DGet.frz {k:Key} (e:H a=some (.frz o (.dK kvs))):DGet H a (kV k) (valV kvs k):=.inl ⟨kvs,k,.inr ⟨o,e⟩,rfl,rfl⟩
end
section
variable {K:PySem.W.Frag} {σ:St} {H:Hp} {D:Ends} {a C dx:Addr} {fs:List (Str × V)} {f:Str} {i j:Int}
theorem Zj6 {ta tv:TE} {rd:V->V->Hp->VK->Prop} (q:ta σ H fun x H1=>∃ a C dx fs v,x=.ref a/\H1 a=some (.ins C dx fs)/\Cls K C/\NoAttr K C f/\fs.lookup f=some v/\tv σ H1 fun y H2=>rd v y H2 fun z H3=>∃ dx' fs',H3 a=some (.ins C dx' fs')/\fs'.length < 1000/\D.nx σ (upd H3 a (.ins C dx' (putF f z fs')))):ZjA K ta tv rd f D σ H:=q
theorem Zdd {v:V} {R:Addr->Addr->V->Prop} (h:H a=some (.ins C dx fs)) (c:Cls K C) (n:NoAttr K C f) (l:fs.lookup f=some v) (q:R a C v):∃ a' C dx fs v,V.ref a=.ref a'/\H a'=some (.ins C dx fs)/\Cls K C/\NoAttr K C f/\fs.lookup f=some v/\R a' C v:=⟨a,C,dx,fs,v,rfl,h,c,n,l,q⟩
theorem ZmM {Q:VK} (q:Q (.int (i + j)) H):rAdd (.int i) (.int j) H Q:=⟨i,j,rfl,rfl,q⟩
theorem ZmN {Q:VK} (q:Q (.int (i - j)) H):rSub (.int i) (.int j) H Q:=⟨i,j,rfl,rfl,q⟩
end
end L2
namespace L2
open PySem PySem.Spec PyProof.Rows
noncomputable def rSum (K:PySem.W.Frag):RC:=fun xs H Q=>∃ (p:Addr) (ns:List Int),xs=[.ref p]/\SqL K H p (ns.map V.int)/\Q (.int ns.sum) H
theorem ZlW {X:Cx} (hc:X.calm=true):CallR X (.builtin "sum") (rSum X.K):=by
  intro pins s σ H xs us Q I r h
  obtain ⟨p,ns,rfl,hq,q⟩:=h
  obtain ⟨u,rfl,rx⟩:=vals1 r
  cases rx
  obtain ⟨its,rv,pl,hz⟩:=I.list hq
  have hi:=Zlj rv
  have hl:s.heap.IsList p its.toArray:=pl.isList
  obtain ⟨zs,hx⟩:=hi.allInts.items
  have hn:numsOf its.toArray.toList=ns:=by rw [show its.toArray.toList=its from rfl,hi.numsOf]
  rw [hx] at hl hn
  rw [nums_intItems] at hn
  refine sum_intListG (I.ok.hd hc) hl fun h' tk t' kp=>?_
  rw [preSum_eq,List.take_of_length_le (by simp),hn]
  exact ⟨.int ns.sum,H,I.kept (t':=tk) kp,⟨t',rfl⟩,q⟩
theorem rd_sum {K:PySem.W.Frag} {H:Hp} {Q:VK} {p:Addr} {ns:List Int} (h:SqL K H p (ns.map V.int)) (q:Q (.int ns.sum) H):rSum K [.ref p] H Q:=⟨p,ns,rfl,h,q⟩
end L2
namespace L2
open PySem PySem.Spec PyProof.Rows PySem.Calls
section
variable {H:Hp} {Q:VK} {σ:St}
end
section
variable {H:Hp} {Q:VK} {σ:St} {K:PySem.W.Frag} {p a:Addr} {xs ys:List V}
end
end L2
namespace L2
open PySem PySem.Spec PyProof.Rows PySem.Calls
theorem KV.at {kvs:List (Key × V)} {vs:List (Key × Value)}:KV kvs vs->∀ {i:Nat} {p:Key × V},kvs[i]?=some p->∃ u,vs[i]?=some (p.1,u)/\RelV p.2 u:=by
  intro h
  unfold KV at h
  induction h with
  | nil=>intro i p e; simp at e
  | @cons a b as bs ab _ ih =>
    intro i p e
    cases i with
    | zero =>
      cases e
      refine ⟨b.2,?_,ab.2⟩
      rw [ab.1]
      rfl
    | succ i=>exact ih (by simpa using e)
section
variable {σ:St} {H:Hp} {Q:VK} {D:Ends} {td:TE} {g:TG} {tb:TS} {a:Addr} {o:Obj} {kvs:List (Key × V)}
end
section
variable {σ:St} {H:Hp} {Q:VK}
end
end L2
namespace L2
open PySem PySem.Spec PyProof.Rows PySem.Calls
structure Fly (base h:Heap) (e T:Addr) (cls:Value):Prop where
  x:∃ oe vs oT ts,h.get? e=some oe/\oe.cls=cls/\oe.data=.fields vs/\vs[1]?=some (.ref T)/\h.get? T=some oT/\oT.data=.fields ts/\ts[3]?=some .none
  nT:base.get? T=none
  ne:T ≠ e
  dn:∀ o,h.get? e=some o->o.dict=none
structure Gone (base:Heap) (l:List Env) (e:Addr) (cls:Value) (ch:List Addr) (h h':Heap):Prop where
  st:base.StaysIn h'
  fr:h'.FunFrames base l
  fly:∃ T,Fly base h' e T cls/\(T ∈ ch\/h.objs.size <= T)
  keep:∀ b o,b ∉ l.filterMap (·.frame)->b ≠ e->b ∉ ch->h.get? b=some o->h'.get? b=some o
  slot:∀ b o,b ∈ l.filterMap (·.frame)->h.get? b=some o->∃ sl,h'.get? b=some { o with slots:=sl }
section
variable {M:Model} {A:Around} {E:Value->Shared->Prop} {s:Shared} {base:Heap} {env:Env} {outer:List Env} {L e:Addr} {Q:Unit->Shared->Prop}
end
noncomputable def CXE (P:Program) (w:World) (base:Heap):CXT:=fun outer H s E e s'=>∃ (a T C:Addr) (H':Hp),e=.ref a/\Fly base s'.heap a T (.ref C)/\base.get? a=none/\H' a=none/\H' T=none/\s.heap.get? a=none/\s.heap.get? T=none /\
  s'.os=s.os/\AllBare s'.gens/\Un (frs outer) [] H H' s.heap s'.heap/\HOk P w H' s'.heap/\E e (some C) H'
theorem ObjOk.is {P:Program} {w:World} {H:Hp} {h:Heap} {a:Addr} {o:HO} (x:ObjOk P w H h a o):∃ q,h.get? a=some q:=by
  cases o with
  | lst xs=>obtain ⟨_,_,_,_,e⟩:=x; exact ⟨_,e⟩
  | tup xs=>obtain ⟨_,_,_,p⟩:=x; obtain ⟨_,e,_⟩:=p; exact ⟨_,e⟩
  | dK kvs=>obtain ⟨_,_,_,_,o,_,_,e,_⟩:=x; exact ⟨_,e⟩
  | dT kvs=>obtain ⟨_,_,_,_,o,_,_,e,_⟩:=x; exact ⟨_,e⟩
  | set S n=>obtain ⟨o,_,_,_,e,_⟩:=x; exact ⟨_,e⟩
  | ins C dx fs=>obtain ⟨_,_,_,e,_⟩:=x; exact ⟨_,e⟩
  | own y=>exact x
  | xd fs=>obtain ⟨_,⟨_,_,_,e,_⟩,_⟩:=x; exact ⟨_,e⟩
  | rng lo hi=>obtain ⟨_,_,_,e⟩:=x; exact ⟨_,e⟩
  | frz ob u=>exact ⟨_,x.1⟩
  | tbl ps=>exact ⟨_,x⟩
  | met f y=>exact ⟨_,x⟩
  | ext φ=>exact x.2.1
section
variable {X:Cx} {pins:List (Addr × Obj)} {σ:St} {H':Hp} {s':Shared} {h':Heap} {a:Addr} {cls:Value} {ch:List Addr}
end
end L2
namespace L2
open PySem PySem.Spec PyProof.Rows PySem.Calls
noncomputable def CalE (P:Program) (w:World) (K:PySem.W.Frag) (mg:Str->Option Value) (base:Heap) (k:Nat) (x:Str) (sp:Sp):Prop :=
  ∃ f,mg x=some (.ref f)/\∃ fd ps,FnOk P w K mg base (CXE P w base) k f fd ps sp/\PySem.W.keepIn K (.ref f)=true/\Binds K fd ps []
theorem CalE.mono {P:Program} {w:World} {K:PySem.W.Frag} {mg:Str->Option Value} {base:Heap} {j k:Nat} {x:Str} {sp:Sp} (c:CalE P w K mg base j x sp) (h:j <= k):CalE P w K mg base k x sp :=
  let ⟨f,m,fd,ps,F,kp,b⟩:=c
  ⟨f,m,fd,ps,F.mono h,kp,b⟩
section
variable {X:Cx} {pins pins':List (Addr × Obj)} {σ σ':St} {H:Hp} {s:Shared} {E:XK}
end
section
variable {X:Cx} {pins pins':List (Addr × Obj)} {σ:St} {H:Hp} {s s':Shared} {E:XK} {e:Value}
end
end L2
namespace L2
open PySem PySem.Spec PyProof.Rows PySem.Calls
end L2
namespace L2
open PySem PySem.Spec PyProof.Rows PySem.Calls
theorem Zhr:typeLookup (.type "list_reverseiterator") "__length_hint__" = pure (some (.builtin "list_reverseiterator.__length_hint__")):=by
  rw [typeLookup_type,builtinLookup_eq_fast]
  kernel_rfl
theorem ZmO:typeLookup (.type "list_reverseiterator") "__len__" = pure none:=by
  rw [typeLookup_type,builtinLookup_eq_fast]
  kernel_rfl
section
variable {prog:Program} {w:World} {A:Around} {E:Value->Shared->Prop} {s:Shared} {r:Addr}
theorem Zlk {Q:Bool->Shared->Prop} (hT:s.TypeIs (.ref r) "list_reverseiterator") (h:Q false s):wpAny (model prog w) A (Builtin.List.listLengthHint (.ref r)) Q E s:=by
  unfold Builtin.List.listLengthHint
  refine wpAny_bind (wpAny_specialOf hT ZmO ?_)
  dsimp only
  refine wpAny_ite_split (fun hab=>absurd hab (by decide)) (fun _=>?_)
  refine wpAny_ite_split (fun hab=>absurd hab (by decide)) (fun _=>?_)
  refine wpAny_bind (wpAny_specialOf hT Zhr ?_)
  generalize hid:("list_reverseiterator.__length_hint__" : String)=id0
  wp_delta
  rw [show splitId id0=some ("list_reverseiterator", "__length_hint__") from by subst hid; decide +kernel]
  subst hid
  refine wpAny_bind (wpAny_isInstance (T := "list_reverseiterator") (b:=true) hT (by rw [isSubtype_type]; kernel_rfl) ?_)
  refine wpAny_ite_split (fun hab=>absurd hab (by decide)) (fun _=>?_)
  refine wpAny_ite_split (fun _=>?_) (fun hab=>absurd (by decide +kernel) hab)
  refine wpAny_ite_split (fun hab=>absurd hab (by decide)) (fun _=>?_)
  exact wpAny_pure h
theorem Zfu {l:Addr} {items:Array Value} {Q:Value->Shared->Prop} (hh:A.handled=none) (hit:s.heap.IsRevIter r l ((items.size:Int) - 1)) (hl:s.heap.IsList l items) (hlr:l ≠ r) (hn:items.size <= sizeLine)
    (hQ:∀ h' tk acc c,(∀ b o,b ≠ r->s.heap.get? b=some o->h'.get? b=some o)->h'.get? s.heap.objs.size=some { cls:=.type "list", dict:=none,data:=.seq acc c,slots:=#[] } ->
      ItemsOf (fun i v=>items[items.size - 1 - i]?=some v) acc items.size->Q (.ref s.heap.objs.size) { s with heap:=h',toks:=tk }):wpAny (model prog w) A (call (.type "list") [.ref r]) Q E s:=by
  refine callType_codes (Q₁:=fun obj s₁=>s₁={ s with heap:=s.heap.push { cls:=.type "list", data:=.seq #[] } }/\obj=.ref s.heap.objs.size) PySem.F.called_list (PySem.F.typeCall_list_1 _) PySem.F.entry_list_init (code_list_new _ ⟨rfl,rfl⟩) ?_
  rintro obj s₁ ⟨rfl,rfl⟩
  have hS:(s.heap.push { cls:=.type "list", data:=.seq #[] }).get? s.heap.objs.size=some { cls:=.type "list", data:=.seq #[] }:=Heap.get?_push_size _ rfl
  have rlt:r < s.heap.objs.size:=by obtain ⟨o,e,_⟩:=hit; exact Heap.lt_size e
  have llt:l < s.heap.objs.size:=by obtain ⟨o,e,_⟩:=hl; exact Heap.lt_size e
  generalize hz:s.heap.objs.size=S at hS rlt llt hQ |-
  have hSr:S ≠ r:=Nat.ne_of_gt rlt
  have hSl:S ≠ l:=Nat.ne_of_gt llt
  refine ⟨⟨_,hS,rfl⟩,PySem.F.args_list_init_2 _ _,?_⟩
  have up1:∀ b o,s.heap.get? b=some o->(s.heap.push { cls:=.type "list", data:=.seq #[] }).get? b=some o:=fun b o e=>Heap.get?_push_of_some _ e
  generalize s.heap.push { cls:=.type "list", data:=.seq #[] }=h1 at hS up1 |-
  show wpAny _ _ (Builtin.List.listItems (.ref S) >>= fun old=>Builtin.List.listUpdate (.ref S) (fun _=>#[]) >>= fun _=>letGo old.toList.reverse >>= fun _=>Builtin.List.listExtendWith (.ref S) (.ref r) .none) _ _ _
  unfold Builtin.List.listItems
  refine wpAny_bind (wpAny_bind (wpAny_seqItems hS rfl (wpAny_pure ?_)))
  refine wpAny_bind (wpAny_updateSeq hS rfl ?_)
  have hS2:=Heap.get?_update_self (Obj.mapSeq (fun _=>(#[]:Array Value))) hS rfl
  have up2:∀ b o,b ≠ S->h1.get? b=some o->(h1.update S (Obj.mapSeq (fun _=>(#[]:Array Value)))).get? b=some o:=fun b o hb e=>by
    rw [Heap.get?_update_other _ _ (Ne.symm hb)]
    exact e
  generalize h1.update S (Obj.mapSeq (fun _=>(#[]:Array Value)))=h2 at hS2 up2 |-
  refine wpAny_bind (wpAny_letGo ?_)
  have it2:h2.IsRevIter r l ((items.size:Int) - 1):=hit.at fun o e=>up2 _ _ (Ne.symm hSr) (up1 _ _ e)
  have l2:h2.IsList l items:=hl.at fun o e=>up2 _ _ (Ne.symm hSl) (up1 _ _ e)
  have ty2:({ s with heap:=h2 }:Shared).TypeIs (.ref r) "list_reverseiterator" := Heap.IsRevIter.typeIs (s:={ s with heap:=h2 }) it2
  unfold Builtin.List.listExtendWith
  refine wpAny_bind (wpAny_typeOf ty2 ?_)
  have ns:Builtin.List.listSameRef (.ref S) (.ref r)=false:=by simp [Builtin.List.listSameRef,hSr]
  rw [ns]
  refine wpAny_ite_split (fun hab=>absurd hab (by decide)) (fun _=>?_)
  refine wpAny_bind (wpAny_pyIter_revIter (s:={ s with heap:=h2 }) it2 ?_)
  refine wpAny_bind (wpAny_holding (Zlk ty2 ?_))
  refine wpAny_ite_split (fun hab=>absurd hab (by decide)) (fun _=>?_)
  have W:=fun B:Around=>fun (hB:B.handled=none)=>Walks.listRev (prog:=prog) (w:=w) (A:=B) hB r l hlr items
  have e0:(items.size:Int) - 1 - ((0:Nat):Int)=(items.size:Int) - 1:=by omega
  refine wpAny_pure ⟨plainId_quiet PySem.F.plain_extend_loop _,codeAny_extend_loopS (W A.in1.in1 hh).toS hn S ?_ .none items.size 0 _ #[] _ rfl (Nat.zero_le _) ⟨Nat.zero_le _,by rw [e0]; exact it2,l2⟩ hS2 (ItemsOf.nil _) fun s' acc c mv hS' ok=>?_⟩
  . simp [hSr,hSl]
  . rw [Moved.eq_with mv]
    refine ⟨rfl,hQ s'.heap s'.toks acc c (fun b o hb e=>?_) hS' ok⟩
    have hbS:b ≠ S:=by rw [<- hz]; exact Nat.ne_of_lt (Heap.lt_size e)
    exact mv.heap b o (by simp [hb,hbS]) (up2 b o hbS (up1 b o e))
end
noncomputable def Zix (K:PySem.W.Frag) (ta:TA):TE:=fun σ H Q=>ta σ H fun vs H1=>∃ b xs,vs=[.ref b]/\SqL K H1 b xs/\∀ l,H1 l=none->Q (.ref l) (upd H1 l (.lst xs.reverse))
theorem Zi2 {K:PySem.W.Frag} {ta:TA} {σ:St} {H:Hp} {Q:VK} (q:ta σ H fun vs H1=>∃ b xs,vs=[.ref b]/\SqL K H1 b xs/\∀ l,H1 l=none->Q (.ref l) (upd H1 l (.lst xs.reverse))):Zix K ta σ H Q:=q
theorem Zj7:∀ (xs:List V) (us:List Value),xs.length=us.length->(∀ (j:Nat) (x:V) (u:Value),xs[j]?=some x->us[j]?=some u->RelV x u)->Vals xs us
  | [],[],_,_=>.nil
  | [],_ :: _,h,_=>by simp at h
  | _ :: _,[],h,_=>by simp at h
  | x :: xs,u :: us,h,g=>.cons (g 0 x u rfl rfl) (Zj7 xs us (by simpa using h) fun j y v h1 h2=>g (j + 1) y v (by simpa using h1) (by simpa using h2))
theorem Zi3 {X:Cx} {a:Expr} {ta:TA} {p p2 pos pos2:Pos} (hc:X.calm=true) (hgl:Gl X "list") (hml:X.mg "list" = none) (hgr:Gl X "reversed") (hmr:X.mg "reversed" = none) (ha:PA X [a] ta) (hs:starEach [a] X.env=[(false,eval a X.env)]:=by rfl)
    (hs2:starEach [.Call (.Name "reversed" p2) [a] [] pos2] X.env=[(false,eval (.Call (.Name "reversed" p2) [a] [] pos2) X.env)]:=by rfl):PE X (.Call (.Name "list" p) [.Call (.Name "reversed" p2) [a] [] pos2] [] pos) (Zix X.K ta):=by
  intro pins s σ H Q I h
  refine Call_ (Ze2 I hgl hml boot_list (PyProof.Rows.callWith_type1 (PyProof.Rows.spliced_more (Call_ (Ze2 I hgr hmr boot_reversed (PyProof.Rows.callWith_type1 (thn (ha pos2 pins s σ H _ I h) fun us s1 ⟨vs,H1,I1,r1,q1⟩=>?_) hs rfl))) hs2) hs2 rfl))
  obtain ⟨l,xs,e,hq,q⟩:=q1
  subst e
  cases r1 with
  | cons r rr =>
    cases rr
    cases r
    obtain ⟨its,rv,pl,hz⟩:=I1.list hq
    refine call_reversed_list pl.isList ?_
    have en:its.toArray.size=xs.length:=by rw [List.size_toArray,rv.length]
    have st:(s1.heap.push (revObj l ((its.toArray.size:Int) - 1))).IsRevIter s1.heap.objs.size l ((its.toArray.size:Int) - 1):=⟨_,Heap.get?_push_size _ rfl,rfl,rfl⟩
    have llt:l < s1.heap.objs.size:=by obtain ⟨_,e,_⟩:=pl.isList; exact Heap.lt_size e
    refine PyProof.Rows.spliced_none ?_
    refine Zfu (s:={ s1 with heap:=s1.heap.push (revObj l ((its.toArray.size:Int) - 1)) }) (I1.ok.hd hc) st (pl.isList.at fun o e=>Heap.get?_push_of_some _ e) (Nat.ne_of_lt llt) (by rw [en]; exact hz) fun h' tk acc c kp hS ok=>?_
    have ge:s1.heap.objs.size <= (s1.heap.push (revObj l ((its.toArray.size:Int) - 1))).objs.size:=by rw [Heap.size_push]; exact Nat.le_succ _
    refine ⟨.ref _,_,I1.laid (t':=tk) (h':=h') (o:=.lst xs.reverse) (fun b u e=>kp b u (Nat.ne_of_lt (Heap.lt_size e)) (Heap.get?_push_of_some _ e)) ge ?_,rfl,q _ (I1.hok.fresh ge)⟩
    refine ⟨by rw [List.length_reverse]; exact hz,acc.toList,c,Zj7 _ _ ?_ fun j x u h1 h2=>?_,hS⟩
    . have k1:=ok.1
      have k2:acc.toList.length=acc.size:=Array.length_toList
      have k3:xs.reverse.length=xs.length:=List.length_reverse
      omega
    . have h3:=ok.2 j u (by rw [<- Array.getElem?_toList]; exact h2)
      have hj:j < xs.length:=by
        have:=(List.getElem?_eq_some_iff.mp h1).1
        rwa [List.length_reverse] at this
      rw [List.getElem?_reverse hj] at h1
      rw [en] at h3
      obtain ⟨v,hv,rr⟩:=rv.get h1
      have h4:its[xs.length - 1 - j]?=some u:=by simpa using h3
      rw [hv] at h4
      cases h4
      exact rr
noncomputable abbrev Exc (x:Str) (C:Addr) (mg:Str->Option Value) (base:Heap):Prop:=OwnCls x C [.type "ValueError", .type "Exception", .type "BaseException", .type "object"] "ValueError.__new__" mg base
end L2
namespace L2
open PySem PySem.Spec PyProof.Rows
noncomputable def Zcs (K:PySem.W.Frag) (C:Addr) (m qual:Str) (st:Stmt) (items:Array Value):Prop:=∃ f fd,FunD K m qual st items f fd/\PySem.W.findIn K (.ref C) m=some (some (.ref f))/\PySem.W.isFn K (.ref f)=true
noncomputable def Zhs (P:Program) (w:World) (K:PySem.W.Frag) (mg:Str->Option Value) (base:Heap) (k:Nat) (x:Str) (C:Addr) (sp:Sp) (dvs:List V):Prop :=
  mg x=some (.ref C)/\∃ f fd ps ds,Mk K C f/\FnOk P w K mg base CX0 k f fd ps sp/\Binds K fd ps ds/\Vals dvs ds
section
variable {P:Program} {w:World} {K:PySem.W.Frag} {mg:Str->Option Value} {base:Heap}
theorem Zi4 {C:Addr} {m qual:Str} {st:Stmt} {f T:Addr} {oc c2:Value} {od an d2:Option Addr} {osl s2:Array (Option Value)} {kV doc pm cdv ct:Value} {items:Array Value} {n:Nat}
    (a:PySem.W.findIn K (.ref C) m=some (some (.ref f))) (i:PySem.W.isFn K (.ref f)=true) (l:K.lookup f=some ⟨oc,od,.func (PySem.W.fnOf m qual (Zas st) (Zar st) (Zab st) (.ref T) kV doc pm an cdv ct),osl⟩)
    (c:PySem.W.codeIn K cdv qual=true) (k:PySem.W.keepIn K (.ref f)=true) (d:K.lookup T=some ⟨c2,d2,.seq items n,s2⟩):Zcs K C m qual st items :=
  ⟨f,_,⟨⟨oc,od,T,kV,doc,pm,an,cdv,ct,osl,_,n,rfl,l,c,d,rfl⟩,k⟩,a,i⟩
theorem Zll {C:Addr} {x qual:Str} {st:Stmt} {items:Array Value} {N ps:List Str} {k:Nat} {sp:Sp} (D:Zcs K C "__init__" qual st items) (c:ClsF K mg x C) (S:FnScope N ps (Zab st)) (len:∀ vs H Q E,sp vs H Q E->vs.length=ps.length)
    (hbody:∀ (f:Addr) (cdv:Value) (A:Around) (outer:List Env) (s:Shared) (H:Hp) (vs:List V) (Q:VK) (E:XK),Room k (A.deeper (envOfC qual (Zab st) s.heap.objs.size f cdv))->sp vs H Q E ->
      ∃ t,PSs (cxOf CX0 P w K mg base N qual (Zab st) f cdv A outer s H E).nox (Zar st) t/\t { nx:=fun _ H'=>Q .non H',rt:=Q } (start N vs) H)
    (ds:List Value) {dvs:List V} (v:Vals dvs ds)
    (hb:∀ (T:Addr) (kV doc pm:Value) (an:Option Addr) (cdv ct:Value) (us:List Value),(us ++ ds).length=ps.length->∃ k:Option (Array Value)->Sem (List (Str × Value)),bindArgs (PySem.W.fnOf "__init__" qual (Zas st) (Zar st) (Zab st) (.ref T) kV doc pm an cdv ct) ⟨us,[]⟩=seqItems? (.ref T) >>= k/\k (some items)=pure (ps.zip (us ++ ds))):Zhs P w K mg base (k + 1) x C sp dvs:=by
  obtain ⟨f,fd,F,a,i⟩:=D
  exact ⟨c.mgC,f,fd,ps,ds,⟨c.ms,a,i,c.kc⟩,F.fn S len (hbody f),F.binds ds hb,v⟩
end
section
variable {X:Cx} {k:Nat} {C:Addr} {sp:Sp} {x:Str} {p pos:Pos} {e:Expr} {es:List Expr} {t:TA} {dvs:List V}
theorem Zd6 (c:Zhs X.prog X.w X.K X.mg X.base k x C sp dvs) (hr:Room (k + 1) X.A) (hg:Gl X x) (ha:PA X (e :: es) t) (hdb:(x == ("__debug__" : Str))=false:=by decide)
    (he:starEach (e :: es) X.env=(false,eval e X.env) :: starEach es X.env:=by rfl) (hpl:(backTo pos (starEach es X.env)).any (·.1)=false:=by rfl) :
    PE X (.Call (.Name x p) (e :: es) [] pos) (tMake C sp dvs E0 t):=by
  obtain ⟨m,f,fd,ps,ds,M,F,b,v⟩:=c
  exact ZjC M F hr hg m b v pass0 ha hdb he hpl
end
theorem Zlm {σ:St} {H:Hp} {Q:VK} {C:Addr} {sp:Sp} {t:TA} {dvs:List V} (q:t σ H fun vs H1=>∀ x dx,H1 x=none->H1 dx=none->dx ≠ x->sp (.ref x :: (vs ++ dvs)) (upd (upd H1 dx (.own x)) x (.ins C dx [])) (fun v H2=>v=.non/\Q (.ref x) H2) E0):tMake C sp dvs E0 t σ H Q:=q
noncomputable def KeptX (X:Addr->Prop) (H H':Hp):Prop:=∀ b o,H b=some o->¬ X b->H' b=some o
section
variable {X Y:Addr->Prop} {H H1 H2:Hp}
theorem KeptX.refl:KeptX X H H:=fun _ _ e _=>e
theorem KeptX.trans (a:KeptX X H H1) (b:KeptX X H1 H2):KeptX X H H2:=fun c o e n=>b c o (a c o e n) n
theorem KeptX.mono (a:KeptX X H H1) (h:∀ b,X b->Y b):KeptX Y H H1:=fun c o e n=>a c o e fun z=>n (h c z)
theorem Same.keptX (s:Same H H1):KeptX X H H1:=fun c o e _=>s c o e
theorem KeptX.upd {b:Addr} {o:HO} (h:X b):KeptX X H (L2.upd H b o):=fun c u e n=>by
  have hc:c ≠ b:=fun z=>by rw [z] at n; exact n h
  rw [Zaj hc]; exact e
theorem KeptX.new {b:Addr} {o:HO} (h:H b=none):KeptX X H (L2.upd H b o):=(Same.new h).keptX
theorem KeptX.imm (a:KeptX X H H1) (h:∀ b o,X b->H b=some o->¬ Imm o):SameI H H1:=fun b u e i=>a b u e fun z=>h b u z e i
end
end L2
namespace L2
open PySem PySem.Spec PyProof.Rows
noncomputable def rDictD:RC:=fun xs H Q=>∃ d kvs,xs=[.ref d]/\H d=some (.dK kvs)/\∀ l,H l=none->Q (.ref l) (upd H l (.dK kvs))
theorem Zln {X:Cx}:CallR X (.type "dict") rDictD:=by
  intro pins s σ H xs us Q I r h
  obtain ⟨d,kvs,rfl,hd,q⟩:=h
  obtain ⟨u,rfl,rx⟩:=vals1 r
  cases rx
  obtain ⟨hz,lo,vs,hkv,hD⟩:=ZjI I.hok hd
  have hvl:vs.length=kvs.length:=hkv.length.symm
  refine PySem.kt_call_dict lo hD (by omega) fun h' hm hs=>?_
  refine ⟨.ref s.heap.objs.size,_,I.laid (a:=s.heap.objs.size) (t':=s.toks) (o:=.dK kvs) (fun b ob e=>?_) (Nat.le_refl _) ⟨hz,(Zis (P:=X.prog) (w:=X.w) (H:=H) s.heap I.big).2.1,vs,hkv,hm⟩,rfl,q _ (I.hok.fresh (Nat.le_refl _))⟩
  rw [hs.2 b (fun z=>by rw [z] at e; exact absurd (Heap.lt_size e) (Nat.lt_irrefl _))]
  exact Heap.get?_push_of_some _ e
theorem Zlo {d:Addr} {kvs:List (Key × V)} {H:Hp} {Q:VK} (h:H d=some (.dK kvs)) (q:∀ l,H l=none->Q (.ref l) (upd H l (.dK kvs))):rDictD [.ref d] H Q:=⟨d,kvs,rfl,h,q⟩
end L2
local macro_rules|`(tactic| walk_at "settle")=>`(tactic| first
  | (simp only [L2.start,List.map_cons,List.map_nil,List.length_cons,List.length_nil,List.replicate,List.cons_append,List.nil_append,List.append_nil,List.set_cons_zero,List.set_cons_succ,Nat.reduceAdd,Nat.reduceSub]; done)
  | (simp only [L2.start,List.map_cons,List.map_nil,List.length_cons,List.length_nil,List.replicate,List.cons_append,List.nil_append,List.append_nil,List.set_cons_zero,List.set_cons_succ,Nat.reduceAdd,Nat.reduceSub]; rfl)
  | rfl
  | fail)
local macro_rules|`(tactic| walk_at "side")=>`(tactic| first
  | exact ⟨by decide,by decide⟩
  | exact ⟨by decide,by decide,by decide⟩
  | (show (0:Int) < _; first|decide|omega)
  | (show (0:Int) <= _; first|decide|omega)
  | (show (0:Int) < _/\_ < _; refine ⟨by omega,by omega⟩)
  | (show (_/\_)\/_; refine .inl ⟨by omega,by omega⟩)
  | (show _\/(_/\_); refine .inr ⟨by omega,by omega⟩)
  | fail)
local macro_rules|`(tactic| walk_at "rd")=>`(tactic| first
  | with_reducible refine L2.rd_seq ?_
  | with_reducible refine L2.rd_asg ?_
  | ((with_reducible refine' L2.Zlf ?e ?_); (case e=>walk_at "settle"))
  | with_reducible refine L2.rd_C ?_
  | ((with_reducible refine' L2.rd_V ?e ?_); (case e=>rfl))
  | with_reducible refine L2.rd_op ?_
  | with_reducible refine L2.rd_I0 ?_
  | ((with_reducible refine' L2.rd_I ?c ?_); (case c=>walk_at "side"))
  | with_reducible refine L2.rd_eqI ?_
  | with_reducible refine L2.rd_eqS ?_
  | with_reducible refine L2.rd_neI ?_
  | with_reducible refine L2.rd_neS ?_
  | with_reducible refine L2.rd_eqB ?_
  | with_reducible refine L2.rd_neB ?_
  | with_reducible refine L2.Zmo ?_
  | with_reducible refine L2.rd_B ?_
  | with_reducible refine L2.rd_bl ?_
  | with_reducible refine L2.rd_ifS ?_
  | with_reducible refine L2.rd_if ?_
  | with_reducible refine L2.Zdp (fun _=>?_) (fun _=>?_)
  | with_reducible refine L2.ZcE (fun _=>?_) (fun _=>?_)
  | with_reducible refine L2.rd_iteNND (fun _=>?_) (fun _=>?_)
  | with_reducible refine L2.iteT ?_
  | with_reducible refine L2.iteF ?_
  | with_reducible refine L2.iteNT ?_
  | with_reducible refine L2.iteNF ?_
  | with_reducible refine L2.ZlT ?_
  | with_reducible refine L2.Zmn ?_
  | with_reducible refine L2.ZjQ ?_
  | with_reducible refine L2.rd_and ?_
  | with_reducible refine L2.rd_or ?_
  | with_reducible refine L2.rd_not ?_
  | with_reducible refine L2.Zmp ?_
  | with_reducible refine L2.rd_orV ?_
  | with_reducible refine L2.Zmq ?_
  | with_reducible refine L2.Zmr ?_
  | with_reducible refine L2.rd_nil ?_
  | with_reducible refine L2.rd_vals ?_
  | with_reducible refine L2.Zms ?_
  | with_reducible refine L2.rd_CB ?_
  | with_reducible refine L2.Zk7 ?_
  | with_reducible refine L2.rd_un ?_
  | with_reducible refine L2.rd_U ?_
  | with_reducible refine L2.rd_tup ?_
  | with_reducible refine L2.rd_lst ?_
  | fail)
local macro_rules|`(tactic| walk_at "sql")=>`(tactic| first
  | assumption
  | exact L2.sql_new
  | exact L2.ZjR
  | exact L2.Zaz (by assumption)
  | exact L2.ZbS (by assumption)
  | exact L2.TupK.sqt (by assumption) _
  | (refine L2.SqL.updN ?_ (by assumption); walk_at "sql")
  | (refine L2.SqT.updN ?_ (by assumption); walk_at "sql")
  | fail)
local macro_rules|`(tactic| walk_at "hp")=>`(tactic| first
  | assumption
  | exact L2.Zag
  | exact Eq.trans (L2.Zaj (L2.Zah L2.Zag (by assumption))) L2.Zag
  | fail)
local macro_rules|`(tactic| walk_at "rdl")=>`(tactic| first
  | walk_at "rd"
  | ((with_reducible refine' L2.Za8 ?h ?e ?_); (case h=>walk_at "sql"); (case e=>rfl))
  | ((with_reducible refine' L2.Zek ?h ?e ?_); (case h=>walk_at "sql"); (case e=>rfl))
  | with_reducible refine L2.rd_sl ?_
  | with_reducible refine L2.rd_noPart ?_
  | with_reducible refine L2.Zmt ?_
  | with_reducible refine L2.rd_ei ?_
  | ((with_reducible refine' L2.ZlU ?h ?_); (case h=>walk_at "sql"))
  | fail)
local macro_rules|`(tactic| walk_at "rda")=>`(tactic| first
  | walk_at "rdl"
  | ((with_reducible refine' L2.rd_aug ?e ?_); (case e=>rfl))
  | with_reducible refine L2.rd_ipI ?_
  | with_reducible refine L2.Zho ?_
  | with_reducible refine L2.ZjT ?_
  | with_reducible refine L2.rd_abs ?_
  | ((with_reducible refine' L2.rd_isi ?e ?_); (case e=>rfl))
  | ((with_reducible refine' L2.Zmy ?e ?_); (case e=>rfl))
  | ((with_reducible refine' L2.Zmz ?h ?e ?_); (case h=>walk_at "sql"); (case e=>rfl))
  | ((with_reducible refine' L2.ZmA ?h ?e ?_); (case h=>walk_at "sql"); (case e=>rfl))
  | ((with_reducible refine' L2.Zmu ?h ?_); (case h=>walk_at "sql"))
  | ((with_reducible refine' L2.Zmv ?h ?_); (case h=>walk_at "sql"))
  | fail)
local macro_rules|`(tactic| walk_at "sz")=>`(tactic| first
  | assumption
  | exact Nat.le_trans (by assumption) (by decide)
  | decide
  | fail)
local macro_rules|`(tactic| walk_at "rdt")=>`(tactic| first
  | walk_at "rda"
  | with_reducible refine L2.rd_bm ?_
  | with_reducible refine L2.rd_bm0 ?_
  | with_reducible refine L2.rd_tyS ?_
  | with_reducible refine L2.rd_find ?_
  | with_reducible refine L2.rd_inS ?_
  | with_reducible refine L2.rd_notInS ?_
  | with_reducible refine L2.rd_sb ?_
  | with_reducible refine L2.rd_ord ?_
  | with_reducible refine L2.ZmC ?_
  | with_reducible refine L2.rd_isNi ?_
  | with_reducible refine L2.ZmD ?_
  | with_reducible refine L2.rd_notN0 ?_
  | with_reducible refine L2.rd_notNi ?_
  | with_reducible refine L2.rd_notNr ?_
  | ((with_reducible refine' L2.rd_lenZ ?h ?_); (case h=>walk_at "sz"))
  | ((with_reducible refine' L2.rd_slS ?h ?_); (case h=>walk_at "sz"))
  | fail)
local macro_rules|`(tactic| walk_at "rdq")=>`(tactic| first
  | ((with_reducible refine L2.Zdp (fun _=>?_) (fun _=>?_)) <;> (try (exfalso; omega)))
  | ((with_reducible refine L2.ZcE (fun _=>?_) (fun _=>?_)) <;> (try (exfalso; omega)))
  | ((with_reducible refine L2.rd_iteNND (fun _=>?_) (fun _=>?_)) <;> (try (exfalso; omega)))
  | walk_at "rdt"
  | fail)
local macro_rules|`(tactic| walk_at "rdj")=>`(tactic| first
  | ((with_reducible refine' L2.rd_addJ ?h (fun _ _=>?_)); (case h=>omega))
  | ((with_reducible refine' L2.rd_slJ ?h (fun _ _=>?_)); (case h=>omega))
  | walk_at "rdq"
  | fail)
local macro_rules|`(tactic| walk_at "rdm")=>`(tactic| first
  | walk_at "rdt"
  | ((with_reducible refine' L2.Zfs ?h (fun _ _=>?_)); (case h=>walk_at "sql"))
  | ((with_reducible refine' L2.rd_listT ?h (fun _ _=>?_)); (case h=>walk_at "sql"))
  | with_reducible refine L2.ZmI ?_
  | fail)
local macro_rules|`(tactic| walk_at "rdk")=>`(tactic| first
  | walk_at "rdm"
  | with_reducible refine L2.rd_fld ?_
  | with_reducible refine L2.ZmE ?_
  | with_reducible refine L2.Zj6 ?_
  | with_reducible refine L2.ZmM ?_
  | with_reducible refine L2.ZmN ?_
  | with_reducible refine L2.ZmF ?_
  | with_reducible refine L2.ZmJ ?_
  | ((with_reducible refine' L2.rd_sum ?h ?_); (case h=>walk_at "sql"))
  | with_reducible refine L2.Zle ?_
  | with_reducible refine L2.Zld (fun _ _=>?_)
  | with_reducible refine L2.rd_din ?_
  | with_reducible refine L2.rd_dnotin ?_
  | with_reducible refine L2.ZmG ?_
  | with_reducible refine L2.ZmH ?_
  | with_reducible refine L2.rd_dpop1 ?_
  | with_reducible refine L2.Zlh ?_
  | with_reducible refine L2.Zli ?_
  | with_reducible refine L2.ZmL ?_
  | ((with_reducible refine' L2.ZmK ?h ?e ?_); (case h=>walk_at "sql"); (case e=>rfl))
  | fail)
local macro_rules|`(tactic| walk_at "rdz")=>`(tactic| first
  | ((with_reducible refine L2.Zdp (fun _=>?_) (fun _=>?_)) <;> (try (exfalso; omega)))
  | ((with_reducible refine L2.ZcE (fun _=>?_) (fun _=>?_)) <;> (try (exfalso; omega)))
  | ((with_reducible refine L2.rd_iteNND (fun _=>?_) (fun _=>?_)) <;> (try (exfalso; omega)))
  | walk_at "rdk"
  | fail)
local macro_rules|`(tactic| walk_at "rdx")=>`(tactic| first
  | with_reducible refine L2.Zdp (fun h=>absurd h (by decide)) (fun _=>?_)
  | with_reducible refine L2.Zdp (fun _=>?_) (fun h=>absurd (by decide) h)
  | with_reducible refine L2.ZcE (fun h=>absurd (by decide) h) (fun _=>?_)
  | with_reducible refine L2.ZcE (fun _=>?_) (fun h=>absurd h (by decide))
  | walk_at "rdk"
  | fail)
namespace My
open PySem L2
local macro_rules|`(tactic| walk_at "nx")=>`(tactic| try simp only [L2.nox_K,L2.nox_P,L2.nox_w,L2.nox_mg,L2.Zk8,L2.cxOf_K,L2.cxOf_P,L2.cxOf_w,L2.ZmB,L2.ZjX])
noncomputable def top (i:Nat):Stmt:=PySem.Challenge.pw_meterhouse_k34_store_rows.main.body.getD i (.Pass ⟨0,0,0,0⟩)
noncomputable abbrev s__wall:Stmt:=top 0
noncomputable abbrev Zht:Stmt:=top 5
noncomputable abbrev Zhu:Stmt:=top 6
noncomputable abbrev Zfv:Stmt:=top 7
noncomputable abbrev Zhv:Stmt:=top 8
noncomputable abbrev Zct:Stmt:=top 11
noncomputable abbrev Zcu:Stmt:=top 14
noncomputable abbrev Zhw:Stmt:=top 24
noncomputable abbrev Zdq:Stmt:=top 25
noncomputable abbrev Zcv:Stmt:=top 26
noncomputable abbrev ZcQ:Stmt:=top 27
noncomputable abbrev ZcR:Stmt:=top 28
noncomputable abbrev Zdr:Stmt:=top 29
noncomputable abbrev Zer:Stmt:=top 30
noncomputable abbrev Zes:Stmt:=top 31
noncomputable abbrev ZcS:Stmt:=top 32
noncomputable abbrev Zcf:Stmt:=top 33
noncomputable abbrev Zet:Stmt:=top 34
noncomputable abbrev Zfw:Stmt:=top 35
noncomputable abbrev Zfx:Stmt:=top 37
noncomputable abbrev Zcw:Stmt:=top 39
noncomputable abbrev Zds:Stmt:=top 40
noncomputable abbrev Zdt:Stmt:=top 41
noncomputable abbrev Zdu:Stmt:=top 42
noncomputable abbrev Zdv:Stmt:=top 43
noncomputable abbrev Zcx:Stmt:=top 44
noncomputable abbrev Zdw:Stmt:=top 45
noncomputable abbrev Zcy:Stmt:=top 46
noncomputable abbrev Zdx:Stmt:=top 47
noncomputable abbrev Zdy:Stmt:=top 48
noncomputable abbrev Zfy:Stmt:=top 49
noncomputable abbrev Zdz:Stmt:=top 50
noncomputable abbrev ZdA:Stmt:=top 51
noncomputable abbrev ZdB:Stmt:=top 52
noncomputable abbrev ZdC:Stmt:=top 53
noncomputable abbrev ZdD:Stmt:=top 54
noncomputable abbrev ZdE:Stmt:=top 55
noncomputable abbrev ZdF:Stmt:=top 56
noncomputable abbrev Zfz:Stmt:=top 58
noncomputable abbrev Zcg:Stmt:=top 62
noncomputable abbrev Zch:Stmt:=top 63
noncomputable abbrev ZcT:Stmt:=top 64
noncomputable abbrev ZcU:Stmt:=top 65
noncomputable abbrev Zb0:Stmt:=top 66
noncomputable abbrev Zcz:Stmt:=top 67
noncomputable abbrev Zbt:Stmt:=top 68
noncomputable abbrev ZcH:Stmt:=top 69
noncomputable abbrev Zd7:Stmt:=top 70
noncomputable abbrev ZfA:Stmt:=top 71
noncomputable abbrev s_go:Stmt:=top 72
noncomputable abbrev Zhx:Stmt:=top 73
noncomputable abbrev ZdG:Stmt:=top 77
noncomputable abbrev Zde:Stmt:=top 78
noncomputable abbrev Zeu:Stmt:=top 79
noncomputable abbrev Zhy:Stmt:=top 80
noncomputable abbrev ZdH:Stmt:=top 81
noncomputable abbrev Zd8:Stmt:=top 82
noncomputable abbrev Zlp:Stmt:=top 83
noncomputable abbrev ZaM:Stmt:=ZaD (top 10) 0
noncomputable abbrev ZaV:Stmt:=ZaD (top 10) 1
noncomputable abbrev Za4:Stmt:=ZaD (top 10) 2
noncomputable abbrev Zj8:Stmt:=ZaD (top 10) 3
noncomputable abbrev s_Deed_do:Stmt:=ZaD (top 15) 0
noncomputable abbrev ZmP:Stmt:=ZaD (top 15) 1
noncomputable abbrev ZmQ:Stmt:=ZaD (top 15) 2
noncomputable abbrev ZdP:Stmt:=ZaD (top 15) 3
noncomputable abbrev ZkK:Stmt:=ZaD (top 15) 4
noncomputable abbrev ZaY:Stmt:=ZaD (top 16) 0
noncomputable abbrev ZbU:Stmt:=ZaD (top 16) 1
noncomputable abbrev Zbu:Stmt:=ZaD (top 16) 2
noncomputable abbrev Zbv:Stmt:=ZaD (top 16) 3
noncomputable abbrev Zbi:Stmt:=ZaD (top 16) 4
noncomputable abbrev ZkL:Stmt:=ZaD (top 16) 5
noncomputable abbrev ZaZ:Stmt:=ZaD (top 17) 0
noncomputable abbrev ZbV:Stmt:=ZaD (top 17) 1
noncomputable abbrev Zbw:Stmt:=ZaD (top 17) 2
noncomputable abbrev Zbx:Stmt:=ZaD (top 17) 3
noncomputable abbrev ZkM:Stmt:=ZaD (top 17) 4
noncomputable abbrev Za0:Stmt:=ZaD (top 18) 0
noncomputable abbrev Zby:Stmt:=ZaD (top 18) 1
noncomputable abbrev Zaw:Stmt:=ZaD (top 21) 0
noncomputable abbrev Zbj:Stmt:=ZaD (top 21) 1
noncomputable abbrev ZaP:Stmt:=ZaD (top 21) 2
noncomputable abbrev ZaL:Stmt:=ZaD (top 21) 3
noncomputable abbrev Zbf:Stmt:=ZaD (top 21) 4
noncomputable abbrev Zbz:Stmt:=ZaD (top 21) 5
noncomputable abbrev Za5:Stmt:=ZaD (top 21) 6
noncomputable abbrev Zbk:Stmt:=ZaD (top 21) 7
noncomputable abbrev ZaN:Stmt:=ZaD (top 75) 0
noncomputable abbrev Za1:Stmt:=ZaD (top 75) 1
noncomputable abbrev Za6:Stmt:=ZaD (top 75) 2
noncomputable abbrev Za7:Stmt:=ZaD (top 75) 3
noncomputable abbrev ZaW:Stmt:=ZaD (top 75) 4
noncomputable abbrev ZaT:Stmt:=ZaD (top 75) 5
noncomputable abbrev Zi5:Stmt:=ZaD (top 75) 6
noncomputable abbrev ZbW:Stmt:=ZaD (top 15) 0
noncomputable abbrev ZbA:Stmt:=ZaD (top 15) 1
structure T_Account (K:PySem.W.Frag) (mg:Str->Option Value) (C:Addr):Prop where
  k:ClsF K mg "Account" C
  n_coin:NoAttr K C "coin"
  n_purse:NoAttr K C "purse"
  n_count:NoAttr K C "count"
  n_program:NoAttr K C "program"
  n_store:NoAttr K C "store"
structure T_Deed (K:PySem.W.Frag) (mg:Str->Option Value) (C:Addr):Prop where
  k:ClsF K mg "Deed" C
structure T_Save (K:PySem.W.Frag) (mg:Str->Option Value) (C:Addr):Prop where
  k:ClsF K mg "Save" C
  n_slot:NoAttr K C "slot"
  n_place:NoAttr K C "place"
  n_old:NoAttr K C "old"
  n_new:NoAttr K C "new"
structure T_Move (K:PySem.W.Frag) (mg:Str->Option Value) (C:Addr):Prop where
  k:ClsF K mg "Move" C
  n_slot:NoAttr K C "slot"
  n_taker:NoAttr K C "taker"
  n_many:NoAttr K C "many"
structure T_Note (K:PySem.W.Frag) (mg:Str->Option Value) (C:Addr):Prop where
  k:ClsF K mg "Note" C
  n_slot:NoAttr K C "slot"
  n_number:NoAttr K C "number"
structure T_Frame (K:PySem.W.Frag) (mg:Str->Option Value) (C:Addr):Prop where
  k:ClsF K mg "Frame" C
  n_kind:NoAttr K C "kind"
  n_who:NoAttr K C "who"
  n_whose:NoAttr K C "whose"
  n_caller:NoAttr K C "caller"
  n_coin:NoAttr K C "coin"
  n_word:NoAttr K C "word"
  n_given:NoAttr K C "given"
  n_depth:NoAttr K C "depth"
  n_looking:NoAttr K C "looking"
  n_used:NoAttr K C "used"
  n_stack:NoAttr K C "stack"
  n_row:NoAttr K C "row"
  n_steps:NoAttr K C "steps"
  n_end:NoAttr K C "end"
  n_answer:NoAttr K C "answer"
structure T_Journal (K:PySem.W.Frag) (mg:Str->Option Value) (C:Addr):Prop where
  k:ClsF K mg "Journal" C
  n_rooms:NoAttr K C "rooms"
  n_deeds:NoAttr K C "deeds"
theorem bd1 {R:List Value->Prop} (h:∀ a,R [a]) (us:List Value) (hl:us.length=1):R us:=by
  cases us with
  | nil=>cases hl
  | cons a r =>
    cases r with
    | nil=>exact h a
    | cons b r=>cases hl
theorem bdS {R:List Value->Prop} {n:Nat} (h:∀ a (r:List Value),r.length=n->R (a :: r)) (us:List Value) (hl:us.length=n + 1):R us:=by
  cases us with
  | nil=>cases hl
  | cons a r=>exact h a r (Nat.succ.inj hl)
theorem bd2 {R:List Value->Prop} (h:∀ a b,R [a,b]) (us:List Value) (hl:us.length=2):R us:=bdS (n:=1) (fun a r hr=>bd1 (R:=fun r=>R (a :: r)) (h a) r hr) us hl
theorem bd3 {R:List Value->Prop} (h:∀ a b c,R [a,b,c]) (us:List Value) (hl:us.length=3):R us:=bdS (n:=2) (fun a r hr=>bd2 (R:=fun r=>R (a :: r)) (h a) r hr) us hl
theorem bd4 {R:List Value->Prop} (h:∀ a b c d,R [a,b,c,d]) (us:List Value) (hl:us.length=4):R us:=bdS (n:=3) (fun a r hr=>bd3 (R:=fun r=>R (a :: r)) (h a) r hr) us hl
theorem bd5 {R:List Value->Prop} (h:∀ a b c d e,R [a,b,c,d,e]) (us:List Value) (hl:us.length=5):R us:=bdS (n:=4) (fun a r hr=>bd4 (R:=fun r=>R (a :: r)) (h a) r hr) us hl
theorem bd6 {R:List Value->Prop} (h:∀ a0 a1 a2 a3 a4 a5,R [a0,a1,a2,a3,a4,a5]) (us:List Value) (hl:us.length=6):R us:=bdS (n:=5) (fun a r hr=>bd5 (R:=fun r=>R (a :: r)) (h a) r hr) us hl
theorem bd7 {R:List Value->Prop} (h:∀ a0 a1 a2 a3 a4 a5 a6,R [a0,a1,a2,a3,a4,a5,a6]) (us:List Value) (hl:us.length=7):R us:=bdS (n:=6) (fun a r hr=>bd6 (R:=fun r=>R (a :: r)) (h a) r hr) us hl
theorem bd8 {R:List Value->Prop} (h:∀ a0 a1 a2 a3 a4 a5 a6 a7,R [a0,a1,a2,a3,a4,a5,a6,a7]) (us:List Value) (hl:us.length=8):R us:=bdS (n:=7) (fun a r hr=>bd7 (R:=fun r=>R (a :: r)) (h a) r hr) us hl
theorem bd9 {R:List Value->Prop} (h:∀ a0 a1 a2 a3 a4 a5 a6 a7 a8,R [a0,a1,a2,a3,a4,a5,a6,a7,a8]) (us:List Value) (hl:us.length=9):R us:=bdS (n:=8) (fun a r hr=>bd8 (R:=fun r=>R (a :: r)) (h a) r hr) us hl
theorem bd10 {R:List Value->Prop} (h:∀ a0 a1 a2 a3 a4 a5 a6 a7 a8 a9,R [a0,a1,a2,a3,a4,a5,a6,a7,a8,a9]) (us:List Value) (hl:us.length=10):R us:=bdS (n:=9) (fun a r hr=>bd9 (R:=fun r=>R (a :: r)) (h a) r hr) us hl
noncomputable def sCut (t:TS):TS:=fun D σ H=>∃ P:St->Hp->Prop,t { D with nx:=P } σ H/\∀ σ' H',P σ' H'->D.nx σ' H'
theorem Zgy {t:TS} {D:Ends} {σ:St} {H:Hp} (P:St->Hp->Prop) (q:t { D with nx:=P } σ H) (m:∀ σ' H',P σ' H'->D.nx σ' H'):sCut t D σ H:=⟨P,q,m⟩
theorem Zgz {X:Cx} {st:Stmt} {t:TS} (h:PS X st t):PS X st (sCut t):=by
  intro pins s σ H D I q
  obtain ⟨P,q,m⟩:=q
  refine wpAny_mono (h pins s σ H { D with nx:=P } I q) (fun f s' z=>?_) fun _ _ z=>z
  cases f with
  | next=>obtain ⟨σ',H',I',q'⟩:=z; exact ⟨σ',H',I',m _ _ q'⟩
  | brk=>exact z
  | cont=>exact z
  | ret u=>exact z
noncomputable abbrev W64:Int:=18446744073709551616
noncomputable def sp2 (f:Int->Int->Int) (C:Int->Int->Prop):Sp:=fun vs H Q _=>∃ a b,vs=[.int a,.int b]/\C a b/\Q (.int (f a b)) H
noncomputable def In64 (a:Int):Prop:=0 <= a/\a < 18446744073709551616
noncomputable def rkAdd (a b:Int):Int:=(a + b) % 18446744073709551616
noncomputable def rkSub (a b:Int):Int:=(a - b) % 18446744073709551616
noncomputable def rkMul (a b:Int):Int:=a * b % 18446744073709551616
noncomputable def rkDiv (a b:Int):Int:=if b=0 then 0 else a / b
noncomputable def rkMod (a b:Int):Int:=if b=0 then 0 else a % b
noncomputable def rkLt (a b:Int):Int:=if a < b then 1 else 0
noncomputable def rkEq (a b:Int):Int:=if a=b then 1 else 0
noncomputable def rkAnd (a b:Int):Int:=Builtin.bitAnd a b
noncomputable def rkOr (a b:Int):Int:=Builtin.bitOr a b
noncomputable def rkXor (a b:Int):Int:=Builtin.bitXor a b
noncomputable def rkUp (a b:Int):Int:=if 64 <= b then 0 else a * 2 ^ b.toNat % 18446744073709551616
noncomputable def rkDown (a b:Int):Int:=if 64 <= b then 0 else a / 2 ^ b.toNat
noncomputable def Zbd (a b:Int):Prop:=In64 a/\In64 b
noncomputable def RK:List (Str × (Int->Int->Int)):=[("add", rkAdd),("minus", rkSub),("times", rkMul),("over", rkDiv),("rest", rkMod),("below", rkLt),("same", rkEq),("both", rkAnd),("either", rkOr),("unlike", rkXor),("up", rkUp),("down", rkDown)]
noncomputable def Ziy:Sp:=fun vs H Q _=>∃ x a b f,vs=[.str x,.int a,.int b]/\RK.lookup x=some f/\Zbd a b/\Q (.int (f a b)) H
noncomputable def ZlX (P:Program) (w:World) (K:PySem.W.Frag) (mg:Str->Option Value) (base:Heap) (aS:Addr):Prop :=
  ∃ vs,Zda P w K aS vs/\∀ x f,RK.lookup x=some f->∃ fa,valueAt vs (.inr x)=some (.ref fa)/\CalF P w K mg base 1 fa (sp2 f Zbd)
section
variable {P:Program} {w:World} {K:PySem.W.Frag} {mg:Str->Option Value} {base:Heap}
theorem Zlq:FnScope ["one", "other"] ["one", "other"] (Zab Zhw):=⟨rfl,rfl,rfl,by decide +kernel,rfl,by decide +kernel,by decide +kernel⟩
theorem Zlr    (D:Zap K mg "added" Zhw) (g_WIDE:ZaU mg "WIDE" (.int 18446744073709551616)):Cal P w K mg base 1 "added" (sp2 rkAdd Zbd):=by
  refine Zay (N:=["one", "other"]) (ps:=["one", "other"]) D Zlq (fun vs H Q E h=>?_) (fun _ _ _ _ _ _ us hl=>bd2 (R:=fun us=>bindArgs _ ⟨us,[]⟩=pure (List.zip _ us)) (fun _ _=>rfl) us hl) (fun f cdv A outer s H vs Q E hr h=>?_)
  . obtain ⟨a,b,rfl,_⟩:=h; rfl
  . obtain ⟨a,b,rfl,⟨⟨ha0,ha1⟩,hb0,hb1⟩,k⟩:=h
    refine ⟨_,(Zad (Zaq (ZaH ZbD (ZaH ZbK (pv 0) (pv 1)) (ZbH rfl g_WIDE)))),?_⟩
    walk_at "nx"
    repeat' walk_at "rd"
    exact k
theorem Zhz:FnScope ["one", "other"] ["one", "other"] (Zab Zdq):=⟨rfl,rfl,rfl,by decide +kernel,rfl,by decide +kernel,by decide +kernel⟩
theorem ZhA    (D:Zap K mg "lessened" Zdq) (g_WIDE:ZaU mg "WIDE" (.int 18446744073709551616)):Cal P w K mg base 1 "lessened" (sp2 rkSub Zbd):=by
  refine Zay (N:=["one", "other"]) (ps:=["one", "other"]) D Zhz (fun vs H Q E h=>?_) (fun _ _ _ _ _ _ us hl=>bd2 (R:=fun us=>bindArgs _ ⟨us,[]⟩=pure (List.zip _ us)) (fun _ _=>rfl) us hl) (fun f cdv A outer s H vs Q E hr h=>?_)
  . obtain ⟨a,b,rfl,_⟩:=h; rfl
  . obtain ⟨a,b,rfl,⟨⟨ha0,ha1⟩,hb0,hb1⟩,k⟩:=h
    refine ⟨_,(Zad (Zaq (ZaH ZbD (ZaH Ze4 (pv 0) (pv 1)) (ZbH rfl g_WIDE)))),?_⟩
    walk_at "nx"
    repeat' walk_at "rd"
    exact k
theorem ZfB:FnScope ["one", "other"] ["one", "other"] (Zab Zcv):=⟨rfl,rfl,rfl,by decide +kernel,rfl,by decide +kernel,by decide +kernel⟩
theorem ZfC    (D:Zap K mg "multiplied" Zcv) (g_WIDE:ZaU mg "WIDE" (.int 18446744073709551616)):Cal P w K mg base 1 "multiplied" (sp2 rkMul Zbd):=by
  refine Zay (N:=["one", "other"]) (ps:=["one", "other"]) D ZfB (fun vs H Q E h=>?_) (fun _ _ _ _ _ _ us hl=>bd2 (R:=fun us=>bindArgs _ ⟨us,[]⟩=pure (List.zip _ us)) (fun _ _=>rfl) us hl) (fun f cdv A outer s H vs Q E hr h=>?_)
  . obtain ⟨a,b,rfl,_⟩:=h; rfl
  . obtain ⟨a,b,rfl,⟨⟨ha0,ha1⟩,hb0,hb1⟩,k⟩:=h
    refine ⟨_,(Zad (Zaq (ZaH ZbD (ZaH Zim (pv 0) (pv 1)) (ZbH rfl g_WIDE)))),?_⟩
    walk_at "nx"
    repeat' walk_at "rd"
    exact k
theorem ZgA:FnScope ["one", "other"] ["one", "other"] (Zab ZcQ):=⟨rfl,rfl,rfl,by decide +kernel,rfl,by decide +kernel,by decide +kernel⟩
theorem ZgB    (D:Zap K mg "contained" ZcQ):Cal P w K mg base 1 "contained" (sp2 rkDiv Zbd):=by
  refine Zay (N:=["one", "other"]) (ps:=["one", "other"]) D ZgA (fun vs H Q E h=>?_) (fun _ _ _ _ _ _ us hl=>bd2 (R:=fun us=>bindArgs _ ⟨us,[]⟩=pure (List.zip _ us)) (fun _ _=>rfl) us hl) (fun f cdv A outer s H vs Q E hr h=>?_)
  . obtain ⟨a,b,rfl,_⟩:=h; rfl
  . obtain ⟨a,b,rfl,⟨⟨ha0,ha1⟩,hb0,hb1⟩,k⟩:=h
    refine ⟨_,(Zac (Zba (ZaC ZbJ (pv 1) Zaf (nomark _)) (Zad (Zaq Zaf)) ZaE)
      (Zad (Zaq (ZaH ZbN (pv 0) (pv 1))))),?_⟩
    walk_at "nx"
    repeat' walk_at "rd"
    . rename_i e; exact ZbR (by unfold rkDiv; rw [if_pos e]) k
    . rename_i e; exact ZbR (by unfold rkDiv; rw [if_neg e]) k
theorem ZgC:FnScope ["one", "other"] ["one", "other"] (Zab ZcR):=⟨rfl,rfl,rfl,by decide +kernel,rfl,by decide +kernel,by decide +kernel⟩
theorem ZgD    (D:Zap K mg "left_over" ZcR):Cal P w K mg base 1 "left_over" (sp2 rkMod Zbd):=by
  refine Zay (N:=["one", "other"]) (ps:=["one", "other"]) D ZgC (fun vs H Q E h=>?_) (fun _ _ _ _ _ _ us hl=>bd2 (R:=fun us=>bindArgs _ ⟨us,[]⟩=pure (List.zip _ us)) (fun _ _=>rfl) us hl) (fun f cdv A outer s H vs Q E hr h=>?_)
  . obtain ⟨a,b,rfl,_⟩:=h; rfl
  . obtain ⟨a,b,rfl,⟨⟨ha0,ha1⟩,hb0,hb1⟩,k⟩:=h
    refine ⟨_,(Zac (Zba (ZaC ZbJ (pv 1) Zaf (nomark _)) (Zad (Zaq Zaf)) ZaE)
      (Zad (Zaq (ZaH ZbD (pv 0) (pv 1))))),?_⟩
    walk_at "nx"
    repeat' walk_at "rd"
    . rename_i e; exact ZbR (by unfold rkMod; rw [if_pos e]) k
    . rename_i e; exact ZbR (by unfold rkMod; rw [if_neg e]) k
theorem ZhB:FnScope ["one", "other"] ["one", "other"] (Zab Zdr):=⟨rfl,rfl,rfl,by decide +kernel,rfl,by decide +kernel,by decide +kernel⟩
theorem ZhC    (D:Zap K mg "is_below" Zdr):Cal P w K mg base 1 "is_below" (sp2 rkLt Zbd):=by
  refine Zay (N:=["one", "other"]) (ps:=["one", "other"]) D ZhB (fun vs H Q E h=>?_) (fun _ _ _ _ _ _ us hl=>bd2 (R:=fun us=>bindArgs _ ⟨us,[]⟩=pure (List.zip _ us)) (fun _ _=>rfl) us hl) (fun f cdv A outer s H vs Q E hr h=>?_)
  . obtain ⟨a,b,rfl,_⟩:=h; rfl
  . obtain ⟨a,b,rfl,⟨⟨ha0,ha1⟩,hb0,hb1⟩,k⟩:=h
    refine ⟨_,(Zad (Zaq (Zd1 (ZaC ZkQ (pv 0) (pv 1) (nomark _)) Zaf Zaf))),?_⟩
    walk_at "nx"
    repeat' walk_at "rd"
    . rename_i e; exact ZbR (by unfold rkLt; rw [if_pos e]) k
    . rename_i e; exact ZbR (by unfold rkLt; rw [if_neg e]) k
theorem Zi6:FnScope ["one", "other"] ["one", "other"] (Zab Zer):=⟨rfl,rfl,rfl,by decide +kernel,rfl,by decide +kernel,by decide +kernel⟩
theorem Zi7    (D:Zap K mg "is_same" Zer):Cal P w K mg base 1 "is_same" (sp2 rkEq Zbd):=by
  refine Zay (N:=["one", "other"]) (ps:=["one", "other"]) D Zi6 (fun vs H Q E h=>?_) (fun _ _ _ _ _ _ us hl=>bd2 (R:=fun us=>bindArgs _ ⟨us,[]⟩=pure (List.zip _ us)) (fun _ _=>rfl) us hl) (fun f cdv A outer s H vs Q E hr h=>?_)
  . obtain ⟨a,b,rfl,_⟩:=h; rfl
  . obtain ⟨a,b,rfl,⟨⟨ha0,ha1⟩,hb0,hb1⟩,k⟩:=h
    refine ⟨_,(Zad (Zaq (Zd1 (ZaC ZbJ (pv 0) (pv 1) (nomark _)) Zaf Zaf))),?_⟩
    walk_at "nx"
    repeat' walk_at "rd"
    . rename_i e; exact ZbR (by unfold rkEq; rw [if_pos e]) k
    . rename_i e; exact ZbR (by unfold rkEq; rw [if_neg e]) k
theorem Zi8:FnScope ["one", "other"] ["one", "other"] (Zab Zes):=⟨rfl,rfl,rfl,by decide +kernel,rfl,by decide +kernel,by decide +kernel⟩
theorem Zi9    (D:Zap K mg "in_both" Zes):Cal P w K mg base 1 "in_both" (sp2 rkAnd Zbd):=by
  refine Zay (N:=["one", "other"]) (ps:=["one", "other"]) D Zi8 (fun vs H Q E h=>?_) (fun _ _ _ _ _ _ us hl=>bd2 (R:=fun us=>bindArgs _ ⟨us,[]⟩=pure (List.zip _ us)) (fun _ _=>rfl) us hl) (fun f cdv A outer s H vs Q E hr h=>?_)
  . obtain ⟨a,b,rfl,_⟩:=h; rfl
  . obtain ⟨a,b,rfl,⟨⟨ha0,ha1⟩,hb0,hb1⟩,k⟩:=h
    refine ⟨_,(Zad (Zaq (ZaH op_and (pv 0) (pv 1)))),?_⟩
    walk_at "nx"
    repeat' walk_at "rd"
    exact k
theorem ZgE:FnScope ["one", "other"] ["one", "other"] (Zab ZcS):=⟨rfl,rfl,rfl,by decide +kernel,rfl,by decide +kernel,by decide +kernel⟩
theorem ZgF    (D:Zap K mg "in_either" ZcS):Cal P w K mg base 1 "in_either" (sp2 rkOr Zbd):=by
  refine Zay (N:=["one", "other"]) (ps:=["one", "other"]) D ZgE (fun vs H Q E h=>?_) (fun _ _ _ _ _ _ us hl=>bd2 (R:=fun us=>bindArgs _ ⟨us,[]⟩=pure (List.zip _ us)) (fun _ _=>rfl) us hl) (fun f cdv A outer s H vs Q E hr h=>?_)
  . obtain ⟨a,b,rfl,_⟩:=h; rfl
  . obtain ⟨a,b,rfl,⟨⟨ha0,ha1⟩,hb0,hb1⟩,k⟩:=h
    refine ⟨_,(Zad (Zaq (ZaH op_or (pv 0) (pv 1)))),?_⟩
    walk_at "nx"
    repeat' walk_at "rd"
    exact k
theorem ZeV:FnScope ["one", "other"] ["one", "other"] (Zab Zcf):=⟨rfl,rfl,rfl,by decide +kernel,rfl,by decide +kernel,by decide +kernel⟩
theorem ZeW    (D:Zap K mg "in_just_one" Zcf):Cal P w K mg base 1 "in_just_one" (sp2 rkXor Zbd):=by
  refine Zay (N:=["one", "other"]) (ps:=["one", "other"]) D ZeV (fun vs H Q E h=>?_) (fun _ _ _ _ _ _ us hl=>bd2 (R:=fun us=>bindArgs _ ⟨us,[]⟩=pure (List.zip _ us)) (fun _ _=>rfl) us hl) (fun f cdv A outer s H vs Q E hr h=>?_)
  . obtain ⟨a,b,rfl,_⟩:=h; rfl
  . obtain ⟨a,b,rfl,⟨⟨ha0,ha1⟩,hb0,hb1⟩,k⟩:=h
    refine ⟨_,(Zad (Zaq (ZaH op_xor (pv 0) (pv 1)))),?_⟩
    walk_at "nx"
    repeat' walk_at "rd"
    exact k
theorem Zja:FnScope ["one", "other"] ["one", "other"] (Zab Zet):=⟨rfl,rfl,rfl,by decide +kernel,rfl,by decide +kernel,by decide +kernel⟩
theorem Zjb    (D:Zap K mg "doubled" Zet) (n_max:mg "max" = none) (g_FIGURES:ZaU mg "FIGURES" (.int 64)) (g_WIDE:ZaU mg "WIDE" (.int 18446744073709551616)):Cal P w K mg base 1 "doubled" (sp2 rkUp Zbd):=by
  refine Zay (N:=["one", "other"]) (ps:=["one", "other"]) D Zja (fun vs H Q E h=>?_) (fun _ _ _ _ _ _ us hl=>bd2 (R:=fun us=>bindArgs _ ⟨us,[]⟩=pure (List.zip _ us)) (fun _ _=>rfl) us hl) (fun f cdv A outer s H vs Q E hr h=>?_)
  . obtain ⟨a,b,rfl,_⟩:=h; rfl
  . obtain ⟨a,b,rfl,⟨⟨ha0,ha1⟩,hb0,hb1⟩,k⟩:=h
    refine ⟨_,(Zac (Zba (ZaC Zma (pv 1) (ZbH rfl g_FIGURES) (nomark _)) (Zad (Zaq Zaf)) ZaE)
      (Zad (Zaq (ZaH ZbD (ZaH op_shl (pv 0) (ZaG (ZjS rfl) rfl n_max PyProof.Rows.boot_max (Zaa (pv 1) (Zaa Zaf Zae)))) (ZbH rfl g_WIDE))))),?_⟩
    walk_at "nx"
    repeat' walk_at "rd"
    . rename_i e; exact ZbR (by unfold rkUp; rw [if_pos e]) k
    . rename_i e
      refine Zho ?_
      have m0:(if (0:Int) > b then (0:Int) else b)=b:=if_neg (by omega)
      rw [m0]
      refine rd_I ⟨hb0,by omega,by omega⟩ ?_
      repeat walk_at "rd"
      exact ZbR (by unfold rkUp; rw [if_neg e]) k
theorem Zj9:FnScope ["one", "other"] ["one", "other"] (Zab Zfw):=⟨rfl,rfl,rfl,by decide +kernel,rfl,by decide +kernel,by decide +kernel⟩
theorem Zka    (D:Zap K mg "halved" Zfw) (n_max:mg "max" = none) (g_FIGURES:ZaU mg "FIGURES" (.int 64)):Cal P w K mg base 1 "halved" (sp2 rkDown Zbd):=by
  refine Zay (N:=["one", "other"]) (ps:=["one", "other"]) D Zj9 (fun vs H Q E h=>?_) (fun _ _ _ _ _ _ us hl=>bd2 (R:=fun us=>bindArgs _ ⟨us,[]⟩=pure (List.zip _ us)) (fun _ _=>rfl) us hl) (fun f cdv A outer s H vs Q E hr h=>?_)
  . obtain ⟨a,b,rfl,_⟩:=h; rfl
  . obtain ⟨a,b,rfl,⟨⟨ha0,ha1⟩,hb0,hb1⟩,k⟩:=h
    refine ⟨_,(Zac (Zba (ZaC Zma (pv 1) (ZbH rfl g_FIGURES) (nomark _)) (Zad (Zaq Zaf)) ZaE)
      (Zad (Zaq (ZaH op_shr (pv 0) (ZaG (ZjS rfl) rfl n_max PyProof.Rows.boot_max (Zaa (pv 1) (Zaa Zaf Zae))))))),?_⟩
    walk_at "nx"
    repeat' walk_at "rd"
    . rename_i e; exact ZbR (by unfold rkDown; rw [if_pos e]) k
    . rename_i e
      refine Zho ?_
      have m0:(if (0:Int) > b then (0:Int) else b)=b:=if_neg (by omega)
      rw [m0]
      refine rd_I hb0 ?_
      repeat walk_at "rd"
      exact ZbR (by unfold rkDown; rw [if_neg e]) k
theorem ZmR {aS:Addr} {u1 u2 u3 u4 u5 u6 u7 u8 u9 u10 u11 u12:Value} (dk:Zda P w K aS [(Sum.inr "add", u1),(Sum.inr "minus", u2),(Sum.inr "times", u3),(Sum.inr "over", u4),(Sum.inr "rest", u5),(Sum.inr "below", u6),(Sum.inr "same", u7),(Sum.inr "both", u8),(Sum.inr "either", u9),(Sum.inr "unlike", u10),(Sum.inr "up", u11),(Sum.inr "down", u12)])
    (m1:mg "added" = some u1) (m2:mg "lessened" = some u2) (m3:mg "multiplied" = some u3) (m4:mg "contained" = some u4) (m5:mg "left_over" = some u5) (m6:mg "is_below" = some u6) (m7:mg "is_same" = some u7) (m8:mg "in_both" = some u8) (m9:mg "in_either" = some u9) (m10:mg "in_just_one" = some u10) (m11:mg "doubled" = some u11) (m12:mg "halved" = some u12)
    (c1:Cal P w K mg base 1 "added" (sp2 rkAdd Zbd)) (c2:Cal P w K mg base 1 "lessened" (sp2 rkSub Zbd)) (c3:Cal P w K mg base 1 "multiplied" (sp2 rkMul Zbd)) (c4:Cal P w K mg base 1 "contained" (sp2 rkDiv Zbd)) (c5:Cal P w K mg base 1 "left_over" (sp2 rkMod Zbd)) (c6:Cal P w K mg base 1 "is_below" (sp2 rkLt Zbd)) (c7:Cal P w K mg base 1 "is_same" (sp2 rkEq Zbd)) (c8:Cal P w K mg base 1 "in_both" (sp2 rkAnd Zbd)) (c9:Cal P w K mg base 1 "in_either" (sp2 rkOr Zbd)) (c10:Cal P w K mg base 1 "in_just_one" (sp2 rkXor Zbd)) (c11:Cal P w K mg base 1 "doubled" (sp2 rkUp Zbd)) (c12:Cal P w K mg base 1 "halved" (sp2 rkDown Zbd)):ZlX P w K mg base aS:=by
  refine ⟨_,dk,fun x f h=>?_⟩
  have hm:=Zc9 h
  simp only [RK,List.mem_cons,Prod.mk.injEq,List.not_mem_nil,or_false] at hm
  rcases hm with ⟨rfl,rfl⟩|⟨rfl,rfl⟩|⟨rfl,rfl⟩|⟨rfl,rfl⟩|⟨rfl,rfl⟩|⟨rfl,rfl⟩|⟨rfl,rfl⟩|⟨rfl,rfl⟩|⟨rfl,rfl⟩|⟨rfl,rfl⟩|⟨rfl,rfl⟩|⟨rfl,rfl⟩
  . obtain ⟨fa,m,c⟩:=c1
    rw [m1] at m
    cases m
    exact ⟨fa,rfl,c⟩
  . obtain ⟨fa,m,c⟩:=c2
    rw [m2] at m
    cases m
    exact ⟨fa,rfl,c⟩
  . obtain ⟨fa,m,c⟩:=c3
    rw [m3] at m
    cases m
    exact ⟨fa,rfl,c⟩
  . obtain ⟨fa,m,c⟩:=c4
    rw [m4] at m
    cases m
    exact ⟨fa,rfl,c⟩
  . obtain ⟨fa,m,c⟩:=c5
    rw [m5] at m
    cases m
    exact ⟨fa,rfl,c⟩
  . obtain ⟨fa,m,c⟩:=c6
    rw [m6] at m
    cases m
    exact ⟨fa,rfl,c⟩
  . obtain ⟨fa,m,c⟩:=c7
    rw [m7] at m
    cases m
    exact ⟨fa,rfl,c⟩
  . obtain ⟨fa,m,c⟩:=c8
    rw [m8] at m
    cases m
    exact ⟨fa,rfl,c⟩
  . obtain ⟨fa,m,c⟩:=c9
    rw [m9] at m
    cases m
    exact ⟨fa,rfl,c⟩
  . obtain ⟨fa,m,c⟩:=c10
    rw [m10] at m
    cases m
    exact ⟨fa,rfl,c⟩
  . obtain ⟨fa,m,c⟩:=c11
    rw [m11] at m
    cases m
    exact ⟨fa,rfl,c⟩
  . obtain ⟨fa,m,c⟩:=c12
    rw [m12] at m
    cases m
    exact ⟨fa,rfl,c⟩
theorem Zkb:FnScope ["word", "one", "other"] ["word", "one", "other"] (Zab Zfx):=⟨rfl,rfl,rfl,by decide +kernel,rfl,by decide +kernel,by decide +kernel⟩
theorem Zkc  {aS:Addr} (S:ZlX P w K mg base aS)  (D:Zap K mg "reckon" Zfx) (g_SUMS:ZaU mg "SUMS" (.ref aS)):Cal P w K mg base 2 "reckon" Ziy:=by
  refine Zay (N:=["word", "one", "other"]) (ps:=["word", "one", "other"]) D Zkb (fun vs H Q E h=>?_) (fun _ _ _ _ _ _ us hl=>bd3 (R:=fun us=>bindArgs _ ⟨us,[]⟩=pure (List.zip _ us)) (fun _ _ _=>rfl) us hl) (fun f cdv A outer s H vs Q E hr h=>?_)
  . obtain ⟨x,a,b,f,rfl,_⟩:=h; rfl
  . obtain ⟨x,a,b,fn,rfl,hx,hc,k⟩:=h
    refine ⟨_,(Zad (Zaq (Ziv (k:=1) (hr.mono (by decide)) (Zfb (ZbH rfl g_SUMS) (pv 0) (fun _ _=>rfl)) (Zaa (pv 1) (Zaa (pv 2) Zae))))),?_⟩
    walk_at "nx"
    obtain ⟨ws,dk,al⟩:=S
    obtain ⟨fa,hv,cf⟩:=al x fn hx
    refine ZlT ?_
    show tCallV _ _ _ _ _ _ _ _ _ _ _
    refine ⟨_,rfl,aS,ws,.inr x,.ref fa,.ref fa,rfl,rfl,dk,hv,rfl,fa,_,rfl,cf,?_⟩
    repeat walk_at "rd"
    exact ⟨a,b,rfl,hc,k⟩
end
noncomputable def RT:List (Str × Int × Int × Int × Int):=[("push", 0,1,1,1),("drop", 1,0,1,1),("copy", 1,2,1,1),("swap", 1,1,1,1),("add", 2,1,1,1),("minus", 2,1,1,1),("times", 2,1,2,2),("over", 2,1,2,2),("rest", 2,1,2,2),("below", 2,1,1,1),("same", 2,1,1,1),("both", 2,1,1,1),("either", 2,1,1,1),("unlike", 2,1,1,1),("up", 2,1,1,1),("down", 2,1,1,1),("jump", 0,0,1,1),("jumpif", 1,0,1,1),("load", 1,1,3,3),("save", 2,0,5,12),("me", 0,1,1,1),("from", 0,1,1,1),("sent", 0,1,1,1),("word", 0,1,1,1),("coin", 1,1,3,3),("note", 1,0,4,4),("call", 4,2,8,12),("borrow", 3,2,6,6),("look", 3,2,6,6),("give", 1,0,1,1),("fail", 1,0,1,1)]
noncomputable def rowV (x:Str) (n:Option Int):List V:=rowVs (x,n)
noncomputable def Zci (x:Str) (n:Option Int):Option Int:=if inS x ["copy", "swap"]=true then n else some 0
noncomputable def ZgG (P:Program) (w:World) (K:PySem.W.Frag) (aT:Addr):Prop :=
  ∃ vs,Zda P w K aT vs/\∀ x t l p d,RT.lookup x=some (t,l,p,d)->∃ ta,valueAt vs (.inr x)=some (.ref ta)/\TupK K ta [.int t,.int l,.int p,.int d]
noncomputable def ZbI (K:PySem.W.Frag) (H:Hp) (p:Addr) (x:Str) (n:Option Int):Prop:=SqT K H p (rowV x n)
theorem ZhD {x:Str} {n:Option Int}:atI (rowV x n) 0=some (.str x):=by cases n <;> rfl
noncomputable def ZhE (K:PySem.W.Frag):Sp:=fun vs H Q _=>∃ p x n r,vs=[.ref p]/\ZbI K H p x n/\Zci x n=some r/\Q (.int r) H
noncomputable def ZfD (K:PySem.W.Frag):Sp:=fun vs H Q _=>∃ p x n r t l pr d,vs=[.ref p]/\ZbI K H p x n/\Zci x n=some r/\RT.lookup x=some (t,l,pr,d)/\Q (.int (t + r)) H
noncomputable def Ziz (K:PySem.W.Frag):Sp:=fun vs H Q _=>∃ p x n r t l pr d,vs=[.ref p]/\ZbI K H p x n/\Zci x n=some r/\RT.lookup x=some (t,l,pr,d)/\Q (.int (l + r)) H
noncomputable def Zkd (K:PySem.W.Frag):Sp:=fun vs H Q _=>∃ p x n t l pr d b,vs=[.ref p,.bl b]/\ZbI K H p x n/\RT.lookup x=some (t,l,pr,d)/\Q (.int (if b=true then d else pr)) H
local macro_rules|`(tactic| walk_at "rw")=>`(tactic| first
  | walk_at "rdk"
  | ((with_reducible refine' L2.Zek ?h ?e ?_); (case h=>assumption); (case e=>exact My.ZhD))
  | fail)
local macro_rules|`(tactic| walk_at "rz")=>`(tactic| first
  | ((with_reducible refine L2.Zdp (fun _=>?_) (fun _=>?_)) <;> (try (exfalso; omega)))
  | ((with_reducible refine L2.ZcE (fun _=>?_) (fun _=>?_)) <;> (try (exfalso; omega)))
  | ((with_reducible refine L2.rd_iteNND (fun _=>?_) (fun _=>?_)) <;> (try (exfalso; omega)))
  | walk_at "rw"
  | fail)
section
variable {P:Program} {w:World} {K:PySem.W.Frag} {mg:Str->Option Value} {base:Heap}
theorem Zls:FnScope ["row"] ["row"] (Zab Zht):=⟨rfl,rfl,rfl,by decide +kernel,rfl,by decide +kernel,by decide +kernel⟩
theorem Zlt  {aR:Addr} (tR:TupK K aR ((["copy", "swap"]:List Str).map V.str))  (D:Zap K mg "reach" Zht) (g_REACHING:ZaU mg "REACHING" (.ref aR)):Cal P w K mg base 1 "reach" (ZhE K):=by
  refine Zay (N:=["row"]) (ps:=["row"]) D Zls (fun vs H Q E h=>?_) (fun _ _ _ _ _ _ us hl=>bd1 (R:=fun us=>bindArgs _ ⟨us,[]⟩=pure (List.zip _ us)) (fun _=>rfl) us hl) (fun f cdv A outer s H vs Q E hr h=>?_)
  . obtain ⟨p,x,n,r,rfl,_⟩:=h; rfl
  . obtain ⟨p,x,n,r,rfl,hp,hr',k⟩:=h
    refine ⟨_,(Zac (Zba (ZaC Zeg (ZaI Zbc (pv 0) Zaf (fun _ _=>rfl)) (ZbH rfl g_REACHING) rfl) (Zad (Zaq (ZaI Zbc (pv 0) Zaf (fun _ _=>rfl)))) ZaE)
      (Zad (Zaq Zaf))),?_⟩
    walk_at "nx"
    repeat walk_at "rd"
    refine Zek hp ZhD ?_
    repeat walk_at "rd"
    refine ZjU (tR.sqt H) ?_
    repeat walk_at "rd"
    unfold Zci at hr'
    cases e:inS x ["copy", "swap"] with
    | true =>
      rw [e,if_pos rfl] at hr'
      subst hr'
      repeat walk_at "rd"
      refine Zek hp rfl ?_
      exact k
    | false =>
      rw [e,if_neg (by decide)] at hr'
      cases hr'
      repeat walk_at "rd"
      exact k
theorem Zlu:FnScope ["row"] ["row"] (Zab Zhu):=⟨rfl,rfl,rfl,by decide +kernel,rfl,by decide +kernel,by decide +kernel⟩
theorem Zlv  {aT:Addr} (R:ZgG P w K aT)  (D:Zap K mg "takes" Zhu) (c_reach:Cal P w K mg base 1 "reach" (ZhE K)) (g_ROWS:ZaU mg "ROWS" (.ref aT)):Cal P w K mg base 2 "takes" (ZfD K):=by
  refine Zay (N:=["row"]) (ps:=["row"]) D Zlu (fun vs H Q E h=>?_) (fun _ _ _ _ _ _ us hl=>bd1 (R:=fun us=>bindArgs _ ⟨us,[]⟩=pure (List.zip _ us)) (fun _=>rfl) us hl) (fun f cdv A outer s H vs Q E hr h=>?_)
  . obtain ⟨p,x,n,r,t,l,pr,d,rfl,_⟩:=h; rfl
  . obtain ⟨p,x,n,r,t,l,pr,d,rfl,hp,hr',ht,k⟩:=h
    refine ⟨_,(Zad (Zaq (ZaH ZbK (ZaI Zbc (Zfb (ZbH rfl g_ROWS) (ZaI Zbc (pv 0) Zaf (fun _ _=>rfl)) (fun _ _=>rfl)) Zaf (fun _ _=>rfl)) (ZaF c_reach (hr.mono (by decide)) rfl (Zaa (pv 0) Zae))))),?_⟩
    walk_at "nx"
    obtain ⟨ws,dk,al⟩:=R
    obtain ⟨ta,hv,tk⟩:=al x t l pr d ht
    have tk':=tk.sqt H
    repeat walk_at "rw"
    refine ZjW (v:=.ref ta) dk hv rfl ?_
    repeat walk_at "rw"
    refine ⟨p,x,n,r,rfl,hp,hr',?_⟩
    repeat walk_at "rw"
    exact k
theorem Zke:FnScope ["row"] ["row"] (Zab Zfv):=⟨rfl,rfl,rfl,by decide +kernel,rfl,by decide +kernel,by decide +kernel⟩
theorem Zkf  {aT:Addr} (R:ZgG P w K aT)  (D:Zap K mg "leaves" Zfv) (c_reach:Cal P w K mg base 1 "reach" (ZhE K)) (g_ROWS:ZaU mg "ROWS" (.ref aT)):Cal P w K mg base 2 "leaves" (Ziz K):=by
  refine Zay (N:=["row"]) (ps:=["row"]) D Zke (fun vs H Q E h=>?_) (fun _ _ _ _ _ _ us hl=>bd1 (R:=fun us=>bindArgs _ ⟨us,[]⟩=pure (List.zip _ us)) (fun _=>rfl) us hl) (fun f cdv A outer s H vs Q E hr h=>?_)
  . obtain ⟨p,x,n,r,t,l,pr,d,rfl,_⟩:=h; rfl
  . obtain ⟨p,x,n,r,t,l,pr,d,rfl,hp,hr',ht,k⟩:=h
    refine ⟨_,(Zad (Zaq (ZaH ZbK (ZaI Zbc (Zfb (ZbH rfl g_ROWS) (ZaI Zbc (pv 0) Zaf (fun _ _=>rfl)) (fun _ _=>rfl)) Zaf (fun _ _=>rfl)) (ZaF c_reach (hr.mono (by decide)) rfl (Zaa (pv 0) Zae))))),?_⟩
    walk_at "nx"
    obtain ⟨ws,dk,al⟩:=R
    obtain ⟨ta,hv,tk⟩:=al x t l pr d ht
    have tk':=tk.sqt H
    repeat walk_at "rw"
    refine ZjW (v:=.ref ta) dk hv rfl ?_
    repeat walk_at "rw"
    refine ⟨p,x,n,r,rfl,hp,hr',?_⟩
    repeat walk_at "rw"
    exact k
theorem Zlw:FnScope ["row", "dear"] ["row", "dear"] (Zab Zhv):=⟨rfl,rfl,rfl,by decide +kernel,rfl,by decide +kernel,by decide +kernel⟩
theorem Zlx {aT:Addr} (R:ZgG P w K aT) (D:ZjZ K mg "price" Zhv #[.bool false]) (g_ROWS:ZaU mg "ROWS" (.ref aT)):CalD P w K mg base 1 "price" (Zkd K) []:=by
  obtain ⟨f,fd,F,m⟩:=D
  refine ⟨f,fd,_,[],m,F.fn (N:=["row", "dear"]) (ps:=["row", "dear"]) Zlw (fun vs H Q E h=>?_) (fun cdv A outer s H vs Q E hr h=>?_),F.kp,F.binds (ps:=["row", "dear"]) [] (fun T kV doc pm an cdv ct us hl=>bd2 (R:=fun us=>∃ k:Option (Array Value)->Sem (List (Str × Value)),bindArgs _ ⟨us,[]⟩=seqItems? (.ref T) >>= k/\k (some _)=pure (List.zip _ (us ++ []))) (fun _ _=>⟨_,rfl,rfl⟩) us (by simpa using hl)),.nil⟩
  . obtain ⟨p,x,n,t,l,pr,d,b,rfl,_⟩:=h; rfl
  . obtain ⟨p,x,n,t,l,pr,d,b,rfl,hp,ht,k⟩:=h
    refine ⟨_,(Zac (Zba (Zb3 (pv 1)) (Zad (Zaq (ZaI Zbc (Zfb (ZbH rfl g_ROWS) (ZaI Zbc (pv 0) Zaf (fun _ _=>rfl)) (fun _ _=>rfl)) Zaf (fun _ _=>rfl)))) ZaE)
      (Zad (Zaq (ZaI Zbc (Zfb (ZbH rfl g_ROWS) (ZaI Zbc (pv 0) Zaf (fun _ _=>rfl)) (fun _ _=>rfl)) Zaf (fun _ _=>rfl))))),?_⟩
    walk_at "nx"
    obtain ⟨ws,dk,al⟩:=R
    obtain ⟨ta,hv,tk⟩:=al x t l pr d ht
    have tk':=tk.sqt H
    repeat walk_at "rw"
    cases b with
    | true =>
      repeat walk_at "rw"
      refine ZjW (v:=.ref ta) dk hv rfl ?_
      repeat walk_at "rw"
      exact k
    | false =>
      repeat walk_at "rw"
      refine ZjW (v:=.ref ta) dk hv rfl ?_
      repeat walk_at "rw"
      exact k
end
noncomputable def accF (c p n:Int) (pr st:Addr):List (Str × V):=[("coin", .int c),("purse", .int p),("count", .int n),("program", .ref pr),("store", .ref st)]
structure AcAt (K:PySem.W.Frag) (C:Addr) (H:Hp) (a dx pr st:Addr) (c p n:Int) (rs:List Row) (f:Int->Int) (m:Nat):Prop where
  ob:H a=some (.ins C dx (accF c p n pr st))
  pg:∃ xs,H pr=some (.lst xs)/\RowsAt K H rs xs
  sto:StoreAt H st f m
noncomputable def spInit (K:PySem.W.Frag) (C:Addr):Sp:=fun vs H Q _=>∃ (a dx pr0:Addr) (c p:Int) (xs:List V) (rs:List Row),vs=[.ref a,.int c,.int p,.ref pr0]/\H a=some (.ins C dx [])/\SqL K H pr0 xs/\RowsAt K H rs xs /\
  ∀ (pr st:Addr) (H':Hp),H pr=none->H st=none->pr ≠ st->AcAt K C H' a dx pr st c p 0 rs (fun _=>0) 0->(∀ b o,H b=some o->b ≠ a->H' b=some o)->Q .non H'
noncomputable def Zdf (K:PySem.W.Frag) (C:Addr):Sp:=fun vs H Q _=>∃ (a dx pr st:Addr) (c p n:Int) (rs:List Row) (f:Int->Int) (m:Nat) (i:Int),vs=[.ref a,.int i]/\AcAt K C H a dx pr st c p n rs f m/\Q (.int (f i)) H
noncomputable def spKeep (K:PySem.W.Frag) (C:Addr):Sp:=fun vs H Q _=>∃ (a dx pr st:Addr) (c p n:Int) (rs:List Row) (f:Int->Int) (m:Nat) (i v:Int),vs=[.ref a,.int i,.int v]/\AcAt K C H a dx pr st c p n rs f m/\m <= 1000000 /\
  ∀ H',(∀ b,b ≠ st->H' b=H b)->StoreAt H' st (putFn f i v) (m + 1)->Q .non H'
theorem AcAt.nd {K:PySem.W.Frag} {C:Addr} {H H':Hp} {a dx pr st:Addr} {c p n:Int} {rs:List Row} {f g:Int->Int} {m m':Nat} (h:AcAt K C H a dx pr st c p n rs f m) (s:SameND H H') (e:StoreAt H' st g m'):AcAt K C H' a dx pr st c p n rs g m' :=
  ⟨s _ _ h.ob (by intro _ z; cases z),let ⟨xs,e1,e2⟩:=h.pg; ⟨xs,s _ _ e1 (by intro _ z; cases z),e2.keep s.imm⟩,e⟩
theorem SameND.but {H H':Hp} {st:Addr} {kvs:List (Key × V)} (h:H st=some (.dK kvs)) (k:∀ b,b ≠ st->H' b=H b):SameND H H':=fun b u e n=>by
  rw [k b (fun z=>by rw [z,h] at e; exact n kvs (Option.some.inj e).symm)]; exact e
structure AcI where
  a:Addr
  dx:Addr
  pr:Addr
  st:Addr
structure AcS where
  coin:Int
  purse:Int
  count:Int
  rows:List Row
  store:Int->Int
noncomputable def roomV:Option AcI->V
  | none=>.non
  | some x=>.ref x.a
noncomputable def Acc (K:PySem.W.Frag) (C:Addr) (H:Hp) (x:AcI) (S:AcS) (m:Nat):Prop:=AcAt K C H x.a x.dx x.pr x.st S.coin S.purse S.count S.rows S.store m
structure Rooms (K:PySem.W.Frag) (C:Addr) (H:Hp) (R:Addr) (A:Nat->Option AcI) (S:Nat->AcS) (m:Nat):Prop where
  ob:H R=some (.lst ((List.range 16).map fun i=>roomV (A i)))
  ac:∀ i x,i < 16->A i=some x->Acc K C H x (S i) m
  da:∀ i j x y,i < 16->j < 16->A i=some x->A j=some y->x.a=y.a->i=j
  ds:∀ i j x y,i < 16->j < 16->A i=some x->A j=some y->x.st=y.st->i=j
noncomputable def setS (S:Nat->AcS) (i:Nat) (v:AcS):Nat->AcS:=fun j=>if j=i then v else S j
theorem Rooms.at {K:PySem.W.Frag} {C:Addr} {H:Hp} {R:Addr} {A:Nat->Option AcI} {S:Nat->AcS} {m:Nat} (r:Rooms K C H R A S m) {i:Nat} (hi:i < 16) {x:AcI} (hx:A i=some x):atI ((List.range 16).map fun i=>roomV (A i)) (i:Int)=some (.ref x.a) :=
  ZbO (i:=i) (by rw [List.getElem?_map,List.getElem?_range hi]; show some (roomV (A i))=_; rw [hx]; rfl) rfl
theorem Acc.le {K:PySem.W.Frag} {C:Addr} {H:Hp} {x:AcI} {S:AcS} {m m':Nat} (h:Acc K C H x S m) (e:m <= m'):Acc K C H x S m':=⟨h.ob,h.pg,h.sto.le e⟩
theorem Rooms.keep {K:PySem.W.Frag} {C:Addr} {H H':Hp} {R:Addr} {A:Nat->Option AcI} {S:Nat->AcS} {m:Nat} (r:Rooms K C H R A S m) {i:Nat} (hi:i < 16) {x:AcI} (hx:A i=some x) (k:∀ b,b ≠ x.st->H' b=H b) {p v:Int} (e:StoreAt H' x.st (putFn (S i).store p v) (m + 1)) :
    Rooms K C H' R A (setS S i { S i with store:=putFn (S i).store p v }) (m + 1):=by
  have ai:=r.ac i x hi hx
  obtain ⟨kvs,hs,_⟩:=ai.sto
  have nd:=SameND.but hs k
  refine ⟨by rw [k R (Za2 r.ob hs (by intro z; cases z))]; exact r.ob,fun j y hj hy=>?_,r.da,r.ds⟩
  unfold setS
  by_cases z:j=i
  . subst z
    rw [hx] at hy
    cases hy
    rw [if_pos rfl]
    exact AcAt.nd ai nd e
  . rw [if_neg z]
    have aj:=(r.ac j y hj hy).le (Nat.le_succ m)
    have hne:y.st ≠ x.st:=fun q=>z (r.ds j i y x hj hi hy hx q)
    exact AcAt.nd aj nd (aj.sto.same (k _ hne))
theorem Rooms.coin {K:PySem.W.Frag} {C:Addr} {H:Hp} {R:Addr} {A:Nat->Option AcI} {S:Nat->AcS} {m:Nat} (r:Rooms K C H R A S m) {i:Nat} (hi:i < 16) {x:AcI} (hx:A i=some x) (c:Int) :
    Rooms K C (upd H x.a (.ins C x.dx (accF c (S i).purse (S i).count x.pr x.st))) R A (setS S i { S i with coin:=c }) m:=by
  have ai:=r.ac i x hi hx
  have im:SameI H (upd H x.a (.ins C x.dx (accF c (S i).purse (S i).count x.pr x.st))):=SameI.upd ai.ob ZcG
  refine ⟨by rw [Zaj (Za2 r.ob ai.ob (by intro z; cases z))]; exact r.ob,fun j y hj hy=>?_,r.da,r.ds⟩
  have aj:=r.ac j y hj hy
  obtain ⟨xs,e1,e2⟩:=aj.pg
  obtain ⟨kvs,e3,e4⟩:=aj.sto
  have f1:(upd H x.a (.ins C x.dx (accF c (S i).purse (S i).count x.pr x.st))) y.pr=some (.lst xs):=by rw [Zaj (Za2 e1 ai.ob (by intro z; cases z))]; exact e1
  have f2:(upd H x.a (.ins C x.dx (accF c (S i).purse (S i).count x.pr x.st))) y.st=some (.dK kvs):=by rw [Zaj (Za2 e3 ai.ob (by intro z; cases z))]; exact e3
  unfold setS
  by_cases z:j=i
  . subst z
    rw [hx] at hy
    cases hy
    rw [if_pos rfl]
    exact ⟨Zag,⟨xs,f1,e2.keep im⟩,kvs,f2,e4⟩
  . rw [if_neg z]
    have hne:y.a ≠ x.a:=fun q=>z (r.da j i y x hj hi hy hx q)
    exact ⟨by rw [Zaj hne]; exact aj.ob,⟨xs,f1,e2.keep im⟩,kvs,f2,e4⟩
noncomputable def moved (S:Nat->AcS) (i j:Nat) (k:Int):Nat->AcS:=let S1:=setS S i { S i with coin:=(S i).coin - k }; setS S1 j { S1 j with coin:=(S1 j).coin + k }
noncomputable def ZhF (K:PySem.W.Frag) (C:Addr):Sp:=fun vs H Q _=>∃ (R:Addr) (A:Nat->Option AcI) (S:Nat->AcS) (m i j:Nat) (x y:AcI) (k:Int),vs=[.ref x.a,.ref y.a,.int k]/\Rooms K C H R A S m/\i < 16/\j < 16/\A i=some x/\A j=some y /\
  ∀ H',(∀ b,b ≠ x.a->b ≠ y.a->H' b=H b)->Rooms K C H' R A (moved S i j k) m->Q .non H'
section
variable {P:Program} {w:World} {K:PySem.W.Frag} {mg:Str->Option Value} {base:Heap}
theorem ZcV:FnScope ["self", "coin", "purse", "program"] ["self", "coin", "purse", "program"] (Zab ZaM):=⟨rfl,rfl,rfl,by decide +kernel,rfl,by decide +kernel,by decide +kernel⟩
theorem ZcW   {cAccount:Addr} (D:Zal K cAccount "__init__" "Account.__init__" ZaM) (tAccount:T_Account K mg cAccount) (n_list:mg "list" = none):ICal P w K mg base 1 "Account" cAccount (spInit K cAccount):=by
  refine Zem (N:=["self", "coin", "purse", "program"]) (ps:=["self", "coin", "purse", "program"]) D tAccount.k ZcV (fun vs H Q E h=>?_) (fun _ _ _ _ _ _ us hl=>bd4 (R:=fun us=>bindArgs _ ⟨us,[]⟩=pure (List.zip _ us)) (fun _ _ _ _=>rfl) us hl) (fun f cdv A outer s H vs Q E hr h=>?_)
  . obtain ⟨a,dx,pr0,c,p,xs,rs,rfl,_⟩:=h; rfl
  . obtain ⟨a,dx,pr0,c,p,xs,rs,rfl,ha,hl,hR,k⟩:=h
    refine ⟨_,(Zac (ZaO (pv 0) (pv 1) rfl)
      (Zac (ZaO (pv 0) (pv 2) rfl)
      (Zac (ZaO (pv 0) Zaf rfl)
      (Zac (ZaO (pv 0) (Zb5 Zj2 rfl n_list PyProof.Rows.boot_list (Zaa (pv 3) Zae)) rfl)
      (Zad (ZaO (pv 0) Zit rfl)))))),?_⟩
    walk_at "nx"
    repeat walk_at "rdk"
    refine Zav ha tAccount.k.cl tAccount.n_coin (by decide) ?_
    repeat walk_at "rdk"
    refine Zav Zag tAccount.k.cl tAccount.n_purse (by show 1 < 1000; decide) ?_
    rw [ZaR]
    repeat walk_at "rdk"
    refine Zav Zag tAccount.k.cl tAccount.n_count (by show 2 < 1000; decide) ?_
    rw [ZaR]
    repeat walk_at "rdk"
    refine Zfs (hl.updI ha) fun pr hpr=>?_
    have hn:H pr=none:=by
      by_cases e:pr=a
      . subst e; rw [Zag] at hpr; cases hpr
      . rw [Zaj e] at hpr; exact hpr
    have na:a ≠ pr:=Zah ha hn
    repeat walk_at "rdk"
    refine Zav (by rw [Zaj na,Zag]) tAccount.k.cl tAccount.n_program (by show 3 < 1000; decide) ?_
    repeat walk_at "rdk"
    rename_i st hst
    have ns:st ≠ a:=fun e=>by subst e; rw [Zag] at hst; cases hst
    have np:st ≠ pr:=fun e=>by subst e; rw [Zaj ns,Zag] at hst; cases hst
    have hn2:H st=none:=by rw [Zaj ns,Zaj np,Zaj ns] at hst; exact hst
    refine Zav (by rw [Zaj ns.symm,Zag]) tAccount.k.cl tAccount.n_store (by show 4 < 1000; decide) ?_
    have kp:∀ b o,H b=some o->b ≠ a->(upd (upd (upd (upd (upd H a (.ins cAccount dx [("coin", .int c),("purse", .int p),("count", .int 0)])) pr (.lst xs)) a (.ins cAccount dx [("coin", .int c),("purse", .int p),("count", .int 0),("program", .ref pr)])) st (.dK [])) a (.ins cAccount dx (accF c p 0 pr st))) b=some o:=by
      intro b o e hb
      have h1:b ≠ pr:=Zah e hn
      have h2:b ≠ st:=Zah e hn2
      rw [Zaj hb,Zaj h2,Zaj hb,Zaj h1,Zaj hb]
      exact e
    refine k pr st _ hn hn2 np.symm ⟨?_,⟨xs,?_,?_⟩,⟨[],?_,by decide,by simp,by simp,fun i=>rfl⟩⟩ ?_
    . rw [Zag]; rfl
    . rw [Zaj na.symm,Zaj np.symm,Zaj na.symm,Zag]
    . refine hR.keep fun b u e i=>?_
      have hb:b ≠ a:=fun z=>by rw [z,ha] at e; cases e; exact ZcG i
      exact kp b u e hb
    . rw [Zaj ns,Zag]
    . exact kp
theorem ZdI:FnScope ["self", "place"] ["self", "place"] (Zab ZaV):=⟨rfl,rfl,rfl,by decide +kernel,rfl,by decide +kernel,by decide +kernel⟩
theorem ZdJ   {cAccount:Addr} (D:Zal K cAccount "loaded" "Account.loaded" ZaV) (tAccount:T_Account K mg cAccount):MCal P w K mg base 1 cAccount "loaded" (Zdf K cAccount):=by
  refine ZaS (N:=["self", "place"]) (ps:=["self", "place"]) D tAccount.k.cl ZdI (fun vs H Q E h=>?_) (fun _ _ _ _ _ _ us hl=>bd2 (R:=fun us=>bindArgs _ ⟨us,[]⟩=pure (List.zip _ us)) (fun _ _=>rfl) us hl) (fun f cdv A outer s H vs Q E hr h=>?_)
  . obtain ⟨a,dx,pr,st,c,p,n,rs,f,m,i,rfl,_⟩:=h; rfl
  . obtain ⟨a,dx,pr,st,c,p,n,rs,fn,m,i,rfl,A,k⟩:=h
    refine ⟨_,(Zad (Zaq (Zk0 (Zfo hr) (Zak (pv 0) rfl) (pv 1) Zaf ⟨rfl,rfl,rfl,rfl⟩))),?_⟩
    walk_at "nx"
    obtain ⟨kvs,hs,_,_,_,hf⟩:=A.sto
    repeat walk_at "rdk"
    refine Zai A.ob tAccount.k.cl tAccount.n_store rfl ?_
    refine ⟨st,rfl,isD_k hs,?_⟩
    repeat walk_at "rdk"
    exact ⟨_,DGet.k (k:=Sum.inl i) hs,by rw [hf i]; exact k⟩
theorem Zev:FnScope ["self", "place", "number"] ["self", "place", "number"] (Zab Za4):=⟨rfl,rfl,rfl,by decide +kernel,rfl,by decide +kernel,by decide +kernel⟩
theorem Zew   {cAccount:Addr} (D:Zal K cAccount "keep" "Account.keep" Za4) (tAccount:T_Account K mg cAccount):MCal P w K mg base 1 cAccount "keep" (spKeep K cAccount):=by
  refine ZaS (N:=["self", "place", "number"]) (ps:=["self", "place", "number"]) D tAccount.k.cl Zev (fun vs H Q E h=>?_) (fun _ _ _ _ _ _ us hl=>bd3 (R:=fun us=>bindArgs _ ⟨us,[]⟩=pure (List.zip _ us)) (fun _ _ _=>rfl) us hl) (fun f cdv A outer s H vs Q E hr h=>?_)
  . obtain ⟨a,dx,pr,st,c,p,n,rs,f,m,i,v,rfl,_⟩:=h; rfl
  . obtain ⟨a,dx,pr,st,c,p,n,rs,fn,m,i,v,rfl,A,hm,k⟩:=h
    refine ⟨_,(Zad (Zba (ZaC ZbJ (pv 2) Zaf (nomark _)) (Zad (Zat (Zk1 (Zak (pv 0) rfl) (pv 1) Zcn ⟨rfl,rfl,rfl,rfl⟩))) (Zad (Zhl (Zfo hr) (Zak (pv 0) rfl) (pv 1) (pv 2) rfl)))),?_⟩
    walk_at "nx"
    obtain ⟨kvs,hs,hl,hn,hz,hf⟩:=A.sto
    repeat' walk_at "rdk"
    . rename_i hv
      subst hv
      refine Zai A.ob tAccount.k.cl tAccount.n_store rfl ⟨st,rfl,isD_k hs,?_⟩
      repeat walk_at "rdk"
      refine ⟨kvs,Sum.inl i,hs,rfl,fun v hv=>?_,fun hv=>?_⟩
      . dsimp only
        repeat walk_at "rdk"
        exact k _ (fun b hb=>Zaj hb) (StoreAt.drop hl hn hz hf i)
      . dsimp only
        repeat walk_at "rdk"
        refine k _ (fun b hb=>rfl) ⟨kvs,hs,Nat.le_trans hl (Nat.le_succ _),hn,hz,fun j=>?_⟩
        unfold putFn
        by_cases e:j=i
        . subst e
          rw [if_pos rfl,hv]
          rfl
        . rw [if_neg e]
          exact hf j
    . rename_i hv
      refine Zai A.ob tAccount.k.cl tAccount.n_store rfl ?_
      repeat walk_at "rdk"
      exact Zd5 hs (Nat.lt_of_le_of_lt (Nat.le_trans hl hm) (by decide)) (k _ (fun b hb=>Zaj hb) (StoreAt.put hl hn hz hf i v hv))
theorem ZfE:FnScope ["giver", "taker", "many"] ["giver", "taker", "many"] (Zab Zcu):=⟨rfl,rfl,rfl,by decide +kernel,rfl,by decide +kernel,by decide +kernel⟩
theorem ZfF   {cAccount:Addr} (D:Zap K mg "shift_coin" Zcu) (tAccount:T_Account K mg cAccount):Cal P w K mg base 1 "shift_coin" (ZhF K cAccount):=by
  refine Zay (N:=["giver", "taker", "many"]) (ps:=["giver", "taker", "many"]) D ZfE (fun vs H Q E h=>?_) (fun _ _ _ _ _ _ us hl=>bd3 (R:=fun us=>bindArgs _ ⟨us,[]⟩=pure (List.zip _ us)) (fun _ _ _=>rfl) us hl) (fun f cdv A outer s H vs Q E hr h=>?_)
  . obtain ⟨R,A,S,m,i,j,x,y,k,rfl,_⟩:=h; rfl
  . obtain ⟨R,Ar,S,m,i,j,x,y,kk,rfl,r,hi,hj,hx,hy,k⟩:=h
    refine ⟨_,(Zac (Zco (pv 0) (pv 2) in_sub)
      (Zad (Zco (pv 1) (pv 2) Zin))),?_⟩
    walk_at "nx"
    have ax:=r.ac i x hi hx
    repeat walk_at "rdk"
    refine Zdd ax.ob tAccount.k.cl tAccount.n_coin rfl ?_
    repeat walk_at "rdk"
    refine ⟨x.dx,_,ax.ob,by show 5 < 1000; decide,?_⟩
    have r1:=r.coin hi hx ((S i).coin - kk)
    have fr1:∀ b,b ≠ x.a->(upd H x.a (.ins cAccount x.dx (accF ((S i).coin - kk) (S i).purse (S i).count x.pr x.st))) b=H b:=fun b hb=>Zaj hb
    have ep:∀ (c c' p n:Int) (pr st:Addr),putF "coin" (.int c') (accF c p n pr st)=accF c' p n pr st:=fun _ _ _ _ _ _=>rfl
    rw [ep]
    generalize upd H x.a _=H1 at r1 fr1
    generalize hS1:setS S i { S i with coin:=(S i).coin - kk }=S1 at r1
    have ay:=r1.ac j y hj hy
    dsimp only
    repeat walk_at "rdk"
    refine Zdd ay.ob tAccount.k.cl tAccount.n_coin rfl ?_
    repeat walk_at "rdk"
    refine ⟨y.dx,_,ay.ob,by show 5 < 1000; decide,?_⟩
    rw [ep]
    have r2:=r1.coin hj hy ((S1 j).coin + kk)
    refine k _ (fun b h1 h2=>by rw [Zaj h2]; exact fr1 b h1) ?_
    unfold moved
    rw [hS1]
    exact r2
end
inductive Dd where
  | save (s p o n:Int)
  | move (s t k:Int)
  | note (s n:Int)
noncomputable def saveF (s p o n:Int):List (Str × V):=[("slot", .int s),("place", .int p),("old", .int o),("new", .int n)]
noncomputable def moveF (s t k:Int):List (Str × V):=[("slot", .int s),("taker", .int t),("many", .int k)]
noncomputable def noteF (s n:Int):List (Str × V):=[("slot", .int s),("number", .int n)]
noncomputable def doneS (S:Nat->AcS):Dd->Nat->AcS
  | .save s p _ n=>setS S s.toNat { S s.toNat with store:=putFn (S s.toNat).store p n }
  | .move s t k=>moved S s.toNat t.toNat k
  | .note _ _=>S
noncomputable def fitsD (A:Nat->Option AcI):Dd->Prop
  | .save s _ _ _=>∃ i x,s=((i:Nat):Int)/\i < 16/\A i=some x
  | .move s t _=>(∃ i x,s=((i:Nat):Int)/\i < 16/\A i=some x)/\∃ i x,t=((i:Nat):Int)/\i < 16/\A i=some x
  | .note _ _=>True
noncomputable def Out (A:Nat->Option AcI) (b:Addr):Prop:=∀ i x,i < 16->A i=some x->b ≠ x.a/\b ≠ x.st
theorem Rooms.le {K:PySem.W.Frag} {C:Addr} {H:Hp} {R:Addr} {A:Nat->Option AcI} {S:Nat->AcS} {m m':Nat} (r:Rooms K C H R A S m) (e:m <= m'):Rooms K C H R A S m':=⟨r.ob,fun i x hi hx=>(r.ac i x hi hx).le e,r.da,r.ds⟩
noncomputable def ZfG (C:Addr):Sp:=fun vs H Q _=>∃ (a dx:Addr) (s p o n:Int),vs=[.ref a,.int s,.int p,.int o,.int n]/\H a=some (.ins C dx [])/\Q .non (upd H a (.ins C dx (saveF s p o n)))
noncomputable def ZfH (C:Addr):Sp:=fun vs H Q _=>∃ (a dx:Addr) (s t k:Int),vs=[.ref a,.int s,.int t,.int k]/\H a=some (.ins C dx [])/\Q .non (upd H a (.ins C dx (moveF s t k)))
noncomputable def ZfI (C:Addr):Sp:=fun vs H Q _=>∃ (a dx:Addr) (s n:Int),vs=[.ref a,.int s,.int n]/\H a=some (.ins C dx [])/\Q .non (upd H a (.ins C dx (noteF s n)))
noncomputable def fldD:Dd->List (Str × V)
  | .save s p o n=>saveF s p o n
  | .move s t k=>moveF s t k
  | .note s n=>noteF s n
noncomputable def spDo (K:PySem.W.Frag) (C CD:Addr) (ok:Dd->Prop):Sp:=fun vs H Q _=>∃ (a dx R:Addr) (d:Dd) (A:Nat->Option AcI) (S:Nat->AcS) (m:Nat),vs=[.ref a,.ref R]/\ok d/\H a=some (.ins CD dx (fldD d))/\Rooms K C H R A S m/\fitsD A d/\m <= 1000000 /\
  ∀ H',(∀ b,Out A b->H' b=H b)->Rooms K C H' R A (doneS S d) (m + 1)->Q .non H'
noncomputable def isSave (d:Dd):Prop:=∃ s p o n,d=.save s p o n
noncomputable def isMove (d:Dd):Prop:=∃ s t k,d=.move s t k
noncomputable def isNote (d:Dd):Prop:=∃ s n,d=.note s n
noncomputable def ZfJ (S:Nat->AcS):Dd->Nat->AcS
  | .save s p o _=>setS S s.toNat { S s.toNat with store:=putFn (S s.toNat).store p o }
  | .move s t k=>moved S t.toNat s.toNat k
  | .note _ _=>S
noncomputable def spUndo (K:PySem.W.Frag) (C CD:Addr) (ok:Dd->Prop):Sp:=fun vs H Q _=>∃ (a dx R:Addr) (d:Dd) (A:Nat->Option AcI) (S:Nat->AcS) (m:Nat),vs=[.ref a,.ref R]/\ok d/\H a=some (.ins CD dx (fldD d))/\Rooms K C H R A S m/\fitsD A d/\m <= 1000000 /\
  ∀ H',(∀ b,Out A b->H' b=H b)->Rooms K C H' R A (ZfJ S d) (m + 1)->Q .non H'
noncomputable def rightD (S:Nat->AcS):Dd->Prop
  | .save s p o _=>(S s.toNat).store p=o
  | .move _ _ _=>True
  | .note _ _=>True
theorem Zdg (S:Nat->AcS) (i:Nat) (v:AcS):setS S i v i=v:=by unfold setS; rw [if_pos rfl]
theorem ZhG (S:Nat->AcS) {i j:Nat} (v:AcS) (h:j ≠ i):setS S i v j=S j:=by unfold setS; rw [if_neg h]
theorem Zkg (S:Nat->AcS) (i:Nat) (v w:AcS):setS (setS S i v) i w=setS S i w:=by
  funext j
  unfold setS
  by_cases h:j=i
  . rw [if_pos h,if_pos h]
  . rw [if_neg h,if_neg h,if_neg h]
theorem ZmS (S:Nat->AcS) (i:Nat):setS S i (S i)=S:=by
  funext j
  unfold setS
  by_cases h:j=i
  . rw [if_pos h,h]
  . rw [if_neg h]
theorem Zjc {f:Int->Int} {p o n:Int} (h:f p=o):putFn (putFn f p n) p o=f:=by
  funext j
  unfold putFn
  by_cases e:j=p
  . rw [if_pos e,e,h]
  . rw [if_neg e,if_neg e]
theorem ZcI (S:Nat->AcS) (i j:Nat) (k:Int) (n:Nat):moved S i j k n={ S n with coin:=(S n).coin - (if n=i then k else 0) + (if n=j then k else 0) }:=by
  unfold moved setS
  dsimp only
  by_cases h1:n=j
  . subst h1
    by_cases h2:n=i
    . subst h2; simp
    . simp [h2]
  . by_cases h2:n=i
    . subst h2; simp [h1]
    . simp [h1,h2]
theorem ZhH {S:Nat->AcS} {d:Dd} (h:rightD S d):ZfJ (doneS S d) d=S:=by
  cases d with
  | save s p o n =>
    have e:doneS S (.save s p o n) s.toNat={ S s.toNat with store:=putFn (S s.toNat).store p n }:=Zdg ..
    show setS (setS S s.toNat _) s.toNat { doneS S (.save s p o n) s.toNat with store:=putFn (doneS S (.save s p o n) s.toNat).store p o }=S
    rw [Zkg,e]
    dsimp only
    rw [Zjc h]
    exact ZmS S _
  | move s t k =>
    show moved (moved S _ _ k) _ _ k=S
    funext n
    rw [ZcI,ZcI]
    dsimp only
    have:(S n).coin - (if n=s.toNat then k else 0) + (if n=t.toNat then k else 0) - (if n=t.toNat then k else 0) + (if n=s.toNat then k else 0)=(S n).coin:=by omega
    rw [this]
  | note s n=>rfl
section
variable {P:Program} {w:World} {K:PySem.W.Frag} {mg:Str->Option Value} {base:Heap}
theorem ZdQ:FnScope ["self", "slot", "place", "old", "new"] ["self", "slot", "place", "old", "new"] (Zab ZaY):=⟨rfl,rfl,rfl,by decide +kernel,rfl,by decide +kernel,by decide +kernel⟩
theorem ZdR   {cSave:Addr} (D:Zal K cSave "__init__" "Save.__init__" ZaY) (tSave:T_Save K mg cSave):ICal P w K mg base 1 "Save" cSave (ZfG cSave):=by
  refine Zem (N:=["self", "slot", "place", "old", "new"]) (ps:=["self", "slot", "place", "old", "new"]) D tSave.k ZdQ (fun vs H Q E h=>?_) (fun _ _ _ _ _ _ us hl=>bd5 (R:=fun us=>bindArgs _ ⟨us,[]⟩=pure (List.zip _ us)) (fun _ _ _ _ _=>rfl) us hl) (fun f cdv A outer s H vs Q E hr h=>?_)
  . obtain ⟨a,dx,s0,p,o,n,rfl,_⟩:=h; rfl
  . obtain ⟨a,dx,s0,p,o,n,rfl,ha,k⟩:=h
    refine ⟨_,(Zac (ZaO (pv 0) (pv 1) rfl)
      (Zac (ZaO (pv 0) (pv 2) rfl)
      (Zac (ZaO (pv 0) (pv 3) rfl)
      (Zad (ZaO (pv 0) (pv 4) rfl))))),?_⟩
    walk_at "nx"
    repeat walk_at "rdk"
    refine Zav ha tSave.k.cl tSave.n_slot (by decide) ?_
    repeat walk_at "rdk"
    refine Zav Zag tSave.k.cl tSave.n_place (by show 1 < 1000; decide) ?_
    rw [ZaR]
    repeat walk_at "rdk"
    refine Zav Zag tSave.k.cl tSave.n_old (by show 2 < 1000; decide) ?_
    rw [ZaR]
    repeat walk_at "rdk"
    refine Zav Zag tSave.k.cl tSave.n_new (by show 3 < 1000; decide) ?_
    rw [ZaR]
    exact k
theorem ZdS:FnScope ["self", "slot", "taker", "many"] ["self", "slot", "taker", "many"] (Zab ZaZ):=⟨rfl,rfl,rfl,by decide +kernel,rfl,by decide +kernel,by decide +kernel⟩
theorem ZdT   {cMove:Addr} (D:Zal K cMove "__init__" "Move.__init__" ZaZ) (tMove:T_Move K mg cMove):ICal P w K mg base 1 "Move" cMove (ZfH cMove):=by
  refine Zem (N:=["self", "slot", "taker", "many"]) (ps:=["self", "slot", "taker", "many"]) D tMove.k ZdS (fun vs H Q E h=>?_) (fun _ _ _ _ _ _ us hl=>bd4 (R:=fun us=>bindArgs _ ⟨us,[]⟩=pure (List.zip _ us)) (fun _ _ _ _=>rfl) us hl) (fun f cdv A outer s H vs Q E hr h=>?_)
  . obtain ⟨a,dx,s0,t0,kk,rfl,_⟩:=h; rfl
  . obtain ⟨a,dx,s0,t0,kk,rfl,ha,k⟩:=h
    refine ⟨_,(Zac (ZaO (pv 0) (pv 1) rfl)
      (Zac (ZaO (pv 0) (pv 2) rfl)
      (Zad (ZaO (pv 0) (pv 3) rfl)))),?_⟩
    walk_at "nx"
    repeat walk_at "rdk"
    refine Zav ha tMove.k.cl tMove.n_slot (by decide) ?_
    repeat walk_at "rdk"
    refine Zav Zag tMove.k.cl tMove.n_taker (by show 1 < 1000; decide) ?_
    rw [ZaR]
    repeat walk_at "rdk"
    refine Zav Zag tMove.k.cl tMove.n_many (by show 2 < 1000; decide) ?_
    rw [ZaR]
    exact k
theorem ZdU:FnScope ["self", "slot", "number"] ["self", "slot", "number"] (Zab Za0):=⟨rfl,rfl,rfl,by decide +kernel,rfl,by decide +kernel,by decide +kernel⟩
theorem ZdV   {cNote:Addr} (D:Zal K cNote "__init__" "Note.__init__" Za0) (tNote:T_Note K mg cNote):ICal P w K mg base 1 "Note" cNote (ZfI cNote):=by
  refine Zem (N:=["self", "slot", "number"]) (ps:=["self", "slot", "number"]) D tNote.k ZdU (fun vs H Q E h=>?_) (fun _ _ _ _ _ _ us hl=>bd3 (R:=fun us=>bindArgs _ ⟨us,[]⟩=pure (List.zip _ us)) (fun _ _ _=>rfl) us hl) (fun f cdv A outer s H vs Q E hr h=>?_)
  . obtain ⟨a,dx,s0,n,rfl,_⟩:=h; rfl
  . obtain ⟨a,dx,s0,n,rfl,ha,k⟩:=h
    refine ⟨_,(Zac (ZaO (pv 0) (pv 1) rfl)
      (Zad (ZaO (pv 0) (pv 2) rfl))),?_⟩
    walk_at "nx"
    repeat walk_at "rdk"
    refine Zav ha tNote.k.cl tNote.n_slot (by decide) ?_
    repeat walk_at "rdk"
    refine Zav Zag tNote.k.cl tNote.n_number (by show 1 < 1000; decide) ?_
    rw [ZaR]
    exact k
theorem Zjd:FnScope ["self", "rooms"] ["self", "rooms"] (Zab ZbU):=⟨rfl,rfl,rfl,by decide +kernel,rfl,by decide +kernel,by decide +kernel⟩
theorem Zje   {cSave:Addr} {cAccount:Addr} (D:Zal K cSave "do" "Save.do" ZbU) (tSave:T_Save K mg cSave) (tAccount:T_Account K mg cAccount) (m_Account_keep:MCal P w K mg base 1 cAccount "keep" (spKeep K cAccount)):MCal P w K mg base 2 cSave "do" (spDo K cAccount cSave isSave):=by
  refine ZaS (N:=["self", "rooms"]) (ps:=["self", "rooms"]) D tSave.k.cl Zjd (fun vs H Q E h=>?_) (fun _ _ _ _ _ _ us hl=>bd2 (R:=fun us=>bindArgs _ ⟨us,[]⟩=pure (List.zip _ us)) (fun _ _=>rfl) us hl) (fun f cdv A outer s H vs Q E hr h=>?_)
  . obtain ⟨a,dx,R,d,A,S,m,rfl,_⟩:=h; rfl
  . obtain ⟨a,dx,R,d,Ar,S,m,rfl,⟨s0,p,o,n,rfl⟩,ha,r,⟨i,x,rfl,hi,hx⟩,hm,k⟩:=h
    refine ⟨_,(Zad (Zat (ZaB m_Account_keep (hr.mono (by decide)) (ZaI ZaA (pv 1) (Zak (pv 0) rfl) (fun _ _=>rfl)) (Zaa (Zak (pv 0) rfl) (Zaa (Zak (pv 0) rfl) Zae))))),?_⟩
    walk_at "nx"
    have ax:=r.ac i x hi hx
    repeat walk_at "rdk"
    refine Zai ha tSave.k.cl tSave.n_slot rfl ?_
    refine Za8 (Zaz r.ob) (r.at hi hx) ?_
    refine Zan ax.ob rfl ?_
    repeat walk_at "rdk"
    refine Zai ha tSave.k.cl tSave.n_place rfl ?_
    repeat walk_at "rdk"
    refine Zai ha tSave.k.cl tSave.n_new rfl ?_
    repeat walk_at "rdk"
    refine ⟨x.a,x.dx,x.pr,x.st,_,_,_,_,_,m,p,n,rfl,ax,hm,fun H' k1 e1=>?_⟩
    repeat walk_at "rdk"
    refine k H' (fun b hb=>k1 b (hb i x hi hx).2) ?_
    have:=r.keep hi hx k1 e1
    exact this
theorem Zjf:FnScope ["self", "rooms"] ["self", "rooms"] (Zab ZbV):=⟨rfl,rfl,rfl,by decide +kernel,rfl,by decide +kernel,by decide +kernel⟩
theorem Zjg   {cMove:Addr} (D:Zal K cMove "do" "Move.do" ZbV) (tMove:T_Move K mg cMove) (c_shift_coin:Cal P w K mg base 1 "shift_coin" (ZhF K cAccount)):MCal P w K mg base 2 cMove "do" (spDo K cAccount cMove isMove):=by
  refine ZaS (N:=["self", "rooms"]) (ps:=["self", "rooms"]) D tMove.k.cl Zjf (fun vs H Q E h=>?_) (fun _ _ _ _ _ _ us hl=>bd2 (R:=fun us=>bindArgs _ ⟨us,[]⟩=pure (List.zip _ us)) (fun _ _=>rfl) us hl) (fun f cdv A outer s H vs Q E hr h=>?_)
  . obtain ⟨a,dx,R,d,A,S,m,rfl,_⟩:=h; rfl
  . obtain ⟨a,dx,R,d,Ar,S,m,rfl,⟨s0,t0,kk,rfl⟩,ha,r,⟨⟨i,x,rfl,hi,hx⟩,j,y,rfl,hj,hy⟩,hm,k⟩:=h
    refine ⟨_,(Zad (Zat (ZaF c_shift_coin (hr.mono (by decide)) rfl (Zaa (ZaI ZaA (pv 1) (Zak (pv 0) rfl) (fun _ _=>rfl)) (Zaa (ZaI ZaA (pv 1) (Zak (pv 0) rfl) (fun _ _=>rfl)) (Zaa (Zak (pv 0) rfl) Zae)))))),?_⟩
    walk_at "nx"
    repeat walk_at "rdk"
    refine Zai ha tMove.k.cl tMove.n_slot rfl ?_
    refine Za8 (Zaz r.ob) (r.at hi hx) ?_
    repeat walk_at "rdk"
    refine Zai ha tMove.k.cl tMove.n_taker rfl ?_
    refine Za8 (Zaz r.ob) (r.at hj hy) ?_
    repeat walk_at "rdk"
    refine Zai ha tMove.k.cl tMove.n_many rfl ?_
    repeat walk_at "rdk"
    refine ⟨R,Ar,S,m,i,j,x,y,kk,rfl,r,hi,hj,hx,hy,fun H' k1 r1=>?_⟩
    repeat walk_at "rdk"
    refine k H' (fun b hb=>k1 b (hb i x hi hx).1 (hb j y hj hy).1) ?_
    exact r1.le (Nat.le_succ m)
theorem Zjh:FnScope ["self", "rooms"] ["self", "rooms"] (Zab ZbW):=⟨rfl,rfl,rfl,by decide +kernel,rfl,by decide +kernel,by decide +kernel⟩
theorem Zji   {cNote:Addr} (D:Zal K cNote "do" "Deed.do" ZbW) (tNote:T_Note K mg cNote):MCal P w K mg base 2 cNote "do" (spDo K cAccount cNote isNote):=by
  refine ZaS (N:=["self", "rooms"]) (ps:=["self", "rooms"]) D tNote.k.cl Zjh (fun vs H Q E h=>?_) (fun _ _ _ _ _ _ us hl=>bd2 (R:=fun us=>bindArgs _ ⟨us,[]⟩=pure (List.zip _ us)) (fun _ _=>rfl) us hl) (fun f cdv A outer s H vs Q E hr h=>?_)
  . obtain ⟨a,dx,R,d,A,S,m,rfl,_⟩:=h; rfl
  . obtain ⟨a,dx,R,d,Ar,S,m,rfl,⟨s0,n,rfl⟩,ha,r,_,hm,k⟩:=h
    refine ⟨_,(Zad Zjp),?_⟩
    walk_at "nx"
    exact k H (fun b _=>rfl) (r.le (Nat.le_succ m))
theorem ZgH:FnScope ["self", "rooms"] ["self", "rooms"] (Zab Zbu):=⟨rfl,rfl,rfl,by decide +kernel,rfl,by decide +kernel,by decide +kernel⟩
theorem ZgI   {cSave:Addr} {cAccount:Addr} (D:Zal K cSave "undo" "Save.undo" Zbu) (tSave:T_Save K mg cSave) (tAccount:T_Account K mg cAccount) (m_Account_keep:MCal P w K mg base 1 cAccount "keep" (spKeep K cAccount)):MCal P w K mg base 2 cSave "undo" (spUndo K cAccount cSave isSave):=by
  refine ZaS (N:=["self", "rooms"]) (ps:=["self", "rooms"]) D tSave.k.cl ZgH (fun vs H Q E h=>?_) (fun _ _ _ _ _ _ us hl=>bd2 (R:=fun us=>bindArgs _ ⟨us,[]⟩=pure (List.zip _ us)) (fun _ _=>rfl) us hl) (fun f cdv A outer s H vs Q E hr h=>?_)
  . obtain ⟨a,dx,R,d,A,S,m,rfl,_⟩:=h; rfl
  . obtain ⟨a,dx,R,d,Ar,S,m,rfl,⟨s0,p,o,n,rfl⟩,ha,r,⟨i,x,rfl,hi,hx⟩,hm,k⟩:=h
    refine ⟨_,(Zad (Zat (ZaB m_Account_keep (hr.mono (by decide)) (ZaI ZaA (pv 1) (Zak (pv 0) rfl) (fun _ _=>rfl)) (Zaa (Zak (pv 0) rfl) (Zaa (Zak (pv 0) rfl) Zae))))),?_⟩
    walk_at "nx"
    have ax:=r.ac i x hi hx
    repeat walk_at "rdk"
    refine Zai ha tSave.k.cl tSave.n_slot rfl ?_
    refine Za8 (Zaz r.ob) (r.at hi hx) ?_
    refine Zan ax.ob rfl ?_
    repeat walk_at "rdk"
    refine Zai ha tSave.k.cl tSave.n_place rfl ?_
    repeat walk_at "rdk"
    refine Zai ha tSave.k.cl tSave.n_old rfl ?_
    repeat walk_at "rdk"
    refine ⟨x.a,x.dx,x.pr,x.st,_,_,_,_,_,m,p,o,rfl,ax,hm,fun H' k1 e1=>?_⟩
    repeat walk_at "rdk"
    refine k H' (fun b hb=>k1 b (hb i x hi hx).2) ?_
    have:=r.keep hi hx k1 e1
    exact this
theorem ZgJ:FnScope ["self", "rooms"] ["self", "rooms"] (Zab Zbw):=⟨rfl,rfl,rfl,by decide +kernel,rfl,by decide +kernel,by decide +kernel⟩
theorem ZgK   {cMove:Addr} (D:Zal K cMove "undo" "Move.undo" Zbw) (tMove:T_Move K mg cMove) (c_shift_coin:Cal P w K mg base 1 "shift_coin" (ZhF K cAccount)):MCal P w K mg base 2 cMove "undo" (spUndo K cAccount cMove isMove):=by
  refine ZaS (N:=["self", "rooms"]) (ps:=["self", "rooms"]) D tMove.k.cl ZgJ (fun vs H Q E h=>?_) (fun _ _ _ _ _ _ us hl=>bd2 (R:=fun us=>bindArgs _ ⟨us,[]⟩=pure (List.zip _ us)) (fun _ _=>rfl) us hl) (fun f cdv A outer s H vs Q E hr h=>?_)
  . obtain ⟨a,dx,R,d,A,S,m,rfl,_⟩:=h; rfl
  . obtain ⟨a,dx,R,d,Ar,S,m,rfl,⟨s0,t0,kk,rfl⟩,ha,r,⟨⟨i,x,rfl,hi,hx⟩,j,y,rfl,hj,hy⟩,hm,k⟩:=h
    refine ⟨_,(Zad (Zat (ZaF c_shift_coin (hr.mono (by decide)) rfl (Zaa (ZaI ZaA (pv 1) (Zak (pv 0) rfl) (fun _ _=>rfl)) (Zaa (ZaI ZaA (pv 1) (Zak (pv 0) rfl) (fun _ _=>rfl)) (Zaa (Zak (pv 0) rfl) Zae)))))),?_⟩
    walk_at "nx"
    repeat walk_at "rdk"
    refine Zai ha tMove.k.cl tMove.n_taker rfl ?_
    refine Za8 (Zaz r.ob) (r.at hj hy) ?_
    repeat walk_at "rdk"
    refine Zai ha tMove.k.cl tMove.n_slot rfl ?_
    refine Za8 (Zaz r.ob) (r.at hi hx) ?_
    repeat walk_at "rdk"
    refine Zai ha tMove.k.cl tMove.n_many rfl ?_
    repeat walk_at "rdk"
    refine ⟨R,Ar,S,m,j,i,y,x,kk,rfl,r,hj,hi,hy,hx,fun H' k1 r1=>?_⟩
    repeat walk_at "rdk"
    refine k H' (fun b hb=>k1 b (hb j y hj hy).1 (hb i x hi hx).1) ?_
    exact r1.le (Nat.le_succ m)
theorem ZgL:FnScope ["self", "rooms"] ["self", "rooms"] (Zab ZbA):=⟨rfl,rfl,rfl,by decide +kernel,rfl,by decide +kernel,by decide +kernel⟩
theorem ZgM   {cNote:Addr} (D:Zal K cNote "undo" "Deed.undo" ZbA) (tNote:T_Note K mg cNote):MCal P w K mg base 2 cNote "undo" (spUndo K cAccount cNote isNote):=by
  refine ZaS (N:=["self", "rooms"]) (ps:=["self", "rooms"]) D tNote.k.cl ZgL (fun vs H Q E h=>?_) (fun _ _ _ _ _ _ us hl=>bd2 (R:=fun us=>bindArgs _ ⟨us,[]⟩=pure (List.zip _ us)) (fun _ _=>rfl) us hl) (fun f cdv A outer s H vs Q E hr h=>?_)
  . obtain ⟨a,dx,R,d,A,S,m,rfl,_⟩:=h; rfl
  . obtain ⟨a,dx,R,d,Ar,S,m,rfl,⟨s0,n,rfl⟩,ha,r,_,hm,k⟩:=h
    refine ⟨_,(Zad Zjp),?_⟩
    walk_at "nx"
    exact k H (fun b _=>rfl) (r.le (Nat.le_succ m))
end
noncomputable def clsD (cS cM cN:Addr):Dd->Addr
  | .save ..=>cS
  | .move ..=>cM
  | .note ..=>cN
noncomputable def T3 (a b c:Addr) (s1 s2 s3:Sp) (C:Addr) (sp:Sp):Prop:=(C=a/\sp=s1)\/(C=b/\sp=s2)\/(C=c/\sp=s3)
theorem Zkh {P:Program} {w:World} {K:PySem.W.Frag} {mg:Str->Option Value} {base:Heap} {n:Nat} {m:Str} {a b c:Addr} {s1 s2 s3:Sp} (m1:MCal P w K mg base n a m s1) (m2:MCal P w K mg base n b m s2) (m3:MCal P w K mg base n c m s3) (C:Addr) (sp:Sp) (h:T3 a b c s1 s2 s3 C sp):MCal P w K mg base n C m sp:=by
  rcases h with ⟨rfl,rfl⟩|⟨rfl,rfl⟩|⟨rfl,rfl⟩
  . exact m1
  . exact m2
  . exact m3
theorem Zdh {T:Addr->Sp->Prop} {m:Str} {ta:TE} {t:TA} {σ:St} {H:Hp} {Q:VK} (q:ta σ H fun x H1=>∃ a C dx fs sp,x=.ref a/\H1 a=some (.ins C dx fs)/\fs.lookup m=none/\T C sp/\t σ H1 fun vs H2=>sp (x :: vs) H2 Q E0):tMethD T m ta t σ H Q:=q
noncomputable def TDo (K:PySem.W.Frag) (cA cS cM cN:Addr):Addr->Sp->Prop:=T3 cS cM cN (spDo K cA cS isSave) (spDo K cA cM isMove) (spDo K cA cN isNote)
noncomputable def TUn (K:PySem.W.Frag) (cA cS cM cN:Addr):Addr->Sp->Prop:=T3 cS cM cN (spUndo K cA cS isSave) (spUndo K cA cM isMove) (spUndo K cA cN isNote)
noncomputable def okOf:Dd->Dd->Prop
  | .save ..=>isSave
  | .move ..=>isMove
  | .note ..=>isNote
theorem ZcA (d:Dd):okOf d d:=by
  cases d with
  | save=>exact ⟨_,_,_,_,rfl⟩
  | move=>exact ⟨_,_,_,rfl⟩
  | note=>exact ⟨_,_,rfl⟩
theorem tdo_of (K:PySem.W.Frag) (cA cS cM cN:Addr) (d:Dd):TDo K cA cS cM cN (clsD cS cM cN d) (spDo K cA (clsD cS cM cN d) (okOf d)):=by
  cases d with
  | save=>exact .inl ⟨rfl,rfl⟩
  | move=>exact .inr (.inl ⟨rfl,rfl⟩)
  | note=>exact .inr (.inr ⟨rfl,rfl⟩)
theorem tun_of (K:PySem.W.Frag) (cA cS cM cN:Addr) (d:Dd):TUn K cA cS cM cN (clsD cS cM cN d) (spUndo K cA (clsD cS cM cN d) (okOf d)):=by
  cases d with
  | save=>exact .inl ⟨rfl,rfl⟩
  | move=>exact .inr (.inl ⟨rfl,rfl⟩)
  | note=>exact .inr (.inr ⟨rfl,rfl⟩)
theorem fld_do (d:Dd):(fldD d).lookup (Str.ofString "do")=none:=by cases d <;> rfl
theorem Zly (d:Dd):(fldD d).lookup (Str.ofString "undo")=none:=by cases d <;> rfl
noncomputable def runS (S:Nat->AcS) (ds:List Dd):Nat->AcS:=ds.foldl doneS S
theorem ZgN (S:Nat->AcS) (ds:List Dd) (d:Dd):runS S (ds ++ [d])=doneS (runS S ds) d:=by unfold runS; rw [List.foldl_append]; rfl
noncomputable def ZbF:(Nat->AcS)->List Dd->Prop
  | _,[]=>True
  | S,d :: ds=>rightD S d/\ZbF (doneS S d) ds
theorem Zcj:∀ (S:Nat->AcS) (ds:List Dd) (d:Dd),ZbF S (ds ++ [d]) ↔ ZbF S ds/\rightD (runS S ds) d
  | S,[],d=>by simp [ZbF,runS]
  | S,e :: ds,d=>by
    show rightD S e/\ZbF (doneS S e) (ds ++ [d]) ↔ (rightD S e/\ZbF (doneS S e) ds)/\rightD (runS S (e :: ds)) d
    rw [Zcj (doneS S e) ds d,and_assoc]
    rfl
structure DI where
  o:Addr
  dx:Addr
  d:Dd
noncomputable def jF (R L:Addr):List (Str × V):=[("rooms", .ref R),("deeds", .ref L)]
structure Jr (cJ cS cM cN:Addr) (H:Hp) (j dx R L:Addr) (A:Nat->Option AcI) (es:List DI):Prop where
  ob:H j=some (.ins cJ dx (jF R L))
  li:H L=some (.lst (es.map fun e=>V.ref e.o))
  de:∀ e ∈ es,H e.o=some (.ins (clsD cS cM cN e.d) e.dx (fldD e.d))/\fitsD A e.d
  nR:L ≠ R
  np:∀ i x,i < 16->A i=some x->L ≠ x.pr
theorem ZiA {H:Hp} {a b C C' dx dx':Addr} {fs gs:List (Str × V)} (h:H a=some (.ins C dx fs)) (h':H b=some (.ins C' dx' gs)) (n:fs.length ≠ gs.length):a ≠ b:=fun z=>by
  rw [z,h'] at h
  cases h
  exact n rfl
theorem ZfK (d:Dd):(fldD d).length < 5:=by
  cases d with
  | save=>show 4 < 5; decide
  | move=>show 3 < 5; decide
  | note=>show 2 < 5; decide
section
variable {K:PySem.W.Frag} {C cJ cS cM cN:Addr} {H H':Hp} {j dx R L:Addr} {A:Nat->Option AcI} {S:Nat->AcS} {m:Nat} {es:List DI}
theorem Rooms.same {K:PySem.W.Frag} {C:Addr} {H H':Hp} {R:Addr} {A:Nat->Option AcI} {S:Nat->AcS} {m:Nat} (r:Rooms K C H R A S m) (s:Same H H'):Rooms K C H' R A S m :=
  ⟨s _ _ r.ob,fun i x hi hx=>let h:=r.ac i x hi hx; ⟨s _ _ h.ob,let ⟨xs,e1,e2⟩:=h.pg; ⟨xs,s _ _ e1,e2.keep s.imm⟩,let ⟨k,a,b⟩:=h.sto; ⟨k,s _ _ a,b⟩⟩,r.da,r.ds⟩
theorem Rooms.outI (r:Rooms K C H R A S m) {a C' dx':Addr} {fs:List (Str × V)} (h:H a=some (.ins C' dx' fs)) (n:fs.length < 5):Out A a:=fun i x hi hx =>
  ⟨ZiA h (r.ac i x hi hx).ob (by show fs.length ≠ 5; omega),let ⟨_,g,_⟩:=(r.ac i x hi hx).sto; Za2 h g (by intro z; cases z)⟩
theorem Rooms.outL (r:Rooms K C H R A S m) {a:Addr} {xs:List V} (h:H a=some (.lst xs)):Out A a:=fun i x hi hx =>
  ⟨Za2 h (r.ac i x hi hx).ob (by intro z; cases z),let ⟨_,g,_⟩:=(r.ac i x hi hx).sto; Za2 h g (by intro z; cases z)⟩
theorem Rooms.outN (r:Rooms K C H R A S m) {a:Addr} (h:H a=none):Out A a:=fun i x hi hx =>
  ⟨Ne.symm (Zah (r.ac i x hi hx).ob h),let ⟨_,g,_⟩:=(r.ac i x hi hx).sto; Ne.symm (Zah g h)⟩
theorem Jr.same (J:Jr cJ cS cM cN H j dx R L A es) (s:Same H H'):Jr cJ cS cM cN H' j dx R L A es:=⟨s _ _ J.ob,s _ _ J.li,fun e he=>⟨s _ _ (J.de e he).1,(J.de e he).2⟩,J.nR,J.np⟩
theorem Jr.out (J:Jr cJ cS cM cN H j dx R L A es) (r:Rooms K C H R A S m) (k:∀ b,Out A b->H' b=H b):Jr cJ cS cM cN H' j dx R L A es :=
  ⟨by rw [k _ (r.outI J.ob (by show 2 < 5; decide))]; exact J.ob,by rw [k _ (r.outL J.li)]; exact J.li,fun e he=>⟨by rw [k _ (r.outI (J.de e he).1 (ZfK _))]; exact (J.de e he).1,(J.de e he).2⟩,J.nR,J.np⟩
theorem Rooms.lst (r:Rooms K C H R A S m) {L:Addr} {xs ys:List V} (hL:H L=some (.lst xs)) (nR:L ≠ R) (np:∀ i x,i < 16->A i=some x->L ≠ x.pr):Rooms K C (upd H L (.lst ys)) R A S m:=by
  have im:SameI H (upd H L (.lst ys)):=SameI.upd hL Zbo
  refine ⟨by rw [Zaj (Ne.symm nR)]; exact r.ob,fun i x hi hx=>?_,r.da,r.ds⟩
  have h:=r.ac i x hi hx
  obtain ⟨zs,e1,e2⟩:=h.pg
  obtain ⟨kvs,e3,e4⟩:=h.sto
  exact ⟨by rw [Zaj (Za2 h.ob hL (by intro z; cases z))]; exact h.ob,⟨zs,by rw [Zaj (Ne.symm (np i x hi hx))]; exact e1,e2.keep im⟩,kvs,by rw [Zaj (Za2 e3 hL (by intro z; cases z))]; exact e3,e4⟩
theorem Jr.push (J:Jr cJ cS cM cN H j dx R L A es) {e:DI} (he:H e.o=some (.ins (clsD cS cM cN e.d) e.dx (fldD e.d))) (hf:fitsD A e.d):Jr cJ cS cM cN (upd H L (.lst ((es.map fun e=>V.ref e.o) ++ [.ref e.o]))) j dx R L A (es ++ [e]):=by
  refine ⟨by rw [Zaj (Za2 J.ob J.li (by intro z; cases z))]; exact J.ob,by rw [Zag,List.map_append]; rfl,fun u hu=>?_,J.nR,J.np⟩
  rcases List.mem_append.mp hu with hu|hu
  . have h:=J.de u hu
    exact ⟨by rw [Zaj (Za2 h.1 J.li (by intro z; cases z))]; exact h.1,h.2⟩
  . rw [List.mem_singleton] at hu
    subst hu
    exact ⟨by rw [Zaj (Za2 he J.li (by intro z; cases z))]; exact he,hf⟩
theorem Jr.pop {e:DI} (J:Jr cJ cS cM cN H j dx R L A (es ++ [e])):Jr cJ cS cM cN (upd H L (.lst (es.map fun e=>V.ref e.o))) j dx R L A es :=
  ⟨by rw [Zaj (Za2 J.ob J.li (by intro z; cases z))]; exact J.ob,Zag,fun u hu=>let h:=J.de u (List.mem_append.mpr (.inl hu)); ⟨by rw [Zaj (Za2 h.1 J.li (by intro z; cases z))]; exact h.1,h.2⟩,J.nR,J.np⟩
end
theorem jb2 {m n:Nat} (h:m < n):n=(n - 1) + 1:=by omega
theorem jb3 {m e p:Nat} (h:m + e <= 1000000):m + (e - p) <= 1000000:=by omega
theorem jb5 {m e p:Nat} (h:p < e):m + (e - (p + 1)) + 1=m + (e - p):=by omega
noncomputable def Zki (cJ:Addr):Sp:=fun vs H Q _=>∃ (j dx R:Addr),vs=[.ref j,.ref R]/\H j=some (.ins cJ dx [])/\∀ L,H L=none->Q .non (upd (upd H L (.lst [])) j (.ins cJ dx (jF R L)))
noncomputable def spMark (cJ:Addr):Sp:=fun vs H Q _=>∃ (j dx R L:Addr) (xs:List V),vs=[.ref j]/\H j=some (.ins cJ dx (jF R L))/\H L=some (.lst xs)/\Q (.int (xs.length:Nat)) H
noncomputable def ZhI (K:PySem.W.Frag) (C cJ cS cM cN:Addr):Sp:=fun vs H Q _=>∃ (j dx R L:Addr) (A:Nat->Option AcI) (S:Nat->AcS) (m:Nat) (es:List DI) (e:DI),vs=[.ref j,.ref e.o]/\Jr cJ cS cM cN H j dx R L A es/\Rooms K C H R A S m/\H e.o=some (.ins (clsD cS cM cN e.d) e.dx (fldD e.d))/\fitsD A e.d/\m <= 1000000/\es.length < 1000000 /\
  ∀ H',(∀ b,Out A b->b ≠ L->H' b=H b)->Rooms K C H' R A (doneS S e.d) (m + 1)->Jr cJ cS cM cN H' j dx R L A (es ++ [e])->Q .non H'
noncomputable def spBack (K:PySem.W.Frag) (C cJ cS cM cN:Addr):Sp:=fun vs H Q _=>∃ (j dx R L:Addr) (A:Nat->Option AcI) (S0:Nat->AcS) (m:Nat) (es:List DI) (mk:Int),vs=[.ref j,.int mk]/\Jr cJ cS cM cN H j dx R L A es/\Rooms K C H R A (runS S0 (es.map (·.d))) m/\ZbF S0 (es.map (·.d))/\m + es.length <= 1000000 /\
  ∀ H',(∀ b,Out A b->b ≠ L->H' b=H b)->Rooms K C H' R A (runS S0 ((es.take mk.toNat).map (·.d))) (m + es.length)->ZbF S0 ((es.take mk.toNat).map (·.d))->Jr cJ cS cM cN H' j dx R L A (es.take mk.toNat)->Q .non H'
section
variable {P:Program} {w:World} {K:PySem.W.Frag} {mg:Str->Option Value} {base:Heap}
theorem ZcX:FnScope ["self", "rooms"] ["self", "rooms"] (Zab ZaN):=⟨rfl,rfl,rfl,by decide +kernel,rfl,by decide +kernel,by decide +kernel⟩
theorem ZcY   {cJournal:Addr} (D:Zal K cJournal "__init__" "Journal.__init__" ZaN) (tJournal:T_Journal K mg cJournal):ICal P w K mg base 1 "Journal" cJournal (Zki cJournal):=by
  refine Zem (N:=["self", "rooms"]) (ps:=["self", "rooms"]) D tJournal.k ZcX (fun vs H Q E h=>?_) (fun _ _ _ _ _ _ us hl=>bd2 (R:=fun us=>bindArgs _ ⟨us,[]⟩=pure (List.zip _ us)) (fun _ _=>rfl) us hl) (fun f cdv A outer s H vs Q E hr h=>?_)
  . obtain ⟨j,dx,R,rfl,_⟩:=h; rfl
  . obtain ⟨j,dx,R,rfl,ha,k⟩:=h
    refine ⟨_,(Zac (ZaO (pv 0) (pv 1) rfl)
      (Zad (ZaO (pv 0) (ZbL Zae) rfl))),?_⟩
    walk_at "nx"
    repeat walk_at "rdk"
    refine Zav ha tJournal.k.cl tJournal.n_rooms (by decide) ?_
    repeat walk_at "rdk"
    refine ⟨by decide,fun l hl=>?_⟩
    have nl:l ≠ j:=fun z=>by rw [z,Zag] at hl; cases hl
    have hlH:H l=none:=by rw [Zaj nl] at hl; exact hl
    repeat walk_at "rdk"
    refine Zav (by rw [Zaj (Ne.symm nl)]; exact Zag) tJournal.k.cl tJournal.n_deeds (by show 1 < 1000; decide) ?_
    have e:upd (upd (upd H j (.ins cJournal dx (putF "rooms" (.ref R) []))) l (.lst [])) j (.ins cJournal dx (putF "deeds" (.ref l) (putF "rooms" (.ref R) [])))=upd (upd H l (.lst [])) j (.ins cJournal dx (jF R l)):=by
      funext b
      unfold upd
      by_cases z:b=j
      . rw [if_pos z,if_pos z]; rfl
      . rw [if_neg z,if_neg z,if_neg z]
    rw [e]
    exact k l hlH
theorem Zex:FnScope ["self"] ["self"] (Zab Za6):=⟨rfl,rfl,rfl,by decide +kernel,rfl,by decide +kernel,by decide +kernel⟩
theorem Zey   {cJournal:Addr} (D:Zal K cJournal "mark" "Journal.mark" Za6) (tJournal:T_Journal K mg cJournal) (n_len:mg "len" = none):MCal P w K mg base 1 cJournal "mark" (spMark cJournal):=by
  refine ZaS (N:=["self"]) (ps:=["self"]) D tJournal.k.cl Zex (fun vs H Q E h=>?_) (fun _ _ _ _ _ _ us hl=>bd1 (R:=fun us=>bindArgs _ ⟨us,[]⟩=pure (List.zip _ us)) (fun _=>rfl) us hl) (fun f cdv A outer s H vs Q E hr h=>?_)
  . obtain ⟨j,dx,R,L,xs,rfl,_⟩:=h; rfl
  . obtain ⟨j,dx,R,L,xs,rfl,ha,hl,k⟩:=h
    refine ⟨_,(Zad (Zaq (ZaG Zb7 rfl n_len PySem.boot_len (Zaa (Zak (pv 0) rfl) Zae)))),?_⟩
    walk_at "nx"
    repeat walk_at "rdk"
    refine Zai ha tJournal.k.cl tJournal.n_deeds rfl ?_
    repeat walk_at "rdk"
    exact k
theorem ZdW:FnScope ["self", "deed"] ["self", "deed"] (Zab Za1):=⟨rfl,rfl,rfl,by decide +kernel,rfl,by decide +kernel,by decide +kernel⟩
theorem ZdX   {cJournal:Addr} {cSave:Addr} {cMove:Addr} {cNote:Addr} {cAccount:Addr} (D:Zal K cJournal "write" "Journal.write" Za1) (tJournal:T_Journal K mg cJournal) (tSave:T_Save K mg cSave) (tMove:T_Move K mg cMove) (tNote:T_Note K mg cNote) (tAccount:T_Account K mg cAccount) (m_Save_do:MCal P w K mg base 2 cSave "do" (spDo K cAccount cSave isSave)) (m_Move_do:MCal P w K mg base 2 cMove "do" (spDo K cAccount cMove isMove)) (m_Note_do:MCal P w K mg base 2 cNote "do" (spDo K cAccount cNote isNote)):MCal P w K mg base 3 cJournal "write" (ZhI K cAccount cJournal cSave cMove cNote):=by
  refine ZaS (N:=["self", "deed"]) (ps:=["self", "deed"]) D tJournal.k.cl ZdW (fun vs H Q E h=>?_) (fun _ _ _ _ _ _ us hl=>bd2 (R:=fun us=>bindArgs _ ⟨us,[]⟩=pure (List.zip _ us)) (fun _ _=>rfl) us hl) (fun f cdv A outer s H vs Q E hr h=>?_)
  . obtain ⟨j,dx,R,L,A,S,m,es,e,rfl,_⟩:=h; rfl
  . obtain ⟨j,dx,R,L,Ar,S,m,es,e,rfl,J,r,he,fit,hm,hel,k⟩:=h
    refine ⟨_,(Zac (Zat (Ziw (T:=TDo K cAccount cSave cMove cNote) (Zkh m_Save_do m_Move_do m_Note_do) (hr.mono (by decide)) (pv 1) (Zaa (Zak (pv 0) rfl) Zae)))
      (Zad (Zat (Zhi PySem.F.plainAttrs_list PySem.F.slot_list_append PySem.F.type_list_append ZbG (Zak (pv 0) rfl) (Zaa (pv 1) Zae))))),?_⟩
    walk_at "nx"
    repeat walk_at "rdk"
    refine Zdh ?_
    repeat walk_at "rdk"
    refine ⟨e.o,clsD cSave cMove cNote e.d,e.dx,fldD e.d,_,rfl,he,fld_do e.d,tdo_of K cAccount cSave cMove cNote e.d,?_⟩
    repeat walk_at "rdk"
    refine Zai J.ob tJournal.k.cl tJournal.n_rooms rfl ?_
    repeat walk_at "rdk"
    refine ⟨e.o,e.dx,R,e.d,Ar,S,m,rfl,ZcA e.d,he,r,fit,hm,fun H1 k1 r1=>?_⟩
    have J1:=J.out r k1
    have he1:H1 e.o=some (.ins (clsD cSave cMove cNote e.d) e.dx (fldD e.d)):=by rw [k1 _ (r.outI he (ZfK _))]; exact he
    repeat walk_at "rdk"
    refine Zai J1.ob tJournal.k.cl tJournal.n_deeds rfl ?_
    refine ⟨Zcd (Zaz J1.li),?_⟩
    repeat walk_at "rdk"
    refine ZbT J1.li (by rw [List.length_map]; exact Nat.lt_of_lt_of_le hel (by decide)) ?_
    repeat walk_at "rdk"
    exact k _ (fun b h1 h2=>by rw [Zaj h2]; exact k1 b h1) (r1.lst J1.li J1.nR J1.np) (J1.push he1 fit)
theorem ZcB:FnScope ["self", "mark", "deed"] ["self", "mark"] (Zab Za7):=⟨rfl,rfl,rfl,by decide +kernel,rfl,by decide +kernel,by decide +kernel⟩
theorem Zez   {cJournal:Addr} {cSave:Addr} {cMove:Addr} {cNote:Addr} {cAccount:Addr} (D:Zal K cJournal "back" "Journal.back" Za7) (tJournal:T_Journal K mg cJournal) (tSave:T_Save K mg cSave) (tMove:T_Move K mg cMove) (tNote:T_Note K mg cNote) (tAccount:T_Account K mg cAccount) (m_Save_undo:MCal P w K mg base 2 cSave "undo" (spUndo K cAccount cSave isSave)) (m_Move_undo:MCal P w K mg base 2 cMove "undo" (spUndo K cAccount cMove isMove)) (m_Note_undo:MCal P w K mg base 2 cNote "undo" (spUndo K cAccount cNote isNote)) (n_len:mg "len" = none) (n_max:mg "max" = none):MCal P w K mg base 3 cJournal "back" (spBack K cAccount cJournal cSave cMove cNote):=by
  refine ZaS (N:=["self", "mark", "deed"]) (ps:=["self", "mark"]) D tJournal.k.cl ZcB (fun vs H Q E h=>?_) (fun _ _ _ _ _ _ us hl=>bd2 (R:=fun us=>bindArgs _ ⟨us,[]⟩=pure (List.zip _ us)) (fun _ _=>rfl) us hl) (fun f cdv A outer s H vs Q E hr h=>?_)
  . obtain ⟨j,dx,R,L,A,S0,m,es,mk,rfl,_⟩:=h; rfl
  . obtain ⟨j,dx,R,L,Ar,S0,m,es,mk,rfl,J,r,ri,hm,k⟩:=h
    refine ⟨_,(Zad (Zil PassesOwn.never (ZaC Zhc (ZaG Zb7 rfl n_len PySem.boot_len (Zaa (Zak (pv 0) rfl) Zae)) (ZaG (ZjS rfl) rfl n_max PyProof.Rows.boot_max (Zaa (pv 1) (Zaa Zaf Zae))) (nomark _))
      (Zac (Zax (i:=2) ZcB.nd rfl (by first|exact Or.inl rfl|exact Or.inr rfl) (ZlP PySem.F.plainAttrs_list PySem.F.slot_list_pop PySem.F.type_list_pop ZlQ (Zak (pv 0) rfl)))
      (Zad (Zat (Ziw (T:=TUn K cAccount cSave cMove cNote) (Zkh m_Save_undo m_Move_undo m_Note_undo) (hr.mono (by decide)) (pv 2) (Zaa (Zak (pv 0) rfl) Zae))))))),?_⟩
    walk_at "nx"
    refine ⟨fun n σ' H'=>∃ q v,n=q/\min mk.toNat es.length <= q/\q <= es.length/\(∀ b,Out Ar b->b ≠ L->H' b=H b)/\Rooms K cAccount H' R Ar (runS S0 ((es.take q).map (·.d))) (m + (es.length - q))/\ZbF S0 ((es.take q).map (·.d))/\Jr cJournal cSave cMove cNote H' j dx R L Ar (es.take q)/\σ'=[some (.ref j),some (.int mk),v],⟨es.length,es.length,none,rfl,Nat.min_le_right _ _,Nat.le_refl _,fun _ _ _=>rfl,by rw [List.take_length,Nat.sub_self]; exact r,by rw [List.take_length]; exact ri,by rw [List.take_length]; exact J,rfl⟩,?_⟩
    rintro n σ' H' ⟨q,v,rfl,hq0,hq1,fr,r',ri',J',rfl⟩
    have hL:=J'.li
    repeat walk_at "rdk"
    refine Zai J'.ob tJournal.k.cl tJournal.n_deeds rfl ?_
    repeat walk_at "rdk"
    . rename_i hgt
      rw [List.length_map,List.length_take,Nat.min_eq_left hq1] at hgt
      have hgt2:mk.toNat < n:=by split at hgt <;> omega
      obtain ⟨p,rfl⟩:∃ p,n=p + 1:=⟨n - 1,jb2 hgt2⟩
      have hp:p < es.length:=hq1
      have htk:es.take (p + 1)=es.take p ++ [es[p]]:=List.take_succ_eq_append_getElem hp
      refine ⟨fun σ' H'=>∃ m',m' < p + 1/\_,fun _ _ h=>h,?_⟩
      rw [htk] at J' ri' r' hL
      rw [List.map_append] at ri' r'
      obtain ⟨de,fit⟩:=J'.de es[p] (List.mem_append.mpr (.inr (List.mem_singleton.mpr rfl)))
      generalize es[p]=e at *
      have J2:=J'.pop
      have r2:=r'.lst (ys:=(es.take p).map fun e=>V.ref e.o) hL J'.nR J'.np
      rw [List.map_append] at hL
      repeat walk_at "rdk"
      refine Zai J'.ob tJournal.k.cl tJournal.n_deeds rfl ?_
      refine ⟨Zcd (Zaz hL),?_⟩
      refine ZlV hL ?_
      have fr2:∀ b,Out Ar b->b ≠ L->(upd H' L (.lst ((es.take p).map fun e=>V.ref e.o))) b=H b:=fun b h1 h2=>by rw [Zaj h2]; exact fr b h1 h2
      have de2:(upd H' L (.lst ((es.take p).map fun e=>V.ref e.o))) e.o=some (.ins (clsD cSave cMove cNote e.d) e.dx (fldD e.d)):=by rw [Zaj (Za2 de hL (by intro z; cases z))]; exact de
      generalize upd H' L _=H2 at J2 r2 fr2 de2
      repeat walk_at "rdk"
      refine Zdh ?_
      repeat walk_at "rdk"
      refine ⟨e.o,clsD cSave cMove cNote e.d,e.dx,fldD e.d,_,rfl,de2,Zly e.d,tun_of K cAccount cSave cMove cNote e.d,?_⟩
      repeat walk_at "rdk"
      refine Zai J2.ob tJournal.k.cl tJournal.n_rooms rfl ?_
      repeat walk_at "rdk"
      refine ⟨e.o,e.dx,R,e.d,Ar,_,_,rfl,ZcA e.d,de2,r2,fit,jb3 hm,fun H3 k3 r3=>?_⟩
      have J3:=J2.out r2 k3
      obtain ⟨ri2,rd2⟩:=(Zcj _ _ _).mp ri'
      have e1:ZfJ (runS S0 ((es.take p).map (·.d) ++ [e].map (·.d))) e.d=runS S0 ((es.take p).map (·.d)):=by
        show ZfJ (runS S0 ((es.take p).map (·.d) ++ [e.d])) e.d=_
        rw [ZgN]
        exact ZhH rd2
      rw [e1] at r3
      repeat walk_at "rdk"
      refine ⟨p,Nat.lt_succ_self p,p,_,rfl,Nat.le_trans (Nat.min_le_left ..) (Nat.le_of_lt_succ hgt2),Nat.le_of_lt hp,fun b h1 h2=>by rw [k3 b h1]; exact fr2 b h1 h2,?_,ri2,J3,rfl⟩
      have em:m + (es.length - (p + 1)) + 1=m + (es.length - p):=jb5 hp
      rw [em] at r3
      exact r3
    . rename_i hgt
      rw [List.length_map,List.length_take,Nat.min_eq_left hq1] at hgt
      have hgt2:n <= mk.toNat:=by split at hgt <;> omega
      have et:es.take n=es.take mk.toNat:=by
        by_cases z:mk.toNat <= es.length
        . rw [show n=mk.toNat by omega]
        . rw [List.take_of_length_le (by omega),List.take_of_length_le (by omega)]
      rw [et] at r' ri' J'
      exact k H' fr (r'.le (by omega)) ri' J'
end
noncomputable def tellV:Dd->List V
  | .save s p o n=>[.str "save", .int s,.int p,.int o,.int n]
  | .move s t k=>[.str "move", .int s,.int t,.int k]
  | .note s n=>[.str "note", .int s,.int n]
noncomputable def tellDs:Dd->List Dt
  | .save s p o n=>[.str "save", .int s,.int p,.int o,.int n]
  | .move s t k=>[.str "move", .int s,.int t,.int k]
  | .note s n=>[.str "note", .int s,.int n]
noncomputable def tellD (d:Dd):Dt:=.tup (tellDs d)
theorem ZfL {K:PySem.W.Frag} {H:Hp} (d:Dd):DVs K H (tellDs d) (tellV d):=by
  cases d with
  | save=>exact Zao Zdc (Zao ZaQ (Zao ZaQ (Zao ZaQ (Zao ZaQ Zbq))))
  | move=>exact Zao Zdc (Zao ZaQ (Zao ZaQ (Zao ZaQ Zbq)))
  | note=>exact Zao Zdc (Zao ZaQ (Zao ZaQ Zbq))
theorem ZiB {K:PySem.W.Frag} {H:Hp}:∀ (ds:List Dt) (xs:List V),ds.length=xs.length->(∀ (i:Nat) (d:Dt) (x:V),ds[i]?=some d->xs[i]?=some x->DV K H d x)->DVs K H ds xs
  | [],[],_,_=>Zbq
  | d :: ds,x :: xs,hl,h=>Zao (h 0 d x rfl rfl) (ZiB ds xs (by simpa using hl) fun i d' x' h1 h2=>h (i + 1) d' x' (by simpa using h1) (by simpa using h2))
  | [],x :: xs,hl,_=>by simp at hl
  | d :: ds,[],hl,_=>by simp at hl
theorem Zkj {K:PySem.W.Frag} {H:Hp}:∀ {ds:List Dt} {xs:List V},DVs K H ds xs->ds.length=xs.length/\∀ (i:Nat) (d:Dt) (x:V),ds[i]?=some d->xs[i]?=some x->DV K H d x
  | [],xs,h=>by
    unfold DVs at h
    subst h
    exact ⟨rfl,fun i d x h=>by simp at h⟩
  | d :: ds,xs,h=>by
    unfold DVs at h
    obtain ⟨x,t,rfl,h1,h2⟩:=h
    obtain ⟨a,b⟩:=Zkj h2
    refine ⟨by simp [a],fun i d' x' e1 e2=>?_⟩
    cases i with
    | zero=>cases e1; cases e2; exact h1
    | succ i=>exact b i d' x' (by simpa using e1) (by simpa using e2)
theorem DVs.take {K:PySem.W.Frag} {H:Hp} {ds:List Dt} {xs:List V} (h:DVs K H ds xs) (n:Nat):DVs K H (ds.take n) (xs.take n):=by
  obtain ⟨a,b⟩:=Zkj h
  refine ZiB _ _ (by rw [List.length_take,List.length_take,a]) fun i d x h1 h2=>?_
  rw [List.getElem?_take] at h1 h2
  split at h1
  . rename_i hi
    rw [if_pos hi] at h2
    exact b i d x h1 h2
  . cases h1
theorem DVs.snoc {K:PySem.W.Frag} {H:Hp} {ds:List Dt} {xs:List V} {d:Dt} {x:V} (h:DVs K H ds xs) (h1:DV K H d x):DVs K H (ds ++ [d]) (xs ++ [x]):=by
  obtain ⟨a,b⟩:=Zkj h
  refine ZiB _ _ (by rw [List.length_append,List.length_append,a]; rfl) fun i d' x' e1 e2=>?_
  by_cases hi:i < ds.length
  . rw [List.getElem?_append_left hi] at e1
    rw [List.getElem?_append_left (by rw [<- a]; exact hi)] at e2
    exact b i d' x' e1 e2
  . rw [List.getElem?_append_right (by omega)] at e1
    rw [List.getElem?_append_right (by omega),<- a] at e2
    generalize i - ds.length=n at e1 e2
    cases n with
    | zero=>cases e1; cases e2; exact h1
    | succ n=>simp at e1
noncomputable def TupsAt (H:Hp) (ds:List Dd) (ts:List Addr):Prop:=ds.length=ts.length/\∀ (n:Nat) (d:Dd) (t:Addr),ds[n]?=some d->ts[n]?=some t->H t=some (.tup (tellV d))
theorem TupsAt.nil {H:Hp}:TupsAt H [] []:=⟨rfl,fun n d t h=>by simp at h⟩
theorem TupsAt.mono {H H':Hp} {ds:List Dd} {ts:List Addr} (h:TupsAt H ds ts) (k:∀ b xs,H b=some (.tup xs)->H' b=some (.tup xs)):TupsAt H' ds ts:=⟨h.1,fun n d t h1 h2=>k _ _ (h.2 n d t h1 h2)⟩
theorem TupsAt.snoc {H:Hp} {ds:List Dd} {ts:List Addr} {d:Dd} {t:Addr} (h:TupsAt H ds ts) (h1:H t=some (.tup (tellV d))):TupsAt H (ds ++ [d]) (ts ++ [t]):=by
  refine ⟨by rw [List.length_append,List.length_append,h.1]; rfl,fun n d' t' e1 e2=>?_⟩
  by_cases hi:n < ds.length
  . rw [List.getElem?_append_left hi] at e1
    rw [List.getElem?_append_left (by rw [<- h.1]; exact hi)] at e2
    exact h.2 n d' t' e1 e2
  . rw [List.getElem?_append_right (by omega)] at e1
    rw [List.getElem?_append_right (by have:=h.1; omega),<- h.1] at e2
    generalize n - ds.length=n at e1 e2
    cases n with
    | zero=>cases e1; cases e2; exact h1
    | succ n=>simp at e1
theorem TupsAt.take {H:Hp} {ds:List Dd} {ts:List Addr} (h:TupsAt H ds ts) (n:Nat):TupsAt H (ds.take n) (ts.take n):=by
  refine ⟨by rw [List.length_take,List.length_take,h.1],fun i d t e1 e2=>?_⟩
  rw [List.getElem?_take] at e1 e2
  split at e1
  . rename_i hi
    rw [if_pos hi] at e2
    exact h.2 i d t e1 e2
  . cases e1
theorem TupsAt.dv {K:PySem.W.Frag} {H:Hp} {ds:List Dd} {ts:List Addr} {q:Addr} (h:TupsAt H ds ts) (hq:H q=some (.lst (ts.map V.ref))):DV K H (.lst (ds.map tellD)) (.ref q):=by
  refine Zj4 (Zaz hq) (ZiB _ _ (by rw [List.length_map,List.length_map,h.1]) fun i d x e1 e2=>?_)
  rw [List.getElem?_map] at e1 e2
  obtain ⟨d',h1,rfl⟩:=Option.map_eq_some_iff.mp e1
  obtain ⟨t,h2,rfl⟩:=Option.map_eq_some_iff.mp e2
  exact Zeo (ZbS (h.2 i d' t h1 h2)) (ZfL d')
noncomputable def spTold (CD:Addr) (ok:Dd->Prop):Sp:=fun vs H Q _=>∃ (a dx:Addr) (d:Dd),vs=[.ref a]/\ok d/\H a=some (.ins CD dx (fldD d))/\∀ t,H t=none->Q (.ref t) (upd H t (.tup (tellV d)))
noncomputable def TTo (cS cM cN:Addr):Addr->Sp->Prop:=T3 cS cM cN (spTold cS isSave) (spTold cM isMove) (spTold cN isNote)
theorem ZlY (cS cM cN:Addr) (d:Dd):TTo cS cM cN (clsD cS cM cN d) (spTold (clsD cS cM cN d) (okOf d)):=by
  cases d with
  | save=>exact .inl ⟨rfl,rfl⟩
  | move=>exact .inr (.inl ⟨rfl,rfl⟩)
  | note=>exact .inr (.inr ⟨rfl,rfl⟩)
theorem ZiC (d:Dd):(fldD d).lookup (Str.ofString "told")=none:=by cases d <;> rfl
noncomputable def Zkk (cJ cS cM cN:Addr):Sp:=fun vs H Q _=>∃ (j dx R L:Addr) (A:Nat->Option AcI) (es:List DI),vs=[.ref j]/\Jr cJ cS cM cN H j dx R L A es/\es.length <= 1000 /\
  ∀ q ts H',Same H H'->H q=none->H' q=some (.lst (ts.map V.ref))->TupsAt H' (es.map (·.d)) ts->Q (.ref q) H'
section
variable {P:Program} {w:World} {K:PySem.W.Frag} {mg:Str->Option Value} {base:Heap}
theorem ZgO:FnScope ["self"] ["self"] (Zab Zbv):=⟨rfl,rfl,rfl,by decide +kernel,rfl,by decide +kernel,by decide +kernel⟩
theorem ZgP   {cSave:Addr} (D:Zal K cSave "told" "Save.told" Zbv) (tSave:T_Save K mg cSave):MCal P w K mg base 1 cSave "told" (spTold cSave isSave):=by
  refine ZaS (N:=["self"]) (ps:=["self"]) D tSave.k.cl ZgO (fun vs H Q E h=>?_) (fun _ _ _ _ _ _ us hl=>bd1 (R:=fun us=>bindArgs _ ⟨us,[]⟩=pure (List.zip _ us)) (fun _=>rfl) us hl) (fun f cdv A outer s H vs Q E hr h=>?_)
  . obtain ⟨a,dx,d,rfl,_⟩:=h; rfl
  . obtain ⟨a,dx,d,rfl,⟨s0,p,o,n,rfl⟩,ha,k⟩:=h
    refine ⟨_,(Zad (Zaq (ZbB (Zaa ZaJ (Zaa (Zak (pv 0) rfl) (Zaa (Zak (pv 0) rfl) (Zaa (Zak (pv 0) rfl) (Zaa (Zak (pv 0) rfl) Zae)))))))),?_⟩
    walk_at "nx"
    repeat walk_at "rdk"
    refine Zai ha tSave.k.cl tSave.n_slot rfl ?_
    repeat walk_at "rdk"
    refine Zai ha tSave.k.cl tSave.n_place rfl ?_
    repeat walk_at "rdk"
    refine Zai ha tSave.k.cl tSave.n_old rfl ?_
    repeat walk_at "rdk"
    refine Zai ha tSave.k.cl tSave.n_new rfl ?_
    repeat walk_at "rdk"
    refine ⟨show 5 <= sizeLine by decide,fun t ht=>?_⟩
    exact k t ht
theorem ZgQ:FnScope ["self"] ["self"] (Zab Zbx):=⟨rfl,rfl,rfl,by decide +kernel,rfl,by decide +kernel,by decide +kernel⟩
theorem ZgR   {cMove:Addr} (D:Zal K cMove "told" "Move.told" Zbx) (tMove:T_Move K mg cMove):MCal P w K mg base 1 cMove "told" (spTold cMove isMove):=by
  refine ZaS (N:=["self"]) (ps:=["self"]) D tMove.k.cl ZgQ (fun vs H Q E h=>?_) (fun _ _ _ _ _ _ us hl=>bd1 (R:=fun us=>bindArgs _ ⟨us,[]⟩=pure (List.zip _ us)) (fun _=>rfl) us hl) (fun f cdv A outer s H vs Q E hr h=>?_)
  . obtain ⟨a,dx,d,rfl,_⟩:=h; rfl
  . obtain ⟨a,dx,d,rfl,⟨s0,t0,kk,rfl⟩,ha,k⟩:=h
    refine ⟨_,(Zad (Zaq (ZbB (Zaa ZaJ (Zaa (Zak (pv 0) rfl) (Zaa (Zak (pv 0) rfl) (Zaa (Zak (pv 0) rfl) Zae))))))),?_⟩
    walk_at "nx"
    repeat walk_at "rdk"
    refine Zai ha tMove.k.cl tMove.n_slot rfl ?_
    repeat walk_at "rdk"
    refine Zai ha tMove.k.cl tMove.n_taker rfl ?_
    repeat walk_at "rdk"
    refine Zai ha tMove.k.cl tMove.n_many rfl ?_
    repeat walk_at "rdk"
    refine ⟨show 4 <= sizeLine by decide,fun t ht=>?_⟩
    exact k t ht
theorem ZgS:FnScope ["self"] ["self"] (Zab Zby):=⟨rfl,rfl,rfl,by decide +kernel,rfl,by decide +kernel,by decide +kernel⟩
theorem ZgT   {cNote:Addr} (D:Zal K cNote "told" "Note.told" Zby) (tNote:T_Note K mg cNote):MCal P w K mg base 1 cNote "told" (spTold cNote isNote):=by
  refine ZaS (N:=["self"]) (ps:=["self"]) D tNote.k.cl ZgS (fun vs H Q E h=>?_) (fun _ _ _ _ _ _ us hl=>bd1 (R:=fun us=>bindArgs _ ⟨us,[]⟩=pure (List.zip _ us)) (fun _=>rfl) us hl) (fun f cdv A outer s H vs Q E hr h=>?_)
  . obtain ⟨a,dx,d,rfl,_⟩:=h; rfl
  . obtain ⟨a,dx,d,rfl,⟨s0,n,rfl⟩,ha,k⟩:=h
    refine ⟨_,(Zad (Zaq (ZbB (Zaa ZaJ (Zaa (Zak (pv 0) rfl) (Zaa (Zak (pv 0) rfl) Zae)))))),?_⟩
    walk_at "nx"
    repeat walk_at "rdk"
    refine Zai ha tNote.k.cl tNote.n_slot rfl ?_
    repeat walk_at "rdk"
    refine Zai ha tNote.k.cl tNote.n_number rfl ?_
    repeat walk_at "rdk"
    refine ⟨show 3 <= sizeLine by decide,fun t ht=>?_⟩
    exact k t ht
theorem ZeA:FnScope ["self"] ["self"] (Zab ZaW):=⟨rfl,rfl,rfl,by decide +kernel,rfl,by decide +kernel,by decide +kernel⟩
theorem ZeB   {cJournal:Addr} {cSave:Addr} {cMove:Addr} {cNote:Addr} (D:Zal K cJournal "told" "Journal.told" ZaW) (tJournal:T_Journal K mg cJournal) (tSave:T_Save K mg cSave) (tMove:T_Move K mg cMove) (tNote:T_Note K mg cNote) (m_Save_told:MCal P w K mg base 1 cSave "told" (spTold cSave isSave)) (m_Move_told:MCal P w K mg base 1 cMove "told" (spTold cMove isMove)) (m_Note_told:MCal P w K mg base 1 cNote "told" (spTold cNote isNote)):MCal P w K mg base 2 cJournal "told" (Zkk cJournal cSave cMove cNote):=by
  refine ZaS (N:=["self"]) (ps:=["self"]) D tJournal.k.cl ZeA (fun vs H Q E h=>?_) (fun _ _ _ _ _ _ us hl=>bd1 (R:=fun us=>bindArgs _ ⟨us,[]⟩=pure (List.zip _ us)) (fun _=>rfl) us hl) (fun f cdv A outer s H vs Q E hr h=>?_)
  . obtain ⟨j,dx,R,L,A,es,rfl,_⟩:=h; rfl
  . obtain ⟨j,dx,R,L,Ar,es,rfl,J,hel,k⟩:=h
    refine ⟨_,(Zad (Zaq (Zhn ["deed"] rfl (show CompScope (Zab ZaW) ["self"] ["deed"] _ from ⟨rfl,by decide +kernel,by decide +kernel,by decide +kernel,by decide +kernel,by decide +kernel⟩) (ZcP (Zak (pv 0) rfl)) (fun _ _ _ _ _=>(Zbr (i:=0) (show (["deed", "self"]:List Str).Nodup by decide +kernel) rfl (Or.inl rfl) (.inr rfl))) (fun _ _ _ _ _=>Zfq) (fun _ _ _ _ _=>(Zen (T:=TTo cSave cMove cNote) (Zkh m_Save_told m_Move_told m_Note_told) (hr.mono (by decide)) (pv 0)))))),?_⟩
    walk_at "nx"
    have big:(1001:Nat) <= sizeLine:=by decide
    repeat walk_at "rdk"
    refine Zfr (Zcc ?_)
    repeat walk_at "rdk"
    refine Zai J.ob tJournal.k.cl tJournal.n_deeds rfl ?_
    refine ⟨L,rfl,⟨_,Zaz J.li⟩,fun q hq=>?_⟩
    refine Zeq (fun i H'=>Same H H'/\∃ ts,H' q=some (.lst (ts.map V.ref))/\TupsAt H' ((es.take i).map (·.d)) ts) ⟨Same.new hq,[],Zag,TupsAt.nil⟩ (fun i H' ⟨s,_⟩=>Zaz (s _ _ J.li)) ?_ ?_
    . rintro i x H' hx ⟨s1,ts,hts,T⟩
      rw [List.getElem?_map] at hx
      obtain ⟨e,he,rfl⟩:=Option.map_eq_some_iff.mp hx
      obtain ⟨hi,ei⟩:=List.getElem?_eq_some_iff.mp he
      have de:=s1 _ _ (J.de e (List.mem_of_getElem? he)).1
      refine Zhq ?_
      refine iteT ?_
      refine Zdh ?_
      repeat walk_at "rdk"
      refine ⟨e.o,clsD cSave cMove cNote e.d,e.dx,fldD e.d,_,rfl,de,ZiC e.d,ZlY cSave cMove cNote e.d,?_⟩
      repeat walk_at "rdk"
      refine ⟨e.o,e.dx,e.d,rfl,ZcA e.d,de,fun t ht=>?_⟩
      have hl:ts.length <= 1000:=by
        rw [<- T.1,List.length_map,List.length_take]
        omega
      have hq2:=(Same.new ht (o:=.tup (tellV e.d))) _ _ hts
      refine ⟨_,hq2,by rw [List.length_map]; omega,⟨(s1.newT ht).wr hq,ts ++ [t],by rw [Zag,List.map_append]; rfl,?_⟩,_,rfl⟩
      have im:∀ b xs,H' b=some (.tup xs)->(upd (upd H' t (.tup (tellV e.d))) q (.lst (ts.map V.ref ++ [.ref t]))) b=some (.tup xs):=fun b xs h=>by
        rw [Zaj (Za2 h hts (by intro z; cases z))]
        exact (Same.new ht) _ _ h
      have ht2:(upd (upd H' t (.tup (tellV e.d))) q (.lst (ts.map V.ref ++ [.ref t]))) t=some (.tup (tellV e.d)):=by
        rw [Zaj (fun z=>by rw [z] at ht; rw [ht] at hts; cases hts)]; exact Zag
      rw [List.take_succ_eq_append_getElem hi,ei,List.map_append]
      exact (T.mono im).snoc ht2
    . rintro H' ⟨s1,ts,hts,T⟩
      rw [List.length_map,List.take_length] at T
      repeat walk_at "rdk"
      exact k q ts H' s1 hq hts T
end
structure FrS where
  kind:Str
  who:Int
  whose:Int
  caller:Int
  coin:Int
  word:Int
  given:Int
  depth:Int
  looking:Bool
  used:Int
  stack:List Int
  row:Int
  fin:Option Str
  answer:Int
structure FrI where
  a:Addr
  dx:Addr
  ST:Addr
  SS:Addr
noncomputable def endV:Option Str->V
  | none=>.non
  | some s=>.str s
noncomputable def fldF (f:FrI) (x:FrS):List (Str × V):=[("kind", .str x.kind),("who", .int x.who),("whose", .int x.whose),("caller", .int x.caller),("coin", .int x.coin),("word", .int x.word),("given", .int x.given),("depth", .int x.depth),("looking", .bl x.looking),("used", .int x.used),("stack", .ref f.ST),("row", .int x.row),("steps", .ref f.SS),("end", endV x.fin),("answer", .int x.answer)]
structure FrAt (cF:Addr) (H:Hp) (f:FrI) (x:FrS) (vs:List V):Prop where
  ob:H f.a=some (.ins cF f.dx (fldF f x))
  st:H f.ST=some (.lst (x.stack.map V.int))
  ss:H f.SS=some (.lst vs)
  ne:f.ST ≠ f.SS
section
variable {cF:Addr} {H H':Hp} {f:FrI} {x:FrS} {vs:List V}
theorem FrAt.aST (F:FrAt cF H f x vs):f.a ≠ f.ST:=Za2 F.ob F.st (by intro z; cases z)
theorem FrAt.aSS (F:FrAt cF H f x vs):f.a ≠ f.SS:=Za2 F.ob F.ss (by intro z; cases z)
theorem FrAt.setST (F:FrAt cF H f x vs) (s:List Int):FrAt cF (upd H f.ST (.lst (s.map V.int))) f { x with stack:=s } vs :=
  ⟨by rw [Zaj F.aST]; exact F.ob,Zag,by rw [Zaj (Ne.symm F.ne)]; exact F.ss,F.ne⟩
theorem FrAt.setSS (F:FrAt cF H f x vs) (ws:List V):FrAt cF (upd H f.SS (.lst ws)) f x ws :=
  ⟨by rw [Zaj F.aSS]; exact F.ob,by rw [Zaj F.ne]; exact F.st,Zag,F.ne⟩
theorem FrAt.setF (F:FrAt cF H f x vs) (y:FrS) (e:y.stack=x.stack):FrAt cF (upd H f.a (.ins cF f.dx (fldF f y))) f y vs :=
  ⟨Zag,by rw [Zaj (Ne.symm F.aST),e]; exact F.st,by rw [Zaj (Ne.symm F.aSS)]; exact F.ss,F.ne⟩
theorem FrAt.kept {X:Addr->Prop} (F:FrAt cF H f x vs) (k:KeptX X H H') (h1:¬ X f.a) (h2:¬ X f.ST) (h3:¬ X f.SS):FrAt cF H' f x vs :=
  ⟨k _ _ F.ob h1,k _ _ F.st h2,k _ _ F.ss h3,F.ne⟩
theorem FrAt.same (F:FrAt cF H f x vs) (s:Same H H'):FrAt cF H' f x vs:=⟨s _ _ F.ob,s _ _ F.st,s _ _ F.ss,F.ne⟩
theorem FrAt.put (F:FrAt cF H f x vs) {s:List Int} (k:KeptX (·=f.ST) H H') (e:H' f.ST=some (.lst (s.map V.int))):FrAt cF H' f { x with stack:=s } vs :=
  ⟨k _ _ F.ob F.aST,e,k _ _ F.ss (Ne.symm F.ne),F.ne⟩
end
noncomputable def frame0 (kind:Str) (who whose caller coin word given depth:Int) (looking:Bool):FrS:=⟨kind,who,whose,caller,coin,word,given,depth,looking,0,[],0,none,0⟩
noncomputable def ZeC (cF:Addr):Sp:=fun vs H Q _=>∃ (a dx:Addr) (kind:Str) (who whose caller coin word given depth:Int) (looking:Bool),vs=[.ref a,.str kind,.int who,.int whose,.int caller,.int coin,.int word,.int given,.int depth,.bl looking]/\H a=some (.ins cF dx []) /\
  ∀ ST SS H',H ST=none->H SS=none->FrAt cF H' ⟨a,dx,ST,SS⟩ (frame0 kind who whose caller coin word given depth looking) []->KeptX (·=a) H H'->Q .non H'
noncomputable def spLeft (cF:Addr):Sp:=fun vs H Q _=>∃ (f:FrI) (x:FrS) (ws:List V),vs=[.ref f.a]/\FrAt cF H f x ws/\Q (.int (x.given - x.used)) H
noncomputable def Zkl (K:PySem.W.Frag) (cF:Addr):Sp:=fun vs H Q _=>∃ (f:FrI) (x:FrS) (ws:List V) (p:Addr) (w:Str) (n:Option Int) (r t l pr d:Int),vs=[.ref f.a,.ref p]/\FrAt cF H f x ws/\ZbI K H p w n/\Zci w n=some r/\RT.lookup w=some (t,l,pr,d)/\Q (.bl (decide ((x.stack.length:Int) < t + r))) H
noncomputable def spFull (K:PySem.W.Frag) (cF:Addr):Sp:=fun vs H Q _=>∃ (f:FrI) (x:FrS) (ws:List V) (p:Addr) (w:Str) (n:Option Int) (r t l pr d:Int),vs=[.ref f.a,.ref p]/\FrAt cF H f x ws/\ZbI K H p w n/\Zci w n=some r/\RT.lookup w=some (t,l,pr,d)/\Q (.bl (decide (24 < (x.stack.length:Int) - (t + r) + (l + r)))) H
noncomputable def ZbX (cF:Addr):Sp:=fun vs H Q _=>∃ (f:FrI) (x:FrS) (ws:List V) (s t:List Int),vs=[.ref f.a,.int (t.length:Nat)]/\FrAt cF H f x ws/\x.stack=s ++ t/\t.length <= 1000 /\
  ∀ p H',H p=none->KeptX (·=f.ST) H H'->FrAt cF H' f { x with stack:=s } ws->H' p=some (.lst (t.map V.int))->Q (.ref p) H'
noncomputable def spLay (cF:Addr):Sp:=fun vs H Q _=>∃ (f:FrI) (x:FrS) (ws:List V) (k:Int),vs=[.ref f.a,.int k]/\FrAt cF H f x ws/\x.stack.length <= 1000/\∀ H',KeptX (·=f.ST) H H'->FrAt cF H' f { x with stack:=x.stack ++ [k] } ws->Q .non H'
noncomputable def ZcJ (cF:Addr):Sp:=fun vs H Q _=>∃ (f:FrI) (x:FrS) (ws:List V) (e:Str) (k:Int),vs=[.ref f.a,.str e,.int k]/\FrAt cF H f x ws/\∀ H',KeptX (·=f.a) H H'->FrAt cF H' f { x with fin:=some e,answer:=k } ws->Q .non H'
noncomputable def treeV (x:FrS) (L:Addr):List V:=[.str x.kind,.int x.who,.int x.whose,.int x.caller,.int x.coin,.int x.word,.int x.given,endV x.fin,.int x.answer,.int x.used,.ref L]
noncomputable def spTree (cF:Addr):Sp:=fun vs H Q _=>∃ (f:FrI) (x:FrS) (ws:List V),vs=[.ref f.a]/\FrAt cF H f x ws/\∀ p L H',Same H H'->H p=none->H L=none->H' L=some (.lst ws)->H' p=some (.tup (treeV x L))->Q (.ref p) H'
section
variable {P:Program} {w:World} {K:PySem.W.Frag} {mg:Str->Option Value} {base:Heap}
theorem ZfM:FnScope ["self"] ["self"] (Zab Zbj):=⟨rfl,rfl,rfl,by decide +kernel,rfl,by decide +kernel,by decide +kernel⟩
theorem ZfN   {cFrame:Addr} (D:Zal K cFrame "left" "Frame.left" Zbj) (tFrame:T_Frame K mg cFrame):MCal P w K mg base 1 cFrame "left" (spLeft cFrame):=by
  refine ZaS (N:=["self"]) (ps:=["self"]) D tFrame.k.cl ZfM (fun vs H Q E h=>?_) (fun _ _ _ _ _ _ us hl=>bd1 (R:=fun us=>bindArgs _ ⟨us,[]⟩=pure (List.zip _ us)) (fun _=>rfl) us hl) (fun f cdv A outer s H vs Q E hr h=>?_)
  . obtain ⟨f,x,ws,rfl,_⟩:=h; rfl
  . obtain ⟨fr,x,ws,rfl,F,k⟩:=h
    refine ⟨_,(Zad (Zaq (ZaH Ze4 (Zak (pv 0) rfl) (Zak (pv 0) rfl)))),?_⟩
    walk_at "nx"
    repeat walk_at "rdk"
    refine Zai F.ob tFrame.k.cl tFrame.n_given rfl ?_
    repeat walk_at "rdk"
    refine Zai F.ob tFrame.k.cl tFrame.n_used rfl ?_
    repeat walk_at "rdk"
    exact k
theorem Zdi:FnScope ["self", "row"] ["self", "row"] (Zab ZaP):=⟨rfl,rfl,rfl,by decide +kernel,rfl,by decide +kernel,by decide +kernel⟩
theorem Zdj   {cFrame:Addr} (D:Zal K cFrame "short_for" "Frame.short_for" ZaP) (tFrame:T_Frame K mg cFrame) (c_takes:Cal P w K mg base 2 "takes" (ZfD K)) (n_len:mg "len" = none):MCal P w K mg base 3 cFrame "short_for" (Zkl K cFrame):=by
  refine ZaS (N:=["self", "row"]) (ps:=["self", "row"]) D tFrame.k.cl Zdi (fun vs H Q E h=>?_) (fun _ _ _ _ _ _ us hl=>bd2 (R:=fun us=>bindArgs _ ⟨us,[]⟩=pure (List.zip _ us)) (fun _ _=>rfl) us hl) (fun f cdv A outer s H vs Q E hr h=>?_)
  . obtain ⟨f,x,ws,p,w,n,r,t,l,pr,d,rfl,_⟩:=h; rfl
  . obtain ⟨fr,x,ws,p,wd,n,r,t,l,pr,d,rfl,F,hp,e1,e2,k⟩:=h
    refine ⟨_,(Zad (Zaq (Zbs ZkQ (ZaG Zb7 rfl n_len PySem.boot_len (Zaa (Zak (pv 0) rfl) Zae)) (ZaF c_takes (hr.mono (by decide)) rfl (Zaa (pv 1) Zae)) (nomark _)))),?_⟩
    walk_at "nx"
    have hST:=F.st
    repeat walk_at "rdk"
    refine Zai F.ob tFrame.k.cl tFrame.n_stack rfl ?_
    repeat walk_at "rdk"
    refine ⟨p,wd,n,r,t,l,pr,d,rfl,hp,e1,e2,?_⟩
    repeat walk_at "rdk"
    rw [List.length_map]
    exact k
theorem ZcL:FnScope ["self", "row"] ["self", "row"] (Zab ZaL):=⟨rfl,rfl,rfl,by decide +kernel,rfl,by decide +kernel,by decide +kernel⟩
theorem ZcM   {cFrame:Addr} (D:Zal K cFrame "full_behind" "Frame.full_behind" ZaL) (tFrame:T_Frame K mg cFrame) (c_leaves:Cal P w K mg base 2 "leaves" (Ziz K)) (c_takes:Cal P w K mg base 2 "takes" (ZfD K)) (n_len:mg "len" = none) (g_MOST_ON_STACK:ZaU mg "MOST_ON_STACK" (.int 24)):MCal P w K mg base 3 cFrame "full_behind" (spFull K cFrame):=by
  refine ZaS (N:=["self", "row"]) (ps:=["self", "row"]) D tFrame.k.cl ZcL (fun vs H Q E h=>?_) (fun _ _ _ _ _ _ us hl=>bd2 (R:=fun us=>bindArgs _ ⟨us,[]⟩=pure (List.zip _ us)) (fun _ _=>rfl) us hl) (fun f cdv A outer s H vs Q E hr h=>?_)
  . obtain ⟨f,x,ws,p,w,n,r,t,l,pr,d,rfl,_⟩:=h; rfl
  . obtain ⟨fr,x,ws,p,wd,n,r,t,l,pr,d,rfl,F,hp,e1,e2,k⟩:=h
    refine ⟨_,(Zad (Zaq (Zbs Zhc (ZaH ZbK (ZaH Ze4 (ZaG Zb7 rfl n_len PySem.boot_len (Zaa (Zak (pv 0) rfl) Zae)) (ZaF c_takes (hr.mono (by decide)) rfl (Zaa (pv 1) Zae))) (ZaF c_leaves (hr.mono (by decide)) rfl (Zaa (pv 1) Zae))) (ZbH rfl g_MOST_ON_STACK) (nomark _)))),?_⟩
    walk_at "nx"
    have hST:=F.st
    repeat walk_at "rdk"
    refine Zai F.ob tFrame.k.cl tFrame.n_stack rfl ?_
    repeat walk_at "rdk"
    refine ⟨p,wd,n,r,t,l,pr,d,rfl,hp,e1,e2,?_⟩
    repeat walk_at "rdk"
    refine ⟨p,wd,n,r,t,l,pr,d,rfl,hp,e1,e2,?_⟩
    repeat walk_at "rdk"
    rw [List.length_map]
    exact k
theorem Zb1:FnScope ["self", "many", "numbers", "turn"] ["self", "many"] (Zab Zbf):=⟨rfl,rfl,rfl,by decide +kernel,rfl,by decide +kernel,by decide +kernel⟩
theorem ZeX   {cFrame:Addr} (D:Zal K cFrame "taken" "Frame.taken" Zbf) (tFrame:T_Frame K mg cFrame) (n_range:mg "range" = none) (n_list:mg "list" = none) (n_reversed:mg "reversed" = none):MCal P w K mg base 1 cFrame "taken" (ZbX cFrame):=by
  refine ZaS (N:=["self", "many", "numbers", "turn"]) (ps:=["self", "many"]) D tFrame.k.cl Zb1 (fun vs H Q E h=>?_) (fun _ _ _ _ _ _ us hl=>bd2 (R:=fun us=>bindArgs _ ⟨us,[]⟩=pure (List.zip _ us)) (fun _ _=>rfl) us hl) (fun f cdv A outer s H vs Q E hr h=>?_)
  . obtain ⟨f,x,ws,s,t,rfl,_⟩:=h; rfl
  . obtain ⟨fr,x,ws,s1,t,rfl,F,hx,ht,k⟩:=h
    refine ⟨_,(Zac (Zax (i:=2) Zb1.nd rfl (by first|exact Or.inl rfl|exact Or.inr rfl) (ZbL Zae))
      (Zac (Zea PassesOwn.never rfl (Zc6 rfl n_range (Zaa (pv 1) Zae)) (Zbr (i:=3) Zb1.nd rfl (by first|exact Or.inl rfl|exact Or.inr rfl))
      (Zad (Zat (Zhi PySem.F.plainAttrs_list PySem.F.slot_list_append PySem.F.type_list_append ZbG (pv 2) (Zaa (ZlP PySem.F.plainAttrs_list PySem.F.slot_list_pop PySem.F.type_list_pop ZlQ (Zak (pv 0) rfl)) Zae)))))
      (Zad (Zaq (Zi3 rfl rfl n_list rfl n_reversed (Zaa (pv 2) Zae)))))),?_⟩
    walk_at "nx"
    repeat walk_at "rdk"
    refine ⟨by decide,fun nl hnl=>?_⟩
    repeat walk_at "rdk"
    refine ZdO (Zdb ?_)
    repeat walk_at "rdk"
    refine ⟨_,rfl,by omega,by omega,?_⟩
    rw [Int.toNat_natCast]
    refine Zc7 (fun i σ' H'=>KeptX (·=fr.ST) H H'/\H' nl=some (.lst (((t.drop (t.length - i)).reverse).map V.int))/\H' fr.ST=some (.lst ((s1 ++ t.take (t.length - i)).map V.int))/\∃ v,σ'=[some (.ref fr.a),some (.int (t.length:Nat)),some (.ref nl),v]) ⟨KeptX.new hnl,?_,?_,_,rfl⟩ ?_ ?_
    . rw [Nat.sub_zero,List.drop_length]; exact Zag
    . rw [Nat.sub_zero,List.take_length,Zaj (Zah F.st hnl),<- hx]; exact F.st
    . rintro i σ' H' hi ⟨k1,h1,h2,v,rfl⟩
      obtain ⟨j,hj⟩:∃ j,t.length - i=j + 1:=⟨t.length - i - 1,by omega⟩
      have hjl:j < t.length:=by omega
      have e1:t.take (t.length - i)=t.take j ++ [t[j]]:=by rw [hj]; exact List.take_succ_eq_append_getElem hjl
      have e2:t.drop j=t[j] :: t.drop (t.length - i):=by rw [hj]; exact List.drop_eq_getElem_cons hjl
      have e3:t.length - (i + 1)=j:=by omega
      rw [e3,e2]
      rw [e1,<- List.append_assoc,List.map_append] at h2
      have hob:H' fr.a=some (.ins cFrame fr.dx (fldF fr x)):=k1 _ _ F.ob F.aST
      generalize t[j]=z at *
      have nln:nl ≠ fr.ST:=Ne.symm (Zah F.st hnl)
      repeat walk_at "rdk"
      refine ⟨Zcd (Zaz h1),?_⟩
      repeat walk_at "rdk"
      refine Zai hob tFrame.k.cl tFrame.n_stack rfl ?_
      refine ⟨Zcd (Zaz h2),?_⟩
      refine ZlV h2 ?_
      repeat walk_at "rdk"
      refine ZbT (xs:=((t.drop (t.length - i)).reverse).map V.int) (by rw [Zaj nln]; exact h1) (by rw [List.length_map,List.length_reverse,List.length_drop]; exact Nat.lt_of_le_of_lt (show _ <= 1000 by omega) (by decide)) ?_
      repeat walk_at "rdk"
      refine ⟨fun b o e n=>by rw [Zaj (Zah e hnl),Zaj n]; exact k1 b o e n,?_,?_,_,rfl⟩
      . rw [Zag,List.reverse_cons,List.map_append]; rfl
      . rw [Zaj (Ne.symm nln),Zag]
    . rintro σ' H' ⟨k1,h1,h2,v,rfl⟩
      rw [Nat.sub_self,List.drop_zero] at h1
      rw [Nat.sub_self,List.take_zero,List.append_nil] at h2
      have F1:=F.put k1 h2
      repeat walk_at "rdk"
      refine Zi2 ?_
      repeat walk_at "rdk"
      refine ⟨nl,_,rfl,Zaz h1,fun l hl=>?_⟩
      rw [<- List.map_reverse,List.reverse_reverse]
      have hlH:H l=none:=by
        cases e:H l with
        | none=>rfl
        | some o =>
          by_cases q:l=fr.ST
          . rw [q,h2] at hl; cases hl
          . rw [k1 l o e q] at hl; cases hl
      exact k l _ hlH (k1.trans (KeptX.new hl)) (F1.same (Same.new hl)) Zag
theorem ZgU:FnScope ["self", "number"] ["self", "number"] (Zab Zbz):=⟨rfl,rfl,rfl,by decide +kernel,rfl,by decide +kernel,by decide +kernel⟩
theorem ZgV   {cFrame:Addr} (D:Zal K cFrame "lay" "Frame.lay" Zbz) (tFrame:T_Frame K mg cFrame):MCal P w K mg base 1 cFrame "lay" (spLay cFrame):=by
  refine ZaS (N:=["self", "number"]) (ps:=["self", "number"]) D tFrame.k.cl ZgU (fun vs H Q E h=>?_) (fun _ _ _ _ _ _ us hl=>bd2 (R:=fun us=>bindArgs _ ⟨us,[]⟩=pure (List.zip _ us)) (fun _ _=>rfl) us hl) (fun f cdv A outer s H vs Q E hr h=>?_)
  . obtain ⟨f,x,ws,k,rfl,_⟩:=h; rfl
  . obtain ⟨fr,x,ws,n,rfl,F,hl,k⟩:=h
    refine ⟨_,(Zad (Zat (Zhi PySem.F.plainAttrs_list PySem.F.slot_list_append PySem.F.type_list_append ZbG (Zak (pv 0) rfl) (Zaa (pv 1) Zae)))),?_⟩
    walk_at "nx"
    repeat walk_at "rdk"
    refine Zai F.ob tFrame.k.cl tFrame.n_stack rfl ?_
    refine ⟨Zcd (Zaz F.st),?_⟩
    repeat walk_at "rdk"
    refine ZbT F.st (by rw [List.length_map]; exact Nat.lt_of_le_of_lt hl (by decide)) ?_
    repeat walk_at "rdk"
    have:=F.setST (x.stack ++ [n])
    rw [List.map_append] at this
    exact k _ (KeptX.upd rfl) this
theorem ZeD:FnScope ["self", "end", "answer"] ["self", "end", "answer"] (Zab Za5):=⟨rfl,rfl,rfl,by decide +kernel,rfl,by decide +kernel,by decide +kernel⟩
theorem ZeE   {cFrame:Addr} (D:Zal K cFrame "finish" "Frame.finish" Za5) (tFrame:T_Frame K mg cFrame):MCal P w K mg base 1 cFrame "finish" (ZcJ cFrame):=by
  refine ZaS (N:=["self", "end", "answer"]) (ps:=["self", "end", "answer"]) D tFrame.k.cl ZeD (fun vs H Q E h=>?_) (fun _ _ _ _ _ _ us hl=>bd3 (R:=fun us=>bindArgs _ ⟨us,[]⟩=pure (List.zip _ us)) (fun _ _ _=>rfl) us hl) (fun f cdv A outer s H vs Q E hr h=>?_)
  . obtain ⟨f,x,ws,e,k,rfl,_⟩:=h; rfl
  . obtain ⟨fr,x,ws,e,n,rfl,F,k⟩:=h
    refine ⟨_,(Zac (ZaO (pv 0) (pv 1) rfl)
      (Zad (ZaO (pv 0) (pv 2) rfl))),?_⟩
    walk_at "nx"
    repeat walk_at "rdk"
    refine Zav F.ob tFrame.k.cl tFrame.n_end (by show 15 < 1000; decide) ?_
    repeat walk_at "rdk"
    refine Zav Zag tFrame.k.cl tFrame.n_answer (by show 15 < 1000; decide) ?_
    rw [ZaR]
    exact k _ (KeptX.upd rfl) (F.setF { x with fin:=some e,answer:=n } rfl)
theorem ZfO:FnScope ["self"] ["self"] (Zab Zbk):=⟨rfl,rfl,rfl,by decide +kernel,rfl,by decide +kernel,by decide +kernel⟩
theorem ZfP   {cFrame:Addr} (D:Zal K cFrame "tree" "Frame.tree" Zbk) (tFrame:T_Frame K mg cFrame) (n_list:mg "list" = none):MCal P w K mg base 1 cFrame "tree" (spTree cFrame):=by
  refine ZaS (N:=["self"]) (ps:=["self"]) D tFrame.k.cl ZfO (fun vs H Q E h=>?_) (fun _ _ _ _ _ _ us hl=>bd1 (R:=fun us=>bindArgs _ ⟨us,[]⟩=pure (List.zip _ us)) (fun _=>rfl) us hl) (fun f cdv A outer s H vs Q E hr h=>?_)
  . obtain ⟨f,x,ws,rfl,_⟩:=h; rfl
  . obtain ⟨fr,x,ws,rfl,F,k⟩:=h
    refine ⟨_,(Zad (Zaq (ZbB (Zaa (Zak (pv 0) rfl) (Zaa (Zak (pv 0) rfl) (Zaa (Zak (pv 0) rfl) (Zaa (Zak (pv 0) rfl) (Zaa (Zak (pv 0) rfl) (Zaa (Zak (pv 0) rfl) (Zaa (Zak (pv 0) rfl) (Zaa (Zak (pv 0) rfl) (Zaa (Zak (pv 0) rfl) (Zaa (Zak (pv 0) rfl) (Zaa (Zb5 Zj2 rfl n_list PyProof.Rows.boot_list (Zaa (Zak (pv 0) rfl) Zae)) Zae)))))))))))))),?_⟩
    walk_at "nx"
    repeat walk_at "rdk"
    refine Zai F.ob tFrame.k.cl tFrame.n_kind rfl ?_
    repeat walk_at "rdk"
    refine Zai F.ob tFrame.k.cl tFrame.n_who rfl ?_
    repeat walk_at "rdk"
    refine Zai F.ob tFrame.k.cl tFrame.n_whose rfl ?_
    repeat walk_at "rdk"
    refine Zai F.ob tFrame.k.cl tFrame.n_caller rfl ?_
    repeat walk_at "rdk"
    refine Zai F.ob tFrame.k.cl tFrame.n_coin rfl ?_
    repeat walk_at "rdk"
    refine Zai F.ob tFrame.k.cl tFrame.n_word rfl ?_
    repeat walk_at "rdk"
    refine Zai F.ob tFrame.k.cl tFrame.n_given rfl ?_
    repeat walk_at "rdk"
    refine Zai F.ob tFrame.k.cl tFrame.n_end rfl ?_
    repeat walk_at "rdk"
    refine Zai F.ob tFrame.k.cl tFrame.n_answer rfl ?_
    repeat walk_at "rdk"
    refine Zai F.ob tFrame.k.cl tFrame.n_used rfl ?_
    repeat walk_at "rdk"
    refine Zai F.ob tFrame.k.cl tFrame.n_steps rfl ?_
    repeat walk_at "rd"
    refine Zfs (Zaz F.ss) fun L hL=>?_
    repeat walk_at "rdk"
    refine ⟨by show 11 <= sizeLine; decide,fun p hp=>?_⟩
    have s1:Same H (upd H L (.lst ws)):=Same.new hL
    exact k p L _ (s1.newT hp) (s1.fresh hp) hL (by rw [Zaj (Zah Zag hp),Zag]) Zag
end
noncomputable abbrev RD:=FrS->Str->Option Int->FrS->Prop
noncomputable def rPush:RD:=fun x _ n x'=>∃ k,n=some k/\x'={ x with stack:=x.stack ++ [k] }
noncomputable def rDrop:RD:=fun x _ _ x'=>∃ s k,x.stack=s ++ [k]/\x'={ x with stack:=s }
noncomputable def rCopy:RD:=fun x _ n x'=>∃ (k:Nat) (v:Int),n=some (k:Int)/\k < x.stack.length/\x.stack[x.stack.length - 1 - k]?=some v/\x'={ x with stack:=x.stack ++ [v] }
noncomputable def rSwap:RD:=fun x _ n x'=>∃ (s m:List Int) (a b:Int),n=some ((m.length + 1:Nat):Int)/\x.stack=s ++ a :: (m ++ [b])/\x'={ x with stack:=s ++ b :: (m ++ [a]) }
noncomputable def rReck:RD:=fun x w _ x'=>∃ (f:Int->Int->Int) (s:List Int) (a b:Int),RK.lookup w=some f/\x.stack=s ++ [a,b]/\Zbd a b/\x'={ x with stack:=s ++ [f a b] }
noncomputable def rMe:RD:=fun x _ _ x'=>x'={ x with stack:=x.stack ++ [x.who] }
noncomputable def rFrom:RD:=fun x _ _ x'=>x'={ x with stack:=x.stack ++ [x.caller] }
noncomputable def rSent:RD:=fun x _ _ x'=>x'={ x with stack:=x.stack ++ [x.coin] }
noncomputable def rWord:RD:=fun x _ _ x'=>x'={ x with stack:=x.stack ++ [x.word] }
noncomputable def rJump:RD:=fun x _ n x'=>∃ k,n=some k/\x'={ x with row:=k }
noncomputable def ZhJ:RD:=fun x _ n x'=>∃ (k:Int) (s:List Int) (t:Int),n=some k/\x.stack=s ++ [t]/\x'={ x with stack:=s,row:=if t=0 then x.row else k }
noncomputable def rGive:RD:=fun x _ _ x'=>∃ (s:List Int) (t:Int),x.stack=s ++ [t]/\x'={ x with stack:=s,fin:=some ("well" : Str),answer:=t }
noncomputable def rFail:RD:=fun x _ _ x'=>∃ (s:List Int) (t:Int),x.stack=s ++ [t]/\x'={ x with stack:=s,fin:=some ("fail" : Str),answer:=t }
noncomputable def inF (f:FrI) (b:Addr):Prop:=b=f.a\/b=f.ST
noncomputable def spD (K:PySem.W.Frag) (cF:Addr) (R:RD):Sp:=fun vs H Q _=>∃ (vR vJ:V) (f:FrI) (x x':FrS) (ws:List V) (p:Addr) (w:Str) (n:Option Int),vs=[vR,vJ,.ref f.a,.ref p]/\FrAt cF H f x ws/\ZbI K H p w n/\R x w n x'/\x.stack.length <= 900 /\
  ∀ H',KeptX (inF f) H H'->FrAt cF H' f x' ws->Q .non H'
theorem k_st {f:FrI} {H H':Hp} (k:KeptX (·=f.ST) H H'):KeptX (inF f) H H':=k.mono fun _ h=>.inr h
theorem k_a {f:FrI} {H H':Hp} (k:KeptX (·=f.a) H H'):KeptX (inF f) H H':=k.mono fun _ h=>.inl h
theorem Zck {K:PySem.W.Frag} {f:FrI} {cF:Addr} {H H':Hp} {x:FrS} {ws:List V} {p:Addr} {w:Str} {n:Option Int} (h:ZbI K H p w n) (F:FrAt cF H f x ws) (k:KeptX (inF f) H H'):ZbI K H' p w n:=by
  unfold ZbI at h |-
  refine SameI.tup (k.imm fun b o z e i=>?_) h
  rcases z with rfl|rfl
  . rw [F.ob] at e; cases e; exact ZcG i
  . rw [F.st] at e; cases e; exact Zbo i
theorem sw1 (s m:List Int) (a b c:Int):(List.map V.int (s ++ a :: (m ++ [b]))).set s.length (.int c)=List.map V.int (s ++ c :: (m ++ [b])):=by
  rw [List.map_append,List.set_append_right _ _ (by rw [List.length_map]; exact Nat.le_refl _),List.length_map,Nat.sub_self,List.map_append]; rfl
theorem sw2 (s m:List Int) (a b c:Int):(List.map V.int (s ++ a :: (m ++ [b]))).set (s.length + 1 + m.length) (.int c)=List.map V.int (s ++ a :: (m ++ [c])):=by
  rw [List.map_append,List.set_append_right _ _ (by rw [List.length_map]; omega),List.length_map,List.map_append,List.map_cons,List.map_cons]
  rw [show s.length + 1 + m.length - s.length=m.length + 1 by omega,List.set_cons_succ,List.map_append,List.set_append_right _ _ (by rw [List.length_map]; omega),List.length_map,Nat.sub_self,List.map_append]; rfl
theorem ZfQ {xs:List Int} {k:Nat} {v:Int} (hk:k < xs.length) (e:xs[xs.length - 1 - k]?=some v):atI (xs.map V.int) (-1 - (k:Int))=some (.int v):=by
  unfold atI
  rw [List.length_map,Zj3 (j:=xs.length - 1 - k) (by omega) (by omega)]
  show (xs.map V.int)[xs.length - 1 - k]?=_
  rw [List.getElem?_map,e]; rfl
section
variable {P:Program} {w:World} {K:PySem.W.Frag} {mg:Str->Option Value} {base:Heap}
theorem ZhK:FnScope ["rooms", "journal", "frame", "row"] ["rooms", "journal", "frame", "row"] (Zab Zds):=⟨rfl,rfl,rfl,by decide +kernel,rfl,by decide +kernel,by decide +kernel⟩
theorem ZhL   {cFrame:Addr} (D:Zap K mg "push_row" Zds) (tFrame:T_Frame K mg cFrame) (m_Frame_lay:MCal P w K mg base 1 cFrame "lay" (spLay cFrame)):Cal P w K mg base 2 "push_row" (spD K cFrame rPush):=by
  refine Zay (N:=["rooms", "journal", "frame", "row"]) (ps:=["rooms", "journal", "frame", "row"]) D ZhK (fun vs H Q E h=>?_) (fun _ _ _ _ _ _ us hl=>bd4 (R:=fun us=>bindArgs _ ⟨us,[]⟩=pure (List.zip _ us)) (fun _ _ _ _=>rfl) us hl) (fun f cdv A outer s H vs Q E hr h=>?_)
  . obtain ⟨vR,vJ,f,x,x',ws,p,w,n,rfl,_⟩:=h; rfl
  . obtain ⟨vR,vJ,fr,x,x',ws,p,wd,n,rfl,F,hp,hR,hl,k⟩:=h
    obtain ⟨n0,rfl,rfl⟩:=hR
    refine ⟨_,(Zad (Zat (ZaB m_Frame_lay (hr.mono (by decide)) (pv 2) (Zaa (ZaI Zbc (pv 3) Zaf (fun _ _=>rfl)) Zae)))),?_⟩
    walk_at "nx"
    have hp':SqT K H p [.str wd,.int n0]:=hp
    repeat walk_at "rdk"
    refine Zan F.ob rfl ?_
    repeat walk_at "rdk"
    refine ⟨fr,_,ws,_,rfl,F,by show _ <= 1000; omega,fun H1 k1 F1=>?_⟩
    repeat walk_at "rdk"
    exact k _ (k_st k1) F1
theorem ZhM:FnScope ["rooms", "journal", "frame", "row"] ["rooms", "journal", "frame", "row"] (Zab Zdt):=⟨rfl,rfl,rfl,by decide +kernel,rfl,by decide +kernel,by decide +kernel⟩
theorem ZhN   {cFrame:Addr} (D:Zap K mg "drop_row" Zdt) (tFrame:T_Frame K mg cFrame) (m_Frame_taken:MCal P w K mg base 1 cFrame "taken" (ZbX cFrame)):Cal P w K mg base 2 "drop_row" (spD K cFrame rDrop):=by
  refine Zay (N:=["rooms", "journal", "frame", "row"]) (ps:=["rooms", "journal", "frame", "row"]) D ZhM (fun vs H Q E h=>?_) (fun _ _ _ _ _ _ us hl=>bd4 (R:=fun us=>bindArgs _ ⟨us,[]⟩=pure (List.zip _ us)) (fun _ _ _ _=>rfl) us hl) (fun f cdv A outer s H vs Q E hr h=>?_)
  . obtain ⟨vR,vJ,f,x,x',ws,p,w,n,rfl,_⟩:=h; rfl
  . obtain ⟨vR,vJ,fr,x,x',ws,p,wd,n,rfl,F,hp,hR,hl,k⟩:=h
    obtain ⟨s0,n0,e0,rfl⟩:=hR
    refine ⟨_,(Zad (Zat (ZaB m_Frame_taken (hr.mono (by decide)) (pv 2) (Zaa Zaf Zae)))),?_⟩
    walk_at "nx"
    repeat walk_at "rdk"
    refine Zan F.ob rfl ?_
    repeat walk_at "rdk"
    refine ⟨fr,x,ws,s0,[n0],rfl,F,e0,by show 1 <= 1000; decide,fun q H1 _ k1 F1 _=>?_⟩
    repeat walk_at "rdk"
    exact k _ (k_st k1) F1
theorem ZhO:FnScope ["rooms", "journal", "frame", "row"] ["rooms", "journal", "frame", "row"] (Zab Zdu):=⟨rfl,rfl,rfl,by decide +kernel,rfl,by decide +kernel,by decide +kernel⟩
theorem ZhP   {cFrame:Addr} (D:Zap K mg "copy_row" Zdu) (tFrame:T_Frame K mg cFrame) (m_Frame_lay:MCal P w K mg base 1 cFrame "lay" (spLay cFrame)):Cal P w K mg base 2 "copy_row" (spD K cFrame rCopy):=by
  refine Zay (N:=["rooms", "journal", "frame", "row"]) (ps:=["rooms", "journal", "frame", "row"]) D ZhO (fun vs H Q E h=>?_) (fun _ _ _ _ _ _ us hl=>bd4 (R:=fun us=>bindArgs _ ⟨us,[]⟩=pure (List.zip _ us)) (fun _ _ _ _=>rfl) us hl) (fun f cdv A outer s H vs Q E hr h=>?_)
  . obtain ⟨vR,vJ,f,x,x',ws,p,w,n,rfl,_⟩:=h; rfl
  . obtain ⟨vR,vJ,fr,x,x',ws,p,wd,n,rfl,F,hp,hR,hl,k⟩:=h
    obtain ⟨n0,v0,rfl,hk,e0,rfl⟩:=hR
    refine ⟨_,(Zad (Zat (ZaB m_Frame_lay (hr.mono (by decide)) (pv 2) (Zaa (ZaI ZaA (Zak (pv 2) rfl) (ZaH Ze4 (Zfi Zc8 Zaf) (ZaI Zbc (pv 3) Zaf (fun _ _=>rfl))) (fun _ _=>rfl)) Zae)))),?_⟩
    walk_at "nx"
    have hp':SqT K H p [.str wd,.int n0]:=hp
    repeat walk_at "rdk"
    refine Zan F.ob rfl ?_
    repeat walk_at "rdk"
    refine Zai F.ob tFrame.k.cl tFrame.n_stack rfl ?_
    repeat walk_at "rdk"
    refine Za8 (Zaz F.st) (ZfQ hk e0) ?_
    repeat walk_at "rdk"
    refine ⟨fr,_,ws,_,rfl,F,by show _ <= 1000; omega,fun H1 k1 F1=>?_⟩
    repeat walk_at "rdk"
    exact k _ (k_st k1) F1
theorem Zcl:FnScope ["rooms", "journal", "frame", "row", "stack", "under", "deeper"] ["rooms", "journal", "frame", "row"] (Zab Zdv):=⟨rfl,rfl,rfl,by decide +kernel,rfl,by decide +kernel,by decide +kernel⟩
theorem ZhQ   {cFrame:Addr} (D:Zap K mg "swap_row" Zdv) (tFrame:T_Frame K mg cFrame) (n_len:mg "len" = none):Cal P w K mg base 1 "swap_row" (spD K cFrame rSwap):=by
  refine Zay (N:=["rooms", "journal", "frame", "row", "stack", "under", "deeper"]) (ps:=["rooms", "journal", "frame", "row"]) D Zcl (fun vs H Q E h=>?_) (fun _ _ _ _ _ _ us hl=>bd4 (R:=fun us=>bindArgs _ ⟨us,[]⟩=pure (List.zip _ us)) (fun _ _ _ _=>rfl) us hl) (fun f cdv A outer s H vs Q E hr h=>?_)
  . obtain ⟨vR,vJ,f,x,x',ws,p,w,n,rfl,_⟩:=h; rfl
  . obtain ⟨vR,vJ,fr,x,x',ws,p,wd,n,rfl,F,hp,hR,hl,k⟩:=h
    obtain ⟨s0,m0,a0,b0,rfl,e0,rfl⟩:=hR
    refine ⟨_,(Zac (Zax (i:=4) Zcl.nd rfl (by first|exact Or.inl rfl|exact Or.inr rfl) (Zak (pv 2) rfl))
      (Zac (Zax (i:=5) Zcl.nd rfl (by first|exact Or.inl rfl|exact Or.inr rfl) (ZaH Ze4 (ZaH Ze4 (ZaG Zb7 rfl n_len PySem.boot_len (Zaa (pv 4) Zae)) Zaf) (ZaI Zbc (pv 3) Zaf (fun _ _=>rfl))))
      (Zac (Zax (i:=6) Zcl.nd rfl (by first|exact Or.inl rfl|exact Or.inr rfl) (ZaI ZaA (pv 4) (pv 5) (fun _ _=>rfl)))
      (Zac (Zgd (ZaI ZaA (pv 4) (Zfi Zc8 Zaf) (fun _ _=>rfl)) (Zik (pv 4) (pv 5) Zd4))
      (Zad (Zgd (pv 6) (Zik (pv 4) (Zfi Zc8 Zaf) Zd4))))))),?_⟩
    walk_at "nx"
    have hp':SqT K H p [.str wd,.int ((m0.length + 1:Nat):Int)]:=hp
    have hST:=F.st
    rw [e0] at hST
    repeat walk_at "rdk"
    refine Zai F.ob tFrame.k.cl tFrame.n_stack rfl ?_
    repeat walk_at "rdk"
    have eu:((List.map V.int (s0 ++ a0 :: (m0 ++ [b0]))).length:Int) - 1 - ((m0.length + 1:Nat):Int)=(s0.length:Int):=by
      simp only [List.length_map,List.length_append,List.length_cons,List.length_nil]; omega
    have em:List.map V.int (s0 ++ a0 :: (m0 ++ [b0]))=List.map V.int (s0 ++ a0 :: m0) ++ [V.int b0]:=by simp
    rw [eu]
    refine Za8 (v:=.int a0) (Zaz hST) (Zhg (j:=s0.length) (by rw [List.getElem?_map,List.getElem?_append_right (Nat.le_refl _),Nat.sub_self]; rfl)) ?_
    repeat walk_at "rdk"
    refine Za8 (v:=.int b0) (Zaz hST) (by rw [em]; exact ZkX _ _) ?_
    repeat walk_at "rdk"
    refine Zft hST (Zhp rfl (by simp only [List.length_map,List.length_append,List.length_cons,List.length_nil]; omega)) ?_
    rw [sw1]
    repeat walk_at "rdk"
    refine Zft Zag (Zj3 (j:=s0.length + 1 + m0.length) (by decide) (by simp only [List.length_map,List.length_append,List.length_cons,List.length_nil]; omega)) ?_
    rw [sw2,ZaR]
    exact k _ (k_st (KeptX.upd rfl)) (F.setST _)
theorem Zdk:FnScope ["rooms", "journal", "frame", "row", "taken"] ["rooms", "journal", "frame", "row"] (Zab Zcx):=⟨rfl,rfl,rfl,by decide +kernel,rfl,by decide +kernel,by decide +kernel⟩
theorem ZfR   {cFrame:Addr} (D:Zap K mg "reckon_row" Zcx) (tFrame:T_Frame K mg cFrame) (m_Frame_taken:MCal P w K mg base 1 cFrame "taken" (ZbX cFrame)) (m_Frame_lay:MCal P w K mg base 1 cFrame "lay" (spLay cFrame)) (c_reckon:Cal P w K mg base 2 "reckon" Ziy):Cal P w K mg base 3 "reckon_row" (spD K cFrame rReck):=by
  refine Zay (N:=["rooms", "journal", "frame", "row", "taken"]) (ps:=["rooms", "journal", "frame", "row"]) D Zdk (fun vs H Q E h=>?_) (fun _ _ _ _ _ _ us hl=>bd4 (R:=fun us=>bindArgs _ ⟨us,[]⟩=pure (List.zip _ us)) (fun _ _ _ _=>rfl) us hl) (fun f cdv A outer s H vs Q E hr h=>?_)
  . obtain ⟨vR,vJ,f,x,x',ws,p,w,n,rfl,_⟩:=h; rfl
  . obtain ⟨vR,vJ,fr,x,x',ws,p,wd,n,rfl,F,hp,hR,hl,k⟩:=h
    obtain ⟨f0,s0,a0,b0,hf,e0,hi,rfl⟩:=hR
    refine ⟨_,(Zac (Zax (i:=4) Zdk.nd rfl (by first|exact Or.inl rfl|exact Or.inr rfl) (ZaB m_Frame_taken (hr.mono (by decide)) (pv 2) (Zaa Zaf Zae)))
      (Zad (Zat (ZaB m_Frame_lay (hr.mono (by decide)) (pv 2) (Zaa (ZaF c_reckon (hr.mono (by decide)) rfl (Zaa (ZaI Zbc (pv 3) Zaf (fun _ _=>rfl)) (Zaa (ZaI ZaA (pv 4) Zaf (fun _ _=>rfl)) (Zaa (ZaI ZaA (pv 4) Zaf (fun _ _=>rfl)) Zae)))) Zae))))),?_⟩
    walk_at "nx"
    repeat walk_at "rdk"
    refine Zan F.ob rfl ?_
    repeat walk_at "rdk"
    refine ⟨fr,x,ws,s0,[a0,b0],rfl,F,e0,by show 2 <= 1000; decide,fun q H1 _ k1 F1 e1=>?_⟩
    have hp1:=Zck hp F (k_st k1)
    have e1':H1 q=some (.lst [.int a0,.int b0]):=e1
    repeat walk_at "rdk"
    refine Zan F1.ob rfl ?_
    repeat walk_at "rw"
    refine ⟨wd,a0,b0,f0,rfl,hf,hi,?_⟩
    repeat walk_at "rdk"
    have hl1:s0.length <= 900:=by rw [e0,List.length_append] at hl; omega
    refine ⟨fr,_,ws,_,rfl,F1,Nat.le_trans hl1 (by decide),fun H2 k2 F2=>?_⟩
    repeat walk_at "rdk"
    exact k _ (k_st (k1.trans k2)) F2
theorem ZhR:FnScope ["rooms", "journal", "frame", "row"] ["rooms", "journal", "frame", "row"] (Zab Zdw):=⟨rfl,rfl,rfl,by decide +kernel,rfl,by decide +kernel,by decide +kernel⟩
theorem ZhS   {cFrame:Addr} (D:Zap K mg "jump_row" Zdw) (tFrame:T_Frame K mg cFrame):Cal P w K mg base 1 "jump_row" (spD K cFrame rJump):=by
  refine Zay (N:=["rooms", "journal", "frame", "row"]) (ps:=["rooms", "journal", "frame", "row"]) D ZhR (fun vs H Q E h=>?_) (fun _ _ _ _ _ _ us hl=>bd4 (R:=fun us=>bindArgs _ ⟨us,[]⟩=pure (List.zip _ us)) (fun _ _ _ _=>rfl) us hl) (fun f cdv A outer s H vs Q E hr h=>?_)
  . obtain ⟨vR,vJ,f,x,x',ws,p,w,n,rfl,_⟩:=h; rfl
  . obtain ⟨vR,vJ,fr,x,x',ws,p,wd,n,rfl,F,hp,hR,hl,k⟩:=h
    obtain ⟨n0,rfl,rfl⟩:=hR
    refine ⟨_,(Zad (ZaO (pv 2) (ZaI Zbc (pv 3) Zaf (fun _ _=>rfl)) rfl)),?_⟩
    walk_at "nx"
    have hp':SqT K H p [.str wd,.int n0]:=hp
    repeat walk_at "rdk"
    refine Zav F.ob tFrame.k.cl tFrame.n_row (by show 15 < 1000; decide) ?_
    exact k _ (k_a (KeptX.upd rfl)) (F.setF { x with row:=n0 } rfl)
theorem Zdl:FnScope ["rooms", "journal", "frame", "row", "taken"] ["rooms", "journal", "frame", "row"] (Zab Zcy):=⟨rfl,rfl,rfl,by decide +kernel,rfl,by decide +kernel,by decide +kernel⟩
theorem ZfS   {cFrame:Addr} (D:Zap K mg "jumpif_row" Zcy) (tFrame:T_Frame K mg cFrame) (m_Frame_taken:MCal P w K mg base 1 cFrame "taken" (ZbX cFrame)):Cal P w K mg base 2 "jumpif_row" (spD K cFrame ZhJ):=by
  refine Zay (N:=["rooms", "journal", "frame", "row", "taken"]) (ps:=["rooms", "journal", "frame", "row"]) D Zdl (fun vs H Q E h=>?_) (fun _ _ _ _ _ _ us hl=>bd4 (R:=fun us=>bindArgs _ ⟨us,[]⟩=pure (List.zip _ us)) (fun _ _ _ _=>rfl) us hl) (fun f cdv A outer s H vs Q E hr h=>?_)
  . obtain ⟨vR,vJ,f,x,x',ws,p,w,n,rfl,_⟩:=h; rfl
  . obtain ⟨vR,vJ,fr,x,x',ws,p,wd,n,rfl,F,hp,hR,hl,k⟩:=h
    obtain ⟨n0,s0,t0,rfl,e0,rfl⟩:=hR
    refine ⟨_,(Zac (Zax (i:=4) Zdl.nd rfl (by first|exact Or.inl rfl|exact Or.inr rfl) (ZaB m_Frame_taken (hr.mono (by decide)) (pv 2) (Zaa Zaf Zae)))
      (Zad (Zba (ZaC Zge (ZaI ZaA (pv 4) Zaf (fun _ _=>rfl)) Zaf (nomark _)) (Zad (ZaO (pv 2) (ZaI Zbc (pv 3) Zaf (fun _ _=>rfl)) rfl)) ZaE))),?_⟩
    walk_at "nx"
    repeat walk_at "rdk"
    refine Zan F.ob rfl ?_
    repeat walk_at "rdk"
    refine ⟨fr,x,ws,s0,[t0],rfl,F,e0,by show 1 <= 1000; decide,fun q H1 _ k1 F1 e1=>?_⟩
    have hp1:SqT K H1 p [.str wd,.int n0]:=Zck hp F (k_st k1)
    have e1':H1 q=some (.lst [.int t0]):=e1
    repeat walk_at "rdk"
    . rename_i ht
      refine Zav F1.ob tFrame.k.cl tFrame.n_row (by show 15 < 1000; decide) ?_
      have:=F1.setF { x with stack:=s0,row:=n0 } rfl
      rw [if_neg ht] at k
      exact k _ ((k_st k1).trans (k_a (KeptX.upd rfl))) this
    . rename_i ht
      rw [if_pos ht] at k
      exact k _ (k_st k1) F1
theorem Zkm:FnScope ["rooms", "journal", "frame", "row"] ["rooms", "journal", "frame", "row"] (Zab Zfy):=⟨rfl,rfl,rfl,by decide +kernel,rfl,by decide +kernel,by decide +kernel⟩
theorem Zkn   {cFrame:Addr} (D:Zap K mg "me_row" Zfy) (tFrame:T_Frame K mg cFrame) (m_Frame_lay:MCal P w K mg base 1 cFrame "lay" (spLay cFrame)):Cal P w K mg base 2 "me_row" (spD K cFrame rMe):=by
  refine Zay (N:=["rooms", "journal", "frame", "row"]) (ps:=["rooms", "journal", "frame", "row"]) D Zkm (fun vs H Q E h=>?_) (fun _ _ _ _ _ _ us hl=>bd4 (R:=fun us=>bindArgs _ ⟨us,[]⟩=pure (List.zip _ us)) (fun _ _ _ _=>rfl) us hl) (fun f cdv A outer s H vs Q E hr h=>?_)
  . obtain ⟨vR,vJ,f,x,x',ws,p,w,n,rfl,_⟩:=h; rfl
  . obtain ⟨vR,vJ,fr,x,x',ws,p,wd,n,rfl,F,hp,hR,hl,k⟩:=h
    obtain rfl:=hR
    refine ⟨_,(Zad (Zat (ZaB m_Frame_lay (hr.mono (by decide)) (pv 2) (Zaa (Zak (pv 2) rfl) Zae)))),?_⟩
    walk_at "nx"
    repeat walk_at "rdk"
    refine Zan F.ob rfl ?_
    repeat walk_at "rdk"
    refine Zai F.ob tFrame.k.cl tFrame.n_who rfl ?_
    repeat walk_at "rdk"
    refine ⟨fr,_,ws,_,rfl,F,by show _ <= 1000; omega,fun H1 k1 F1=>?_⟩
    repeat walk_at "rdk"
    exact k _ (k_st k1) F1
theorem ZhT:FnScope ["rooms", "journal", "frame", "row"] ["rooms", "journal", "frame", "row"] (Zab Zdz):=⟨rfl,rfl,rfl,by decide +kernel,rfl,by decide +kernel,by decide +kernel⟩
theorem ZhU   {cFrame:Addr} (D:Zap K mg "from_row" Zdz) (tFrame:T_Frame K mg cFrame) (m_Frame_lay:MCal P w K mg base 1 cFrame "lay" (spLay cFrame)):Cal P w K mg base 2 "from_row" (spD K cFrame rFrom):=by
  refine Zay (N:=["rooms", "journal", "frame", "row"]) (ps:=["rooms", "journal", "frame", "row"]) D ZhT (fun vs H Q E h=>?_) (fun _ _ _ _ _ _ us hl=>bd4 (R:=fun us=>bindArgs _ ⟨us,[]⟩=pure (List.zip _ us)) (fun _ _ _ _=>rfl) us hl) (fun f cdv A outer s H vs Q E hr h=>?_)
  . obtain ⟨vR,vJ,f,x,x',ws,p,w,n,rfl,_⟩:=h; rfl
  . obtain ⟨vR,vJ,fr,x,x',ws,p,wd,n,rfl,F,hp,hR,hl,k⟩:=h
    obtain rfl:=hR
    refine ⟨_,(Zad (Zat (ZaB m_Frame_lay (hr.mono (by decide)) (pv 2) (Zaa (Zak (pv 2) rfl) Zae)))),?_⟩
    walk_at "nx"
    repeat walk_at "rdk"
    refine Zan F.ob rfl ?_
    repeat walk_at "rdk"
    refine Zai F.ob tFrame.k.cl tFrame.n_caller rfl ?_
    repeat walk_at "rdk"
    refine ⟨fr,_,ws,_,rfl,F,by show _ <= 1000; omega,fun H1 k1 F1=>?_⟩
    repeat walk_at "rdk"
    exact k _ (k_st k1) F1
theorem ZhV:FnScope ["rooms", "journal", "frame", "row"] ["rooms", "journal", "frame", "row"] (Zab ZdA):=⟨rfl,rfl,rfl,by decide +kernel,rfl,by decide +kernel,by decide +kernel⟩
theorem ZhW   {cFrame:Addr} (D:Zap K mg "sent_row" ZdA) (tFrame:T_Frame K mg cFrame) (m_Frame_lay:MCal P w K mg base 1 cFrame "lay" (spLay cFrame)):Cal P w K mg base 2 "sent_row" (spD K cFrame rSent):=by
  refine Zay (N:=["rooms", "journal", "frame", "row"]) (ps:=["rooms", "journal", "frame", "row"]) D ZhV (fun vs H Q E h=>?_) (fun _ _ _ _ _ _ us hl=>bd4 (R:=fun us=>bindArgs _ ⟨us,[]⟩=pure (List.zip _ us)) (fun _ _ _ _=>rfl) us hl) (fun f cdv A outer s H vs Q E hr h=>?_)
  . obtain ⟨vR,vJ,f,x,x',ws,p,w,n,rfl,_⟩:=h; rfl
  . obtain ⟨vR,vJ,fr,x,x',ws,p,wd,n,rfl,F,hp,hR,hl,k⟩:=h
    obtain rfl:=hR
    refine ⟨_,(Zad (Zat (ZaB m_Frame_lay (hr.mono (by decide)) (pv 2) (Zaa (Zak (pv 2) rfl) Zae)))),?_⟩
    walk_at "nx"
    repeat walk_at "rdk"
    refine Zan F.ob rfl ?_
    repeat walk_at "rdk"
    refine Zai F.ob tFrame.k.cl tFrame.n_coin rfl ?_
    repeat walk_at "rdk"
    refine ⟨fr,_,ws,_,rfl,F,by show _ <= 1000; omega,fun H1 k1 F1=>?_⟩
    repeat walk_at "rdk"
    exact k _ (k_st k1) F1
theorem ZhX:FnScope ["rooms", "journal", "frame", "row"] ["rooms", "journal", "frame", "row"] (Zab ZdB):=⟨rfl,rfl,rfl,by decide +kernel,rfl,by decide +kernel,by decide +kernel⟩
theorem ZhY   {cFrame:Addr} (D:Zap K mg "word_row" ZdB) (tFrame:T_Frame K mg cFrame) (m_Frame_lay:MCal P w K mg base 1 cFrame "lay" (spLay cFrame)):Cal P w K mg base 2 "word_row" (spD K cFrame rWord):=by
  refine Zay (N:=["rooms", "journal", "frame", "row"]) (ps:=["rooms", "journal", "frame", "row"]) D ZhX (fun vs H Q E h=>?_) (fun _ _ _ _ _ _ us hl=>bd4 (R:=fun us=>bindArgs _ ⟨us,[]⟩=pure (List.zip _ us)) (fun _ _ _ _=>rfl) us hl) (fun f cdv A outer s H vs Q E hr h=>?_)
  . obtain ⟨vR,vJ,f,x,x',ws,p,w,n,rfl,_⟩:=h; rfl
  . obtain ⟨vR,vJ,fr,x,x',ws,p,wd,n,rfl,F,hp,hR,hl,k⟩:=h
    obtain rfl:=hR
    refine ⟨_,(Zad (Zat (ZaB m_Frame_lay (hr.mono (by decide)) (pv 2) (Zaa (Zak (pv 2) rfl) Zae)))),?_⟩
    walk_at "nx"
    repeat walk_at "rdk"
    refine Zan F.ob rfl ?_
    repeat walk_at "rdk"
    refine Zai F.ob tFrame.k.cl tFrame.n_word rfl ?_
    repeat walk_at "rdk"
    refine ⟨fr,_,ws,_,rfl,F,by show _ <= 1000; omega,fun H1 k1 F1=>?_⟩
    repeat walk_at "rdk"
    exact k _ (k_st k1) F1
theorem ZeF:FnScope ["rooms", "journal", "frame", "row", "taken"] ["rooms", "journal", "frame", "row"] (Zab ZdE):=⟨rfl,rfl,rfl,by decide +kernel,rfl,by decide +kernel,by decide +kernel⟩
theorem ZhZ   {cFrame:Addr} (D:Zap K mg "give_row" ZdE) (tFrame:T_Frame K mg cFrame) (m_Frame_taken:MCal P w K mg base 1 cFrame "taken" (ZbX cFrame)) (m_Frame_finish:MCal P w K mg base 1 cFrame "finish" (ZcJ cFrame)):Cal P w K mg base 2 "give_row" (spD K cFrame rGive):=by
  refine Zay (N:=["rooms", "journal", "frame", "row", "taken"]) (ps:=["rooms", "journal", "frame", "row"]) D ZeF (fun vs H Q E h=>?_) (fun _ _ _ _ _ _ us hl=>bd4 (R:=fun us=>bindArgs _ ⟨us,[]⟩=pure (List.zip _ us)) (fun _ _ _ _=>rfl) us hl) (fun f cdv A outer s H vs Q E hr h=>?_)
  . obtain ⟨vR,vJ,f,x,x',ws,p,w,n,rfl,_⟩:=h; rfl
  . obtain ⟨vR,vJ,fr,x,x',ws,p,wd,n,rfl,F,hp,hR,hl,k⟩:=h
    obtain ⟨s0,t0,e0,rfl⟩:=hR
    refine ⟨_,(Zac (Zax (i:=4) ZeF.nd rfl (by first|exact Or.inl rfl|exact Or.inr rfl) (ZaB m_Frame_taken (hr.mono (by decide)) (pv 2) (Zaa Zaf Zae)))
      (Zad (Zat (ZaB m_Frame_finish (hr.mono (by decide)) (pv 2) (Zaa ZaJ (Zaa (ZaI ZaA (pv 4) Zaf (fun _ _=>rfl)) Zae)))))),?_⟩
    walk_at "nx"
    repeat walk_at "rdk"
    refine Zan F.ob rfl ?_
    repeat walk_at "rdk"
    refine ⟨fr,x,ws,s0,[t0],rfl,F,e0,by show 1 <= 1000; decide,fun q H1 _ k1 F1 e1=>?_⟩
    have e1':H1 q=some (.lst [.int t0]):=e1
    repeat walk_at "rdk"
    refine Zan F1.ob rfl ?_
    repeat walk_at "rdk"
    refine ⟨fr,_,ws, "well", t0,rfl,F1,fun H2 k2 F2=>?_⟩
    repeat walk_at "rdk"
    exact k _ ((k_st k1).trans (k_a k2)) F2
theorem ZeG:FnScope ["rooms", "journal", "frame", "row", "taken"] ["rooms", "journal", "frame", "row"] (Zab ZdF):=⟨rfl,rfl,rfl,by decide +kernel,rfl,by decide +kernel,by decide +kernel⟩
theorem Zh0   {cFrame:Addr} (D:Zap K mg "fail_row" ZdF) (tFrame:T_Frame K mg cFrame) (m_Frame_taken:MCal P w K mg base 1 cFrame "taken" (ZbX cFrame)) (m_Frame_finish:MCal P w K mg base 1 cFrame "finish" (ZcJ cFrame)):Cal P w K mg base 2 "fail_row" (spD K cFrame rFail):=by
  refine Zay (N:=["rooms", "journal", "frame", "row", "taken"]) (ps:=["rooms", "journal", "frame", "row"]) D ZeG (fun vs H Q E h=>?_) (fun _ _ _ _ _ _ us hl=>bd4 (R:=fun us=>bindArgs _ ⟨us,[]⟩=pure (List.zip _ us)) (fun _ _ _ _=>rfl) us hl) (fun f cdv A outer s H vs Q E hr h=>?_)
  . obtain ⟨vR,vJ,f,x,x',ws,p,w,n,rfl,_⟩:=h; rfl
  . obtain ⟨vR,vJ,fr,x,x',ws,p,wd,n,rfl,F,hp,hR,hl,k⟩:=h
    obtain ⟨s0,t0,e0,rfl⟩:=hR
    refine ⟨_,(Zac (Zax (i:=4) ZeG.nd rfl (by first|exact Or.inl rfl|exact Or.inr rfl) (ZaB m_Frame_taken (hr.mono (by decide)) (pv 2) (Zaa Zaf Zae)))
      (Zad (Zat (ZaB m_Frame_finish (hr.mono (by decide)) (pv 2) (Zaa ZaJ (Zaa (ZaI ZaA (pv 4) Zaf (fun _ _=>rfl)) Zae)))))),?_⟩
    walk_at "nx"
    repeat walk_at "rdk"
    refine Zan F.ob rfl ?_
    repeat walk_at "rdk"
    refine ⟨fr,x,ws,s0,[t0],rfl,F,e0,by show 1 <= 1000; decide,fun q H1 _ k1 F1 e1=>?_⟩
    have e1':H1 q=some (.lst [.int t0]):=e1
    repeat walk_at "rdk"
    refine Zan F1.ob rfl ?_
    repeat walk_at "rdk"
    refine ⟨fr,_,ws, "fail", t0,rfl,F1,fun H2 k2 F2=>?_⟩
    repeat walk_at "rdk"
    exact k _ ((k_st k1).trans (k_a k2)) F2
end
noncomputable def ZcZ (x:FrS) (w:Str) (b:Bool):Prop:=(w ≠ "call" /\ b=false)\/(w = "call" /\ ∃ s c u v,x.stack=s ++ [c,u,v]/\b=decide (0 < c))
noncomputable def fillsR (A:Nat->Option AcI) (S:Nat->AcS) (x:FrS) (w:Str) (b:Bool):Prop:=(w ≠ "save" /\ b=false)\/(w = "save" /\ ∃ s p v,x.stack=s ++ [p,v]/\((v=0/\b=false)\/(v ≠ 0/\∃ i y,x.who=((i:Nat):Int)/\i < 16/\A i=some y/\b=decide ((S i).store p=0))))
noncomputable def ZfT (K:PySem.W.Frag) (cF:Addr):Sp:=fun vs H Q _=>∃ (f:FrI) (x:FrS) (ws:List V) (p:Addr) (w:Str) (n:Option Int) (b:Bool),vs=[.ref f.a,.ref p]/\FrAt cF H f x ws/\ZbI K H p w n/\ZcZ x w b/\Q (.bl b) H
noncomputable def Zko (K:PySem.W.Frag) (C cF:Addr):Sp:=fun vs H Q _=>∃ (R:Addr) (A:Nat->Option AcI) (S:Nat->AcS) (m:Nat) (f:FrI) (x:FrS) (ws:List V) (p:Addr) (w:Str) (n:Option Int) (b:Bool),vs=[.ref R,.ref f.a,.ref p]/\Rooms K C H R A S m/\FrAt cF H f x ws/\ZbI K H p w n/\fillsR A S x w b/\Q (.bl b) H
noncomputable def ZcK (K:PySem.W.Frag) (C cF:Addr):Sp:=fun vs H Q _=>∃ (R:Addr) (A:Nat->Option AcI) (S:Nat->AcS) (m:Nat) (f:FrI) (x:FrS) (ws:List V) (p:Addr) (w:Str) (n:Option Int) (b1 b2:Bool) (t l pr d:Int),vs=[.ref R,.ref f.a,.ref p]/\Rooms K C H R A S m/\FrAt cF H f x ws/\ZbI K H p w n/\ZcZ x w b1/\fillsR A S x w b2/\RT.lookup w=some (t,l,pr,d)/\Q (.int (if (b1 || b2)=true then d else pr)) H
noncomputable def barB (x:FrS) (w:Str) (b1:Bool):Bool:=x.looking && (inS w ["save", "note"] || b1)
noncomputable def ZiD (K:PySem.W.Frag) (cF:Addr):Sp:=fun vs H Q _=>∃ (f:FrI) (x:FrS) (ws:List V) (p:Addr) (w:Str) (n:Option Int) (b1:Bool),vs=[.ref f.a,.ref p]/\FrAt cF H f x ws/\ZbI K H p w n/\ZcZ x w b1/\∀ H',Same H H'->Q (.bl (barB x w b1)) H'
noncomputable def aheadR (A:Nat->Option AcI) (S:Nat->AcS) (x:FrS) (w:Str) (n:Option Int) (e:Option Str):Prop:=∃ r t l pr d,Zci w n=some r/\RT.lookup w=some (t,l,pr,d) /\
  (((x.stack.length:Int) < t + r/\e=some ("short" : Str))\/(¬ (x.stack.length:Int) < t + r/\24 < (x.stack.length:Int) - (t + r) + (l + r)/\e=some ("full" : Str))\/(¬ (x.stack.length:Int) < t + r/\¬ 24 < (x.stack.length:Int) - (t + r) + (l + r) /\
    ∃ b1 b2,ZcZ x w b1/\fillsR A S x w b2/\((barB x w b1=true/\e=some ("barred" : Str))\/(barB x w b1=false/\x.given - x.used < (if (b1 || b2)=true then d else pr)/\e=some ("dry" : Str))\/(barB x w b1=false/\¬ x.given - x.used < (if (b1 || b2)=true then d else pr)/\e=none))))
noncomputable def Zh1 (K:PySem.W.Frag) (C cF:Addr):Sp:=fun vs H Q _=>∃ (R:Addr) (A:Nat->Option AcI) (S:Nat->AcS) (m:Nat) (f:FrI) (x:FrS) (ws:List V) (p:Addr) (w:Str) (n:Option Int) (e:Option Str),vs=[.ref R,.ref f.a,.ref p]/\Rooms K C H R A S m/\FrAt cF H f x ws/\ZbI K H p w n/\aheadR A S x w n e/\∀ H',Same H H'->Q (endV e) H'
theorem at_m3 {xs s:List Int} {c u v:Int} (e:xs=s ++ [c,u,v]):atI (xs.map V.int) (-3)=some (.int c):=by
  have h:atI (xs.map V.int) (-1 - ((2:Nat):Int))=some (.int c):=ZfQ (by rw [e]; simp) (by rw [e]; simp)
  exact h
theorem at_m2 {xs s:List Int} {u v:Int} (e:xs=s ++ [u,v]):atI (xs.map V.int) (-2)=some (.int u):=by
  have h:atI (xs.map V.int) (-1 - ((1:Nat):Int))=some (.int u):=ZfQ (by rw [e]; simp) (by rw [e]; simp)
  exact h
theorem at_m1 {xs s:List Int} {v:Int} (e:xs=s ++ [v]):atI (xs.map V.int) (-1)=some (.int v):=by
  have h:atI (xs.map V.int) (-1 - ((0:Nat):Int))=some (.int v):=ZfQ (by rw [e]; simp) (by rw [e]; simp)
  exact h
section
variable {P:Program} {w:World} {K:PySem.W.Frag} {mg:Str->Option Value} {base:Heap}
theorem ZeY:FnScope ["frame", "row"] ["frame", "row"] (Zab Zcg):=⟨rfl,rfl,rfl,by decide +kernel,rfl,by decide +kernel,by decide +kernel⟩
theorem ZeZ   {cFrame:Addr} (D:Zap K mg "brings_coin" Zcg) (tFrame:T_Frame K mg cFrame):Cal P w K mg base 1 "brings_coin" (ZfT K cFrame):=by
  refine Zay (N:=["frame", "row"]) (ps:=["frame", "row"]) D ZeY (fun vs H Q E h=>?_) (fun _ _ _ _ _ _ us hl=>bd2 (R:=fun us=>bindArgs _ ⟨us,[]⟩=pure (List.zip _ us)) (fun _ _=>rfl) us hl) (fun f cdv A outer s H vs Q E hr h=>?_)
  . obtain ⟨f,x,ws,p,w,n,b,rfl,_⟩:=h; rfl
  . obtain ⟨fr,x,ws,p,wd,n,b,rfl,F,hp,hb,k⟩:=h
    refine ⟨_,(Zad (Zaq (Zc5 (Zbs ZbJ (ZaI Zbc (pv 1) Zaf (fun _ _=>rfl)) ZaJ (nomark _)) (Zc4 (Zbs Zhc (ZaI ZaA (Zak (pv 0) rfl) (Zfi Zc8 Zaf) (fun _ _=>rfl)) Zaf (nomark _)))))),?_⟩
    walk_at "nx"
    rcases hb with ⟨hw,rfl⟩|⟨rfl,s0,c,u,v,e0,rfl⟩
    . repeat' walk_at "rw"
      . exact absurd (by assumption) hw
      . exact k
    . repeat' walk_at "rw"
      . refine Zai F.ob tFrame.k.cl tFrame.n_stack rfl ?_
        repeat walk_at "rw"
        refine Za8 (Zaz F.st) (at_m3 e0) ?_
        repeat walk_at "rw"
        exact k
      . rename_i z; exact absurd rfl z
theorem Ze0:FnScope ["rooms", "frame", "row"] ["rooms", "frame", "row"] (Zab Zch):=⟨rfl,rfl,rfl,by decide +kernel,rfl,by decide +kernel,by decide +kernel⟩
theorem Ze1   {cFrame:Addr} {cAccount:Addr} (D:Zap K mg "fills_place" Zch) (tFrame:T_Frame K mg cFrame) (tAccount:T_Account K mg cAccount) (m_Account_loaded:MCal P w K mg base 1 cAccount "loaded" (Zdf K cAccount)):Cal P w K mg base 2 "fills_place" (Zko K cAccount cFrame):=by
  refine Zay (N:=["rooms", "frame", "row"]) (ps:=["rooms", "frame", "row"]) D Ze0 (fun vs H Q E h=>?_) (fun _ _ _ _ _ _ us hl=>bd3 (R:=fun us=>bindArgs _ ⟨us,[]⟩=pure (List.zip _ us)) (fun _ _ _=>rfl) us hl) (fun f cdv A outer s H vs Q E hr h=>?_)
  . obtain ⟨R,A,S,m,f,x,ws,p,w,n,b,rfl,_⟩:=h; rfl
  . obtain ⟨R,Ar,S,m,fr,x,ws,p,wd,n,b,rfl,r,F,hp,hb,k⟩:=h
    refine ⟨_,(Zac (Zba (PW.pt (pw_or (ZaC Zge (ZaI Zbc (pv 2) Zaf (fun _ _=>rfl)) ZaJ (nomark _)) (ZlK (ZaC ZbJ (ZaI ZaA (Zak (pv 1) rfl) (Zfi Zc8 Zaf) (fun _ _=>rfl)) Zaf (nomark _))))) (Zad (Zaq ZeU)) ZaE)
      (Zad (Zaq (Zbs ZbJ (ZaB m_Account_loaded (hr.mono (by decide)) (ZaI ZaA (pv 0) (Zak (pv 1) rfl) (fun _ _=>rfl)) (Zaa (ZaI ZaA (Zak (pv 1) rfl) (Zfi Zc8 Zaf) (fun _ _=>rfl)) Zae)) Zaf (nomark _))))),?_⟩
    walk_at "nx"
    rcases hb with ⟨hw,rfl⟩|⟨rfl,s0,pl,v,e0,hb⟩
    . repeat' walk_at "rw"
      . exact k
      . exact absurd (by assumption) hw
    . have e1:x.stack=(s0 ++ [pl]) ++ [v]:=by rw [e0]; simp
      repeat' walk_at "rw"
      . rename_i z; exact absurd rfl z
      . refine Zai F.ob tFrame.k.cl tFrame.n_stack rfl ?_
        repeat walk_at "rw"
        refine Za8 (Zaz F.st) (at_m1 e1) ?_
        repeat' walk_at "rw"
        . rename_i z
          rcases hb with ⟨_,rfl⟩|⟨hv,_⟩
          . exact k
          . exact absurd z hv
        . rename_i z
          rcases hb with ⟨hv,_⟩|⟨_,i,y,ew,hi,hy,rfl⟩
          . exact absurd hv z
          . refine Zai F.ob tFrame.k.cl tFrame.n_who rfl ?_
            rw [ew]
            refine Za8 (Zaz r.ob) (r.at hi hy) ?_
            have ay:=r.ac i y hi hy
            refine Zan ay.ob rfl ?_
            repeat walk_at "rw"
            refine Zai F.ob tFrame.k.cl tFrame.n_stack rfl ?_
            repeat walk_at "rw"
            refine Za8 (Zaz F.st) (at_m2 e0) ?_
            repeat walk_at "rw"
            refine ⟨y.a,y.dx,y.pr,y.st,_,_,_,_,_,m,pl,rfl,ay,?_⟩
            repeat walk_at "rw"
            exact k
theorem ZgW:FnScope ["rooms", "frame", "row"] ["rooms", "frame", "row"] (Zab ZcT):=⟨rfl,rfl,rfl,by decide +kernel,rfl,by decide +kernel,by decide +kernel⟩
theorem ZgX    (D:Zap K mg "row_price" ZcT) (cd2_price:CalD P w K mg base 1 "price" (Zkd K) []) (c_brings_coin:Cal P w K mg base 1 "brings_coin" (ZfT K cFrame)) (c_fills_place:Cal P w K mg base 2 "fills_place" (Zko K cAccount cFrame)):Cal P w K mg base 3 "row_price" (ZcK K cAccount cFrame):=by
  refine Zay (N:=["rooms", "frame", "row"]) (ps:=["rooms", "frame", "row"]) D ZgW (fun vs H Q E h=>?_) (fun _ _ _ _ _ _ us hl=>bd3 (R:=fun us=>bindArgs _ ⟨us,[]⟩=pure (List.zip _ us)) (fun _ _ _=>rfl) us hl) (fun f cdv A outer s H vs Q E hr h=>?_)
  . obtain ⟨R,A,S,m,f,x,ws,p,w,n,b1,b2,t,l,pr,d,rfl,_⟩:=h; rfl
  . obtain ⟨R,Ar,S,m,fr,x,ws,p,wd,n,b1,b2,t,l,pr,d,rfl,r,F,hp,hb1,hb2,ht,k⟩:=h
    refine ⟨_,(Zad (Zaq (Zmx cd2_price (hr.mono (by decide)) rfl (Zaa (pv 2) (Zaa (pe_or (ZaF c_brings_coin (hr.mono (by decide)) rfl (Zaa (pv 1) (Zaa (pv 2) Zae))) (Zc4 (ZaF c_fills_place (hr.mono (by decide)) rfl (Zaa (pv 0) (Zaa (pv 1) (Zaa (pv 2) Zae)))))) Zae))))),?_⟩
    walk_at "nx"
    repeat walk_at "rw"
    refine ⟨fr,x,ws,p,wd,n,b1,rfl,F,hp,hb1,?_⟩
    cases b1 with
    | true =>
      repeat walk_at "rw"
      exact ⟨p,wd,n,t,l,pr,d,true,rfl,hp,ht,k⟩
    | false =>
      repeat walk_at "rw"
      refine ⟨R,Ar,S,m,fr,x,ws,p,wd,n,b2,rfl,r,F,hp,hb2,?_⟩
      repeat walk_at "rw"
      exact ⟨p,wd,n,t,l,pr,d,b2,rfl,hp,ht,k⟩
theorem ZgY:FnScope ["frame", "row"] ["frame", "row"] (Zab ZcU):=⟨rfl,rfl,rfl,by decide +kernel,rfl,by decide +kernel,by decide +kernel⟩
theorem ZgZ   {cFrame:Addr} (D:Zap K mg "is_barred" ZcU) (tFrame:T_Frame K mg cFrame) (c_brings_coin:Cal P w K mg base 1 "brings_coin" (ZfT K cFrame)):Cal P w K mg base 2 "is_barred" (ZiD K cFrame):=by
  refine Zay (N:=["frame", "row"]) (ps:=["frame", "row"]) D ZgY (fun vs H Q E h=>?_) (fun _ _ _ _ _ _ us hl=>bd2 (R:=fun us=>bindArgs _ ⟨us,[]⟩=pure (List.zip _ us)) (fun _ _=>rfl) us hl) (fun f cdv A outer s H vs Q E hr h=>?_)
  . obtain ⟨f,x,ws,p,w,n,b,rfl,_⟩:=h; rfl
  . obtain ⟨fr,x,ws,p,wd,n,b,rfl,F,hp,hb,k⟩:=h
    refine ⟨_,(Zad (Zaq (Zc5 (Zak (pv 0) rfl) (Zc4 (pe_or (Zbs Zeg (ZaI Zbc (pv 1) Zaf (fun _ _=>rfl)) (ZbB (Zaa ZaJ (Zaa ZaJ Zae))) rfl) (Zc4 (ZaF c_brings_coin (hr.mono (by decide)) rfl (Zaa (pv 0) (Zaa (pv 1) Zae))))))))),?_⟩
    walk_at "nx"
    repeat walk_at "rw"
    refine Zai F.ob tFrame.k.cl tFrame.n_looking rfl ?_
    unfold barB at k
    cases e:x.looking with
    | false =>
      rw [e] at k
      repeat walk_at "rw"
      exact k H (Same.refl H)
    | true =>
      rw [e] at k
      repeat walk_at "rw"
      refine ⟨by decide,fun q hq=>?_⟩
      have s1:Same H (upd H q (.tup [.str "save", .str "note"])):=Same.new hq
      refine ZjU (xs:=["save", "note"]) ZjR ?_
      have F1:=F.same s1
      have hp1:ZbI K _ p wd n:=s1.tup hp
      generalize upd H q _=H1 at s1 F1 hp1
      cases e2:inS wd ["save", "note"] with
      | true =>
        rw [e2] at k
        repeat walk_at "rw"
        exact k H1 s1
      | false =>
        rw [e2] at k
        repeat walk_at "rw"
        exact ⟨fr,x,ws,p,wd,n,b,rfl,F1,hp1,hb,k H1 s1⟩
theorem ZeH:FnScope ["rooms", "frame", "row"] ["rooms", "frame", "row"] (Zab Zb0):=⟨rfl,rfl,rfl,by decide +kernel,rfl,by decide +kernel,by decide +kernel⟩
theorem ZeI   {cFrame:Addr} (D:Zap K mg "end_ahead_of" Zb0) (tFrame:T_Frame K mg cFrame) (m_Frame_short_for:MCal P w K mg base 3 cFrame "short_for" (Zkl K cFrame)) (m_Frame_full_behind:MCal P w K mg base 3 cFrame "full_behind" (spFull K cFrame)) (m_Frame_left:MCal P w K mg base 1 cFrame "left" (spLeft cFrame)) (c_is_barred:Cal P w K mg base 2 "is_barred" (ZiD K cFrame)) (c_row_price:Cal P w K mg base 3 "row_price" (ZcK K cAccount cFrame)):Cal P w K mg base 4 "end_ahead_of" (Zh1 K cAccount cFrame):=by
  refine Zay (N:=["rooms", "frame", "row"]) (ps:=["rooms", "frame", "row"]) D ZeH (fun vs H Q E h=>?_) (fun _ _ _ _ _ _ us hl=>bd3 (R:=fun us=>bindArgs _ ⟨us,[]⟩=pure (List.zip _ us)) (fun _ _ _=>rfl) us hl) (fun f cdv A outer s H vs Q E hr h=>?_)
  . obtain ⟨R,A,S,m,f,x,ws,p,w,n,e,rfl,_⟩:=h; rfl
  . obtain ⟨R,Ar,S,m,fr,x,ws,p,wd,n,e,rfl,r,F,hp,⟨rr,t,l,pr,d,hr1,hr2,ha⟩,k⟩:=h
    refine ⟨_,(Zac (Zba (Zb3 (ZaB m_Frame_short_for (hr.mono (by decide)) (pv 1) (Zaa (pv 2) Zae))) (Zad (Zaq ZaJ)) ZaE)
      (Zac (Zba (Zb3 (ZaB m_Frame_full_behind (hr.mono (by decide)) (pv 1) (Zaa (pv 2) Zae))) (Zad (Zaq ZaJ)) ZaE)
      (Zac (Zba (Zb3 (ZaF c_is_barred (hr.mono (by decide)) rfl (Zaa (pv 1) (Zaa (pv 2) Zae)))) (Zad (Zaq ZaJ)) ZaE)
      (Zac (Zba (ZaC Zhc (ZaF c_row_price (hr.mono (by decide)) rfl (Zaa (pv 0) (Zaa (pv 1) (Zaa (pv 2) Zae)))) (Zce m_Frame_left (hr.mono (by decide)) (pv 1)) (nomark _)) (Zad (Zaq ZaJ)) ZaE)
      (Zad (Zaq Zcn)))))),?_⟩
    walk_at "nx"
    rcases ha with ⟨h1,rfl⟩|⟨h1,h2,rfl⟩|⟨h1,h2,b1,b2,hb1,hb2,ha⟩
    . skip
      repeat walk_at "rz"
      refine Zan F.ob rfl ?_
      repeat walk_at "rz"
      refine ⟨fr,x,ws,p,wd,n,rr,t,l,pr,d,rfl,F,hp,hr1,hr2,?_⟩
      repeat walk_at "rz"
      exact k H (Same.refl H)
    . skip
      repeat walk_at "rz"
      refine Zan F.ob rfl ?_
      repeat walk_at "rz"
      refine ⟨fr,x,ws,p,wd,n,rr,t,l,pr,d,rfl,F,hp,hr1,hr2,?_⟩
      repeat walk_at "rz"
      refine Zan F.ob rfl ?_
      repeat walk_at "rz"
      refine ⟨fr,x,ws,p,wd,n,rr,t,l,pr,d,rfl,F,hp,hr1,hr2,?_⟩
      repeat walk_at "rz"
      exact k H (Same.refl H)
    . skip
      repeat walk_at "rz"
      refine Zan F.ob rfl ?_
      repeat walk_at "rz"
      refine ⟨fr,x,ws,p,wd,n,rr,t,l,pr,d,rfl,F,hp,hr1,hr2,?_⟩
      repeat walk_at "rz"
      refine Zan F.ob rfl ?_
      repeat walk_at "rz"
      refine ⟨fr,x,ws,p,wd,n,rr,t,l,pr,d,rfl,F,hp,hr1,hr2,?_⟩
      repeat walk_at "rz"
      refine ⟨fr,x,ws,p,wd,n,b1,rfl,F,hp,hb1,fun H1 s1=>?_⟩
      have F1:=F.same s1
      have r1:=r.same s1
      have hp1:ZbI K H1 p wd n:=s1.tup hp
      rcases ha with ⟨hbar,rfl⟩|⟨hbar,hdr,rfl⟩|⟨hbar,hdr,rfl⟩
      . rw [hbar]
        repeat walk_at "rz"
        exact k H1 s1
      . skip
        rw [hbar]
        repeat walk_at "rz"
        refine ⟨R,Ar,S,m,fr,x,ws,p,wd,n,b1,b2,t,l,pr,d,rfl,r1,F1,hp1,hb1,hb2,hr2,?_⟩
        generalize (if (b1 || b2)=true then d else pr)=z at hdr |-
        repeat walk_at "rz"
        refine Zan F1.ob rfl ?_
        refine ⟨fr,x,ws,rfl,F1,?_⟩
        repeat walk_at "rz"
        exact k H1 s1
      . skip
        rw [hbar]
        repeat walk_at "rz"
        refine ⟨R,Ar,S,m,fr,x,ws,p,wd,n,b1,b2,t,l,pr,d,rfl,r1,F1,hp1,hb1,hb2,hr2,?_⟩
        generalize (if (b1 || b2)=true then d else pr)=z at hdr |-
        repeat walk_at "rz"
        refine Zan F1.ob rfl ?_
        refine ⟨fr,x,ws,rfl,F1,?_⟩
        repeat walk_at "rz"
        exact k H1 s1
end
noncomputable def inF3 (f:FrI) (b:Addr):Prop:=b=f.a\/b=f.ST\/b=f.SS
theorem k_F3 {f:FrI} {H H':Hp} (k:KeptX (inF f) H H'):KeptX (inF3 f) H H':=k.mono fun _ h=>h.elim .inl fun z=>.inr (.inl z)
noncomputable def ZdK (x:FrS) (c:Int):FrS:={ x with used:=x.used + c,row:=x.row + 1 }
structure Ap (R L:Addr) (A:Nat->Option AcI) (f:FrI):Prop where
  tR:f.ST ≠ R
  sR:f.SS ≠ R
  tL:f.ST ≠ L
  sL:f.SS ≠ L
  p:∀ i y,i < 16->A i=some y->f.ST ≠ y.pr/\f.SS ≠ y.pr
noncomputable def goX (A:Nat->Option AcI) (L:Addr) (f:FrI) (b:Addr):Prop:=¬ Out A b\/b=L\/inF3 f b
section
variable {K:PySem.W.Frag} {C cJ cS cM cN cF:Addr} {H H':Hp} {j dx R L:Addr} {A:Nat->Option AcI} {S:Nat->AcS} {m:Nat} {es:List DI} {f:FrI} {x:FrS} {ws:List V}
theorem Zdm (k:KeptX (inF3 f) H H'):KeptX (goX A L f) H H':=k.mono fun _ h=>.inr (.inr h)
theorem Zkp (k:∀ b,Out A b->b ≠ L->H' b=H b):KeptX (goX A L f) H H':=fun b o e n=>by
  have h1:Out A b:=Classical.byContradiction fun z=>n (.inl z)
  have h2:b ≠ L:=fun z=>n (.inr (.inl z))
  rw [k b h1 h2]; exact e
theorem imm_F3 (F:FrAt cF H f x ws) (k:KeptX (inF3 f) H H'):SameI H H':=k.imm fun b o z e i=>by
  rcases z with rfl|rfl|rfl
  . rw [F.ob] at e; cases e; exact ZcG i
  . rw [F.st] at e; cases e; exact Zbo i
  . rw [F.ss] at e; cases e; exact Zbo i
theorem ZdL (F:FrAt cF H f x ws) {b C' dx':Addr} {fs:List (Str × V)} (h:H b=some (.ins C' dx' fs)) (n:fs.length ≠ 15):¬ inF3 f b:=by
  rintro (z|z|z)
  . exact ZiA h F.ob n z
  . exact Za2 h F.st (by intro z; cases z) z
  . exact Za2 h F.ss (by intro z; cases z) z
theorem Zkq (F:FrAt cF H f x ws) {b:Addr} {kvs:List (Key × V)} (h:H b=some (.dK kvs)):¬ inF3 f b:=by
  rintro (z|z|z)
  . exact Za2 h F.ob (by intro z; cases z) z
  . exact Za2 h F.st (by intro z; cases z) z
  . exact Za2 h F.ss (by intro z; cases z) z
theorem ZdM (F:FrAt cF H f x ws) {b:Addr} {xs:List V} (h:H b=some (.lst xs)) (n1:f.ST ≠ b) (n2:f.SS ≠ b):¬ inF3 f b:=by
  rintro (z|z|z)
  . exact Za2 h F.ob (by intro z; cases z) z
  . exact n1 z.symm
  . exact n2 z.symm
theorem Rooms.frame (r:Rooms K C H R A S m) (F:FrAt cF H f x ws) (a:Ap R L A f) (k:KeptX (inF3 f) H H'):Rooms K C H' R A S m:=by
  have im:=imm_F3 F k
  refine ⟨k _ _ r.ob (ZdM F r.ob a.tR a.sR),fun i y hi hy=>?_,r.da,r.ds⟩
  have h:=r.ac i y hi hy
  obtain ⟨zs,e1,e2⟩:=h.pg
  obtain ⟨kvs,e3,e4⟩:=h.sto
  exact ⟨k _ _ h.ob (ZdL F h.ob (by show 5 ≠ 15; decide)),⟨zs,k _ _ e1 (ZdM F e1 (a.p i y hi hy).1 (a.p i y hi hy).2),e2.keep im⟩,kvs,k _ _ e3 (Zkq F e3),e4⟩
theorem Jr.frame (J:Jr cJ cS cM cN H j dx R L A es) (F:FrAt cF H f x ws) (a:Ap R L A f) (k:KeptX (inF3 f) H H'):Jr cJ cS cM cN H' j dx R L A es :=
  ⟨k _ _ J.ob (ZdL F J.ob (by show 2 ≠ 15; decide)),k _ _ J.li (ZdM F J.li a.tL a.sL),fun e he=>⟨k _ _ (J.de e he).1 (ZdL F (J.de e he).1 (by have:=ZfK e.d; omega)),(J.de e he).2⟩,J.nR,J.np⟩
theorem FrAt.out (F:FrAt cF H f x ws) (r:Rooms K C H R A S m) (a:Ap R L A f) (lL:H L=some (.lst (es.map fun e=>V.ref e.o))) (k:∀ b,Out A b->b ≠ L->H' b=H b):FrAt cF H' f x ws:=by
  have oa:Out A f.a:=fun i y hi hy=>⟨ZiA F.ob (r.ac i y hi hy).ob (by show 15 ≠ 5; decide),let ⟨_,g,_⟩:=(r.ac i y hi hy).sto; Za2 F.ob g (by intro z; cases z)⟩
  exact ⟨by rw [k _ oa (Za2 F.ob lL (by intro z; cases z))]; exact F.ob,by rw [k _ (r.outL F.st) a.tL]; exact F.st,by rw [k _ (r.outL F.ss) a.sL]; exact F.ss,F.ne⟩
end
noncomputable def ZbY (K:PySem.W.Frag) (C cJ cS cM cN cF:Addr):Sp:=fun vs H Q _=>∃ (j dx R L:Addr) (A:Nat->Option AcI) (S:Nat->AcS) (m:Nat) (es:List DI) (e:DI) (f:FrI) (x:FrS) (ws:List V),vs=[.ref j,.ref f.a,.ref e.o]/\Jr cJ cS cM cN H j dx R L A es/\Rooms K C H R A S m/\H e.o=some (.ins (clsD cS cM cN e.d) e.dx (fldD e.d))/\fitsD A e.d/\m <= 1000000/\es.length < 1000000/\FrAt cF H f x ws/\Ap R L A f/\ws.length <= 100000 /\
  ∀ t H',H t=none->KeptX (goX A L f) H H'->Rooms K C H' R A (doneS S e.d) (m + 1)->Jr cJ cS cM cN H' j dx R L A (es ++ [e])->FrAt cF H' f x (ws ++ [.ref t])->H' t=some (.tup (tellV e.d))->Q .non H'
section
variable {P:Program} {w:World} {K:PySem.W.Frag} {mg:Str->Option Value} {base:Heap}
theorem ZfU:FnScope ["journal", "frame", "deed"] ["journal", "frame", "deed"] (Zab Zcw):=⟨rfl,rfl,rfl,by decide +kernel,rfl,by decide +kernel,by decide +kernel⟩
theorem ZfV   {cJournal:Addr} {cFrame:Addr} {cSave:Addr} {cMove:Addr} {cNote:Addr} (D:Zap K mg "write_step" Zcw) (tJournal:T_Journal K mg cJournal) (tFrame:T_Frame K mg cFrame) (tSave:T_Save K mg cSave) (tMove:T_Move K mg cMove) (tNote:T_Note K mg cNote) (m_Journal_write:MCal P w K mg base 3 cJournal "write" (ZhI K cAccount cJournal cSave cMove cNote)) (m_Save_told:MCal P w K mg base 1 cSave "told" (spTold cSave isSave)) (m_Move_told:MCal P w K mg base 1 cMove "told" (spTold cMove isMove)) (m_Note_told:MCal P w K mg base 1 cNote "told" (spTold cNote isNote)):Cal P w K mg base 4 "write_step" (ZbY K cAccount cJournal cSave cMove cNote cFrame):=by
  refine Zay (N:=["journal", "frame", "deed"]) (ps:=["journal", "frame", "deed"]) D ZfU (fun vs H Q E h=>?_) (fun _ _ _ _ _ _ us hl=>bd3 (R:=fun us=>bindArgs _ ⟨us,[]⟩=pure (List.zip _ us)) (fun _ _ _=>rfl) us hl) (fun f cdv A outer s H vs Q E hr h=>?_)
  . obtain ⟨j,dx,R,L,A,S,m,es,e,f,x,ws,rfl,_⟩:=h; rfl
  . obtain ⟨j,dx,R,L,Ar,S,m,es,e,fr,x,ws,rfl,J,r,he,fit,hm,hel,F,ap,hw,k⟩:=h
    refine ⟨_,(Zac (Zat (ZaB m_Journal_write (hr.mono (by decide)) (pv 0) (Zaa (pv 2) Zae)))
      (Zad (Zat (Zhi PySem.F.plainAttrs_list PySem.F.slot_list_append PySem.F.type_list_append ZbG (Zak (pv 1) rfl) (Zaa (Zen (T:=TTo cSave cMove cNote) (Zkh m_Save_told m_Move_told m_Note_told) (hr.mono (by decide)) (pv 2)) Zae))))),?_⟩
    walk_at "nx"
    repeat walk_at "rdk"
    refine Zan J.ob rfl ?_
    repeat walk_at "rdk"
    refine ⟨j,dx,R,L,Ar,S,m,es,e,rfl,J,r,he,fit,hm,hel,fun H1 k1 r1 J1=>?_⟩
    have F1:=F.out r ap J.li k1
    have he1:=(J1.de e (List.mem_append.mpr (.inr (List.mem_singleton.mpr rfl)))).1
    repeat walk_at "rdk"
    refine Zai F1.ob tFrame.k.cl tFrame.n_steps rfl ?_
    refine ⟨Zcd (Zaz F1.ss),?_⟩
    repeat walk_at "rdk"
    refine Zdh ?_
    repeat walk_at "rdk"
    refine ⟨e.o,clsD cSave cMove cNote e.d,e.dx,fldD e.d,_,rfl,he1,ZiC e.d,ZlY cSave cMove cNote e.d,?_⟩
    repeat walk_at "rdk"
    refine ⟨e.o,e.dx,e.d,rfl,ZcA e.d,he1,fun t ht=>?_⟩
    have s1:Same H1 (upd H1 t (.tup (tellV e.d))):=Same.new ht
    have r2:=r1.same s1
    have J2:=J1.same s1
    have F2:=F1.same s1
    have k2:KeptX (goX Ar L fr) H (upd H1 t (.tup (tellV e.d))):=(Zkp k1).trans s1.keptX
    have et:(upd H1 t (.tup (tellV e.d))) t=some (.tup (tellV e.d)):=Zag
    have htH:H t=none:=by
      cases z:H t with
      | none=>rfl
      | some o =>
        exfalso
        by_cases q:Out Ar t/\t ≠ L
        . rw [k1 t q.1 q.2,z] at ht; cases ht
        . by_cases q2:t=L
          . rw [q2,J1.li] at ht; cases ht
          . refine q ⟨fun i y hi hy=>⟨?_,?_⟩,q2⟩
            . intro z2; rw [z2,(r1.ac i y hi hy).ob] at ht; cases ht
            . intro z2; obtain ⟨kv,g1,_⟩:=(r1.ac i y hi hy).sto; rw [z2,g1] at ht; cases ht
    generalize upd H1 t _=H2 at s1 r2 J2 F2 k2 et
    repeat walk_at "rdk"
    refine ZbT F2.ss (Nat.lt_of_le_of_lt hw (by decide)) ?_
    repeat walk_at "rdk"
    have k3:KeptX (inF3 fr) H2 (upd H2 fr.SS (.lst (ws ++ [.ref t]))):=KeptX.upd (.inr (.inr rfl))
    exact k t _ htH (k2.trans (Zdm k3)) (r2.frame F2 ap k3) (J2.frame F2 ap k3) (F2.setSS _) (by rw [Zaj (Za2 et F2.ss (by intro z; cases z))]; exact et)
end
noncomputable def spAt (K:PySem.W.Frag) (C:Addr):Sp:=fun vs H Q _=>∃ (R:Addr) (A:Nat->Option AcI) (S:Nat->AcS) (m:Nat) (s:Int),vs=[.ref R,.int s]/\Rooms K C H R A S m/\Q (if 0 <= s/\s < 16 then roomV (A s.toNat) else .non) H
noncomputable def ZeJ (K:PySem.W.Frag) (C cF:Addr):Sp:=fun vs H Q _=>∃ (R L:Addr) (vJ:V) (A:Nat->Option AcI) (S:Nat->AcS) (m:Nat) (f:FrI) (x:FrS) (ws:List V) (vp:V) (i:Nat) (y:AcI) (s:List Int) (pl:Int),vs=[.ref R,vJ,.ref f.a,vp]/\Rooms K C H R A S m/\FrAt cF H f x ws/\Ap R L A f/\x.who=(i:Int)/\i < 16/\A i=some y/\x.stack=s ++ [pl]/\x.stack.length <= 900 /\
  ∀ H',KeptX (inF3 f) H H'->FrAt cF H' f { x with stack:=s ++ [(S i).store pl] } ws->Q .non H'
noncomputable def Zh2 (A:Nat->Option AcI) (S:Nat->AcS) (s:Int):Int:=if 0 <= s/\s < 16 then (match A s.toNat with|some _=>(S s.toNat).coin|none=>0) else 0
noncomputable def ZeK (K:PySem.W.Frag) (C cF:Addr):Sp:=fun vs H Q _=>∃ (R L:Addr) (vJ:V) (A:Nat->Option AcI) (S:Nat->AcS) (m:Nat) (f:FrI) (x:FrS) (ws:List V) (vp:V) (s:List Int) (sl:Int),vs=[.ref R,vJ,.ref f.a,vp]/\Rooms K C H R A S m/\FrAt cF H f x ws/\Ap R L A f/\x.stack=s ++ [sl]/\x.stack.length <= 900 /\
  ∀ H',KeptX (inF3 f) H H'->FrAt cF H' f { x with stack:=s ++ [Zh2 A S sl] } ws->Q .non H'
noncomputable def ZlZ (K:PySem.W.Frag) (C cJ cS cM cN cF:Addr) (H:Hp) (j dx R L:Addr) (A:Nat->Option AcI) (S:Nat->AcS) (m:Nat) (es:List DI) (f:FrI) (x:FrS) (ws:List V) (d:Dd) (Q:VK):Prop :=
  ∀ t e H',e.d=d->H t=none->KeptX (goX A L f) H H'->Rooms K C H' R A (doneS S d) (m + 1)->Jr cJ cS cM cN H' j dx R L A (es ++ [e])->FrAt cF H' f x (ws ++ [.ref t])->H' t=some (.tup (tellV d))->Q .non H'
noncomputable def ZeL (K:PySem.W.Frag) (C cJ cS cM cN cF:Addr):Sp:=fun vs H Q _=>∃ (j dx R L:Addr) (A:Nat->Option AcI) (S:Nat->AcS) (m:Nat) (es:List DI) (f:FrI) (x:FrS) (ws:List V) (vp:V) (i:Nat) (y:AcI) (s:List Int) (pl v:Int),vs=[.ref R,.ref j,.ref f.a,vp]/\Jr cJ cS cM cN H j dx R L A es/\Rooms K C H R A S m/\m <= 1000000/\es.length < 1000000/\FrAt cF H f x ws/\Ap R L A f/\ws.length <= 100000/\x.who=(i:Int)/\i < 16/\A i=some y/\x.stack=s ++ [pl,v] /\
  ZlZ K C cJ cS cM cN cF H j dx R L A S m es f { x with stack:=s } ws (.save (i:Int) pl ((S i).store pl) v) Q
noncomputable def ZeM (K:PySem.W.Frag) (C cJ cS cM cN cF:Addr):Sp:=fun vs H Q _=>∃ (j dx R L:Addr) (A:Nat->Option AcI) (S:Nat->AcS) (m:Nat) (es:List DI) (f:FrI) (x:FrS) (ws:List V) (vp:V) (s:List Int) (v:Int),vs=[.ref R,.ref j,.ref f.a,vp]/\Jr cJ cS cM cN H j dx R L A es/\Rooms K C H R A S m/\m <= 1000000/\es.length < 1000000/\FrAt cF H f x ws/\Ap R L A f/\ws.length <= 100000/\x.stack=s ++ [v] /\
  ZlZ K C cJ cS cM cN cF H j dx R L A S m es f { x with stack:=s } ws (.note x.who v) Q
section
variable {P:Program} {w:World} {K:PySem.W.Frag} {mg:Str->Option Value} {base:Heap}
theorem ZfW:FnScope ["rooms", "slot"] ["rooms", "slot"] (Zab Zct):=⟨rfl,rfl,rfl,by decide +kernel,rfl,by decide +kernel,by decide +kernel⟩
theorem ZfX    (D:Zap K mg "account_at" Zct) (n_len:mg "len" = none):Cal P w K mg base 1 "account_at" (spAt K cAccount):=by
  refine Zay (N:=["rooms", "slot"]) (ps:=["rooms", "slot"]) D ZfW (fun vs H Q E h=>?_) (fun _ _ _ _ _ _ us hl=>bd2 (R:=fun us=>bindArgs _ ⟨us,[]⟩=pure (List.zip _ us)) (fun _ _=>rfl) us hl) (fun f cdv A outer s H vs Q E hr h=>?_)
  . obtain ⟨R,A,S,m,s,rfl,_⟩:=h; rfl
  . obtain ⟨R,Ar,S,m,s0,rfl,r,k⟩:=h
    refine ⟨_,(Zac (Zba (ZkR op_le ZkQ Zaf (pv 1) (ZaG Zb7 rfl n_len PySem.boot_len (Zaa (pv 0) Zae))) (Zad (Zaq (ZaI ZaA (pv 0) (pv 1) (fun _ _=>rfl)))) ZaE)
      (Zad (Zaq Zcn))),?_⟩
    walk_at "nx"
    have hRs:=Zaz (K:=K) r.ob
    have hl16:(((List.range 16).map fun i=>roomV (Ar i)).length:Int)=16:=by rw [List.length_map,List.length_range]; rfl
    repeat' walk_at "rdk"
    . rename_i h1 h2
      rw [hl16] at h2
      rw [if_pos ⟨h1,h2⟩] at k
      refine Za8 hRs (ZbO (i:=s0.toNat) (by rw [List.getElem?_map,List.getElem?_range (by omega)]; rfl) (by omega)) ?_
      exact k
    . rename_i h1 h2
      rw [hl16] at h2
      rw [if_neg (fun z=>h2 z.2)] at k
      exact k
    . rename_i h1
      rw [if_neg (fun z=>h1 z.1)] at k
      exact k
theorem ZeN:FnScope ["rooms", "journal", "frame", "row", "taken"] ["rooms", "journal", "frame", "row"] (Zab Zdx):=⟨rfl,rfl,rfl,by decide +kernel,rfl,by decide +kernel,by decide +kernel⟩
theorem Zh3   {cFrame:Addr} {cAccount:Addr} (D:Zap K mg "load_row" Zdx) (tFrame:T_Frame K mg cFrame) (tAccount:T_Account K mg cAccount) (m_Frame_taken:MCal P w K mg base 1 cFrame "taken" (ZbX cFrame)) (m_Frame_lay:MCal P w K mg base 1 cFrame "lay" (spLay cFrame)) (m_Account_loaded:MCal P w K mg base 1 cAccount "loaded" (Zdf K cAccount)):Cal P w K mg base 2 "load_row" (ZeJ K cAccount cFrame):=by
  refine Zay (N:=["rooms", "journal", "frame", "row", "taken"]) (ps:=["rooms", "journal", "frame", "row"]) D ZeN (fun vs H Q E h=>?_) (fun _ _ _ _ _ _ us hl=>bd4 (R:=fun us=>bindArgs _ ⟨us,[]⟩=pure (List.zip _ us)) (fun _ _ _ _=>rfl) us hl) (fun f cdv A outer s H vs Q E hr h=>?_)
  . obtain ⟨R,L,vJ,A,S,m,f,x,ws,vp,i,y,s,pl,rfl,_⟩:=h; rfl
  . obtain ⟨R,L,vJ,Ar,S,m,fr,x,ws,vp,i,y,s0,pl,rfl,r,F,ap,ew,hi,hy,e0,hl,k⟩:=h
    refine ⟨_,(Zac (Zax (i:=4) ZeN.nd rfl (by first|exact Or.inl rfl|exact Or.inr rfl) (ZaB m_Frame_taken (hr.mono (by decide)) (pv 2) (Zaa Zaf Zae)))
      (Zad (Zat (ZaB m_Frame_lay (hr.mono (by decide)) (pv 2) (Zaa (ZaB m_Account_loaded (hr.mono (by decide)) (ZaI ZaA (pv 0) (Zak (pv 2) rfl) (fun _ _=>rfl)) (Zaa (ZaI ZaA (pv 4) Zaf (fun _ _=>rfl)) Zae)) Zae))))),?_⟩
    walk_at "nx"
    repeat walk_at "rdk"
    refine Zan F.ob rfl ?_
    repeat walk_at "rdk"
    refine ⟨fr,x,ws,s0,[pl],rfl,F,e0,by show 1 <= 1000; decide,fun q H1 _ k1 F1 e1=>?_⟩
    have e1':H1 q=some (.lst [.int pl]):=e1
    have k1':KeptX (inF3 fr) H H1:=k1.mono fun _ h=>.inr (.inl h)
    have r1:=r.frame F ap k1'
    have ay:=r1.ac i y hi hy
    repeat walk_at "rdk"
    refine Zan F1.ob rfl ?_
    repeat walk_at "rdk"
    refine Zai F1.ob tFrame.k.cl tFrame.n_who rfl ?_
    rw [ew]
    refine Za8 (Zaz r1.ob) (r1.at hi hy) ?_
    refine Zan ay.ob rfl ?_
    repeat walk_at "rdk"
    refine ⟨y.a,y.dx,y.pr,y.st,_,_,_,_,_,m,pl,rfl,ay,?_⟩
    repeat walk_at "rdk"
    have hl1:s0.length <= 1000:=by rw [e0,List.length_append] at hl; omega
    refine ⟨fr,_,ws,_,rfl,F1,hl1,fun H2 k2 F2=>?_⟩
    repeat walk_at "rdk"
    exact k H2 (k1'.trans (k2.mono fun _ h=>.inr (.inl h))) F2
theorem Zc0:FnScope ["rooms", "journal", "frame", "row", "taken", "account"] ["rooms", "journal", "frame", "row"] (Zab ZdC):=⟨rfl,rfl,rfl,by decide +kernel,rfl,by decide +kernel,by decide +kernel⟩
theorem Zh4   {cFrame:Addr} {cAccount:Addr} (D:Zap K mg "coin_row" ZdC) (tFrame:T_Frame K mg cFrame) (tAccount:T_Account K mg cAccount) (m_Frame_taken:MCal P w K mg base 1 cFrame "taken" (ZbX cFrame)) (m_Frame_lay:MCal P w K mg base 1 cFrame "lay" (spLay cFrame)) (c_account_at:Cal P w K mg base 1 "account_at" (spAt K cAccount)):Cal P w K mg base 2 "coin_row" (ZeK K cAccount cFrame):=by
  refine Zay (N:=["rooms", "journal", "frame", "row", "taken", "account"]) (ps:=["rooms", "journal", "frame", "row"]) D Zc0 (fun vs H Q E h=>?_) (fun _ _ _ _ _ _ us hl=>bd4 (R:=fun us=>bindArgs _ ⟨us,[]⟩=pure (List.zip _ us)) (fun _ _ _ _=>rfl) us hl) (fun f cdv A outer s H vs Q E hr h=>?_)
  . obtain ⟨R,L,vJ,A,S,m,f,x,ws,vp,s,sl,rfl,_⟩:=h; rfl
  . obtain ⟨R,L,vJ,Ar,S,m,fr,x,ws,vp,s0,sl,rfl,r,F,ap,e0,hl,k⟩:=h
    refine ⟨_,(Zac (Zax (i:=4) Zc0.nd rfl (by first|exact Or.inl rfl|exact Or.inr rfl) (ZaB m_Frame_taken (hr.mono (by decide)) (pv 2) (Zaa Zaf Zae)))
      (Zac (Zax (i:=5) Zc0.nd rfl (by first|exact Or.inl rfl|exact Or.inr rfl) (ZaF c_account_at (hr.mono (by decide)) rfl (Zaa (pv 0) (Zaa (ZaI ZaA (pv 4) Zaf (fun _ _=>rfl)) Zae))))
      (Zad (Zat (ZaB m_Frame_lay (hr.mono (by decide)) (pv 2) (Zaa (Zd1 (ZaC Zel (pv 5) Zcn (nomark _)) Zaf (Zak (pv 5) rfl)) Zae)))))),?_⟩
    walk_at "nx"
    repeat walk_at "rdk"
    refine Zan F.ob rfl ?_
    repeat walk_at "rdk"
    refine ⟨fr,x,ws,s0,[sl],rfl,F,e0,by show 1 <= 1000; decide,fun q H1 _ k1 F1 e1=>?_⟩
    have e1':H1 q=some (.lst [.int sl]):=e1
    have k1':KeptX (inF3 fr) H H1:=k1.mono fun _ h=>.inr (.inl h)
    have r1:=r.frame F ap k1'
    have hl1:s0.length <= 1000:=by rw [e0,List.length_append] at hl; omega
    repeat walk_at "rdk"
    refine ⟨R,Ar,S,m,sl,rfl,r1,?_⟩
    unfold Zh2 at k
    by_cases h0:0 <= sl/\sl < 16
    . rw [if_pos h0] at k |-
      cases hA:Ar sl.toNat with
      | none =>
        rw [hA] at k
        rw [show roomV none=V.non from rfl]
        repeat walk_at "rdk"
        refine Zan F1.ob rfl ?_
        repeat walk_at "rdk"
        refine ⟨fr,_,ws,_,rfl,F1,hl1,fun H2 k2 F2=>?_⟩
        repeat walk_at "rdk"
        exact k H2 (k1'.trans (k2.mono fun _ h=>.inr (.inl h))) F2
      | some y =>
        rw [hA] at k
        rw [show roomV (some y)=V.ref y.a from rfl]
        have ay:=r1.ac sl.toNat y (by omega) hA
        repeat walk_at "rdk"
        refine Zan F1.ob rfl ?_
        repeat walk_at "rdk"
        refine Zai ay.ob tAccount.k.cl tAccount.n_coin rfl ?_
        repeat walk_at "rdk"
        refine ⟨fr,_,ws,_,rfl,F1,hl1,fun H2 k2 F2=>?_⟩
        repeat walk_at "rdk"
        exact k H2 (k1'.trans (k2.mono fun _ h=>.inr (.inl h))) F2
    . rw [if_neg h0] at k |-
      repeat walk_at "rdk"
      refine Zan F1.ob rfl ?_
      repeat walk_at "rdk"
      refine ⟨fr,_,ws,_,rfl,F1,hl1,fun H2 k2 F2=>?_⟩
      repeat walk_at "rdk"
      exact k H2 (k1'.trans (k2.mono fun _ h=>.inr (.inl h))) F2
theorem Zc1:FnScope ["rooms", "journal", "frame", "row", "taken", "old"] ["rooms", "journal", "frame", "row"] (Zab Zdy):=⟨rfl,rfl,rfl,by decide +kernel,rfl,by decide +kernel,by decide +kernel⟩
theorem Zh5   {cFrame:Addr} {cAccount:Addr} {cSave:Addr} (D:Zap K mg "save_row" Zdy) (tFrame:T_Frame K mg cFrame) (tAccount:T_Account K mg cAccount) (tSave:T_Save K mg cSave) (m_Frame_taken:MCal P w K mg base 1 cFrame "taken" (ZbX cFrame)) (m_Account_loaded:MCal P w K mg base 1 cAccount "loaded" (Zdf K cAccount)) (i_Save:ICal P w K mg base 1 "Save" cSave (ZfG cSave)) (c_write_step:Cal P w K mg base 4 "write_step" (ZbY K cAccount cJournal cSave cMove cNote cFrame)):Cal P w K mg base 5 "save_row" (ZeL K cAccount cJournal cSave cMove cNote cFrame):=by
  refine Zay (N:=["rooms", "journal", "frame", "row", "taken", "old"]) (ps:=["rooms", "journal", "frame", "row"]) D Zc1 (fun vs H Q E h=>?_) (fun _ _ _ _ _ _ us hl=>bd4 (R:=fun us=>bindArgs _ ⟨us,[]⟩=pure (List.zip _ us)) (fun _ _ _ _=>rfl) us hl) (fun f cdv A outer s H vs Q E hr h=>?_)
  . obtain ⟨j,dx,R,L,A,S,m,es,f,x,ws,vp,i,y,s,pl,v,rfl,_⟩:=h; rfl
  . obtain ⟨j,dx,R,L,Ar,S,m,es,fr,x,ws,vp,i,y,s0,pl,v,rfl,J,r,hm,hel,F,ap,hw,ew,hi,hy,e0,k⟩:=h
    refine ⟨_,(Zac (Zax (i:=4) Zc1.nd rfl (by first|exact Or.inl rfl|exact Or.inr rfl) (ZaB m_Frame_taken (hr.mono (by decide)) (pv 2) (Zaa Zaf Zae)))
      (Zac (Zax (i:=5) Zc1.nd rfl (by first|exact Or.inl rfl|exact Or.inr rfl) (ZaB m_Account_loaded (hr.mono (by decide)) (ZaI ZaA (pv 0) (Zak (pv 2) rfl) (fun _ _=>rfl)) (Zaa (ZaI ZaA (pv 4) Zaf (fun _ _=>rfl)) Zae)))
      (Zad (Zat (ZaF c_write_step (hr.mono (by decide)) rfl (Zaa (pv 1) (Zaa (pv 2) (Zaa (Zcr i_Save (hr.mono (by decide)) rfl (Zaa (Zak (pv 2) rfl) (Zaa (ZaI ZaA (pv 4) Zaf (fun _ _=>rfl)) (Zaa (pv 5) (Zaa (ZaI ZaA (pv 4) Zaf (fun _ _=>rfl)) Zae))))) Zae)))))))),?_⟩
    walk_at "nx"
    repeat walk_at "rdk"
    refine Zan F.ob rfl ?_
    repeat walk_at "rdk"
    refine ⟨fr,x,ws,s0,[pl,v],rfl,F,e0,by show 2 <= 1000; decide,fun q H1 _ k1 F1 e1=>?_⟩
    have e1':H1 q=some (.lst [.int pl,.int v]):=e1
    have k1':KeptX (inF3 fr) H H1:=k1.mono fun _ h=>.inr (.inl h)
    have r1:=r.frame F ap k1'
    have J1:=J.frame F ap k1'
    have ay:=r1.ac i y hi hy
    repeat walk_at "rdk"
    refine Zai F1.ob tFrame.k.cl tFrame.n_who rfl ?_
    rw [ew]
    refine Za8 (Zaz r1.ob) (r1.at hi hy) ?_
    refine Zan ay.ob rfl ?_
    repeat walk_at "rdk"
    refine ⟨y.a,y.dx,y.pr,y.st,_,_,_,_,_,m,pl,rfl,ay,?_⟩
    repeat walk_at "rdk"
    refine Zai F1.ob tFrame.k.cl tFrame.n_who rfl ?_
    rw [ew]
    repeat walk_at "rdk"
    intro ob odx hx hdx hne
    have hx2:(upd H1 odx (.own ob)) ob=none:=by rw [Zaj (Ne.symm hne)]; exact hx
    refine ⟨ob,odx,(i:Int),pl,(S i).store pl,v,rfl,Zag,rfl,?_⟩
    rw [ZaR]
    have s1:Same H1 (upd (upd H1 odx (.own ob)) ob (.ins cSave odx (saveF (i:Int) pl ((S i).store pl) v))):=(Same.new hdx).newT hx2
    have eo:(upd (upd H1 odx (.own ob)) ob (.ins cSave odx (saveF (i:Int) pl ((S i).store pl) v))) ob=some (.ins cSave odx (saveF (i:Int) pl ((S i).store pl) v)):=Zag
    have J2:=J1.same s1
    have r2:=r1.same s1
    have F2:=F1.same s1
    generalize upd (upd H1 odx (.own ob)) ob (.ins cSave odx (saveF (i:Int) pl ((S i).store pl) v))=H2 at s1 eo J2 r2 F2
    repeat walk_at "rdk"
    refine ⟨j,dx,R,L,Ar,S,m,es,⟨ob,odx,.save (i:Int) pl ((S i).store pl) v⟩,fr,_,ws,rfl,J2,r2,eo,⟨i,y,rfl,hi,hy⟩,hm,hel,F2,ap,hw,fun t H3 ht k3 r3 J3 F3 et=>?_⟩
    repeat walk_at "rdk"
    have sk:KeptX (goX Ar L fr) H H2:=(Zdm k1').trans s1.keptX
    refine k t ⟨ob,odx,.save (i:Int) pl ((S i).store pl) v⟩ H3 rfl ?_ (sk.trans k3) r3 J3 F3 et
    cases z:H t with
    | none=>rfl
    | some oo =>
      exfalso
      by_cases q:t=fr.ST
      . rw [q,F2.st] at ht; cases ht
      . rw [s1 _ _ (k1 t oo z q)] at ht; cases ht
theorem ZeO:FnScope ["rooms", "journal", "frame", "row", "taken"] ["rooms", "journal", "frame", "row"] (Zab ZdD):=⟨rfl,rfl,rfl,by decide +kernel,rfl,by decide +kernel,by decide +kernel⟩
theorem Zh6   {cFrame:Addr} {cNote:Addr} (D:Zap K mg "note_row" ZdD) (tFrame:T_Frame K mg cFrame) (tNote:T_Note K mg cNote) (m_Frame_taken:MCal P w K mg base 1 cFrame "taken" (ZbX cFrame)) (i_Note:ICal P w K mg base 1 "Note" cNote (ZfI cNote)) (c_write_step:Cal P w K mg base 4 "write_step" (ZbY K cAccount cJournal cSave cMove cNote cFrame)):Cal P w K mg base 5 "note_row" (ZeM K cAccount cJournal cSave cMove cNote cFrame):=by
  refine Zay (N:=["rooms", "journal", "frame", "row", "taken"]) (ps:=["rooms", "journal", "frame", "row"]) D ZeO (fun vs H Q E h=>?_) (fun _ _ _ _ _ _ us hl=>bd4 (R:=fun us=>bindArgs _ ⟨us,[]⟩=pure (List.zip _ us)) (fun _ _ _ _=>rfl) us hl) (fun f cdv A outer s H vs Q E hr h=>?_)
  . obtain ⟨j,dx,R,L,A,S,m,es,f,x,ws,vp,s,v,rfl,_⟩:=h; rfl
  . obtain ⟨j,dx,R,L,Ar,S,m,es,fr,x,ws,vp,s0,v,rfl,J,r,hm,hel,F,ap,hw,e0,k⟩:=h
    refine ⟨_,(Zac (Zax (i:=4) ZeO.nd rfl (by first|exact Or.inl rfl|exact Or.inr rfl) (ZaB m_Frame_taken (hr.mono (by decide)) (pv 2) (Zaa Zaf Zae)))
      (Zad (Zat (ZaF c_write_step (hr.mono (by decide)) rfl (Zaa (pv 1) (Zaa (pv 2) (Zaa (Zcr i_Note (hr.mono (by decide)) rfl (Zaa (Zak (pv 2) rfl) (Zaa (ZaI ZaA (pv 4) Zaf (fun _ _=>rfl)) Zae))) Zae))))))),?_⟩
    walk_at "nx"
    repeat walk_at "rdk"
    refine Zan F.ob rfl ?_
    repeat walk_at "rdk"
    refine ⟨fr,x,ws,s0,[v],rfl,F,e0,by show 1 <= 1000; decide,fun q H1 _ k1 F1 e1=>?_⟩
    have e1':H1 q=some (.lst [.int v]):=e1
    have k1':KeptX (inF3 fr) H H1:=k1.mono fun _ h=>.inr (.inl h)
    have r1:=r.frame F ap k1'
    have J1:=J.frame F ap k1'
    repeat walk_at "rdk"
    refine Zai F1.ob tFrame.k.cl tFrame.n_who rfl ?_
    repeat walk_at "rdk"
    intro ob odx hx hdx hne
    have hx2:(upd H1 odx (.own ob)) ob=none:=by rw [Zaj (Ne.symm hne)]; exact hx
    refine ⟨ob,odx,x.who,v,rfl,Zag,rfl,?_⟩
    rw [ZaR]
    have s1:Same H1 (upd (upd H1 odx (.own ob)) ob (.ins cNote odx (noteF x.who v))):=(Same.new hdx).newT hx2
    have eo:(upd (upd H1 odx (.own ob)) ob (.ins cNote odx (noteF x.who v))) ob=some (.ins cNote odx (noteF x.who v)):=Zag
    have J2:=J1.same s1
    have r2:=r1.same s1
    have F2:=F1.same s1
    generalize upd (upd H1 odx (.own ob)) ob (.ins cNote odx (noteF x.who v))=H2 at s1 eo J2 r2 F2
    repeat walk_at "rdk"
    refine ⟨j,dx,R,L,Ar,S,m,es,⟨ob,odx,.note x.who v⟩,fr,_,ws,rfl,J2,r2,eo,trivial,hm,hel,F2,ap,hw,fun t H3 ht k3 r3 J3 F3 et=>?_⟩
    repeat walk_at "rdk"
    have sk:KeptX (goX Ar L fr) H H2:=(Zdm k1').trans s1.keptX
    refine k t ⟨ob,odx,.note x.who v⟩ H3 rfl ?_ (sk.trans k3) r3 J3 F3 et
    cases z:H t with
    | none=>rfl
    | some oo =>
      exfalso
      by_cases q:t=fr.ST
      . rw [q,F2.st] at ht; cases ht
      . rw [s1 _ _ (k1 t oo z q)] at ht; cases ht
end
noncomputable def Zl0 (x:FrS) (w:Str) (s:List Int) (y:FrS):Prop :=
  (w = "call" /\ ∃ slot c asks word,x.stack=s ++ [slot,c,asks,word]/\y=frame0 "call" slot slot x.who c word asks (x.depth + 1) x.looking) \/
  (w = "borrow" /\ ∃ slot asks word,x.stack=s ++ [slot,asks,word]/\y=frame0 "borrow" x.who slot x.caller x.coin word asks (x.depth + 1) x.looking) \/
  (w = "look" /\ ∃ slot asks word,x.stack=s ++ [slot,asks,word]/\y=frame0 "look" slot slot x.who 0 word asks (x.depth + 1) true)
noncomputable def Zh7 (K:PySem.W.Frag) (cF:Addr):Sp:=fun vs H Q _=>∃ (f:FrI) (x y:FrS) (ws:List V) (p:Addr) (w:Str) (n:Option Int) (s:List Int),vs=[.ref f.a,.ref p]/\FrAt cF H f x ws/\ZbI K H p w n/\Zl0 x w s y /\
  ∀ g H',H g.a=none->H g.ST=none->H g.SS=none->KeptX (·=f.ST) H H'->FrAt cF H' f { x with stack:=s } ws->FrAt cF H' g y []->Q (.ref g.a) H'
noncomputable def Zkr (A:Nat->Option AcI) (S:Nat->AcS) (y:FrS) (e:Option Str):Prop :=
  ((if 0 <= y.whose/\y.whose < 16 then roomV (A y.whose.toNat) else .non)=.non/\e=some ("nobody" : Str)) \/
  (∃ ac,0 <= y.whose/\y.whose < 16/\A y.whose.toNat=some ac/\((8 < y.depth/\e=some ("deep" : Str))\/(¬ 8 < y.depth/\y.kind ≠ "call" /\ e=none) \/
    (¬ 8 < y.depth/\y.kind = "call" /\ ∃ i z,y.caller=((i:Nat):Int)/\i < 16/\A i=some z/\(((S i).coin < y.coin/\e=some ("poor" : Str))\/(¬ (S i).coin < y.coin/\e=none)))))
noncomputable def ZfY (K:PySem.W.Frag) (C cF:Addr):Sp:=fun vs H Q _=>∃ (R:Addr) (A:Nat->Option AcI) (S:Nat->AcS) (m:Nat) (f:FrI) (y:FrS) (ws:List V) (e:Option Str),vs=[.ref R,.ref f.a]/\Rooms K C H R A S m/\FrAt cF H f y ws/\Zkr A S y e/\Q (endV e) H
section
variable {P:Program} {w:World} {K:PySem.W.Frag} {mg:Str->Option Value} {base:Heap}
local macro_rules|`(tactic| walk_at "rwx")=>`(tactic| first
  | walk_at "rdx"
  | ((with_reducible refine' L2.Zek ?h ?e ?_); (case h=>assumption); (case e=>exact My.ZhD))
  | fail)
theorem Zbp:FnScope ["frame", "row", "taken", "slot", "asks", "word", "depth"] ["frame", "row"] (Zab Zcz):=⟨rfl,rfl,rfl,by decide +kernel,rfl,by decide +kernel,by decide +kernel⟩
theorem ZfZ   {cFrame:Addr} (D:Zap K mg "other_call" Zcz) (tFrame:T_Frame K mg cFrame) (m_Frame_taken:MCal P w K mg base 1 cFrame "taken" (ZbX cFrame)) (c_takes:Cal P w K mg base 2 "takes" (ZfD K)) (iD9_Frame:Zhs P w K mg base 1 "Frame" cFrame (ZeC cFrame) []):Cal P w K mg base 3 "other_call" (Zh7 K cFrame):=by
  refine Zay (N:=["frame", "row", "taken", "slot", "asks", "word", "depth"]) (ps:=["frame", "row"]) D Zbp (fun vs H Q E h=>?_) (fun _ _ _ _ _ _ us hl=>bd2 (R:=fun us=>bindArgs _ ⟨us,[]⟩=pure (List.zip _ us)) (fun _ _=>rfl) us hl) (fun f cdv A outer s H vs Q E hr h=>?_)
  . obtain ⟨f,x,y,ws,p,w,n,s,rfl,_⟩:=h; rfl
  . obtain ⟨fr,x,y,ws,p,wd,n,s0,rfl,F,hp,hO,k⟩:=h
    refine ⟨_,(Zac (Zax (i:=2) Zbp.nd rfl (by first|exact Or.inl rfl|exact Or.inr rfl) (ZaB m_Frame_taken (hr.mono (by decide)) (pv 0) (Zaa (ZaF c_takes (hr.mono (by decide)) rfl (Zaa (pv 1) Zae)) Zae)))
      (Zac (Zax (i:=3) Zbp.nd rfl (by first|exact Or.inl rfl|exact Or.inr rfl) (ZaI ZaA (pv 2) Zaf (fun _ _=>rfl)))
      (Zac (Zax (i:=4) Zbp.nd rfl (by first|exact Or.inl rfl|exact Or.inr rfl) (ZaI ZaA (pv 2) (Zfi Zc8 Zaf) (fun _ _=>rfl)))
      (Zac (Zax (i:=5) Zbp.nd rfl (by first|exact Or.inl rfl|exact Or.inr rfl) (ZaI ZaA (pv 2) (Zfi Zc8 Zaf) (fun _ _=>rfl)))
      (Zac (Zax (i:=6) Zbp.nd rfl (by first|exact Or.inl rfl|exact Or.inr rfl) (ZaH ZbK (Zak (pv 0) rfl) Zaf))
      (Zac (Zba (ZaC ZbJ (ZaI Zbc (pv 1) Zaf (fun _ _=>rfl)) ZaJ (nomark _)) (Zad (Zaq (Zd6 iD9_Frame (hr.mono (by decide)) rfl (Zaa ZaJ (Zaa (pv 3) (Zaa (pv 3) (Zaa (Zak (pv 0) rfl) (Zaa (ZaI ZaA (pv 2) Zaf (fun _ _=>rfl)) (Zaa (pv 5) (Zaa (pv 4) (Zaa (pv 6) (Zaa (Zak (pv 0) rfl) Zae)))))))))))) ZaE)
      (Zac (Zba (ZaC ZbJ (ZaI Zbc (pv 1) Zaf (fun _ _=>rfl)) ZaJ (nomark _)) (Zad (Zaq (Zd6 iD9_Frame (hr.mono (by decide)) rfl (Zaa ZaJ (Zaa (Zak (pv 0) rfl) (Zaa (pv 3) (Zaa (Zak (pv 0) rfl) (Zaa (Zak (pv 0) rfl) (Zaa (pv 5) (Zaa (pv 4) (Zaa (pv 6) (Zaa (Zak (pv 0) rfl) Zae)))))))))))) ZaE)
      (Zad (Zaq (Zd6 iD9_Frame (hr.mono (by decide)) rfl (Zaa ZaJ (Zaa (pv 3) (Zaa (pv 3) (Zaa (Zak (pv 0) rfl) (Zaa Zaf (Zaa (pv 5) (Zaa (pv 4) (Zaa (pv 6) (Zaa ZeU Zae))))))))))))))))))),?_⟩
    walk_at "nx"
    rcases hO with ⟨rfl,slot,c,asks,word,e0,rfl⟩|⟨rfl,slot,asks,word,e0,rfl⟩|⟨rfl,slot,asks,word,e0,rfl⟩
    . skip
      have hp0:=hp
      repeat walk_at "rw"
      refine Zan F.ob rfl ?_
      repeat walk_at "rw"
      refine ⟨p,_,n,0,4,2,8,12,rfl,hp,rfl,rfl,?_⟩
      rw [show (4:Int) + 0=(([slot,c,asks,word]:List Int).length:Nat) from rfl]
      repeat walk_at "rw"
      refine ⟨fr,x,ws,s0,[slot,c,asks,word],rfl,F,e0,by show 4 <= 1000; decide,fun q H1 _ k1 F1 e1=>?_⟩
      have e1':H1 q=some (.lst [.int slot,.int c,.int asks,.int word]):=e1
      have hp1:=Zck hp F (k_st k1)
      repeat' walk_at "rw"
      refine Zai F1.ob tFrame.k.cl tFrame.n_depth rfl ?_
      repeat walk_at "rwx"
      refine Zai F1.ob tFrame.k.cl tFrame.n_who rfl ?_
      repeat walk_at "rwx"
      refine Zai F1.ob tFrame.k.cl tFrame.n_looking rfl ?_
      repeat walk_at "rwx"
      intro ga gdx hga hgdx hgne
      have hga2:(upd H1 gdx (.own ga)) ga=none:=by rw [Zaj (Ne.symm hgne)]; exact hga
      have s1:Same H1 (upd (upd H1 gdx (.own ga)) ga (.ins cFrame gdx [])):=(Same.new hgdx).newT hga2
      refine ⟨ga,gdx, "call", slot,slot,x.who,c,word,asks,x.depth + 1,x.looking,rfl,Zag,fun ST SS H2 hST hSS G2 kk=>⟨rfl,?_⟩⟩
      have sa:Same H1 H2:=fun b o e=>kk b o (s1 b o e) (Zah e hga)
      have fr1:∀ b,H1 b=none->H b=none:=fun b hb=>by
        cases z:H b with
        | none=>rfl
        | some oo =>
          exfalso
          by_cases q:b=fr.ST
          . rw [q,F1.st] at hb; cases hb
          . rw [k1 b oo z q] at hb; cases hb
      exact k ⟨ga,gdx,ST,SS⟩ H2 (fr1 _ hga) (fr1 _ (s1.fresh hST)) (fr1 _ (s1.fresh hSS)) (k1.trans sa.keptX) (F1.same sa) G2
    . skip
      have hp0:=hp
      repeat walk_at "rw"
      refine Zan F.ob rfl ?_
      repeat walk_at "rw"
      refine ⟨p,_,n,0,3,2,6,6,rfl,hp,rfl,rfl,?_⟩
      rw [show (3:Int) + 0=(([slot,asks,word]:List Int).length:Nat) from rfl]
      repeat walk_at "rw"
      refine ⟨fr,x,ws,s0,[slot,asks,word],rfl,F,e0,by show 3 <= 1000; decide,fun q H1 _ k1 F1 e1=>?_⟩
      have e1':H1 q=some (.lst [.int slot,.int asks,.int word]):=e1
      have hp1:=Zck hp F (k_st k1)
      repeat' walk_at "rw"
      refine Zai F1.ob tFrame.k.cl tFrame.n_depth rfl ?_
      repeat walk_at "rwx"
      refine Zai F1.ob tFrame.k.cl tFrame.n_who rfl ?_
      repeat walk_at "rwx"
      refine Zai F1.ob tFrame.k.cl tFrame.n_caller rfl ?_
      repeat walk_at "rwx"
      refine Zai F1.ob tFrame.k.cl tFrame.n_coin rfl ?_
      repeat walk_at "rwx"
      refine Zai F1.ob tFrame.k.cl tFrame.n_looking rfl ?_
      repeat walk_at "rwx"
      intro ga gdx hga hgdx hgne
      have hga2:(upd H1 gdx (.own ga)) ga=none:=by rw [Zaj (Ne.symm hgne)]; exact hga
      have s1:Same H1 (upd (upd H1 gdx (.own ga)) ga (.ins cFrame gdx [])):=(Same.new hgdx).newT hga2
      refine ⟨ga,gdx, "borrow", x.who,slot,x.caller,x.coin,word,asks,x.depth + 1,x.looking,rfl,Zag,fun ST SS H2 hST hSS G2 kk=>⟨rfl,?_⟩⟩
      have sa:Same H1 H2:=fun b o e=>kk b o (s1 b o e) (Zah e hga)
      have fr1:∀ b,H1 b=none->H b=none:=fun b hb=>by
        cases z:H b with
        | none=>rfl
        | some oo =>
          exfalso
          by_cases q:b=fr.ST
          . rw [q,F1.st] at hb; cases hb
          . rw [k1 b oo z q] at hb; cases hb
      exact k ⟨ga,gdx,ST,SS⟩ H2 (fr1 _ hga) (fr1 _ (s1.fresh hST)) (fr1 _ (s1.fresh hSS)) (k1.trans sa.keptX) (F1.same sa) G2
    . skip
      have hp0:=hp
      repeat walk_at "rw"
      refine Zan F.ob rfl ?_
      repeat walk_at "rw"
      refine ⟨p,_,n,0,3,2,6,6,rfl,hp,rfl,rfl,?_⟩
      rw [show (3:Int) + 0=(([slot,asks,word]:List Int).length:Nat) from rfl]
      repeat walk_at "rw"
      refine ⟨fr,x,ws,s0,[slot,asks,word],rfl,F,e0,by show 3 <= 1000; decide,fun q H1 _ k1 F1 e1=>?_⟩
      have e1':H1 q=some (.lst [.int slot,.int asks,.int word]):=e1
      have hp1:=Zck hp F (k_st k1)
      repeat' walk_at "rw"
      refine Zai F1.ob tFrame.k.cl tFrame.n_depth rfl ?_
      repeat walk_at "rwx"
      refine Zai F1.ob tFrame.k.cl tFrame.n_who rfl ?_
      repeat walk_at "rwx"
      intro ga gdx hga hgdx hgne
      have hga2:(upd H1 gdx (.own ga)) ga=none:=by rw [Zaj (Ne.symm hgne)]; exact hga
      have s1:Same H1 (upd (upd H1 gdx (.own ga)) ga (.ins cFrame gdx [])):=(Same.new hgdx).newT hga2
      refine ⟨ga,gdx, "look", slot,slot,x.who,0,word,asks,x.depth + 1,true,rfl,Zag,fun ST SS H2 hST hSS G2 kk=>⟨rfl,?_⟩⟩
      have sa:Same H1 H2:=fun b o e=>kk b o (s1 b o e) (Zah e hga)
      have fr1:∀ b,H1 b=none->H b=none:=fun b hb=>by
        cases z:H b with
        | none=>rfl
        | some oo =>
          exfalso
          by_cases q:b=fr.ST
          . rw [q,F1.st] at hb; cases hb
          . rw [k1 b oo z q] at hb; cases hb
      exact k ⟨ga,gdx,ST,SS⟩ H2 (fr1 _ hga) (fr1 _ (s1.fresh hST)) (fr1 _ (s1.fresh hSS)) (k1.trans sa.keptX) (F1.same sa) G2
theorem ZcN:FnScope ["rooms", "other"] ["rooms", "other"] (Zab Zbt):=⟨rfl,rfl,rfl,by decide +kernel,rfl,by decide +kernel,by decide +kernel⟩
theorem ZcO   {cFrame:Addr} {cAccount:Addr} (D:Zap K mg "end_ahead_of_call" Zbt) (tFrame:T_Frame K mg cFrame) (tAccount:T_Account K mg cAccount) (c_account_at:Cal P w K mg base 1 "account_at" (spAt K cAccount)) (g_MOST_CALLS:ZaU mg "MOST_CALLS" (.int 8)):Cal P w K mg base 2 "end_ahead_of_call" (ZfY K cAccount cFrame):=by
  refine Zay (N:=["rooms", "other"]) (ps:=["rooms", "other"]) D ZcN (fun vs H Q E h=>?_) (fun _ _ _ _ _ _ us hl=>bd2 (R:=fun us=>bindArgs _ ⟨us,[]⟩=pure (List.zip _ us)) (fun _ _=>rfl) us hl) (fun f cdv A outer s H vs Q E hr h=>?_)
  . obtain ⟨R,A,S,m,f,y,ws,e,rfl,_⟩:=h; rfl
  . obtain ⟨R,Ar,S,m,fr,y,ws,e,rfl,r,F,ha,k⟩:=h
    refine ⟨_,(Zac (Zba (ZaC Zel (ZaF c_account_at (hr.mono (by decide)) rfl (Zaa (pv 0) (Zaa (Zak (pv 1) rfl) Zae))) Zcn (nomark _)) (Zad (Zaq ZaJ)) ZaE)
      (Zac (Zba (ZaC Zhc (Zak (pv 1) rfl) (ZbH rfl g_MOST_CALLS) (nomark _)) (Zad (Zaq ZaJ)) ZaE)
      (Zac (Zba (PW.pt (Zjo (ZaC ZbJ (Zak (pv 1) rfl) ZaJ (nomark _)) (Zhb (ZaC Zhc (Zak (pv 1) rfl) (Zak (ZaI ZaA (pv 0) (Zak (pv 1) rfl) (fun _ _=>rfl)) rfl) (nomark _))))) (Zad (Zaq ZaJ)) ZaE)
      (Zad (Zaq Zcn))))),?_⟩
    walk_at "nx"
    repeat walk_at "rz"
    refine Zai F.ob tFrame.k.cl tFrame.n_whose rfl ?_
    repeat walk_at "rz"
    refine ⟨R,Ar,S,m,y.whose,rfl,r,?_⟩
    rcases ha with ⟨h1,rfl⟩|⟨ac,w0,w1,hA,ha⟩
    . rw [h1]
      repeat walk_at "rz"
      exact k
    . rw [if_pos ⟨w0,w1⟩,hA,show roomV (some ac)=V.ref ac.a from rfl]
      repeat walk_at "rz"
      refine Zai F.ob tFrame.k.cl tFrame.n_depth rfl ?_
      rcases ha with ⟨h2,rfl⟩|⟨h2,h3,rfl⟩|⟨h2,h3,i,z,ei,hi,hz,ha⟩
      . repeat walk_at "rz"
        exact k
      . repeat walk_at "rz"
        refine Zai F.ob tFrame.k.cl tFrame.n_kind rfl ?_
        repeat' walk_at "rz"
        . exact absurd (by assumption) h3
        . exact k
      . have az:=r.ac i z hi hz
        repeat walk_at "rz"
        refine Zai F.ob tFrame.k.cl tFrame.n_kind rfl ?_
        repeat' walk_at "rz"
        . refine Zai F.ob tFrame.k.cl tFrame.n_coin rfl ?_
          repeat walk_at "rz"
          refine Zai F.ob tFrame.k.cl tFrame.n_caller rfl ?_
          rw [ei]
          refine Za8 (Zaz r.ob) (r.at hi hz) ?_
          refine Zai az.ob tAccount.k.cl tAccount.n_coin rfl ?_
          rcases ha with ⟨h4,rfl⟩|⟨h4,rfl⟩
          . repeat walk_at "rz"
            exact k
          . repeat walk_at "rz"
            exact k
        . rename_i hq; exact absurd h3 hq
end
noncomputable def RDL:List (Str × RD):=[("push", rPush),("drop", rDrop),("copy", rCopy),("swap", rSwap),("add", rReck),("minus", rReck),("times", rReck),("over", rReck),("rest", rReck),("below", rReck),("same", rReck),("both", rReck),("either", rReck),("unlike", rReck),("up", rReck),("down", rReck),("jump", rJump),("jumpif", ZhJ),("me", rMe),("from", rFrom),("sent", rSent),("word", rWord),("give", rGive),("fail", rFail)]
noncomputable def DoSp (K:PySem.W.Frag) (C cJ cS cM cN cF:Addr) (w:Str) (sp:Sp):Prop:=(∃ R,RDL.lookup w=some R/\sp=spD K cF R)\/(w = "load" /\ sp=ZeJ K C cF)\/(w = "coin" /\ sp=ZeK K C cF)\/(w = "save" /\ sp=ZeL K C cJ cS cM cN cF)\/(w = "note" /\ sp=ZeM K C cJ cS cM cN cF)
noncomputable def DoOk (P:Program) (w:World) (K:PySem.W.Frag) (C cJ cS cM cN cF:Addr) (mg:Str->Option Value) (base:Heap) (aD:Addr):Prop :=
  ∃ vs,Zda P w K aD vs/\∀ x sp,DoSp K C cJ cS cM cN cF x sp->∃ fa,valueAt vs (.inr x)=some (.ref fa)/\CalF P w K mg base 5 fa sp
noncomputable def Zh8 (K:PySem.W.Frag) (C cJ cS cM cN cF:Addr):Sp:=fun vs H Q _=>∃ (vR vJ:V) (a p:Addr) (w:Str) (n:Option Int) (sp:Sp),vs=[vR,vJ,.ref a,.ref p]/\ZbI K H p w n/\DoSp K C cJ cS cM cN cF w sp/\sp vs H (fun _ H'=>Q .non H') E0
theorem Za9 {P:Program} {w:World} {K:PySem.W.Frag} {mg:Str->Option Value} {base:Heap} {x f:Str} {u:Value} {vs:List (Key × Value)} {sp:Sp} {k:Nat} (m:mg f=some u) (c:Cal P w K mg base k f sp) (hk:k <= 5) (e:valueAt vs (.inr x)=some u):∃ fa,valueAt vs (.inr x)=some (.ref fa)/\CalF P w K mg base 5 fa sp:=by
  obtain ⟨fa,m',c'⟩:=Cal.mono c (k:=5) hk
  rw [m] at m'
  cases m'
  exact ⟨fa,e,c'⟩
section
variable {P:Program} {w:World} {K:PySem.W.Frag} {mg:Str->Option Value} {base:Heap}
theorem do_ok {cAccount cJournal cSave cMove cNote cFrame aD:Addr} {u1 u2 u3 u4 u5 u6 u7 u8 u9 u10 u11 u12 u13 u14 u15 u16 u17:Value} (dk:Zda P w K aD [(Sum.inr "push", u1),(Sum.inr "drop", u2),(Sum.inr "copy", u3),(Sum.inr "swap", u4),(Sum.inr "add", u5),(Sum.inr "minus", u5),(Sum.inr "times", u5),(Sum.inr "over", u5),(Sum.inr "rest", u5),(Sum.inr "below", u5),(Sum.inr "same", u5),(Sum.inr "both", u5),(Sum.inr "either", u5),(Sum.inr "unlike", u5),(Sum.inr "up", u5),(Sum.inr "down", u5),(Sum.inr "jump", u6),(Sum.inr "jumpif", u7),(Sum.inr "load", u8),(Sum.inr "save", u9),(Sum.inr "me", u10),(Sum.inr "from", u11),(Sum.inr "sent", u12),(Sum.inr "word", u13),(Sum.inr "coin", u14),(Sum.inr "note", u15),(Sum.inr "give", u16),(Sum.inr "fail", u17)])
    (m_push_row:mg "push_row" = some u1) (m_drop_row:mg "drop_row" = some u2) (m_copy_row:mg "copy_row" = some u3) (m_swap_row:mg "swap_row" = some u4) (m_reckon_row:mg "reckon_row" = some u5) (m_jump_row:mg "jump_row" = some u6) (m_jumpif_row:mg "jumpif_row" = some u7) (m_load_row:mg "load_row" = some u8) (m_save_row:mg "save_row" = some u9) (m_me_row:mg "me_row" = some u10) (m_from_row:mg "from_row" = some u11) (m_sent_row:mg "sent_row" = some u12) (m_word_row:mg "word_row" = some u13) (m_coin_row:mg "coin_row" = some u14) (m_note_row:mg "note_row" = some u15) (m_give_row:mg "give_row" = some u16) (m_fail_row:mg "fail_row" = some u17)
    (c_push_row:Cal P w K mg base 2 "push_row" (spD K cFrame rPush)) (c_drop_row:Cal P w K mg base 2 "drop_row" (spD K cFrame rDrop)) (c_copy_row:Cal P w K mg base 2 "copy_row" (spD K cFrame rCopy)) (c_swap_row:Cal P w K mg base 1 "swap_row" (spD K cFrame rSwap)) (c_reckon_row:Cal P w K mg base 3 "reckon_row" (spD K cFrame rReck)) (c_jump_row:Cal P w K mg base 1 "jump_row" (spD K cFrame rJump)) (c_jumpif_row:Cal P w K mg base 2 "jumpif_row" (spD K cFrame ZhJ)) (c_load_row:Cal P w K mg base 2 "load_row" (ZeJ K cAccount cFrame)) (c_save_row:Cal P w K mg base 5 "save_row" (ZeL K cAccount cJournal cSave cMove cNote cFrame)) (c_me_row:Cal P w K mg base 2 "me_row" (spD K cFrame rMe)) (c_from_row:Cal P w K mg base 2 "from_row" (spD K cFrame rFrom)) (c_sent_row:Cal P w K mg base 2 "sent_row" (spD K cFrame rSent)) (c_word_row:Cal P w K mg base 2 "word_row" (spD K cFrame rWord)) (c_coin_row:Cal P w K mg base 2 "coin_row" (ZeK K cAccount cFrame)) (c_note_row:Cal P w K mg base 5 "note_row" (ZeM K cAccount cJournal cSave cMove cNote cFrame)) (c_give_row:Cal P w K mg base 2 "give_row" (spD K cFrame rGive)) (c_fail_row:Cal P w K mg base 2 "fail_row" (spD K cFrame rFail)):DoOk P w K cAccount cJournal cSave cMove cNote cFrame mg base aD:=by
  refine ⟨_,dk,fun x sp h=>?_⟩
  rcases h with ⟨R,h,rfl⟩|⟨rfl,rfl⟩|⟨rfl,rfl⟩|⟨rfl,rfl⟩|⟨rfl,rfl⟩
  . have hm:=Zc9 h
    simp only [RDL,List.mem_cons,Prod.mk.injEq,List.not_mem_nil,or_false] at hm
    rcases hm with ⟨rfl,rfl⟩|⟨rfl,rfl⟩|⟨rfl,rfl⟩|⟨rfl,rfl⟩|⟨rfl,rfl⟩|⟨rfl,rfl⟩|⟨rfl,rfl⟩|⟨rfl,rfl⟩|⟨rfl,rfl⟩|⟨rfl,rfl⟩|⟨rfl,rfl⟩|⟨rfl,rfl⟩|⟨rfl,rfl⟩|⟨rfl,rfl⟩|⟨rfl,rfl⟩|⟨rfl,rfl⟩|⟨rfl,rfl⟩|⟨rfl,rfl⟩|⟨rfl,rfl⟩|⟨rfl,rfl⟩|⟨rfl,rfl⟩|⟨rfl,rfl⟩|⟨rfl,rfl⟩|⟨rfl,rfl⟩
    . exact Za9 m_push_row c_push_row (by decide) rfl
    . exact Za9 m_drop_row c_drop_row (by decide) rfl
    . exact Za9 m_copy_row c_copy_row (by decide) rfl
    . exact Za9 m_swap_row c_swap_row (by decide) rfl
    . exact Za9 m_reckon_row c_reckon_row (by decide) rfl
    . exact Za9 m_reckon_row c_reckon_row (by decide) rfl
    . exact Za9 m_reckon_row c_reckon_row (by decide) rfl
    . exact Za9 m_reckon_row c_reckon_row (by decide) rfl
    . exact Za9 m_reckon_row c_reckon_row (by decide) rfl
    . exact Za9 m_reckon_row c_reckon_row (by decide) rfl
    . exact Za9 m_reckon_row c_reckon_row (by decide) rfl
    . exact Za9 m_reckon_row c_reckon_row (by decide) rfl
    . exact Za9 m_reckon_row c_reckon_row (by decide) rfl
    . exact Za9 m_reckon_row c_reckon_row (by decide) rfl
    . exact Za9 m_reckon_row c_reckon_row (by decide) rfl
    . exact Za9 m_reckon_row c_reckon_row (by decide) rfl
    . exact Za9 m_jump_row c_jump_row (by decide) rfl
    . exact Za9 m_jumpif_row c_jumpif_row (by decide) rfl
    . exact Za9 m_me_row c_me_row (by decide) rfl
    . exact Za9 m_from_row c_from_row (by decide) rfl
    . exact Za9 m_sent_row c_sent_row (by decide) rfl
    . exact Za9 m_word_row c_word_row (by decide) rfl
    . exact Za9 m_give_row c_give_row (by decide) rfl
    . exact Za9 m_fail_row c_fail_row (by decide) rfl
  . exact Za9 m_load_row c_load_row (by decide) rfl
  . exact Za9 m_coin_row c_coin_row (by decide) rfl
  . exact Za9 m_save_row c_save_row (by decide) rfl
  . exact Za9 m_note_row c_note_row (by decide) rfl
theorem Zks:FnScope ["rooms", "journal", "frame", "row"] ["rooms", "journal", "frame", "row"] (Zab Zfz):=⟨rfl,rfl,rfl,by decide +kernel,rfl,by decide +kernel,by decide +kernel⟩
theorem Zkt  {cAccount cJournal cSave cMove cNote cFrame aD:Addr} (DO:DoOk P w K cAccount cJournal cSave cMove cNote cFrame mg base aD)  (D:Zap K mg "do_row" Zfz) (g_DOINGS:ZaU mg "DOINGS" (.ref aD)):Cal P w K mg base 6 "do_row" (Zh8 K cAccount cJournal cSave cMove cNote cFrame):=by
  refine Zay (N:=["rooms", "journal", "frame", "row"]) (ps:=["rooms", "journal", "frame", "row"]) D Zks (fun vs H Q E h=>?_) (fun _ _ _ _ _ _ us hl=>bd4 (R:=fun us=>bindArgs _ ⟨us,[]⟩=pure (List.zip _ us)) (fun _ _ _ _=>rfl) us hl) (fun f cdv A outer s H vs Q E hr h=>?_)
  . obtain ⟨vR,vJ,a,p,w,n,sp,rfl,_⟩:=h; rfl
  . obtain ⟨vR,vJ,a,p,wd,n,sp,rfl,hp,hS,k⟩:=h
    refine ⟨_,(Zad (Zat (Ziv (k:=5) (hr.mono (by decide)) (Zfb (ZbH rfl g_DOINGS) (ZaI Zbc (pv 3) Zaf (fun _ _=>rfl)) (fun _ _=>rfl)) (Zaa (pv 0) (Zaa (pv 1) (Zaa (pv 2) (Zaa (pv 3) Zae))))))),?_⟩
    walk_at "nx"
    obtain ⟨ts,dk,al⟩:=DO
    obtain ⟨fa,hv,cf⟩:=al wd sp hS
    refine ZjQ ?_
    unfold tCallV
    repeat walk_at "rw"
    refine ZjW (v:=.ref fa) dk hv rfl ?_
    refine ⟨fa,_,rfl,cf,?_⟩
    repeat walk_at "rdk"
    exact k
end
theorem ZiE:∀ (kvs:List (Key × V)),(∀ p ∈ kvs,∃ i n:Int,p=(Sum.inl i,.int n)/\n ≠ 0)->∃ ks:List Int,kvs.map (·.1)=ks.map Sum.inl
  | [],_=>⟨[],rfl⟩
  | p :: r,h=>by
    obtain ⟨i,n,rfl,_⟩:=h p (by simp)
    obtain ⟨ks,e⟩:=ZiE r fun q hq=>h q (by simp [hq])
    exact ⟨i :: ks,by rw [List.map_cons,e]; rfl⟩
theorem Zlz {kvs:List (Key × V)} {k:Key} {v:V} (h:valV kvs k=some v):(k,v) ∈ kvs:=by
  unfold valV at h
  obtain ⟨p,hp,rfl⟩:=Option.map_eq_some_iff.mp h
  have h1:=List.find?_some hp
  have h2:=List.mem_of_find?_eq_some hp
  simp only [decide_eq_true_eq] at h1
  rw [<- h1]
  exact h2
noncomputable def placeD:Dd->Option Int
  | .save _ p _ _=>some p
  | _=>none
theorem Zku (S:Nat->AcS) (d:Dd) (i:Nat) (p:Int) (h:(doneS S d i).store p ≠ 0):(S i).store p ≠ 0\/placeD d=some p:=by
  cases d with
  | save s q o n =>
    by_cases e:q=p
    . exact .inr (by rw [<- e]; rfl)
    . refine .inl fun z=>h ?_
      show (setS S s.toNat _ i).store p=0
      unfold setS
      by_cases w:i=s.toNat
      . rw [if_pos w]
        show putFn _ q n p=0
        unfold putFn
        rw [if_neg (Ne.symm e),<- w]
        exact z
      . rw [if_neg w]
        exact z
  | move s t k =>
    refine .inl fun z=>h ?_
    show (moved S _ _ k i).store p=0
    rw [ZcI]
    exact z
  | note s n=>exact .inl h
theorem ZiF:∀ (ds:List Dd) (S:Nat->AcS) (i:Nat) (p:Int),(runS S ds i).store p ≠ 0->(S i).store p ≠ 0\/p ∈ ds.filterMap placeD
  | [],S,i,p,h=>.inl h
  | d :: ds,S,i,p,h=>by
    rcases ZiF ds (doneS S d) i p h with h|h
    . rcases Zku S d i p h with h|h
      . exact .inl h
      . exact .inr (List.mem_filterMap.mpr ⟨d,by simp,h⟩)
    . obtain ⟨e,he,ep⟩:=List.mem_filterMap.mp h
      exact .inr (List.mem_filterMap.mpr ⟨e,by simp [he],ep⟩)
theorem Zg0:∀ (ks ps:List Int),ks.Nodup->(∀ k ∈ ks,k ∈ ps)->ks.length <= ps.length
  | [],ps,_,_=>Nat.zero_le _
  | k :: ks,ps,hn,h=>by
    obtain ⟨n1,n2⟩:=List.nodup_cons.mp hn
    have hk:=h k (by simp)
    have:=Zg0 ks (ps.erase k) n2 fun x hx=>(List.mem_erase_of_ne (fun z=>n1 (by rw [<- z]; exact hx))).mpr (h x (by simp [hx]))
    rw [List.length_erase_of_mem hk] at this
    have:0 < ps.length:=List.length_pos_of_mem hk
    simp only [List.length_cons]
    omega
theorem StoreAt.tight {H:Hp} {d:Addr} {f:Int->Int} {m:Nat} (h:StoreAt H d f m) {ps:List Int} (hp:∀ p,f p ≠ 0->p ∈ ps):StoreAt H d f ps.length:=by
  obtain ⟨kvs,e1,e2,e3,e4,e5⟩:=h
  refine ⟨kvs,e1,?_,e3,e4,e5⟩
  obtain ⟨ks,hk⟩:=ZiE kvs e4
  have hkn:ks.Nodup:=by
    rw [hk] at e3
    exact (List.pairwise_map.mp e3).imp fun h e=>h (by rw [e])
  have hl:kvs.length=ks.length:=by
    have:=congrArg List.length hk
    rw [List.length_map,List.length_map] at this
    exact this
  rw [hl]
  refine Zg0 ks ps hkn fun k hk'=>hp k ?_
  have hm:(Sum.inl k:Key) ∈ kvs.map (·.1):=by rw [hk]; exact List.mem_map.mpr ⟨k,hk',rfl⟩
  cases e:valV kvs (Sum.inl k:Key) with
  | none=>exact absurd hm (Ziu e)
  | some v =>
    obtain ⟨j,n,z,hn0⟩:=e4 _ (Zlz e)
    cases z
    have:=e5 k
    rw [e] at this
    rw [<- V.int.inj (show V.int n=V.int (f k) from this)]
    exact hn0
noncomputable def SupB (S0:Nat->AcS) (m0:Nat):Prop:=∀ i,∃ ps:List Int,ps.length <= m0/\∀ p,(S0 i).store p ≠ 0->p ∈ ps
theorem Rooms.tight2 {K:PySem.W.Frag} {C:Addr} {H:Hp} {R:Addr} {A:Nat->Option AcI} {S0:Nat->AcS} {ds:List Dd} {m m0:Nat} (r:Rooms K C H R A (runS S0 ds) m) (z:SupB S0 m0):Rooms K C H R A (runS S0 ds) (m0 + ds.length) :=
  ⟨r.ob,fun i x hi hx=>let h:=r.ac i x hi hx; let ⟨ps,e0,e9⟩:=z i; ⟨h.ob,h.pg,let ⟨kvs,e1,e2,e3⟩:=StoreAt.tight h.sto (ps:=ps ++ ds.filterMap placeD) (fun p hp=>List.mem_append.mpr ((ZiF ds S0 i p hp).imp (e9 p) id)); ⟨kvs,e1,Nat.le_trans e2 (by rw [List.length_append]; exact Nat.add_le_add e0 (List.length_filterMap_le _ _)),e3⟩⟩,r.da,r.ds⟩
structure Wd (K:PySem.W.Frag) (C cJ cS cM cN:Addr) (H:Hp) (j dx R L:Addr) (A:Nat->Option AcI) (S0:Nat->AcS) (m0:Nat) (ds:List Dd):Prop where
  J:∃ es,es.map (·.d)=ds/\Jr cJ cS cM cN H j dx R L A es
  r:Rooms K C H R A (runS S0 ds) (m0 + ds.length)
  ri:ZbF S0 ds
  ti:SupB S0 m0
  b:m0 <= 100000
noncomputable def newP (H0 H:Hp):Hp:=fun b=>match H0 b with
  | none=>H b
  | some _=>none
noncomputable def Stp (K:PySem.W.Frag) (H0 H:Hp) (st:List Dt) (vs:List V):Prop:=DVs K (newP H0 H) st vs
theorem ZeP {H0 H:Hp} {b:Addr} {o:HO} (h0:H0 b=none) (h:H b=some o):newP H0 H b=some o:=by unfold newP; rw [h0]; exact h
theorem Zh9 {H0 H:Hp} {b:Addr} {o:HO} (h:newP H0 H b=some o):H0 b=none/\H b=some o:=by
  unfold newP at h
  split at h
  . rename_i e; exact ⟨e,h⟩
  . cases h
theorem Zf0 {K:PySem.W.Frag} {H:Hp}:∀ {ds es:List Dt} {xs ys:List V},DVs K H ds xs->DVs K H es ys->DVs K H (ds ++ es) (xs ++ ys)
  | [],es,xs,ys,h,q=>by unfold DVs at h; subst h; exact q
  | d :: ds,es,xs,ys,h,q=>by
    unfold DVs at h
    obtain ⟨x,t,rfl,h1,h2⟩:=h
    exact Zao h1 (Zf0 h2 q)
section
variable {K:PySem.W.Frag} {C cJ cS cM cN cF:Addr} {H H0 H1 H':Hp} {j dx R L:Addr} {A:Nat->Option AcI} {S0:Nat->AcS} {m0:Nat} {ds:List Dd} {f g:FrI} {x y:FrS} {ws vs:List V} {st:List Dt}
theorem Stp.nil:Stp K H0 H [] []:=Zbq
theorem Stp.int (i:Int):Stp K H0 H [.int i] [.int i]:=Zao ZaQ Zbq
theorem Stp.app {s2:List Dt} {v2:List V} (a:Stp K H0 H st vs) (b:Stp K H0 H s2 v2):Stp K H0 H (st ++ s2) (vs ++ v2):=Zf0 a b
theorem Stp.kept {Y:Addr->Prop} (a:Stp K H0 H st vs) (k:KeptX Y H H') (d:∀ b,Y b->H0 b ≠ none):Stp K H0 H' st vs :=
  DVs.keep (fun b o e=>let ⟨e1,e2⟩:=Zh9 e; ZeP e1 (k b o e2 fun z=>d b z e1)) a
theorem Stp.same (a:Stp K H0 H st vs) (s:Same H H'):Stp K H0 H' st vs:=a.kept (Y:=fun _=>False) s.keptX fun _ z=>z.elim
theorem Stp.base (a:Stp K H1 H st vs) (d:∀ b,H1 b=none->H0 b=none):Stp K H0 H st vs:=DVs.keep (fun b o e=>let ⟨e1,e2⟩:=Zh9 e; ZeP (d b e1) e2) a
theorem Stp.tell {t:Addr} {d:Dd} (h0:H0 t=none) (h:H t=some (.tup (tellV d))):Stp K H0 H [tellD d] [.ref t]:=Zao (Zeo (ZbS (ZeP h0 h)) (ZfL d)) Zbq
theorem Stp.dv {d:Dt} {v:V} (a:Stp K H0 H [d] [v]):DV K H d v:=by
  have h:DVs K H [d] [v]:=DVs.keep (fun b o e=>(Zh9 e).2) a
  unfold DVs at h
  obtain ⟨x,t,e,h,_⟩:=h
  cases e
  exact h
theorem Wd.same (W:Wd K C cJ cS cM cN H j dx R L A S0 m0 ds) (s:Same H H'):Wd K C cJ cS cM cN H' j dx R L A S0 m0 ds:=⟨let ⟨es,e,J⟩:=W.J; ⟨es,e,J.same s⟩,W.r.same s,W.ri,W.ti,W.b⟩
theorem Wd.frame (W:Wd K C cJ cS cM cN H j dx R L A S0 m0 ds) (F:FrAt cF H f x ws) (a:Ap R L A f) (k:KeptX (inF3 f) H H'):Wd K C cJ cS cM cN H' j dx R L A S0 m0 ds:=⟨let ⟨es,e,J⟩:=W.J; ⟨es,e,J.frame F a k⟩,W.r.frame F a k,W.ri,W.ti,W.b⟩
theorem Wd.wrote {e:DI} {es:List DI} {m:Nat} (W:Wd K C cJ cS cM cN H j dx R L A S0 m0 ds) (he:es.map (·.d)=ds) (r:Rooms K C H' R A (doneS (runS S0 ds) e.d) m) (J:Jr cJ cS cM cN H' j dx R L A (es ++ [e])) (h:rightD (runS S0 ds) e.d):Wd K C cJ cS cM cN H' j dx R L A S0 m0 (ds ++ [e.d]) :=
  ⟨⟨_,by rw [List.map_append,he]; rfl,J⟩,Rooms.tight2 (by rw [ZgN]; exact r) W.ti,(Zcj _ _ _).mpr ⟨W.ri,h⟩,W.ti,W.b⟩
theorem ZdY (F:FrAt cF H f x ws) {b:Addr} (h:inF3 f b):H b ≠ none:=by
  rcases h with rfl|rfl|rfl
  . rw [F.ob]; intro z; cases z
  . rw [F.st]; intro z; cases z
  . rw [F.ss]; intro z; cases z
theorem Zl1 (W:Wd K C cJ cS cM cN H j dx R L A S0 m0 ds) {b:Addr} (h:¬ Out A b\/b=L):H b ≠ none:=fun z=>by
  rcases h with h|rfl
  . exact h (W.r.outN z)
  . obtain ⟨es,_,J⟩:=W.J
    rw [J.li] at z; cases z
theorem Zfc (W:Wd K C cJ cS cM cN H j dx R L A S0 m0 ds) (F:FrAt cF H f x ws) {b:Addr} (h:goX A L f b):H b ≠ none:=by
  rcases h with h|h|h
  . exact Zl1 W (.inl h)
  . exact Zl1 W (.inr h)
  . exact ZdY F h
theorem ZeQ {Y:Addr->Prop} (k:KeptX Y H0 H) (d:∀ b,Y b->H b ≠ none) (b:Addr) (h:H b=none):H0 b=none:=by
  cases z:H0 b with
  | none=>rfl
  | some o =>
    exfalso
    by_cases q:Y b
    . exact d b q h
    . rw [k b o z q] at h; cases h
structure NewF (H:Hp) (g:FrI):Prop where
  a:H g.a=none
  t:H g.ST=none
  s:H g.SS=none
theorem NewF.not (n:NewF H g) {b:Addr} (h:H b ≠ none):¬ inF3 g b:=by
  rintro (rfl|rfl|rfl)
  . exact h n.a
  . exact h n.t
  . exact h n.s
theorem NewF.ap (n:NewF H g) (W:Wd K C cJ cS cM cN H j dx R L A S0 m0 ds):Ap R L A g:=by
  obtain ⟨es,_,J⟩:=W.J
  exact ⟨Ne.symm (Zah W.r.ob n.t),Ne.symm (Zah W.r.ob n.s),Ne.symm (Zah J.li n.t),Ne.symm (Zah J.li n.s),fun i y hi hy=>by
      obtain ⟨xs,e1,_⟩:=(W.r.ac i y hi hy).pg
      exact ⟨Ne.symm (Zah e1 n.t),Ne.symm (Zah e1 n.s)⟩⟩
theorem FrAt.callee (F:FrAt cF H f x ws) (W:Wd K C cJ cS cM cN H j dx R L A S0 m0 ds) (a:Ap R L A f) (n:NewF H g) {x1:FrS} {ws1:List V} (F1:FrAt cF H1 f x1 ws1) (k:KeptX (goX A L g) H1 H'):FrAt cF H' f x1 ws1:=by
  obtain ⟨es,_,J⟩:=W.J
  have oa:Out A f.a:=fun i y hi hy=>⟨ZiA F.ob (W.r.ac i y hi hy).ob (by show 15 ≠ 5; decide),let ⟨_,g,_⟩:=(W.r.ac i y hi hy).sto; Za2 F.ob g (by intro z; cases z)⟩
  refine F1.kept k ?_ ?_ ?_
  . rintro (z|z|z)
    . exact z oa
    . exact Za2 F.ob J.li (by intro z; cases z) z
    . exact n.not (ZdY F (.inl rfl)) z
  . rintro (z|z|z)
    . exact z (W.r.outL F.st)
    . exact a.tL z
    . exact n.not (ZdY F (.inr (.inl rfl))) z
  . rintro (z|z|z)
    . exact z (W.r.outL F.ss)
    . exact a.sL z
    . exact n.not (ZdY F (.inr (.inr rfl))) z
theorem Zg1 (k1:KeptX (inF3 f) H H1) (n:NewF H g) (k:KeptX (goX A L g) H1 H'):KeptX (goX A L f) H H':=fun b o e nb=>k b o (k1 b o e fun z=>nb (.inr (.inr z))) fun z=>by
  rcases z with z|z|z
  . exact nb (.inl z)
  . exact nb (.inr (.inl z))
  . exact n.not (by rw [e]; intro q; cases q) z
end
noncomputable def endD:Option Str->Dt
  | none=>.non
  | some s=>.str s
noncomputable def treeD (x:FrS) (st:List Dt):Dt:=.tup [.str x.kind,.int x.who,.int x.whose,.int x.caller,.int x.coin,.int x.word,.int x.given,endD x.fin,.int x.answer,.int x.used,.lst st]
theorem Stp.tree {K:PySem.W.Frag} {H0 H:Hp} {x:FrS} {st:List Dt} {vs:List V} {p T:Addr} (a:Stp K H0 H st vs) (hT:H0 T=none) (h1:H T=some (.lst vs)) (hp:H0 p=none) (h2:H p=some (.tup (treeV x T))):Stp K H0 H [treeD x st] [.ref p]:=by
  refine Zao (Zeo (ZbS (ZeP hp h2)) (Zao Zdc (Zao ZaQ (Zao ZaQ (Zao ZaQ (Zao ZaQ (Zao ZaQ (Zao ZaQ (Zao ?_ (Zao ZaQ (Zao ZaQ (Zao (Zj4 (Zaz (ZeP hT h1)) a) Zbq)))))))))))) Zbq
  cases e:x.fin with
  | none=>unfold endD DV; rfl
  | some s=>exact Zdc
noncomputable def wellI (e:Option Str):Int:=if e=some ("well" : Str) then 1 else 0
noncomputable abbrev GR:=List Dd->FrS->List Dd->FrS->List Dt->Prop
noncomputable def CallW (A:Nat->Option AcI) (S0:Nat->AcS) (G:GR) (w:Str) (ds:List Dd) (x:FrS) (ds':List Dd) (x':FrS) (d:Dt):Prop:=∃ (s:List Int) (y y':FrS) (st:List Dt) (e:Option Str),Zl0 x w s y/\x'={ x with stack:=s ++ [y'.answer,wellI y'.fin],used:=x.used + y'.used }/\d=treeD y' st/\s.length <= 900/\Zkr A (runS S0 ds) y e /\
  ((∃ e1,e=some e1/\ds'=ds/\y'={ y with given:=0,fin:=some e1,answer:=0 }/\st=[])\/(e=none/\G ds { y with given:=if x.given - x.used < y.given then x.given - x.used else y.given } ds' y' st))
inductive DoW (A:Nat->Option AcI) (S0:Nat->AcS) (G:GR):Str->Option Int->List Dd->FrS->List Dd->FrS->List Dt->Prop
  | pure {w:Str} {n:Option Int} {ds:List Dd} {x x':FrS} {D:RD} (hC:inS w ["call", "borrow", "look"]=false) (h:RDL.lookup w=some D) (hD:D x w n x'):DoW A S0 G w n ds x ds x' []
  | load {n:Option Int} {ds:List Dd} {x:FrS} {s:List Int} {pl:Int} {i:Nat} {y:AcI} (ew:x.who=(i:Int)) (hi:i < 16) (hy:A i=some y) (e:x.stack=s ++ [pl]):DoW A S0 G "load" n ds x ds { x with stack:=s ++ [(runS S0 ds i).store pl] } []
  | coin {n:Option Int} {ds:List Dd} {x:FrS} {s:List Int} {sl:Int} (e:x.stack=s ++ [sl]):DoW A S0 G "coin" n ds x ds { x with stack:=s ++ [Zh2 A (runS S0 ds) sl] } []
  | save {n:Option Int} {ds:List Dd} {x:FrS} {s:List Int} {pl v:Int} {i:Nat} {y:AcI} (ew:x.who=(i:Int)) (hi:i < 16) (hy:A i=some y) (e:x.stack=s ++ [pl,v]):DoW A S0 G "save" n ds x (ds ++ [.save (i:Int) pl ((runS S0 ds i).store pl) v]) { x with stack:=s } [tellD (.save (i:Int) pl ((runS S0 ds i).store pl) v)]
  | note {n:Option Int} {ds:List Dd} {x:FrS} {s:List Int} {v:Int} (e:x.stack=s ++ [v]):DoW A S0 G "note" n ds x (ds ++ [.note x.who v]) { x with stack:=s } [tellD (.note x.who v)]
  | call {w:Str} {n:Option Int} {ds ds':List Dd} {x x':FrS} {d:Dt} (hC:inS w ["call", "borrow", "look"]=true) (h:CallW A S0 G w ds x ds' x' d):DoW A S0 G w n ds x ds' x' [d]
noncomputable def OnW (A:Nat->Option AcI) (S0:Nat->AcS) (G:GR) (rows:List Row) (ds:List Dd) (x:FrS) (ds':List Dd) (x':FrS) (add:List Dt):Prop :=
  ((rows.length:Int) <= x.row/\ds'=ds/\x'={ x with fin:=some ("well" : Str),answer:=0 }/\add=[])\/∃ (i:Nat) (w:Str) (n:Option Int),x.row=(i:Int)/\rows[i]?=some (w,n) /\
    ((∃ e,aheadR A (runS S0 ds) x w n (some e)/\ds'=ds/\x'={ x with fin:=some e,answer:=0 }/\add=[]) \/
     (aheadR A (runS S0 ds) x w n none/\∃ (b1 b2:Bool) (t l pr d:Int) (ad:List Dt),ZcZ x w b1/\fillsR A (runS S0 ds) x w b2/\RT.lookup w=some (t,l,pr,d)/\DoW A S0 G w n ds (ZdK x (if (b1 || b2)=true then d else pr)) ds' x' ad/\add=.int x.row :: ad))
inductive RunW (A:Nat->Option AcI) (S0:Nat->AcS) (G:GR) (rows:List Row):Nat->List Dd->FrS->List Dd->FrS->List Dt->Prop
  | done {ds:List Dd} {x:FrS} (h:x.fin ≠ none):RunW A S0 G rows 0 ds x ds x []
  | step {n:Nat} {ds ds1 ds2:List Dd} {x x' y:FrS} {add st:List Dt} (h:x.fin=none) (o:OnW A S0 G rows ds x ds1 x' add) (l:x.stack.length <= 900) (e:x'.whose=x.whose) (q:RunW A S0 G rows n ds1 x' ds2 y st):RunW A S0 G rows (n + 1) ds x ds2 y (add ++ st)
noncomputable def mvD (x:FrS):Option Dd:=if x.kind = "call" /\ 0 < x.coin then some (.move x.caller x.who x.coin) else none
noncomputable def GoW (A:Nat->Option AcI) (S0:Nat->AcS):Nat->GR
  | 0=>fun _ _ _ _ _=>False
  | n + 1=>fun ds x ds' y st=>∃ (i:Nat) (ac:AcI) (k:Nat) (ds1:List Dd) (st1:List Dt),x.fin=none/\x.whose=(i:Int)/\i < 16/\A i=some ac/\(∀ d,mvD x=some d->fitsD A d)/\RunW A S0 (GoW A S0 n) (S0 i).rows k (ds ++ (mvD x).toList) x ds1 y st1/\k <= 40000/\ds1.length <= 100000/\ds'=(if y.fin=some ("well" : Str) then ds1 else ds)/\st=(mvD x).toList.map tellD ++ st1
noncomputable def PreG (G:GR):Prop:=∀ ds x ds' y st,G ds x ds' y st->ds <+: ds'/\∃ e,y.fin=some e
theorem DoW.pre {A:Nat->Option AcI} {S0:Nat->AcS} {G:GR} (hG:PreG G) {w:Str} {n:Option Int} {ds ds':List Dd} {x x':FrS} {ad:List Dt} (h:DoW A S0 G w n ds x ds' x' ad):ds <+: ds'/\ad.length <= 1:=by
  cases h with
  | pure=>exact ⟨List.prefix_rfl,Nat.zero_le _⟩
  | load=>exact ⟨List.prefix_rfl,Nat.zero_le _⟩
  | coin=>exact ⟨List.prefix_rfl,Nat.zero_le _⟩
  | save=>exact ⟨List.prefix_append _ _,Nat.le_refl _⟩
  | note=>exact ⟨List.prefix_append _ _,Nat.le_refl _⟩
  | call hC h =>
    obtain ⟨s,y,y',st,e,_,_,_,_,_,h⟩:=h
    rcases h with ⟨_,_,rfl,_⟩|⟨_,h⟩
    . exact ⟨List.prefix_rfl,Nat.le_refl _⟩
    . exact ⟨(hG _ _ _ _ _ h).1,Nat.le_refl _⟩
theorem OnW.pre {A:Nat->Option AcI} {S0:Nat->AcS} {G:GR} (hG:PreG G) {rows:List Row} {ds ds':List Dd} {x x':FrS} {ad:List Dt} (h:OnW A S0 G rows ds x ds' x' ad):ds <+: ds'/\ad.length <= 2:=by
  rcases h with ⟨_,rfl,_,rfl⟩|⟨_,_,_,_,_,⟨_,_,rfl,_,rfl⟩|⟨_,_,_,_,_,_,_,_,_,_,_,h,rfl⟩⟩
  . exact ⟨List.prefix_rfl,Nat.zero_le _⟩
  . exact ⟨List.prefix_rfl,Nat.zero_le _⟩
  . exact ⟨(h.pre hG).1,Nat.succ_le_succ (h.pre hG).2⟩
theorem RunW.pre {A:Nat->Option AcI} {S0:Nat->AcS} {G:GR} (hG:PreG G) {rows:List Row}:∀ {n:Nat} {ds ds':List Dd} {x y:FrS} {st:List Dt},RunW A S0 G rows n ds x ds' y st->ds <+: ds'/\∃ e,y.fin=some e
  | _,_,_,_,_,_,.done h=>by
    rename_i x
    refine ⟨List.prefix_rfl,?_⟩
    cases e:x.fin with
    | none=>exact absurd e h
    | some e'=>exact ⟨e',rfl⟩
  | _,_,_,_,_,_,.step _ o _ _ q=>⟨(o.pre hG).1.trans (q.pre hG).1,(q.pre hG).2⟩
theorem GoW.pre {A:Nat->Option AcI} {S0:Nat->AcS}:∀ n,PreG (GoW A S0 n)
  | 0=>fun _ _ _ _ _ h=>h.elim
  | n + 1=>fun ds x ds' y st h=>by
    obtain ⟨i,ac,k,ds1,st1,_,_,_,_,_,h,_,_,rfl,_⟩:=h
    have:=h.pre (GoW.pre n)
    refine ⟨?_,this.2⟩
    split
    . exact (List.prefix_append _ _).trans this.1
    . exact List.prefix_rfl
theorem Zkv (S:Nat->AcS) (d:Dd) (i:Nat):(doneS S d i).rows=(S i).rows:=by
  cases d with
  | save s p o n =>
    show (setS S s.toNat _ i).rows=_
    unfold setS
    by_cases w:i=s.toNat
    . rw [if_pos w,<- w]
    . rw [if_neg w]
  | move s t k=>show (moved S _ _ k i).rows=_; rw [ZcI]
  | note s n=>rfl
theorem ZiG:∀ (ds:List Dd) (S:Nat->AcS) (i:Nat),(runS S ds i).rows=(S i).rows
  | [],_,_=>rfl
  | d :: ds,S,i=>(ZiG ds (doneS S d) i).trans (Zkv S d i)
noncomputable def Post (K:PySem.W.Frag) (C cJ cS cM cN cF:Addr) (H:Hp) (j dx R L:Addr) (A:Nat->Option AcI) (S0:Nat->AcS) (m0:Nat) (f:FrI) (ws:List V) (ds':List Dd) (x':FrS) (add:List Dt) (Q:VK):Prop :=
  ∀ vs H',Wd K C cJ cS cM cN H' j dx R L A S0 m0 ds'->FrAt cF H' f x' (ws ++ vs)->Stp K H H' add vs->KeptX (goX A L f) H H'->Q .non H'
noncomputable def spGoW (K:PySem.W.Frag) (C cJ cS cM cN cF:Addr) (n:Nat):Sp:=fun vs H Q _=>∃ (j dx R L:Addr) (A:Nat->Option AcI) (S0:Nat->AcS) (m0:Nat) (ds:List Dd) (f:FrI) (x:FrS) (ds':List Dd) (y:FrS) (st:List Dt),vs=[.ref R,.ref j,.ref f.a]/\Wd K C cJ cS cM cN H j dx R L A S0 m0 ds/\FrAt cF H f x []/\Ap R L A f/\GoW A S0 n ds x ds' y st/\Post K C cJ cS cM cN cF H j dx R L A S0 m0 f [] ds' y st Q
noncomputable def Zg2 (K:PySem.W.Frag) (C cJ cS cM cN cF:Addr) (n:Nat):Sp:=fun vs H Q _=>∃ (j dx R L:Addr) (A:Nat->Option AcI) (S0:Nat->AcS) (m0:Nat) (ds:List Dd) (f:FrI) (x:FrS) (ws:List V) (p:Addr) (w:Str) (nn:Option Int) (ds':List Dd) (x':FrS) (d:Dt),vs=[.ref R,.ref j,.ref f.a,.ref p]/\Wd K C cJ cS cM cN H j dx R L A S0 m0 ds/\FrAt cF H f x ws/\Ap R L A f/\ZbI K H p w nn/\CallW A S0 (GoW A S0 n) w ds x ds' x' d/\ws.length <= 99000/\Post K C cJ cS cM cN cF H j dx R L A S0 m0 f ws ds' x' [d] Q
noncomputable def ZiH (K:PySem.W.Frag) (C cJ cS cM cN cF:Addr) (n:Nat):Sp:=fun vs H Q _=>∃ (j dx R L:Addr) (A:Nat->Option AcI) (S0:Nat->AcS) (m0:Nat) (ds:List Dd) (f:FrI) (x:FrS) (ws:List V) (p:Addr) (w:Str) (nn:Option Int) (ds':List Dd) (x':FrS) (ad:List Dt) (b1 b2:Bool) (t l pr d:Int),vs=[.ref R,.ref j,.ref f.a,.ref p]/\Wd K C cJ cS cM cN H j dx R L A S0 m0 ds/\FrAt cF H f x ws/\Ap R L A f/\ZbI K H p w nn/\ZcZ x w b1/\fillsR A (runS S0 ds) x w b2/\RT.lookup w=some (t,l,pr,d)/\DoW A S0 (GoW A S0 n) w nn ds (ZdK x (if (b1 || b2)=true then d else pr)) ds' x' ad/\x.stack.length <= 900/\ws.length <= 90000/\ds.length <= 100000/\Post K C cJ cS cM cN cF H j dx R L A S0 m0 f ws ds' x' (.int x.row :: ad) Q
noncomputable def Zkw (K:PySem.W.Frag) (C cJ cS cM cN cF:Addr) (n:Nat):Sp:=fun vs H Q _=>∃ (j dx R L:Addr) (A:Nat->Option AcI) (S0:Nat->AcS) (m0:Nat) (ds:List Dd) (f:FrI) (x:FrS) (ws:List V) (ds':List Dd) (x':FrS) (add:List Dt) (i:Nat) (y:AcI),vs=[.ref R,.ref j,.ref f.a]/\Wd K C cJ cS cM cN H j dx R L A S0 m0 ds/\FrAt cF H f x ws/\Ap R L A f/\x.whose=(i:Int)/\i < 16/\A i=some y/\OnW A S0 (GoW A S0 n) (S0 i).rows ds x ds' x' add/\x.stack.length <= 900/\ws.length <= 90000/\ds.length <= 100000/\Post K C cJ cS cM cN cF H j dx R L A S0 m0 f ws ds' x' add Q
section
end
section
variable {P:Program} {w:World} {K:PySem.W.Frag} {mg:Str->Option Value} {base:Heap}
theorem Zc2:FnScope ["rooms", "journal", "frame", "row", "other", "end"] ["rooms", "journal", "frame", "row"] (Zab ZcH):=⟨rfl,rfl,rfl,by decide +kernel,rfl,by decide +kernel,by decide +kernel⟩
theorem Zia  {k n:Nat} {cAccount cJournal cSave cMove cNote:Addr} {cFrame:Addr} (D:Zap K mg "call_row" ZcH) (tFrame:T_Frame K mg cFrame) (m_Frame_left:MCal P w K mg base 1 cFrame "left" (spLeft cFrame)) (m_Frame_finish:MCal P w K mg base 1 cFrame "finish" (ZcJ cFrame)) (m_Frame_tree:MCal P w K mg base 1 cFrame "tree" (spTree cFrame)) (m_Frame_lay:MCal P w K mg base 1 cFrame "lay" (spLay cFrame)) (c_other_call:Cal P w K mg base 3 "other_call" (Zh7 K cFrame)) (c_end_ahead_of_call:Cal P w K mg base 2 "end_ahead_of_call" (ZfY K cAccount cFrame)) (c_go:Cal P w K mg base (k + 8) "go" (spGoW K cAccount cJournal cSave cMove cNote cFrame n)) (n_min:mg "min" = none):Cal P w K mg base (k + 9) "call_row" (Zg2 K cAccount cJournal cSave cMove cNote cFrame n):=by
  refine Zay (N:=["rooms", "journal", "frame", "row", "other", "end"]) (ps:=["rooms", "journal", "frame", "row"]) D Zc2 (fun vs H Q E h=>?_) (fun _ _ _ _ _ _ us hl=>bd4 (R:=fun us=>bindArgs _ ⟨us,[]⟩=pure (List.zip _ us)) (fun _ _ _ _=>rfl) us hl) (fun f cdv A outer s H vs Q E hr h=>?_)
  . obtain ⟨j,dx,R,L,A,S0,m0,ds,f,x,ws,p,w,nn,ds',x',d,rfl,_⟩:=h; rfl
  . obtain ⟨j,dx,R,L,Ar,S0,m0,ds,fr,x,ws,p,wd,nn,ds',x',d,rfl,W,F,ap,hp,⟨s0,y,y',st,e,hO,rfl,rfl,hs,ha,hC⟩,hw,kk⟩:=h
    refine ⟨_,(Zac (Zax (i:=4) Zc2.nd rfl (by first|exact Or.inl rfl|exact Or.inr rfl) (ZaF c_other_call (hr.mono (by omega)) rfl (Zaa (pv 2) (Zaa (pv 3) Zae))))
      (Zac (Zax (i:=5) Zc2.nd rfl (by first|exact Or.inl rfl|exact Or.inr rfl) (ZaF c_end_ahead_of_call (hr.mono (by omega)) rfl (Zaa (pv 0) (Zaa (pv 4) Zae))))
      (Zac (Zgz (Zba (ZaC Zel (pv 5) Zcn (nomark _)) (Zac (ZaO (pv 4) (ZaG (cn_min rfl) rfl n_min PyProof.Rows.boot_min (Zaa (Zak (pv 4) rfl) (Zaa (Zce m_Frame_left (hr.mono (by omega)) (pv 2)) Zae))) rfl)
      (Zad (Zat (ZaF c_go (hr.mono (by omega)) rfl (Zaa (pv 0) (Zaa (pv 1) (Zaa (pv 4) Zae))))))) (Zac (ZaO (pv 4) Zaf rfl)
      (Zad (Zat (ZaB m_Frame_finish (hr.mono (by omega)) (pv 4) (Zaa (pv 5) (Zaa Zaf Zae))))))))
      (Zac (Zco (pv 2) (Zak (pv 4) rfl) Zin)
      (Zac (Zat (Zhi PySem.F.plainAttrs_list PySem.F.slot_list_append PySem.F.type_list_append ZbG (Zak (pv 2) rfl) (Zaa (Zce m_Frame_tree (hr.mono (by omega)) (pv 4)) Zae)))
      (Zac (Zat (ZaB m_Frame_lay (hr.mono (by omega)) (pv 2) (Zaa (Zak (pv 4) rfl) Zae)))
      (Zad (Zat (ZaB m_Frame_lay (hr.mono (by omega)) (pv 2) (Zaa (Zd1 (ZaC ZbJ (Zak (pv 4) rfl) ZaJ (nomark _)) Zaf Zaf) Zae)))))))))),?_⟩
    walk_at "nx"
    obtain ⟨e0,he0⟩:∃ e0,y'.fin=some e0:=by
      rcases hC with ⟨e1,_,_,rfl,_⟩|⟨_,h⟩
      . exact ⟨e1,rfl⟩
      . exact (GoW.pre n _ _ _ _ _ h).2
    repeat walk_at "rw"
    refine ⟨fr,x,y,ws,p,wd,nn,s0,rfl,F,hp,hO,fun gf H1 ga gt gs k1 F1 G1=>?_⟩
    have nf:NewF H gf:=⟨ga,gt,gs⟩
    have k1':KeptX (inF3 fr) H H1:=k1.mono fun _ h=>.inr (.inl h)
    have W1:=W.frame F ap k1'
    have apg:=nf.ap W
    have d1:=ZeQ k1' fun b z=>ZdY F1 z
    repeat walk_at "rw"
    refine ⟨R,Ar,_,_,gf,y,[],e,rfl,W1.r,G1,ha,?_⟩
    repeat walk_at "rw"
    refine Zgy (fun σ' H'=>∃ vs v,Wd K cAccount cJournal cSave cMove cNote H' j dx R L Ar S0 m0 ds'/\FrAt cFrame H' fr { x with stack:=s0 } ws/\FrAt cFrame H' gf y' vs/\Stp K H H' st vs/\KeptX (goX Ar L fr) H H'/\σ'=[some (.ref R),some (.ref j),some (.ref fr.a),some (.ref p),some (.ref gf.a),v]) ?_ ?_
    . rcases hC with ⟨e1,rfl,rfl,rfl,rfl⟩|⟨rfl,hG⟩
      . rw [show endV (some e1)=V.str e1 from rfl]
        repeat walk_at "rw"
        refine ⟨rfl,?_⟩
        rw [decide_eq_false (show ¬ V.str e1=V.non by intro z; cases z)]
        repeat walk_at "rw"
        refine Zav G1.ob tFrame.k.cl tFrame.n_given (by show 15 < 1000; decide) ?_
        have G2:=G1.setF { y with given:=0 } rfl
        have e2:putF "given" (.int 0) (fldF gf y)=fldF gf { y with given:=0 }:=rfl
        rw [e2]
        have k2:KeptX (inF3 gf) H1 (upd H1 gf.a (.ins cFrame gf.dx (fldF gf { y with given:=0 }))):=KeptX.upd (.inl rfl)
        generalize upd H1 gf.a _=H2 at G2 k2
        repeat walk_at "rw"
        refine Zan G2.ob rfl ?_
        repeat walk_at "rw"
        refine ⟨gf,_,[],e1,0,rfl,G2,fun H3 k3 G3=>?_⟩
        have k3':KeptX (inF3 gf) H1 H3:=k2.trans (k3.mono fun _ h=>.inl h)
        repeat walk_at "rw"
        exact ⟨[],_,W1.frame G1 apg k3',F.callee W ap nf F1 (Zdm k3'),G3,Stp.nil,Zg1 k1' nf (Zdm k3'),rfl⟩
      . rw [show endV none=V.non from rfl]
        repeat walk_at "rw"
        refine Zai G1.ob tFrame.k.cl tFrame.n_given rfl ?_
        repeat walk_at "rw"
        refine Zan F1.ob rfl ?_
        refine ⟨fr,_,ws,rfl,F1,?_⟩
        generalize hgv:(if x.given - x.used < y.given then x.given - x.used else y.given)=gv at hG
        repeat walk_at "rw"
        try (refine ZjT ?_; repeat walk_at "rw")
        refine Zav G1.ob tFrame.k.cl tFrame.n_given (by show 15 < 1000; decide) ?_
        have G2:=G1.setF { y with given:=gv } rfl
        have e2:putF "given" (.int (if x.given - x.used < y.given then x.given - x.used else y.given)) (fldF gf y)=fldF gf { y with given:=gv }:=by rw [hgv]; rfl
        rw [e2]
        have k2:KeptX (inF3 gf) H1 (upd H1 gf.a (.ins cFrame gf.dx (fldF gf { y with given:=gv }))):=KeptX.upd (.inl rfl)
        generalize upd H1 gf.a _=H2 at G2 k2
        have W2:=W1.frame G1 apg k2
        have d2:∀ b,H2 b=none->H b=none:=fun b h=>d1 b (ZeQ k2 (fun b z=>ZdY G2 z) b h)
        repeat walk_at "rw"
        refine ⟨j,dx,R,L,Ar,S0,m0,ds,gf,_,ds',y',st,rfl,W2,G2,apg,hG,fun vs H3 W3 G3 S3 k3=>?_⟩
        have k3':=(Zdm (A:=Ar) (L:=L) k2).trans k3
        repeat walk_at "rw"
        exact ⟨vs,_,W3,F.callee W ap nf F1 k3',G3,S3.base d2,Zg1 k1' nf k3',rfl⟩
    rintro σ3 H3 ⟨vs,v,W3,F3,G3,S3,k3,rfl⟩
    have fl:∀ fs,fs=fldF gf y'->fs.lookup (Str.ofString "end")=some (V.str e0):=fun fs q=>by rw [q]; show some (endV y'.fin)=_; rw [he0]; rfl
    have d3:=ZeQ k3 fun b z=>Zfc W3 F3 z
    repeat walk_at "rw"
    refine Zdd F3.ob tFrame.k.cl tFrame.n_used rfl ?_
    repeat walk_at "rw"
    refine Zai G3.ob tFrame.k.cl tFrame.n_used rfl ?_
    repeat walk_at "rw"
    refine ⟨fr.dx,_,F3.ob,by show 15 < 1000; decide,?_⟩
    have F4:=F3.setF { x with stack:=s0,used:=x.used + y'.used } rfl
    have e4:putF "used" (.int (x.used + y'.used)) (fldF fr { x with stack:=s0 })=fldF fr { x with stack:=s0,used:=x.used + y'.used }:=rfl
    rw [e4]
    have k4:KeptX (inF3 fr) H3 (upd H3 fr.a (.ins cFrame fr.dx (fldF fr { x with stack:=s0,used:=x.used + y'.used }))):=KeptX.upd (.inl rfl)
    generalize upd H3 fr.a _=H4 at F4 k4
    have gk:∀ {Ha Hb:Hp} {xs:List V},FrAt cFrame Ha gf y' xs->KeptX (inF3 fr) Ha Hb->FrAt cFrame Hb gf y' xs:=fun q kq=>q.kept kq (fun z=>nf.not (ZdY F z) (.inl rfl)) (fun z=>nf.not (ZdY F z) (.inr (.inl rfl))) (fun z=>nf.not (ZdY F z) (.inr (.inr rfl)))
    have G4:=gk G3 k4
    have W4:=W3.frame F3 ap k4
    have S4:=S3.kept k4 fun b z=>ZdY F z
    have kk4:=k3.trans (Zdm k4)
    have d4:=ZeQ kk4 fun b z=>Zfc W4 F4 z
    repeat walk_at "rw"
    refine Zai F4.ob tFrame.k.cl tFrame.n_steps rfl ?_
    refine ⟨Zcd (Zaz F4.ss),?_⟩
    repeat walk_at "rw"
    refine Zan G4.ob rfl ?_
    refine ⟨gf,y',vs,rfl,G4,fun q T H5 s5 hq hT h1 h2=>?_⟩
    have F5:=F4.same s5
    have G5:=G4.same s5
    have W5:=W4.same s5
    have S5:=(S4.same s5).tree (d4 _ hT) h1 (d4 _ hq) h2
    repeat walk_at "rw"
    refine ZbT F5.ss (Nat.lt_of_le_of_lt hw (by decide)) ?_
    have F6:=F5.setSS (ws ++ [.ref q])
    have k6:KeptX (inF3 fr) H5 (upd H5 fr.SS (.lst (ws ++ [.ref q]))):=KeptX.upd (.inr (.inr rfl))
    have G6:=gk G5 k6
    generalize upd H5 fr.SS _=H6 at F6 k6 G6
    repeat walk_at "rw"
    refine Zan F6.ob rfl ?_
    repeat walk_at "rw"
    refine Zai G6.ob tFrame.k.cl tFrame.n_answer rfl ?_
    repeat walk_at "rw"
    refine ⟨fr,_,_,_,rfl,F6,Nat.le_trans hs (by decide),fun H7 k7 F7=>?_⟩
    have k7':KeptX (inF3 fr) H5 H7:=k6.trans (k7.mono fun _ h=>.inr (.inl h))
    have G7:=gk G5 k7'
    have fin:∀ z H8,z=wellI y'.fin->KeptX (·=fr.ST) H7 H8->FrAt cFrame H8 fr { x with stack:=s0 ++ [y'.answer] ++ [z],used:=x.used + y'.used } (ws ++ [.ref q])->Q .non H8:=fun z H8 ez k8 F8=>by
      have k8':=k7'.trans (k8.mono fun _ h=>.inr (.inl h))
      rw [List.append_assoc,ez] at F8
      exact kk [.ref q] H8 (W5.frame F5 ap k8') F8 (S5.kept k8' fun b z=>ZdY F z) (kk4.trans (s5.keptX.trans (Zdm k8')))
    have hl7:(s0 ++ [y'.answer]).length <= 1000:=by rw [List.length_append]; exact Nat.add_le_add hs (by show 1 <= 100; decide)
    repeat walk_at "rw"
    refine Zan F7.ob rfl ?_
    repeat walk_at "rw"
    refine Zai G7.ob tFrame.k.cl tFrame.n_end (fl _ rfl) ?_
    repeat' walk_at "rw"
    . rename_i hz
      refine ⟨fr,_,_,_,rfl,F7,hl7,fun H8 k8 F8=>?_⟩
      repeat walk_at "rw"
      exact fin 1 H8 (by unfold wellI; rw [he0,hz,if_pos rfl]) k8 F8
    . rename_i hz
      refine ⟨fr,_,_,_,rfl,F7,hl7,fun H8 k8 F8=>?_⟩
      repeat walk_at "rw"
      exact fin 0 H8 (by unfold wellI; rw [he0,if_neg (fun q=>hz (Option.some.inj q))]) k8 F8
end
section
variable {P:Program} {w:World} {K:PySem.W.Frag} {mg:Str->Option Value} {base:Heap}
theorem Zkx:FnScope ["rooms", "journal", "frame", "row"] ["rooms", "journal", "frame", "row"] (Zab Zd7):=⟨rfl,rfl,rfl,by decide +kernel,rfl,by decide +kernel,by decide +kernel⟩
theorem Zky  {k n:Nat} {cAccount cJournal cSave cMove cNote:Addr} {aC:Addr} (tC3:TupK K aC ((["call", "borrow", "look"]:List Str).map V.str)) {cFrame:Addr} (D:Zap K mg "go_row" Zd7) (tFrame:T_Frame K mg cFrame) (c_row_price:Cal P w K mg base 3 "row_price" (ZcK K cAccount cFrame)) (c_call_row:Cal P w K mg base (k + 9) "call_row" (Zg2 K cAccount cJournal cSave cMove cNote cFrame n)) (c_do_row:Cal P w K mg base 6 "do_row" (Zh8 K cAccount cJournal cSave cMove cNote cFrame)) (g_CALLING:ZaU mg "CALLING" (.ref aC)):Cal P w K mg base (k + 10) "go_row" (ZiH K cAccount cJournal cSave cMove cNote cFrame n):=by
  refine Zay (N:=["rooms", "journal", "frame", "row"]) (ps:=["rooms", "journal", "frame", "row"]) D Zkx (fun vs H Q E h=>?_) (fun _ _ _ _ _ _ us hl=>bd4 (R:=fun us=>bindArgs _ ⟨us,[]⟩=pure (List.zip _ us)) (fun _ _ _ _=>rfl) us hl) (fun f cdv A outer s H vs Q E hr h=>?_)
  . obtain ⟨j,dx,R,L,A,S0,m0,ds,f,x,ws,p,w,nn,ds',x',ad,b1,b2,t,l,pr,d,rfl,_⟩:=h; rfl
  . obtain ⟨j,dx,R,L,Ar,S0,m0,ds,fr,x,ws,p,wd,nn,ds',x',ad,b1,b2,t,l,pr,d,rfl,W,F,ap,hp,hb1,hb2,hT,hD,hl,hw,hdl,kk⟩:=h
    refine ⟨_,(Zac (Zco (pv 2) (ZaF c_row_price (hr.mono (by omega)) rfl (Zaa (pv 0) (Zaa (pv 2) (Zaa (pv 3) Zae)))) Zin)
      (Zac (Zat (Zhi PySem.F.plainAttrs_list PySem.F.slot_list_append PySem.F.type_list_append ZbG (Zak (pv 2) rfl) (Zaa (Zak (pv 2) rfl) Zae)))
      (Zac (Zco (pv 2) Zaf Zin)
      (Zad (Zba (ZaC Zeg (ZaI Zbc (pv 3) Zaf (fun _ _=>rfl)) (ZbH rfl g_CALLING) rfl) (Zad (Zat (ZaF c_call_row (hr.mono (by omega)) rfl (Zaa (pv 0) (Zaa (pv 1) (Zaa (pv 2) (Zaa (pv 3) Zae))))))) (Zad (Zat (ZaF c_do_row (hr.mono (by omega)) rfl (Zaa (pv 0) (Zaa (pv 1) (Zaa (pv 2) (Zaa (pv 3) Zae)))))))))))),?_⟩
    walk_at "nx"
    repeat walk_at "rw"
    refine Zdd F.ob tFrame.k.cl tFrame.n_used rfl ?_
    repeat walk_at "rw"
    refine ⟨R,Ar,_,_,fr,x,ws,p,wd,nn,b1,b2,t,l,pr,d,rfl,W.r,F,hp,hb1,hb2,hT,?_⟩
    generalize (if (b1 || b2)=true then d else pr)=c at hD |-
    repeat walk_at "rw"
    refine ⟨fr.dx,_,F.ob,by show 15 < 1000; decide,?_⟩
    have F1:=F.setF { x with used:=x.used + c } rfl
    have e1:putF "used" (.int (x.used + c)) (fldF fr x)=fldF fr { x with used:=x.used + c }:=rfl
    rw [e1]
    have k1:KeptX (inF3 fr) H (upd H fr.a (.ins cFrame fr.dx (fldF fr { x with used:=x.used + c }))):=KeptX.upd (.inl rfl)
    have hp1:ZbI K (upd H fr.a (.ins cFrame fr.dx (fldF fr { x with used:=x.used + c }))) p wd nn:=Zck hp F (KeptX.upd (.inl rfl))
    generalize upd H fr.a _=H1 at F1 k1 hp1
    repeat walk_at "rw"
    refine Zai F1.ob tFrame.k.cl tFrame.n_steps rfl ?_
    refine ⟨Zcd (Zaz F1.ss),?_⟩
    repeat walk_at "rw"
    refine Zai F1.ob tFrame.k.cl tFrame.n_row rfl ?_
    repeat walk_at "rw"
    refine ZbT F1.ss (Nat.lt_of_le_of_lt hw (by decide)) ?_
    have F2:=F1.setSS (ws ++ [.int x.row])
    have k2:KeptX (inF3 fr) H (upd H1 fr.SS (.lst (ws ++ [.int x.row]))):=k1.trans (KeptX.upd (.inr (.inr rfl)))
    have hp2:ZbI K (upd H1 fr.SS (.lst (ws ++ [.int x.row]))) p wd nn:=(SameI.upd F1.ss Zbo).tup hp1
    generalize upd H1 fr.SS _=H2 at F2 k2 hp2
    repeat walk_at "rw"
    refine Zdd F2.ob tFrame.k.cl tFrame.n_row rfl ?_
    repeat walk_at "rw"
    refine ⟨fr.dx,_,F2.ob,by show 15 < 1000; decide,?_⟩
    have F3:=F2.setF (ZdK x c) rfl
    have e3:putF "row" (.int (x.row + 1)) (fldF fr { x with used:=x.used + c })=fldF fr (ZdK x c):=rfl
    rw [e3]
    have k3:KeptX (inF3 fr) H (upd H2 fr.a (.ins cFrame fr.dx (fldF fr (ZdK x c)))):=k2.trans (KeptX.upd (.inl rfl))
    have hp3:ZbI K (upd H2 fr.a (.ins cFrame fr.dx (fldF fr (ZdK x c)))) p wd nn:=Zck hp2 F2 (KeptX.upd (.inl rfl))
    generalize upd H2 fr.a _=H3 at F3 k3 hp3
    have W3:=W.frame F ap k3
    have d3:=ZeQ k3 fun b z=>ZdY F3 z
    obtain ⟨es,hes,J3⟩:=W3.J
    have pure:∀ H4,KeptX (inF3 fr) H3 H4->ds'=ds->ad=[]->FrAt cFrame H4 fr x' (ws ++ [.int x.row])->Q .non H4:=fun H4 k4 e1 e2 F4=>by
      subst e1 e2
      exact kk _ H4 (W3.frame F3 ap k4) F4 (Stp.int x.row) (Zdm (k3.trans k4))
    repeat walk_at "rw"
    refine ZjU (tC3.sqt H3) ?_
    cases hD with
    | pure hC hR hDx =>
      rw [hC]
      repeat walk_at "rw"
      refine ⟨.ref R,.ref j,fr.a,p,_,nn,_,rfl,hp3,.inl ⟨_,hR,rfl⟩,?_⟩
      exact ⟨.ref R,.ref j,fr,_,x',_,p,wd,nn,rfl,F3,hp3,hDx,hl,fun H4 k4 F4=>pure H4 (k_F3 k4) rfl rfl F4⟩
    | load ew hi hy e =>
      rw [show inS "load" ["call", "borrow", "look"]=false from rfl]
      repeat walk_at "rw"
      refine ⟨.ref R,.ref j,fr.a,p,_,nn,_,rfl,hp3,.inr (.inl ⟨rfl,rfl⟩),?_⟩
      exact ⟨R,L,.ref j,Ar,_,_,fr,_,_,.ref p,_,_,_,_,rfl,W3.r,F3,ap,ew,hi,hy,e,hl,fun H4 k4 F4=>pure H4 k4 rfl rfl F4⟩
    | coin e =>
      rw [show inS "coin" ["call", "borrow", "look"]=false from rfl]
      repeat walk_at "rw"
      refine ⟨.ref R,.ref j,fr.a,p,_,nn,_,rfl,hp3,.inr (.inr (.inl ⟨rfl,rfl⟩)),?_⟩
      exact ⟨R,L,.ref j,Ar,_,_,fr,_,_,.ref p,_,_,rfl,W3.r,F3,ap,e,hl,fun H4 k4 F4=>pure H4 k4 rfl rfl F4⟩
    | save ew hi hy e =>
      rename_i s0 pl v i yy
      rw [show inS "save" ["call", "borrow", "look"]=false from rfl]
      repeat walk_at "rw"
      refine ⟨.ref R,.ref j,fr.a,p,_,nn,_,rfl,hp3,.inr (.inr (.inr (.inl ⟨rfl,rfl⟩))),?_⟩
      refine ⟨j,dx,R,L,Ar,_,_,es,fr,_,_,.ref p,i,yy,s0,pl,v,rfl,J3,W3.r,by have:=W.b; omega,by rw [<- hes,List.length_map] at hdl; omega,F3,ap,by rw [List.length_append]; show ws.length + 1 <= _; omega,ew,hi,hy,e,fun t e H4 he ht k4 r4 J4 F4 et=>?_⟩
      have W4:=W3.wrote hes (e:=e) (by rw [he]; exact r4) J4 (by rw [he]; show (runS S0 ds (i:Int).toNat).store pl=_; rw [Int.toNat_natCast])
      rw [he] at W4
      rw [List.append_assoc] at F4
      exact kk _ H4 W4 F4 ((Stp.int x.row).app (Stp.tell (d3 _ ht) et)) ((Zdm k3).trans k4)
    | note e =>
      rename_i s0 v
      rw [show inS "note" ["call", "borrow", "look"]=false from rfl]
      repeat walk_at "rw"
      refine ⟨.ref R,.ref j,fr.a,p,_,nn,_,rfl,hp3,.inr (.inr (.inr (.inr ⟨rfl,rfl⟩))),?_⟩
      refine ⟨j,dx,R,L,Ar,_,_,es,fr,_,_,.ref p,s0,v,rfl,J3,W3.r,by have:=W.b; omega,by rw [<- hes,List.length_map] at hdl; omega,F3,ap,by rw [List.length_append]; show ws.length + 1 <= _; omega,e,fun t e H4 he ht k4 r4 J4 F4 et=>?_⟩
      have W4:=W3.wrote hes (e:=e) (by rw [he]; exact r4) J4 (by rw [he]; trivial)
      rw [he] at W4
      rw [List.append_assoc] at F4
      exact kk _ H4 W4 F4 ((Stp.int x.row).app (Stp.tell (d3 _ ht) et)) ((Zdm k3).trans k4)
    | call hC hX =>
      rw [hC]
      repeat walk_at "rw"
      refine ⟨j,dx,R,L,Ar,S0,m0,ds,fr,_,_,p,wd,nn,ds',x',_,rfl,W3,F3,ap,hp3,hX,by rw [List.length_append]; show ws.length + 1 <= _; omega,fun vs H4 W4 F4 S4 k4=>?_⟩
      repeat walk_at "rw"
      rw [List.append_assoc] at F4
      exact kk _ H4 W4 F4 ((Stp.int x.row).app (S4.base d3)) ((Zdm k3).trans k4)
end
section
variable {P:Program} {w:World} {K:PySem.W.Frag} {mg:Str->Option Value} {base:Heap}
theorem Zd9:FnScope ["rooms", "journal", "frame", "program", "row", "end"] ["rooms", "journal", "frame"] (Zab ZfA):=⟨rfl,rfl,rfl,by decide +kernel,rfl,by decide +kernel,by decide +kernel⟩
theorem ZlA  {k n:Nat} {cJournal cSave cMove cNote:Addr} {cAccount:Addr} {cFrame:Addr} (D:Zap K mg "go_on" ZfA) (tAccount:T_Account K mg cAccount) (tFrame:T_Frame K mg cFrame) (m_Frame_finish:MCal P w K mg base 1 cFrame "finish" (ZcJ cFrame)) (c_end_ahead_of:Cal P w K mg base 4 "end_ahead_of" (Zh1 K cAccount cFrame)) (c_go_row:Cal P w K mg base (k + 10) "go_row" (ZiH K cAccount cJournal cSave cMove cNote cFrame n)) (n_len:mg "len" = none):Cal P w K mg base (k + 11) "go_on" (Zkw K cAccount cJournal cSave cMove cNote cFrame n):=by
  refine Zay (N:=["rooms", "journal", "frame", "program", "row", "end"]) (ps:=["rooms", "journal", "frame"]) D Zd9 (fun vs H Q E h=>?_) (fun _ _ _ _ _ _ us hl=>bd3 (R:=fun us=>bindArgs _ ⟨us,[]⟩=pure (List.zip _ us)) (fun _ _ _=>rfl) us hl) (fun f cdv A outer s H vs Q E hr h=>?_)
  . obtain ⟨j,dx,R,L,A,S0,m0,ds,f,x,ws,ds',x',add,i,y,rfl,_⟩:=h; rfl
  . obtain ⟨j,dx,R,L,Ar,S0,m0,ds,fr,x,ws,ds',x',add,iw,y,rfl,W,F,ap,ew,hi,hy,ho,hl,hw,hdl,kk⟩:=h
    refine ⟨_,(Zac (Zax (i:=3) Zd9.nd rfl (by first|exact Or.inl rfl|exact Or.inr rfl) (Zak (ZaI ZaA (pv 0) (Zak (pv 2) rfl) (fun _ _=>rfl)) rfl))
      (Zac (Zba (ZaC Zma (Zak (pv 2) rfl) (ZaG Zb7 rfl n_len PySem.boot_len (Zaa (pv 3) Zae)) (nomark _)) (Zac (Zat (ZaB m_Frame_finish (hr.mono (by omega)) (pv 2) (Zaa ZaJ (Zaa Zaf Zae))))
      (Zad Zl8)) ZaE)
      (Zac (Zax (i:=4) Zd9.nd rfl (by first|exact Or.inl rfl|exact Or.inr rfl) (ZaI ZaA (pv 3) (Zak (pv 2) rfl) (fun _ _=>rfl)))
      (Zac (Zax (i:=5) Zd9.nd rfl (by first|exact Or.inl rfl|exact Or.inr rfl) (ZaF c_end_ahead_of (hr.mono (by omega)) rfl (Zaa (pv 0) (Zaa (pv 2) (Zaa (pv 4) Zae)))))
      (Zad (Zba (ZaC Zel (pv 5) Zcn (nomark _)) (Zad (Zat (ZaF c_go_row (hr.mono (by omega)) rfl (Zaa (pv 0) (Zaa (pv 1) (Zaa (pv 2) (Zaa (pv 4) Zae))))))) (Zad (Zat (ZaB m_Frame_finish (hr.mono (by omega)) (pv 2) (Zaa (pv 5) (Zaa Zaf Zae))))))))))),?_⟩
    walk_at "nx"
    have ay:=W.r.ac iw y hi hy
    obtain ⟨xs,hx1,hx2⟩:=ay.pg
    rw [ZiG] at hx2
    have hlen:=hx2.1
    repeat walk_at "rw"
    refine Zai F.ob tFrame.k.cl tFrame.n_whose rfl ?_
    rw [ew]
    refine Za8 (Zaz W.r.ob) (W.r.at hi hy) ?_
    refine Zai ay.ob tAccount.k.cl tAccount.n_program rfl ?_
    repeat walk_at "rw"
    refine Zai F.ob tFrame.k.cl tFrame.n_row rfl ?_
    rcases ho with ⟨h1,rfl,rfl,rfl⟩|⟨i,wd,nn,er,hrow,ho⟩
    . repeat walk_at "rz"
      refine Zan F.ob rfl ?_
      repeat walk_at "rw"
      refine ⟨fr,x,ws, "well", 0,rfl,F,fun H1 k1 F1=>?_⟩
      repeat walk_at "rw"
      have k1':KeptX (inF3 fr) H H1:=k1.mono fun _ h=>.inl h
      exact kk [] H1 (W.frame F ap k1') (by rw [List.append_nil]; exact F1) Stp.nil (Zdm k1')
    . have hil:i < (S0 iw).rows.length:=(List.getElem?_eq_some_iff.mp hrow).1
      obtain ⟨pt,ep,hpt⟩:=hx2.2 i _ _ hrow (List.getElem?_eq_getElem (by rw [<- hlen]; exact hil))
      have exi:atI xs x.row=some (.ref pt):=ZbO (i:=i) (by rw [List.getElem?_eq_getElem (by rw [<- hlen]; exact hil),ep]) er
      have hp:ZbI K H pt wd nn:=hpt
      repeat walk_at "rz"
      refine Zai F.ob tFrame.k.cl tFrame.n_row rfl ?_
      refine Za8 (Zaz hx1) exi ?_
      repeat walk_at "rw"
      rcases ho with ⟨e,ha,rfl,rfl,rfl⟩|⟨ha,b1,b2,t,l,pr,d,ad,hb1,hb2,hT,hD,rfl⟩
      . refine ⟨R,Ar,_,_,fr,x,ws,pt,wd,nn,some e,rfl,W.r,F,hp,ha,fun H1 s1=>?_⟩
        have F1:=F.same s1
        rw [show endV (some e)=V.str e from rfl]
        repeat walk_at "rw"
        refine ⟨rfl,?_⟩
        rw [decide_eq_false (show ¬ V.str e=V.non by intro z; cases z)]
        repeat walk_at "rw"
        refine Zan F1.ob rfl ?_
        repeat walk_at "rw"
        refine ⟨fr,x,ws,e,0,rfl,F1,fun H2 k2 F2=>?_⟩
        repeat walk_at "rw"
        have k2':KeptX (inF3 fr) H1 H2:=k2.mono fun _ h=>.inl h
        exact kk [] H2 ((W.same s1).frame F1 ap k2') (by rw [List.append_nil]; exact F2) Stp.nil (s1.keptX.trans (Zdm k2'))
      . refine ⟨R,Ar,_,_,fr,x,ws,pt,wd,nn,none,rfl,W.r,F,hp,ha,fun H1 s1=>?_⟩
        have F1:=F.same s1
        have hp1:ZbI K H1 pt wd nn:=s1.tup hp
        rw [show endV none=V.non from rfl]
        repeat walk_at "rw"
        refine ⟨j,dx,R,L,Ar,S0,m0,ds,fr,x,ws,pt,wd,nn,ds',x',ad,b1,b2,t,l,pr,d,rfl,W.same s1,F1,ap,hp1,hb1,hb2,hT,hD,hl,hw,hdl,fun vs H2 W2 F2 S2 k2=>?_⟩
        repeat walk_at "rw"
        exact kk vs H2 W2 F2 (S2.base fun b h=>s1.fresh h) (s1.keptX.trans k2)
end
section
variable {P:Program} {w:World} {K:PySem.W.Frag} {mg:Str->Option Value} {base:Heap}
theorem ZmT:FnScope ["rooms", "journal", "frame", "mark"] ["rooms", "journal", "frame"] (Zab s_go):=⟨rfl,rfl,rfl,by decide +kernel,rfl,by decide +kernel,by decide +kernel⟩
theorem ZmU  {k n:Nat} {cAccount cSave cNote:Addr} {cJournal:Addr} {cFrame:Addr} {cMove:Addr} (D:Zap K mg "go" s_go) (tJournal:T_Journal K mg cJournal) (tFrame:T_Frame K mg cFrame) (tMove:T_Move K mg cMove) (m_Journal_mark:MCal P w K mg base 1 cJournal "mark" (spMark cJournal)) (i_Move:ICal P w K mg base 1 "Move" cMove (ZfH cMove)) (m_Journal_back:MCal P w K mg base 3 cJournal "back" (spBack K cAccount cJournal cSave cMove cNote)) (c_write_step:Cal P w K mg base 4 "write_step" (ZbY K cAccount cJournal cSave cMove cNote cFrame)) (c_go_on:Cal P w K mg base (k + 11) "go_on" (Zkw K cAccount cJournal cSave cMove cNote cFrame n)):Cal P w K mg base (k + 12) "go" (spGoW K cAccount cJournal cSave cMove cNote cFrame (n + 1)):=by
  refine Zay (N:=["rooms", "journal", "frame", "mark"]) (ps:=["rooms", "journal", "frame"]) D ZmT (fun vs H Q E h=>?_) (fun _ _ _ _ _ _ us hl=>bd3 (R:=fun us=>bindArgs _ ⟨us,[]⟩=pure (List.zip _ us)) (fun _ _ _=>rfl) us hl) (fun f cdv A outer s H vs Q E hr h=>?_)
  . obtain ⟨j,dx,R,L,A,S0,m0,ds,f,x,ds',y,st,rfl,_⟩:=h; rfl
  . obtain ⟨j,dx,R,L,Ar,S0,m0,ds,fr,x,ds',y,st,rfl,W,F,ap,⟨iw,ac,kt,ds1,st1,hfin,ew,hi,hac,hfit,hrun,hkt,hd1,rfl,rfl⟩,kk⟩:=h
    refine ⟨_,(Zac (Zax (i:=3) ZmT.nd rfl (by first|exact Or.inl rfl|exact Or.inr rfl) (Zce m_Journal_mark (hr.mono (by omega)) (pv 1)))
      (Zac (Zgz (Zba (PW.pt (Zjo (ZaC ZbJ (Zak (pv 2) rfl) ZaJ (nomark _)) (Zhb (ZaC Zhc (Zak (pv 2) rfl) Zaf (nomark _))))) (Zad (Zat (ZaF c_write_step (hr.mono (by omega)) rfl (Zaa (pv 1) (Zaa (pv 2) (Zaa (Zcr i_Move (hr.mono (by omega)) rfl (Zaa (Zak (pv 2) rfl) (Zaa (Zak (pv 2) rfl) (Zaa (Zak (pv 2) rfl) Zae)))) Zae)))))) ZaE))
      (Zac (Zil PassesOwn.never (ZaC Zel (Zak (pv 2) rfl) Zcn (nomark _))
      (Zad (Zat (ZaF c_go_on (hr.mono (by omega)) rfl (Zaa (pv 0) (Zaa (pv 1) (Zaa (pv 2) Zae)))))))
      (Zad (Zba (ZaC Zge (Zak (pv 2) rfl) ZaJ (nomark _)) (Zad (Zat (ZaB m_Journal_back (hr.mono (by omega)) (pv 1) (Zaa (pv 3) Zae)))) ZaE))))),?_⟩
    walk_at "nx"
    obtain ⟨es,hes,J⟩:=W.J
    have hpr:=(hrun.pre (GoW.pre n)).1
    have hdl:ds.length <= 100000:=Nat.le_trans (((List.prefix_append _ _).trans hpr).length_le) hd1
    have hel:es.length=ds.length:=by rw [<- hes,List.length_map]
    have hb:=W.b
    repeat walk_at "rw"
    refine Zan J.ob rfl ?_
    repeat walk_at "rw"
    refine ⟨j,dx,R,L,_,rfl,J.ob,J.li,?_⟩
    rw [List.length_map]
    repeat walk_at "rw"
    refine Zgy (fun σ' H'=>∃ pre,Wd K cAccount cJournal cSave cMove cNote H' j dx R L Ar S0 m0 (ds ++ (mvD x).toList)/\FrAt cFrame H' fr x pre/\Stp K H H' ((mvD x).toList.map tellD) pre/\KeptX (goX Ar L fr) H H'/\σ'=[some (.ref R),some (.ref j),some (.ref fr.a),some (.int (es.length:Nat))]) ?_ ?_
    . have nomv:mvD x=none->(∃ pre,Wd K cAccount cJournal cSave cMove cNote H j dx R L Ar S0 m0 (ds ++ (mvD x).toList)/\FrAt cFrame H fr x pre/\Stp K H H ((mvD x).toList.map tellD) pre/\KeptX (goX Ar L fr) H H/\[some (V.ref R),some (V.ref j),some (V.ref fr.a),some (V.int (es.length:Nat))]=[some (.ref R),some (.ref j),some (.ref fr.a),some (.int (es.length:Nat))]):=fun e=>by
        rw [e]
        exact ⟨[],by rw [show (none:Option Dd).toList=[] from rfl,List.append_nil]; exact W,F,Stp.nil,KeptX.refl,rfl⟩
      repeat walk_at "rw"
      refine Zai F.ob tFrame.k.cl tFrame.n_kind rfl ?_
      repeat' walk_at "rw"
      . rename_i hk
        refine Zai F.ob tFrame.k.cl tFrame.n_coin rfl ?_
        repeat' walk_at "rw"
        . rename_i hc
          have hmv:mvD x=some (.move x.caller x.who x.coin):=by unfold mvD; rw [if_pos ⟨hk,hc⟩]
          refine Zai F.ob tFrame.k.cl tFrame.n_caller rfl ?_
          repeat walk_at "rw"
          refine Zai F.ob tFrame.k.cl tFrame.n_who rfl ?_
          repeat walk_at "rw"
          refine Zai F.ob tFrame.k.cl tFrame.n_coin rfl ?_
          repeat walk_at "rw"
          intro o odx hx hdx hne
          have hx2:(upd H odx (.own o)) o=none:=by rw [Zaj (Ne.symm hne)]; exact hx
          refine ⟨o,odx,x.caller,x.who,x.coin,rfl,Zag,rfl,?_⟩
          rw [ZaR]
          have s1:Same H (upd (upd H odx (.own o)) o (.ins cMove odx (moveF x.caller x.who x.coin))):=(Same.new hdx).newT hx2
          have eo:(upd (upd H odx (.own o)) o (.ins cMove odx (moveF x.caller x.who x.coin))) o=some (.ins cMove odx (moveF x.caller x.who x.coin)):=Zag
          have J1:=J.same s1
          have W1:=W.same s1
          have F1:=F.same s1
          generalize upd (upd H odx (.own o)) o (.ins cMove odx (moveF x.caller x.who x.coin))=H1 at s1 eo J1 W1 F1
          repeat walk_at "rw"
          refine ⟨j,dx,R,L,Ar,_,_,es,⟨o,odx,.move x.caller x.who x.coin⟩,fr,x,[],rfl,J1,W1.r,eo,hfit _ hmv,by omega,by omega,F1,ap,Nat.zero_le _,fun t H2 ht k2 r2 J2 F2 et=>?_⟩
          repeat walk_at "rw"
          rw [hmv]
          exact ⟨[.ref t],W1.wrote hes r2 J2 trivial,F2,Stp.tell (s1.fresh ht) et,s1.keptX.trans k2,rfl⟩
        . rename_i hc
          exact nomv (by unfold mvD; rw [if_neg (fun z=>hc z.2)])
      . rename_i hk
        exact nomv (by unfold mvD; rw [if_neg (fun z=>hk z.1)])
    rintro σ1 H1 ⟨pre,W1,F1,S1,k1,rfl⟩
    have hpl:pre.length <= 1:=by
      have:=DVs.length S1
      rw [List.length_map] at this
      cases e:mvD x with
      | none=>rw [e] at this; rw [<- this]; exact Nat.zero_le _
      | some d=>rw [e] at this; rw [<- this]; exact Nat.le_refl _
    generalize (mvD x).toList.map tellD=st0 at S1 kk
    repeat walk_at "rw"
    refine ⟨fun nn σ' H'=>∃ dx1 xx wz sa sb,RunW Ar S0 (GoW Ar S0 n) (S0 iw).rows nn dx1 xx ds1 y sb/\ds <+: dx1/\sa ++ sb=st0 ++ st1/\Stp K H H' sa wz/\xx.whose=(iw:Int)/\2 * nn + wz.length <= 80001/\Wd K cAccount cJournal cSave cMove cNote H' j dx R L Ar S0 m0 dx1/\FrAt cFrame H' fr xx wz/\KeptX (goX Ar L fr) H H'/\σ'=[some (.ref R),some (.ref j),some (.ref fr.a),some (.int (es.length:Nat))],⟨kt,_,x,pre,st0,st1,hrun,List.prefix_append _ _,rfl,S1,ew,by omega,W1,F1,k1,rfl⟩,?_⟩
    rintro nn σ' H2 ⟨dx1,xx,wz,sa,sb,hrun2,hp2,esb,S2,ew2,hl2,W2,F2,k2,rfl⟩
    have hob:=F2.ob
    cases hrun2 with
    | done hf =>
      obtain ⟨ee,hee⟩:∃ e,y.fin=some e:=by
        cases e:y.fin with
        | none=>exact absurd e hf
        | some e'=>exact ⟨e',rfl⟩
      rw [List.append_nil] at esb
      subst esb
      have fl:(fldF fr y).lookup (Str.ofString "end")=some (V.str ee):=by show some (endV y.fin)=_; rw [hee]; rfl
      repeat walk_at "rw"
      refine Zai F2.ob tFrame.k.cl tFrame.n_end fl ?_
      repeat walk_at "rw"
      refine ⟨rfl,?_⟩
      rw [decide_eq_false (show ¬ V.str ee=V.non by intro z; cases z)]
      repeat walk_at "rw"
      refine Zai F2.ob tFrame.k.cl tFrame.n_end fl ?_
      repeat' walk_at "rw"
      . rename_i hne
        have hw:¬ y.fin=some ("well" : Str):=by rw [hee]; intro z; exact hne (Option.some.inj z)
        rw [if_neg hw] at kk
        obtain ⟨es2,hes2,J2⟩:=W2.J
        have hel2:es2.length=ds1.length:=by rw [<- hes2,List.length_map]
        refine Zan J2.ob rfl ?_
        repeat walk_at "rw"
        have r2:=W2.r
        have ri2:=W2.ri
        rw [<- hes2] at r2 ri2
        refine ⟨j,dx,R,L,Ar,S0,_,es2,(es.length:Nat),rfl,J2,r2,ri2,by rw [List.length_map]; omega,fun H3 k3 r3 ri3 J3=>?_⟩
        have etk:(es2.take es.length).map (·.d)=ds:=by rw [List.map_take,hes2,hel]; exact (List.prefix_iff_eq_take.mp hp2).symm
        rw [Int.toNat_natCast] at r3 ri3 J3
        rw [etk] at r3 ri3
        repeat walk_at "rw"
        have F3:=F2.out W2.r ap J2.li k3
        exact kk wz H3 ⟨⟨_,etk,J3⟩,r3.tight2 W.ti,ri3,W.ti,W.b⟩ F3 (S2.kept (Zkp (f:=fr) k3) fun b z=>Zfc W F z) (k2.trans (Zkp k3))
      . rename_i he
        subst he
        rw [if_pos hee] at kk
        exact kk wz H2 W2 F2 S2 k2
    | step hf o hl e q =>
      rename_i n1 dsn x' add sn
      have fl:(fldF fr xx).lookup (Str.ofString "end")=some V.non:=by show some (endV xx.fin)=_; rw [hf]; rfl
      have op:=o.pre (GoW.pre n)
      have hdn:dx1.length <= 100000:=Nat.le_trans ((op.1.trans (q.pre (GoW.pre n)).1).length_le) hd1
      repeat walk_at "rw"
      refine Zai F2.ob tFrame.k.cl tFrame.n_end fl ?_
      repeat walk_at "rw"
      refine ⟨fun σ' H'=>∃ m',m' < n1 + 1/\_,fun _ _ h=>h,?_⟩
      repeat walk_at "rw"
      refine ⟨j,dx,R,L,Ar,S0,m0,dx1,fr,xx,wz,dsn,x',add,iw,ac,rfl,W2,F2,ap,ew2,hi,hac,o,hl,by omega,hdn,fun vs H3 W3 F3 S3 k3=>?_⟩
      have d2:=ZeQ k2 fun b z=>Zfc W2 F2 z
      have ln:=DVs.length S3
      have ol:=op.2
      repeat walk_at "rw"
      exact ⟨n1,Nat.lt_succ_self _,dsn,x',wz ++ vs,sa ++ add,sn,q,hp2.trans op.1,by rw [List.append_assoc]; exact esb,(S2.kept k3 fun b z=>Zfc W F z).app (S3.base d2),by rw [e]; exact ew2,by rw [List.length_append]; omega,W3,F3,k2.trans k3,rfl⟩
theorem go_no {cAccount cJournal cSave cMove cNote cFrame:Addr} (D:Zap K mg "go" s_go):Cal P w K mg base 8 "go" (spGoW K cAccount cJournal cSave cMove cNote cFrame 0) :=
  Zay (N:=["rooms", "journal", "frame", "mark"]) (ps:=["rooms", "journal", "frame"]) D ZmT (fun vs H Q E h=>by obtain ⟨j,dx,R,L,A,S0,m0,ds,f,x,ds',y,st,rfl,_⟩:=h; rfl) (fun _ _ _ _ _ _ us hl=>bd3 (R:=fun us=>bindArgs _ ⟨us,[]⟩=pure (List.zip _ us)) (fun _ _ _=>rfl) us hl) (fun _ _ _ _ _ _ _ _ _ _ h=>by obtain ⟨_,_,_,_,_,_,_,_,_,_,_,_,_,_,_,_,_,h,_⟩:=h; exact h.elim)
theorem Zl2 {cAccount cJournal cSave cMove cNote cFrame aC:Addr} (tC3:TupK K aC ((["call", "borrow", "look"]:List Str).map V.str)) (D_call_row:Zap K mg "call_row" ZcH) (tFrame:T_Frame K mg cFrame) (m_Frame_left:MCal P w K mg base 1 cFrame "left" (spLeft cFrame)) (m_Frame_finish:MCal P w K mg base 1 cFrame "finish" (ZcJ cFrame)) (m_Frame_tree:MCal P w K mg base 1 cFrame "tree" (spTree cFrame)) (m_Frame_lay:MCal P w K mg base 1 cFrame "lay" (spLay cFrame)) (c_other_call:Cal P w K mg base 3 "other_call" (Zh7 K cFrame)) (c_end_ahead_of_call:Cal P w K mg base 2 "end_ahead_of_call" (ZfY K cAccount cFrame)) (n_min:mg "min" = none) (D_go_row:Zap K mg "go_row" Zd7) (c_row_price:Cal P w K mg base 3 "row_price" (ZcK K cAccount cFrame)) (c_do_row:Cal P w K mg base 6 "do_row" (Zh8 K cAccount cJournal cSave cMove cNote cFrame)) (g_CALLING:ZaU mg "CALLING" (.ref aC)) (D_go_on:Zap K mg "go_on" ZfA) (tAccount:T_Account K mg cAccount) (c_end_ahead_of:Cal P w K mg base 4 "end_ahead_of" (Zh1 K cAccount cFrame)) (n_len:mg "len" = none) (D_go:Zap K mg "go" s_go) (tJournal:T_Journal K mg cJournal) (tMove:T_Move K mg cMove) (m_Journal_mark:MCal P w K mg base 1 cJournal "mark" (spMark cJournal)) (i_Move:ICal P w K mg base 1 "Move" cMove (ZfH cMove)) (m_Journal_back:MCal P w K mg base 3 cJournal "back" (spBack K cAccount cJournal cSave cMove cNote)) (c_write_step:Cal P w K mg base 4 "write_step" (ZbY K cAccount cJournal cSave cMove cNote cFrame)):∀ n,Cal P w K mg base (4 * n + 8) "go" (spGoW K cAccount cJournal cSave cMove cNote cFrame n)
  | 0=>go_no D_go
  | n + 1 =>
    have c:=Zl2 tC3 D_call_row tFrame m_Frame_left m_Frame_finish m_Frame_tree m_Frame_lay c_other_call c_end_ahead_of_call n_min D_go_row c_row_price c_do_row g_CALLING D_go_on tAccount c_end_ahead_of n_len D_go tJournal tMove m_Journal_mark i_Move m_Journal_back c_write_step n
    have c1:=Zia (k:=4 * n) (n:=n) D_call_row tFrame m_Frame_left m_Frame_finish m_Frame_tree m_Frame_lay c_other_call c_end_ahead_of_call (c) n_min
    have c2:=Zky (k:=4 * n) (n:=n) tC3 D_go_row tFrame c_row_price (c1) c_do_row g_CALLING
    have c3:=ZlA (k:=4 * n) (n:=n) D_go_on tAccount tFrame m_Frame_finish c_end_ahead_of (c2) n_len
    ZmU (k:=4 * n) (n:=n) D_go tJournal tFrame tMove m_Journal_mark i_Move m_Journal_back c_write_step (c3)
end
noncomputable def ZiI (K:PySem.W.Frag) (C cJ cS cM cN:Addr):Sp:=fun vs H Q _=>∃ (j dx R L:Addr) (A:Nat->Option AcI) (S0:Nat->AcS) (m0:Nat) (ds:List Dd) (caller who coin word given:Int) (ds':List Dd) (y:FrS) (st:List Dt),vs=[.ref R,.ref j,.int caller,.int who,.int coin,.int word,.int given]/\Wd K C cJ cS cM cN H j dx R L A S0 m0 ds/\GoW A S0 10 ds (frame0 "call" who who caller coin word given 1 false) ds' y st /\
  ∀ p H',Wd K C cJ cS cM cN H' j dx R L A S0 m0 ds'->Stp K H H' [treeD y st] [.ref p]->KeptX (fun b=>¬ Out A b\/b=L) H H'->Q (.ref p) H'
section
variable {P:Program} {w:World} {K:PySem.W.Frag} {mg:Str->Option Value} {base:Heap}
theorem ZiJ:FnScope ["rooms", "journal", "caller", "who", "coin", "word", "given", "frame"] ["rooms", "journal", "caller", "who", "coin", "word", "given"] (Zab Zhx):=⟨rfl,rfl,rfl,by decide +kernel,rfl,by decide +kernel,by decide +kernel⟩
theorem ZlB   {cFrame:Addr} (D:Zap K mg "enter" Zhx) (tFrame:T_Frame K mg cFrame) (m_Frame_tree:MCal P w K mg base 1 cFrame "tree" (spTree cFrame)) (c_go:Cal P w K mg base 48 "go" (spGoW K cAccount cJournal cSave cMove cNote cFrame 10)) (iD7_Frame:Zhs P w K mg base 1 "Frame" cFrame (ZeC cFrame) [.int 1,.bl false]):Cal P w K mg base 49 "enter" (ZiI K cAccount cJournal cSave cMove cNote):=by
  refine Zay (N:=["rooms", "journal", "caller", "who", "coin", "word", "given", "frame"]) (ps:=["rooms", "journal", "caller", "who", "coin", "word", "given"]) D ZiJ (fun vs H Q E h=>?_) (fun _ _ _ _ _ _ us hl=>bd7 (R:=fun us=>bindArgs _ ⟨us,[]⟩=pure (List.zip _ us)) (fun _ _ _ _ _ _ _=>rfl) us hl) (fun f cdv A outer s H vs Q E hr h=>?_)
  . obtain ⟨j,dx,R,L,A,S0,m0,ds,caller,who,coin,word,given,ds',y,st,rfl,_⟩:=h; rfl
  . obtain ⟨j,dx,R,L,Ar,S0,m0,ds,caller,who,coin,word,given,ds',y,st,rfl,W,hG,k⟩:=h
    refine ⟨_,(Zac (Zax (i:=7) ZiJ.nd rfl (by first|exact Or.inl rfl|exact Or.inr rfl) (Zd6 iD7_Frame (hr.mono (by decide)) rfl (Zaa ZaJ (Zaa (pv 3) (Zaa (pv 3) (Zaa (pv 2) (Zaa (pv 4) (Zaa (pv 5) (Zaa (pv 6) Zae)))))))))
      (Zac (Zat (ZaF c_go (hr.mono (by decide)) rfl (Zaa (pv 0) (Zaa (pv 1) (Zaa (pv 7) Zae)))))
      (Zad (Zaq (Zce m_Frame_tree (hr.mono (by decide)) (pv 7)))))),?_⟩
    walk_at "nx"
    repeat walk_at "rw"
    refine Zlm ?_
    repeat walk_at "rw"
    intro a adx ha hadx hne
    have ha2:(upd H adx (.own a)) a=none:=by rw [Zaj (Ne.symm hne)]; exact ha
    have s1:Same H (upd (upd H adx (.own a)) a (.ins cFrame adx [])):=(Same.new hadx).newT ha2
    refine ⟨a,adx, "call", who,who,caller,coin,word,given,1,false,rfl,Zag,fun ST SS H1 hST hSS F1 k1=>?_⟩
    have nf:NewF H ⟨a,adx,ST,SS⟩:=⟨ha,s1.fresh hST,s1.fresh hSS⟩
    have sa:Same H H1:=fun b o e=>k1 b o (s1 b o e) (Zah e ha)
    have W1:=W.same sa
    refine ⟨rfl,?_⟩
    repeat walk_at "rw"
    refine ⟨j,dx,R,L,Ar,S0,m0,ds,⟨a,adx,ST,SS⟩,_,ds',y,st,rfl,W1,F1,nf.ap W,hG,fun vs H2 W2 F2 S2 k2=>?_⟩
    rw [List.nil_append] at F2
    have d2:∀ b,H2 b=none->H b=none:=fun b h=>sa.fresh (ZeQ k2 (fun b z=>Zfc W2 F2 z) b h)
    have kX:KeptX (fun b=>¬ Out Ar b\/b=L) H H2:=fun b o e nb=>k2 b o (sa b o e) fun z=>by
      rcases z with z|z|z
      . exact nb (.inl z)
      . exact nb (.inr z)
      . exact nf.not (by rw [e]; intro q; cases q) z
    repeat walk_at "rw"
    refine Zan F2.ob rfl ?_
    refine ⟨⟨a,adx,ST,SS⟩,y,_,rfl,F2,fun p T H3 s3 hp hT e1 e2=>?_⟩
    exact k p H3 (W2.same s3) (((S2.base fun b h=>sa.fresh h).same s3).tree (d2 _ hT) e1 (d2 _ hp) e2) (kX.trans s3.keptX)
end
noncomputable def atS (x:FrS) (st:List Int) (row used:Int):FrS:={ x with stack:=st,row:=row,used:=used }
noncomputable def endS (x:FrS) (st:List Int) (row used:Int) (e:Str) (a:Int):FrS:={ x with stack:=st,row:=row,used:=used,fin:=some e,answer:=a }
section
variable {A:Nat->Option AcI} {S0:Nat->AcS} {G:GR} {rows:List Row} {n i i':Nat} {ds ds' ds1 ds2:List Dd} {x x' y:FrS} {s:List Dt} {st st':List Int} {w:Str} {nn:Option Int} {u u' r t l c:Int}
theorem ZlC {ad:List Dt} {pr d:Int} {b1 b2:Bool} (hf:x.fin=none) (hw:rows[i]?=some (w,nn)) (e1:Zci w nn=some r) (e2:RT.lookup w=some (t,l,pr,d)) (h1:t + r <= (st.length:Int)) (h2:(st.length:Int) - t + l <= 24) (hl:st.length <= 24)
    (hb1:ZcZ (atS x st i u) w b1) (hb2:fillsR A (runS S0 ds) (atS x st i u) w b2) (hb:barB (atS x st i u) w b1=false) (hc:(if (b1 || b2)=true then d else pr)=c) (hu:u + c=u') (hg:u' <= x.given) (hD:DoW A S0 G w nn ds (atS x st ((i:Int) + 1) u') ds' x' ad) (hx:x'.whose=x.whose) (q:RunW A S0 G rows n ds' x' ds2 y s) :
    RunW A S0 G rows (n + 1) ds (atS x st i u) ds2 y (.int (i:Int) :: (ad ++ s)):=by
  refine RunW.step (add:=.int (i:Int) :: ad) hf (.inr ⟨i,w,nn,rfl,hw,.inr ⟨⟨r,t,l,pr,d,e1,e2,.inr (.inr ⟨?_,?_,b1,b2,hb1,hb2,.inr (.inr ⟨hb,?_,rfl⟩)⟩)⟩,b1,b2,t,l,pr,d,ad,hb1,hb2,e2,?_,rfl⟩⟩) (Nat.le_trans hl (by decide)) hx q
  . show ¬ (st.length:Int) < _; omega
  . show ¬ 24 < (st.length:Int) - _ + _; omega
  . rw [hc]; show ¬ x.given - u < c; omega
  . rw [hc,<- hu] at *; exact hD
theorem Zf1 {D:RD} (hf:x.fin=none) (hw:rows[i]?=some (w,nn)) (e1:Zci w nn=some r) (e2:RT.lookup w=some (t,l,c,c)) (h1:t + r <= (st.length:Int)) (h2:(st.length:Int) - t + l <= 24) (hl:st.length <= 24) (nc:w ≠ "call" /\ w ≠ "save" /\ inS w ["save", "note"]=false/\inS w ["call", "borrow", "look"]=false) (hR:RDL.lookup w=some D) (hu:u + c=u') (hg:u' <= x.given)
    (hD:D (atS x st ((i:Int) + 1) u') w nn x') (hx:x'.whose=x.whose) (q:RunW A S0 G rows n ds x' ds2 y s):RunW A S0 G rows (n + 1) ds (atS x st i u) ds2 y (.int (i:Int) :: s) :=
  ZlC (b1:=false) (b2:=false) (ad:=[]) hf hw e1 e2 h1 h2 hl (.inl ⟨nc.1,rfl⟩) (.inl ⟨nc.2.1,rfl⟩) (by unfold barB; rw [nc.2.2.1]; cases (atS x st i u).looking <;> rfl) rfl hu hg (.pure nc.2.2.2 hR hD) hx q
theorem Zf2 {k:Int} (hf:x.fin=none) (hw:rows[i]?=some (("push" : Str),some k)) (hl:st.length < 24) (hu:u + 1=u') (hg:u' <= x.given) (q:RunW A S0 G rows n ds (atS x (st ++ [k]) ((i + 1:Nat):Int) u') ds2 y s):RunW A S0 G rows (n + 1) ds (atS x st i u) ds2 y (.int (i:Int) :: s) :=
  Zf1 hf hw rfl rfl (by omega) (by omega) (by omega) ⟨by decide,by decide,rfl,rfl⟩ rfl hu hg ⟨k,rfl,rfl⟩ rfl q
theorem ZbZ (a:List Int) (b:Int):(a ++ [b]).length=a.length + 1:=by rw [List.length_append]; rfl
theorem st_drop {v:Int} (hf:x.fin=none) (hw:rows[i]?=some (("drop" : Str),none)) (hl:st.length < 24) (hu:u + 1=u') (hg:u' <= x.given) (q:RunW A S0 G rows n ds (atS x st ((i + 1:Nat):Int) u') ds2 y s):RunW A S0 G rows (n + 1) ds (atS x (st ++ [v]) i u) ds2 y (.int (i:Int) :: s) :=
  Zf1 (D:=rDrop) hf hw rfl rfl (by rw [ZbZ]; omega) (by rw [ZbZ]; omega) (by rw [ZbZ]; omega) ⟨by decide,by decide,rfl,rfl⟩ rfl hu hg ⟨st,v,rfl,rfl⟩ rfl q
theorem ZmV {v:Int} (hf:x.fin=none) (hk:x.looking=false) (hw:rows[i]?=some (("note" : Str),none)) (hl:st.length < 24) (hu:u + 4=u') (hg:u' <= x.given) (q:RunW A S0 G rows n (ds ++ [.note x.who v]) (atS x st ((i + 1:Nat):Int) u') ds2 y s):RunW A S0 G rows (n + 1) ds (atS x (st ++ [v]) i u) ds2 y (.int (i:Int) :: tellD (.note x.who v) :: s) :=
  ZlC (b1:=false) (b2:=false) (ad:=[tellD (.note x.who v)]) hf hw rfl rfl (by rw [ZbZ]; omega) (by rw [ZbZ]; omega) (by rw [ZbZ]; omega) (.inl ⟨by decide,rfl⟩) (.inl ⟨by decide,rfl⟩) (by unfold barB; show (x.looking && _)=false; rw [hk]; rfl) rfl hu hg (.note (s:=st) (v:=v) rfl) rfl q
theorem ZmW {p v o:Int} {wi:Nat} {ac:AcI} (hf:x.fin=none) (hk:x.looking=false) (ew:x.who=(wi:Int)) (hi:wi < 16) (ho:(runS S0 ds wi).store p=o) (hA:A wi=some ac) (hw:rows[i]?=some (("save" : Str),none)) (hl:st.length < 23) (hc:c=if v ≠ 0/\o=0 then 12 else 5) (hu:u + c=u') (hg:u' <= x.given) (q:RunW A S0 G rows n (ds ++ [.save (wi:Int) p o v]) (atS x st ((i + 1:Nat):Int) u') ds2 y s) :
    RunW A S0 G rows (n + 1) ds (atS x (st ++ [p,v]) i u) ds2 y (.int (i:Int) :: tellD (.save (wi:Int) p o v) :: s):=by
  subst ho
  have hs:(st ++ [p,v]).length=st.length + 2:=by rw [List.length_append]; rfl
  refine ZlC (b1:=false) (b2:=decide (v ≠ 0) && decide ((runS S0 ds wi).store p=0)) (ad:=[tellD (.save (wi:Int) p ((runS S0 ds wi).store p) v)]) hf hw rfl rfl (by rw [hs]; omega) (by rw [hs]; omega) (by rw [hs]; omega) (.inl ⟨by decide,rfl⟩) (.inr ⟨rfl,st,p,v,rfl,?_⟩) (by unfold barB; show (x.looking && _)=false; rw [hk]; rfl) ?_ hu hg (.save ew hi hA rfl) rfl q
  . by_cases e:v=0
    . exact .inl ⟨e,by rw [e]; rfl⟩
    . exact .inr ⟨e,wi,ac,ew,hi,hA,by rw [decide_eq_true (show v ≠ 0 from e),Bool.true_and]⟩
  . rw [hc]
    by_cases e:v ≠ 0/\(runS S0 ds wi).store p=0
    . rw [if_pos e,decide_eq_true e.1,decide_eq_true e.2]; rfl
    . rw [if_neg e]
      by_cases e1:v ≠ 0
      . rw [decide_eq_true e1,decide_eq_false (fun z=>e ⟨e1,z⟩)]; rfl
      . rw [decide_eq_false e1]; rfl
theorem ZmX {p:Int} {wi:Nat} {ac:AcI} (hf:x.fin=none) (ew:x.who=(wi:Int)) (hi:wi < 16) (hA:A wi=some ac) (hw:rows[i]?=some (("load" : Str),none)) (hl:st.length < 24) (hu:u + 3=u') (hg:u' <= x.given) (q:RunW A S0 G rows n ds (atS x (st ++ [(runS S0 ds wi).store p]) ((i + 1:Nat):Int) u') ds2 y s):RunW A S0 G rows (n + 1) ds (atS x (st ++ [p]) i u) ds2 y (.int (i:Int) :: s) :=
  ZlC (b1:=false) (b2:=false) (ad:=[]) hf hw rfl rfl (by rw [ZbZ]; omega) (by rw [ZbZ]; omega) (by rw [ZbZ]; omega) (.inl ⟨by decide,rfl⟩) (.inl ⟨by decide,rfl⟩) (by unfold barB; cases (atS x (st ++ [p]) i u).looking <;> rfl) rfl hu hg (.load ew hi hA rfl) rfl q
theorem ZmY {v:Int} {e:Str} (hf:x.fin=none) (hw:rows[i]?=some (w,none)) (hv:w = "give" /\ e = "well" \/ w = "fail" /\ e = "fail") (hl:st.length < 24) (hu:u + 1=u') (hg:u' <= x.given):RunW A S0 G rows 1 ds (atS x (st ++ [v]) i u) ds (endS x st ((i:Int) + 1) u' e v) [.int (i:Int)]:=by
  rcases hv with ⟨rfl,rfl⟩|⟨rfl,rfl⟩
  . exact Zf1 (D:=rGive) hf hw rfl rfl (by rw [ZbZ]; omega) (by rw [ZbZ]; omega) (by rw [ZbZ]; omega) ⟨by decide,by decide,rfl,rfl⟩ rfl hu hg ⟨st,v,rfl,rfl⟩ rfl (.done (by intro z; cases z))
  . exact Zf1 (D:=rFail) hf hw rfl rfl (by rw [ZbZ]; omega) (by rw [ZbZ]; omega) (by rw [ZbZ]; omega) ⟨by decide,by decide,rfl,rfl⟩ rfl hu hg ⟨st,v,rfl,rfl⟩ rfl (.done (by intro z; cases z))
end
theorem Zkz (S:Nat->AcS) (a b:List Dd):runS S (a ++ b)=runS (runS S a) b:=by unfold runS; rw [List.foldl_append]
theorem ZcC (S:Nat->AcS) (a:Nat) (p o v:Int) (j:Nat):(doneS S (.save (a:Int) p o v) j).coin=(S j).coin/\∀ q,(doneS S (.save (a:Int) p o v) j).store q=if j=a/\q=p then v else (S j).store q:=by
  show (setS S _ _ j).coin=_/\∀ q,(setS S _ _ j).store q=_
  rw [Int.toNat_natCast]
  unfold setS
  by_cases e:j=a
  . rw [if_pos e,<- e]
    refine ⟨rfl,fun q=>?_⟩
    show putFn (S j).store p v q=_
    unfold putFn
    by_cases e2:q=p
    . rw [if_pos e2,if_pos ⟨rfl,e2⟩]
    . rw [if_neg e2,if_neg (fun z=>e2 z.2)]
  . rw [if_neg e]; exact ⟨rfl,fun q=>by rw [if_neg (fun z=>e z.1)]⟩
section
end
noncomputable def spNo:Sp:=fun _ _ _ _=>False
mutual
noncomputable def ZbM:Dt->Prop
  | .int _=>True
  | .str _=>True
  | .tup ds=>ds.length <= 100000/\PlainDs ds
  | .lst ds=>ds.length <= 100000/\PlainDs ds
  | _=>False
noncomputable def PlainDs:List Dt->Prop
  | []=>True
  | d :: r=>ZbM d/\PlainDs r
end
theorem PlainDs.at:∀ {ds:List Dt} {i:Nat} {d:Dt},PlainDs ds->ds[i]?=some d->ZbM d
  | [],_,_,_,e=>by simp at e
  | d0 :: r,i,d,h,e=>by
    unfold PlainDs at h
    cases i with
    | zero=>cases e; exact h.1
    | succ i=>exact PlainDs.at h.2 (by simpa using e)
theorem Zib:∀ {ds:List Dt} {i:Nat} {d:Dt},ds[i]?=some d->d.dep <= Dt.deps ds
  | [],_,_,e=>by simp at e
  | d0 :: r,i,d,e=>by
    unfold Dt.deps
    cases i with
    | zero=>cases e; exact Nat.le_max_left ..
    | succ i=>exact Nat.le_trans (Zib (by simpa using e)) (Nat.le_max_right ..)
noncomputable def Zf3 (K:PySem.W.Frag) (n:Nat):Sp:=fun vs H Q _=>∃ d v u,vs=[v,u]/\ZbM d/\d.dep <= n/\DV K H d v/\DV K H d u/\Q (.bl true) H
noncomputable def ZlD (K:PySem.W.Frag):Nat->Sp
  | 0=>spNo
  | n + 1=>Zf3 K n
section
variable {P:Program} {w:World} {K:PySem.W.Frag} {mg:Str->Option Value} {base:Heap}
theorem ZeR:FnScope ["_law_found", "_law_due", "_law_k"] ["_law_found", "_law_due"] (Zab Zde):=⟨rfl,rfl,rfl,by decide +kernel,rfl,by decide +kernel,by decide +kernel⟩
theorem Zfd  {n k:Nat}  (D:Zap K mg "_law_alike" Zde) (c_Lalike:Cal P w K mg base k "_law_alike" (ZlD K n)) (n_isinstance:mg "isinstance" = none) (n_int:mg "int" = none) (n_str:mg "str" = none) (n_tuple:mg "tuple" = none) (n_range:mg "range" = none) (n_len:mg "len" = none) (n_list:mg "list" = none) (n_bool:mg "bool" = none):Cal P w K mg base (k + 1) "_law_alike" (Zf3 K n):=by
  refine Zay (N:=["_law_found", "_law_due", "_law_k"]) (ps:=["_law_found", "_law_due"]) D ZeR (fun vs H Q E h=>?_) (fun _ _ _ _ _ _ us hl=>bd2 (R:=fun us=>bindArgs _ ⟨us,[]⟩=pure (List.zip _ us)) (fun _ _=>rfl) us hl) (fun f cdv A outer s H vs Q E hr h=>?_)
  . obtain ⟨d,v,u,rfl,_⟩:=h; rfl
  . obtain ⟨d,v,u,rfl,pl,dp,hv,hu,k⟩:=h
    refine ⟨_,(Zac (Zba (Zb3 (ZaG Zcq rfl n_isinstance PyProof.Rows.boot_isinstance (Zaa (pv 1) (Zaa (ZdN rfl n_int PyProof.Rows.boot_int) Zae)))) (Zad (Zaq (Zc5 (ZaG Zcq rfl n_isinstance PyProof.Rows.boot_isinstance (Zaa (pv 0) (Zaa (ZdN rfl n_int PyProof.Rows.boot_int) Zae))) (Zc5 (pe_not (ZaG Zcq rfl n_isinstance PyProof.Rows.boot_isinstance (Zaa (pv 0) (Zaa (ZdN rfl n_bool PyProof.Rows.boot_bool) Zae)))) (Zc4 (Zbs ZbJ (pv 0) (pv 1) (nomark _))))))) ZaE)
      (Zac (Zba (Zb3 (ZaG Zcq rfl n_isinstance PyProof.Rows.boot_isinstance (Zaa (pv 1) (Zaa (ZdN rfl n_str PyProof.Rows.boot_str) Zae)))) (Zad (Zaq (Zc5 (ZaG Zcq rfl n_isinstance PyProof.Rows.boot_isinstance (Zaa (pv 0) (Zaa (ZdN rfl n_str PyProof.Rows.boot_str) Zae))) (Zc4 (Zbs ZbJ (pv 0) (pv 1) (nomark _)))))) ZaE)
      (Zac (Zba (Zb3 (ZaG Zcq rfl n_isinstance PyProof.Rows.boot_isinstance (Zaa (pv 1) (Zaa (ZdN rfl n_tuple PyProof.Rows.boot_tuple) Zae)))) (Zad (Zba (Ze3 (Zb3 (ZaG Zcq rfl n_isinstance PyProof.Rows.boot_isinstance (Zaa (pv 0) (Zaa (ZdN rfl n_tuple PyProof.Rows.boot_tuple) Zae))))) (Zad (Zaq ZeU)) ZaE)) (Zad (Zba (Ze3 (Zb3 (ZaG Zcq rfl n_isinstance PyProof.Rows.boot_isinstance (Zaa (pv 0) (Zaa (ZdN rfl n_list PyProof.Rows.boot_list) Zae))))) (Zad (Zaq ZeU)) ZaE)))
      (Zac (Zba (ZaC Zge (ZaG Zb7 rfl n_len PySem.boot_len (Zaa (pv 0) Zae)) (ZaG Zb7 rfl n_len PySem.boot_len (Zaa (pv 1) Zae)) (nomark _)) (Zad (Zaq ZeU)) ZaE)
      (Zac (Zea PassesOwn.never rfl (Zc6 rfl n_range (Zaa (ZaG Zb7 rfl n_len PySem.boot_len (Zaa (pv 1) Zae)) Zae)) (Zbr (i:=2) ZeR.nd rfl (by first|exact Or.inl rfl|exact Or.inr rfl))
      (Zad (Zba (Ze3 (Zb3 (ZaF c_Lalike hr rfl (Zaa (ZaI ZlM (pv 0) (pv 2) (fun _ _=>rfl)) (Zaa (ZaI ZlM (pv 1) (pv 2) (fun _ _=>rfl)) Zae))))) (Zad (Zaq ZeU)) ZaE)))
      (Zad (Zaq ZeU))))))),?_⟩
    walk_at "nx"
    cases d with
    | non=>unfold ZbM at pl; exact pl.elim
    | bl b=>unfold ZbM at pl; exact pl.elim
    | int i =>
      unfold DV at hv hu
      subst hv hu
      repeat walk_at "rdz"
      all_goals first|exact k|exact ZbR (by simp) k
    | str z =>
      unfold DV at hv hu
      subst hv hu
      repeat walk_at "rdz"
      all_goals first|exact k|exact ZbR (by simp) k
    | lst ds =>
      unfold DV at hv hu
      obtain ⟨a1,xs,rfl,h1,d1⟩:=hv
      obtain ⟨a2,ys,rfl,h2,d2⟩:=hu
      unfold ZbM at pl
      unfold Dt.dep at dp
      have l1:=d1.length
      have l2:=d2.length
      obtain ⟨n,rfl⟩:∃ m,n=m + 1:=⟨n - 1,by omega⟩
      repeat walk_at "rdz"
      all_goals try (exfalso; omega)
      refine ZdO (Zdb ?_)
      repeat walk_at "rdz"
      refine ⟨_,rfl,by omega,by omega,?_⟩
      have en:((ys.length:Nat):Int).toNat=ds.length:=by omega
      rw [en]
      refine Zc7 (fun i σ' H'=>H'=H/\∃ z,σ'=[some (.ref a1),some (.ref a2),z]) ⟨rfl,_,rfl⟩ ?_ ?_
      . rintro i σ' H' hi ⟨rfl,z,rfl⟩
        have e1:=List.getElem?_eq_getElem hi
        have e2:=List.getElem?_eq_getElem (l:=xs) (i:=i) (by omega)
        have e3:=List.getElem?_eq_getElem (l:=ys) (i:=i) (by omega)
        repeat walk_at "rdz"
        refine .inl (Za8 h1 (ZbO e2 (by omega)) ?_)
        repeat walk_at "rdz"
        refine .inl (Za8 h2 (ZbO e3 (by omega)) ?_)
        repeat walk_at "rdz"
        refine ⟨_,_,_,rfl,pl.2.at e1,Nat.le_trans (Zib e1) (by omega),d1.get e1 e2,d2.get e1 e3,?_⟩
        repeat walk_at "rdz"
        exact ⟨rfl,_,rfl⟩
      . rintro σ' H' ⟨rfl,z,rfl⟩
        repeat walk_at "rdz"
        exact k
    | tup ds =>
      unfold DV at hv hu
      obtain ⟨a1,xs,rfl,h1,d1⟩:=hv
      obtain ⟨a2,ys,rfl,h2,d2⟩:=hu
      unfold ZbM at pl
      unfold Dt.dep at dp
      have l1:=d1.length
      have l2:=d2.length
      obtain ⟨n,rfl⟩:∃ m,n=m + 1:=⟨n - 1,by omega⟩
      repeat walk_at "rdz"
      all_goals try (exfalso; omega)
      refine ZdO (Zdb ?_)
      repeat walk_at "rdz"
      refine ⟨_,rfl,by omega,by omega,?_⟩
      have en:((ys.length:Nat):Int).toNat=ds.length:=by omega
      rw [en]
      refine Zc7 (fun i σ' H'=>H'=H/\∃ z,σ'=[some (.ref a1),some (.ref a2),z]) ⟨rfl,_,rfl⟩ ?_ ?_
      . rintro i σ' H' hi ⟨rfl,z,rfl⟩
        have e1:=List.getElem?_eq_getElem hi
        have e2:=List.getElem?_eq_getElem (l:=xs) (i:=i) (by omega)
        have e3:=List.getElem?_eq_getElem (l:=ys) (i:=i) (by omega)
        repeat walk_at "rdz"
        refine .inr (.inl (Zek h1 (ZbO e2 (by omega)) ?_))
        repeat walk_at "rdz"
        refine .inr (.inl (Zek h2 (ZbO e3 (by omega)) ?_))
        repeat walk_at "rdz"
        refine ⟨_,_,_,rfl,pl.2.at e1,Nat.le_trans (Zib e1) (by omega),d1.get e1 e2,d2.get e1 e3,?_⟩
        repeat walk_at "rdz"
        exact ⟨rfl,_,rfl⟩
      . rintro σ' H' ⟨rfl,z,rfl⟩
        repeat walk_at "rdz"
        exact k
theorem ZlE (D:Zap K mg "_law_alike" Zde):Cal P w K mg base 1 "_law_alike" spNo :=
  Zay (N:=["_law_found", "_law_due", "_law_k"]) (ps:=["_law_found", "_law_due"]) D ZeR (fun _ _ _ _ h=>h.elim) (fun _ _ _ _ _ _ us hl=>bd2 (R:=fun us=>bindArgs _ ⟨us,[]⟩=pure (List.zip _ us)) (fun _ _=>rfl) us hl) (fun _ _ _ _ _ _ _ _ _ _ h=>h.elim)
theorem Zg3 (D:Zap K mg "_law_alike" Zde) (n_isinstance:mg "isinstance" = none) (n_int:mg "int" = none) (n_str:mg "str" = none) (n_tuple:mg "tuple" = none) (n_range:mg "range" = none) (n_len:mg "len" = none) (n_list:mg "list" = none) (n_bool:mg "bool" = none):∀ n,Cal P w K mg base (n + 2) "_law_alike" (Zf3 K n)
  | 0=>Zfd (n:=0) (k:=1) D (ZlE D) n_isinstance n_int n_str n_tuple n_range n_len n_list n_bool
  | n + 1=>Zfd (n:=n + 1) (k:=n + 2) D (Zg3 D n_isinstance n_int n_str n_tuple n_range n_len n_list n_bool n) n_isinstance n_int n_str n_tuple n_range n_len n_list n_bool
end
noncomputable def Has (H:Hp):List (Addr × HO)->Prop
  | []=>True
  | p :: r=>H p.1=some p.2/\Has H r
theorem Has.same {H H':Hp} (s:Same H H'):∀ {fs:List (Addr × HO)},Has H fs->Has H' fs
  | [],_=>trivial
  | _ :: _,h=>⟨s _ _ h.1,Has.same s h.2⟩
structure Gw (H0 H:Hp) (fs:List (Addr × HO)):Prop where
  s:Same H0 H
  h:Has H fs
section
variable {H0 H H':Hp} {fs:List (Addr × HO)} {p:Addr} {o:HO}
theorem Gw.start:Gw H H []:=⟨Same.refl _,trivial⟩
theorem Gw.new (g:Gw H0 H fs) (n:H p=none):Gw H0 (upd H p o) ((p,o) :: fs):=⟨g.s.newT n,Zag,g.h.same (Same.new n)⟩
theorem Gw.newE (g:Gw H0 H fs) (n:H p=none) (e:upd H p o=H'):Gw H0 H' ((p,o) :: fs):=by rw [<- e]; exact g.new n
theorem Gw.same (g:Gw H0 H fs) (s:Same H H'):Gw H0 H' fs:=⟨g.s.trans s,g.h.same s⟩
theorem Gw.add (g:Gw H0 H fs) (e:H p=some o):Gw H0 H ((p,o) :: fs):=⟨g.s,e,g.h⟩
theorem Gw.fresh (g:Gw H0 H fs) (n:H p=none):H0 p=none:=g.s.fresh n
end
noncomputable abbrev rw0 (w:Str):Row:=(w,none)
noncomputable abbrev rw1 (w:Str) (k:Int):Row:=(w,some k)
noncomputable def numF (c:Int):Int:=if c % 3=0 then 0 else if c % 3=1 then 1 + c / 3 % 9 else c / 3 % 18446744073709551616
noncomputable def pl3 (p0 p1 p2 c:Int):Int:=if c / 2 % 3=0 then p0 else if c / 2 % 3=1 then p1 else p2
noncomputable def rowsOf (P:Int->Int) (c:Int):List Row:=if c % 2=0 then [rw1 "push" (P c),rw1 "push" (numF (c / 6)),rw0 "save"] else [rw1 "push" (P c),rw0 "load", rw0 "note"]
noncomputable def deedOf (who:Int) (P f:Int->Int) (c:Int):Dd:=if c % 2=0 then .save who (P c) (f (P c)) (numF (c / 6)) else .note who (f (P c))
noncomputable def costOf (P f:Int->Int) (c:Int):Int:=if c % 2=0 then (if numF (c / 6) ≠ 0/\f (P c)=0 then 14 else 7) else 8
noncomputable def nextF (P f:Int->Int) (c:Int):Int->Int:=if c % 2=0 then putFn f (P c) (numF (c / 6)) else f
noncomputable def wRows (P:Int->Int):List Int->List Row
  | []=>[]
  | c :: cs=>rowsOf P c ++ wRows P cs
noncomputable def wDeeds (who:Int) (P:Int->Int):(Int->Int)->List Int->List Dd
  | _,[]=>[]
  | f,c :: cs=>deedOf who P f c :: wDeeds who P (nextF P f c) cs
noncomputable def wCost (P:Int->Int):(Int->Int)->List Int->Int
  | _,[]=>0
  | f,c :: cs=>costOf P f c + wCost P (nextF P f c) cs
noncomputable def wF (P:Int->Int):(Int->Int)->List Int->Int->Int
  | f,[]=>f
  | f,c :: cs=>wF P (nextF P f c) cs
noncomputable def ZbC (who:Int) (P f:Int->Int) (i:Nat) (c:Int):List Dt:=[.int (i:Int),.int ((i + 1:Nat):Int),.int ((i + 2:Nat):Int),tellD (deedOf who P f c)]
noncomputable def wSteps (who:Int) (P:Int->Int):(Int->Int)->Nat->List Int->List Dt
  | _,_,[]=>[]
  | f,i,c :: cs=>ZbC who P f i c ++ wSteps who P (nextF P f c) (i + 3) cs
theorem Zb8 (P:Int->Int) (c:Int):(rowsOf P c).length=3:=by unfold rowsOf; split <;> rfl
theorem Zdn (P:Int->Int):∀ cs,(wRows P cs).length=3 * cs.length
  | []=>rfl
  | c :: cs=>by unfold wRows; rw [List.length_append,Zb8,Zdn P cs,List.length_cons]; omega
theorem ZiK (P:Int->Int) (c:Int):∀ cs,wRows P (cs ++ [c])=wRows P cs ++ rowsOf P c
  | []=>by show rowsOf P c ++ []=[] ++ rowsOf P c; simp
  | d :: cs=>by show rowsOf P d ++ wRows P (cs ++ [c])=(rowsOf P d ++ wRows P cs) ++ _; rw [ZiK P c cs,List.append_assoc]
theorem wF_sn (P:Int->Int) (c:Int):∀ cs f,wF P f (cs ++ [c])=nextF P (wF P f cs) c
  | [],_=>rfl
  | _ :: cs,f=>wF_sn P c cs _
theorem Zg4 (who:Int) (P:Int->Int) (c:Int):∀ cs f,wDeeds who P f (cs ++ [c])=wDeeds who P f cs ++ [deedOf who P (wF P f cs) c]
  | [],_=>rfl
  | d :: cs,f=>congrArg (deedOf who P f d :: ·) (Zg4 who P c cs _)
theorem ZbE (who:Int) (P:Int->Int):∀ cs f,(wDeeds who P f cs).length=cs.length
  | [],_=>rfl
  | _ :: cs,_=>congrArg (· + 1) (ZbE who P cs _)
theorem ZiL (P:Int->Int) (c:Int):∀ cs f,wCost P f (cs ++ [c])=wCost P f cs + costOf P (wF P f cs) c
  | [],f=>by show costOf P f c + 0=0 + costOf P f c; omega
  | d :: cs,f=>by show costOf P f d + wCost P _ (cs ++ [c])=costOf P f d + wCost P _ cs + costOf P (wF P _ cs) c; rw [ZiL P c cs _]; omega
theorem ZkA (who:Int) (P:Int->Int) (c:Int):∀ cs f i,wSteps who P f i (cs ++ [c])=wSteps who P f i cs ++ ZbC who P (wF P f cs) (i + 3 * cs.length) c
  | [],f,i=>by show ZbC who P f i c ++ []=[] ++ ZbC who P f (i + 0) c; rw [List.append_nil]; rfl
  | d :: cs,f,i=>by
    show ZbC who P f i d ++ wSteps who P _ (i + 3) (cs ++ [c])=(ZbC who P f i d ++ wSteps who P _ (i + 3) cs) ++ ZbC who P (wF P _ cs) (i + 3 * (cs.length + 1)) c
    rw [ZkA who P c cs _ _,List.append_assoc,show i + 3 + 3 * cs.length=i + 3 * (cs.length + 1) by omega]
theorem Zfe (who:Int) (P:Int->Int):∀ cs f i,(wSteps who P f i cs).length=4 * cs.length
  | [],_,_=>rfl
  | d :: cs,f,i=>by show (ZbC who P f i d ++ wSteps who P _ (i + 3) cs).length=_; rw [List.length_append,Zfe who P cs _ _,List.length_cons]; show 4 + _=_; omega
theorem ZiM (P f:Int->Int) (c:Int):0 <= costOf P f c/\costOf P f c <= 14:=by
  unfold costOf
  split
  . split <;> exact ⟨by decide,by decide⟩
  . exact ⟨by decide,by decide⟩
theorem Zic (P:Int->Int):∀ cs f,0 <= wCost P f cs/\wCost P f cs <= 14 * (cs.length:Int)
  | [],_=>⟨Int.le_refl 0,Int.le_refl 0⟩
  | d :: cs,f=>by
    have h1:=ZiM P f d
    have h2:=Zic P cs (nextF P f d)
    show 0 <= costOf P f d + wCost P (nextF P f d) cs/\costOf P f d + wCost P (nextF P f d) cs <= 14 * ((cs.length + 1:Nat):Int)
    omega
theorem Zg5 (S:Nat->AcS) (wi:Nat) (P f:Int->Int) (c:Int) (j:Nat):(doneS S (deedOf (wi:Int) P f c) j).coin=(S j).coin/\(j ≠ wi->∀ q,(doneS S (deedOf (wi:Int) P f c) j).store q=(S j).store q)/\((∀ q,(S wi).store q=f q)->∀ q,(doneS S (deedOf (wi:Int) P f c) wi).store q=nextF P f c q):=by
  unfold deedOf nextF
  by_cases h:c % 2=0
  . simp only [if_pos h]
    refine ⟨(ZcC S wi _ _ _ j).1,fun n q=>?_,fun e q=>?_⟩
    . rw [(ZcC S wi _ _ _ j).2,if_neg (fun z=>n z.1)]
    . rw [(ZcC S wi _ _ _ wi).2]
      unfold putFn
      by_cases e2:q=P c
      . rw [if_pos ⟨rfl,e2⟩,if_pos e2]
      . rw [if_neg (fun z=>e2 z.2),if_neg e2]; exact e q
  . simp only [if_neg h]
    exact ⟨rfl,fun _ _=>rfl,fun e q=>e q⟩
theorem Zff (wi:Nat) (P:Int->Int):∀ cs (S:Nat->AcS) (f:Int->Int) (j:Nat),(runS S (wDeeds (wi:Int) P f cs) j).coin=(S j).coin/\(j ≠ wi->∀ q,(runS S (wDeeds (wi:Int) P f cs) j).store q=(S j).store q)/\((∀ q,(S wi).store q=f q)->∀ q,(runS S (wDeeds (wi:Int) P f cs) wi).store q=wF P f cs q)
  | [],S,f,j=>⟨rfl,fun _ _=>rfl,fun e q=>e q⟩
  | c :: cs,S,f,j=>by
    have h1:=Zg5 S wi P f c
    have h2:=Zff wi P cs (doneS S (deedOf (wi:Int) P f c)) (nextF P f c) j
    show (runS (doneS S (deedOf (wi:Int) P f c)) (wDeeds (wi:Int) P (nextF P f c) cs) j).coin=_/\_
    refine ⟨h2.1.trans (h1 j).1,fun n q=>(h2.2.1 n q).trans ((h1 j).2.1 n q),fun e q=>h2.2.2 ((h1 wi).2.2 e) q⟩
section
variable {A:Nat->Option AcI} {S0:Nat->AcS} {G:GR} {rows:List Row} {n wi:Nat} {ds2:List Dd} {x y:FrS} {s:List Dt} {ac:AcI} {P:Int->Int}
theorem run_w (hf:x.fin=none) (hk:x.looking=false) (ew:x.who=(wi:Int)) (hi:wi < 16) (hA:A wi=some ac):∀ (cs:List Int) (i:Nat) (u:Int) (ds:List Dd) (f:Int->Int),(∀ j,j < (wRows P cs).length->rows[i + j]?=(wRows P cs)[j]?)->(∀ p,(runS S0 ds wi).store p=f p)->u + wCost P f cs <= x.given->RunW A S0 G rows n (ds ++ wDeeds (wi:Int) P f cs) (atS x [] ((i + (wRows P cs).length:Nat):Int) (u + wCost P f cs)) ds2 y s->RunW A S0 G rows (3 * cs.length + n) ds (atS x [] (i:Int) u) ds2 y (wSteps (wi:Int) P f i cs ++ s)
  | [],i,u,ds,f,_,_,_,q=>by
    have e1:ds ++ wDeeds (wi:Int) P f []=ds:=List.append_nil _
    have e2:u + wCost P f []=u:=Int.add_zero u
    rw [e1,e2] at q
    show RunW A S0 G rows (0 + n) _ _ _ _ _
    rw [Nat.zero_add]
    exact q
  | c :: cs,i,u,ds,f,hr,hs,hg,q=>by
    have cb:=Zic P cs (nextF P f c)
    have hl3:(wRows P (c :: cs)).length=3 + (wRows P cs).length:=by show (rowsOf P c ++ wRows P cs).length=_; rw [List.length_append,Zb8]
    have hr2:∀ j,j < (wRows P cs).length->rows[i + 3 + j]?=(wRows P cs)[j]?:=fun j hj=>by
      have h:=hr (3 + j) (by rw [hl3]; omega)
      rw [Nat.add_assoc,h]
      show (rowsOf P c ++ wRows P cs)[3 + j]?=_
      rw [List.getElem?_append_right (by rw [Zb8]; omega),Zb8,Nat.add_sub_cancel_left]
    have hr0:∀ j,j < 3->rows[i + j]?=(rowsOf P c)[j]?:=fun j hj=>by
      have h:=hr j (by rw [hl3]; omega)
      rw [h]
      show (rowsOf P c ++ wRows P cs)[j]?=_
      rw [List.getElem?_append_left (by rw [Zb8]; exact hj)]
    have hd:∀ p,(runS S0 (ds ++ [deedOf (wi:Int) P f c]) wi).store p=nextF P f c p:=fun p=>by
      rw [Zkz]; exact (Zg5 (runS S0 ds) wi P f c wi).2.2 hs p
    have hg2:u + costOf P f c + wCost P (nextF P f c) cs <= x.given:=by
      have:u + (costOf P f c + wCost P (nextF P f c) cs) <= x.given:=hg
      omega
    have q2:=run_w hf hk ew hi hA cs (i + 3) (u + costOf P f c) (ds ++ [deedOf (wi:Int) P f c]) (nextF P f c) hr2 hd hg2 (by
      rw [List.append_assoc,Int.add_assoc,show i + 3 + (wRows P cs).length=i + (wRows P (c :: cs)).length by rw [hl3]; omega]
      exact q)
    have e:3 * (c :: cs).length + n=(3 * cs.length + n) + 3:=by rw [List.length_cons]; omega
    rw [e]
    have c0:=(ZiM P f c).1
    show RunW A S0 G rows ((3 * cs.length + n) + 1 + 1 + 1) ds (atS x [] (i:Int) u) ds2 y ((ZbC (wi:Int) P f i c ++ wSteps (wi:Int) P (nextF P f c) (i + 3) cs) ++ s)
    rw [List.append_assoc]
    generalize wSteps (wi:Int) P (nextF P f c) (i + 3) cs ++ s=sr at q2 |-
    generalize 3 * cs.length + n=nr at q2 |-
    clear hr q hl3 hr2
    unfold rowsOf at hr0
    unfold ZbC
    unfold deedOf costOf at *
    by_cases hc:c % 2=0
    . simp only [if_pos hc] at *
      obtain ⟨co,hco⟩:∃ z:Int,(if numF (c / 6) ≠ 0/\f (P c)=0 then (14:Int) else 7)=z:=⟨_,rfl⟩
      have h5:(if numF (c / 6) ≠ 0/\f (P c)=0 then (12:Int) else 5) + 2=co:=by rw [<- hco]; split <;> rfl
      rw [hco] at q2 hg2 c0
      refine Zf2 (k:=P c) (u':=u + 1) hf (hr0 0 (by decide)) (by show 0 < 24; decide) rfl (by omega) ?_
      refine Zf2 (k:=numF (c / 6)) (u':=u + 2) hf (hr0 1 (by decide)) (by show 1 < 24; decide) (by omega) (by omega) ?_
      refine ZmW (st:=[]) (p:=P c) (v:=numF (c / 6)) (o:=f (P c)) (c:=if numF (c / 6) ≠ 0/\f (P c)=0 then (12:Int) else 5) (u':=u + co) hf hk ew hi (hs (P c)) hA (hr0 2 (by decide)) (by show 0 < 23; decide) rfl (by omega) (by omega) ?_
      exact q2
    . simp only [if_neg hc] at *
      refine Zf2 (k:=P c) (u':=u + 1) hf (hr0 0 (by decide)) (by show 0 < 24; decide) rfl (by omega) ?_
      refine ZmX (st:=[]) (p:=P c) (u':=u + 4) hf ew hi hA (hr0 1 (by decide)) (by show 0 < 24; decide) (by omega) (by omega) ?_
      rw [hs (P c)]
      have q3:=ZmV (A:=A) (S0:=S0) (G:=G) (rows:=rows) (st:=[]) (v:=f (P c)) (u:=u + 4) (u':=u + 8) (i:=i + 2) (s:=sr) (y:=y) (ds2:=ds2) (n:=nr) (ds:=ds) (x:=x) hf hk (hr0 2 (by decide)) (by show 0 < 24; decide) (by omega) (by omega) (by rw [ew]; exact q2)
      rw [ew] at q3
      exact q3
end
section
end
noncomputable abbrev Zbl:Stmt:=ZdP
noncomputable abbrev Zbm:Stmt:=ZdP
noncomputable def worthD:Dd->Int
  | .save _ _ o n=>if o ≠ 0/\n=0 then 4 else 0
  | _=>0
noncomputable def Zb2 (CD:Addr) (ok:Dd->Prop):Sp:=fun vs H Q _=>∃ (a dx:Addr) (d:Dd),vs=[.ref a]/\ok d/\H a=some (.ins CD dx (fldD d))/\Q (.int (worthD d)) H
noncomputable def TWo (cS cM cN:Addr):Addr->Sp->Prop:=T3 cS cM cN (Zb2 cS isSave) (Zb2 cM isMove) (Zb2 cN isNote)
theorem two_of (cS cM cN:Addr) (d:Dd):TWo cS cM cN (clsD cS cM cN d) (Zb2 (clsD cS cM cN d) (okOf d)):=by
  cases d with
  | save=>exact .inl ⟨rfl,rfl⟩
  | move=>exact .inr (.inl ⟨rfl,rfl⟩)
  | note=>exact .inr (.inr ⟨rfl,rfl⟩)
theorem ZkB (d:Dd):(fldD d).lookup (Str.ofString "worth")=none:=by cases d <;> rfl
noncomputable def ZiN (cJ cS cM cN:Addr):Sp:=fun vs H Q _=>∃ (j dx R L:Addr) (A:Nat->Option AcI) (es:List DI),vs=[.ref j]/\Jr cJ cS cM cN H j dx R L A es/\es.length <= 1000/\∀ H',Same H H'->Q (.int ((es.map fun e=>worthD e.d).sum)) H'
noncomputable def Zid:Sp:=fun vs H Q _=>∃ c:Int,vs=[.int c]/\Q (.int (numF c)) H
theorem p64L:(2:Int) ^ Int.toNat 64=18446744073709551616:=by decide
noncomputable def DictP (H:Hp) (D:Addr) (f:Int->Int) (m:Nat) (ps:List Int):Prop:=∃ kvs,H D=some (.dK kvs)/\kvs.length <= m/\∀ p ∈ ps,valV kvs (Sum.inl p:Key)=some (.int (f p))
theorem DictP.put {H:Hp} {D:Addr} {kvs:List (Key × V)} {f:Int->Int} {m:Nat} {ps:List Int} (hl:kvs.length <= m) (h:∀ p ∈ ps,valV kvs (Sum.inl p:Key)=some (.int (f p))) (i v:Int):DictP (upd H D (.dK (putK kvs (Sum.inl i) (.int v)))) D (putFn f i v) (m + 1) ps:=by
  refine ⟨_,Zag,Nat.le_trans (ZbQ ..) (Nat.add_le_add_right hl 1),fun p hp=>?_⟩
  rw [Zfl]
  unfold putFn
  by_cases e:p=i
  . rw [if_pos (by rw [e]),if_pos e]
  . rw [if_neg (fun z=>e (Sum.inl.inj z)),if_neg e]
    exact h p hp
theorem DictP.le {H:Hp} {D:Addr} {f:Int->Int} {m m':Nat} {ps:List Int} (h:DictP H D f m ps) (e:m <= m'):DictP H D f m' ps:=let ⟨kvs,a,b,c⟩:=h; ⟨kvs,a,Nat.le_trans b e,c⟩
theorem pl3_at (p0 p1 p2 c:Int):atI [V.int p0,.int p1,.int p2] (c / 2 % 3)=some (.int (pl3 p0 p1 p2 c)):=by
  unfold pl3
  rcases (by omega:c / 2 % 3=0\/c / 2 % 3=1\/c / 2 % 3=2) with h|h|h <;> rw [h] <;> rfl
theorem pl3_in (p0 p1 p2 c:Int):pl3 p0 p1 p2 c ∈ [p0,p1,p2]:=by
  unfold pl3
  split
  . simp
  . split <;> simp
noncomputable def ssV:Nat->List Addr->List V
  | _,[]=>[]
  | i,t :: ts=>[.int (i:Int),.int ((i + 1:Nat):Int),.int ((i + 2:Nat):Int),.ref t] ++ ssV (i + 3) ts
theorem Zl3 (t:Addr):∀ (ts:List Addr) (i:Nat),ssV i (ts ++ [t])=ssV i ts ++ [.int ((i + 3 * ts.length:Nat):Int),.int ((i + 3 * ts.length + 1:Nat):Int),.int ((i + 3 * ts.length + 2:Nat):Int),.ref t]
  | [],i=>rfl
  | a :: ts,i=>by
    show [_,_,_,_] ++ ssV (i + 3) (ts ++ [t])=([_,_,_,_] ++ ssV (i + 3) ts) ++ _
    rw [Zl3 t ts (i + 3),List.append_assoc,show i + 3 + 3 * ts.length=i + 3 * (ts.length + 1) by omega]; rfl
theorem Zie:∀ (ts:List Addr) (i:Nat),(ssV i ts).length=4 * ts.length
  | [],_=>rfl
  | _ :: ts,i=>by
    show ([_,_,_,_] ++ ssV (i + 3) ts).length=4 * (ts.length + 1)
    rw [List.length_append,Zie ts (i + 3)]
    show 4 + _=_
    omega
theorem TupsAt.tail {H:Hp} {d:Dd} {ds:List Dd} {t:Addr} {ts:List Addr} (h:TupsAt H (d :: ds) (t :: ts)):H t=some (.tup (tellV d))/\TupsAt H ds ts:=⟨h.2 0 d t rfl rfl,Nat.succ.inj h.1,fun n e u a b=>h.2 (n + 1) e u a b⟩
theorem ss_dv {K:PySem.W.Frag} {H:Hp} (who:Int) (P:Int->Int):∀ (cs:List Int) (f:Int->Int) (i:Nat) (ts:List Addr),TupsAt H (wDeeds who P f cs) ts->DVs K H (wSteps who P f i cs) (ssV i ts)
  | [],f,i,[],_=>Zbq
  | [],f,i,_ :: _,h=>by have:=h.1; simp [wDeeds] at this
  | c :: cs,f,i,[],h=>by have:=h.1; simp [wDeeds] at this
  | c :: cs,f,i,t :: ts,h=>Zf0 (Zao ZaQ (Zao ZaQ (Zao ZaQ (Zao (Zeo (ZbS h.tail.1) (ZfL _)) Zbq)))) (ss_dv who P cs _ _ ts h.tail.2)
theorem u34a (U nn o:Int) (h:o=0):U + 7 + 7 * (if (!decide (nn=0))=true then (1:Int) else 0)=U + (if nn ≠ 0/\o=0 then 14 else 7):=by
  by_cases h4:nn=0
  . simp [h4]
  . simp [h4,h]; omega
theorem u34b (U nn o:Int) (h:¬ o=0):U + 7 + 7 * (if false=true then (1:Int) else 0)=U + (if nn ≠ 0/\o=0 then 14 else 7):=by simp [h]
theorem Zdo {S:V->Prop} {H:Hp} {D:Addr} {kvs:List (Key × V)} {i:Int} {v:V} (h:H D=some (.dK kvs)) (e:valV kvs (Sum.inl i:Key)=some v) (q:S v):∃ a' v',V.ref D=.ref a'/\DGet H a' (.int i) (some v')/\S v':=⟨D,v,rfl,by rw [<- e]; exact DGet.k (k:=Sum.inl i) h,q⟩
noncomputable def spWent (K:PySem.W.Frag):Sp:=fun vs H Q _=>∃ (C PA D:Addr) (cs:List Int) (who p0 p1 p2:Int) (f:Int->Int),vs=[.ref C,.int who,.ref PA,.ref D]/\H C=some (.lst (cs.map V.int))/\cs.length <= 19/\H PA=some (.lst [.int p0,.int p1,.int p2])/\DictP H D f 10 [p0,p1,p2] /\
  ∀ (t RL SL DL:Addr) (xs:List V) (ts:List Addr) (H':Hp),KeptX (·=D) H H'->H' t=some (.tup [.ref RL,.ref SL,.ref DL,.int (wCost (pl3 p0 p1 p2) f cs)])->H' RL=some (.lst xs)->RowsAt K H' (wRows (pl3 p0 p1 p2) cs) xs->H' SL=some (.lst (ssV 0 ts))->H' DL=some (.lst (ts.map V.ref))->TupsAt H' (wDeeds who (pl3 p0 p1 p2) f cs) ts->DictP H' D (wF (pl3 p0 p1 p2) f cs) 40 [p0,p1,p2]->Q (.ref t) H'
section
variable {P:Program} {w:World} {K:PySem.W.Frag} {mg:Str->Option Value} {base:Heap}
theorem Zf4:FnScope ["self"] ["self"] (Zab Zbi):=⟨rfl,rfl,rfl,by decide +kernel,rfl,by decide +kernel,by decide +kernel⟩
theorem Zf5   {cSave:Addr} (D:Zal K cSave "worth" "Save.worth" Zbi) (tSave:T_Save K mg cSave) (g_FREED:ZaU mg "FREED" (.int 4)):MCal P w K mg base 1 cSave "worth" (Zb2 cSave isSave):=by
  refine ZaS (N:=["self"]) (ps:=["self"]) D tSave.k.cl Zf4 (fun vs H Q E h=>?_) (fun _ _ _ _ _ _ us hl=>bd1 (R:=fun us=>bindArgs _ ⟨us,[]⟩=pure (List.zip _ us)) (fun _=>rfl) us hl) (fun f cdv A outer s H vs Q E hr h=>?_)
  . obtain ⟨a,dx,d,rfl,_⟩:=h; rfl
  . obtain ⟨a,dx,d,rfl,⟨s0,p,o,n,rfl⟩,ha,k⟩:=h
    refine ⟨_,(Zac (Zba (PW.pt (Zjo (ZaC Zge (Zak (pv 0) rfl) Zaf (nomark _)) (Zhb (ZaC ZbJ (Zak (pv 0) rfl) Zaf (nomark _))))) (Zad (Zaq (ZbH rfl g_FREED))) ZaE)
      (Zad (Zaq Zaf))),?_⟩
    walk_at "nx"
    have k:Q (.int (if o ≠ 0/\n=0 then 4 else 0)) H:=k
    repeat walk_at "rdk"
    refine Zai ha tSave.k.cl tSave.n_old rfl ?_
    repeat' walk_at "rdk"
    . refine Zai ha tSave.k.cl tSave.n_new rfl ?_
      repeat' walk_at "rdk"
      . rw [if_pos ⟨by assumption,by assumption⟩] at k; exact k
      . rename_i h1 h2; rw [if_neg (fun z=>h2 z.2)] at k; exact k
    . rename_i h1; rw [if_neg (fun z=>z.1 h1)] at k; exact k
theorem Zf6:FnScope ["self"] ["self"] (Zab Zbl):=⟨rfl,rfl,rfl,by decide +kernel,rfl,by decide +kernel,by decide +kernel⟩
theorem Zf7   {cMove:Addr} (D:Zal K cMove "worth" "Deed.worth" Zbl) (tMove:T_Move K mg cMove):MCal P w K mg base 1 cMove "worth" (Zb2 cMove isMove):=by
  refine ZaS (N:=["self"]) (ps:=["self"]) D tMove.k.cl Zf6 (fun vs H Q E h=>?_) (fun _ _ _ _ _ _ us hl=>bd1 (R:=fun us=>bindArgs _ ⟨us,[]⟩=pure (List.zip _ us)) (fun _=>rfl) us hl) (fun f cdv A outer s H vs Q E hr h=>?_)
  . obtain ⟨a,dx,d,rfl,_⟩:=h; rfl
  . obtain ⟨a,dx,d,rfl,⟨s0,t0,kk,rfl⟩,ha,k⟩:=h
    refine ⟨_,(Zad (Zaq Zaf)),?_⟩
    walk_at "nx"
    repeat walk_at "rdk"
    exact k
theorem Zf8:FnScope ["self"] ["self"] (Zab Zbm):=⟨rfl,rfl,rfl,by decide +kernel,rfl,by decide +kernel,by decide +kernel⟩
theorem Zf9   {cNote:Addr} (D:Zal K cNote "worth" "Deed.worth" Zbm) (tNote:T_Note K mg cNote):MCal P w K mg base 1 cNote "worth" (Zb2 cNote isNote):=by
  refine ZaS (N:=["self"]) (ps:=["self"]) D tNote.k.cl Zf8 (fun vs H Q E h=>?_) (fun _ _ _ _ _ _ us hl=>bd1 (R:=fun us=>bindArgs _ ⟨us,[]⟩=pure (List.zip _ us)) (fun _=>rfl) us hl) (fun f cdv A outer s H vs Q E hr h=>?_)
  . obtain ⟨a,dx,d,rfl,_⟩:=h; rfl
  . obtain ⟨a,dx,d,rfl,⟨s0,n,rfl⟩,ha,k⟩:=h
    refine ⟨_,(Zad (Zaq Zaf)),?_⟩
    walk_at "nx"
    repeat walk_at "rdk"
    exact k
theorem ZdZ:FnScope ["self"] ["self"] (Zab ZaT):=⟨rfl,rfl,rfl,by decide +kernel,rfl,by decide +kernel,by decide +kernel⟩
theorem Zd0   {cJournal:Addr} {cSave:Addr} {cMove:Addr} {cNote:Addr} (D:Zal K cJournal "worth" "Journal.worth" ZaT) (tJournal:T_Journal K mg cJournal) (tSave:T_Save K mg cSave) (tMove:T_Move K mg cMove) (tNote:T_Note K mg cNote) (m_Save_worth:MCal P w K mg base 1 cSave "worth" (Zb2 cSave isSave)) (m_Move_worth:MCal P w K mg base 1 cMove "worth" (Zb2 cMove isMove)) (m_Note_worth:MCal P w K mg base 1 cNote "worth" (Zb2 cNote isNote)) (n_sum:mg "sum" = none):MCal P w K mg base 2 cJournal "worth" (ZiN cJournal cSave cMove cNote):=by
  refine ZaS (N:=["self"]) (ps:=["self"]) D tJournal.k.cl ZdZ (fun vs H Q E h=>?_) (fun _ _ _ _ _ _ us hl=>bd1 (R:=fun us=>bindArgs _ ⟨us,[]⟩=pure (List.zip _ us)) (fun _=>rfl) us hl) (fun f cdv A outer s H vs Q E hr h=>?_)
  . obtain ⟨j,dx,R,L,A,es,rfl,_⟩:=h; rfl
  . obtain ⟨j,dx,R,L,Ar,es,rfl,J,hel,k⟩:=h
    refine ⟨_,(Zad (Zaq (ZaG (ZlW rfl) rfl n_sum PyProof.Rows.boot_sum (Zaa (Zhn ["deed"] rfl (show CompScope (Zab ZaT) ["self"] ["deed"] _ from ⟨rfl,by decide +kernel,by decide +kernel,by decide +kernel,by decide +kernel,by decide +kernel⟩) (ZcP (Zak (pv 0) rfl)) (fun _ _ _ _ _=>(Zbr (i:=0) (show (["deed", "self"]:List Str).Nodup by decide +kernel) rfl (Or.inl rfl) (.inr rfl))) (fun _ _ _ _ _=>Zfq) (fun _ _ _ _ _=>(Zen (T:=TWo cSave cMove cNote) (Zkh m_Save_worth m_Move_worth m_Note_worth) (hr.mono (by decide)) (pv 0)))) Zae)))),?_⟩
    walk_at "nx"
    have big:(1001:Nat) <= sizeLine:=by decide
    repeat walk_at "rdk"
    refine Zfr (Zcc ?_)
    repeat walk_at "rdk"
    refine Zai J.ob tJournal.k.cl tJournal.n_deeds rfl ?_
    refine ⟨L,rfl,⟨_,Zaz J.li⟩,fun q hq=>?_⟩
    refine Zeq (fun i H'=>Same H H'/\H' q=some (.lst (((es.take i).map fun e=>worthD e.d).map V.int))) ⟨Same.new hq,Zag⟩ (fun i H' ⟨s,_⟩=>Zaz (s _ _ J.li)) ?_ ?_
    . rintro i x H' hx ⟨s1,hts⟩
      rw [List.getElem?_map] at hx
      obtain ⟨e,he,rfl⟩:=Option.map_eq_some_iff.mp hx
      obtain ⟨hi,ei⟩:=List.getElem?_eq_some_iff.mp he
      have de:=s1 _ _ (J.de e (List.mem_of_getElem? he)).1
      refine Zhq ?_
      refine iteT ?_
      refine Zdh ?_
      repeat walk_at "rdk"
      refine ⟨e.o,clsD cSave cMove cNote e.d,e.dx,fldD e.d,_,rfl,de,ZkB e.d,two_of cSave cMove cNote e.d,?_⟩
      repeat walk_at "rdk"
      refine ⟨e.o,e.dx,e.d,rfl,ZcA e.d,de,?_⟩
      refine ⟨_,hts,by rw [List.length_map,List.length_map,List.length_take]; omega,⟨s1.wr hq,?_⟩,_,rfl⟩
      rw [Zag,List.take_succ_eq_append_getElem hi,ei,List.map_append,List.map_append]
      rfl
    . rintro H' ⟨s1,hts⟩
      rw [List.length_map,List.take_length] at hts
      repeat walk_at "rdk"
      exact k H' s1
theorem Zjj:FnScope ["_law_cell"] ["_law_cell"] (Zab Zeu):=⟨rfl,rfl,rfl,by decide +kernel,rfl,by decide +kernel,by decide +kernel⟩
theorem Zjk    (D:Zap K mg "_law_number" Zeu):Cal P w K mg base 1 "_law_number" Zid:=by
  refine Zay (N:=["_law_cell"]) (ps:=["_law_cell"]) D Zjj (fun vs H Q E h=>?_) (fun _ _ _ _ _ _ us hl=>bd1 (R:=fun us=>bindArgs _ ⟨us,[]⟩=pure (List.zip _ us)) (fun _=>rfl) us hl) (fun f cdv A outer s H vs Q E hr h=>?_)
  . obtain ⟨c,rfl,_⟩:=h; rfl
  . obtain ⟨c,rfl,k⟩:=h
    refine ⟨_,(Zac (Zba (ZaC ZbJ (ZaH ZbD (pv 0) Zaf) Zaf (nomark _)) (Zad (Zaq Zaf)) ZaE)
      (Zac (Zba (ZaC ZbJ (ZaH ZbD (pv 0) Zaf) Zaf (nomark _)) (Zad (Zaq (ZaH ZbK Zaf (ZaH ZbD (ZaH ZbN (pv 0) Zaf) Zaf)))) ZaE)
      (Zad (Zaq (ZaH ZbD (ZaH ZbN (pv 0) Zaf) (ZaH Zjs Zaf Zaf)))))),?_⟩
    walk_at "nx"
    unfold numF at k
    repeat' walk_at "rdk"
    . rw [if_pos (by assumption)] at k; exact k
    . rename_i h1 h2; rw [if_neg h1,if_pos h2] at k; exact k
    . rename_i h1 h2; rw [if_neg h1,if_neg h2] at k
      rw [p64L]
      repeat walk_at "rdk"
      exact k
end
section
variable {P:Program} {w:World} {K:PySem.W.Frag} {mg:Str->Option Value} {base:Heap}
theorem Zbb:FnScope ["_law_cells", "_law_who", "_law_places", "_law_store", "_law_rows", "_law_steps", "_law_deeds", "_law_used", "_law_cell", "_law_place", "_law_number_here", "_law_at", "_law_deed"] ["_law_cells", "_law_who", "_law_places", "_law_store"] (Zab Zhy):=⟨rfl,rfl,rfl,by decide +kernel,rfl,by decide +kernel,by decide +kernel⟩
theorem ZlF    (D:Zap K mg "_law_went" Zhy) (c_Lnumber:Cal P w K mg base 1 "_law_number" Zid) (n_len:mg "len" = none) (n_int:mg "int" = none):Cal P w K mg base 2 "_law_went" (spWent K):=by
  refine Zay (N:=["_law_cells", "_law_who", "_law_places", "_law_store", "_law_rows", "_law_steps", "_law_deeds", "_law_used", "_law_cell", "_law_place", "_law_number_here", "_law_at", "_law_deed"]) (ps:=["_law_cells", "_law_who", "_law_places", "_law_store"]) D Zbb (fun vs H Q E h=>?_) (fun _ _ _ _ _ _ us hl=>bd4 (R:=fun us=>bindArgs _ ⟨us,[]⟩=pure (List.zip _ us)) (fun _ _ _ _=>rfl) us hl) (fun f cdv A outer s H vs Q E hr h=>?_)
  . obtain ⟨C,PA,D,cs,who,p0,p1,p2,f,rfl,_⟩:=h; rfl
  . obtain ⟨C,PA,D,cs,who,p0,p1,p2,f,rfl,hC,hcl,hPA,hD,k⟩:=h
    refine ⟨_,(Zac (Zax (i:=4) Zbb.nd rfl (by first|exact Or.inl rfl|exact Or.inr rfl) (ZbL Zae))
      (Zac (Zax (i:=5) Zbb.nd rfl (by first|exact Or.inl rfl|exact Or.inr rfl) (ZbL Zae))
      (Zac (Zax (i:=6) Zbb.nd rfl (by first|exact Or.inl rfl|exact Or.inr rfl) (ZbL Zae))
      (Zac (Zax (i:=7) Zbb.nd rfl (by first|exact Or.inl rfl|exact Or.inr rfl) Zaf)
      (Zac (Zea PassesOwn.never rfl (ZcP (pv 0)) (Zbr (i:=8) Zbb.nd rfl (by first|exact Or.inl rfl|exact Or.inr rfl))
      (Zac (Zax (i:=9) Zbb.nd rfl (by first|exact Or.inl rfl|exact Or.inr rfl) (ZaI ZaA (pv 2) (ZaH ZbD (ZaH ZbN (pv 8) Zaf) Zaf) (fun _ _=>rfl)))
      (Zac (Zax (i:=10) Zbb.nd rfl (by first|exact Or.inl rfl|exact Or.inr rfl) (ZaF c_Lnumber (hr.mono (by decide)) rfl (Zaa (ZaH ZbN (pv 8) Zaf) Zae)))
      (Zac (Zax (i:=11) Zbb.nd rfl (by first|exact Or.inl rfl|exact Or.inr rfl) (ZaG Zb7 rfl n_len PySem.boot_len (Zaa (pv 4) Zae)))
      (Zac (Zgz (Zba (ZaC ZbJ (ZaH ZbD (pv 8) Zaf) Zaf (nomark _)) (Zac (Zax (i:=4) Zbb.nd rfl (by first|exact Or.inl rfl|exact Or.inr rfl) (ZaH Ze8 (pv 4) (ZbL (Zaa (ZbB (Zaa ZaJ (Zaa (pv 9) Zae))) (Zaa (ZbB (Zaa ZaJ (Zaa (pv 10) Zae))) (Zaa (ZbB (Zaa ZaJ Zae)) Zae))))))
      (Zac (Zax (i:=12) Zbb.nd rfl (by first|exact Or.inl rfl|exact Or.inr rfl) (ZbB (Zaa ZaJ (Zaa (pv 1) (Zaa (pv 9) (Zaa (Zeh (Zfo hr) (pv 3) (pv 9) (fun _ _=>rfl)) (Zaa (pv 10) Zae)))))))
      (Zac (Zax (i:=7) Zbb.nd rfl (by first|exact Or.inl rfl|exact Or.inr rfl) (ZaH ZbK (ZaH ZbK (pv 7) Zaf) (ZaH Zim Zaf (Zb5 Zeb rfl n_int PyProof.Rows.boot_int (Zaa (Zc5 (Zbs ZbJ (Zeh (Zfo hr) (pv 3) (pv 9) (fun _ _=>rfl)) Zaf (nomark _)) (Zc4 (Zbs Zge (pv 10) Zaf (nomark _)))) Zae)))))
      (Zad (Zhl (Zfo hr) (pv 3) (pv 9) (pv 10) rfl))))) (Zac (Zax (i:=4) Zbb.nd rfl (by first|exact Or.inl rfl|exact Or.inr rfl) (ZaH Ze8 (pv 4) (ZbL (Zaa (ZbB (Zaa ZaJ (Zaa (pv 9) Zae))) (Zaa (ZbB (Zaa ZaJ Zae)) (Zaa (ZbB (Zaa ZaJ Zae)) Zae))))))
      (Zac (Zax (i:=12) Zbb.nd rfl (by first|exact Or.inl rfl|exact Or.inr rfl) (ZbB (Zaa ZaJ (Zaa (pv 1) (Zaa (Zeh (Zfo hr) (pv 3) (pv 9) (fun _ _=>rfl)) Zae)))))
      (Zad (Zax (i:=7) Zbb.nd rfl (by first|exact Or.inl rfl|exact Or.inr rfl) (ZaH ZbK (pv 7) Zaf)))))))
      (Zac (Zax (i:=5) Zbb.nd rfl (by first|exact Or.inl rfl|exact Or.inr rfl) (ZaH Ze8 (pv 5) (ZbL (Zaa (pv 11) (Zaa (ZaH ZbK (pv 11) Zaf) (Zaa (ZaH ZbK (pv 11) Zaf) (Zaa (pv 12) Zae)))))))
      (Zad (Zat (Zhi PySem.F.plainAttrs_list PySem.F.slot_list_append PySem.F.type_list_append ZbG (pv 6) (Zaa (pv 12) Zae))))))))))
      (Zad (Zaq (ZbB (Zaa (pv 4) (Zaa (pv 5) (Zaa (pv 6) (Zaa (pv 7) Zae)))))))))))),?_⟩
    walk_at "nx"
    have uh0:Gw H H []:=Gw.start
    repeat walk_at "rdk"
    refine ⟨by show 0 <= sizeLine; decide,fun R0 q_R0=>?_⟩
    generalize e_:upd _ R0 _=uH1; have uh1:=uh0.newE q_R0 e_; clear e_; repeat walk_at "rdk"
    refine ⟨by show 0 <= sizeLine; decide,fun S0 q_S0=>?_⟩
    generalize e_:upd _ S0 _=uH2; have uh2:=uh1.newE q_S0 e_; clear e_; repeat walk_at "rdk"
    refine ⟨by show 0 <= sizeLine; decide,fun DL q_DL=>?_⟩
    generalize e_:upd _ DL _=uH3; have uh3:=uh2.newE q_DL e_; clear e_; repeat walk_at "rdk"
    generalize hP:pl3 p0 p1 p2=P at k
    have nDL:H DL=none:=uh2.fresh q_DL
    have fR:=uh3.h.2.2.1
    have fS:=uh3.h.2.1
    have fD:=uh3.h.1
    obtain ⟨kvs0,eD0,lD0,vD0⟩:=hD
    have nCD:C ≠ D:=Za2 hC eD0 (by intro z; cases z)
    have nPD:PA ≠ D:=Za2 hPA eD0 (by intro z; cases z)
    have nDD:DL ≠ D:=Ne.symm (Zah eD0 nDL)
    have nCL:C ≠ DL:=Zah hC nDL
    have nPL:PA ≠ DL:=Zah hPA nDL
    refine ZdO (Zcc ?_)
    repeat walk_at "rdk"
    refine ⟨C,rfl,⟨_,Zaz (uh3.s _ _ hC)⟩,Zd3 (xs:=cs.map V.int) (fun i σ' H'=>KeptX (·=D) H H'/\∃ RL SL xs ts v1 v2 v3 v4 v5,H' RL=some (.lst xs)/\RowsAt K H' (wRows P (cs.take i)) xs/\H' SL=some (.lst (ssV 0 ts))/\H' DL=some (.lst (ts.map V.ref))/\TupsAt H' (wDeeds who P f (cs.take i)) ts/\DictP H' D (wF P f (cs.take i)) (10 + i) [p0,p1,p2]/\RL ≠ DL/\SL ≠ DL/\σ'=[some (.ref C),some (.int who),some (.ref PA),some (.ref D),some (.ref RL),some (.ref SL),some (.ref DL),some (.int (wCost P f (cs.take i))),v1,v2,v3,v4,v5]) ⟨uh3.s.keptX,R0,S0,[],[],none,none,none,none,none,fR,RowsAt.nil,fS,fD,TupsAt.nil,⟨kvs0,uh3.s _ _ eD0,lD0,vD0⟩,Zah (uh2.h.2.1) q_DL,Zah (uh2.h.1) q_DL,rfl⟩ (fun i σ' H' _ hz=>Zaz (hz.1 _ _ hC nCD)) ?_ ?_⟩
    . rintro i xx σ' HA hxx ⟨kA,RL,SL,xs,ts,v1,v2,v3,v4,v5,eRL,hR,eSL,eDL,hT,hDA,nRD,nSD,rfl⟩
      obtain ⟨hi,_⟩:=List.getElem?_eq_some_iff.mp hxx
      rw [List.length_map] at hi
      rw [List.getElem?_map] at hxx
      obtain ⟨c,hc,rfl⟩:=Option.map_eq_some_iff.mp hxx
      have et:cs.take (i + 1)=cs.take i ++ [c]:=by rw [List.take_add_one,hc]; rfl
      have hlt:(cs.take i).length=i:=by rw [List.length_take]; omega
      have hxl:xs.length=3 * i:=by rw [<- hR.1,Zdn,hlt]
      have htl:ts.length=i:=by rw [<- hT.1,ZbE,hlt]
      obtain ⟨kvs,eD,lD,vD⟩:=hDA
      have ePA:=kA _ _ hPA nPD
      have hpl:pl3 p0 p1 p2 c=P c:=by rw [hP]
      have hin:P c ∈ [p0,p1,p2]:=by rw [<- hpl]; exact pl3_in p0 p1 p2 c
      have nRD2:RL ≠ D:=Za2 eRL eD (by intro z; cases z)
      have nSD2:SL ≠ D:=Za2 eSL eD (by intro z; cases z)
      rw [et,ZiK,Zg4,wF_sn,ZiL]
      generalize hF:wF P f (cs.take i)=F at *
      generalize hU:wCost P f (cs.take i)=U at *
      generalize wRows P (cs.take i)=rs at *
      generalize wDeeds who P f (cs.take i)=dsd at *
      repeat walk_at "rdk"
      refine Za8 (Zaz ePA) (pl3_at p0 p1 p2 c) ?_
      rw [hpl]
      repeat walk_at "rdk"
      refine ⟨_,rfl,?_⟩
      repeat walk_at "rdk"
      refine Zgy (fun σ' H'=>∃ RL2 xs2 t,KeptX (·=D) HA H'/\H' RL2=some (.lst xs2)/\RL2 ≠ DL/\RowsAt K H' (rs ++ rowsOf P c) xs2/\H' t=some (.tup (tellV (deedOf who P F c)))/\DictP H' D (nextF P F c) (10 + (i + 1)) [p0,p1,p2]/\σ'=[some (.ref C),some (.int who),some (.ref PA),some (.ref D),some (.ref RL2),some (.ref SL),some (.ref DL),some (.int (U + costOf P (F) c)),some (.int c),some (.int (P c)),some (.int (numF (c / 6))),some (.int (xs.length:Int)),some (.ref t)]) ?_ ?_
      . have z0:Gw HA HA []:=Gw.start
        by_cases h2:c % 2=0
        . rw [show rowsOf P c=[rw1 "push" (P c),rw1 "push" (numF (c / 6)),rw0 "save"] from if_pos h2,show deedOf who P F c=.save who (P c) (F (P c)) (numF (c / 6)) from if_pos h2,show nextF P F c=putFn F (P c) (numF (c / 6)) from if_pos h2,show costOf P F c=(if numF (c / 6) ≠ 0/\F (P c)=0 then 14 else 7) from if_pos h2]
          generalize numF (c / 6)=nn
          repeat' walk_at "rdz"
          all_goals try (exfalso; omega)
          refine ⟨by show 2 <= sizeLine; decide,fun a1 q_a1=>?_⟩
          generalize e_:upd _ a1 _=Z1; have z1:=z0.newE q_a1 e_; clear e_; repeat walk_at "rdk"
          refine ⟨by show 2 <= sizeLine; decide,fun a2 q_a2=>?_⟩
          generalize e_:upd _ a2 _=Z2; have z2:=z1.newE q_a2 e_; clear e_; repeat walk_at "rdk"
          refine ⟨by show 1 <= sizeLine; decide,fun a3 q_a3=>?_⟩
          generalize e_:upd _ a3 _=Z3; have z3:=z2.newE q_a3 e_; clear e_; repeat walk_at "rdk"
          refine ⟨by show 3 <= sizeLine; decide,fun a4 q_a4=>?_⟩
          generalize e_:upd _ a4 _=Z4; have z4:=z3.newE q_a4 e_; clear e_; repeat walk_at "rdk"
          refine Zfa (z4.s _ _ eRL) z4.h.1 (Nat.le_trans (show _ <= 100 by show xs.length + 3 <= 100; omega) (by decide)) fun RL2 q_RL2=>?_
          have nR2:RL2 ≠ DL:=Ne.symm (Zah (z4.s _ _ eDL) q_RL2)
          have nR3:RL2 ≠ D:=Ne.symm (Zah (z4.s _ _ eD) q_RL2)
          generalize e_:upd _ RL2 _=Z5; have z5:=z4.newE q_RL2 e_; clear e_; repeat walk_at "rdk"
          refine Zdo (z5.s _ _ eD) (vD _ hin) ?_
          repeat walk_at "rdk"
          have nT:∀ t,Z5 t=none->t ≠ D:=fun t h=>Ne.symm (Zah (z5.s _ _ eD) h)
          refine ⟨by show 5 <= sizeLine; decide,fun t q_t=>?_⟩
          generalize e_:upd _ t _=Z6; have z6:=z5.newE q_t e_; clear e_; repeat walk_at "rdk"
          have nt:=nT t q_t
          refine Zdo (z6.s _ _ eD) (vD _ hin) ?_
          have im:SameI Z6 (upd Z6 D (.dK (putK kvs (Sum.inl (P c)) (.int nn)))):=SameI.upd (z6.s _ _ eD) Zep
          have hR6:=((((hR.keep z6.s.imm).snoc (r:=rw1 "push" (P c)) ⟨a1,rfl,ZbS z6.h.2.2.2.2.2.1⟩).snoc (r:=rw1 "push" nn) ⟨a2,rfl,ZbS z6.h.2.2.2.2.1⟩).snoc (r:=rw0 "save") ⟨a3,rfl,ZbS z6.h.2.2.2.1⟩).keep im
          simp only [List.append_assoc,List.cons_append,List.nil_append] at hR6
          have dl:kvs.length < sizeLine:=Nat.lt_of_le_of_lt (show _ <= 100 by omega) (by decide)
          have fin:∀ σ:St,σ=[some (.ref C),some (.int who),some (.ref PA),some (.ref D),some (.ref RL2),some (.ref SL),some (.ref DL),some (.int (U + (if nn ≠ 0/\F (P c)=0 then 14 else 7))),some (.int c),some (.int (P c)),some (.int (nn)),some (.int (xs.length:Int)),some (.ref t)]->∃ RL2 xs2 t,KeptX (·=D) HA (upd Z6 D (.dK (putK kvs (Sum.inl (P c)) (.int nn))))/\(upd Z6 D (.dK (putK kvs (Sum.inl (P c)) (.int nn)))) RL2=some (.lst xs2)/\RL2 ≠ DL/\RowsAt K (upd Z6 D (.dK (putK kvs (Sum.inl (P c)) (.int nn)))) (rs ++ [rw1 "push" (P c),rw1 "push" nn,rw0 "save"]) xs2/\(upd Z6 D (.dK (putK kvs (Sum.inl (P c)) (.int nn)))) t=some (.tup (tellV (.save who (P c) (F (P c)) nn)))/\DictP (upd Z6 D (.dK (putK kvs (Sum.inl (P c)) (.int nn)))) D (putFn F (P c) nn) (10 + (i + 1)) [p0,p1,p2]/\σ=[some (.ref C),some (.int who),some (.ref PA),some (.ref D),some (.ref RL2),some (.ref SL),some (.ref DL),some (.int (U + (if nn ≠ 0/\F (P c)=0 then 14 else 7))),some (.int c),some (.int (P c)),some (.int (nn)),some (.int (xs.length:Int)),some (.ref t)]:=fun σ hσ =>
            ⟨RL2,_,t,z6.s.keptX.trans (KeptX.upd rfl),by rw [Zaj nR3]; exact z6.h.2.1,nR2,hR6,by rw [Zaj nt]; exact z6.h.1,DictP.put lD vD _ _,hσ⟩
          repeat' walk_at "rdk"
          . rename_i h3
            refine .inr ⟨_,rfl,?_⟩
            repeat walk_at "rdk"
            refine Zd5 (z6.s _ _ eD) dl ?_
            rw [u34a U nn _ h3]
            exact fin _ rfl
          . rename_i h3
            refine .inr ⟨_,rfl,?_⟩
            repeat walk_at "rdk"
            refine Zd5 (z6.s _ _ eD) dl ?_
            rw [u34b U nn _ h3]
            exact fin _ rfl
        . rw [show rowsOf P c=[rw1 "push" (P c),rw0 "load", rw0 "note"] from if_neg h2,show deedOf who P F c=.note who (F (P c)) from if_neg h2,show nextF P F c=F from if_neg h2,show costOf P F c=8 from if_neg h2]
          repeat' walk_at "rdz"
          all_goals try (exfalso; omega)
          refine ⟨by show 2 <= sizeLine; decide,fun a1 q_a1=>?_⟩
          generalize e_:upd _ a1 _=Z1; have z1:=z0.newE q_a1 e_; clear e_; repeat walk_at "rdk"
          refine ⟨by show 1 <= sizeLine; decide,fun a2 q_a2=>?_⟩
          generalize e_:upd _ a2 _=Z2; have z2:=z1.newE q_a2 e_; clear e_; repeat walk_at "rdk"
          refine ⟨by show 1 <= sizeLine; decide,fun a3 q_a3=>?_⟩
          generalize e_:upd _ a3 _=Z3; have z3:=z2.newE q_a3 e_; clear e_; repeat walk_at "rdk"
          refine ⟨by show 3 <= sizeLine; decide,fun a4 q_a4=>?_⟩
          generalize e_:upd _ a4 _=Z4; have z4:=z3.newE q_a4 e_; clear e_; repeat walk_at "rdk"
          refine Zfa (z4.s _ _ eRL) z4.h.1 (Nat.le_trans (show _ <= 100 by show xs.length + 3 <= 100; omega) (by decide)) fun RL2 q_RL2=>?_
          have nR2:RL2 ≠ DL:=Ne.symm (Zah (z4.s _ _ eDL) q_RL2)
          generalize e_:upd _ RL2 _=Z5; have z5:=z4.newE q_RL2 e_; clear e_; repeat walk_at "rdk"
          refine Zdo (z5.s _ _ eD) (vD _ hin) ?_
          repeat walk_at "rdk"
          refine ⟨by show 3 <= sizeLine; decide,fun t q_t=>?_⟩
          generalize e_:upd _ t _=Z6; have z6:=z5.newE q_t e_; clear e_; repeat walk_at "rdk"
          have hR6:=((((hR.keep z6.s.imm).snoc (r:=rw1 "push" (P c)) ⟨a1,rfl,ZbS z6.h.2.2.2.2.2.1⟩).snoc (r:=rw0 "load") ⟨a2,rfl,ZbS z6.h.2.2.2.2.1⟩).snoc (r:=rw0 "note") ⟨a3,rfl,ZbS z6.h.2.2.2.1⟩)
          simp only [List.append_assoc,List.cons_append,List.nil_append] at hR6
          exact ⟨RL2,_,t,z6.s.keptX,z6.h.2.1,nR2,hR6,z6.h.1,⟨kvs,z6.s _ _ eD,Nat.le_trans lD (by omega),vD⟩,rfl⟩
      . rintro σ1 HB ⟨RL2,xs2,t,kB,eRL2,nR2,hR2,eT,hDB,rfl⟩
        have eSB:=kB _ _ eSL nSD2
        have eLB:=kB _ _ eDL nDD
        have hTB:=hT.mono fun b ys h=>kB b _ h (Za2 h eD (by intro z; cases z))
        obtain ⟨kv2,eD2,lD2,vD2⟩:=hDB
        have z0:Gw HB HB []:=Gw.start
        repeat walk_at "rdk"
        refine ⟨by show 4 <= sizeLine; decide,fun b1 q_b1=>?_⟩
        generalize e_:upd _ b1 _=Z1; have z1:=z0.newE q_b1 e_; clear e_; repeat walk_at "rdk"
        have hsl:=Zie ts 0
        refine Zfa (z1.s _ _ eSB) z1.h.1 (Nat.le_trans (show _ <= 100 by show (ssV 0 ts).length + 4 <= 100; omega) (by decide)) fun SL2 q_SL2=>?_
        have nS2:SL2 ≠ DL:=Ne.symm (Zah (z1.s _ _ eLB) q_SL2)
        generalize e_:upd _ SL2 _=Z2; have z2:=z1.newE q_SL2 e_; clear e_; repeat walk_at "rdk"
        refine ⟨Zcd (Zaz (z2.s _ _ eLB)),?_⟩
        repeat walk_at "rdk"
        refine ZbT (z2.s _ _ eLB) (Nat.lt_of_le_of_lt (show _ <= 100 by rw [List.length_map]; omega) (by decide)) ?_
        repeat walk_at "rdk"
        have im:SameI Z2 (upd Z2 DL (.lst (ts.map V.ref ++ [.ref t]))):=SameI.upd (z2.s _ _ eLB) Zbo
        have nTL:∀ b ys,Z2 b=some (.tup ys)->b ≠ DL:=fun b ys h=>Za2 h (z2.s _ _ eLB) (by intro z; cases z)
        have eT2:=z2.s _ _ eT
        refine ⟨fun b o h n=>?_,RL2,SL2,xs2,ts ++ [t],_,_,_,_,_,by rw [Zaj nR2]; exact z2.s _ _ eRL2,(hR2.keep z2.s.imm).keep im,?_,by rw [Zag,List.map_append]; rfl,?_,⟨kv2,by rw [Zaj (Ne.symm nDD)]; exact z2.s _ _ eD2,lD2,vD2⟩,nR2,nS2,rfl⟩
        . rw [Zaj (Zah h nDL)]; exact z2.s _ _ (kB _ _ (kA _ _ h n) n)
        . rw [Zaj nS2,Zl3,htl,Nat.zero_add]
          have:=z2.h.1
          rw [hxl] at this
          exact this
        . exact (hTB.mono fun b ys h=>by rw [Zaj (nTL b ys (z2.s _ _ h))]; exact z2.s _ _ h).snoc (by rw [Zaj (nTL t _ eT2)]; exact eT2)
    . rintro σ' H9 ⟨k9,RL,SL,xs,ts,v1,v2,v3,v4,v5,eRL,hR,eSL,eDL,hT,hD9,_,_,rfl⟩
      rw [List.length_map,List.take_length] at hR hT hD9
      rw [List.length_map,List.take_length]
      have z0:Gw H9 H9 []:=Gw.start
      repeat walk_at "rdk"
      refine ⟨by show 4 <= sizeLine; decide,fun t q_t=>?_⟩
      generalize e_:upd _ t _=Z1; have z1:=z0.newE q_t e_; clear e_; repeat walk_at "rdk"
      obtain ⟨kv9,eD9,lD9,vD9⟩:=hD9
      exact k t RL SL DL xs ts Z1 (k9.trans z1.s.keptX) z1.h.1 (z1.s _ _ eRL) (hR.keep z1.s.imm) (z1.s _ _ eSL) (z1.s _ _ eDL) (hT.mono fun b ys h=>z1.s _ _ h) ⟨kv9,z1.s _ _ eD9,Nat.le_trans lD9 (by omega),vD9⟩
end
noncomputable def acF34 (f:Int->Int) (p0 p1 p2:Int):Int->Int:=fun q=>if q=p0\/q=p1\/q=p2 then f q else 0
noncomputable def g77 (ps:List Int):Int->Int:=ps.foldl (fun g p=>putFn g p 77) (fun _=>0)
noncomputable def gF (f:Int->Int) (h:Int->Int) (ps:List Int):Int->Int:=ps.foldl (fun g p=>putFn g p (f p)) h
theorem g77_sn (ps:List Int) (p:Int):g77 (ps ++ [p])=putFn (g77 ps) p 77:=by unfold g77; rw [List.foldl_append]; rfl
theorem gF_sn (f h:Int->Int) (ps:List Int) (p:Int):gF f h (ps ++ [p])=putFn (gF f h ps) p (f p):=by unfold gF; rw [List.foldl_append]; rfl
theorem gF_eq (f:Int->Int) (p0 p1 p2:Int):gF f (g77 [p0,p1,p2]) [p0,p1,p2]=acF34 f p0 p1 p2:=by
  funext q
  unfold acF34
  show putFn (putFn (putFn (putFn (putFn (putFn (fun _=>0) p0 77) p1 77) p2 77) p0 (f p0)) p1 (f p1)) p2 (f p2) q=_
  unfold putFn
  by_cases h2:q=p2
  . rw [if_pos h2,if_pos (.inr (.inr h2)),h2]
  . rw [if_neg h2]
    by_cases h1:q=p1
    . rw [if_pos h1,if_pos (.inr (.inl h1)),h1]
    . rw [if_neg h1]
      by_cases h0:q=p0
      . rw [if_pos h0,if_pos (.inl h0),h0]
      . rw [if_neg h0,if_neg h2,if_neg h1,if_neg h0,if_neg (by rintro (z|z|z) <;> contradiction)]
noncomputable def ZiO (K:PySem.W.Frag) (C:Addr):Sp:=fun vs H Q _=>∃ (RL PA D:Addr) (xs:List V) (rs:List Row) (p0 p1 p2:Int) (f:Int->Int) (m:Nat),vs=[.ref RL,.ref PA,.ref D]/\H RL=some (.lst xs)/\RowsAt K H rs xs/\H PA=some (.lst [.int p0,.int p1,.int p2])/\DictP H D f m [p0,p1,p2] /\
  ∀ a dx pr st H',Same H H'->H a=none->H pr=none->H st=none->AcAt K C H' a dx pr st 4 4 0 rs (acF34 f p0 p1 p2) 6->Q (.ref a) H'
noncomputable def ZiP (K:PySem.W.Frag):Sp:=fun vs H Q _=>∃ (DL:Addr) (ds:List Dd) (ts:List Addr),vs=[.ref DL]/\H DL=some (.lst (ts.map V.ref))/\TupsAt H ds ts/\ts.length <= 30/\∀ H',Same H H'->Q (.int (ds.map worthD).sum) H'
section
variable {P:Program} {w:World} {K:PySem.W.Frag} {mg:Str->Option Value} {base:Heap}
theorem Zcm:FnScope ["_law_rows", "_law_places", "_law_store", "_law_account_here", "_law_place"] ["_law_rows", "_law_places", "_law_store"] (Zab ZdH):=⟨rfl,rfl,rfl,by decide +kernel,rfl,by decide +kernel,by decide +kernel⟩
theorem Zif   {cAccount:Addr} (D:Zap K mg "_law_account" ZdH) (tAccount:T_Account K mg cAccount) (i_Account:ICal P w K mg base 1 "Account" cAccount (spInit K cAccount)) (m_Account_keep:MCal P w K mg base 1 cAccount "keep" (spKeep K cAccount)):Cal P w K mg base 3 "_law_account" (ZiO K cAccount):=by
  refine Zay (N:=["_law_rows", "_law_places", "_law_store", "_law_account_here", "_law_place"]) (ps:=["_law_rows", "_law_places", "_law_store"]) D Zcm (fun vs H Q E h=>?_) (fun _ _ _ _ _ _ us hl=>bd3 (R:=fun us=>bindArgs _ ⟨us,[]⟩=pure (List.zip _ us)) (fun _ _ _=>rfl) us hl) (fun f cdv A outer s H vs Q E hr h=>?_)
  . obtain ⟨RL,PA,D,xs,rs,p0,p1,p2,f,m,rfl,_⟩:=h; rfl
  . obtain ⟨RL,PA,D,xs,rs,p0,p1,p2,f,m,rfl,hRL,hR,hPA,hD,k⟩:=h
    refine ⟨_,(Zac (Zax (i:=3) Zcm.nd rfl (by first|exact Or.inl rfl|exact Or.inr rfl) (Zcr i_Account (hr.mono (by decide)) rfl (Zaa Zaf (Zaa Zaf (Zaa (pv 0) Zae)))))
      (Zac (Zea PassesOwn.never rfl (ZcP (pv 1)) (Zbr (i:=4) Zcm.nd rfl (by first|exact Or.inl rfl|exact Or.inr rfl))
      (Zad (Zat (ZaB m_Account_keep (hr.mono (by decide)) (pv 3) (Zaa (pv 4) (Zaa Zaf Zae))))))
      (Zac (Zea PassesOwn.never rfl (ZcP (pv 1)) (Zbr (i:=4) Zcm.nd rfl (by first|exact Or.inl rfl|exact Or.inr rfl))
      (Zad (Zat (ZaB m_Account_keep (hr.mono (by decide)) (pv 3) (Zaa (pv 4) (Zaa (Zeh (Zfo hr) (pv 2) (pv 4) (fun _ _=>rfl)) Zae))))))
      (Zad (Zaq (pv 3)))))),?_⟩
    walk_at "nx"
    obtain ⟨kvs,eD,lD,vD⟩:=hD
    repeat walk_at "rdk"
    intro a dx ha hdx hn
    have ta:(upd H dx (.own a)) a=none:=by rw [Zaj (Ne.symm hn)]; exact ha
    have ma:Same H (upd (upd H dx (.own a)) a (.ins cAccount dx [])):=(Same.new hdx).newT ta
    refine ⟨a,dx,RL,4,4,xs,rs,rfl,Zag,ma.seq (Zaz hRL),RowsAt.keep hR ma.imm,fun pr st I hp hs _ aI kI=>⟨rfl,?_⟩⟩
    have nI:Same H I:=fun b o e=>kI b o (ma _ _ e) (Zah e ha)
    have npr:=ma.fresh hp
    have nst:=ma.fresh hs
    repeat walk_at "rdk"
    refine ZdO (Zcc ?_)
    repeat walk_at "rdk"
    refine ⟨PA,rfl,⟨_,Zaz (nI _ _ hPA)⟩,Zd3 (xs:=[V.int p0,.int p1,.int p2]) (fun i σ' H'=>Same H H'/\AcAt K cAccount H' a dx pr st 4 4 0 rs (g77 ([p0,p1,p2].take i)) i/\∃ v,σ'=[some (.ref RL),some (.ref PA),some (.ref D),some (.ref a),v]) ⟨nI,aI,_,rfl⟩ (fun i σ' H' _ hz=>Zaz (hz.1 _ _ hPA)) ?_ ?_⟩
    . rintro i xx σ' HA hxx ⟨sA,aA,v,rfl⟩
      obtain ⟨hi,_⟩:=List.getElem?_eq_some_iff.mp hxx
      have hi:i < 3:=hi
      have hxx:([p0,p1,p2].map V.int)[i]?=some xx:=hxx
      rw [List.getElem?_map] at hxx
      obtain ⟨c,hc,rfl⟩:=Option.map_eq_some_iff.mp hxx
      have et:[p0,p1,p2].take (i + 1)=[p0,p1,p2].take i ++ [c]:=by rw [List.take_add_one,hc]; rfl
      have hin:c ∈ [p0,p1,p2]:=List.mem_of_getElem? hc
      obtain ⟨kvA,eSt,_⟩:=aA.sto
      rw [et,g77_sn]
      repeat walk_at "rdk"
      refine Zan aA.ob rfl ?_
      repeat walk_at "rdk"
      refine ⟨a,dx,pr,st,4,4,0,rs,_,_,c,77,rfl,aA,by omega,fun H2 k2 s2=>?_⟩
      repeat walk_at "rdk"
      exact ⟨fun b o e=>by rw [k2 b (Zah e nst)]; exact sA _ _ e,aA.nd (SameND.but eSt k2) s2,_,rfl⟩
    rintro σ1 H1 ⟨s1,a1,v1,rfl⟩
    repeat walk_at "rdk"
    refine ZdO (Zcc ?_)
    repeat walk_at "rdk"
    refine ⟨PA,rfl,⟨_,Zaz (s1 _ _ hPA)⟩,Zd3 (xs:=[V.int p0,.int p1,.int p2]) (fun i σ' H'=>Same H H'/\AcAt K cAccount H' a dx pr st 4 4 0 rs (gF f (g77 [p0,p1,p2]) ([p0,p1,p2].take i)) (3 + i)/\∃ v,σ'=[some (.ref RL),some (.ref PA),some (.ref D),some (.ref a),v]) ⟨s1,a1,_,rfl⟩ (fun i σ' H' _ hz=>Zaz (hz.1 _ _ hPA)) ?_ ?_⟩
    . rintro i xx σ' HA hxx ⟨sA,aA,v,rfl⟩
      obtain ⟨hi,_⟩:=List.getElem?_eq_some_iff.mp hxx
      have hi:i < 3:=hi
      have hxx:([p0,p1,p2].map V.int)[i]?=some xx:=hxx
      rw [List.getElem?_map] at hxx
      obtain ⟨c,hc,rfl⟩:=Option.map_eq_some_iff.mp hxx
      have et:[p0,p1,p2].take (i + 1)=[p0,p1,p2].take i ++ [c]:=by rw [List.take_add_one,hc]; rfl
      have hin:c ∈ [p0,p1,p2]:=List.mem_of_getElem? hc
      obtain ⟨kvA,eSt,_⟩:=aA.sto
      rw [et,gF_sn]
      repeat walk_at "rdk"
      refine Zan aA.ob rfl ?_
      repeat walk_at "rdk"
      refine Zdo (sA _ _ eD) (vD _ hin) ?_
      repeat walk_at "rdk"
      refine ⟨a,dx,pr,st,4,4,0,rs,_,_,c,f c,rfl,aA,by omega,fun H2 k2 s2=>?_⟩
      repeat walk_at "rdk"
      exact ⟨fun b o e=>by rw [k2 b (Zah e nst)]; exact sA _ _ e,aA.nd (SameND.but eSt k2) s2,_,rfl⟩
    rintro σ2 H2 ⟨s2,a2,v2,rfl⟩
    have a2:AcAt K cAccount H2 a dx pr st 4 4 0 rs (gF f (g77 [p0,p1,p2]) [p0,p1,p2]) 6:=a2
    rw [gF_eq] at a2
    repeat walk_at "rdk"
    exact k a dx pr st H2 s2 ha npr nst a2
theorem ZkC:FnScope ["_law_deeds"] ["_law_deeds"] (Zab Zd8):=⟨rfl,rfl,rfl,by decide +kernel,rfl,by decide +kernel,by decide +kernel⟩
theorem ZkD    (D:Zap K mg "_law_worth" Zd8) (n_sum:mg "sum" = none) (n_int:mg "int" = none):Cal P w K mg base 1 "_law_worth" (ZiP K):=by
  refine Zay (N:=["_law_deeds"]) (ps:=["_law_deeds"]) D ZkC (fun vs H Q E h=>?_) (fun _ _ _ _ _ _ us hl=>bd1 (R:=fun us=>bindArgs _ ⟨us,[]⟩=pure (List.zip _ us)) (fun _=>rfl) us hl) (fun f cdv A outer s H vs Q E hr h=>?_)
  . obtain ⟨DL,ds,ts,rfl,_⟩:=h; rfl
  . obtain ⟨DL,ds,ts,rfl,hL,hT,htl,k⟩:=h
    refine ⟨_,(Zad (Zaq (ZaG (ZlW rfl) rfl n_sum PyProof.Rows.boot_sum (Zaa (Zhn ["_law_deed"] rfl (show CompScope (Zab Zd8) ["_law_deeds"] ["_law_deed"] _ from ⟨rfl,by decide +kernel,by decide +kernel,by decide +kernel,by decide +kernel,by decide +kernel⟩) (ZcP (pv 0)) (fun _ _ _ _ _=>(Zbr (i:=0) (show (["_law_deed", "_law_deeds"]:List Str).Nodup by decide +kernel) rfl (Or.inl rfl) (.inr rfl))) (fun _ _ _ _ _=>Zfq) (fun _ _ _ _ _=>(ZaH Zim Zaf (Zb5 Zeb rfl n_int PyProof.Rows.boot_int (Zaa (Zc5 (Zbs ZbJ (ZaI (show IxR _ (rIxT K) from Zbc) (pv 0) Zaf (fun _ _=>rfl)) ZaJ (nomark _)) (Zc5 (Zbs Zge (ZaI (show IxR _ (rIxT K) from Zbc) (pv 0) Zaf (fun _ _=>rfl)) Zaf (nomark _)) (Zc4 (Zbs ZbJ (ZaI (show IxR _ (rIxT K) from Zbc) (pv 0) (Zfi Zc8 Zaf) (fun _ _=>rfl)) Zaf (nomark _))))) Zae))))) Zae)))),?_⟩
    walk_at "nx"
    repeat walk_at "rdk"
    refine Zfr (Zcc ?_)
    repeat walk_at "rdk"
    refine ⟨DL,rfl,⟨_,Zaz hL⟩,fun q hq=>?_⟩
    refine Zeq (xs:=ts.map V.ref) (fun i H'=>Same H H'/\H' q=some (.lst (((ds.take i).map worthD).map V.int))) ⟨Same.new hq,Zag⟩ (fun i H' ⟨s,_⟩=>Zaz (s _ _ hL)) ?_ ?_
    . rintro i x H' hx ⟨s1,hq1⟩
      rw [List.getElem?_map] at hx
      obtain ⟨t,ht,rfl⟩:=Option.map_eq_some_iff.mp hx
      obtain ⟨hi,ei⟩:=List.getElem?_eq_some_iff.mp ht
      have h1:=hT.1
      obtain ⟨d,hd⟩:∃ d,ds[i]?=some d:=⟨_,List.getElem?_eq_getElem (by omega)⟩
      have et:=s1 _ _ (hT.2 i d t hd ht)
      have eds:ds.take (i + 1)=ds.take i ++ [d]:=by rw [List.take_add_one,hd]; rfl
      have hl:(((ds.take i).map worthD).map V.int).length < sizeLine:=Nat.lt_of_le_of_lt (show _ <= 100 by rw [List.length_map,List.length_map,List.length_take]; omega) (by decide)
      have fin:∀ z:Int,z=worthD d->∃ ys,H' q=some (.lst ys)/\ys.length < sizeLine/\compNx (fun i H'=>Same H H'/\H' q=some (.lst (((ds.take i).map worthD).map V.int))) (i + 1) [some (.ref DL)] (some (.ref t) :: [some (.ref DL)]) (upd H' q (.lst (ys ++ [.int z]))):=fun z hz=>⟨_,hq1,hl,⟨s1.wr hq,by rw [Zag,eds,List.map_append,List.map_append,hz]; rfl⟩,_,rfl⟩
      refine Zhq ?_
      refine iteT ?_
      cases d with
      | save s0 p o n =>
        have et:H' t=some (.tup [.str "save", .int s0,.int p,.int o,.int n]):=et
        repeat' walk_at "rdk"
        all_goals first|exact absurd rfl (by assumption)|skip
        . rename_i h3
          refine .inr ⟨_,rfl,?_⟩
          repeat walk_at "rdk"
          refine fin _ ?_
          show _=(if o ≠ 0/\n=0 then (4:Int) else 0)
          by_cases h4:n=0 <;> simp [h3,h4]
        . rename_i h3
          refine .inr ⟨_,rfl,?_⟩
          repeat walk_at "rdk"
          refine fin _ ?_
          show _=(if o ≠ 0/\n=0 then (4:Int) else 0)
          simp [h3]
      | note s0 n =>
        have et:H' t=some (.tup [.str "note", .int s0,.int n]):=et
        repeat' walk_at "rdk"
        . rename_i h3; exact absurd h3 (show ¬ ("note" : Str) = "save" by decide)
        . refine .inr ⟨_,rfl,?_⟩
          repeat walk_at "rdk"
          exact fin _ rfl
      | move s0 t0 kk =>
        have et:H' t=some (.tup [.str "move", .int s0,.int t0,.int kk]):=et
        repeat' walk_at "rdk"
        all_goals first|exact absurd (by assumption) (show ¬ ("move" : Str) = "save" by decide)|skip
        . refine .inr ⟨_,rfl,?_⟩
          repeat walk_at "rdk"
          exact fin _ rfl
    . rintro H' ⟨s1,hq1⟩
      rw [List.length_map,<- hT.1,List.take_length] at hq1
      repeat walk_at "rdk"
      exact k H' s1
end
noncomputable def cellF (ns:List Int) (k:Int):Int:=(ns[k.toNat]?).getD 0
noncomputable def ZkE (K:PySem.W.Frag):Sp:=fun vs H Q _=>∃ (p:Addr) (ns:List Int) (k:Int),vs=[.ref p,.int k]/\0 <= k/\SqL K H p (ns.map V.int)/\Q (.int (cellF ns k)) H
noncomputable def hasAll (A:Nat->Option AcI) (ss:List Nat):Prop:=∀ i ∈ ss,i < 16/\∃ x,A i=some x
noncomputable def setO (A:Nat->Option AcI) (i:Nat) (x:AcI):Nat->Option AcI:=fun j=>if j=i then some x else A j
theorem ZkF {A:Nat->Option AcI} {i:Nat} {x:AcI} (hi:i < 16):((List.range 16).map fun j=>roomV (A j)).set i (.ref x.a)=(List.range 16).map fun j=>roomV (setO A i x j):=by
  apply List.ext_getElem?
  intro n
  rw [List.getElem?_set]
  by_cases e:i=n
  . subst e
    rw [if_pos rfl,if_pos (by simpa using hi),List.getElem?_map,List.getElem?_range hi]
    show _=some (roomV (setO A i x i))
    unfold setO
    rw [if_pos rfl]
    rfl
  . rw [if_neg e,List.getElem?_map,List.getElem?_map]
    by_cases hn:n < 16
    . rw [List.getElem?_range hn]
      show some _=some (roomV (setO A i x n))
      unfold setO
      rw [if_neg (Ne.symm e)]
    . rw [List.getElem?_eq_none (by simpa using hn)]
      rfl
theorem ZbP {A:Nat->Option AcI} {i:Nat} {x:AcI}:∀ j y,setO A i x j=some y->(j=i/\y=x)\/(j ≠ i/\A j=some y):=fun j y h=>by
  unfold setO at h
  by_cases z:j=i
  . rw [if_pos z] at h; cases h; exact .inl ⟨z,rfl⟩
  . rw [if_neg z] at h; exact .inr ⟨z,h⟩
theorem Rooms.add {K:PySem.W.Frag} {C:Addr} {H H':Hp} {R:Addr} {A:Nat->Option AcI} {S:Nat->AcS} {m:Nat} (r:Rooms K C H R A S m) {i:Nat} (hi:i < 16) {x:AcI} {s:AcS} (e5:H' R=some (.lst (((List.range 16).map fun j=>roomV (A j)).set i (.ref x.a)))) (e6:Acc K C H' x s m)
    (fr:∀ b o,H b=some o->b ≠ R->(∀ kvs,o ≠ .dK kvs)->H' b=some o) (fs:∀ j y,j < 16->A j=some y->H' y.st=H y.st) (np:∀ j y,j < 16->A j=some y->y.pr ≠ R) (n3:H x.a=none) (n4:H x.st=none):Rooms K C H' R (setO A i x) (setS S i s) m:=by
  have hR:=r.ob
  have sne:∀ j y,j < 16->A j=some y->∃ kvs,H y.st=some (.dK kvs):=fun j y hj hy=>let ⟨kvs,a,_⟩:=(r.ac j y hj hy).sto; ⟨kvs,a⟩
  have im:SameI H H':=fun b u e i=>by
    refine fr b u e (fun z=>?_) (fun kvs z=>?_)
    . rw [z,hR] at e; cases e; exact Zbo i
    . rw [z] at i; exact Zep i
  refine ⟨by rw [e5,ZkF hi],fun j y hj hy=>?_,fun j j' y y' hj hj' hy hy' e=>?_,fun j j' y y' hj hj' hy hy' e=>?_⟩
  . rcases ZbP j y hy with ⟨rfl,rfl⟩|⟨z,gy⟩
    . unfold setS; rw [if_pos rfl]; exact e6
    . unfold setS; rw [if_neg z]
      have h:=r.ac j y hj gy
      obtain ⟨xs,g1,g2⟩:=h.pg
      obtain ⟨kvs,g3,g4⟩:=h.sto
      exact ⟨fr _ _ h.ob (Za2 h.ob hR (by intro z; cases z)) (by intro _ z; cases z),⟨xs,fr _ _ g1 (np j y hj gy) (by intro _ z; cases z),g2.keep im⟩,kvs,(fs j y hj gy).trans g3,g4⟩
  . rcases ZbP j y hy with ⟨rfl,rfl⟩|⟨z,gy⟩ <;> rcases ZbP j' y' hy' with ⟨rfl,rfl⟩|⟨z',gy'⟩
    . rfl
    . have h:=(r.ac j' y' hj' gy').ob; rw [<- e,n3] at h; cases h
    . have h:=(r.ac j y hj gy).ob; rw [e,n3] at h; cases h
    . exact r.da j j' y y' hj hj' gy gy' e
  . rcases ZbP j y hy with ⟨rfl,rfl⟩|⟨z,gy⟩ <;> rcases ZbP j' y' hy' with ⟨rfl,rfl⟩|⟨z',gy'⟩
    . rfl
    . obtain ⟨_,h⟩:=sne j' y' hj' gy'; rw [<- e,n4] at h; cases h
    . obtain ⟨_,h⟩:=sne j y hj gy; rw [e,n4] at h; cases h
    . exact r.ds j j' y y' hj hj' gy gy' e
theorem Rooms.empty {K:PySem.W.Frag} {C:Addr} {H:Hp} {R:Addr} {m:Nat} (f:H R=some (.lst ((List.range 16).map fun i=>roomV ((fun _=>none:Nat->Option AcI) i)))) (S:Nat->AcS):Rooms K C H R (fun _=>none) S m :=
  ⟨f,fun _ _ _ h=>(nomatch h),fun _ _ _ _ _ _ h=>(nomatch h),fun _ _ _ _ _ _ h=>(nomatch h)⟩
theorem Rooms.made {K:PySem.W.Frag} {C:Addr} {H H2:Hp} {R:Addr} {A:Nat->Option AcI} {S:Nat->AcS} {m:Nat} (r:Rooms K C H R A S m) {i:Nat} (hi:i < 16) (np:∀ j y,j < 16->A j=some y->y.pr ≠ R) {a dx pr st:Addr} {c p:Int} {rs:List Row} (s:Same H H2) (ha:H a=none) (hpr:H pr=none) (hst:H st=none) (ac:AcAt K C H2 a dx pr st c p 0 rs (fun _=>0) 0) :
    Rooms K C (upd H2 R (.lst (((List.range 16).map fun j=>roomV (A j)).set i (.ref a)))) R (setO A i ⟨a,dx,pr,st⟩) (setS S i ⟨c,p,0,rs,fun _=>0⟩) m/\∀ j y,j < 16->setO A i ⟨a,dx,pr,st⟩ j=some y->y.pr ≠ R:=by
  have nR:pr ≠ R:=Ne.symm (Zah r.ob hpr)
  have im:SameI H2 (upd H2 R (.lst (((List.range 16).map fun j=>roomV (A j)).set i (.ref a)))):=SameI.upd (s _ _ r.ob) Zbo
  obtain ⟨xs,g1,g2⟩:=ac.pg
  obtain ⟨kvs,g3,g4,g5⟩:=ac.sto
  refine ⟨r.add (x:=⟨a,dx,pr,st⟩) hi Zag ⟨by rw [Zaj (Za2 ac.ob (s _ _ r.ob) (by intro z; cases z))]; exact ac.ob,⟨xs,by rw [Zaj nR]; exact g1,g2.keep im⟩,kvs,by rw [Zaj (Za2 g3 (s _ _ r.ob) (by intro z; cases z))]; exact g3,Nat.le_trans g4 (Nat.zero_le _),g5⟩ (fun b o h h1 _=>by rw [Zaj h1]; exact s _ _ h) (fun j y hj hy=>?_) np ha hst,fun j y hj hy=>?_⟩
  . obtain ⟨kv,q,_⟩:=(r.ac j y hj hy).sto
    rw [Zaj (Za2 q r.ob (by intro z; cases z)),q]
    exact s _ _ q
  . rcases ZbP j y hy with ⟨rfl,rfl⟩|⟨_,gy⟩
    . exact nR
    . exact np j y hj gy
theorem Zg6 (A:Nat->Option AcI) (i:Nat) (v:AcI):setO A i v i=some v:=by unfold setO; rw [if_pos rfl]
theorem ZmZ (A:Nat->Option AcI) {i j:Nat} (v:AcI) (h:j ≠ i):setO A i v j=A j:=by unfold setO; rw [if_neg h]
noncomputable def Zm0 (o:HO):Prop:=(∀ xs,o ≠ .lst xs)/\(∀ xs,o ≠ .tup xs)/\∀ q u,o ≠ .frz q u
structure KeptD (H H':Hp):Prop where
  k:∀ b o,H b=some o->H' b=some o\/Zm0 o
section
variable {K:PySem.W.Frag} {H H':Hp}
theorem KeptD.at (s:KeptD H H') {b:Addr} {o:HO} (h:H b=some o) (n:¬ Zm0 o):H' b=some o:=(s.k b o h).resolve_right n
theorem KeptD.l (s:KeptD H H') {b:Addr} {xs:List V} (h:H b=some (.lst xs)):H' b=some (.lst xs):=s.at h fun z=>z.1 _ rfl
theorem KeptD.t (s:KeptD H H') {b:Addr} {xs:List V} (h:H b=some (.tup xs)):H' b=some (.tup xs):=s.at h fun z=>z.2.1 _ rfl
theorem KeptD.sl (s:KeptD H H') {a:Addr} {xs:List V} (h:SqL K H a xs):SqL K H' a xs:=by
  rcases h with (h|⟨o,h⟩)|h
  . exact .inl (.inl (s.l h))
  . exact .inl (.inr ⟨o,s.at h fun z=>z.2.2 _ _ rfl⟩)
  . exact .inr h
theorem KeptD.st (s:KeptD H H') {a:Addr} {xs:List V} (h:SqT K H a xs):SqT K H' a xs:=by
  rcases h with (h|⟨o,h⟩)|h
  . exact .inl (.inl (s.t h))
  . exact .inl (.inr ⟨o,s.at h fun z=>z.2.2 _ _ rfl⟩)
  . exact .inr h
mutual
theorem DV.keptD (s:KeptD H H'):∀ {d:Dt} {v:V},DV K H d v->DV K H' d v
  | .non,v,h=>by unfold DV at h |-; exact h
  | .bl b,v,h=>by unfold DV at h |-; exact h
  | .int i,v,h=>by unfold DV at h |-; exact h
  | .str x,v,h=>by unfold DV at h |-; exact h
  | .lst ds,v,h=>by
    unfold DV at h |-
    obtain ⟨a,xs,e,q,r⟩:=h
    exact ⟨a,xs,e,s.sl q,DVs.keptD s r⟩
  | .tup ds,v,h=>by
    unfold DV at h |-
    obtain ⟨a,xs,e,q,r⟩:=h
    exact ⟨a,xs,e,s.st q,DVs.keptD s r⟩
theorem DVs.keptD (s:KeptD H H'):∀ {ds:List Dt} {xs:List V},DVs K H ds xs->DVs K H' ds xs
  | [],xs,h=>by unfold DVs at h |-; exact h
  | d :: r,xs,h=>by
    unfold DVs at h |-
    obtain ⟨x,t,e,h1,h2⟩:=h
    exact ⟨x,t,e,DV.keptD s h1,DVs.keptD s h2⟩
end
theorem ZlG {C:Addr} {H1:Hp} {R L:Addr} {A:Nat->Option AcI} {S:Nat->AcS} {m:Nat} (r:Rooms K C H R A S m) (s:Same H H1) (n:H L=none) (k:KeptX (fun b=>¬ Out A b\/b=L) H1 H'):KeptD H H':=⟨fun b o e=>by
  by_cases q:Zm0 o
  . exact .inr q
  . refine .inl (k b o (s _ _ e) fun z=>?_)
    rcases z with z|rfl
    . refine z fun i x hi hx=>⟨fun w=>q ?_,fun w=>q ?_⟩
      . rw [w,(r.ac i x hi hx).ob] at e; cases e
        exact ⟨fun _ w=>(nomatch w),fun _ w=>(nomatch w),fun _ _ w=>(nomatch w)⟩
      . obtain ⟨kv,g1,_⟩:=(r.ac i x hi hx).sto
        rw [w,g1] at e; cases e
        exact ⟨fun _ w=>(nomatch w),fun _ w=>(nomatch w),fun _ _ w=>(nomatch w)⟩
    . rw [n] at e; cases e⟩
end
theorem Zfg (d:Dd):ZbM (tellD d):=by cases d <;> simp [tellD,tellDs,ZbM,PlainDs]
theorem ZiQ (d:Dd):(tellD d).dep=1:=by cases d <;> simp [tellD,tellDs,Dt.dep,Dt.deps]
theorem ZeS:∀ ds:List Dd,PlainDs (ds.map tellD)
  | []=>by unfold List.map PlainDs; trivial
  | d :: ds=>by rw [List.map_cons]; unfold PlainDs; exact ⟨Zfg d,ZeS ds⟩
theorem Zfh:∀ ds:List Dd,Dt.deps (ds.map tellD) <= 1
  | []=>Nat.zero_le _
  | d :: ds=>by rw [List.map_cons]; unfold Dt.deps; rw [ZiQ]; exact Nat.max_le.mpr ⟨Nat.le_refl _,Zfh ds⟩
theorem ZeT:∀ {ds es:List Dt},PlainDs ds->PlainDs es->PlainDs (ds ++ es)
  | [],_,_,q=>q
  | _ :: _,_,h,q=>by
    unfold PlainDs at h
    show PlainDs (_ :: (_ ++ _))
    unfold PlainDs
    exact ⟨h.1,ZeT h.2 q⟩
theorem Zga:∀ (ds es:List Dt),Dt.deps (ds ++ es)=max (Dt.deps ds) (Dt.deps es)
  | [],es=>by show Dt.deps es=max 0 _; omega
  | d :: ds,es=>by
    show max d.dep (Dt.deps (ds ++ es))=max (max d.dep (Dt.deps ds)) (Dt.deps es)
    rw [Zga ds es]
    generalize Dt.deps es=z
    omega
theorem go34 {A:Nat->Option AcI} {S0:Nat->AcS} {wi ci n0:Nat} {ac:AcI} {P f:Int->Int} {cs:List Int} {ds0:List Dd} {ans:Int} {l e:Str} (hi:wi < 16) (hA:A wi=some ac) (hr:(S0 wi).rows=wRows P cs ++ [rw1 "push" ans,rw0 l]) (hle:l = "give" /\ e = "well" \/ l = "fail" /\ e = "fail") (hcs:cs.length <= 19) (hs:∀ p,(runS S0 ds0 wi).store p=f p) (hd:ds0.length <= 10):∃ y st,GoW A S0 (n0 + 1) ds0 (frame0 "call" (wi:Int) (wi:Int) (ci:Int) 0 3 400 1 false) (ds0 ++ (if e = "well" then wDeeds (wi:Int) P f cs else [])) y st/\treeD y st=.tup [.str "call", .int (wi:Int),.int (wi:Int),.int (ci:Int),.int 0,.int 3,.int 400,.str e,.int ans,.int (wCost P f cs + 2),.lst (wSteps (wi:Int) P f 0 cs ++ [.int ((3 * cs.length:Nat):Int),.int ((3 * cs.length + 1:Nat):Int)])]:=by
  have hmv:mvD (frame0 "call" (wi:Int) (wi:Int) (ci:Int) 0 3 400 1 false)=none:=if_neg fun z=>absurd z.2 (by show ¬ (0:Int) < 0; decide)
  have cb:=Zic P cs f
  have wl:=Zdn P cs
  have w1:(S0 wi).rows[3 * cs.length]?=some (("push" : Str),some ans):=by rw [hr,List.getElem?_append_right (by omega),wl,Nat.sub_self]; rfl
  have w2:(S0 wi).rows[3 * cs.length + 1]?=some (l,none):=by rw [hr,List.getElem?_append_right (by omega),wl,Nat.add_sub_cancel_left]; rfl
  have q:=run_w (A:=A) (S0:=S0) (G:=GoW A S0 n0) (rows:=(S0 wi).rows) (n:=2) (wi:=wi) (P:=P) (x:=frame0 "call" (wi:Int) (wi:Int) (ci:Int) 0 3 400 1 false) rfl rfl rfl hi hA cs 0 0 ds0 f (fun j hj=>by rw [Nat.zero_add,hr,List.getElem?_append_left hj]) hs (by show 0 + wCost P f cs <= 400; omega) (by
    rw [Nat.zero_add,Int.zero_add,wl]
    exact Zf2 (k:=ans) (u':=wCost P f cs + 1) rfl w1 (by show 0 < 24; decide) rfl (by show wCost P f cs + 1 <= 400; omega) (ZmY (st:=[]) (v:=ans) (u':=wCost P f cs + 2) rfl w2 hle (by show 0 < 24; decide) (by omega) (by show wCost P f cs + 2 <= 400; omega)))
  refine ⟨endS (frame0 "call" (wi:Int) (wi:Int) (ci:Int) 0 3 400 1 false) [] (((3 * cs.length + 1:Nat):Int) + 1) (wCost P f cs + 2) e ans,wSteps (wi:Int) P f 0 cs ++ [.int ((3 * cs.length:Nat):Int),.int ((3 * cs.length + 1:Nat):Int)],⟨wi,ac,3 * cs.length + 2,ds0 ++ wDeeds (wi:Int) P f cs,wSteps (wi:Int) P f 0 cs ++ [.int ((3 * cs.length:Nat):Int),.int ((3 * cs.length + 1:Nat):Int)],rfl,rfl,hi,hA,fun d hq=>by rw [hmv] at hq; (cases hq),?_,by omega,?_,?_,(by rw [hmv] <;> rfl)⟩,rfl⟩
  . rw [hmv,show ds0 ++ (none:Option Dd).toList=ds0 from List.append_nil _]; exact q
  . rw [List.length_append,ZbE]; omega
  . rcases hle with ⟨_,rfl⟩|⟨_,rfl⟩
    . rw [if_pos rfl]; exact (if_pos rfl).symm
    . rw [if_neg (by decide),List.append_nil]; exact (if_neg (by show ¬ some ("fail" : Str)=some "well"; decide)).symm
theorem ZkG (who:Int) (P:Int->Int):∀ cs f i,PlainDs (wSteps who P f i cs)/\Dt.deps (wSteps who P f i cs) <= 1
  | [],_,_=>⟨by unfold wSteps PlainDs; trivial,Nat.zero_le _⟩
  | c :: cs,f,i=>by
    have h:=ZkG who P cs (nextF P f c) (i + 3)
    refine ⟨ZeT ?_ h.1,?_⟩
    . simp [ZbC,PlainDs,ZbM,Zfg]
    . show Dt.deps (ZbC who P f i c ++ wSteps who P (nextF P f c) (i + 3) cs) <= 1
      rw [Zga]
      have:Dt.deps (ZbC who P f i c) <= 1:=by simp [ZbC,Dt.deps,Dt.dep,ZiQ]
      omega
theorem ZlH (wi ci:Nat) (e:Str) (ans u:Int) (P f:Int->Int) (cs:List Int) (hcs:cs.length <= 19) (a b:Int):ZbM (.tup [.str "call", .int (wi:Int),.int (wi:Int),.int (ci:Int),.int 0,.int 3,.int 400,.str e,.int ans,.int u,.lst (wSteps (wi:Int) P f 0 cs ++ [.int a,.int b])])/\(Dt.tup [.str "call", .int (wi:Int),.int (wi:Int),.int (ci:Int),.int 0,.int 3,.int 400,.str e,.int ans,.int u,.lst (wSteps (wi:Int) P f 0 cs ++ [.int a,.int b])]).dep <= 10:=by
  have h:=ZkG (wi:Int) P cs f 0
  have hl:=Zfe (wi:Int) P cs f 0
  have pa:PlainDs (wSteps (wi:Int) P f 0 cs ++ [.int a,.int b]):=ZeT h.1 (by simp [PlainDs,ZbM])
  have la:(wSteps (wi:Int) P f 0 cs ++ [Dt.int a,.int b]).length <= 100000:=by rw [List.length_append,hl]; show _ + 2 <= _; omega
  refine ⟨?_,?_⟩
  . simp only [ZbM,PlainDs,pa,la,List.length_cons,List.length_nil]
    simp
  . simp only [Dt.dep,Dt.deps,Zga]
    have:=h.2
    omega
theorem Rooms.madeF {K:PySem.W.Frag} {C:Addr} {H0 H H2:Hp} {R:Addr} {A:Nat->Option AcI} {S:Nat->AcS} {m:Nat} (r:Rooms K C H R A S m) (n0:H0 R=none) (s0:Same H0 H) {i:Nat} (hi:i < 16) (np:∀ j y,j < 16->A j=some y->y.pr ≠ R) {a dx pr st:Addr} {c p:Int} {rs:List Row} {f:Int->Int} {m0:Nat} (hm:m0 <= m) (s:Same H H2) (ha:H a=none) (hpr:H pr=none) (hst:H st=none) (ac:AcAt K C H2 a dx pr st c p 0 rs f m0) :
    ∃ H',upd H2 R (.lst (((List.range 16).map fun j=>roomV (A j)).set i (.ref a)))=H'/\Rooms K C H' R (setO A i ⟨a,dx,pr,st⟩) (setS S i ⟨c,p,0,rs,f⟩) m/\(∀ j y,j < 16->setO A i ⟨a,dx,pr,st⟩ j=some y->y.pr ≠ R)/\Same H0 H':=by
  have nR:pr ≠ R:=Ne.symm (Zah r.ob hpr)
  have im:SameI H2 (upd H2 R (.lst (((List.range 16).map fun j=>roomV (A j)).set i (.ref a)))):=SameI.upd (s _ _ r.ob) Zbo
  obtain ⟨xs,g1,g2⟩:=ac.pg
  obtain ⟨kvs,g3,g4,g5⟩:=ac.sto
  refine ⟨_,rfl,r.add (x:=⟨a,dx,pr,st⟩) hi Zag ⟨by rw [Zaj (Za2 ac.ob (s _ _ r.ob) (by intro z; cases z))]; exact ac.ob,⟨xs,by rw [Zaj nR]; exact g1,g2.keep im⟩,kvs,by rw [Zaj (Za2 g3 (s _ _ r.ob) (by intro z; cases z))]; exact g3,Nat.le_trans g4 hm,g5⟩ (fun b o h h1 _=>by rw [Zaj h1]; exact s _ _ h) (fun j y hj hy=>?_) np ha hst,fun j y hj hy=>?_,(s0.trans s).wr n0⟩
  . obtain ⟨kv,q,_⟩:=(r.ac j y hj hy).sto
    rw [Zaj (Za2 q r.ob (by intro z; cases z)),q]
    exact s _ _ q
  . rcases ZbP j y hy with ⟨rfl,rfl⟩|⟨_,gy⟩
    . exact nR
    . exact np j y hj gy
theorem Zm1 (f:Int->Int) (p0 p1 p2:Int):acF34 (acF34 f p0 p1 p2) p0 p1 p2=acF34 f p0 p1 p2:=by
  funext q
  unfold acF34
  split <;> rfl
theorem DictP.ac {H:Hp} {D:Addr} {f:Int->Int} {m:Nat} {p0 p1 p2:Int} (h:DictP H D f m [p0,p1,p2]):DictP H D (acF34 f p0 p1 p2) m [p0,p1,p2]:=by
  obtain ⟨kvs,a,b,c⟩:=h
  refine ⟨kvs,a,b,fun p hp=>?_⟩
  rw [c p hp]
  unfold acF34
  rw [if_pos (by simpa using hp)]
theorem TupsAt.cons {H:Hp} {d:Dd} {ds:List Dd} {t:Addr} {ts:List Addr} (h1:H t=some (.tup (tellV d))) (h:TupsAt H ds ts):TupsAt H (d :: ds) (t :: ts):=by
  refine ⟨congrArg (· + 1) h.1,fun n d' t' e1 e2=>?_⟩
  cases n with
  | zero=>cases e1; cases e2; exact h1
  | succ n=>exact h.2 n d' t' e1 e2
theorem slot34 (c:Int):∃ w i:Nat,c % 16=(w:Int)/\(c % 16 + 1) % 16=(i:Int)/\w < 16/\i < 16/\i ≠ w :=
  ⟨(c % 16).toNat,((c % 16 + 1) % 16).toNat,by omega,by omega,by omega,by omega,by omega⟩
theorem cut34 (ns:List Int):∃ ms:List Int,cutV (ns.map V.int) (some 7) (some 26)=ms.map V.int/\ms.length <= 19 :=
  ⟨(ns.drop 7).take 19,by rw [show (7:Int)=((7:Nat):Int) from rfl,show (26:Int)=((26:Nat):Int) from rfl,Zi1,List.map_take,List.map_drop],by rw [List.length_take]; omega⟩
noncomputable def spLaw (K:PySem.W.Frag):Sp:=fun vs H Q _=>∃ (a:Addr) (ns:List Int),vs=[.ref a]/\SqL K H a (ns.map V.int)/\ns.length <= 63/\∀ H',Q (.bl true) H'
section
variable {P:Program} {w:World} {K:PySem.W.Frag} {mg:Str->Option Value} {base:Heap}
theorem Zig:FnScope ["_law_script", "_law_k"] ["_law_script", "_law_k"] (Zab ZdG):=⟨rfl,rfl,rfl,by decide +kernel,rfl,by decide +kernel,by decide +kernel⟩
theorem Zih    (D:Zap K mg "_law_cell_at" ZdG) (n_len:mg "len" = none):Cal P w K mg base 1 "_law_cell_at" (ZkE K):=by
  refine Zay (N:=["_law_script", "_law_k"]) (ps:=["_law_script", "_law_k"]) D Zig (fun vs H Q E h=>?_) (fun _ _ _ _ _ _ us hl=>bd2 (R:=fun us=>bindArgs _ ⟨us,[]⟩=pure (List.zip _ us)) (fun _ _=>rfl) us hl) (fun f cdv A outer s H vs Q E hr h=>?_)
  . obtain ⟨p,ns,j,rfl,_⟩:=h; rfl
  . obtain ⟨p,ns,j,rfl,hj,hl,k⟩:=h
    refine ⟨_,(Zac (Zba (ZaC ZkQ (pv 1) (ZaG Zb7 rfl n_len PySem.boot_len (Zaa (pv 0) Zae)) (nomark _)) (Zad (Zaq (ZaI ZaA (pv 0) (pv 1) (fun _ _=>rfl)))) ZaE)
      (Zad (Zaq Zaf))),?_⟩
    walk_at "nx"
    repeat' walk_at "rdt"
    . rename_i hlt
      rw [List.length_map] at hlt
      obtain ⟨c,e1,e2⟩:=Zlc (xs:=ns) hj hlt
      have e3:(ns.map V.int)[j.toNat]?=some (.int c):=by rw [List.getElem?_map,e2]; rfl
      refine Za8 hl (ZbO e3 (by omega)) ?_
      unfold cellF at k
      rw [e2] at k
      exact k
    . rename_i hlt
      rw [List.length_map] at hlt
      unfold cellF at k
      rw [List.getElem?_eq_none (by omega)] at k
      exact k
end
section
variable {P:Program} {w:World} {K:PySem.W.Frag} {mg:Str->Option Value} {base:Heap}
theorem Zbg:FnScope ["_law_script", "_law_who", "_law_caller", "_law_places", "_law_answer", "_law_ahead", "_law_k", "_law_store", "_law_rows", "_law_steps", "_law_deeds", "_law_used", "_law_at", "_law_end", "_law_last", "_law_rooms", "_law_journal", "_law_found", "_law_due", "_law_place"] ["_law_script"] (Zab Zlp):=⟨rfl,rfl,rfl,by decide +kernel,rfl,by decide +kernel,by decide +kernel⟩
theorem ok_law   {cAccount:Addr} {cJournal:Addr} {cNote:Addr} {cSave:Addr} {f:Addr} {fd:FuncData} (F:Fun K "law" "law" Zlp f fd) (tAccount:T_Account K mg cAccount) (tJournal:T_Journal K mg cJournal) (tNote:T_Note K mg cNote) (tSave:T_Save K mg cSave) (i_Account:ICal P w K mg base 1 "Account" cAccount (spInit K cAccount)) (i_Journal:ICal P w K mg base 1 "Journal" cJournal (Zki cJournal)) (m_Journal_write:MCal P w K mg base 3 cJournal "write" (ZhI K cAccount cJournal cSave cMove cNote)) (i_Note:ICal P w K mg base 1 "Note" cNote (ZfI cNote)) (i_Save:ICal P w K mg base 1 "Save" cSave (ZfG cSave)) (m_Journal_told:MCal P w K mg base 2 cJournal "told" (Zkk cJournal cSave cMove cNote)) (m_Account_loaded:MCal P w K mg base 1 cAccount "loaded" (Zdf K cAccount)) (m_Journal_worth:MCal P w K mg base 2 cJournal "worth" (ZiN cJournal cSave cMove cNote)) (c_Lwent:Cal P w K mg base 2 "_law_went" (spWent K)) (c_Laccount:Cal P w K mg base 3 "_law_account" (ZiO K cAccount)) (c_enter:Cal P w K mg base 49 "enter" (ZiI K cAccount cJournal cSave cMove cNote)) (c_Lcell_at:Cal P w K mg base 1 "_law_cell_at" (ZkE K)) (c_Lnumber:Cal P w K mg base 1 "_law_number" Zid) (c_Lalike:Cal P w K mg base 12 "_law_alike" (Zf3 K 10)) (c_Lworth:Cal P w K mg base 1 "_law_worth" (ZiP K)) (n_range:mg "range" = none) (n_dict:mg "dict" = none) (n_len:mg "len" = none) (n_int:mg "int" = none):FnOk P w K mg base CX0 50 f fd ["_law_script"] (spLaw K):=by
  refine F.ok (N:=["_law_script", "_law_who", "_law_caller", "_law_places", "_law_answer", "_law_ahead", "_law_k", "_law_store", "_law_rows", "_law_steps", "_law_deeds", "_law_used", "_law_at", "_law_end", "_law_last", "_law_rooms", "_law_journal", "_law_found", "_law_due", "_law_place"]) Zbg (fun vs H Q E h=>?_) (fun cdv A outer s H vs Q E hr h=>?_)
  . obtain ⟨a,ns,rfl,_⟩:=h; rfl
  . obtain ⟨a,ns,rfl,hS,hlen,k⟩:=h
    refine ⟨_,(Zac (Zax (i:=1) Zbg.nd rfl (by first|exact Or.inl rfl|exact Or.inr rfl) (ZaH ZbD (ZaF c_Lcell_at (hr.mono (by decide)) rfl (Zaa (pv 0) (Zaa Zaf Zae))) Zaf))
      (Zac (Zax (i:=2) Zbg.nd rfl (by first|exact Or.inl rfl|exact Or.inr rfl) (ZaH ZbD (ZaH ZbK (pv 1) Zaf) Zaf))
      (Zac (Zmm (i:=3) ["_law_k"] Zbg.nd rfl rfl rfl (show CompScope (Zab Zlp) ["_law_script", "_law_who", "_law_caller", "_law_places", "_law_answer", "_law_ahead", "_law_k", "_law_store", "_law_rows", "_law_steps", "_law_deeds", "_law_used", "_law_at", "_law_end", "_law_last", "_law_rooms", "_law_journal", "_law_found", "_law_due", "_law_place"] ["_law_k"] _ from ⟨rfl,by decide +kernel,by decide +kernel,by decide +kernel,by decide +kernel,by decide +kernel⟩) (Zc6 rfl n_range (Zaa Zaf Zae)) (fun _ _ _ _ _=>(Zbr (i:=0) (show (["_law_k", "_law_script", "_law_who", "_law_caller", "_law_places", "_law_answer", "_law_ahead", "", "_law_store", "_law_rows", "_law_steps", "_law_deeds", "_law_used", "_law_at", "_law_end", "_law_last", "_law_rooms", "_law_journal", "_law_found", "_law_due", "_law_place"]:List Str).Nodup by decide +kernel) rfl (Or.inl rfl) (.inr rfl))) (fun _ _ _ _ _=>Zfq) (fun _ _ _ _ _=>(ZaH ZbD (ZaF c_Lcell_at (hr.mono (by decide)) rfl (Zaa (pv 1) (Zaa (ZaH ZbK Zaf (pv 0)) Zae))) (ZaH Zjs Zaf Zaf))))
      (Zac (Zax (i:=4) Zbg.nd rfl (by first|exact Or.inl rfl|exact Or.inr rfl) (ZaH ZbD (ZaF c_Lcell_at (hr.mono (by decide)) rfl (Zaa (pv 0) (Zaa Zaf Zae))) (ZaH Zjs Zaf Zaf)))
      (Zac (Zax (i:=5) Zbg.nd rfl (by first|exact Or.inl rfl|exact Or.inr rfl) Zit)
      (Zac (Zea PassesOwn.never rfl (Zc6 rfl n_range (Zaa Zaf Zae)) (Zbr (i:=6) Zbg.nd rfl (by first|exact Or.inl rfl|exact Or.inr rfl))
      (Zad (Zhl (Zfo hr) (pv 5) (ZaI ZaA (pv 3) (pv 6) (fun _ _=>rfl)) (ZaF c_Lnumber (hr.mono (by decide)) rfl (Zaa (ZaH ZbN (ZaF c_Lcell_at (hr.mono (by decide)) rfl (Zaa (pv 0) (Zaa (ZaH ZbK Zaf (pv 6)) Zae))) Zaf) Zae)) rfl)))
      (Zac (Zax (i:=7) Zbg.nd rfl (by first|exact Or.inl rfl|exact Or.inr rfl) (Zb5 Zln rfl n_dict PyProof.Rows.boot_dict (Zaa (pv 5) Zae)))
      (Zac (Zgd (ZaF c_Lwent (hr.mono (by decide)) rfl (Zaa (ZkW Zmh (pv 0) (ZjE Zaf) (ZjE Zaf)) (Zaa (pv 1) (Zaa (pv 3) (Zaa (pv 7) Zae))))) (pg_tup (n:=4) rfl (Zd2 (Zbr (i:=8) Zbg.nd rfl (by first|exact Or.inl rfl|exact Or.inr rfl)) (Zd2 (Zbr (i:=9) Zbg.nd rfl (by first|exact Or.inl rfl|exact Or.inr rfl)) (Zd2 (Zbr (i:=10) Zbg.nd rfl (by first|exact Or.inl rfl|exact Or.inr rfl)) (Zd2 (Zbr (i:=11) Zbg.nd rfl (by first|exact Or.inl rfl|exact Or.inr rfl)) Zl9))))))
      (Zac (Zax (i:=12) Zbg.nd rfl (by first|exact Or.inl rfl|exact Or.inr rfl) (ZaG Zb7 rfl n_len PySem.boot_len (Zaa (pv 8) Zae)))
      (Zac (Zax (i:=13) Zbg.nd rfl (by first|exact Or.inl rfl|exact Or.inr rfl) ZaJ)
      (Zac (Zax (i:=14) Zbg.nd rfl (by first|exact Or.inl rfl|exact Or.inr rfl) (ZbB (Zaa ZaJ Zae)))
      (Zac (Zgz (Zba (ZaC ZbJ (ZaH ZbD (ZaH ZbN (ZaF c_Lcell_at (hr.mono (by decide)) rfl (Zaa (pv 0) (Zaa Zaf Zae))) Zaf) Zaf) Zaf (nomark _)) (Zac (Zax (i:=13) Zbg.nd rfl (by first|exact Or.inl rfl|exact Or.inr rfl) ZaJ)
      (Zac (Zax (i:=14) Zbg.nd rfl (by first|exact Or.inl rfl|exact Or.inr rfl) (ZbB (Zaa ZaJ Zae)))
      (Zac (Zax (i:=7) Zbg.nd rfl (by first|exact Or.inl rfl|exact Or.inr rfl) (pv 5))
      (Zad (Zax (i:=10) Zbg.nd rfl (by first|exact Or.inl rfl|exact Or.inr rfl) (ZbL Zae)))))) ZaE))
      (Zac (Zax (i:=15) Zbg.nd rfl (by first|exact Or.inl rfl|exact Or.inr rfl) (ZaH op_rep (ZbL (Zaa Zcn Zae)) Zaf))
      (Zac (Zgd (ZaF c_Laccount (hr.mono (by decide)) rfl (Zaa (ZaH Ze8 (pv 8) (ZbL (Zaa (ZbB (Zaa ZaJ (Zaa (pv 4) Zae))) (Zaa (pv 14) Zae)))) (Zaa (pv 3) (Zaa (pv 5) Zae)))) (Zik (pv 15) (pv 1) Zd4))
      (Zac (Zgd (Zcr i_Account (hr.mono (by decide)) rfl (Zaa Zaf (Zaa Zaf (Zaa (ZbL Zae) Zae)))) (Zik (pv 15) (pv 2) Zd4))
      (Zac (Zax (i:=16) Zbg.nd rfl (by first|exact Or.inl rfl|exact Or.inr rfl) (Zcr i_Journal (hr.mono (by decide)) rfl (Zaa (pv 15) Zae)))
      (Zac (Zgz (Zba (ZaC ZbJ (ZaH ZbD (ZaH ZbN (ZaF c_Lcell_at (hr.mono (by decide)) rfl (Zaa (pv 0) (Zaa Zaf Zae))) Zaf) Zaf) Zaf (nomark _)) (Zac (Zat (ZaB m_Journal_write (hr.mono (by decide)) (pv 16) (Zaa (Zcr i_Note (hr.mono (by decide)) rfl (Zaa (pv 1) (Zaa Zaf Zae))) Zae)))
      (Zac (Zat (ZaB m_Journal_write (hr.mono (by decide)) (pv 16) (Zaa (Zcr i_Save (hr.mono (by decide)) rfl (Zaa (pv 2) (Zaa Zaf (Zaa Zaf (Zaa Zaf Zae))))) Zae)))
      (Zad (Zax (i:=10) Zbg.nd rfl (by first|exact Or.inl rfl|exact Or.inr rfl) (ZaH Ze8 (ZbL (Zaa (ZbB (Zaa ZaJ (Zaa (pv 1) (Zaa Zaf Zae)))) (Zaa (ZbB (Zaa ZaJ (Zaa (pv 2) (Zaa Zaf (Zaa Zaf (Zaa Zaf Zae)))))) Zae))) (pv 10)))))) ZaE))
      (Zac (Zax (i:=17) Zbg.nd rfl (by first|exact Or.inl rfl|exact Or.inr rfl) (ZaF c_enter (hr.mono (by decide)) rfl (Zaa (pv 15) (Zaa (pv 16) (Zaa (pv 2) (Zaa (pv 1) (Zaa Zaf (Zaa Zaf (Zaa Zaf Zae)))))))))
      (Zac (Zax (i:=18) Zbg.nd rfl (by first|exact Or.inl rfl|exact Or.inr rfl) (ZbB (Zaa ZaJ (Zaa (pv 1) (Zaa (pv 1) (Zaa (pv 2) (Zaa Zaf (Zaa Zaf (Zaa Zaf (Zaa (pv 13) (Zaa (pv 4) (Zaa (ZaH ZbK (pv 11) Zaf) (Zaa (ZaH Ze8 (pv 9) (ZbL (Zaa (pv 12) (Zaa (ZaH ZbK (pv 12) Zaf) Zae)))) Zae)))))))))))))
      (Zac (Zba (PW.pt (pw_or (Ze3 (Zb3 (ZaF c_Lalike (hr.mono (by decide)) rfl (Zaa (pv 17) (Zaa (pv 18) Zae))))) (ZlK (Ze3 (Zb3 (ZaF c_Lalike (hr.mono (by decide)) rfl (Zaa (Zce m_Journal_told (hr.mono (by decide)) (pv 16)) (Zaa (pv 10) Zae)))))))) (Zad (Zaq ZeU)) ZaE)
      (Zac (Zea PassesOwn.never rfl (ZcP (pv 3)) (Zbr (i:=19) Zbg.nd rfl (by first|exact Or.inl rfl|exact Or.inr rfl))
      (Zad (Zba (Ze3 (Zb3 (ZaF c_Lalike (hr.mono (by decide)) rfl (Zaa (ZaB m_Account_loaded (hr.mono (by decide)) (ZaI ZaA (pv 15) (pv 1) (fun _ _=>rfl)) (Zaa (pv 19) Zae)) (Zaa (Zeh (Zfo hr) (pv 7) (pv 19) (fun _ _=>rfl)) Zae))))) (Zad (Zaq ZeU)) ZaE)))
      (Zac (Zba (ZaC Zge (ZaB m_Account_loaded (hr.mono (by decide)) (ZaI ZaA (pv 15) (pv 2) (fun _ _=>rfl)) (Zaa Zaf Zae)) (ZaH Zim Zaf (Zb5 Zeb rfl n_int PyProof.Rows.boot_int (Zaa (Zbs ZbJ (ZaH ZbD (ZaH ZbN (ZaF c_Lcell_at (hr.mono (by decide)) rfl (Zaa (pv 0) (Zaa Zaf Zae))) Zaf) Zaf) Zaf (nomark _)) Zae))) (nomark _)) (Zad (Zaq ZeU)) ZaE)
      (Zad (Zaq (Zc5 (ZaF c_Lalike (hr.mono (by decide)) rfl (Zaa (Zce m_Journal_worth (hr.mono (by decide)) (pv 16)) (Zaa (ZaF c_Lworth (hr.mono (by decide)) rfl (Zaa (pv 10) Zae)) Zae))) (Zc4 (Zbs ZbJ (Zak (ZaI ZaA (pv 15) (pv 1) (fun _ _=>rfl)) rfl) Zaf (nomark _)))))))))))))))))))))))))))),?_⟩
    walk_at "nx"
    repeat walk_at "rdk"
    refine ⟨a,ns,0,rfl,by decide,hS,?_⟩
    repeat walk_at "rdk"
    generalize hc0:cellF ns 0=c0
    obtain ⟨wi,ci,ewi,eci,bw,bc,nwc⟩:=slot34 c0
    rw [eci,ewi]
    clear eci ewi
    refine Zfr (Zdb ?_)
    repeat walk_at "rdk"
    refine ⟨_,rfl,by decide,by decide,fun PA q_PA=>?_⟩
    refine Zi0 (ys:=(List.range 3).map fun j:Nat=>V.int (cellF ns (1 + (0 + (j:Int))) % 18446744073709551616)) q_PA (by rw [List.length_map,List.length_range]; rfl) (by decide) ?_ ?_
    . intro i y H' Q' hi hy sm q'
      rw [List.getElem?_map,List.getElem?_range (show i < 3 from hi)] at hy
      cases hy
      repeat walk_at "rdk"
      refine ⟨a,ns,_,rfl,by omega,sm.seq hS,?_⟩
      repeat walk_at "rdk"
      rw [p64L]
      repeat walk_at "rdk"
      exact q'
    obtain ⟨p0,p1,p2,eps⟩:∃ p0 p1 p2:Int,((List.range 3).map fun j:Nat=>V.int (cellF ns (1 + (0 + (j:Int))) % 18446744073709551616))=[.int p0,.int p1,.int p2]:=⟨_,_,_,rfl⟩
    rw [eps]
    clear eps
    have bh0:Gw H H []:=Gw.start
    generalize e_:upd _ PA _=bH1; have bh1:=bh0.newE q_PA e_; clear e_; repeat walk_at "rdk"
    refine ⟨a,ns,6,rfl,by decide,bh1.s.seq hS,?_⟩
    repeat walk_at "rdk"
    rw [p64L]
    repeat walk_at "rdk"
    generalize cellF ns 6 % 18446744073709551616=ans
    rename_i AH q_AH
    generalize e_:upd _ AH _=bH2; have bh2:=bh1.newE q_AH e_; clear e_; repeat walk_at "rdk"
    have nAH:=bh1.fresh q_AH
    have fPA:=bh2.h.2.1
    have nPA:PA ≠ AH:=Zah (bh1.h.1) q_AH
    refine ZdO (Zdb ?_)
    repeat walk_at "rdk"
    refine ⟨_,rfl,by decide,by decide,?_⟩
    refine Zc7 (n:=3) (fun i σ' H'=>KeptX (·=AH) bH2 H'/\∃ kvs f v,H' AH=some (.dK kvs)/\kvs.length <= i/\(∀ p ∈ [p0,p1,p2].take i,valV kvs (Sum.inl p:Key)=some (.int (f p)))/\σ'=[some (.ref a),some (.int (wi:Int)),some (.int (ci:Int)),some (.ref PA),some (.int ans),some (.ref AH),v,none,none,none,none,none,none,none,none,none,none,none,none,none]) ⟨(Same.refl _).keptX,[],fun _=>0,_,bh2.h.1,Nat.le_refl 0,(fun _ h=>nomatch h),rfl⟩ ?_ ?_
    . rintro i σ' HA hi ⟨kA,kvs,f,v,eA,lA,vA,rfl⟩
      have sA:Same H HA:=fun b o e=>kA b o (bh2.s _ _ e) (Zah e nAH)
      obtain ⟨c,hc⟩:∃ c,[p0,p1,p2][i]?=some c:=⟨_,List.getElem?_eq_getElem hi⟩
      have et:[p0,p1,p2].take (i + 1)=[p0,p1,p2].take i ++ [c]:=by rw [List.take_add_one,hc]; rfl
      have hat:atI [V.int p0,.int p1,.int p2] (0 + (i:Int))=some (.int c):=by
        rw [Int.zero_add]
        exact Zhg (by show ([p0,p1,p2].map V.int)[i]?=_; rw [List.getElem?_map,hc]; rfl)
      repeat walk_at "rdk"
      refine ⟨a,ns,_,rfl,by omega,sA.seq hS,?_⟩
      repeat walk_at "rdk"
      refine ⟨_,rfl,?_⟩
      repeat walk_at "rdk"
      refine Za8 (Zaz (kA _ _ fPA nPA)) hat ?_
      refine Zd5 eA (Nat.lt_of_le_of_lt (show _ <= 100 by omega) (by decide)) ?_
      refine ⟨kA.trans (KeptX.upd rfl),_,putFn f c (numF (cellF ns (4 + (0 + (i:Int))) / 5)),_,Zag,Nat.le_trans (ZbQ ..) (Nat.add_le_add_right lA 1),fun p hp=>?_,rfl⟩
      rw [Zfl]
      unfold putFn
      by_cases e:p=c
      . rw [if_pos (by rw [e]),if_pos e]
      . rw [if_neg (fun z=>e (Sum.inl.inj z)),if_neg e]
        rw [et] at hp
        rcases List.mem_append.1 hp with h|h
        . exact vA p h
        . exact absurd (List.mem_singleton.1 h) e
    rintro σ1 H1 ⟨k1,kvs,f0,v1,eAH,lA,vA,rfl⟩
    have vA:∀ p ∈ [p0,p1,p2],valV kvs (Sum.inl p:Key)=some (.int (f0 p)):=vA
    have s1:Same H H1:=fun b o e=>k1 b o (bh2.s _ _ e) (Zah e nAH)
    have gPA:=k1 _ _ fPA nPA
    have dF:DictP H1 AH (acF34 f0 p0 p1 p2) 10 [p0,p1,p2]:=DictP.ac ⟨kvs,eAH,Nat.le_trans lA (by decide),vA⟩
    have hFF:=Zm1 f0 p0 p1 p2
    have hF0:∀ p,acF34 f0 p0 p1 p2 p ≠ 0->p ∈ [p0,p1,p2]:=fun p hp=>by
      unfold acF34 at hp
      by_cases q:p=p0\/p=p1\/p=p2
      . simpa using q
      . rw [if_neg q] at hp; exact absurd rfl hp
    generalize acF34 f0 p0 p1 p2=F at dF hFF hF0
    obtain ⟨kvs',eAH',lF,vF⟩:=dF
    rw [eAH] at eAH'
    cases eAH'
    clear vA fPA
    repeat walk_at "rdk"
    refine Zlo eAH fun DD q_DD=>?_
    have ch0:Gw H1 H1 []:=Gw.start
    generalize e_:upd _ DD _=cH1; have ch1:=ch0.newE q_DD e_; clear e_; repeat walk_at "rdk"
    have sDD:=ch1
    refine ZlU ((s1.trans ch1.s).seq hS) fun CL q_CL=>?_
    obtain ⟨cs,ecs,hcs⟩:=cut34 ns
    rw [ecs]
    generalize e_:upd _ CL _=cH2; have ch2:=ch1.newE q_CL e_; clear e_; repeat walk_at "rdk"
    have nDA:AH ≠ DD:=Zah eAH q_DD
    have nDP:PA ≠ DD:=Zah gPA q_DD
    refine ⟨CL,PA,DD,cs,(wi:Int),p0,p1,p2,F,rfl,ch2.h.1,hcs,ch2.s _ _ gPA,⟨kvs,ch2.h.2.1,lF,vF⟩,fun t RL SL DL xs ts H2 k2 et eRL hR eSL eDL hT hD2=>?_⟩
    generalize pl3 p0 p1 p2=P at *
    have s2:Same H1 H2:=fun b o e=>k2 b o (ch2.s _ _ e) (Zah e q_DD)
    have fAH:=s2 _ _ eAH
    have fPA:=s2 _ _ gPA
    have sH2:=s1.trans s2
    have hRs:=Zaz (K:=K) eRL
    have hxl:xs.length=3 * cs.length:=by rw [<- hR.1,Zdn]
    obtain ⟨kvD,eDD,lDD,vDD⟩:=hD2
    repeat walk_at "rdk"
    try (refine ⟨t,_,rfl,ZbS et,rfl,?_⟩; repeat walk_at "rdk")
    have eh0:Gw H2 H2 []:=Gw.start
    repeat walk_at "rdk"
    refine ⟨by show 1 <= sizeLine; decide,fun LG q_LG=>?_⟩
    generalize e_:upd _ LG _=eH1; have eh1:=eh0.newE q_LG e_; clear e_; repeat walk_at "rdk"
    refine Zgy (fun σ' H'=>∃ (LT:Addr) (l en:Str) (SD DL2:Addr) (ts2:List Addr) (FF:Int->Int) (dsL:List Dd),Same H2 H'/\H' LT=some (.tup [.str l])/\(l = "give" /\ en = "well" \/ l = "fail" /\ en = "fail")/\H' DL2=some (.lst (ts2.map V.ref))/\TupsAt H' dsL ts2/\DictP H' SD FF 40 [p0,p1,p2]/\(SD=AH\/SD=DD)/\(FF=(if en = "well" then wF P F cs else F))/\(dsL=(if en = "well" then wDeeds (wi:Int) P F cs else []))/\σ'=[some (.ref a),some (.int (wi:Int)),some (.int (ci:Int)),some (.ref PA),some (.int ans),some (.ref AH),v1,some (.ref SD),some (.ref RL),some (.ref SL),some (.ref DL2),some (.int (wCost P F cs)),some (.int (xs.length:Int)),some (.str en),some (.ref LT),none,none,none,none,none]) ?_ ?_
    . repeat walk_at "rdk"
      refine ⟨a,ns,0,rfl,by decide,(sH2.trans eh1.s).seq hS,?_⟩
      repeat' walk_at "rdk"
      . skip
        refine ⟨by show 1 <= sizeLine; decide,fun LF q_LF=>?_⟩
        generalize e_:upd _ LF _=Z1; have z1:=eh1.newE q_LF e_; clear e_; repeat walk_at "rdk"
        refine ⟨by show 0 <= sizeLine; decide,fun D0 q_D0=>?_⟩
        generalize e_:upd _ D0 _=Z2; have z2:=z1.newE q_D0 e_; clear e_; repeat walk_at "rdk"
        exact ⟨LF, "fail", "fail", AH,D0,[],F,[],z2.s,z2.h.2.1,.inr ⟨rfl,rfl⟩,z2.h.1,TupsAt.nil,⟨kvs,z2.s _ _ fAH,Nat.le_trans lF (by decide),vF⟩,.inl rfl,rfl,rfl,rfl⟩
      . exact ⟨LG, "give", "well", DD,DL,ts,wF P F cs,_,eh1.s,eh1.h.1,.inl ⟨rfl,rfl⟩,eh1.s _ _ eDL,hT.mono (fun b ys h=>eh1.s _ _ h),⟨kvD,eh1.s _ _ eDD,lDD,vDD⟩,.inr rfl,rfl,rfl,rfl⟩
    rintro σ2 H3 ⟨LT,l,en,SD,DL2,ts2,FF,dsL,s3,eLT,hle,eDL2,hT2,hSD,oSD,hFF2,hdsL,rfl⟩
    have gAH:=s3 _ _ fAH
    have gDD:=s3 _ _ eDD
    have gPA:=s3 _ _ fPA
    have gRL:=s3 _ _ eRL
    have gSL:=s3 _ _ eSL
    have gR:=hR.keep s3.imm
    have gT:=hT.mono (fun b ys h=>s3 b _ h)
    have sH3:=sH2.trans s3
    clear eRL hR eSL hT fAH fPA eDL et eAH hRs
    have fh0:Gw H3 H3 []:=Gw.start
    repeat walk_at "rdk"
    refine ⟨by show 1 <= sizeLine; decide,fun z q_z=>?_⟩
    generalize e_:upd _ z _=fH1; have fh1:=fh0.newE q_z e_; clear e_; repeat walk_at "rdk"
    refine ⟨z,16,[.non],rfl,rfl,fh1.h.1,by decide,by decide,by decide,fun R q_R=>?_⟩
    have nR:=fh1.fresh q_R
    generalize e_:upd _ R _=fH2; have fh2:=fh1.newE q_R e_; clear e_; repeat walk_at "rdk"
    have r0:Rooms K cAccount fH2 R (fun _=>none) (fun _=>⟨0,0,0,[],fun _=>0⟩) 6:=Rooms.empty fh2.h.1 _
    have np0:∀ j y,j < 16->(fun _=>none:Nat->Option AcI) j=some y->y.pr ≠ R:=fun _ _ _ h=>(nomatch h)
    have sB0:=fh2.s
    have gh0:Gw fH2 fH2 []:=Gw.start
    repeat walk_at "rdk"
    refine ⟨by show 2 <= sizeLine; decide,fun PT q_PT=>?_⟩
    generalize e_:upd _ PT _=gH1; have gh1:=gh0.newE q_PT e_; clear e_; repeat walk_at "rdk"
    refine ⟨by show 2 <= sizeLine; decide,fun PL q_PL=>?_⟩
    generalize e_:upd _ PL _=gH2; have gh2:=gh1.newE q_PL e_; clear e_; repeat walk_at "rdk"
    refine Zfa (gh2.s _ _ (sB0 _ _ gRL)) gh2.h.1 (Nat.le_trans (show _ <= 100 by show xs.length + 2 <= 100; omega) (by decide)) fun RL2 q_RL2=>?_
    generalize e_:upd _ RL2 _=gH3; have gh3:=gh2.newE q_RL2 e_; clear e_; repeat walk_at "rdk"
    have sG:=sB0.trans gh3.s
    have gRows:RowsAt K gH3 (wRows P cs ++ [rw1 "push" ans,rw0 l]) (xs ++ [.ref PT,.ref LT]):=by
      have:=((gR.keep sG.imm).snoc (r:=rw1 "push" ans) ⟨PT,rfl,ZbS gh3.h.2.2.1⟩).snoc (r:=rw0 l) ⟨LT,rfl,ZbS (sG _ _ eLT)⟩
      rwa [List.append_assoc,List.append_assoc] at this
    refine ⟨RL2,PA,AH,_,wRows P cs ++ [rw1 "push" ans,rw0 l],p0,p1,p2,F,10,rfl,gh3.h.1,gRows,sG _ _ gPA,⟨kvs,sG _ _ gAH,lF,vF⟩,fun x dx pr st H4 s4 hx hpr hst aX=>?_⟩
    rw [hFF] at aX
    repeat walk_at "rdk"
    refine Zft (s4 _ _ (gh3.s _ _ r0.ob)) (Zhp (j:=wi) rfl (by rw [List.length_map,List.length_range]; exact bw)) ?_
    obtain ⟨J1,eJ1,r1,np1,sB1⟩:=(r0.same gh3.s).madeF nR sG (a:=x) bw np0 (Nat.le_refl 6) s4 hx hpr hst aX
    rw [eJ1]
    clear eJ1
    have hh0:Gw J1 J1 []:=Gw.start
    repeat walk_at "rdk"
    refine ⟨by show 0 <= sizeLine; decide,fun E0 q_E0=>?_⟩
    generalize e_:upd _ E0 _=hH1; have hh1:=hh0.newE q_E0 e_; clear e_; repeat walk_at "rdk"
    intro y dy hy hdy hny
    have ty:(upd hH1 dy (.own y)) y=none:=by rw [Zaj (Ne.symm hny)]; exact hy
    have my:Same hH1 (upd (upd hH1 dy (.own y)) y (.ins cAccount dy [])):=(Same.new hdy).newT ty
    refine ⟨y,dy,E0,0,0,[],[],rfl,Zag,my.seq (Zaz hh1.h.1),RowsAt.nil,fun py sy Iy hpy hsy _ ay ky=>⟨rfl,?_⟩⟩
    have ny:Same hH1 Iy:=fun b o e=>ky b o (my _ _ e) (Zah e hy)
    repeat walk_at "rdk"
    refine Zft (ny _ _ (hh1.s _ _ r1.ob)) (Zhp (j:=ci) rfl (by rw [List.length_map,List.length_range]; exact bc)) ?_
    have sH:=sB1.trans hh1.s
    obtain ⟨J2,eJ2,r2,np2,sB2⟩:=(r1.same hh1.s).madeF nR sH (a:=y) bc np1 (Nat.zero_le 6) ny hy (my.fresh hpy) (my.fresh hsy) ay
    rw [eJ2]
    clear eJ2
    have outA:∀ b o,H3 b=some o->Out (setO (setO (fun _=>none) wi ⟨x,dx,pr,st⟩) ci ⟨y,dy,py,sy⟩) b:=fun b o e i z hi hz=>by
      rcases ZbP i z hz with ⟨_,rfl⟩|⟨_,hz⟩
      . exact ⟨Zah (sH _ _ e) hy,Zah (sH _ _ e) (my.fresh hsy)⟩
      . rcases ZbP i z hz with ⟨_,rfl⟩|⟨_,hz⟩
        . exact ⟨Zah (sG _ _ e) hx,Zah (sG _ _ e) hst⟩
        . cases hz
    obtain ⟨Ar,S0,xw,yc,rr,hAw,hAc,hrw,hsw,hscw,hcw,oAr⟩:∃ Ar S0 xw yc,Rooms K cAccount J2 R Ar S0 6/\Ar wi=some xw/\Ar ci=some yc/\(S0 wi).rows=wRows P cs ++ [rw1 "push" ans,rw0 l]/\(∀ q,(S0 wi).store q=F q)/\(∀ i q,i ≠ wi->(S0 i).store q=0)/\(S0 wi).coin=4/\(∀ b o,H3 b=some o->Out Ar b):=⟨_,_,_,_,r2,by rw [ZmZ _ _ (Ne.symm nwc),Zg6],by rw [Zg6],by rw [ZhG _ _ (Ne.symm nwc),Zdg],fun q=>by rw [ZhG _ _ (Ne.symm nwc),Zdg],fun i q hi=>by
      unfold setS
      by_cases h1:i=ci
      . rw [if_pos h1]
      . rw [if_neg h1,if_neg hi],by rw [ZhG _ _ (Ne.symm nwc),Zdg],outA⟩
    clear r2 np2 r1 np1 outA aX ay
    repeat walk_at "rdk"
    intro j jdx hj hjdx hnej
    have hj2:(upd J2 jdx (.own j)) j=none:=by rw [Zaj (Ne.symm hnej)]; exact hj
    have sj:Same J2 (upd (upd J2 jdx (.own j)) j (.ins cJournal jdx [])):=(Same.new hjdx).newT hj2
    refine ⟨j,jdx,R,rfl,Zag,fun L hL=>⟨rfl,?_⟩⟩
    have hL12:=sj.fresh hL
    have nLj:L ≠ j:=fun q=>by rw [q,Zag] at hL; cases hL
    have s13:Same J2 (upd (upd (upd (upd J2 jdx (.own j)) j (.ins cJournal jdx [])) L (.lst [])) j (.ins cJournal jdx (jF R L))):=fun b o e=>by
      rw [Zaj (Zah e hj),Zaj (Zah e hL12)]; exact sj b o e
    have J13:Jr cJournal cSave cMove cNote (upd (upd (upd (upd J2 jdx (.own j)) j (.ins cJournal jdx [])) L (.lst [])) j (.ins cJournal jdx (jF R L))) j jdx R L Ar []:=⟨Zag,by rw [Zaj nLj,Zag]; rfl,fun _ h=>(nomatch h),Ne.symm (Zah rr.ob hL12),fun i y hi hy=>by obtain ⟨xs,e1,_⟩:=(rr.ac i y hi hy).pg; exact Ne.symm (Zah e1 hL12)⟩
    generalize upd (upd (upd (upd J2 jdx (.own j)) j (.ins cJournal jdx [])) L (.lst [])) j _=H13 at s13 J13
    have W13:Wd K cAccount cJournal cSave cMove cNote H13 j jdx R L Ar S0 6 []:=⟨⟨[],rfl,J13⟩,rr.same s13,trivial,fun i=>⟨[p0,p1,p2],show 3 <= 6 by decide,fun p hp=>by
      by_cases q:i=wi
      . rw [q,hsw] at hp; exact hF0 p hp
      . exact absurd (hscw i p q) hp⟩,by decide⟩
    have sJ:=sB2.trans s13
    have kpt:∀ b o,H3 b=some o->¬ (¬ Out Ar b\/b=L):=fun b o e z=>z.elim (fun q=>q (oAr b o e)) (fun q=>by rw [q] at e; rw [sB2 _ _ e] at hL12; cases hL12)
    repeat walk_at "rdk"
    refine Zgy (fun σ' H'=>∃ ds0 DL3 ts3,Wd K cAccount cJournal cSave cMove cNote H' j jdx R L Ar S0 6 ds0/\KeptX (fun b=>¬ Out Ar b\/b=L) H13 H'/\H' DL3=some (.lst (ts3.map V.ref))/\¬ (¬ Out Ar DL3\/DL3=L)/\TupsAt H' (ds0 ++ dsL) ts3/\(∀ t ∈ ts3,¬ (¬ Out Ar t\/t=L))/\(ds0=[]/\¬ c0 / 48 % 2=1\/ds0=[.note (wi:Int) 5,.save (ci:Int) 9 0 8]/\c0 / 48 % 2=1)/\σ'=[some (.ref a),some (.int (wi:Int)),some (.int (ci:Int)),some (.ref PA),some (.int ans),some (.ref AH),v1,some (.ref SD),some (.ref RL),some (.ref SL),some (.ref DL3),some (.int (wCost P F cs)),some (.int (xs.length:Int)),some (.str en),some (.ref LT),some (.ref R),some (.ref j),none,none,none]) ?_ ?_
    . repeat walk_at "rdk"
      refine ⟨a,ns,0,rfl,by decide,(sH3.trans sJ).seq hS,?_⟩
      rw [hc0]
      repeat' walk_at "rdk"
      . rename_i hc48
        refine Zan J13.ob rfl ?_
        repeat walk_at "rdk"
        intro n1 dn1 hn1 hdn1 hnn1
        refine ⟨n1,dn1,(wi:Int),5,rfl,Zag,⟨rfl,?_⟩⟩
        have tn1:(upd H13 dn1 (.own n1)) n1=none:=by rw [Zaj (Ne.symm hnn1)]; exact hn1
        have mn1:Same H13 (upd (upd H13 dn1 (.own n1)) n1 (.ins cNote dn1 [])):=(Same.new hdn1).newT tn1
        have sN1:Same H13 (upd (upd (upd H13 dn1 (.own n1)) n1 (.ins cNote dn1 [])) n1 (.ins cNote dn1 (noteF (wi:Int) 5))):=fun b o e=>by rw [Zaj (Zah e hn1)]; exact mn1 b o e
        have eN1:(upd (upd (upd H13 dn1 (.own n1)) n1 (.ins cNote dn1 [])) n1 (.ins cNote dn1 (noteF (wi:Int) 5))) n1=some (.ins cNote dn1 (noteF (wi:Int) 5)):=Zag
        generalize upd (upd (upd H13 dn1 (.own n1)) n1 (.ins cNote dn1 [])) n1 _=HN1 at sN1 eN1 |-
        repeat walk_at "rdk"
        refine ⟨j,jdx,R,L,Ar,_,_,[],⟨n1,dn1,.note (wi:Int) 5⟩,rfl,J13.same sN1,W13.r.same sN1,eN1,trivial,by show 6 <= 1000000; decide,by show 0 < 1000000; decide,fun HW1 kW1 rW1 JW1=>?_⟩
        have W14a:=(W13.same sN1).wrote (e:=⟨n1,dn1,.note (wi:Int) 5⟩) (es:=[]) rfl rW1 JW1 trivial
        repeat walk_at "rdk"
        refine Zan JW1.ob rfl ?_
        repeat walk_at "rdk"
        intro n2 dn2 hn2 hdn2 hnn2
        refine ⟨n2,dn2,(ci:Int),9,0,8,rfl,Zag,⟨rfl,?_⟩⟩
        have tn2:(upd HW1 dn2 (.own n2)) n2=none:=by rw [Zaj (Ne.symm hnn2)]; exact hn2
        have mn2:Same HW1 (upd (upd HW1 dn2 (.own n2)) n2 (.ins cSave dn2 [])):=(Same.new hdn2).newT tn2
        have sN2:Same HW1 (upd (upd (upd HW1 dn2 (.own n2)) n2 (.ins cSave dn2 [])) n2 (.ins cSave dn2 (saveF (ci:Int) 9 0 8))):=fun b o e=>by rw [Zaj (Zah e hn2)]; exact mn2 b o e
        have eN2:(upd (upd (upd HW1 dn2 (.own n2)) n2 (.ins cSave dn2 [])) n2 (.ins cSave dn2 (saveF (ci:Int) 9 0 8))) n2=some (.ins cSave dn2 (saveF (ci:Int) 9 0 8)):=Zag
        generalize upd (upd (upd HW1 dn2 (.own n2)) n2 (.ins cSave dn2 [])) n2 _=HN2 at sN2 eN2 |-
        repeat walk_at "rdk"
        refine ⟨j,jdx,R,L,Ar,_,_,[⟨n1,dn1,.note (wi:Int) 5⟩],⟨n2,dn2,.save (ci:Int) 9 0 8⟩,rfl,JW1.same sN2,W14a.r.same sN2,eN2,⟨ci,yc,rfl,bc,hAc⟩,by show 6 + 1 <= 1000000; decide,by show 1 < 1000000; decide,fun HW2 kW2 rW2 JW2=>?_⟩
        have W14b:=(W14a.same sN2).wrote (e:=⟨n2,dn2,.save (ci:Int) 9 0 8⟩) (es:=[⟨n1,dn1,.note (wi:Int) 5⟩]) rfl rW2 JW2 (by show (S0 (Int.toNat (ci:Int))).store 9=0; rw [Int.toNat_natCast]; exact hscw ci 9 nwc)
        have kK:∀ b o,H13 b=some o->¬ (¬ Out Ar b\/b=L)->HW2 b=some o:=fun b o e nb=>by
          have ob:Out Ar b:=Classical.byContradiction fun q=>nb (.inl q)
          have lb:b ≠ L:=fun q=>nb (.inr q)
          rw [kW2 b ob lb]
          exact sN2 _ _ (by rw [kW1 b ob lb]; exact sN1 _ _ e)
        have nw:∀ b,HW2 b=none->¬ (¬ Out Ar b\/b=L):=fun b hb z=>z.elim (fun q=>q (rW2.outN hb)) (fun q=>by rw [q,JW2.li] at hb; cases hb)
        have uD2:=kK _ _ (sJ _ _ eDL2) (kpt _ _ eDL2)
        have uT2:TupsAt HW2 dsL ts2:=⟨hT2.1,fun n d t e1 e2=>kK _ _ (sJ _ _ (hT2.2 n d t e1 e2)) (kpt _ _ (hT2.2 n d t e1 e2))⟩
        have l2:ts2.length <= 19:=by
          rw [<- hT2.1,hdsL]
          split
          . rw [ZbE]; exact hcs
          . exact Nat.zero_le _
        have y0:Gw HW2 HW2 []:=Gw.start
        repeat walk_at "rdk"
        refine ⟨by show 3 <= sizeLine; decide,fun t1 q_t1=>?_⟩
        generalize e_:upd _ t1 _=Y1; have y1:=y0.newE q_t1 e_; clear e_; repeat walk_at "rdk"
        refine ⟨by show 5 <= sizeLine; decide,fun t2 q_t2=>?_⟩
        generalize e_:upd _ t2 _=Y2; have y2:=y1.newE q_t2 e_; clear e_; repeat walk_at "rdk"
        refine ⟨by show 2 <= sizeLine; decide,fun l9 q_l9=>?_⟩
        generalize e_:upd _ l9 _=Y3; have y3:=y2.newE q_l9 e_; clear e_; repeat walk_at "rdk"
        refine Zfa y3.h.1 (y3.s _ _ uD2) (Nat.le_trans (show _ <= 100 by rw [List.length_map]; show 2 + _ <= 100; omega) (by decide)) fun DL3 q_DL3=>?_
        generalize e_:upd _ DL3 _=Y4; have y4:=y3.newE q_DL3 e_; clear e_; repeat walk_at "rdk"
        exact ⟨_,DL3,t1 :: t2 :: ts2,W14b.same y4.s,fun b o e nb=>y4.s _ _ (kK b o e nb),y4.h.1,nw _ (y3.fresh q_DL3),TupsAt.cons (d:=.note (wi:Int) 5) y4.h.2.2.2.1 (TupsAt.cons (d:=.save (ci:Int) 9 0 8) y4.h.2.2.1 (uT2.mono fun b ys h=>y4.s _ _ h)),fun t ht=>by
          rcases List.mem_cons.1 ht with rfl|ht
          . exact nw _ q_t1
          rcases List.mem_cons.1 ht with rfl|ht
          . exact nw _ (y1.fresh q_t2)
          obtain ⟨n,hn⟩:=List.mem_iff_getElem?.1 ht
          have hd:=List.getElem?_eq_getElem (l:=dsL) (i:=n) (by rw [hT2.1]; exact (List.getElem?_eq_some_iff.mp hn).1)
          exact kpt _ _ (hT2.2 n _ t hd hn),.inr ⟨rfl,hc48⟩,rfl⟩
      . rename_i hc48
        exact ⟨[],DL2,ts2,W13,(Same.refl _).keptX,sJ _ _ eDL2,kpt _ _ eDL2,hT2.mono (fun b ys h=>sJ b _ h),fun t ht=>by
          obtain ⟨n,hn⟩:=List.mem_iff_getElem?.1 ht
          have hd:=List.getElem?_eq_getElem (l:=dsL) (i:=n) (by rw [hT2.1]; exact (List.getElem?_eq_some_iff.mp hn).1)
          exact kpt _ _ (hT2.2 n _ t hd hn),.inl ⟨rfl,hc48⟩,rfl⟩
    rintro σ3 H14 ⟨ds0,DL3,ts3,W14,k14,eDL3,nDL3,hT3,nT3,hds0,rfl⟩
    have hd0:ds0.length <= 10:=by rcases hds0 with ⟨rfl,_⟩|⟨rfl,_⟩ <;> simp
    have hs0:(∀ q,(runS S0 ds0 wi).store q=F q)/\(runS S0 ds0 wi).coin=4/\(runS S0 ds0 ci).store 9=8 * (if decide (c0 / 48 % 2=1)=true then (1:Int) else 0):=by
      rcases hds0 with ⟨rfl,h48⟩|⟨rfl,h48⟩
      . refine ⟨hsw,hcw,?_⟩
        rw [decide_eq_false h48]
        exact hscw ci 9 nwc
      . have e1:=ZcC S0 ci 9 0 8 wi
        have e2:=ZcC S0 ci 9 0 8 ci
        refine ⟨fun q=>?_,?_,?_⟩
        . show (doneS S0 (.save (ci:Int) 9 0 8) wi).store q=_
          rw [e1.2,if_neg (fun z=>nwc z.1.symm)]; exact hsw q
        . show (doneS S0 (.save (ci:Int) 9 0 8) wi).coin=_
          rw [e1.1]; exact hcw
        . show (doneS S0 (.save (ci:Int) 9 0 8) ci).store 9=_
          rw [e2.2,if_pos ⟨rfl,rfl⟩,decide_eq_true h48]; rfl
    obtain ⟨yF,sF,hG,ht⟩:=go34 (n0:=9) (ci:=ci) bw hAw hrw hle hcs hs0.1 hd0
    rw [<- hdsL] at hG
    repeat walk_at "rdk"
    refine ⟨j,jdx,R,L,Ar,S0,6,ds0,(ci:Int),(wi:Int),0,3,400,_,yF,sF,rfl,W14,hG,fun pF HF WF SF2 kF=>?_⟩
    have kAll:∀ b o,H3 b=some o->HF b=some o:=fun b o e=>kF b o (k14 b o (sJ _ _ e) (kpt b o e)) (kpt b o e)
    have tSL:=kAll _ _ gSL
    have hSF:=(ZlG rr s13 hL12 (k14.trans kF)).sl ((sH3.trans sB2).seq hS)
    have tPA:=kAll _ _ gPA
    obtain ⟨kvS,eS3,lS3,vS3⟩:=hSD
    have tSD:=kAll _ _ eS3
    have tDL:=kF _ _ eDL3 nDL3
    have tT:TupsAt HF (wDeeds (wi:Int) P F cs) ts:=gT.mono (fun b ys h=>kAll b _ h)
    have tT3:TupsAt HF (ds0 ++ dsL) ts3:=⟨hT3.1,fun n d t e1 e2=>kF _ _ (hT3.2 n d t e1 e2) (nT3 t (List.mem_of_getElem? e2))⟩
    have dF:=SF2.dv
    rw [ht] at dF
    have dSteps:=ss_dv (K:=K) (wi:Int) P cs F 0 ts tT
    have hsl:=Zie ts 0
    have htl:ts.length=cs.length:=by rw [<- tT.1,ZbE]
    clear kAll gSL gPA gT k14 W14 W13 J13 sJ kpt hG
    repeat walk_at "rdk"
    have z0:Gw HF HF []:=Gw.start
    refine ⟨by show 2 <= sizeLine; decide,fun B1 q_B1=>?_⟩
    generalize e_:upd _ B1 _=Z1; have z1:=z0.newE q_B1 e_; clear e_; repeat walk_at "rdk"
    refine Zfa (z1.s _ _ tSL) z1.h.1 (Nat.le_trans (show _ <= 100 by show (ssV 0 ts).length + 2 <= 100; omega) (by decide)) fun B2 q_B2=>?_
    generalize e_:upd _ B2 _=Z2; have z2:=z1.newE q_B2 e_; clear e_; repeat walk_at "rdk"
    refine ⟨by show 11 <= sizeLine; decide,fun DU q_DU=>?_⟩
    generalize e_:upd _ DU _=Z3; have z3:=z2.newE q_DU e_; clear e_; repeat walk_at "rdk"
    have dD:DV K Z3 (.tup [.str "call", .int (wi:Int),.int (wi:Int),.int (ci:Int),.int 0,.int 3,.int 400,.str en,.int ans,.int (wCost P F cs + 2),.lst (wSteps (wi:Int) P F 0 cs ++ [.int ((3 * cs.length:Nat):Int),.int ((3 * cs.length + 1:Nat):Int)])]) (.ref DU):=by
      have q2:=z3.h.2.1
      rw [hxl] at q2
      exact Zeo (ZbS z3.h.1) (Zao Zdc (Zao ZaQ (Zao ZaQ (Zao ZaQ (Zao ZaQ (Zao ZaQ (Zao ZaQ (Zao Zdc (Zao ZaQ (Zao ZaQ (Zao (Zj4 (Zaz q2) (Zf0 (dSteps.keep z3.s) (Zao ZaQ (Zao ZaQ Zbq)))) Zbq)))))))))))
    have okD:=ZlH wi ci en ans (wCost P F cs + 2) P F cs hcs ((3 * cs.length:Nat):Int) ((3 * cs.length + 1:Nat):Int)
    refine ⟨_,_,_,rfl,okD.1,okD.2,dF.keep z3.s,dD,?_⟩
    repeat walk_at "rdk"
    have WG:=WF.same z3.s
    obtain ⟨es,hes,JG⟩:=WG.J
    refine Zan JG.ob rfl ?_
    repeat walk_at "rdk"
    have hesl:es.length <= 1000:=by
      have:=congrArg List.length hes
      rw [List.length_map] at this
      rw [this,List.length_append,hdsL]
      split
      . rw [ZbE]; omega
      . simp; omega
    have lts3:ts3.length <= 30:=by
      rw [<- tT3.1,List.length_append,hdsL]
      split
      . rw [ZbE]; omega
      . simp; omega
    refine ⟨j,jdx,R,L,Ar,es,rfl,JG,hesl,fun tq2 ts9 HQ sQ htq etq tp=>?_⟩
    rw [hes] at tp
    have dv3:=tp.dv (K:=K) etq
    have tQ:TupsAt HQ (ds0 ++ dsL) ts3:=tT3.mono (fun b ys h=>sQ _ _ (z3.s _ _ h))
    have uDL:=sQ _ _ (z3.s _ _ tDL)
    have dv4:=tQ.dv (K:=K) uDL
    repeat walk_at "rdk"
    refine ⟨_,_,_,rfl,by unfold ZbM; exact ⟨by rw [List.length_map,tQ.1]; omega,ZeS _⟩,by unfold Dt.dep; have:=Zfh (ds0 ++ dsL); omega,dv3,dv4,?_⟩
    have WQ:=WG.same sQ
    obtain ⟨es2,hes2,JQ⟩:=WQ.J
    have ayw:=WQ.r.ac wi _ bw hAw
    have ayc:=WQ.r.ac ci _ bc hAc
    have uPA:=sQ _ _ (z3.s _ _ tPA)
    have uSD:=sQ _ _ (z3.s _ _ tSD)
    have dd:=Zff wi P cs (runS S0 ds0) F
    have fw:(∀ q,(runS S0 (ds0 ++ dsL) wi).store q=FF q)/\(runS S0 (ds0 ++ dsL) wi).coin=4/\(runS S0 (ds0 ++ dsL) ci).store 9=8 * (if decide (c0 / 48 % 2=1)=true then (1:Int) else 0):=by
      rw [Zkz,hdsL,hFF2]
      split
      . exact ⟨(dd wi).2.2 hs0.1,(dd wi).1.trans hs0.2.1,((dd ci).2.1 nwc 9).trans hs0.2.2⟩
      . exact hs0
    clear okD dv3 dv4 dD dF dSteps tp hF0 hs0 dd
    repeat walk_at "rdk"
    refine ZdO (Zcc ?_)
    repeat walk_at "rdk"
    refine ⟨PA,rfl,⟨_,Zaz uPA⟩,Zd3 (xs:=[V.int p0,.int p1,.int p2]) (fun i σ' H'=>H'=HQ/\∃ v,σ'=[some (.ref a),some (.int (wi:Int)),some (.int (ci:Int)),some (.ref PA),some (.int ans),some (.ref AH),v1,some (.ref SD),some (.ref RL),some (.ref SL),some (.ref DL3),some (.int (wCost P F cs)),some (.int (xs.length:Int)),some (.str en),some (.ref LT),some (.ref R),some (.ref j),some (.ref pF),some (.ref DU),v]) ⟨rfl,_,rfl⟩ (fun i σ' H' _ hz=>by rw [hz.1]; exact Zaz uPA) ?_ ?_⟩
    . rintro i xx σ' H' hxx ⟨rfl,v,rfl⟩
      have hxx:([p0,p1,p2].map V.int)[i]?=some xx:=hxx
      rw [List.getElem?_map] at hxx
      obtain ⟨c,hc,rfl⟩:=Option.map_eq_some_iff.mp hxx
      have hin:c ∈ [p0,p1,p2]:=List.mem_of_getElem? hc
      repeat walk_at "rdk"
      refine Za8 (Zaz WQ.r.ob) (WQ.r.at bw hAw) ?_
      refine Zan ayw.ob rfl ?_
      repeat walk_at "rdk"
      refine ⟨_,_,_,_,_,_,_,_,_,_,c,rfl,ayw,?_⟩
      rw [fw.1]
      repeat walk_at "rdk"
      refine Zdo uSD (vS3 _ hin) ?_
      repeat walk_at "rdk"
      refine ⟨.int (FF c),_,_,rfl,by unfold ZbM; trivial,by unfold Dt.dep; omega,ZaQ,ZaQ,?_⟩
      repeat walk_at "rdk"
      exact ⟨rfl,_,rfl⟩
    rintro σ4 H' ⟨rfl,v,rfl⟩
    repeat walk_at "rdk"
    refine Za8 (Zaz WQ.r.ob) (WQ.r.at bc hAc) ?_
    refine Zan ayc.ob rfl ?_
    repeat walk_at "rdk"
    refine ⟨_,_,_,_,_,_,_,_,_,_,9,rfl,ayc,?_⟩
    rw [fw.2.2]
    repeat walk_at "rdk"
    refine ⟨a,ns,0,rfl,by decide,sQ.seq (z3.s.seq hSF),?_⟩
    rw [hc0]
    repeat walk_at "rdk"
    refine .inr ⟨_,rfl,?_⟩
    repeat' walk_at "rdk"
    all_goals first|exact absurd rfl (by assumption)|skip
    refine Zan JQ.ob rfl ?_
    repeat walk_at "rdk"
    have ew:(es2.map fun e=>worthD e.d)=(ds0 ++ dsL).map worthD:=by rw [<- hes2,List.map_map]; rfl
    refine ⟨j,jdx,R,L,Ar,es2,rfl,JQ,by have:=congrArg List.length (hes2.trans hes.symm); rw [List.length_map,List.length_map] at this; omega,fun H5 s5=>?_⟩
    rw [ew]
    repeat walk_at "rdk"
    refine ⟨DL3,ds0 ++ dsL,ts3,rfl,s5 _ _ uDL,tQ.mono (fun b ys h=>s5 _ _ h),lts3,fun H6 s6=>?_⟩
    repeat walk_at "rdk"
    refine ⟨.int _,_,_,rfl,by unfold ZbM; trivial,by unfold Dt.dep; omega,ZaQ,ZaQ,?_⟩
    have W6:=WQ.same (s5.trans s6)
    have ay6:=W6.r.ac wi _ bw hAw
    repeat walk_at "rdk"
    refine Za8 (Zaz W6.r.ob) (W6.r.at bw hAw) ?_
    refine Zai ay6.ob tAccount.k.cl tAccount.n_coin rfl ?_
    rw [fw.2.1]
    repeat walk_at "rdk"
    all_goals first|exact k _|exact ZbR (congrArg V.bl (decide_eq_true rfl)) (k _)
end
section
variable {P:Program} {w:World} {K:PySem.W.Frag} {mg:Str->Option Value} {base:Heap}
theorem Zm2 {h:Heap} {aT:Addr} {es:Array DictEntry} {ep:Nat} {l:List (Str × Tok × Value)} {a1 a2 a3 a4 a5 a6 a7 a8 a9 a10 a11 a12 a13 a14 a15 a16 a17 a18 a19 a20 a21 a22 a23 a24 a25 a26 a27 a28 a29 a30 a31:Addr} (X:K.In h) (G:h.Ns mainGlobals mg) (a:PySem.W.nsIn K mainGlobals "ROWS" = some (some (.ref aT))) (lk:K.lookup aT=some ⟨.type "dict", none,.dict es ep,#[]⟩)
    (he:entsOf es=l) (h2:es=(l.map (sEnt w)).toArray) (h3:l.map (fun p=>(p.1,p.2.2))=[(("push" : Str),Value.ref a1),(("drop" : Str),Value.ref a2),(("copy" : Str),Value.ref a3),(("swap" : Str),Value.ref a4),(("add" : Str),Value.ref a5),(("minus" : Str),Value.ref a6),(("times" : Str),Value.ref a7),(("over" : Str),Value.ref a8),(("rest" : Str),Value.ref a9),(("below" : Str),Value.ref a10),(("same" : Str),Value.ref a11),(("both" : Str),Value.ref a12),(("either" : Str),Value.ref a13),(("unlike" : Str),Value.ref a14),(("up" : Str),Value.ref a15),(("down" : Str),Value.ref a16),(("jump" : Str),Value.ref a17),(("jumpif" : Str),Value.ref a18),(("load" : Str),Value.ref a19),(("save" : Str),Value.ref a20),(("me" : Str),Value.ref a21),(("from" : Str),Value.ref a22),(("sent" : Str),Value.ref a23),(("word" : Str),Value.ref a24),(("coin" : Str),Value.ref a25),(("note" : Str),Value.ref a26),(("call" : Str),Value.ref a27),(("borrow" : Str),Value.ref a28),(("look" : Str),Value.ref a29),(("give" : Str),Value.ref a30),(("fail" : Str),Value.ref a31)])
    (t1:TupK K a1 [.int 0,.int 1,.int 1,.int 1]) (t2:TupK K a2 [.int 1,.int 0,.int 1,.int 1]) (t3:TupK K a3 [.int 1,.int 2,.int 1,.int 1]) (t4:TupK K a4 [.int 1,.int 1,.int 1,.int 1]) (t5:TupK K a5 [.int 2,.int 1,.int 1,.int 1]) (t6:TupK K a6 [.int 2,.int 1,.int 1,.int 1]) (t7:TupK K a7 [.int 2,.int 1,.int 2,.int 2]) (t8:TupK K a8 [.int 2,.int 1,.int 2,.int 2]) (t9:TupK K a9 [.int 2,.int 1,.int 2,.int 2]) (t10:TupK K a10 [.int 2,.int 1,.int 1,.int 1]) (t11:TupK K a11 [.int 2,.int 1,.int 1,.int 1]) (t12:TupK K a12 [.int 2,.int 1,.int 1,.int 1]) (t13:TupK K a13 [.int 2,.int 1,.int 1,.int 1]) (t14:TupK K a14 [.int 2,.int 1,.int 1,.int 1]) (t15:TupK K a15 [.int 2,.int 1,.int 1,.int 1]) (t16:TupK K a16 [.int 2,.int 1,.int 1,.int 1]) (t17:TupK K a17 [.int 0,.int 0,.int 1,.int 1]) (t18:TupK K a18 [.int 1,.int 0,.int 1,.int 1]) (t19:TupK K a19 [.int 1,.int 1,.int 3,.int 3]) (t20:TupK K a20 [.int 2,.int 0,.int 5,.int 12]) (t21:TupK K a21 [.int 0,.int 1,.int 1,.int 1]) (t22:TupK K a22 [.int 0,.int 1,.int 1,.int 1]) (t23:TupK K a23 [.int 0,.int 1,.int 1,.int 1]) (t24:TupK K a24 [.int 0,.int 1,.int 1,.int 1]) (t25:TupK K a25 [.int 1,.int 1,.int 3,.int 3]) (t26:TupK K a26 [.int 1,.int 0,.int 4,.int 4]) (t27:TupK K a27 [.int 4,.int 2,.int 8,.int 12]) (t28:TupK K a28 [.int 3,.int 2,.int 6,.int 6]) (t29:TupK K a29 [.int 3,.int 2,.int 6,.int 6]) (t30:TupK K a30 [.int 1,.int 0,.int 1,.int 1]) (t31:TupK K a31 [.int 1,.int 0,.int 1,.int 1]):∃ aT:Addr,ZaU mg "ROWS" (.ref aT)/\ZgG P w K aT:=by
  subst he
  have d:=Zej (P:=P) (w:=w) lk h2 (by
    have e:(entsOf es).map (·.1)=((entsOf es).map (fun p=>(p.1,p.2.2))).map (·.1):=by rw [List.map_map]; rfl
    rw [e,h3]
    show (["push", "drop", "copy", "swap", "add", "minus", "times", "over", "rest", "below", "same", "both", "either", "unlike", "up", "down", "jump", "jumpif", "load", "save", "me", "from", "sent", "word", "coin", "note", "call", "borrow", "look", "give", "fail"]:List Str).Nodup
    decide +kernel)
  have e:((entsOf es).map fun p=>((Sum.inr p.1:Key),p.2.2))=((entsOf es).map (fun p=>(p.1,p.2.2))).map fun q=>((Sum.inr q.1:Key),q.2):=by rw [List.map_map]; rfl
  rw [e,h3] at d
  refine ⟨aT,ZcF X G a,_,d,fun x t l p dd hx=>?_⟩
  have hm:=Zc9 hx
  simp only [RT,List.mem_cons,Prod.mk.injEq,List.not_mem_nil,or_false] at hm
  rcases hm with ⟨rfl,rfl,rfl,rfl,rfl⟩|⟨rfl,rfl,rfl,rfl,rfl⟩|⟨rfl,rfl,rfl,rfl,rfl⟩|⟨rfl,rfl,rfl,rfl,rfl⟩|⟨rfl,rfl,rfl,rfl,rfl⟩|⟨rfl,rfl,rfl,rfl,rfl⟩|⟨rfl,rfl,rfl,rfl,rfl⟩|⟨rfl,rfl,rfl,rfl,rfl⟩|⟨rfl,rfl,rfl,rfl,rfl⟩|⟨rfl,rfl,rfl,rfl,rfl⟩|⟨rfl,rfl,rfl,rfl,rfl⟩|⟨rfl,rfl,rfl,rfl,rfl⟩|⟨rfl,rfl,rfl,rfl,rfl⟩|⟨rfl,rfl,rfl,rfl,rfl⟩|⟨rfl,rfl,rfl,rfl,rfl⟩|⟨rfl,rfl,rfl,rfl,rfl⟩|⟨rfl,rfl,rfl,rfl,rfl⟩|⟨rfl,rfl,rfl,rfl,rfl⟩|⟨rfl,rfl,rfl,rfl,rfl⟩|⟨rfl,rfl,rfl,rfl,rfl⟩|⟨rfl,rfl,rfl,rfl,rfl⟩|⟨rfl,rfl,rfl,rfl,rfl⟩|⟨rfl,rfl,rfl,rfl,rfl⟩|⟨rfl,rfl,rfl,rfl,rfl⟩|⟨rfl,rfl,rfl,rfl,rfl⟩|⟨rfl,rfl,rfl,rfl,rfl⟩|⟨rfl,rfl,rfl,rfl,rfl⟩|⟨rfl,rfl,rfl,rfl,rfl⟩|⟨rfl,rfl,rfl,rfl,rfl⟩|⟨rfl,rfl,rfl,rfl,rfl⟩|⟨rfl,rfl,rfl,rfl,rfl⟩
  . exact ⟨_,rfl,t1⟩
  . exact ⟨_,rfl,t2⟩
  . exact ⟨_,rfl,t3⟩
  . exact ⟨_,rfl,t4⟩
  . exact ⟨_,rfl,t5⟩
  . exact ⟨_,rfl,t6⟩
  . exact ⟨_,rfl,t7⟩
  . exact ⟨_,rfl,t8⟩
  . exact ⟨_,rfl,t9⟩
  . exact ⟨_,rfl,t10⟩
  . exact ⟨_,rfl,t11⟩
  . exact ⟨_,rfl,t12⟩
  . exact ⟨_,rfl,t13⟩
  . exact ⟨_,rfl,t14⟩
  . exact ⟨_,rfl,t15⟩
  . exact ⟨_,rfl,t16⟩
  . exact ⟨_,rfl,t17⟩
  . exact ⟨_,rfl,t18⟩
  . exact ⟨_,rfl,t19⟩
  . exact ⟨_,rfl,t20⟩
  . exact ⟨_,rfl,t21⟩
  . exact ⟨_,rfl,t22⟩
  . exact ⟨_,rfl,t23⟩
  . exact ⟨_,rfl,t24⟩
  . exact ⟨_,rfl,t25⟩
  . exact ⟨_,rfl,t26⟩
  . exact ⟨_,rfl,t27⟩
  . exact ⟨_,rfl,t28⟩
  . exact ⟨_,rfl,t29⟩
  . exact ⟨_,rfl,t30⟩
  . exact ⟨_,rfl,t31⟩
theorem Zm3 {h:Heap} {aS:Addr} {es:Array DictEntry} {ep:Nat} {l:List (Str × Tok × Value)} {u1 u2 u3 u4 u5 u6 u7 u8 u9 u10 u11 u12:Value} (X:K.In h) (G:h.Ns mainGlobals mg) (a:PySem.W.nsIn K mainGlobals "SUMS" = some (some (.ref aS))) (lk:K.lookup aS=some ⟨.type "dict", none,.dict es ep,#[]⟩)
    (he:entsOf es=l) (h2:es=(l.map (sEnt w)).toArray) (h3:l.map (fun p=>(p.1,p.2.2))=[(("add" : Str),u1),(("minus" : Str),u2),(("times" : Str),u3),(("over" : Str),u4),(("rest" : Str),u5),(("below" : Str),u6),(("same" : Str),u7),(("both" : Str),u8),(("either" : Str),u9),(("unlike" : Str),u10),(("up" : Str),u11),(("down" : Str),u12)])
    (a1:PySem.W.nsIn K mainGlobals "added" = some (some u1)) (a2:PySem.W.nsIn K mainGlobals "lessened" = some (some u2)) (a3:PySem.W.nsIn K mainGlobals "multiplied" = some (some u3)) (a4:PySem.W.nsIn K mainGlobals "contained" = some (some u4)) (a5:PySem.W.nsIn K mainGlobals "left_over" = some (some u5)) (a6:PySem.W.nsIn K mainGlobals "is_below" = some (some u6)) (a7:PySem.W.nsIn K mainGlobals "is_same" = some (some u7)) (a8:PySem.W.nsIn K mainGlobals "in_both" = some (some u8)) (a9:PySem.W.nsIn K mainGlobals "in_either" = some (some u9)) (a10:PySem.W.nsIn K mainGlobals "in_just_one" = some (some u10)) (a11:PySem.W.nsIn K mainGlobals "doubled" = some (some u11)) (a12:PySem.W.nsIn K mainGlobals "halved" = some (some u12)):∃ (aS:Addr) (u1 u2 u3 u4 u5 u6 u7 u8 u9 u10 u11 u12:Value),ZaU mg "SUMS" (.ref aS)/\Zda P w K aS [(Sum.inr "add", u1),(Sum.inr "minus", u2),(Sum.inr "times", u3),(Sum.inr "over", u4),(Sum.inr "rest", u5),(Sum.inr "below", u6),(Sum.inr "same", u7),(Sum.inr "both", u8),(Sum.inr "either", u9),(Sum.inr "unlike", u10),(Sum.inr "up", u11),(Sum.inr "down", u12)]/\mg "added" = some u1/\mg "lessened" = some u2/\mg "multiplied" = some u3/\mg "contained" = some u4/\mg "left_over" = some u5/\mg "is_below" = some u6/\mg "is_same" = some u7/\mg "in_both" = some u8/\mg "in_either" = some u9/\mg "in_just_one" = some u10/\mg "doubled" = some u11/\mg "halved" = some u12:=by
  subst he
  refine ⟨aS,u1,u2,u3,u4,u5,u6,u7,u8,u9,u10,u11,u12,ZcF X G a,?_,PySem.W.mg_of X G a1,PySem.W.mg_of X G a2,PySem.W.mg_of X G a3,PySem.W.mg_of X G a4,PySem.W.mg_of X G a5,PySem.W.mg_of X G a6,PySem.W.mg_of X G a7,PySem.W.mg_of X G a8,PySem.W.mg_of X G a9,PySem.W.mg_of X G a10,PySem.W.mg_of X G a11,PySem.W.mg_of X G a12⟩
  have d:=Zej (P:=P) (w:=w) lk h2 (by
    have e:(entsOf es).map (·.1)=((entsOf es).map (fun p=>(p.1,p.2.2))).map (·.1):=by rw [List.map_map]; rfl
    rw [e,h3]
    show (["add", "minus", "times", "over", "rest", "below", "same", "both", "either", "unlike", "up", "down"]:List Str).Nodup
    decide +kernel)
  have e:((entsOf es).map fun p=>((Sum.inr p.1:Key),p.2.2))=((entsOf es).map (fun p=>(p.1,p.2.2))).map fun q=>((Sum.inr q.1:Key),q.2):=by rw [List.map_map]; rfl
  rw [e,h3] at d
  exact d
theorem do_at {h:Heap} {aD:Addr} {es:Array DictEntry} {ep:Nat} {l:List (Str × Tok × Value)} {u1 u2 u3 u4 u5 u6 u7 u8 u9 u10 u11 u12 u13 u14 u15 u16 u17:Value} (X:K.In h) (G:h.Ns mainGlobals mg) (a:PySem.W.nsIn K mainGlobals "DOINGS" = some (some (.ref aD))) (lk:K.lookup aD=some ⟨.type "dict", none,.dict es ep,#[]⟩)
    (he:entsOf es=l) (h2:es=(l.map (sEnt w)).toArray) (h3:l.map (fun p=>(p.1,p.2.2))=[(("push" : Str),u1),(("drop" : Str),u2),(("copy" : Str),u3),(("swap" : Str),u4),(("add" : Str),u5),(("minus" : Str),u5),(("times" : Str),u5),(("over" : Str),u5),(("rest" : Str),u5),(("below" : Str),u5),(("same" : Str),u5),(("both" : Str),u5),(("either" : Str),u5),(("unlike" : Str),u5),(("up" : Str),u5),(("down" : Str),u5),(("jump" : Str),u6),(("jumpif" : Str),u7),(("load" : Str),u8),(("save" : Str),u9),(("me" : Str),u10),(("from" : Str),u11),(("sent" : Str),u12),(("word" : Str),u13),(("coin" : Str),u14),(("note" : Str),u15),(("give" : Str),u16),(("fail" : Str),u17)])
    (a_push_row:PySem.W.nsIn K mainGlobals "push_row" = some (some u1)) (a_drop_row:PySem.W.nsIn K mainGlobals "drop_row" = some (some u2)) (a_copy_row:PySem.W.nsIn K mainGlobals "copy_row" = some (some u3)) (a_swap_row:PySem.W.nsIn K mainGlobals "swap_row" = some (some u4)) (a_reckon_row:PySem.W.nsIn K mainGlobals "reckon_row" = some (some u5)) (a_jump_row:PySem.W.nsIn K mainGlobals "jump_row" = some (some u6)) (a_jumpif_row:PySem.W.nsIn K mainGlobals "jumpif_row" = some (some u7)) (a_load_row:PySem.W.nsIn K mainGlobals "load_row" = some (some u8)) (a_save_row:PySem.W.nsIn K mainGlobals "save_row" = some (some u9)) (a_me_row:PySem.W.nsIn K mainGlobals "me_row" = some (some u10)) (a_from_row:PySem.W.nsIn K mainGlobals "from_row" = some (some u11)) (a_sent_row:PySem.W.nsIn K mainGlobals "sent_row" = some (some u12)) (a_word_row:PySem.W.nsIn K mainGlobals "word_row" = some (some u13)) (a_coin_row:PySem.W.nsIn K mainGlobals "coin_row" = some (some u14)) (a_note_row:PySem.W.nsIn K mainGlobals "note_row" = some (some u15)) (a_give_row:PySem.W.nsIn K mainGlobals "give_row" = some (some u16)) (a_fail_row:PySem.W.nsIn K mainGlobals "fail_row" = some (some u17)):∃ (aD:Addr) (u1 u2 u3 u4 u5 u6 u7 u8 u9 u10 u11 u12 u13 u14 u15 u16 u17:Value),ZaU mg "DOINGS" (.ref aD)/\Zda P w K aD [(Sum.inr "push", u1),(Sum.inr "drop", u2),(Sum.inr "copy", u3),(Sum.inr "swap", u4),(Sum.inr "add", u5),(Sum.inr "minus", u5),(Sum.inr "times", u5),(Sum.inr "over", u5),(Sum.inr "rest", u5),(Sum.inr "below", u5),(Sum.inr "same", u5),(Sum.inr "both", u5),(Sum.inr "either", u5),(Sum.inr "unlike", u5),(Sum.inr "up", u5),(Sum.inr "down", u5),(Sum.inr "jump", u6),(Sum.inr "jumpif", u7),(Sum.inr "load", u8),(Sum.inr "save", u9),(Sum.inr "me", u10),(Sum.inr "from", u11),(Sum.inr "sent", u12),(Sum.inr "word", u13),(Sum.inr "coin", u14),(Sum.inr "note", u15),(Sum.inr "give", u16),(Sum.inr "fail", u17)]/\mg "push_row" = some u1/\mg "drop_row" = some u2/\mg "copy_row" = some u3/\mg "swap_row" = some u4/\mg "reckon_row" = some u5/\mg "jump_row" = some u6/\mg "jumpif_row" = some u7/\mg "load_row" = some u8/\mg "save_row" = some u9/\mg "me_row" = some u10/\mg "from_row" = some u11/\mg "sent_row" = some u12/\mg "word_row" = some u13/\mg "coin_row" = some u14/\mg "note_row" = some u15/\mg "give_row" = some u16/\mg "fail_row" = some u17:=by
  subst he
  refine ⟨aD,u1,u2,u3,u4,u5,u6,u7,u8,u9,u10,u11,u12,u13,u14,u15,u16,u17,ZcF X G a,?_,PySem.W.mg_of X G a_push_row,PySem.W.mg_of X G a_drop_row,PySem.W.mg_of X G a_copy_row,PySem.W.mg_of X G a_swap_row,PySem.W.mg_of X G a_reckon_row,PySem.W.mg_of X G a_jump_row,PySem.W.mg_of X G a_jumpif_row,PySem.W.mg_of X G a_load_row,PySem.W.mg_of X G a_save_row,PySem.W.mg_of X G a_me_row,PySem.W.mg_of X G a_from_row,PySem.W.mg_of X G a_sent_row,PySem.W.mg_of X G a_word_row,PySem.W.mg_of X G a_coin_row,PySem.W.mg_of X G a_note_row,PySem.W.mg_of X G a_give_row,PySem.W.mg_of X G a_fail_row⟩
  have d:=Zej (P:=P) (w:=w) lk h2 (by
    have e:(entsOf es).map (·.1)=((entsOf es).map (fun p=>(p.1,p.2.2))).map (·.1):=by rw [List.map_map]; rfl
    rw [e,h3]
    show (["push", "drop", "copy", "swap", "add", "minus", "times", "over", "rest", "below", "same", "both", "either", "unlike", "up", "down", "jump", "jumpif", "load", "save", "me", "from", "sent", "word", "coin", "note", "give", "fail"]:List Str).Nodup
    decide +kernel)
  have e:((entsOf es).map fun p=>((Sum.inr p.1:Key),p.2.2))=((entsOf es).map (fun p=>(p.1,p.2.2))).map fun q=>((Sum.inr q.1:Key),q.2):=by rw [List.map_map]; rfl
  rw [e,h3] at d
  exact d
theorem ZkH:FnScope ["self", "kind", "who", "whose", "caller", "coin", "word", "given", "depth", "looking"] ["self", "kind", "who", "whose", "caller", "coin", "word", "given", "depth", "looking"] (Zab Zaw):=⟨rfl,rfl,rfl,by decide +kernel,rfl,by decide +kernel,by decide +kernel⟩
theorem Zg7 {cFrame:Addr} {tok:Tok} (D:Zcs K cFrame "__init__" "Frame.__init__" Zaw #[.int 1 tok,.bool false]) (tFrame:T_Frame K mg cFrame) (ds:List Value) {dvs:List V} (v:Vals dvs ds)
    (hb:∀ (T:Addr) (kV doc pm:Value) (an:Option Addr) (cdv ct:Value) (us:List Value),(us ++ ds).length=10->∃ k:Option (Array Value)->Sem (List (Str × Value)),bindArgs (PySem.W.fnOf "__init__" "Frame.__init__" (Zas Zaw) (Zar Zaw) (Zab Zaw) (.ref T) kV doc pm an cdv ct) ⟨us,[]⟩=seqItems? (.ref T) >>= k/\k (some #[.int 1 tok,.bool false])=pure ((["self", "kind", "who", "whose", "caller", "coin", "word", "given", "depth", "looking"]:List Str).zip (us ++ ds))):Zhs P w K mg base 1 "Frame" cFrame (ZeC cFrame) dvs:=by
  refine Zll (N:=["self", "kind", "who", "whose", "caller", "coin", "word", "given", "depth", "looking"]) (ps:=["self", "kind", "who", "whose", "caller", "coin", "word", "given", "depth", "looking"]) D tFrame.k ZkH (fun vs H Q E h=>?_) (fun f cdv A outer s H vs Q E hr h=>?_) ds v hb
  . obtain ⟨a,dx,kind,who,whose,caller,coin,word,given,depth,looking,rfl,_⟩:=h; rfl
  . obtain ⟨a,dx,kind,who,whose,caller,coin,word,given,depth,looking,rfl,ha,k⟩:=h
    refine ⟨_,(Zac (ZaO (pv 0) (pv 1) rfl)
      (Zac (ZaO (pv 0) (pv 2) rfl)
      (Zac (ZaO (pv 0) (pv 3) rfl)
      (Zac (ZaO (pv 0) (pv 4) rfl)
      (Zac (ZaO (pv 0) (pv 5) rfl)
      (Zac (ZaO (pv 0) (pv 6) rfl)
      (Zac (ZaO (pv 0) (pv 7) rfl)
      (Zac (ZaO (pv 0) (pv 8) rfl)
      (Zac (ZaO (pv 0) (pv 9) rfl)
      (Zac (ZaO (pv 0) Zaf rfl)
      (Zac (ZaO (pv 0) (ZbL Zae) rfl)
      (Zac (ZaO (pv 0) Zaf rfl)
      (Zac (ZaO (pv 0) (ZbL Zae) rfl)
      (Zac (ZaO (pv 0) Zcn rfl)
      (Zad (ZaO (pv 0) Zaf rfl)))))))))))))))),?_⟩
    walk_at "nx"
    repeat walk_at "rdk"
    refine Zav ha tFrame.k.cl tFrame.n_kind (by decide) ?_
    repeat walk_at "rdk"
    refine Zav Zag tFrame.k.cl tFrame.n_who (by show 1 < 1000; decide) ?_
    rw [ZaR]
    repeat walk_at "rdk"
    refine Zav Zag tFrame.k.cl tFrame.n_whose (by show 2 < 1000; decide) ?_
    rw [ZaR]
    repeat walk_at "rdk"
    refine Zav Zag tFrame.k.cl tFrame.n_caller (by show 3 < 1000; decide) ?_
    rw [ZaR]
    repeat walk_at "rdk"
    refine Zav Zag tFrame.k.cl tFrame.n_coin (by show 4 < 1000; decide) ?_
    rw [ZaR]
    repeat walk_at "rdk"
    refine Zav Zag tFrame.k.cl tFrame.n_word (by show 5 < 1000; decide) ?_
    rw [ZaR]
    repeat walk_at "rdk"
    refine Zav Zag tFrame.k.cl tFrame.n_given (by show 6 < 1000; decide) ?_
    rw [ZaR]
    repeat walk_at "rdk"
    refine Zav Zag tFrame.k.cl tFrame.n_depth (by show 7 < 1000; decide) ?_
    rw [ZaR]
    repeat walk_at "rdk"
    refine Zav Zag tFrame.k.cl tFrame.n_looking (by show 8 < 1000; decide) ?_
    rw [ZaR]
    repeat walk_at "rdk"
    refine Zav Zag tFrame.k.cl tFrame.n_used (by show 9 < 1000; decide) ?_
    rw [ZaR]
    repeat walk_at "rdk"
    refine ⟨by decide,fun l hl=>?_⟩
    have nl:l ≠ a:=fun z=>by rw [z,Zag] at hl; cases hl
    have hlH:H l=none:=by rw [Zaj nl] at hl; exact hl
    repeat walk_at "rdk"
    refine Zav (by rw [Zaj (Ne.symm nl)]; exact Zag) tFrame.k.cl tFrame.n_stack (by show 10 < 1000; decide) ?_
    repeat walk_at "rdk"
    refine Zav Zag tFrame.k.cl tFrame.n_row (by show 11 < 1000; decide) ?_
    rw [ZaR]
    repeat walk_at "rdk"
    refine ⟨by decide,fun q hq=>?_⟩
    have nq:q ≠ a:=fun z=>by rw [z,Zag] at hq; cases hq
    have nql:q ≠ l:=fun z=>by rw [Zaj nq,z,Zag] at hq; cases hq
    have hqH:H q=none:=by rw [Zaj nq,Zaj nql,Zaj nq] at hq; exact hq
    repeat walk_at "rdk"
    refine Zav (by rw [Zaj (Ne.symm nq)]; exact Zag) tFrame.k.cl tFrame.n_steps (by show 12 < 1000; decide) ?_
    repeat walk_at "rdk"
    refine Zav Zag tFrame.k.cl tFrame.n_end (by show 13 < 1000; decide) ?_
    rw [ZaR]
    repeat walk_at "rdk"
    refine Zav Zag tFrame.k.cl tFrame.n_answer (by show 14 < 1000; decide) ?_
    rw [ZaR]
    refine k l q _ hlH hqH ⟨?_,?_,?_,Ne.symm nql⟩ ?_
    . show upd _ a _ a=_
      rw [Zag]; rfl
    . show upd _ a _ l=_
      rw [Zaj nl,Zaj (Ne.symm nql),Zaj nl,Zag]; rfl
    . show upd _ a _ q=_
      rw [Zaj nq,Zag]
    . intro b o e n
      rw [Zaj n,Zaj (Zah e hqH),Zaj n,Zaj (Zah e hlH),Zaj n]
      exact e
theorem mkFI {K:PySem.W.Frag} {h:Heap} {mg:Str->Option Value} {C f T:Addr} {oc c2:Value} {od an d2:Option Addr} {osl s2:Array (Option Value)} {kV doc pm cdv ct:Value} {tok:Tok} {n:Nat} (X:K.In h) (G:h.Ns mainGlobals mg) (aC:PySem.W.nsIn K mainGlobals "Frame" = some (some (.ref C)))
    (a:PySem.W.findIn K (.ref C) "__init__" = some (some (.ref f))) (i:PySem.W.isFn K (.ref f)=true) (l:K.lookup f=some ⟨oc,od,.func (PySem.W.fnOf "__init__" "Frame.__init__" (Zas Zaw) (Zar Zaw) (Zab Zaw) (.ref T) kV doc pm an cdv ct),osl⟩)
    (c:PySem.W.codeIn K cdv "Frame.__init__" = true) (k:PySem.W.keepIn K (.ref f)=true) (d:K.lookup T=some ⟨c2,d2,.seq #[.int 1 tok,.bool false] n,s2⟩):∃ C tok,mg "Frame" = some (.ref C)/\Zcs K C "__init__" "Frame.__init__" Zaw #[.int 1 tok,.bool false] :=
  ⟨C,tok,PySem.W.mg_of X G aC,Zi4 a i l c k d⟩
theorem ZkI {P:Program} {w:World} {K:PySem.W.Frag} {mg:Str->Option Value} {base:Heap} {cFrame:Addr} {tok:Tok} (D:Zcs K cFrame "__init__" "Frame.__init__" Zaw #[.int 1 tok,.bool false]) (tFrame:T_Frame K mg cFrame):Zhs P w K mg base 1 "Frame" cFrame (ZeC cFrame) [.int 1,.bl false] :=
  Zg7 D tFrame [.int 1 tok,.bool false] (.cons ⟨_,rfl⟩ (.cons rfl .nil)) (fun T kV doc pm an cdv ct us hl=>bd8 (R:=fun us=>∃ k:Option (Array Value)->Sem (List (Str × Value)),bindArgs _ ⟨us,[]⟩=seqItems? (.ref T) >>= k/\k (some _)=pure (List.zip _ (us ++ [.int 1 tok,.bool false]))) (fun _ _ _ _ _ _ _ _=>⟨_,rfl,rfl⟩) us (by rw [List.length_append] at hl; exact Nat.add_right_cancel hl))
theorem ZkJ {P:Program} {w:World} {K:PySem.W.Frag} {mg:Str->Option Value} {base:Heap} {cFrame:Addr} {tok:Tok} (D:Zcs K cFrame "__init__" "Frame.__init__" Zaw #[.int 1 tok,.bool false]) (tFrame:T_Frame K mg cFrame):Zhs P w K mg base 1 "Frame" cFrame (ZeC cFrame) [] :=
  Zg7 D tFrame [] .nil (fun T kV doc pm an cdv ct us hl=>bd10 (R:=fun us=>∃ k:Option (Array Value)->Sem (List (Str × Value)),bindArgs _ ⟨us,[]⟩=seqItems? (.ref T) >>= k/\k (some _)=pure (List.zip _ (us ++ []))) (fun _ _ _ _ _ _ _ _ _ _=>⟨_,rfl,rfl⟩) us (by rw [List.length_append] at hl; exact hl))
theorem Zjl {K:PySem.W.Frag} {h:Heap} {mg:Str->Option Value} {C:Addr} {f0:Addr} {oc0 kV0 dc0 pm0 cd0 ct0:Value} {od0 an0:Option Addr} {sl0:Array (Option Value)} {f1:Addr} {oc1 kV1 dc1 pm1 cd1 ct1:Value} {od1 an1:Option Addr} {sl1:Array (Option Value)} {f2:Addr} {oc2 kV2 dc2 pm2 cd2 ct2:Value} {od2 an2:Option Addr} {sl2:Array (Option Value)} (X:K.In h) (G:h.Ns mainGlobals mg) (aC:PySem.W.nsIn K mainGlobals "Account" = some (some (.ref C))) (pg:PySem.W.plainGet K C Str.empty=true) (hd:PySem.W.hasDictIn K C=true) (po:PySem.W.plainOver K C=true) (sa:PySem.W.findIn K (.ref C) "__setattr__" = some (some (.builtin "object.__setattr__"))) (mk:PySem.W.makesIn K C=true) (kc:PySem.W.keepIn K (.ref C)=true) (ncoin:PySem.W.findIn K (.ref C) "coin" = some none) (npurse:PySem.W.findIn K (.ref C) "purse" = some none) (ncount:PySem.W.findIn K (.ref C) "count" = some none) (nprogram:PySem.W.findIn K (.ref C) "program" = some none) (nstore:PySem.W.findIn K (.ref C) "store" = some none) (a__init__:PySem.W.findIn K (.ref C) "__init__" = some (some (.ref f0))) (i__init__:PySem.W.isFn K (.ref f0)=true) (l__init__:K.lookup f0=some ⟨oc0,od0,.func (PySem.W.fnOf "__init__" "Account.__init__" (Zas ZaM) (Zar ZaM) (Zab ZaM) .none kV0 dc0 pm0 an0 cd0 ct0),sl0⟩) (c__init__:PySem.W.codeIn K cd0 "Account.__init__" = true) (k__init__:PySem.W.keepIn K (.ref f0)=true) (aloaded:PySem.W.findIn K (.ref C) "loaded" = some (some (.ref f1))) (iloaded:PySem.W.isFn K (.ref f1)=true) (lloaded:K.lookup f1=some ⟨oc1,od1,.func (PySem.W.fnOf "loaded" "Account.loaded" (Zas ZaV) (Zar ZaV) (Zab ZaV) .none kV1 dc1 pm1 an1 cd1 ct1),sl1⟩) (cloaded:PySem.W.codeIn K cd1 "Account.loaded" = true) (kloaded:PySem.W.keepIn K (.ref f1)=true) (akeep:PySem.W.findIn K (.ref C) "keep" = some (some (.ref f2))) (ikeep:PySem.W.isFn K (.ref f2)=true) (lkeep:K.lookup f2=some ⟨oc2,od2,.func (PySem.W.fnOf "keep" "Account.keep" (Zas Za4) (Zar Za4) (Zab Za4) .none kV2 dc2 pm2 an2 cd2 ct2),sl2⟩) (ckeep:PySem.W.codeIn K cd2 "Account.keep" = true) (kkeep:PySem.W.keepIn K (.ref f2)=true):∃ C,T_Account K mg C/\Zal K C "__init__" "Account.__init__" ZaM/\Zal K C "loaded" "Account.loaded" ZaV/\Zal K C "keep" "Account.keep" Za4 :=
  ⟨C,⟨⟨⟨pg,hd,po,sa⟩,mk,kc,PySem.W.mg_of X G aC⟩,ncoin,npurse,ncount,nprogram,nstore⟩,Zau a__init__ i__init__ l__init__ c__init__ k__init__,Zau aloaded iloaded lloaded cloaded kloaded,Zau akeep ikeep lkeep ckeep kkeep⟩
theorem Zm4 {K:PySem.W.Frag} {h:Heap} {mg:Str->Option Value} {C:Addr} {f0:Addr} {oc0 kV0 dc0 pm0 cd0 ct0:Value} {od0 an0:Option Addr} {sl0:Array (Option Value)} {f1:Addr} {oc1 kV1 dc1 pm1 cd1 ct1:Value} {od1 an1:Option Addr} {sl1:Array (Option Value)} {f2:Addr} {oc2 kV2 dc2 pm2 cd2 ct2:Value} {od2 an2:Option Addr} {sl2:Array (Option Value)} {f3:Addr} {oc3 kV3 dc3 pm3 cd3 ct3:Value} {od3 an3:Option Addr} {sl3:Array (Option Value)} {f4:Addr} {oc4 kV4 dc4 pm4 cd4 ct4:Value} {od4 an4:Option Addr} {sl4:Array (Option Value)} (X:K.In h) (G:h.Ns mainGlobals mg) (aC:PySem.W.nsIn K mainGlobals "Save" = some (some (.ref C))) (pg:PySem.W.plainGet K C Str.empty=true) (hd:PySem.W.hasDictIn K C=true) (po:PySem.W.plainOver K C=true) (sa:PySem.W.findIn K (.ref C) "__setattr__" = some (some (.builtin "object.__setattr__"))) (mk:PySem.W.makesIn K C=true) (kc:PySem.W.keepIn K (.ref C)=true) (nslot:PySem.W.findIn K (.ref C) "slot" = some none) (nplace:PySem.W.findIn K (.ref C) "place" = some none) (nold:PySem.W.findIn K (.ref C) "old" = some none) (nnew:PySem.W.findIn K (.ref C) "new" = some none) (a__init__:PySem.W.findIn K (.ref C) "__init__" = some (some (.ref f0))) (i__init__:PySem.W.isFn K (.ref f0)=true) (l__init__:K.lookup f0=some ⟨oc0,od0,.func (PySem.W.fnOf "__init__" "Save.__init__" (Zas ZaY) (Zar ZaY) (Zab ZaY) .none kV0 dc0 pm0 an0 cd0 ct0),sl0⟩) (c__init__:PySem.W.codeIn K cd0 "Save.__init__" = true) (k__init__:PySem.W.keepIn K (.ref f0)=true) (ado:PySem.W.findIn K (.ref C) "do" = some (some (.ref f1))) (ido:PySem.W.isFn K (.ref f1)=true) (ldo:K.lookup f1=some ⟨oc1,od1,.func (PySem.W.fnOf "do" "Save.do" (Zas ZbU) (Zar ZbU) (Zab ZbU) .none kV1 dc1 pm1 an1 cd1 ct1),sl1⟩) (cdo:PySem.W.codeIn K cd1 "Save.do" = true) (kdo:PySem.W.keepIn K (.ref f1)=true) (aundo:PySem.W.findIn K (.ref C) "undo" = some (some (.ref f2))) (iundo:PySem.W.isFn K (.ref f2)=true) (lundo:K.lookup f2=some ⟨oc2,od2,.func (PySem.W.fnOf "undo" "Save.undo" (Zas Zbu) (Zar Zbu) (Zab Zbu) .none kV2 dc2 pm2 an2 cd2 ct2),sl2⟩) (cundo:PySem.W.codeIn K cd2 "Save.undo" = true) (kundo:PySem.W.keepIn K (.ref f2)=true) (atold:PySem.W.findIn K (.ref C) "told" = some (some (.ref f3))) (itold:PySem.W.isFn K (.ref f3)=true) (ltold:K.lookup f3=some ⟨oc3,od3,.func (PySem.W.fnOf "told" "Save.told" (Zas Zbv) (Zar Zbv) (Zab Zbv) .none kV3 dc3 pm3 an3 cd3 ct3),sl3⟩) (ctold:PySem.W.codeIn K cd3 "Save.told" = true) (ktold:PySem.W.keepIn K (.ref f3)=true) (aworth:PySem.W.findIn K (.ref C) "worth" = some (some (.ref f4))) (iworth:PySem.W.isFn K (.ref f4)=true) (lworth:K.lookup f4=some ⟨oc4,od4,.func (PySem.W.fnOf "worth" "Save.worth" (Zas Zbi) (Zar Zbi) (Zab Zbi) .none kV4 dc4 pm4 an4 cd4 ct4),sl4⟩) (cworth:PySem.W.codeIn K cd4 "Save.worth" = true) (kworth:PySem.W.keepIn K (.ref f4)=true):∃ C,T_Save K mg C/\Zal K C "__init__" "Save.__init__" ZaY/\Zal K C "do" "Save.do" ZbU/\Zal K C "undo" "Save.undo" Zbu/\Zal K C "told" "Save.told" Zbv/\Zal K C "worth" "Save.worth" Zbi :=
  ⟨C,⟨⟨⟨pg,hd,po,sa⟩,mk,kc,PySem.W.mg_of X G aC⟩,nslot,nplace,nold,nnew⟩,Zau a__init__ i__init__ l__init__ c__init__ k__init__,Zau ado ido ldo cdo kdo,Zau aundo iundo lundo cundo kundo,Zau atold itold ltold ctold ktold,Zau aworth iworth lworth cworth kworth⟩
theorem Zm5 {K:PySem.W.Frag} {h:Heap} {mg:Str->Option Value} {C:Addr} {f0:Addr} {oc0 kV0 dc0 pm0 cd0 ct0:Value} {od0 an0:Option Addr} {sl0:Array (Option Value)} {f1:Addr} {oc1 kV1 dc1 pm1 cd1 ct1:Value} {od1 an1:Option Addr} {sl1:Array (Option Value)} {f2:Addr} {oc2 kV2 dc2 pm2 cd2 ct2:Value} {od2 an2:Option Addr} {sl2:Array (Option Value)} {f3:Addr} {oc3 kV3 dc3 pm3 cd3 ct3:Value} {od3 an3:Option Addr} {sl3:Array (Option Value)} {f4:Addr} {oc4 kV4 dc4 pm4 cd4 ct4:Value} {od4 an4:Option Addr} {sl4:Array (Option Value)} (X:K.In h) (G:h.Ns mainGlobals mg) (aC:PySem.W.nsIn K mainGlobals "Move" = some (some (.ref C))) (pg:PySem.W.plainGet K C Str.empty=true) (hd:PySem.W.hasDictIn K C=true) (po:PySem.W.plainOver K C=true) (sa:PySem.W.findIn K (.ref C) "__setattr__" = some (some (.builtin "object.__setattr__"))) (mk:PySem.W.makesIn K C=true) (kc:PySem.W.keepIn K (.ref C)=true) (nslot:PySem.W.findIn K (.ref C) "slot" = some none) (ntaker:PySem.W.findIn K (.ref C) "taker" = some none) (nmany:PySem.W.findIn K (.ref C) "many" = some none) (a__init__:PySem.W.findIn K (.ref C) "__init__" = some (some (.ref f0))) (i__init__:PySem.W.isFn K (.ref f0)=true) (l__init__:K.lookup f0=some ⟨oc0,od0,.func (PySem.W.fnOf "__init__" "Move.__init__" (Zas ZaZ) (Zar ZaZ) (Zab ZaZ) .none kV0 dc0 pm0 an0 cd0 ct0),sl0⟩) (c__init__:PySem.W.codeIn K cd0 "Move.__init__" = true) (k__init__:PySem.W.keepIn K (.ref f0)=true) (ado:PySem.W.findIn K (.ref C) "do" = some (some (.ref f1))) (ido:PySem.W.isFn K (.ref f1)=true) (ldo:K.lookup f1=some ⟨oc1,od1,.func (PySem.W.fnOf "do" "Move.do" (Zas ZbV) (Zar ZbV) (Zab ZbV) .none kV1 dc1 pm1 an1 cd1 ct1),sl1⟩) (cdo:PySem.W.codeIn K cd1 "Move.do" = true) (kdo:PySem.W.keepIn K (.ref f1)=true) (aundo:PySem.W.findIn K (.ref C) "undo" = some (some (.ref f2))) (iundo:PySem.W.isFn K (.ref f2)=true) (lundo:K.lookup f2=some ⟨oc2,od2,.func (PySem.W.fnOf "undo" "Move.undo" (Zas Zbw) (Zar Zbw) (Zab Zbw) .none kV2 dc2 pm2 an2 cd2 ct2),sl2⟩) (cundo:PySem.W.codeIn K cd2 "Move.undo" = true) (kundo:PySem.W.keepIn K (.ref f2)=true) (atold:PySem.W.findIn K (.ref C) "told" = some (some (.ref f3))) (itold:PySem.W.isFn K (.ref f3)=true) (ltold:K.lookup f3=some ⟨oc3,od3,.func (PySem.W.fnOf "told" "Move.told" (Zas Zbx) (Zar Zbx) (Zab Zbx) .none kV3 dc3 pm3 an3 cd3 ct3),sl3⟩) (ctold:PySem.W.codeIn K cd3 "Move.told" = true) (ktold:PySem.W.keepIn K (.ref f3)=true) (aworth:PySem.W.findIn K (.ref C) "worth" = some (some (.ref f4))) (iworth:PySem.W.isFn K (.ref f4)=true) (lworth:K.lookup f4=some ⟨oc4,od4,.func (PySem.W.fnOf "worth" "Deed.worth" (Zas Zbl) (Zar Zbl) (Zab Zbl) .none kV4 dc4 pm4 an4 cd4 ct4),sl4⟩) (cworth:PySem.W.codeIn K cd4 "Deed.worth" = true) (kworth:PySem.W.keepIn K (.ref f4)=true):∃ C,T_Move K mg C/\Zal K C "__init__" "Move.__init__" ZaZ/\Zal K C "do" "Move.do" ZbV/\Zal K C "undo" "Move.undo" Zbw/\Zal K C "told" "Move.told" Zbx/\Zal K C "worth" "Deed.worth" Zbl :=
  ⟨C,⟨⟨⟨pg,hd,po,sa⟩,mk,kc,PySem.W.mg_of X G aC⟩,nslot,ntaker,nmany⟩,Zau a__init__ i__init__ l__init__ c__init__ k__init__,Zau ado ido ldo cdo kdo,Zau aundo iundo lundo cundo kundo,Zau atold itold ltold ctold ktold,Zau aworth iworth lworth cworth kworth⟩
theorem Zm6 {K:PySem.W.Frag} {h:Heap} {mg:Str->Option Value} {C:Addr} {f0:Addr} {oc0 kV0 dc0 pm0 cd0 ct0:Value} {od0 an0:Option Addr} {sl0:Array (Option Value)} {f1:Addr} {oc1 kV1 dc1 pm1 cd1 ct1:Value} {od1 an1:Option Addr} {sl1:Array (Option Value)} {f2:Addr} {oc2 kV2 dc2 pm2 cd2 ct2:Value} {od2 an2:Option Addr} {sl2:Array (Option Value)} {f3:Addr} {oc3 kV3 dc3 pm3 cd3 ct3:Value} {od3 an3:Option Addr} {sl3:Array (Option Value)} {f4:Addr} {oc4 kV4 dc4 pm4 cd4 ct4:Value} {od4 an4:Option Addr} {sl4:Array (Option Value)} (X:K.In h) (G:h.Ns mainGlobals mg) (aC:PySem.W.nsIn K mainGlobals "Note" = some (some (.ref C))) (pg:PySem.W.plainGet K C Str.empty=true) (hd:PySem.W.hasDictIn K C=true) (po:PySem.W.plainOver K C=true) (sa:PySem.W.findIn K (.ref C) "__setattr__" = some (some (.builtin "object.__setattr__"))) (mk:PySem.W.makesIn K C=true) (kc:PySem.W.keepIn K (.ref C)=true) (nslot:PySem.W.findIn K (.ref C) "slot" = some none) (nnumber:PySem.W.findIn K (.ref C) "number" = some none) (a__init__:PySem.W.findIn K (.ref C) "__init__" = some (some (.ref f0))) (i__init__:PySem.W.isFn K (.ref f0)=true) (l__init__:K.lookup f0=some ⟨oc0,od0,.func (PySem.W.fnOf "__init__" "Note.__init__" (Zas Za0) (Zar Za0) (Zab Za0) .none kV0 dc0 pm0 an0 cd0 ct0),sl0⟩) (c__init__:PySem.W.codeIn K cd0 "Note.__init__" = true) (k__init__:PySem.W.keepIn K (.ref f0)=true) (atold:PySem.W.findIn K (.ref C) "told" = some (some (.ref f1))) (itold:PySem.W.isFn K (.ref f1)=true) (ltold:K.lookup f1=some ⟨oc1,od1,.func (PySem.W.fnOf "told" "Note.told" (Zas Zby) (Zar Zby) (Zab Zby) .none kV1 dc1 pm1 an1 cd1 ct1),sl1⟩) (ctold:PySem.W.codeIn K cd1 "Note.told" = true) (ktold:PySem.W.keepIn K (.ref f1)=true) (ado:PySem.W.findIn K (.ref C) "do" = some (some (.ref f2))) (ido:PySem.W.isFn K (.ref f2)=true) (ldo:K.lookup f2=some ⟨oc2,od2,.func (PySem.W.fnOf "do" "Deed.do" (Zas ZbW) (Zar ZbW) (Zab ZbW) .none kV2 dc2 pm2 an2 cd2 ct2),sl2⟩) (cdo:PySem.W.codeIn K cd2 "Deed.do" = true) (kdo:PySem.W.keepIn K (.ref f2)=true) (aundo:PySem.W.findIn K (.ref C) "undo" = some (some (.ref f3))) (iundo:PySem.W.isFn K (.ref f3)=true) (lundo:K.lookup f3=some ⟨oc3,od3,.func (PySem.W.fnOf "undo" "Deed.undo" (Zas ZbA) (Zar ZbA) (Zab ZbA) .none kV3 dc3 pm3 an3 cd3 ct3),sl3⟩) (cundo:PySem.W.codeIn K cd3 "Deed.undo" = true) (kundo:PySem.W.keepIn K (.ref f3)=true) (aworth:PySem.W.findIn K (.ref C) "worth" = some (some (.ref f4))) (iworth:PySem.W.isFn K (.ref f4)=true) (lworth:K.lookup f4=some ⟨oc4,od4,.func (PySem.W.fnOf "worth" "Deed.worth" (Zas Zbm) (Zar Zbm) (Zab Zbm) .none kV4 dc4 pm4 an4 cd4 ct4),sl4⟩) (cworth:PySem.W.codeIn K cd4 "Deed.worth" = true) (kworth:PySem.W.keepIn K (.ref f4)=true):∃ C,T_Note K mg C/\Zal K C "__init__" "Note.__init__" Za0/\Zal K C "told" "Note.told" Zby/\Zal K C "do" "Deed.do" ZbW/\Zal K C "undo" "Deed.undo" ZbA/\Zal K C "worth" "Deed.worth" Zbm :=
  ⟨C,⟨⟨⟨pg,hd,po,sa⟩,mk,kc,PySem.W.mg_of X G aC⟩,nslot,nnumber⟩,Zau a__init__ i__init__ l__init__ c__init__ k__init__,Zau atold itold ltold ctold ktold,Zau ado ido ldo cdo kdo,Zau aundo iundo lundo cundo kundo,Zau aworth iworth lworth cworth kworth⟩
theorem Zjm {K:PySem.W.Frag} {h:Heap} {mg:Str->Option Value} {C:Addr} {f0:Addr} {oc0 kV0 dc0 pm0 cd0 ct0:Value} {od0 an0:Option Addr} {sl0:Array (Option Value)} {f1:Addr} {oc1 kV1 dc1 pm1 cd1 ct1:Value} {od1 an1:Option Addr} {sl1:Array (Option Value)} {f2:Addr} {oc2 kV2 dc2 pm2 cd2 ct2:Value} {od2 an2:Option Addr} {sl2:Array (Option Value)} {f3:Addr} {oc3 kV3 dc3 pm3 cd3 ct3:Value} {od3 an3:Option Addr} {sl3:Array (Option Value)} {f4:Addr} {oc4 kV4 dc4 pm4 cd4 ct4:Value} {od4 an4:Option Addr} {sl4:Array (Option Value)} {f5:Addr} {oc5 kV5 dc5 pm5 cd5 ct5:Value} {od5 an5:Option Addr} {sl5:Array (Option Value)} (X:K.In h) (G:h.Ns mainGlobals mg) (aC:PySem.W.nsIn K mainGlobals "Journal" = some (some (.ref C))) (pg:PySem.W.plainGet K C Str.empty=true) (hd:PySem.W.hasDictIn K C=true) (po:PySem.W.plainOver K C=true) (sa:PySem.W.findIn K (.ref C) "__setattr__" = some (some (.builtin "object.__setattr__"))) (mk:PySem.W.makesIn K C=true) (kc:PySem.W.keepIn K (.ref C)=true) (nrooms:PySem.W.findIn K (.ref C) "rooms" = some none) (ndeeds:PySem.W.findIn K (.ref C) "deeds" = some none) (a__init__:PySem.W.findIn K (.ref C) "__init__" = some (some (.ref f0))) (i__init__:PySem.W.isFn K (.ref f0)=true) (l__init__:K.lookup f0=some ⟨oc0,od0,.func (PySem.W.fnOf "__init__" "Journal.__init__" (Zas ZaN) (Zar ZaN) (Zab ZaN) .none kV0 dc0 pm0 an0 cd0 ct0),sl0⟩) (c__init__:PySem.W.codeIn K cd0 "Journal.__init__" = true) (k__init__:PySem.W.keepIn K (.ref f0)=true) (awrite:PySem.W.findIn K (.ref C) "write" = some (some (.ref f1))) (iwrite:PySem.W.isFn K (.ref f1)=true) (lwrite:K.lookup f1=some ⟨oc1,od1,.func (PySem.W.fnOf "write" "Journal.write" (Zas Za1) (Zar Za1) (Zab Za1) .none kV1 dc1 pm1 an1 cd1 ct1),sl1⟩) (cwrite:PySem.W.codeIn K cd1 "Journal.write" = true) (kwrite:PySem.W.keepIn K (.ref f1)=true) (amark:PySem.W.findIn K (.ref C) "mark" = some (some (.ref f2))) (imark:PySem.W.isFn K (.ref f2)=true) (lmark:K.lookup f2=some ⟨oc2,od2,.func (PySem.W.fnOf "mark" "Journal.mark" (Zas Za6) (Zar Za6) (Zab Za6) .none kV2 dc2 pm2 an2 cd2 ct2),sl2⟩) (cmark:PySem.W.codeIn K cd2 "Journal.mark" = true) (kmark:PySem.W.keepIn K (.ref f2)=true) (aback:PySem.W.findIn K (.ref C) "back" = some (some (.ref f3))) (iback:PySem.W.isFn K (.ref f3)=true) (lback:K.lookup f3=some ⟨oc3,od3,.func (PySem.W.fnOf "back" "Journal.back" (Zas Za7) (Zar Za7) (Zab Za7) .none kV3 dc3 pm3 an3 cd3 ct3),sl3⟩) (cback:PySem.W.codeIn K cd3 "Journal.back" = true) (kback:PySem.W.keepIn K (.ref f3)=true) (atold:PySem.W.findIn K (.ref C) "told" = some (some (.ref f4))) (itold:PySem.W.isFn K (.ref f4)=true) (ltold:K.lookup f4=some ⟨oc4,od4,.func (PySem.W.fnOf "told" "Journal.told" (Zas ZaW) (Zar ZaW) (Zab ZaW) .none kV4 dc4 pm4 an4 cd4 ct4),sl4⟩) (ctold:PySem.W.codeIn K cd4 "Journal.told" = true) (ktold:PySem.W.keepIn K (.ref f4)=true) (aworth:PySem.W.findIn K (.ref C) "worth" = some (some (.ref f5))) (iworth:PySem.W.isFn K (.ref f5)=true) (lworth:K.lookup f5=some ⟨oc5,od5,.func (PySem.W.fnOf "worth" "Journal.worth" (Zas ZaT) (Zar ZaT) (Zab ZaT) .none kV5 dc5 pm5 an5 cd5 ct5),sl5⟩) (cworth:PySem.W.codeIn K cd5 "Journal.worth" = true) (kworth:PySem.W.keepIn K (.ref f5)=true):∃ C,T_Journal K mg C/\Zal K C "__init__" "Journal.__init__" ZaN/\Zal K C "write" "Journal.write" Za1/\Zal K C "mark" "Journal.mark" Za6/\Zal K C "back" "Journal.back" Za7/\Zal K C "told" "Journal.told" ZaW/\Zal K C "worth" "Journal.worth" ZaT :=
  ⟨C,⟨⟨⟨pg,hd,po,sa⟩,mk,kc,PySem.W.mg_of X G aC⟩,nrooms,ndeeds⟩,Zau a__init__ i__init__ l__init__ c__init__ k__init__,Zau awrite iwrite lwrite cwrite kwrite,Zau amark imark lmark cmark kmark,Zau aback iback lback cback kback,Zau atold itold ltold ctold ktold,Zau aworth iworth lworth cworth kworth⟩
theorem ZlI {K:PySem.W.Frag} {h:Heap} {mg:Str->Option Value} {C:Addr} {f0:Addr} {oc0 kV0 dc0 pm0 cd0 ct0:Value} {od0 an0:Option Addr} {sl0:Array (Option Value)} {f1:Addr} {oc1 kV1 dc1 pm1 cd1 ct1:Value} {od1 an1:Option Addr} {sl1:Array (Option Value)} {f2:Addr} {oc2 kV2 dc2 pm2 cd2 ct2:Value} {od2 an2:Option Addr} {sl2:Array (Option Value)} {f3:Addr} {oc3 kV3 dc3 pm3 cd3 ct3:Value} {od3 an3:Option Addr} {sl3:Array (Option Value)} {f4:Addr} {oc4 kV4 dc4 pm4 cd4 ct4:Value} {od4 an4:Option Addr} {sl4:Array (Option Value)} {f5:Addr} {oc5 kV5 dc5 pm5 cd5 ct5:Value} {od5 an5:Option Addr} {sl5:Array (Option Value)} {f6:Addr} {oc6 kV6 dc6 pm6 cd6 ct6:Value} {od6 an6:Option Addr} {sl6:Array (Option Value)} (X:K.In h) (G:h.Ns mainGlobals mg) (aC:PySem.W.nsIn K mainGlobals "Frame" = some (some (.ref C))) (pg:PySem.W.plainGet K C Str.empty=true) (hd:PySem.W.hasDictIn K C=true) (po:PySem.W.plainOver K C=true) (sa:PySem.W.findIn K (.ref C) "__setattr__" = some (some (.builtin "object.__setattr__"))) (mk:PySem.W.makesIn K C=true) (kc:PySem.W.keepIn K (.ref C)=true) (nkind:PySem.W.findIn K (.ref C) "kind" = some none) (nwho:PySem.W.findIn K (.ref C) "who" = some none) (nwhose:PySem.W.findIn K (.ref C) "whose" = some none) (ncaller:PySem.W.findIn K (.ref C) "caller" = some none) (ncoin:PySem.W.findIn K (.ref C) "coin" = some none) (nword:PySem.W.findIn K (.ref C) "word" = some none) (ngiven:PySem.W.findIn K (.ref C) "given" = some none) (ndepth:PySem.W.findIn K (.ref C) "depth" = some none) (nlooking:PySem.W.findIn K (.ref C) "looking" = some none) (nused:PySem.W.findIn K (.ref C) "used" = some none) (nstack:PySem.W.findIn K (.ref C) "stack" = some none) (nrow:PySem.W.findIn K (.ref C) "row" = some none) (nsteps:PySem.W.findIn K (.ref C) "steps" = some none) (nend:PySem.W.findIn K (.ref C) "end" = some none) (nanswer:PySem.W.findIn K (.ref C) "answer" = some none) (aleft:PySem.W.findIn K (.ref C) "left" = some (some (.ref f0))) (ileft:PySem.W.isFn K (.ref f0)=true) (lleft:K.lookup f0=some ⟨oc0,od0,.func (PySem.W.fnOf "left" "Frame.left" (Zas Zbj) (Zar Zbj) (Zab Zbj) .none kV0 dc0 pm0 an0 cd0 ct0),sl0⟩) (cleft:PySem.W.codeIn K cd0 "Frame.left" = true) (kleft:PySem.W.keepIn K (.ref f0)=true) (ashort_for:PySem.W.findIn K (.ref C) "short_for" = some (some (.ref f1))) (ishort_for:PySem.W.isFn K (.ref f1)=true) (lshort_for:K.lookup f1=some ⟨oc1,od1,.func (PySem.W.fnOf "short_for" "Frame.short_for" (Zas ZaP) (Zar ZaP) (Zab ZaP) .none kV1 dc1 pm1 an1 cd1 ct1),sl1⟩) (cshort_for:PySem.W.codeIn K cd1 "Frame.short_for" = true) (kshort_for:PySem.W.keepIn K (.ref f1)=true) (afull_behind:PySem.W.findIn K (.ref C) "full_behind" = some (some (.ref f2))) (ifull_behind:PySem.W.isFn K (.ref f2)=true) (lfull_behind:K.lookup f2=some ⟨oc2,od2,.func (PySem.W.fnOf "full_behind" "Frame.full_behind" (Zas ZaL) (Zar ZaL) (Zab ZaL) .none kV2 dc2 pm2 an2 cd2 ct2),sl2⟩) (cfull_behind:PySem.W.codeIn K cd2 "Frame.full_behind" = true) (kfull_behind:PySem.W.keepIn K (.ref f2)=true) (ataken:PySem.W.findIn K (.ref C) "taken" = some (some (.ref f3))) (itaken:PySem.W.isFn K (.ref f3)=true) (ltaken:K.lookup f3=some ⟨oc3,od3,.func (PySem.W.fnOf "taken" "Frame.taken" (Zas Zbf) (Zar Zbf) (Zab Zbf) .none kV3 dc3 pm3 an3 cd3 ct3),sl3⟩) (ctaken:PySem.W.codeIn K cd3 "Frame.taken" = true) (ktaken:PySem.W.keepIn K (.ref f3)=true) (alay:PySem.W.findIn K (.ref C) "lay" = some (some (.ref f4))) (ilay:PySem.W.isFn K (.ref f4)=true) (llay:K.lookup f4=some ⟨oc4,od4,.func (PySem.W.fnOf "lay" "Frame.lay" (Zas Zbz) (Zar Zbz) (Zab Zbz) .none kV4 dc4 pm4 an4 cd4 ct4),sl4⟩) (clay:PySem.W.codeIn K cd4 "Frame.lay" = true) (klay:PySem.W.keepIn K (.ref f4)=true) (afinish:PySem.W.findIn K (.ref C) "finish" = some (some (.ref f5))) (ifinish:PySem.W.isFn K (.ref f5)=true) (lfinish:K.lookup f5=some ⟨oc5,od5,.func (PySem.W.fnOf "finish" "Frame.finish" (Zas Za5) (Zar Za5) (Zab Za5) .none kV5 dc5 pm5 an5 cd5 ct5),sl5⟩) (cfinish:PySem.W.codeIn K cd5 "Frame.finish" = true) (kfinish:PySem.W.keepIn K (.ref f5)=true) (atree:PySem.W.findIn K (.ref C) "tree" = some (some (.ref f6))) (itree:PySem.W.isFn K (.ref f6)=true) (ltree:K.lookup f6=some ⟨oc6,od6,.func (PySem.W.fnOf "tree" "Frame.tree" (Zas Zbk) (Zar Zbk) (Zab Zbk) .none kV6 dc6 pm6 an6 cd6 ct6),sl6⟩) (ctree:PySem.W.codeIn K cd6 "Frame.tree" = true) (ktree:PySem.W.keepIn K (.ref f6)=true):∃ C,T_Frame K mg C/\Zal K C "left" "Frame.left" Zbj/\Zal K C "short_for" "Frame.short_for" ZaP/\Zal K C "full_behind" "Frame.full_behind" ZaL/\Zal K C "taken" "Frame.taken" Zbf/\Zal K C "lay" "Frame.lay" Zbz/\Zal K C "finish" "Frame.finish" Za5/\Zal K C "tree" "Frame.tree" Zbk :=
  ⟨C,⟨⟨⟨pg,hd,po,sa⟩,mk,kc,PySem.W.mg_of X G aC⟩,nkind,nwho,nwhose,ncaller,ncoin,nword,ngiven,ndepth,nlooking,nused,nstack,nrow,nsteps,nend,nanswer⟩,Zau aleft ileft lleft cleft kleft,Zau ashort_for ishort_for lshort_for cshort_for kshort_for,Zau afull_behind ifull_behind lfull_behind cfull_behind kfull_behind,Zau ataken itaken ltaken ctaken ktaken,Zau alay ilay llay clay klay,Zau afinish ifinish lfinish cfinish kfinish,Zau atree itree ltree ctree ktree⟩
end
end My
namespace L2
open PySem PySem.W
theorem ZlJ {q:Program} {loose:List Str} {XP:(Str->Option Value)->Heap->Prop} {r:RowW} {d:DefRec} {kwd:List (Str × PySem.Expr)} {run:Value->List Value->Sem Value} {K:Params->Frag} {as:List Addr} {n t:Nat} (e:∀ P,as=(K P).map (·.1))
    (h:WalkO q loose XP (fun w h=>(K w.params).In h) r d kwd run):WalkX q loose XP (X.obsZ as) (X.valZ K n t) r d kwd run :=
  fun w s₀ s₁ mg mb G y a o pm cd doc dV kV h1 h2 h3 h4 h5 h6 args vals as' L=>h w s₀ s₁ mg mb G (InK.keeps w s₀.heap s₁.heap (X.z_facts e y).2.1 (Laid.keeps L)) a o pm cd doc dV kV h1 h2 h3 h4 h5 h6 args vals as'
end L2
open PySem PySem.W PyProof.Rows
local macro_rules|`(tactic| walk_at "vals")=>`(tactic| first
  | exact L2.Zk9
  | (refine L2.Zla ?_; walk_at "vals")
  | (refine L2.Zlb ?_; walk_at "vals")
  | fail)
namespace PySem.W.Fast
theorem tw17155298985743362969:True:=⟨⟩
theorem tw15553188378767391193:True:=⟨⟩
theorem tw11902403623714790432:True:=⟨⟩
theorem tw7931026802399672352:True:=⟨⟩
theorem tw7429858216152558656:True:=⟨⟩
theorem tw970973951847521440:True:=⟨⟩
theorem tw4154786392329828576:True:=⟨⟩
theorem tw425573392361923808:True:=⟨⟩
theorem tw15048386368224374016:True:=⟨⟩
theorem tw114939821655368992:True:=⟨⟩
theorem tw1042189608235881856:True:=⟨⟩
theorem tw16526352074594343296:True:=⟨⟩
theorem tw1861791186458043808:True:=⟨⟩
theorem tw10821795726710398400:True:=⟨⟩
theorem tw3811472380554221024:True:=⟨⟩
theorem tw4617262060947119712:True:=⟨⟩
theorem tw14202113093727561312:True:=⟨⟩
theorem tw3450929682210156128:True:=⟨⟩
theorem tw16580382023045373568:True:=⟨⟩
theorem tw580244926475512448:True:=⟨⟩
theorem tw5862984555144143520:True:=⟨⟩
theorem tw13359798903113889472:True:=⟨⟩
theorem tw17017900716743177920:True:=⟨⟩
theorem tw2529441278360073952:True:=⟨⟩
theorem tw3762524651109238496:True:=⟨⟩
theorem tw2525044494333047712:True:=⟨⟩
theorem tw6167257377844810656:True:=⟨⟩
theorem tw9477892196370272192:True:=⟨⟩
theorem tw12456697408188786689:True:=⟨⟩
theorem tw12227906467823967265:True:=⟨⟩
theorem tw1847246347058067521:True:=⟨⟩
theorem tw2096548633571947649:True:=⟨⟩
theorem tw12996655119625742497:True:=⟨⟩
theorem tw7063918004991355041:True:=⟨⟩
theorem tw3819308795386180833:True:=⟨⟩
theorem tw10645263012659320033:True:=⟨⟩
theorem tw2458159501365810433:True:=⟨⟩
theorem tw2098390806872111425:True:=⟨⟩
theorem tw3094173685530973505:True:=⟨⟩
theorem tw12770267677177406785:True:=⟨⟩
theorem tw3370443185141446977:True:=⟨⟩
theorem tw12527497770704047457:True:=⟨⟩
theorem tw15385782193413599585:True:=⟨⟩
theorem tw10109083454823907681:True:=⟨⟩
theorem tw8492464848457334113:True:=⟨⟩
theorem tw8240971243099773313:True:=⟨⟩
theorem tw15023861158122241473:True:=⟨⟩
theorem tw5295957971260999169:True:=⟨⟩
theorem tw9364480624904397313:True:=⟨⟩
theorem tw14324674931280209505:True:=⟨⟩
theorem tw5299479068890977889:True:=⟨⟩
theorem tw3161006194897888897:True:=⟨⟩
theorem tw2986440017292911233:True:=⟨⟩
theorem tw7028971541520773793:True:=⟨⟩
theorem tw13906478265586797345:True:=⟨⟩
theorem tw9010204769125486401:True:=⟨⟩
theorem tw342446536057084769:True:=⟨⟩
theorem tw11931381179865598817:True:=⟨⟩
theorem tw2985404305645617025:True:=⟨⟩
theorem tw1813024208924780481:True:=⟨⟩
theorem tw17292701425022175234:True:=⟨⟩
theorem tw11085360120375345154:True:=⟨⟩
theorem tw10251602484083422242:True:=⟨⟩
theorem tw12000824988984376354:True:=⟨⟩
theorem tw6059814295375978562:True:=⟨⟩
theorem tw13813881645029074018:True:=⟨⟩
theorem tw3098159196850506914:True:=⟨⟩
theorem tw17731166244379366594:True:=⟨⟩
theorem tw14324107783164951778:True:=⟨⟩
theorem tw14798532662813148482:True:=⟨⟩
theorem tw12434775205662610818:True:=⟨⟩
theorem tw4263164489425970562:True:=⟨⟩
theorem tw15158930368827323874:True:=⟨⟩
theorem tw12476218191515722306:True:=⟨⟩
theorem tw4557864391906642530:True:=⟨⟩
theorem tw611351749876930146:True:=⟨⟩
theorem tw13843690483449626210:True:=⟨⟩
theorem tw1085844903865028354:True:=⟨⟩
theorem tw6438832562042485570:True:=⟨⟩
theorem tw13626242220152837026:True:=⟨⟩
theorem tw13438795117357158370:True:=⟨⟩
theorem tw3380269526464988163:True:=⟨⟩
theorem tw40431038054204419:True:=⟨⟩
theorem tw4087589928648327171:True:=⟨⟩
theorem tw7945501706593505315:True:=⟨⟩
theorem tw9451780508191294563:True:=⟨⟩
theorem tw4220124941120343203:True:=⟨⟩
theorem tw10252423195058510019:True:=⟨⟩
theorem tw5804320382159762659:True:=⟨⟩
theorem tw7550376622174760195:True:=⟨⟩
theorem tw84781264409973027:True:=⟨⟩
theorem tw1290141140915950947:True:=⟨⟩
theorem tw3495154221524232579:True:=⟨⟩
theorem tw15683978128619157891:True:=⟨⟩
theorem tw14584682963601888675:True:=⟨⟩
theorem tw3350013182264589731:True:=⟨⟩
theorem tw17040971031872559523:True:=⟨⟩
theorem tw11636498644223039939:True:=⟨⟩
theorem tw13163415728536038851:True:=⟨⟩
theorem tw5807242782147496419:True:=⟨⟩
theorem tw10364279873686100611:True:=⟨⟩
theorem tw8592987235978794627:True:=⟨⟩
theorem tw16337010674747847363:True:=⟨⟩
theorem tw16177500575558875843:True:=⟨⟩
theorem tw12939077962863158019:True:=⟨⟩
theorem tw776158936976842499:True:=⟨⟩
theorem tw7399099530172917571:True:=⟨⟩
theorem tw11134968560326073187:True:=⟨⟩
theorem tw16281832823268103107:True:=⟨⟩
theorem tw11593146135629316164:True:=⟨⟩
theorem tw727505081236735076:True:=⟨⟩
theorem tw13181569128893789284:True:=⟨⟩
theorem tw5092965042260089956:True:=⟨⟩
theorem tw17505264753851628676:True:=⟨⟩
theorem tw5071812200745439396:True:=⟨⟩
theorem tw10280235980296872228:True:=⟨⟩
theorem tw2843133797303260484:True:=⟨⟩
theorem tw14711831058940163460:True:=⟨⟩
theorem tw3466400900622906756:True:=⟨⟩
theorem tw3878437893218113956:True:=⟨⟩
theorem tw6953718272497575332:True:=⟨⟩
theorem tw16227686226388613540:True:=⟨⟩
theorem tw17532072075778526660:True:=⟨⟩
theorem tw1916031225303038404:True:=⟨⟩
theorem tw14689580359357655524:True:=⟨⟩
theorem tw4077792348548600324:True:=⟨⟩
theorem tw16316219092769427076:True:=⟨⟩
theorem tw307285812588197508:True:=⟨⟩
theorem tw4143657359583591140:True:=⟨⟩
theorem tw11015921237998190404:True:=⟨⟩
theorem tw3300361540042519364:True:=⟨⟩
theorem tw17425062490031560548:True:=⟨⟩
theorem tw16489407597462194084:True:=⟨⟩
theorem tw14918654288603033572:True:=⟨⟩
theorem tw8141833050625334244:True:=⟨⟩
theorem tw14139488056914479109:True:=⟨⟩
theorem tw16102989465966796837:True:=⟨⟩
theorem tw1337089716058450181:True:=⟨⟩
theorem tw356249463962936581:True:=⟨⟩
theorem tw16640652241809674533:True:=⟨⟩
theorem tw16037096479364588997:True:=⟨⟩
theorem tw15604168762997575141:True:=⟨⟩
theorem tw17588576879830460965:True:=⟨⟩
theorem tw8403624243527513637:True:=⟨⟩
theorem tw2046535048932842053:True:=⟨⟩
theorem tw9570265452449363525:True:=⟨⟩
theorem tw852298394919972453:True:=⟨⟩
theorem tw1825206461540776549:True:=⟨⟩
theorem tw17769932326216243845:True:=⟨⟩
theorem tw11762951984864416389:True:=⟨⟩
theorem tw7712127767820428965:True:=⟨⟩
theorem tw1515326905525284549:True:=⟨⟩
theorem tw10856563871571058405:True:=⟨⟩
theorem tw10369984118209656613:True:=⟨⟩
theorem tw1975771182381386533:True:=⟨⟩
theorem tw4405170336391904069:True:=⟨⟩
theorem tw9351303565487728453:True:=⟨⟩
theorem tw2935216886001041253:True:=⟨⟩
theorem tw8790072593243338629:True:=⟨⟩
theorem tw12465382099997081541:True:=⟨⟩
theorem tw10217472109954547718:True:=⟨⟩
theorem tw13183878758245455878:True:=⟨⟩
theorem tw16263383551246951430:True:=⟨⟩
theorem tw1101631819346912294:True:=⟨⟩
theorem tw4450201626385571910:True:=⟨⟩
theorem tw5415342313693351014:True:=⟨⟩
theorem tw3205653758979790950:True:=⟨⟩
theorem tw6526005387384728710:True:=⟨⟩
theorem tw12809745533303380102:True:=⟨⟩
theorem tw8861416567433587846:True:=⟨⟩
theorem tw12913348525253857446:True:=⟨⟩
theorem tw3174729469440468166:True:=⟨⟩
theorem tw22316172967936262:True:=⟨⟩
theorem tw5603457591458008326:True:=⟨⟩
theorem tw6940762966766062886:True:=⟨⟩
theorem tw11088811951309949254:True:=⟨⟩
theorem tw15868744232244701510:True:=⟨⟩
theorem tw10686417553158511974:True:=⟨⟩
theorem tw5311121059783416230:True:=⟨⟩
theorem tw14542132730617279974:True:=⟨⟩
theorem tw7351535817885018598:True:=⟨⟩
theorem tw13437907971255056902:True:=⟨⟩
theorem tw3866929606358758950:True:=⟨⟩
theorem tw6587982422942552678:True:=⟨⟩
theorem tw13503203077545593542:True:=⟨⟩
theorem tw13935308216469146342:True:=⟨⟩
theorem tw12344085371540855526:True:=⟨⟩
theorem tw7182458781605182278:True:=⟨⟩
theorem tw8620539930353882950:True:=⟨⟩
theorem tw11412307683816885062:True:=⟨⟩
theorem tw2090000292805678950:True:=⟨⟩
theorem tw17539147545723382662:True:=⟨⟩
theorem tw2488745960326338502:True:=⟨⟩
theorem tw7654221415078017990:True:=⟨⟩
theorem tw13238379268300043206:True:=⟨⟩
theorem tw7106052163251548134:True:=⟨⟩
theorem tw11059428331055231015:True:=⟨⟩
theorem tw10297364723682107527:True:=⟨⟩
theorem tw13470248910403657927:True:=⟨⟩
theorem tw10258664241821243623:True:=⟨⟩
theorem tw600843828570112263:True:=⟨⟩
theorem tw10079033139776269575:True:=⟨⟩
theorem tw4895078033330210087:True:=⟨⟩
theorem tw949561245816420679:True:=⟨⟩
theorem tw8269718943821120967:True:=⟨⟩
theorem tw10136070837356370503:True:=⟨⟩
theorem tw17797332439833616967:True:=⟨⟩
theorem tw1788043192562974407:True:=⟨⟩
theorem tw8152810943553353415:True:=⟨⟩
theorem tw5639072544215838503:True:=⟨⟩
theorem tw8940350564607460167:True:=⟨⟩
theorem tw2622598954645531495:True:=⟨⟩
theorem tw10013800652014168935:True:=⟨⟩
theorem tw16185344425927604071:True:=⟨⟩
theorem tw6672497697682433927:True:=⟨⟩
theorem tw12916006614707013511:True:=⟨⟩
theorem tw9979074701535375303:True:=⟨⟩
theorem tw6111748951272315879:True:=⟨⟩
theorem tw13508439456815013896:True:=⟨⟩
theorem tw8507236610585558056:True:=⟨⟩
theorem tw3985010216751705160:True:=⟨⟩
theorem tw14265754917334651016:True:=⟨⟩
theorem tw13098718952461537512:True:=⟨⟩
theorem tw13927167420466149608:True:=⟨⟩
theorem tw15639731805374946568:True:=⟨⟩
theorem tw5914513338130447624:True:=⟨⟩
theorem tw6479100101374764296:True:=⟨⟩
theorem tw8642698894757492040:True:=⟨⟩
theorem tw10118160820578547048:True:=⟨⟩
theorem tw13157641073658763656:True:=⟨⟩
theorem tw12934035302746924424:True:=⟨⟩
theorem tw14729628777899015656:True:=⟨⟩
theorem tw10708990097961338408:True:=⟨⟩
theorem tw14572666048376293960:True:=⟨⟩
theorem tw15686365879620610824:True:=⟨⟩
theorem tw6985160978374254408:True:=⟨⟩
theorem tw7633351046449654600:True:=⟨⟩
theorem tw14046927625974674248:True:=⟨⟩
theorem tw7285922693730571144:True:=⟨⟩
theorem tw3509560571885569960:True:=⟨⟩
theorem tw15431892038833850280:True:=⟨⟩
theorem tw5283113225597841384:True:=⟨⟩
theorem tw10789731484580733961:True:=⟨⟩
theorem tw8189780366467113001:True:=⟨⟩
theorem tw10315787891088750665:True:=⟨⟩
theorem tw10548148441418926185:True:=⟨⟩
theorem tw17764541011439348905:True:=⟨⟩
theorem tw12340168742653396265:True:=⟨⟩
theorem tw17237696179356994857:True:=⟨⟩
theorem tw9961674766000526697:True:=⟨⟩
theorem tw5446295930587805033:True:=⟨⟩
theorem tw3029714374945183113:True:=⟨⟩
theorem tw14404533438175778313:True:=⟨⟩
theorem tw4410821347782973961:True:=⟨⟩
theorem tw10142258593422244361:True:=⟨⟩
theorem tw5065003396132251177:True:=⟨⟩
theorem tw2576635950358465097:True:=⟨⟩
theorem tw2104391223643597385:True:=⟨⟩
theorem tw6245783063261666953:True:=⟨⟩
theorem tw16706155338535396009:True:=⟨⟩
theorem tw4330774012948397737:True:=⟨⟩
theorem tw13120762329904637673:True:=⟨⟩
theorem tw13302986223070117641:True:=⟨⟩
theorem tw9838952071613845289:True:=⟨⟩
theorem tw1903726246335632169:True:=⟨⟩
theorem tw11347169096516718409:True:=⟨⟩
theorem tw15250023810768432009:True:=⟨⟩
theorem tw9895128506704435113:True:=⟨⟩
theorem tw7449937918885704617:True:=⟨⟩
theorem tw17845182731389555625:True:=⟨⟩
theorem tw14152655412609965993:True:=⟨⟩
theorem tw16291871285391243274:True:=⟨⟩
theorem tw17016858588130874410:True:=⟨⟩
theorem tw11912359140767908906:True:=⟨⟩
theorem tw7273217478450599018:True:=⟨⟩
theorem tw312392300530475146:True:=⟨⟩
theorem tw3918977636033906826:True:=⟨⟩
theorem tw3581490518540085418:True:=⟨⟩
theorem tw7184139288353902794:True:=⟨⟩
theorem tw1400482777206413546:True:=⟨⟩
theorem tw861954115781506314:True:=⟨⟩
theorem tw1507081466828208394:True:=⟨⟩
theorem tw2622983027231739210:True:=⟨⟩
theorem tw7389230979389580682:True:=⟨⟩
theorem tw7254828886037561770:True:=⟨⟩
theorem tw11971946561632649642:True:=⟨⟩
theorem tw3696473504785850794:True:=⟨⟩
theorem tw4896573991360226730:True:=⟨⟩
theorem tw16920017666915858890:True:=⟨⟩
theorem tw13226785839885435498:True:=⟨⟩
theorem tw8506790038342455914:True:=⟨⟩
theorem tw16934575060741894794:True:=⟨⟩
theorem tw16243644057494064778:True:=⟨⟩
theorem tw16248507564605361834:True:=⟨⟩
theorem tw14011857081599564458:True:=⟨⟩
theorem tw4726847919102685898:True:=⟨⟩
theorem tw10876149746470589226:True:=⟨⟩
theorem tw5453183784063670090:True:=⟨⟩
theorem tw4215726609399437130:True:=⟨⟩
theorem tw16618466177229104010:True:=⟨⟩
theorem tw302473083100345226:True:=⟨⟩
theorem tw16700319717314589610:True:=⟨⟩
theorem tw214001438501816266:True:=⟨⟩
theorem tw14426801234640888778:True:=⟨⟩
theorem tw13215063323660321803:True:=⟨⟩
theorem tw2686911983539745835:True:=⟨⟩
theorem tw13672520632570905739:True:=⟨⟩
theorem tw13863227347643770059:True:=⟨⟩
theorem tw2510116648320355563:True:=⟨⟩
theorem tw13007716766360003819:True:=⟨⟩
theorem tw7988407033598280971:True:=⟨⟩
theorem tw3396196216493521195:True:=⟨⟩
theorem tw11667143859784728907:True:=⟨⟩
theorem tw11784428226818344331:True:=⟨⟩
theorem tw16443394016604550635:True:=⟨⟩
theorem tw14977792944064136683:True:=⟨⟩
theorem tw13374351395307385419:True:=⟨⟩
theorem tw17926867256417287787:True:=⟨⟩
theorem tw7595015439926763211:True:=⟨⟩
theorem tw15978244142682157771:True:=⟨⟩
theorem tw13818392050453605067:True:=⟨⟩
theorem tw2458256036718276331:True:=⟨⟩
theorem tw8129048278635289355:True:=⟨⟩
theorem tw2635769279323445035:True:=⟨⟩
theorem tw17716184426315806539:True:=⟨⟩
theorem tw772609960594281291:True:=⟨⟩
theorem tw11879924554225080171:True:=⟨⟩
theorem tw9410889394791856075:True:=⟨⟩
theorem tw15400251924032183275:True:=⟨⟩
theorem tw13628555752511577100:True:=⟨⟩
theorem tw14711038589424030732:True:=⟨⟩
theorem tw1165837301717881868:True:=⟨⟩
theorem tw7093015137526773772:True:=⟨⟩
theorem tw7966198787586213964:True:=⟨⟩
theorem tw2747358963203350636:True:=⟨⟩
theorem tw10529645266896312524:True:=⟨⟩
theorem tw2929341373176959244:True:=⟨⟩
theorem tw2167458063183964428:True:=⟨⟩
theorem tw6518803106178530572:True:=⟨⟩
theorem tw10500114301556346188:True:=⟨⟩
theorem tw17368219104999041356:True:=⟨⟩
theorem tw14800825872694920556:True:=⟨⟩
theorem tw5821385185703911788:True:=⟨⟩
theorem tw10423819923243422092:True:=⟨⟩
theorem tw3828547204817276332:True:=⟨⟩
theorem tw3690317860070316460:True:=⟨⟩
theorem tw4851317570774184396:True:=⟨⟩
theorem tw14516829338247387596:True:=⟨⟩
theorem tw6783815850336580044:True:=⟨⟩
theorem tw9003458812291140076:True:=⟨⟩
theorem tw1047151938048314924:True:=⟨⟩
theorem tw15875219281750654508:True:=⟨⟩
theorem tw9893646361902628460:True:=⟨⟩
theorem tw5984256687069742700:True:=⟨⟩
theorem tw15950093794533793420:True:=⟨⟩
theorem tw7964583752092412556:True:=⟨⟩
theorem tw16750957401780471500:True:=⟨⟩
theorem tw15231624262574473964:True:=⟨⟩
theorem tw15706570344736232204:True:=⟨⟩
theorem tw15845739676293834540:True:=⟨⟩
theorem tw7726161323039167276:True:=⟨⟩
theorem tw17737276977646916428:True:=⟨⟩
theorem tw17760499071433630604:True:=⟨⟩
theorem tw6902846047924239340:True:=⟨⟩
theorem tw10369285689156324332:True:=⟨⟩
theorem tw10366692546269233165:True:=⟨⟩
theorem tw575198653564048397:True:=⟨⟩
theorem tw13819473880671602765:True:=⟨⟩
theorem tw15425935471137609837:True:=⟨⟩
theorem tw3088989517816658029:True:=⟨⟩
theorem tw860484751151605901:True:=⟨⟩
theorem tw12024618259629707437:True:=⟨⟩
theorem tw7637439220670963981:True:=⟨⟩
theorem tw14163780926883919149:True:=⟨⟩
theorem tw10837008029029411149:True:=⟨⟩
theorem tw10635953297923632493:True:=⟨⟩
theorem tw8485678694991604109:True:=⟨⟩
theorem tw13224826781271077293:True:=⟨⟩
theorem tw13612570638278891021:True:=⟨⟩
theorem tw12015035976845957677:True:=⟨⟩
theorem tw12650125300220054125:True:=⟨⟩
theorem tw16782238608770553517:True:=⟨⟩
theorem tw501802715409965741:True:=⟨⟩
theorem tw17217292258844006157:True:=⟨⟩
theorem tw11401741389383070477:True:=⟨⟩
theorem tw12460555965227330413:True:=⟨⟩
theorem tw9561387409954313197:True:=⟨⟩
theorem tw7422134027767368685:True:=⟨⟩
theorem tw1834360266079117326:True:=⟨⟩
theorem tw4843106168343245838:True:=⟨⟩
theorem tw3231075873160248334:True:=⟨⟩
theorem tw6665327204171864078:True:=⟨⟩
theorem tw10008682771053916238:True:=⟨⟩
theorem tw9002765237685171374:True:=⟨⟩
theorem tw11665330983364917422:True:=⟨⟩
theorem tw15617367876422840558:True:=⟨⟩
theorem tw4425153449903098126:True:=⟨⟩
theorem tw9813983704815734030:True:=⟨⟩
theorem tw13307519779259873614:True:=⟨⟩
theorem tw1013038758799671758:True:=⟨⟩
theorem tw13103163649950476814:True:=⟨⟩
theorem tw5150575201510000174:True:=⟨⟩
theorem tw8171339308887986798:True:=⟨⟩
theorem tw15320234648444821102:True:=⟨⟩
theorem tw4726202375287674510:True:=⟨⟩
theorem tw13855818038703658734:True:=⟨⟩
theorem tw18399664039690478318:True:=⟨⟩
theorem tw11538784950020492046:True:=⟨⟩
theorem tw2093020355872386830:True:=⟨⟩
theorem tw14901925200239689486:True:=⟨⟩
theorem tw16212720139370520366:True:=⟨⟩
theorem tw2634230875975274318:True:=⟨⟩
theorem tw16889593229313199950:True:=⟨⟩
theorem tw18025838822059421550:True:=⟨⟩
theorem tw13204014651671144302:True:=⟨⟩
theorem tw466286928227810190:True:=⟨⟩
theorem tw12209439835963666414:True:=⟨⟩
theorem tw16813218927987701742:True:=⟨⟩
theorem tw15072333663565825071:True:=⟨⟩
theorem tw6630466948904542255:True:=⟨⟩
theorem tw14901051787309160559:True:=⟨⟩
theorem tw18244018462656896143:True:=⟨⟩
theorem tw15073196299613983887:True:=⟨⟩
theorem tw17897473746126256303:True:=⟨⟩
theorem tw581456915378315695:True:=⟨⟩
theorem tw9643243587701835279:True:=⟨⟩
theorem tw17125740418475446799:True:=⟨⟩
theorem tw7522300726041924207:True:=⟨⟩
theorem tw9576010979376275087:True:=⟨⟩
theorem tw11353696055750890223:True:=⟨⟩
theorem tw2399991288598804239:True:=⟨⟩
theorem tw7498431931441120047:True:=⟨⟩
theorem tw9389429072352418671:True:=⟨⟩
theorem tw745128517544685487:True:=⟨⟩
theorem tw13827797662532896719:True:=⟨⟩
theorem tw7000961886100196303:True:=⟨⟩
theorem tw7798699440849900527:True:=⟨⟩
theorem tw9537143344543759376:True:=⟨⟩
theorem tw18342813241781994544:True:=⟨⟩
theorem tw1514359034153792592:True:=⟨⟩
theorem tw14026945310704234608:True:=⟨⟩
theorem tw17547005187589838992:True:=⟨⟩
theorem tw16514741951276223664:True:=⟨⟩
theorem tw15506353807596309712:True:=⟨⟩
theorem tw8247724734978641136:True:=⟨⟩
theorem tw17902873136383677680:True:=⟨⟩
theorem tw3663384162497739024:True:=⟨⟩
theorem tw11965911015128584528:True:=⟨⟩
theorem tw6240977982576521552:True:=⟨⟩
theorem tw10141202654215153008:True:=⟨⟩
theorem tw4392491847578642800:True:=⟨⟩
theorem tw11555289495064780240:True:=⟨⟩
theorem tw7703248478657271248:True:=⟨⟩
theorem tw9130490543313607152:True:=⟨⟩
theorem tw14882791515390804464:True:=⟨⟩
theorem tw6036202581624219184:True:=⟨⟩
theorem tw18263286014518507120:True:=⟨⟩
theorem tw16533478912382882480:True:=⟨⟩
theorem tw16066425960004841136:True:=⟨⟩
theorem tw9281843056158841584:True:=⟨⟩
theorem tw11236452347676521200:True:=⟨⟩
theorem tw16783734880899798800:True:=⟨⟩
theorem tw5325656012840230704:True:=⟨⟩
theorem tw14154048677852266320:True:=⟨⟩
theorem tw4308370669603313648:True:=⟨⟩
theorem tw11727361677625094128:True:=⟨⟩
theorem tw921626035168946225:True:=⟨⟩
theorem tw2591143718170957873:True:=⟨⟩
theorem tw4133676255837527185:True:=⟨⟩
theorem tw5796998839390805169:True:=⟨⟩
theorem tw3967471695916962993:True:=⟨⟩
theorem tw15085666844165900529:True:=⟨⟩
theorem tw11112674097907501329:True:=⟨⟩
theorem tw5864158992460786097:True:=⟨⟩
theorem tw8335454597307484657:True:=⟨⟩
theorem tw162321166192257553:True:=⟨⟩
theorem tw158876121117505041:True:=⟨⟩
theorem tw6144718704297365041:True:=⟨⟩
theorem tw11826291823385557553:True:=⟨⟩
theorem tw15228540006048971313:True:=⟨⟩
theorem tw2510437698669725265:True:=⟨⟩
theorem tw4523750836909680241:True:=⟨⟩
theorem tw10096227919096107697:True:=⟨⟩
theorem tw2226958910640378641:True:=⟨⟩
theorem tw17099861285179194129:True:=⟨⟩
theorem tw12273014898607170385:True:=⟨⟩
theorem tw3564081089384026993:True:=⟨⟩
theorem tw16412596161222254449:True:=⟨⟩
theorem tw17545358201865965553:True:=⟨⟩
theorem tw13345322626438818801:True:=⟨⟩
theorem tw423455583727704082:True:=⟨⟩
theorem tw6182922089494051858:True:=⟨⟩
theorem tw661575521381077042:True:=⟨⟩
theorem tw6716403184231106674:True:=⟨⟩
theorem tw12492462607997622418:True:=⟨⟩
theorem tw5920915141673432274:True:=⟨⟩
theorem tw2335328715543864562:True:=⟨⟩
theorem tw13700868483812070674:True:=⟨⟩
theorem tw17316678232424344850:True:=⟨⟩
theorem tw13381264771152359730:True:=⟨⟩
theorem tw16961187370670209330:True:=⟨⟩
theorem tw13624457926336052530:True:=⟨⟩
theorem tw11781554665056386386:True:=⟨⟩
theorem tw6762280554432623954:True:=⟨⟩
theorem tw17245202053283414386:True:=⟨⟩
theorem tw16139875410598794610:True:=⟨⟩
theorem tw14482049192227102066:True:=⟨⟩
theorem tw8694754004800348562:True:=⟨⟩
theorem tw4925725067039628786:True:=⟨⟩
theorem tw4150725185309896178:True:=⟨⟩
theorem tw14008638234542606866:True:=⟨⟩
theorem tw4742020449832272434:True:=⟨⟩
theorem tw17181570991097419314:True:=⟨⟩
theorem tw4295847313084065330:True:=⟨⟩
theorem tw3527881922548804146:True:=⟨⟩
theorem tw4832984152717983282:True:=⟨⟩
theorem tw13222996221637725874:True:=⟨⟩
theorem tw2525933789289000626:True:=⟨⟩
theorem tw14441959752905273042:True:=⟨⟩
theorem tw3359052063257510674:True:=⟨⟩
theorem tw865668552773816146:True:=⟨⟩
theorem tw6914936505452675986:True:=⟨⟩
theorem tw8599863578966301650:True:=⟨⟩
theorem tw12310883347580409810:True:=⟨⟩
theorem tw2846961159850835954:True:=⟨⟩
theorem tw9466363015732532339:True:=⟨⟩
theorem tw8916202251573184659:True:=⟨⟩
theorem tw1825377050141529299:True:=⟨⟩
theorem tw2983117861809330451:True:=⟨⟩
theorem tw5990406367966969139:True:=⟨⟩
theorem tw6016866855966119347:True:=⟨⟩
theorem tw13025785850235439571:True:=⟨⟩
theorem tw8531239286963767763:True:=⟨⟩
theorem tw10508465804356804051:True:=⟨⟩
theorem tw2584738185547296275:True:=⟨⟩
theorem tw5485230393420123699:True:=⟨⟩
theorem tw9761997357038720563:True:=⟨⟩
theorem tw10773318115215703603:True:=⟨⟩
theorem tw10682528860988409427:True:=⟨⟩
theorem tw11583736020382880339:True:=⟨⟩
theorem tw17812034395219240531:True:=⟨⟩
theorem tw698197722310079059:True:=⟨⟩
theorem tw12465313680560354931:True:=⟨⟩
theorem tw5752850015596235507:True:=⟨⟩
theorem tw18050453947903081235:True:=⟨⟩
theorem tw13579707548742978355:True:=⟨⟩
theorem tw1839890484595645235:True:=⟨⟩
theorem tw9079458864959642419:True:=⟨⟩
theorem tw6049980495224203059:True:=⟨⟩
theorem tw13975171857380898611:True:=⟨⟩
theorem tw15682522277303621619:True:=⟨⟩
theorem tw8277380841818092531:True:=⟨⟩
theorem tw6382360904674174963:True:=⟨⟩
theorem tw8916352945061008468:True:=⟨⟩
theorem tw8893738859010920596:True:=⟨⟩
theorem tw14379106831864028404:True:=⟨⟩
theorem tw9545016158408009012:True:=⟨⟩
theorem tw613874188129483092:True:=⟨⟩
theorem tw8140191517870039412:True:=⟨⟩
theorem tw5380884747185955252:True:=⟨⟩
theorem tw11070899887345134036:True:=⟨⟩
theorem tw15018175113361783252:True:=⟨⟩
theorem tw10594234081062360564:True:=⟨⟩
theorem tw13100681404007300628:True:=⟨⟩
theorem tw2958348189698499092:True:=⟨⟩
theorem tw15331252376500316724:True:=⟨⟩
theorem tw12833991680022013492:True:=⟨⟩
theorem tw3955260613152307764:True:=⟨⟩
theorem tw9576843717870461588:True:=⟨⟩
theorem tw17748035535428619924:True:=⟨⟩
theorem tw5343396184030433076:True:=⟨⟩
theorem tw121345495274149716:True:=⟨⟩
theorem tw2175462502874917780:True:=⟨⟩
theorem tw9684105737308099476:True:=⟨⟩
theorem tw256848035987752884:True:=⟨⟩
theorem tw653973428979332052:True:=⟨⟩
theorem tw1456315061856546804:True:=⟨⟩
theorem tw13352930739986302997:True:=⟨⟩
theorem tw7407077206422826005:True:=⟨⟩
theorem tw16066403760078859285:True:=⟨⟩
theorem tw6799106118729365525:True:=⟨⟩
theorem tw3327966101850624053:True:=⟨⟩
theorem tw8619000115633602677:True:=⟨⟩
theorem tw15941280570669333621:True:=⟨⟩
theorem tw3049571558610899093:True:=⟨⟩
theorem tw1810210830827985045:True:=⟨⟩
theorem tw10333082158340260021:True:=⟨⟩
theorem tw13956399788688025813:True:=⟨⟩
theorem tw10351474204796410101:True:=⟨⟩
theorem tw7935638812575539509:True:=⟨⟩
theorem tw10528445016057450805:True:=⟨⟩
theorem tw4890430414571524661:True:=⟨⟩
theorem tw2608440959580560949:True:=⟨⟩
theorem tw15443081202362222165:True:=⟨⟩
theorem tw13244458914451942997:True:=⟨⟩
theorem tw13990393034180766325:True:=⟨⟩
theorem tw13132276491040053877:True:=⟨⟩
theorem tw14379386136331312757:True:=⟨⟩
theorem tw13723675437355997877:True:=⟨⟩
theorem tw17227737280417176277:True:=⟨⟩
theorem tw288244875247210197:True:=⟨⟩
theorem tw6613540198114385621:True:=⟨⟩
theorem tw520818056078750421:True:=⟨⟩
theorem tw4510663396961192693:True:=⟨⟩
theorem tw17140177918028467957:True:=⟨⟩
theorem tw11298536268756599637:True:=⟨⟩
theorem tw8679662652095574901:True:=⟨⟩
theorem tw1943093401047905141:True:=⟨⟩
theorem tw15917770958632691637:True:=⟨⟩
theorem tw3138579938359481333:True:=⟨⟩
theorem tw15042695474165027926:True:=⟨⟩
theorem tw14884042992240667734:True:=⟨⟩
theorem tw11940932093107039318:True:=⟨⟩
theorem tw4583428749653835894:True:=⟨⟩
theorem tw9862493737710349430:True:=⟨⟩
theorem tw14641201856330507382:True:=⟨⟩
theorem tw7150998777790238934:True:=⟨⟩
theorem tw7016751964150541590:True:=⟨⟩
theorem tw9990676526483576150:True:=⟨⟩
theorem tw3871118304968933718:True:=⟨⟩
theorem tw6560993539521815926:True:=⟨⟩
theorem tw7452590380450516374:True:=⟨⟩
theorem tw18328929962722386326:True:=⟨⟩
theorem tw15389824034854971862:True:=⟨⟩
theorem tw16164866548124014038:True:=⟨⟩
theorem tw16553978364109325782:True:=⟨⟩
theorem tw11474170499797871158:True:=⟨⟩
theorem tw18015954856622146166:True:=⟨⟩
theorem tw16817360309689001686:True:=⟨⟩
theorem tw13537255580826357494:True:=⟨⟩
theorem tw3909619747683779318:True:=⟨⟩
theorem tw15711469150232686358:True:=⟨⟩
theorem tw15683748948807404310:True:=⟨⟩
theorem tw10042154410018470742:True:=⟨⟩
theorem tw2333979167314339734:True:=⟨⟩
theorem tw4834000115545968534:True:=⟨⟩
theorem tw14670419218108366838:True:=⟨⟩
theorem tw4287138204182177911:True:=⟨⟩
theorem tw8559620735902369911:True:=⟨⟩
theorem tw4362952793932023959:True:=⟨⟩
theorem tw12835018183841833111:True:=⟨⟩
theorem tw8072654687344498871:True:=⟨⟩
theorem tw10411741521684610295:True:=⟨⟩
theorem tw10005435393587605783:True:=⟨⟩
theorem tw12935152443425288471:True:=⟨⟩
theorem tw13618865389391656247:True:=⟨⟩
theorem tw8480506979617599799:True:=⟨⟩
theorem tw16846520172562295159:True:=⟨⟩
theorem tw10478119476363858327:True:=⟨⟩
theorem tw13676062407199701399:True:=⟨⟩
theorem tw4905631414900107703:True:=⟨⟩
theorem tw6240333242491937239:True:=⟨⟩
theorem tw4499992501523729879:True:=⟨⟩
theorem tw66304470988685815:True:=⟨⟩
theorem tw9087071678341983735:True:=⟨⟩
theorem tw15343356073817727511:True:=⟨⟩
theorem tw13841758274698135095:True:=⟨⟩
theorem tw18435364082136795703:True:=⟨⟩
theorem tw5453148227998395031:True:=⟨⟩
theorem tw12828702397763184407:True:=⟨⟩
theorem tw8955204180874913623:True:=⟨⟩
theorem tw636558133133115255:True:=⟨⟩
theorem tw4736950920804388759:True:=⟨⟩
theorem tw4036440555656136631:True:=⟨⟩
theorem tw3864533169475259351:True:=⟨⟩
theorem tw2122941405001932791:True:=⟨⟩
theorem tw1824873067265884216:True:=⟨⟩
theorem tw809835981368779832:True:=⟨⟩
theorem tw17412524741797226584:True:=⟨⟩
theorem tw5610320858252790872:True:=⟨⟩
theorem tw16944778296158802008:True:=⟨⟩
theorem tw18265777867829238872:True:=⟨⟩
theorem tw2993831277355707512:True:=⟨⟩
theorem tw16828756464688215256:True:=⟨⟩
theorem tw3005654462079076600:True:=⟨⟩
theorem tw4714238158252164376:True:=⟨⟩
theorem tw2181524076084120920:True:=⟨⟩
theorem tw11452707574002272632:True:=⟨⟩
theorem tw11506676258152705464:True:=⟨⟩
theorem tw2632094598616288728:True:=⟨⟩
theorem tw17616640675852023256:True:=⟨⟩
theorem tw3104888267565417976:True:=⟨⟩
theorem tw15503234713879668216:True:=⟨⟩
theorem tw2356267309465627192:True:=⟨⟩
theorem tw16665796915832992344:True:=⟨⟩
theorem tw7330313980107318872:True:=⟨⟩
theorem tw8162265420658026104:True:=⟨⟩
theorem tw6090746640050478712:True:=⟨⟩
theorem tw18017115171828029112:True:=⟨⟩
theorem tw10126378793249336024:True:=⟨⟩
theorem tw10412001370767872792:True:=⟨⟩
theorem tw3657412430098580312:True:=⟨⟩
theorem tw12204632126374469464:True:=⟨⟩
theorem tw7232744601924323192:True:=⟨⟩
theorem tw11733456626892577817:True:=⟨⟩
theorem tw10934960972195998777:True:=⟨⟩
theorem tw16781692273470586937:True:=⟨⟩
theorem tw3028052428453066873:True:=⟨⟩
theorem tw2108867400357802137:True:=⟨⟩
theorem tw11484142261715380409:True:=⟨⟩
theorem tw8844688771939715385:True:=⟨⟩
theorem tw10780294171065791833:True:=⟨⟩
theorem tw16660626919764146521:True:=⟨⟩
theorem tw18012622339834443097:True:=⟨⟩
theorem tw1788324908121489785:True:=⟨⟩
theorem tw4379354035803741625:True:=⟨⟩
theorem tw3629891274910694905:True:=⟨⟩
theorem tw2262094774576549401:True:=⟨⟩
theorem tw3151559040018458169:True:=⟨⟩
theorem tw17424473213845853753:True:=⟨⟩
theorem tw13706831044256962169:True:=⟨⟩
theorem tw1075992848007933657:True:=⟨⟩
theorem tw15351948181272080217:True:=⟨⟩
theorem tw1646331171863069561:True:=⟨⟩
theorem tw8250357877891532665:True:=⟨⟩
theorem tw5764727652809191289:True:=⟨⟩
theorem tw657765425734176761:True:=⟨⟩
theorem tw3551734565508331513:True:=⟨⟩
theorem tw7695617337963712602:True:=⟨⟩
theorem tw4918579147242915034:True:=⟨⟩
theorem tw6395683107747674330:True:=⟨⟩
theorem tw5542736203576021242:True:=⟨⟩
theorem tw2871925728060784922:True:=⟨⟩
theorem tw8649300543385584954:True:=⟨⟩
theorem tw7983709793334242746:True:=⟨⟩
theorem tw4704877688835459514:True:=⟨⟩
theorem tw4267851667972579834:True:=⟨⟩
theorem tw4581573029561776634:True:=⟨⟩
theorem tw13958255892621996602:True:=⟨⟩
theorem tw3038345275690123866:True:=⟨⟩
theorem tw17999368531958108794:True:=⟨⟩
theorem tw14611764231714834074:True:=⟨⟩
theorem tw8775662816034754202:True:=⟨⟩
theorem tw13178170501815345818:True:=⟨⟩
theorem tw3614572195835711162:True:=⟨⟩
theorem tw9210135159917765306:True:=⟨⟩
theorem tw2946655579203350266:True:=⟨⟩
theorem tw175516138740938522:True:=⟨⟩
theorem tw6226158126186432378:True:=⟨⟩
theorem tw3401357730886631290:True:=⟨⟩
theorem tw4157658368251389914:True:=⟨⟩
theorem tw8247415048280584219:True:=⟨⟩
theorem tw12708338702273102939:True:=⟨⟩
theorem tw12324834647360226395:True:=⟨⟩
theorem tw14029828399158307963:True:=⟨⟩
theorem tw4344047406395683963:True:=⟨⟩
theorem tw16089484980448084123:True:=⟨⟩
theorem tw2090732077621249211:True:=⟨⟩
theorem tw13777792104199893179:True:=⟨⟩
theorem tw14167615310723697851:True:=⟨⟩
theorem tw13656384128604406011:True:=⟨⟩
theorem tw685441932612546811:True:=⟨⟩
theorem tw13468155734786996475:True:=⟨⟩
theorem tw8899950340529343771:True:=⟨⟩
theorem tw4827997737137412379:True:=⟨⟩
theorem tw252558333484935483:True:=⟨⟩
theorem tw14509707948065324475:True:=⟨⟩
theorem tw11897041849330027099:True:=⟨⟩
theorem tw13204725503048149595:True:=⟨⟩
theorem tw15155274474969814651:True:=⟨⟩
theorem tw16946250934605771675:True:=⟨⟩
theorem tw17916963563447817147:True:=⟨⟩
theorem tw5693485985829716955:True:=⟨⟩
theorem tw7343535070131848187:True:=⟨⟩
theorem tw12166107808810261499:True:=⟨⟩
theorem tw11689495814433740828:True:=⟨⟩
theorem tw15171888208122881084:True:=⟨⟩
theorem tw3163261659054021724:True:=⟨⟩
theorem tw9103276448897315932:True:=⟨⟩
theorem tw13781471125337919644:True:=⟨⟩
theorem tw7444237342543722780:True:=⟨⟩
theorem tw12558936059045583164:True:=⟨⟩
theorem tw2999415737624114524:True:=⟨⟩
theorem tw2180552372804277660:True:=⟨⟩
theorem tw9157977529854277052:True:=⟨⟩
theorem tw12405550825197016540:True:=⟨⟩
theorem tw17983880302978721308:True:=⟨⟩
theorem tw5064750656224577084:True:=⟨⟩
theorem tw15452163084333557340:True:=⟨⟩
theorem tw11241513070005636700:True:=⟨⟩
theorem tw8670948361939282524:True:=⟨⟩
theorem tw17347229017763589788:True:=⟨⟩
theorem tw3527579219786474172:True:=⟨⟩
theorem tw565363476918595260:True:=⟨⟩
theorem tw2196903525124257500:True:=⟨⟩
theorem tw5001282959243505372:True:=⟨⟩
theorem tw8016666805097412348:True:=⟨⟩
theorem tw4765858845447577404:True:=⟨⟩
theorem tw11150834225801763708:True:=⟨⟩
theorem tw5487859276739511228:True:=⟨⟩
theorem tw17510242204509202364:True:=⟨⟩
theorem tw12079222063650836444:True:=⟨⟩
theorem tw16402272385489483740:True:=⟨⟩
theorem tw17494349290895091741:True:=⟨⟩
theorem tw9440956018996794397:True:=⟨⟩
theorem tw11056987891224227965:True:=⟨⟩
theorem tw196195237095252125:True:=⟨⟩
theorem tw14875703812536906909:True:=⟨⟩
theorem tw18050090975243945117:True:=⟨⟩
theorem tw16709688568666835101:True:=⟨⟩
theorem tw143931656504801469:True:=⟨⟩
theorem tw16789684889876222141:True:=⟨⟩
theorem tw15839134433871465757:True:=⟨⟩
theorem tw15996795084022623517:True:=⟨⟩
theorem tw7582490513948106013:True:=⟨⟩
theorem tw3799730609636420925:True:=⟨⟩
theorem tw4619482243026702685:True:=⟨⟩
theorem tw12006770907101228381:True:=⟨⟩
theorem tw17402311504676803965:True:=⟨⟩
theorem tw7655645514312018333:True:=⟨⟩
theorem tw211538560915592637:True:=⟨⟩
theorem tw5051994431602937309:True:=⟨⟩
theorem tw324446567325948413:True:=⟨⟩
theorem tw11546936974209899005:True:=⟨⟩
theorem tw8837196180841007709:True:=⟨⟩
theorem tw8969716943062545085:True:=⟨⟩
theorem tw11003524854059072189:True:=⟨⟩
theorem tw7139589504007143101:True:=⟨⟩
theorem tw5415543911860026173:True:=⟨⟩
theorem tw8617632853562992509:True:=⟨⟩
theorem tw6866956680362509181:True:=⟨⟩
theorem tw2810817699418715037:True:=⟨⟩
theorem tw3684411547494715325:True:=⟨⟩
theorem tw5258994408013180861:True:=⟨⟩
theorem tw11667378585105446845:True:=⟨⟩
theorem tw9396596077325839293:True:=⟨⟩
theorem tw10730169496292633662:True:=⟨⟩
theorem tw3958163754348773438:True:=⟨⟩
theorem tw11259196976307597374:True:=⟨⟩
theorem tw9958905481944092798:True:=⟨⟩
theorem tw32993520609704094:True:=⟨⟩
theorem tw9425440800327577758:True:=⟨⟩
theorem tw18331203597578851518:True:=⟨⟩
theorem tw13438403582357825726:True:=⟨⟩
theorem tw1747076596125753630:True:=⟨⟩
theorem tw15009282097999207774:True:=⟨⟩
theorem tw7435702584835422558:True:=⟨⟩
theorem tw1090671523774305662:True:=⟨⟩
theorem tw12850472363616547198:True:=⟨⟩
theorem tw5067609150935200126:True:=⟨⟩
theorem tw13701514776391317950:True:=⟨⟩
theorem tw9652037802070866494:True:=⟨⟩
theorem tw8428975679974982270:True:=⟨⟩
theorem tw15603632776526078622:True:=⟨⟩
theorem tw819028216182042302:True:=⟨⟩
theorem tw4095856893217366718:True:=⟨⟩
theorem tw7130748060595566302:True:=⟨⟩
theorem tw2738904272238069470:True:=⟨⟩
theorem tw13315925207531371262:True:=⟨⟩
theorem tw11808795852671958846:True:=⟨⟩
theorem tw15631525256020857694:True:=⟨⟩
theorem tw15888591462292180862:True:=⟨⟩
theorem tw14075166829256471454:True:=⟨⟩
theorem tw91482256297809886:True:=⟨⟩
theorem tw15393999490743732222:True:=⟨⟩
theorem tw17943437908999590975:True:=⟨⟩
theorem tw8261290365720951999:True:=⟨⟩
theorem tw15138598862602995967:True:=⟨⟩
theorem tw5380848293348205823:True:=⟨⟩
theorem tw1275187770425669887:True:=⟨⟩
theorem tw5827190019114153279:True:=⟨⟩
theorem tw13523429921899434335:True:=⟨⟩
theorem tw16299678694306986399:True:=⟨⟩
theorem tw17701141321516764735:True:=⟨⟩
theorem tw9911662149960483423:True:=⟨⟩
theorem tw5545921882978540159:True:=⟨⟩
theorem tw11928105303306589919:True:=⟨⟩
theorem tw14172608855640472287:True:=⟨⟩
theorem tw13249022600013183775:True:=⟨⟩
theorem tw17237267538836982591:True:=⟨⟩
theorem tw14354627417636190015:True:=⟨⟩
theorem tw12553419717608590239:True:=⟨⟩
theorem tw14438487692002745247:True:=⟨⟩
theorem tw731518106317117407:True:=⟨⟩
end PySem.W.Fast
set_option maxRecDepth 100000 in
set_option maxHeartbeats 0 in
theorem PySem.Challenge.cw_meterhouse_k34_store_rows_holds : PySem.Challenge.rw_meterhouse_k34_store_rows.Holds := by
  w_on; o_law; z_head; (case hw=>w_witness2)
  k_fill
  refine L2.ZlJ (fun _=>by kernel_rfl) ?_
  refine L2.Zk3 (l:=PySem.Challenge.rw_meterhouse_k34_store_rows) (n:=63) (k:=50) (x := "_law_script") (CX:=L2.CX0) (sp:=My.spLaw) rfl (by decide) rfl ⟨rfl,by decide,by decide⟩ (fun w h Y=>Y) ?F ?S ?C
  case F =>
    intro w mg fa h KX G hmg
    have D_added:L2.Zap (L2.KOf KX) mg "added" My.Zhw:=by
      dsimp only [L2.KOf]
      refine' L2.Zam KX G ?a ?l ?c ?k
      (case a=>k_is); (case l=>k_is); (case c=>k_is); (case k=>k_is)
    have D_lessened:L2.Zap (L2.KOf KX) mg "lessened" My.Zdq:=by
      dsimp only [L2.KOf]
      refine' L2.Zam KX G ?a ?l ?c ?k
      (case a=>k_is); (case l=>k_is); (case c=>k_is); (case k=>k_is)
    have D_multiplied:L2.Zap (L2.KOf KX) mg "multiplied" My.Zcv:=by
      dsimp only [L2.KOf]
      refine' L2.Zam KX G ?a ?l ?c ?k
      (case a=>k_is); (case l=>k_is); (case c=>k_is); (case k=>k_is)
    have D_contained:L2.Zap (L2.KOf KX) mg "contained" My.ZcQ:=by
      dsimp only [L2.KOf]
      refine' L2.Zam KX G ?a ?l ?c ?k
      (case a=>k_is); (case l=>k_is); (case c=>k_is); (case k=>k_is)
    have D_left_over:L2.Zap (L2.KOf KX) mg "left_over" My.ZcR:=by
      dsimp only [L2.KOf]
      refine' L2.Zam KX G ?a ?l ?c ?k
      (case a=>k_is); (case l=>k_is); (case c=>k_is); (case k=>k_is)
    have D_is_below:L2.Zap (L2.KOf KX) mg "is_below" My.Zdr:=by
      dsimp only [L2.KOf]
      refine' L2.Zam KX G ?a ?l ?c ?k
      (case a=>k_is); (case l=>k_is); (case c=>k_is); (case k=>k_is)
    have D_is_same:L2.Zap (L2.KOf KX) mg "is_same" My.Zer:=by
      dsimp only [L2.KOf]
      refine' L2.Zam KX G ?a ?l ?c ?k
      (case a=>k_is); (case l=>k_is); (case c=>k_is); (case k=>k_is)
    have D_in_both:L2.Zap (L2.KOf KX) mg "in_both" My.Zes:=by
      dsimp only [L2.KOf]
      refine' L2.Zam KX G ?a ?l ?c ?k
      (case a=>k_is); (case l=>k_is); (case c=>k_is); (case k=>k_is)
    have D_in_either:L2.Zap (L2.KOf KX) mg "in_either" My.ZcS:=by
      dsimp only [L2.KOf]
      refine' L2.Zam KX G ?a ?l ?c ?k
      (case a=>k_is); (case l=>k_is); (case c=>k_is); (case k=>k_is)
    have D_in_just_one:L2.Zap (L2.KOf KX) mg "in_just_one" My.Zcf:=by
      dsimp only [L2.KOf]
      refine' L2.Zam KX G ?a ?l ?c ?k
      (case a=>k_is); (case l=>k_is); (case c=>k_is); (case k=>k_is)
    have D_doubled:L2.Zap (L2.KOf KX) mg "doubled" My.Zet:=by
      dsimp only [L2.KOf]
      refine' L2.Zam KX G ?a ?l ?c ?k
      (case a=>k_is); (case l=>k_is); (case c=>k_is); (case k=>k_is)
    have D_halved:L2.Zap (L2.KOf KX) mg "halved" My.Zfw:=by
      dsimp only [L2.KOf]
      refine' L2.Zam KX G ?a ?l ?c ?k
      (case a=>k_is); (case l=>k_is); (case c=>k_is); (case k=>k_is)
    have D_reckon:L2.Zap (L2.KOf KX) mg "reckon" My.Zfx:=by
      dsimp only [L2.KOf]
      refine' L2.Zam KX G ?a ?l ?c ?k
      (case a=>k_is); (case l=>k_is); (case c=>k_is); (case k=>k_is)
    have D_reach:L2.Zap (L2.KOf KX) mg "reach" My.Zht:=by
      dsimp only [L2.KOf]
      refine' L2.Zam KX G ?a ?l ?c ?k
      (case a=>k_is); (case l=>k_is); (case c=>k_is); (case k=>k_is)
    have D_takes:L2.Zap (L2.KOf KX) mg "takes" My.Zhu:=by
      dsimp only [L2.KOf]
      refine' L2.Zam KX G ?a ?l ?c ?k
      (case a=>k_is); (case l=>k_is); (case c=>k_is); (case k=>k_is)
    have D_leaves:L2.Zap (L2.KOf KX) mg "leaves" My.Zfv:=by
      dsimp only [L2.KOf]
      refine' L2.Zam KX G ?a ?l ?c ?k
      (case a=>k_is); (case l=>k_is); (case c=>k_is); (case k=>k_is)
    have D_shift_coin:L2.Zap (L2.KOf KX) mg "shift_coin" My.Zcu:=by
      dsimp only [L2.KOf]
      refine' L2.Zam KX G ?a ?l ?c ?k
      (case a=>k_is); (case l=>k_is); (case c=>k_is); (case k=>k_is)
    have D_push_row:L2.Zap (L2.KOf KX) mg "push_row" My.Zds:=by
      dsimp only [L2.KOf]
      refine' L2.Zam KX G ?a ?l ?c ?k
      (case a=>k_is); (case l=>k_is); (case c=>k_is); (case k=>k_is)
    have D_drop_row:L2.Zap (L2.KOf KX) mg "drop_row" My.Zdt:=by
      dsimp only [L2.KOf]
      refine' L2.Zam KX G ?a ?l ?c ?k
      (case a=>k_is); (case l=>k_is); (case c=>k_is); (case k=>k_is)
    have D_copy_row:L2.Zap (L2.KOf KX) mg "copy_row" My.Zdu:=by
      dsimp only [L2.KOf]
      refine' L2.Zam KX G ?a ?l ?c ?k
      (case a=>k_is); (case l=>k_is); (case c=>k_is); (case k=>k_is)
    have D_swap_row:L2.Zap (L2.KOf KX) mg "swap_row" My.Zdv:=by
      dsimp only [L2.KOf]
      refine' L2.Zam KX G ?a ?l ?c ?k
      (case a=>k_is); (case l=>k_is); (case c=>k_is); (case k=>k_is)
    have D_reckon_row:L2.Zap (L2.KOf KX) mg "reckon_row" My.Zcx:=by
      dsimp only [L2.KOf]
      refine' L2.Zam KX G ?a ?l ?c ?k
      (case a=>k_is); (case l=>k_is); (case c=>k_is); (case k=>k_is)
    have D_jump_row:L2.Zap (L2.KOf KX) mg "jump_row" My.Zdw:=by
      dsimp only [L2.KOf]
      refine' L2.Zam KX G ?a ?l ?c ?k
      (case a=>k_is); (case l=>k_is); (case c=>k_is); (case k=>k_is)
    have D_jumpif_row:L2.Zap (L2.KOf KX) mg "jumpif_row" My.Zcy:=by
      dsimp only [L2.KOf]
      refine' L2.Zam KX G ?a ?l ?c ?k
      (case a=>k_is); (case l=>k_is); (case c=>k_is); (case k=>k_is)
    have D_me_row:L2.Zap (L2.KOf KX) mg "me_row" My.Zfy:=by
      dsimp only [L2.KOf]
      refine' L2.Zam KX G ?a ?l ?c ?k
      (case a=>k_is); (case l=>k_is); (case c=>k_is); (case k=>k_is)
    have D_from_row:L2.Zap (L2.KOf KX) mg "from_row" My.Zdz:=by
      dsimp only [L2.KOf]
      refine' L2.Zam KX G ?a ?l ?c ?k
      (case a=>k_is); (case l=>k_is); (case c=>k_is); (case k=>k_is)
    have D_sent_row:L2.Zap (L2.KOf KX) mg "sent_row" My.ZdA:=by
      dsimp only [L2.KOf]
      refine' L2.Zam KX G ?a ?l ?c ?k
      (case a=>k_is); (case l=>k_is); (case c=>k_is); (case k=>k_is)
    have D_word_row:L2.Zap (L2.KOf KX) mg "word_row" My.ZdB:=by
      dsimp only [L2.KOf]
      refine' L2.Zam KX G ?a ?l ?c ?k
      (case a=>k_is); (case l=>k_is); (case c=>k_is); (case k=>k_is)
    have D_give_row:L2.Zap (L2.KOf KX) mg "give_row" My.ZdE:=by
      dsimp only [L2.KOf]
      refine' L2.Zam KX G ?a ?l ?c ?k
      (case a=>k_is); (case l=>k_is); (case c=>k_is); (case k=>k_is)
    have D_fail_row:L2.Zap (L2.KOf KX) mg "fail_row" My.ZdF:=by
      dsimp only [L2.KOf]
      refine' L2.Zam KX G ?a ?l ?c ?k
      (case a=>k_is); (case l=>k_is); (case c=>k_is); (case k=>k_is)
    have D_brings_coin:L2.Zap (L2.KOf KX) mg "brings_coin" My.Zcg:=by
      dsimp only [L2.KOf]
      refine' L2.Zam KX G ?a ?l ?c ?k
      (case a=>k_is); (case l=>k_is); (case c=>k_is); (case k=>k_is)
    have D_fills_place:L2.Zap (L2.KOf KX) mg "fills_place" My.Zch:=by
      dsimp only [L2.KOf]
      refine' L2.Zam KX G ?a ?l ?c ?k
      (case a=>k_is); (case l=>k_is); (case c=>k_is); (case k=>k_is)
    have D_row_price:L2.Zap (L2.KOf KX) mg "row_price" My.ZcT:=by
      dsimp only [L2.KOf]
      refine' L2.Zam KX G ?a ?l ?c ?k
      (case a=>k_is); (case l=>k_is); (case c=>k_is); (case k=>k_is)
    have D_is_barred:L2.Zap (L2.KOf KX) mg "is_barred" My.ZcU:=by
      dsimp only [L2.KOf]
      refine' L2.Zam KX G ?a ?l ?c ?k
      (case a=>k_is); (case l=>k_is); (case c=>k_is); (case k=>k_is)
    have D_end_ahead_of:L2.Zap (L2.KOf KX) mg "end_ahead_of" My.Zb0:=by
      dsimp only [L2.KOf]
      refine' L2.Zam KX G ?a ?l ?c ?k
      (case a=>k_is); (case l=>k_is); (case c=>k_is); (case k=>k_is)
    have D_write_step:L2.Zap (L2.KOf KX) mg "write_step" My.Zcw:=by
      dsimp only [L2.KOf]
      refine' L2.Zam KX G ?a ?l ?c ?k
      (case a=>k_is); (case l=>k_is); (case c=>k_is); (case k=>k_is)
    have D_account_at:L2.Zap (L2.KOf KX) mg "account_at" My.Zct:=by
      dsimp only [L2.KOf]
      refine' L2.Zam KX G ?a ?l ?c ?k
      (case a=>k_is); (case l=>k_is); (case c=>k_is); (case k=>k_is)
    have D_load_row:L2.Zap (L2.KOf KX) mg "load_row" My.Zdx:=by
      dsimp only [L2.KOf]
      refine' L2.Zam KX G ?a ?l ?c ?k
      (case a=>k_is); (case l=>k_is); (case c=>k_is); (case k=>k_is)
    have D_coin_row:L2.Zap (L2.KOf KX) mg "coin_row" My.ZdC:=by
      dsimp only [L2.KOf]
      refine' L2.Zam KX G ?a ?l ?c ?k
      (case a=>k_is); (case l=>k_is); (case c=>k_is); (case k=>k_is)
    have D_save_row:L2.Zap (L2.KOf KX) mg "save_row" My.Zdy:=by
      dsimp only [L2.KOf]
      refine' L2.Zam KX G ?a ?l ?c ?k
      (case a=>k_is); (case l=>k_is); (case c=>k_is); (case k=>k_is)
    have D_note_row:L2.Zap (L2.KOf KX) mg "note_row" My.ZdD:=by
      dsimp only [L2.KOf]
      refine' L2.Zam KX G ?a ?l ?c ?k
      (case a=>k_is); (case l=>k_is); (case c=>k_is); (case k=>k_is)
    have D_do_row:L2.Zap (L2.KOf KX) mg "do_row" My.Zfz:=by
      dsimp only [L2.KOf]
      refine' L2.Zam KX G ?a ?l ?c ?k
      (case a=>k_is); (case l=>k_is); (case c=>k_is); (case k=>k_is)
    have D_other_call:L2.Zap (L2.KOf KX) mg "other_call" My.Zcz:=by
      dsimp only [L2.KOf]
      refine' L2.Zam KX G ?a ?l ?c ?k
      (case a=>k_is); (case l=>k_is); (case c=>k_is); (case k=>k_is)
    have D_end_ahead_of_call:L2.Zap (L2.KOf KX) mg "end_ahead_of_call" My.Zbt:=by
      dsimp only [L2.KOf]
      refine' L2.Zam KX G ?a ?l ?c ?k
      (case a=>k_is); (case l=>k_is); (case c=>k_is); (case k=>k_is)
    have D_call_row:L2.Zap (L2.KOf KX) mg "call_row" My.ZcH:=by
      dsimp only [L2.KOf]
      refine' L2.Zam KX G ?a ?l ?c ?k
      (case a=>k_is); (case l=>k_is); (case c=>k_is); (case k=>k_is)
    have D_go_row:L2.Zap (L2.KOf KX) mg "go_row" My.Zd7:=by
      dsimp only [L2.KOf]
      refine' L2.Zam KX G ?a ?l ?c ?k
      (case a=>k_is); (case l=>k_is); (case c=>k_is); (case k=>k_is)
    have D_go_on:L2.Zap (L2.KOf KX) mg "go_on" My.ZfA:=by
      dsimp only [L2.KOf]
      refine' L2.Zam KX G ?a ?l ?c ?k
      (case a=>k_is); (case l=>k_is); (case c=>k_is); (case k=>k_is)
    have D_go:L2.Zap (L2.KOf KX) mg "go" My.s_go:=by
      dsimp only [L2.KOf]
      refine' L2.Zam KX G ?a ?l ?c ?k
      (case a=>k_is); (case l=>k_is); (case c=>k_is); (case k=>k_is)
    have D_enter:L2.Zap (L2.KOf KX) mg "enter" My.Zhx:=by
      dsimp only [L2.KOf]
      refine' L2.Zam KX G ?a ?l ?c ?k
      (case a=>k_is); (case l=>k_is); (case c=>k_is); (case k=>k_is)
    have D_Lalike:L2.Zap (L2.KOf KX) mg "_law_alike" My.Zde:=by
      dsimp only [L2.KOf]
      refine' L2.Zam KX G ?a ?l ?c ?k
      (case a=>k_is); (case l=>k_is); (case c=>k_is); (case k=>k_is)
    have D_Lcell_at:L2.Zap (L2.KOf KX) mg "_law_cell_at" My.ZdG:=by
      dsimp only [L2.KOf]
      refine' L2.Zam KX G ?a ?l ?c ?k
      (case a=>k_is); (case l=>k_is); (case c=>k_is); (case k=>k_is)
    have D_Lnumber:L2.Zap (L2.KOf KX) mg "_law_number" My.Zeu:=by
      dsimp only [L2.KOf]
      refine' L2.Zam KX G ?a ?l ?c ?k
      (case a=>k_is); (case l=>k_is); (case c=>k_is); (case k=>k_is)
    have D_Lwent:L2.Zap (L2.KOf KX) mg "_law_went" My.Zhy:=by
      dsimp only [L2.KOf]
      refine' L2.Zam KX G ?a ?l ?c ?k
      (case a=>k_is); (case l=>k_is); (case c=>k_is); (case k=>k_is)
    have D_Laccount:L2.Zap (L2.KOf KX) mg "_law_account" My.ZdH:=by
      dsimp only [L2.KOf]
      refine' L2.Zam KX G ?a ?l ?c ?k
      (case a=>k_is); (case l=>k_is); (case c=>k_is); (case k=>k_is)
    have D_Lworth:L2.Zap (L2.KOf KX) mg "_law_worth" My.Zd8:=by
      dsimp only [L2.KOf]
      refine' L2.Zam KX G ?a ?l ?c ?k
      (case a=>k_is); (case l=>k_is); (case c=>k_is); (case k=>k_is)
    have D_law:L2.Zap (L2.KOf KX) mg "law" My.Zlp:=by
      dsimp only [L2.KOf]
      refine' L2.Zam KX G ?a ?l ?c ?k
      (case a=>k_is); (case l=>k_is); (case c=>k_is); (case k=>k_is)
    have x_Account:∃ C,My.T_Account (L2.KOf KX) mg C/\L2.Zal (L2.KOf KX) C "__init__" "Account.__init__" My.ZaM/\L2.Zal (L2.KOf KX) C "loaded" "Account.loaded" My.ZaV/\L2.Zal (L2.KOf KX) C "keep" "Account.keep" My.Za4:=by
      dsimp only [L2.KOf]
      refine' My.Zjl KX G ?aC ?pg ?hd ?po ?sa ?mk ?kc ?ncoin ?npurse ?ncount ?nprogram ?nstore ?a__init__ ?i__init__ ?l__init__ ?c__init__ ?k__init__ ?aloaded ?iloaded ?lloaded ?cloaded ?kloaded ?akeep ?ikeep ?lkeep ?ckeep ?kkeep
      (case aC=>k_is); (case pg=>k_is); (case hd=>k_is); (case po=>k_is); (case sa=>k_is); (case mk=>k_is); (case kc=>k_is); (case ncoin=>k_is); (case npurse=>k_is); (case ncount=>k_is); (case nprogram=>k_is); (case nstore=>k_is); (case a__init__=>k_is); (case i__init__=>k_is); (case l__init__=>k_is); (case c__init__=>k_is); (case k__init__=>k_is); (case aloaded=>k_is); (case iloaded=>k_is); (case lloaded=>k_is); (case cloaded=>k_is); (case kloaded=>k_is); (case akeep=>k_is); (case ikeep=>k_is); (case lkeep=>k_is); (case ckeep=>k_is); (case kkeep=>k_is)
    obtain ⟨cAccount,tAccount,D_Account___init__,D_Account_loaded,D_Account_keep⟩:=x_Account
    have x_Save:∃ C,My.T_Save (L2.KOf KX) mg C/\L2.Zal (L2.KOf KX) C "__init__" "Save.__init__" My.ZaY/\L2.Zal (L2.KOf KX) C "do" "Save.do" My.ZbU/\L2.Zal (L2.KOf KX) C "undo" "Save.undo" My.Zbu/\L2.Zal (L2.KOf KX) C "told" "Save.told" My.Zbv/\L2.Zal (L2.KOf KX) C "worth" "Save.worth" My.Zbi:=by
      dsimp only [L2.KOf]
      refine' My.Zm4 KX G ?aC ?pg ?hd ?po ?sa ?mk ?kc ?nslot ?nplace ?nold ?nnew ?a__init__ ?i__init__ ?l__init__ ?c__init__ ?k__init__ ?ado ?ido ?ldo ?cdo ?kdo ?aundo ?iundo ?lundo ?cundo ?kundo ?atold ?itold ?ltold ?ctold ?ktold ?aworth ?iworth ?lworth ?cworth ?kworth
      (case aC=>k_is); (case pg=>k_is); (case hd=>k_is); (case po=>k_is); (case sa=>k_is); (case mk=>k_is); (case kc=>k_is); (case nslot=>k_is); (case nplace=>k_is); (case nold=>k_is); (case nnew=>k_is); (case a__init__=>k_is); (case i__init__=>k_is); (case l__init__=>k_is); (case c__init__=>k_is); (case k__init__=>k_is); (case ado=>k_is); (case ido=>k_is); (case ldo=>k_is); (case cdo=>k_is); (case kdo=>k_is); (case aundo=>k_is); (case iundo=>k_is); (case lundo=>k_is); (case cundo=>k_is); (case kundo=>k_is); (case atold=>k_is); (case itold=>k_is); (case ltold=>k_is); (case ctold=>k_is); (case ktold=>k_is); (case aworth=>k_is); (case iworth=>k_is); (case lworth=>k_is); (case cworth=>k_is); (case kworth=>k_is)
    obtain ⟨cSave,tSave,D_Save___init__,D_Save_do,D_Save_undo,D_Save_told,D_Save_worth⟩:=x_Save
    have x_Move:∃ C,My.T_Move (L2.KOf KX) mg C/\L2.Zal (L2.KOf KX) C "__init__" "Move.__init__" My.ZaZ/\L2.Zal (L2.KOf KX) C "do" "Move.do" My.ZbV/\L2.Zal (L2.KOf KX) C "undo" "Move.undo" My.Zbw/\L2.Zal (L2.KOf KX) C "told" "Move.told" My.Zbx/\L2.Zal (L2.KOf KX) C "worth" "Deed.worth" My.Zbl:=by
      dsimp only [L2.KOf]
      refine' My.Zm5 KX G ?aC ?pg ?hd ?po ?sa ?mk ?kc ?nslot ?ntaker ?nmany ?a__init__ ?i__init__ ?l__init__ ?c__init__ ?k__init__ ?ado ?ido ?ldo ?cdo ?kdo ?aundo ?iundo ?lundo ?cundo ?kundo ?atold ?itold ?ltold ?ctold ?ktold ?aworth ?iworth ?lworth ?cworth ?kworth
      (case aC=>k_is); (case pg=>k_is); (case hd=>k_is); (case po=>k_is); (case sa=>k_is); (case mk=>k_is); (case kc=>k_is); (case nslot=>k_is); (case ntaker=>k_is); (case nmany=>k_is); (case a__init__=>k_is); (case i__init__=>k_is); (case l__init__=>k_is); (case c__init__=>k_is); (case k__init__=>k_is); (case ado=>k_is); (case ido=>k_is); (case ldo=>k_is); (case cdo=>k_is); (case kdo=>k_is); (case aundo=>k_is); (case iundo=>k_is); (case lundo=>k_is); (case cundo=>k_is); (case kundo=>k_is); (case atold=>k_is); (case itold=>k_is); (case ltold=>k_is); (case ctold=>k_is); (case ktold=>k_is); (case aworth=>k_is); (case iworth=>k_is); (case lworth=>k_is); (case cworth=>k_is); (case kworth=>k_is)
    obtain ⟨cMove,tMove,D_Move___init__,D_Move_do,D_Move_undo,D_Move_told,D_Move_worth⟩:=x_Move
    have x_Note:∃ C,My.T_Note (L2.KOf KX) mg C/\L2.Zal (L2.KOf KX) C "__init__" "Note.__init__" My.Za0/\L2.Zal (L2.KOf KX) C "told" "Note.told" My.Zby/\L2.Zal (L2.KOf KX) C "do" "Deed.do" My.ZbW/\L2.Zal (L2.KOf KX) C "undo" "Deed.undo" My.ZbA/\L2.Zal (L2.KOf KX) C "worth" "Deed.worth" My.Zbm:=by
      dsimp only [L2.KOf]
      refine' My.Zm6 KX G ?aC ?pg ?hd ?po ?sa ?mk ?kc ?nslot ?nnumber ?a__init__ ?i__init__ ?l__init__ ?c__init__ ?k__init__ ?atold ?itold ?ltold ?ctold ?ktold ?ado ?ido ?ldo ?cdo ?kdo ?aundo ?iundo ?lundo ?cundo ?kundo ?aworth ?iworth ?lworth ?cworth ?kworth
      (case aC=>k_is); (case pg=>k_is); (case hd=>k_is); (case po=>k_is); (case sa=>k_is); (case mk=>k_is); (case kc=>k_is); (case nslot=>k_is); (case nnumber=>k_is); (case a__init__=>k_is); (case i__init__=>k_is); (case l__init__=>k_is); (case c__init__=>k_is); (case k__init__=>k_is); (case atold=>k_is); (case itold=>k_is); (case ltold=>k_is); (case ctold=>k_is); (case ktold=>k_is); (case ado=>k_is); (case ido=>k_is); (case ldo=>k_is); (case cdo=>k_is); (case kdo=>k_is); (case aundo=>k_is); (case iundo=>k_is); (case lundo=>k_is); (case cundo=>k_is); (case kundo=>k_is); (case aworth=>k_is); (case iworth=>k_is); (case lworth=>k_is); (case cworth=>k_is); (case kworth=>k_is)
    obtain ⟨cNote,tNote,D_Note___init__,D_Note_told,D_Note_do,D_Note_undo,D_Note_worth⟩:=x_Note
    have x_Journal:∃ C,My.T_Journal (L2.KOf KX) mg C/\L2.Zal (L2.KOf KX) C "__init__" "Journal.__init__" My.ZaN/\L2.Zal (L2.KOf KX) C "write" "Journal.write" My.Za1/\L2.Zal (L2.KOf KX) C "mark" "Journal.mark" My.Za6/\L2.Zal (L2.KOf KX) C "back" "Journal.back" My.Za7/\L2.Zal (L2.KOf KX) C "told" "Journal.told" My.ZaW/\L2.Zal (L2.KOf KX) C "worth" "Journal.worth" My.ZaT:=by
      dsimp only [L2.KOf]
      refine' My.Zjm KX G ?aC ?pg ?hd ?po ?sa ?mk ?kc ?nrooms ?ndeeds ?a__init__ ?i__init__ ?l__init__ ?c__init__ ?k__init__ ?awrite ?iwrite ?lwrite ?cwrite ?kwrite ?amark ?imark ?lmark ?cmark ?kmark ?aback ?iback ?lback ?cback ?kback ?atold ?itold ?ltold ?ctold ?ktold ?aworth ?iworth ?lworth ?cworth ?kworth
      (case aC=>k_is); (case pg=>k_is); (case hd=>k_is); (case po=>k_is); (case sa=>k_is); (case mk=>k_is); (case kc=>k_is); (case nrooms=>k_is); (case ndeeds=>k_is); (case a__init__=>k_is); (case i__init__=>k_is); (case l__init__=>k_is); (case c__init__=>k_is); (case k__init__=>k_is); (case awrite=>k_is); (case iwrite=>k_is); (case lwrite=>k_is); (case cwrite=>k_is); (case kwrite=>k_is); (case amark=>k_is); (case imark=>k_is); (case lmark=>k_is); (case cmark=>k_is); (case kmark=>k_is); (case aback=>k_is); (case iback=>k_is); (case lback=>k_is); (case cback=>k_is); (case kback=>k_is); (case atold=>k_is); (case itold=>k_is); (case ltold=>k_is); (case ctold=>k_is); (case ktold=>k_is); (case aworth=>k_is); (case iworth=>k_is); (case lworth=>k_is); (case cworth=>k_is); (case kworth=>k_is)
    obtain ⟨cJournal,tJournal,D_Journal___init__,D_Journal_write,D_Journal_mark,D_Journal_back,D_Journal_told,D_Journal_worth⟩:=x_Journal
    have x_Frame:∃ C,My.T_Frame (L2.KOf KX) mg C/\L2.Zal (L2.KOf KX) C "left" "Frame.left" My.Zbj/\L2.Zal (L2.KOf KX) C "short_for" "Frame.short_for" My.ZaP/\L2.Zal (L2.KOf KX) C "full_behind" "Frame.full_behind" My.ZaL/\L2.Zal (L2.KOf KX) C "taken" "Frame.taken" My.Zbf/\L2.Zal (L2.KOf KX) C "lay" "Frame.lay" My.Zbz/\L2.Zal (L2.KOf KX) C "finish" "Frame.finish" My.Za5/\L2.Zal (L2.KOf KX) C "tree" "Frame.tree" My.Zbk:=by
      dsimp only [L2.KOf]
      refine' My.ZlI KX G ?aC ?pg ?hd ?po ?sa ?mk ?kc ?nkind ?nwho ?nwhose ?ncaller ?ncoin ?nword ?ngiven ?ndepth ?nlooking ?nused ?nstack ?nrow ?nsteps ?nend ?nanswer ?aleft ?ileft ?lleft ?cleft ?kleft ?ashort_for ?ishort_for ?lshort_for ?cshort_for ?kshort_for ?afull_behind ?ifull_behind ?lfull_behind ?cfull_behind ?kfull_behind ?ataken ?itaken ?ltaken ?ctaken ?ktaken ?alay ?ilay ?llay ?clay ?klay ?afinish ?ifinish ?lfinish ?cfinish ?kfinish ?atree ?itree ?ltree ?ctree ?ktree
      (case aC=>k_is); (case pg=>k_is); (case hd=>k_is); (case po=>k_is); (case sa=>k_is); (case mk=>k_is); (case kc=>k_is); (case nkind=>k_is); (case nwho=>k_is); (case nwhose=>k_is); (case ncaller=>k_is); (case ncoin=>k_is); (case nword=>k_is); (case ngiven=>k_is); (case ndepth=>k_is); (case nlooking=>k_is); (case nused=>k_is); (case nstack=>k_is); (case nrow=>k_is); (case nsteps=>k_is); (case nend=>k_is); (case nanswer=>k_is); (case aleft=>k_is); (case ileft=>k_is); (case lleft=>k_is); (case cleft=>k_is); (case kleft=>k_is); (case ashort_for=>k_is); (case ishort_for=>k_is); (case lshort_for=>k_is); (case cshort_for=>k_is); (case kshort_for=>k_is); (case afull_behind=>k_is); (case ifull_behind=>k_is); (case lfull_behind=>k_is); (case cfull_behind=>k_is); (case kfull_behind=>k_is); (case ataken=>k_is); (case itaken=>k_is); (case ltaken=>k_is); (case ctaken=>k_is); (case ktaken=>k_is); (case alay=>k_is); (case ilay=>k_is); (case llay=>k_is); (case clay=>k_is); (case klay=>k_is); (case afinish=>k_is); (case ifinish=>k_is); (case lfinish=>k_is); (case cfinish=>k_is); (case kfinish=>k_is); (case atree=>k_is); (case itree=>k_is); (case ltree=>k_is); (case ctree=>k_is); (case ktree=>k_is)
    obtain ⟨cFrame,tFrame,D_Frame_left,D_Frame_short_for,D_Frame_full_behind,D_Frame_taken,D_Frame_lay,D_Frame_finish,D_Frame_tree⟩:=x_Frame
    have n_max:mg "max" = none:=by
      refine' PySem.W.mg_none_of KX G ?a
      (case a=>k_is)
    have n_list:mg "list" = none:=by
      refine' PySem.W.mg_none_of KX G ?a
      (case a=>k_is)
    have n_len:mg "len" = none:=by
      refine' PySem.W.mg_none_of KX G ?a
      (case a=>k_is)
    have n_sum:mg "sum" = none:=by
      refine' PySem.W.mg_none_of KX G ?a
      (case a=>k_is)
    have n_range:mg "range" = none:=by
      refine' PySem.W.mg_none_of KX G ?a
      (case a=>k_is)
    have n_reversed:mg "reversed" = none:=by
      refine' PySem.W.mg_none_of KX G ?a
      (case a=>k_is)
    have n_min:mg "min" = none:=by
      refine' PySem.W.mg_none_of KX G ?a
      (case a=>k_is)
    have n_isinstance:mg "isinstance" = none:=by
      refine' PySem.W.mg_none_of KX G ?a
      (case a=>k_is)
    have n_int:mg "int" = none:=by
      refine' PySem.W.mg_none_of KX G ?a
      (case a=>k_is)
    have n_str:mg "str" = none:=by
      refine' PySem.W.mg_none_of KX G ?a
      (case a=>k_is)
    have n_tuple:mg "tuple" = none:=by
      refine' PySem.W.mg_none_of KX G ?a
      (case a=>k_is)
    have n_bool:mg "bool" = none:=by
      refine' PySem.W.mg_none_of KX G ?a
      (case a=>k_is)
    have n_dict:mg "dict" = none:=by
      refine' PySem.W.mg_none_of KX G ?a
      (case a=>k_is)
    have g_WIDE:L2.ZaU mg "WIDE" (.int 18446744073709551616):=by
      refine' L2.Zb6 KX G ?a
      (case a=>k_is)
    have g_FIGURES:L2.ZaU mg "FIGURES" (.int 64):=by
      refine' L2.Zb6 KX G ?a
      (case a=>k_is)
    have g_FREED:L2.ZaU mg "FREED" (.int 4):=by
      refine' L2.Zb6 KX G ?a
      (case a=>k_is)
    have g_MOST_ON_STACK:L2.ZaU mg "MOST_ON_STACK" (.int 24):=by
      refine' L2.Zb6 KX G ?a
      (case a=>k_is)
    have g_MOST_CALLS:L2.ZaU mg "MOST_CALLS" (.int 8):=by
      refine' L2.Zb6 KX G ?a
      (case a=>k_is)
    have D_price:L2.ZjZ (L2.KOf KX) mg "price" My.Zhv #[.bool false]:=by
      dsimp only [L2.KOf]
      refine' L2.Zj0 KX G ?a ?l ?c ?k ?d
      (case a=>k_is); (case l=>k_is); (case c=>k_is); (case k=>k_is); (case d=>k_is)
    have RR:∃ aT:Addr,L2.ZaU mg "ROWS" (.ref aT)/\My.ZgG PySem.Challenge.rw_meterhouse_k34_store_rows.prog w (L2.KOf KX) aT:=by
      dsimp only [L2.KOf]
      refine' My.Zm2 KX G ?a ?l ?e1 ?e2 ?e3 ?t1 ?t2 ?t3 ?t4 ?t5 ?t6 ?t7 ?t8 ?t9 ?t10 ?t11 ?t12 ?t13 ?t14 ?t15 ?t16 ?t17 ?t18 ?t19 ?t20 ?t21 ?t22 ?t23 ?t24 ?t25 ?t26 ?t27 ?t28 ?t29 ?t30 ?t31
      (case a=>k_is); (case l=>k_is); (case e1=>rfl); (case e2=>rfl); (case e3=>rfl)
      case t1 =>
        refine' L2.ZaK ?l ?v ?z
        (case l=>k_is); (case v=>walk_at "vals"); (case z=>decide)
      case t2 =>
        refine' L2.ZaK ?l ?v ?z
        (case l=>k_is); (case v=>walk_at "vals"); (case z=>decide)
      case t3 =>
        refine' L2.ZaK ?l ?v ?z
        (case l=>k_is); (case v=>walk_at "vals"); (case z=>decide)
      case t4 =>
        refine' L2.ZaK ?l ?v ?z
        (case l=>k_is); (case v=>walk_at "vals"); (case z=>decide)
      case t5 =>
        refine' L2.ZaK ?l ?v ?z
        (case l=>k_is); (case v=>walk_at "vals"); (case z=>decide)
      case t6 =>
        refine' L2.ZaK ?l ?v ?z
        (case l=>k_is); (case v=>walk_at "vals"); (case z=>decide)
      case t7 =>
        refine' L2.ZaK ?l ?v ?z
        (case l=>k_is); (case v=>walk_at "vals"); (case z=>decide)
      case t8 =>
        refine' L2.ZaK ?l ?v ?z
        (case l=>k_is); (case v=>walk_at "vals"); (case z=>decide)
      case t9 =>
        refine' L2.ZaK ?l ?v ?z
        (case l=>k_is); (case v=>walk_at "vals"); (case z=>decide)
      case t10 =>
        refine' L2.ZaK ?l ?v ?z
        (case l=>k_is); (case v=>walk_at "vals"); (case z=>decide)
      case t11 =>
        refine' L2.ZaK ?l ?v ?z
        (case l=>k_is); (case v=>walk_at "vals"); (case z=>decide)
      case t12 =>
        refine' L2.ZaK ?l ?v ?z
        (case l=>k_is); (case v=>walk_at "vals"); (case z=>decide)
      case t13 =>
        refine' L2.ZaK ?l ?v ?z
        (case l=>k_is); (case v=>walk_at "vals"); (case z=>decide)
      case t14 =>
        refine' L2.ZaK ?l ?v ?z
        (case l=>k_is); (case v=>walk_at "vals"); (case z=>decide)
      case t15 =>
        refine' L2.ZaK ?l ?v ?z
        (case l=>k_is); (case v=>walk_at "vals"); (case z=>decide)
      case t16 =>
        refine' L2.ZaK ?l ?v ?z
        (case l=>k_is); (case v=>walk_at "vals"); (case z=>decide)
      case t17 =>
        refine' L2.ZaK ?l ?v ?z
        (case l=>k_is); (case v=>walk_at "vals"); (case z=>decide)
      case t18 =>
        refine' L2.ZaK ?l ?v ?z
        (case l=>k_is); (case v=>walk_at "vals"); (case z=>decide)
      case t19 =>
        refine' L2.ZaK ?l ?v ?z
        (case l=>k_is); (case v=>walk_at "vals"); (case z=>decide)
      case t20 =>
        refine' L2.ZaK ?l ?v ?z
        (case l=>k_is); (case v=>walk_at "vals"); (case z=>decide)
      case t21 =>
        refine' L2.ZaK ?l ?v ?z
        (case l=>k_is); (case v=>walk_at "vals"); (case z=>decide)
      case t22 =>
        refine' L2.ZaK ?l ?v ?z
        (case l=>k_is); (case v=>walk_at "vals"); (case z=>decide)
      case t23 =>
        refine' L2.ZaK ?l ?v ?z
        (case l=>k_is); (case v=>walk_at "vals"); (case z=>decide)
      case t24 =>
        refine' L2.ZaK ?l ?v ?z
        (case l=>k_is); (case v=>walk_at "vals"); (case z=>decide)
      case t25 =>
        refine' L2.ZaK ?l ?v ?z
        (case l=>k_is); (case v=>walk_at "vals"); (case z=>decide)
      case t26 =>
        refine' L2.ZaK ?l ?v ?z
        (case l=>k_is); (case v=>walk_at "vals"); (case z=>decide)
      case t27 =>
        refine' L2.ZaK ?l ?v ?z
        (case l=>k_is); (case v=>walk_at "vals"); (case z=>decide)
      case t28 =>
        refine' L2.ZaK ?l ?v ?z
        (case l=>k_is); (case v=>walk_at "vals"); (case z=>decide)
      case t29 =>
        refine' L2.ZaK ?l ?v ?z
        (case l=>k_is); (case v=>walk_at "vals"); (case z=>decide)
      case t30 =>
        refine' L2.ZaK ?l ?v ?z
        (case l=>k_is); (case v=>walk_at "vals"); (case z=>decide)
      case t31 =>
        refine' L2.ZaK ?l ?v ?z
        (case l=>k_is); (case v=>walk_at "vals"); (case z=>decide)
    obtain ⟨aT,g_ROWS,rok⟩:=RR
    have S1:∃ (aS:Addr) (u1 u2 u3 u4 u5 u6 u7 u8 u9 u10 u11 u12:Value),L2.ZaU mg "SUMS" (.ref aS)/\L2.Zda PySem.Challenge.rw_meterhouse_k34_store_rows.prog w (L2.KOf KX) aS [(Sum.inr "add", u1),(Sum.inr "minus", u2),(Sum.inr "times", u3),(Sum.inr "over", u4),(Sum.inr "rest", u5),(Sum.inr "below", u6),(Sum.inr "same", u7),(Sum.inr "both", u8),(Sum.inr "either", u9),(Sum.inr "unlike", u10),(Sum.inr "up", u11),(Sum.inr "down", u12)]/\mg "added" = some u1/\mg "lessened" = some u2/\mg "multiplied" = some u3/\mg "contained" = some u4/\mg "left_over" = some u5/\mg "is_below" = some u6/\mg "is_same" = some u7/\mg "in_both" = some u8/\mg "in_either" = some u9/\mg "in_just_one" = some u10/\mg "doubled" = some u11/\mg "halved" = some u12:=by
      dsimp only [L2.KOf]
      refine' My.Zm3 KX G ?a ?l ?e1 ?e2 ?e3 ?m1 ?m2 ?m3 ?m4 ?m5 ?m6 ?m7 ?m8 ?m9 ?m10 ?m11 ?m12
      (case a=>k_is); (case l=>k_is); (case e1=>rfl); (case e2=>rfl); (case e3=>rfl)
      (case m1=>k_is); (case m2=>k_is); (case m3=>k_is); (case m4=>k_is); (case m5=>k_is); (case m6=>k_is); (case m7=>k_is); (case m8=>k_is); (case m9=>k_is); (case m10=>k_is); (case m11=>k_is); (case m12=>k_is)
    obtain ⟨aS,u1,u2,u3,u4,u5,u6,u7,u8,u9,u10,u11,u12,g_SUMS,dk,m1,m2,m3,m4,m5,m6,m7,m8,m9,m10,m11,m12⟩:=S1
    have DO1:∃ (aD:Addr) (u1 u2 u3 u4 u5 u6 u7 u8 u9 u10 u11 u12 u13 u14 u15 u16 u17:Value),L2.ZaU mg "DOINGS" (.ref aD)/\L2.Zda PySem.Challenge.rw_meterhouse_k34_store_rows.prog w (L2.KOf KX) aD [(Sum.inr "push", u1),(Sum.inr "drop", u2),(Sum.inr "copy", u3),(Sum.inr "swap", u4),(Sum.inr "add", u5),(Sum.inr "minus", u5),(Sum.inr "times", u5),(Sum.inr "over", u5),(Sum.inr "rest", u5),(Sum.inr "below", u5),(Sum.inr "same", u5),(Sum.inr "both", u5),(Sum.inr "either", u5),(Sum.inr "unlike", u5),(Sum.inr "up", u5),(Sum.inr "down", u5),(Sum.inr "jump", u6),(Sum.inr "jumpif", u7),(Sum.inr "load", u8),(Sum.inr "save", u9),(Sum.inr "me", u10),(Sum.inr "from", u11),(Sum.inr "sent", u12),(Sum.inr "word", u13),(Sum.inr "coin", u14),(Sum.inr "note", u15),(Sum.inr "give", u16),(Sum.inr "fail", u17)]/\mg "push_row" = some u1/\mg "drop_row" = some u2/\mg "copy_row" = some u3/\mg "swap_row" = some u4/\mg "reckon_row" = some u5/\mg "jump_row" = some u6/\mg "jumpif_row" = some u7/\mg "load_row" = some u8/\mg "save_row" = some u9/\mg "me_row" = some u10/\mg "from_row" = some u11/\mg "sent_row" = some u12/\mg "word_row" = some u13/\mg "coin_row" = some u14/\mg "note_row" = some u15/\mg "give_row" = some u16/\mg "fail_row" = some u17:=by
      dsimp only [L2.KOf]
      refine' My.do_at KX G ?a ?l ?e1 ?e2 ?e3 ?m_push_row ?m_drop_row ?m_copy_row ?m_swap_row ?m_reckon_row ?m_jump_row ?m_jumpif_row ?m_load_row ?m_save_row ?m_me_row ?m_from_row ?m_sent_row ?m_word_row ?m_coin_row ?m_note_row ?m_give_row ?m_fail_row
      (case a=>k_is); (case l=>k_is); (case e1=>rfl); (case e2=>rfl); (case e3=>rfl)
      (case m_push_row=>k_is); (case m_drop_row=>k_is); (case m_copy_row=>k_is); (case m_swap_row=>k_is); (case m_reckon_row=>k_is); (case m_jump_row=>k_is); (case m_jumpif_row=>k_is); (case m_load_row=>k_is); (case m_save_row=>k_is); (case m_me_row=>k_is); (case m_from_row=>k_is); (case m_sent_row=>k_is); (case m_word_row=>k_is); (case m_coin_row=>k_is); (case m_note_row=>k_is); (case m_give_row=>k_is); (case m_fail_row=>k_is)
    obtain ⟨aD,u1,u2,u3,u4,u5,u6,u7,u8,u9,u10,u11,u12,u13,u14,u15,u16,u17,g_DOINGS,dkD,m_push_row,m_drop_row,m_copy_row,m_swap_row,m_reckon_row,m_jump_row,m_jumpif_row,m_load_row,m_save_row,m_me_row,m_from_row,m_sent_row,m_word_row,m_coin_row,m_note_row,m_give_row,m_fail_row⟩:=DO1
    have T_REACHING:∃ a,L2.ZaU mg "REACHING" (.ref a)/\L2.TupK (L2.KOf KX) a ((["copy", "swap"]:List PySem.Str).map L2.V.str):=by
      dsimp only [L2.KOf]
      refine' L2.ZjY KX G ?a ?l ?v ?z
      (case a=>k_is); (case l=>k_is); (case v=>walk_at "vals"); (case z=>decide)
    obtain ⟨a_REACHING,g_REACHING,t_REACHING⟩:=T_REACHING
    have T_CALLING:∃ a,L2.ZaU mg "CALLING" (.ref a)/\L2.TupK (L2.KOf KX) a ((["call", "borrow", "look"]:List PySem.Str).map L2.V.str):=by
      dsimp only [L2.KOf]
      refine' L2.ZjY KX G ?a ?l ?v ?z
      (case a=>k_is); (case l=>k_is); (case v=>walk_at "vals"); (case z=>decide)
    obtain ⟨a_CALLING,g_CALLING,t_CALLING⟩:=T_CALLING
    have x_FI:∃ C tok,mg "Frame" = some (.ref C)/\L2.Zcs (L2.KOf KX) C "__init__" "Frame.__init__" My.Zaw #[.int 1 tok,.bool false]:=by
      dsimp only [L2.KOf]
      refine' My.mkFI KX G ?aC ?a ?i ?l ?c ?k ?d
      (case aC=>k_is); (case a=>k_is); (case i=>k_is); (case l=>k_is); (case c=>k_is); (case k=>k_is); (case d=>k_is)
    have y_FI:∃ tok,L2.Zcs (L2.KOf KX) cFrame "__init__" "Frame.__init__" My.Zaw #[.int 1 tok,.bool false]:=by
      obtain ⟨C,tok,e1,q⟩:=x_FI
      have h1:=tFrame.k.mgC
      rw [e1] at h1
      cases h1
      exact ⟨tok,q⟩
    obtain ⟨tokF,D_FI⟩:=y_FI
    obtain ⟨fl,fd,FL,ml⟩:=D_law
    have e0:=hmg.symm.trans ml
    cases e0
    refine ⟨fd,L2.ZiZ FL,fun base KB GB=>?_⟩
    have c_added:=My.Zlr (P:=PySem.Challenge.rw_meterhouse_k34_store_rows.prog) (w:=w) (base:=base)  D_added    g_WIDE
    have c_lessened:=My.ZhA (P:=PySem.Challenge.rw_meterhouse_k34_store_rows.prog) (w:=w) (base:=base)  D_lessened    g_WIDE
    have c_multiplied:=My.ZfC (P:=PySem.Challenge.rw_meterhouse_k34_store_rows.prog) (w:=w) (base:=base)  D_multiplied    g_WIDE
    have c_contained:=My.ZgB (P:=PySem.Challenge.rw_meterhouse_k34_store_rows.prog) (w:=w) (base:=base)  D_contained
    have c_left_over:=My.ZgD (P:=PySem.Challenge.rw_meterhouse_k34_store_rows.prog) (w:=w) (base:=base)  D_left_over
    have c_is_below:=My.ZhC (P:=PySem.Challenge.rw_meterhouse_k34_store_rows.prog) (w:=w) (base:=base)  D_is_below
    have c_is_same:=My.Zi7 (P:=PySem.Challenge.rw_meterhouse_k34_store_rows.prog) (w:=w) (base:=base)  D_is_same
    have c_in_both:=My.Zi9 (P:=PySem.Challenge.rw_meterhouse_k34_store_rows.prog) (w:=w) (base:=base)  D_in_both
    have c_in_either:=My.ZgF (P:=PySem.Challenge.rw_meterhouse_k34_store_rows.prog) (w:=w) (base:=base)  D_in_either
    have c_in_just_one:=My.ZeW (P:=PySem.Challenge.rw_meterhouse_k34_store_rows.prog) (w:=w) (base:=base)  D_in_just_one
    have c_doubled:=My.Zjb (P:=PySem.Challenge.rw_meterhouse_k34_store_rows.prog) (w:=w) (base:=base)  D_doubled    n_max g_FIGURES g_WIDE
    have c_halved:=My.Zka (P:=PySem.Challenge.rw_meterhouse_k34_store_rows.prog) (w:=w) (base:=base)  D_halved    n_max g_FIGURES
    have sok:=My.ZmR (P:=PySem.Challenge.rw_meterhouse_k34_store_rows.prog) (w:=w) (base:=base) dk m1 m2 m3 m4 m5 m6 m7 m8 m9 m10 m11 m12 c_added c_lessened c_multiplied c_contained c_left_over c_is_below c_is_same c_in_both c_in_either c_in_just_one c_doubled c_halved
    have c_reckon:=My.Zkc (P:=PySem.Challenge.rw_meterhouse_k34_store_rows.prog) (w:=w) (base:=base) sok D_reckon    g_SUMS
    have c_reach:=My.Zlt (P:=PySem.Challenge.rw_meterhouse_k34_store_rows.prog) (w:=w) (base:=base) t_REACHING D_reach    g_REACHING
    have c_takes:=My.Zlv (P:=PySem.Challenge.rw_meterhouse_k34_store_rows.prog) (w:=w) (base:=base) rok D_takes    c_reach g_ROWS
    have c_leaves:=My.Zkf (P:=PySem.Challenge.rw_meterhouse_k34_store_rows.prog) (w:=w) (base:=base) rok D_leaves    c_reach g_ROWS
    have cd2_price:=My.Zlx (P:=PySem.Challenge.rw_meterhouse_k34_store_rows.prog) (w:=w) (base:=base) rok D_price g_ROWS
    have i_Account:=My.ZcW (P:=PySem.Challenge.rw_meterhouse_k34_store_rows.prog) (w:=w) (base:=base)  D_Account___init__ tAccount   n_list
    have m_Account_loaded:=My.ZdJ (P:=PySem.Challenge.rw_meterhouse_k34_store_rows.prog) (w:=w) (base:=base)  D_Account_loaded tAccount
    have m_Account_keep:=My.Zew (P:=PySem.Challenge.rw_meterhouse_k34_store_rows.prog) (w:=w) (base:=base)  D_Account_keep tAccount
    have c_shift_coin:=My.ZfF (P:=PySem.Challenge.rw_meterhouse_k34_store_rows.prog) (w:=w) (base:=base)  D_shift_coin tAccount
    have i_Save:=My.ZdR (P:=PySem.Challenge.rw_meterhouse_k34_store_rows.prog) (w:=w) (base:=base)  D_Save___init__ tSave
    have i_Move:=My.ZdT (P:=PySem.Challenge.rw_meterhouse_k34_store_rows.prog) (w:=w) (base:=base)  D_Move___init__ tMove
    have i_Note:=My.ZdV (P:=PySem.Challenge.rw_meterhouse_k34_store_rows.prog) (w:=w) (base:=base)  D_Note___init__ tNote
    have m_Save_do:=My.Zje (P:=PySem.Challenge.rw_meterhouse_k34_store_rows.prog) (w:=w) (base:=base)  D_Save_do tSave tAccount m_Account_keep
    have m_Move_do:=My.Zjg (P:=PySem.Challenge.rw_meterhouse_k34_store_rows.prog) (w:=w) (base:=base)  D_Move_do tMove   c_shift_coin
    have m_Note_do:=My.Zji (P:=PySem.Challenge.rw_meterhouse_k34_store_rows.prog) (w:=w) (base:=base) (cAccount:=cAccount) D_Note_do tNote
    have m_Save_undo:=My.ZgI (P:=PySem.Challenge.rw_meterhouse_k34_store_rows.prog) (w:=w) (base:=base)  D_Save_undo tSave tAccount m_Account_keep
    have m_Move_undo:=My.ZgK (P:=PySem.Challenge.rw_meterhouse_k34_store_rows.prog) (w:=w) (base:=base)  D_Move_undo tMove   c_shift_coin
    have m_Note_undo:=My.ZgM (P:=PySem.Challenge.rw_meterhouse_k34_store_rows.prog) (w:=w) (base:=base) (cAccount:=cAccount) D_Note_undo tNote
    have i_Journal:=My.ZcY (P:=PySem.Challenge.rw_meterhouse_k34_store_rows.prog) (w:=w) (base:=base)  D_Journal___init__ tJournal
    have m_Journal_mark:=My.Zey (P:=PySem.Challenge.rw_meterhouse_k34_store_rows.prog) (w:=w) (base:=base)  D_Journal_mark tJournal   n_len
    have m_Journal_write:=My.ZdX (P:=PySem.Challenge.rw_meterhouse_k34_store_rows.prog) (w:=w) (base:=base)  D_Journal_write tJournal tSave tMove tNote tAccount m_Save_do m_Move_do m_Note_do
    have m_Journal_back:=My.Zez (P:=PySem.Challenge.rw_meterhouse_k34_store_rows.prog) (w:=w) (base:=base)  D_Journal_back tJournal tSave tMove tNote tAccount m_Save_undo m_Move_undo m_Note_undo  n_len n_max
    have m_Save_told:=My.ZgP (P:=PySem.Challenge.rw_meterhouse_k34_store_rows.prog) (w:=w) (base:=base)  D_Save_told tSave
    have m_Move_told:=My.ZgR (P:=PySem.Challenge.rw_meterhouse_k34_store_rows.prog) (w:=w) (base:=base)  D_Move_told tMove
    have m_Note_told:=My.ZgT (P:=PySem.Challenge.rw_meterhouse_k34_store_rows.prog) (w:=w) (base:=base)  D_Note_told tNote
    have m_Journal_told:=My.ZeB (P:=PySem.Challenge.rw_meterhouse_k34_store_rows.prog) (w:=w) (base:=base)  D_Journal_told tJournal tSave tMove tNote m_Save_told m_Move_told m_Note_told
    have m_Save_worth:=My.Zf5 (P:=PySem.Challenge.rw_meterhouse_k34_store_rows.prog) (w:=w) (base:=base)  D_Save_worth tSave   g_FREED
    have m_Move_worth:=My.Zf7 (P:=PySem.Challenge.rw_meterhouse_k34_store_rows.prog) (w:=w) (base:=base)  D_Move_worth tMove
    have m_Note_worth:=My.Zf9 (P:=PySem.Challenge.rw_meterhouse_k34_store_rows.prog) (w:=w) (base:=base)  D_Note_worth tNote
    have m_Journal_worth:=My.Zd0 (P:=PySem.Challenge.rw_meterhouse_k34_store_rows.prog) (w:=w) (base:=base)  D_Journal_worth tJournal tSave tMove tNote m_Save_worth m_Move_worth m_Note_worth  n_sum
    have m_Frame_left:=My.ZfN (P:=PySem.Challenge.rw_meterhouse_k34_store_rows.prog) (w:=w) (base:=base)  D_Frame_left tFrame
    have m_Frame_short_for:=My.Zdj (P:=PySem.Challenge.rw_meterhouse_k34_store_rows.prog) (w:=w) (base:=base)  D_Frame_short_for tFrame   c_takes n_len
    have m_Frame_full_behind:=My.ZcM (P:=PySem.Challenge.rw_meterhouse_k34_store_rows.prog) (w:=w) (base:=base)  D_Frame_full_behind tFrame   c_leaves c_takes n_len g_MOST_ON_STACK
    have m_Frame_taken:=My.ZeX (P:=PySem.Challenge.rw_meterhouse_k34_store_rows.prog) (w:=w) (base:=base)  D_Frame_taken tFrame   n_range n_list n_reversed
    have m_Frame_lay:=My.ZgV (P:=PySem.Challenge.rw_meterhouse_k34_store_rows.prog) (w:=w) (base:=base)  D_Frame_lay tFrame
    have m_Frame_finish:=My.ZeE (P:=PySem.Challenge.rw_meterhouse_k34_store_rows.prog) (w:=w) (base:=base)  D_Frame_finish tFrame
    have m_Frame_tree:=My.ZfP (P:=PySem.Challenge.rw_meterhouse_k34_store_rows.prog) (w:=w) (base:=base)  D_Frame_tree tFrame   n_list
    have c_push_row:=My.ZhL (P:=PySem.Challenge.rw_meterhouse_k34_store_rows.prog) (w:=w) (base:=base)  D_push_row tFrame m_Frame_lay
    have c_drop_row:=My.ZhN (P:=PySem.Challenge.rw_meterhouse_k34_store_rows.prog) (w:=w) (base:=base)  D_drop_row tFrame m_Frame_taken
    have c_copy_row:=My.ZhP (P:=PySem.Challenge.rw_meterhouse_k34_store_rows.prog) (w:=w) (base:=base)  D_copy_row tFrame m_Frame_lay
    have c_swap_row:=My.ZhQ (P:=PySem.Challenge.rw_meterhouse_k34_store_rows.prog) (w:=w) (base:=base)  D_swap_row tFrame   n_len
    have c_reckon_row:=My.ZfR (P:=PySem.Challenge.rw_meterhouse_k34_store_rows.prog) (w:=w) (base:=base)  D_reckon_row tFrame m_Frame_taken m_Frame_lay  c_reckon
    have c_jump_row:=My.ZhS (P:=PySem.Challenge.rw_meterhouse_k34_store_rows.prog) (w:=w) (base:=base)  D_jump_row tFrame
    have c_jumpif_row:=My.ZfS (P:=PySem.Challenge.rw_meterhouse_k34_store_rows.prog) (w:=w) (base:=base)  D_jumpif_row tFrame m_Frame_taken
    have c_me_row:=My.Zkn (P:=PySem.Challenge.rw_meterhouse_k34_store_rows.prog) (w:=w) (base:=base)  D_me_row tFrame m_Frame_lay
    have c_from_row:=My.ZhU (P:=PySem.Challenge.rw_meterhouse_k34_store_rows.prog) (w:=w) (base:=base)  D_from_row tFrame m_Frame_lay
    have c_sent_row:=My.ZhW (P:=PySem.Challenge.rw_meterhouse_k34_store_rows.prog) (w:=w) (base:=base)  D_sent_row tFrame m_Frame_lay
    have c_word_row:=My.ZhY (P:=PySem.Challenge.rw_meterhouse_k34_store_rows.prog) (w:=w) (base:=base)  D_word_row tFrame m_Frame_lay
    have c_give_row:=My.ZhZ (P:=PySem.Challenge.rw_meterhouse_k34_store_rows.prog) (w:=w) (base:=base)  D_give_row tFrame m_Frame_taken m_Frame_finish
    have c_fail_row:=My.Zh0 (P:=PySem.Challenge.rw_meterhouse_k34_store_rows.prog) (w:=w) (base:=base)  D_fail_row tFrame m_Frame_taken m_Frame_finish
    have c_brings_coin:=My.ZeZ (P:=PySem.Challenge.rw_meterhouse_k34_store_rows.prog) (w:=w) (base:=base)  D_brings_coin tFrame
    have c_fills_place:=My.Ze1 (P:=PySem.Challenge.rw_meterhouse_k34_store_rows.prog) (w:=w) (base:=base)  D_fills_place tFrame tAccount m_Account_loaded
    have c_row_price:=My.ZgX (P:=PySem.Challenge.rw_meterhouse_k34_store_rows.prog) (w:=w) (base:=base)  D_row_price    cd2_price c_brings_coin c_fills_place
    have c_is_barred:=My.ZgZ (P:=PySem.Challenge.rw_meterhouse_k34_store_rows.prog) (w:=w) (base:=base)  D_is_barred tFrame   c_brings_coin
    have c_end_ahead_of:=My.ZeI (P:=PySem.Challenge.rw_meterhouse_k34_store_rows.prog) (w:=w) (base:=base)  D_end_ahead_of tFrame m_Frame_short_for m_Frame_full_behind m_Frame_left  c_is_barred c_row_price
    have c_write_step:=My.ZfV (P:=PySem.Challenge.rw_meterhouse_k34_store_rows.prog) (w:=w) (base:=base)  D_write_step tJournal tFrame tSave tMove tNote m_Journal_write m_Save_told m_Move_told m_Note_told
    have c_account_at:=My.ZfX (P:=PySem.Challenge.rw_meterhouse_k34_store_rows.prog) (w:=w) (base:=base) (cAccount:=cAccount) D_account_at    n_len
    have c_load_row:=My.Zh3 (P:=PySem.Challenge.rw_meterhouse_k34_store_rows.prog) (w:=w) (base:=base)  D_load_row tFrame tAccount m_Frame_taken m_Frame_lay m_Account_loaded
    have c_coin_row:=My.Zh4 (P:=PySem.Challenge.rw_meterhouse_k34_store_rows.prog) (w:=w) (base:=base)  D_coin_row tFrame tAccount m_Frame_taken m_Frame_lay  c_account_at
    have c_save_row:=My.Zh5 (P:=PySem.Challenge.rw_meterhouse_k34_store_rows.prog) (w:=w) (base:=base)  D_save_row tFrame tAccount tSave m_Frame_taken m_Account_loaded i_Save  c_write_step
    have c_note_row:=My.Zh6 (P:=PySem.Challenge.rw_meterhouse_k34_store_rows.prog) (w:=w) (base:=base)  D_note_row tFrame tNote m_Frame_taken i_Note  c_write_step
    have dok:=My.do_ok (P:=PySem.Challenge.rw_meterhouse_k34_store_rows.prog) (w:=w) (base:=base) (cAccount:=cAccount) (cJournal:=cJournal) (cSave:=cSave) (cMove:=cMove) (cNote:=cNote) (cFrame:=cFrame) dkD m_push_row m_drop_row m_copy_row m_swap_row m_reckon_row m_jump_row m_jumpif_row m_load_row m_save_row m_me_row m_from_row m_sent_row m_word_row m_coin_row m_note_row m_give_row m_fail_row c_push_row c_drop_row c_copy_row c_swap_row c_reckon_row c_jump_row c_jumpif_row c_load_row c_save_row c_me_row c_from_row c_sent_row c_word_row c_coin_row c_note_row c_give_row c_fail_row
    have c_do_row:=My.Zkt (P:=PySem.Challenge.rw_meterhouse_k34_store_rows.prog) (w:=w) (base:=base) dok D_do_row    g_DOINGS
    have iD9_Frame:=My.ZkJ (P:=PySem.Challenge.rw_meterhouse_k34_store_rows.prog) (w:=w) (base:=base) D_FI tFrame
    have c_other_call:=My.ZfZ (P:=PySem.Challenge.rw_meterhouse_k34_store_rows.prog) (w:=w) (base:=base)  D_other_call tFrame m_Frame_taken  c_takes iD9_Frame
    have c_end_ahead_of_call:=My.ZcO (P:=PySem.Challenge.rw_meterhouse_k34_store_rows.prog) (w:=w) (base:=base)  D_end_ahead_of_call tFrame tAccount   c_account_at g_MOST_CALLS
    have c_go:=My.Zl2 (P:=PySem.Challenge.rw_meterhouse_k34_store_rows.prog) (w:=w) (base:=base) (cAccount:=cAccount) (cJournal:=cJournal) (cSave:=cSave) (cMove:=cMove) (cNote:=cNote) t_CALLING D_call_row tFrame m_Frame_left m_Frame_finish m_Frame_tree m_Frame_lay c_other_call c_end_ahead_of_call n_min D_go_row c_row_price c_do_row g_CALLING D_go_on tAccount c_end_ahead_of n_len D_go tJournal tMove m_Journal_mark i_Move m_Journal_back c_write_step 10
    have iD7_Frame:=My.ZkI (P:=PySem.Challenge.rw_meterhouse_k34_store_rows.prog) (w:=w) (base:=base) D_FI tFrame
    have c_enter:=My.ZlB (P:=PySem.Challenge.rw_meterhouse_k34_store_rows.prog) (w:=w) (base:=base)  D_enter tFrame m_Frame_tree  c_go iD7_Frame
    have c_Lalike:=My.Zg3 (P:=PySem.Challenge.rw_meterhouse_k34_store_rows.prog) (w:=w) (base:=base) D_Lalike n_isinstance n_int n_str n_tuple n_range n_len n_list n_bool 10
    have c_Lcell_at:=My.Zih (P:=PySem.Challenge.rw_meterhouse_k34_store_rows.prog) (w:=w) (base:=base)  D_Lcell_at    n_len
    have c_Lnumber:=My.Zjk (P:=PySem.Challenge.rw_meterhouse_k34_store_rows.prog) (w:=w) (base:=base)  D_Lnumber
    have c_Lwent:=My.ZlF (P:=PySem.Challenge.rw_meterhouse_k34_store_rows.prog) (w:=w) (base:=base)  D_Lwent    c_Lnumber n_len n_int
    have c_Laccount:=My.Zif (P:=PySem.Challenge.rw_meterhouse_k34_store_rows.prog) (w:=w) (base:=base)  D_Laccount tAccount i_Account m_Account_keep
    have c_Lworth:=My.ZkD (P:=PySem.Challenge.rw_meterhouse_k34_store_rows.prog) (w:=w) (base:=base)  D_Lworth    n_sum n_int
    exact My.ok_law  FL tAccount tJournal tNote tSave i_Account i_Journal m_Journal_write i_Note i_Save m_Journal_told m_Account_loaded m_Journal_worth  c_Lwent c_Laccount c_enter c_Lcell_at c_Lnumber c_Lalike c_Lworth n_range n_dict n_len n_int
  case S=>exact fun K H a ns hl hO hS=>⟨a,ns,rfl,hS,hl,fun _=>rfl⟩
  case C=>exact fun _ _ _ _ z=>z
