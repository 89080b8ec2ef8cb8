import PyProof.Rows.All
import Wide.All
import OpenK.AllK
import Wide.FinOn
import Lean
import PyProof.EqAt
import PyProof.EqKinds
import PyProof.TupleCall
import PySem.Challenge.RW_meterhouse_k37_whole_look_changes_nothin
set_option Elab.async false
set_option linter.all false
set_option maxRecDepth 100000
set_option maxHeartbeats 4000000
namespace L2
open PySem PySem.Spec PyProof.Rows
noncomputable abbrev Key:=Sum Int Str
noncomputable def keyIs:Key->Value->Bool
 | .inl k,v=>Value.isInt k v
 | .inr x,v=>Value.isStrOf x v
noncomputable def keyH (w:World):Key->Int
 | .inl k=>hashInt k
 | .inr x=>hashStr w x
theorem Zbc:∀ {k:Key} {v:Value},keyIs k v=true->(∃ i t,k=Sum.inl i/\v=Value.int i t)\/(∃ x t,k=Sum.inr x/\v=Value.str x t)
 | .inl i,v,h=>by
  obtain ⟨t,e⟩:=Value.isInt_shape (k:=i) (v:=v) h
  exact .inl ⟨i,t,rfl,e⟩
 | .inr x,v,h=>by
  obtain ⟨t,e⟩:=Value.isStrOf_shape (x:=x) (v:=v) h
  exact .inr ⟨x,t,rfl,e⟩
theorem Zgd (i:Int) (t:Tok):keyIs (.inl i) (.int i t)=true:=by simp [keyIs,Value.isInt]
theorem Zde (x:Str) (t:Tok):keyIs (.inr x) (.str x t)=true:=by simp [keyIs,Value.isStrOf]
theorem key_ll (a b:Int):decide ((Sum.inl a:Key)=Sum.inl b)=(a==b):=by
 by_cases e:a=b
 .subst e;simp
 .have h:¬ (Sum.inl a:Key)=Sum.inl b:=fun q=>e (Sum.inl.inj q)
  rw [decide_eq_false h]
  exact (beq_eq_false_iff_ne.mpr e).symm
theorem key_rr (a b:Str):decide ((Sum.inr a:Key)=Sum.inr b)=decide (a=b):=by
 by_cases e:a=b
 .subst e;simp
 .have h:¬ (Sum.inr a:Key)=Sum.inr b:=fun q=>e (Sum.inr.inj q)
  rw [decide_eq_false h,decide_eq_false e]
theorem key_lr (a:Int) (b:Str):decide ((Sum.inl a:Key)=Sum.inr b)=false:=decide_eq_false (fun q=>nomatch q)
theorem key_rl (a:Str) (b:Int):decide ((Sum.inr a:Key)=Sum.inl b)=false:=decide_eq_false (fun q=>nomatch q)
noncomputable def Za1 (prog:Program) (w:World):PySem.KeyKind prog w Key where
 is:=keyIs
 hash:=keyH w
 inj:=fun v a b ha hb=>by
  rcases Zbc ha with ⟨i,t,rfl,rfl⟩|⟨x,t,rfl,rfl⟩
  .rcases Zbc hb with ⟨j,u,rfl,e⟩|⟨y,u,rfl,e⟩
   .injection e with e1 _;rw [e1]
   .exact nomatch e
  .rcases Zbc hb with ⟨j,u,rfl,e⟩|⟨y,u,rfl,e⟩
   .exact nomatch e
   .injection e with e1 _;rw [e1]
 byValue:=fun k v h=>by
  rcases Zbc h with ⟨i,t,rfl,rfl⟩|⟨x,t,rfl,rfl⟩<;>rfl
 pyHash:=fun hv h=>by
  rcases Zbc hv with ⟨i,t,rfl,rfl⟩|⟨x,t,rfl,rfl⟩
  .exact wpAny_pyHash_int h
  .exact wpAny_pyHash_str h
 eqBool:=fun hu hv h=>by
  rcases Zbc hu with ⟨i,t,rfl,rfl⟩|⟨x,t,rfl,rfl⟩
  .rcases Zbc hv with ⟨j,u,rfl,rfl⟩|⟨y,u,rfl,rfl⟩
   .rw [key_ll] at h;exact wpAny_eqBool_int h
   .rw [key_lr] at h;exact SeqAt.EqAt.int_str i t y u _ _ _ _ h
  .rcases Zbc hv with ⟨j,u,rfl,rfl⟩|⟨y,u,rfl,rfl⟩
   .rw [key_rl] at h;exact SeqAt.EqAt.str_int x t j u _ _ _ _ h
   .rw [key_rr] at h;exact wpAny_eqBool_str h
 «strs»:=fun k x t v h=>by
  rcases Zbc h with ⟨i,u,rfl,e⟩|⟨y,u,rfl,e⟩
  .exact nomatch e
  .injection e with e1 _
   subst e1
   cases v<;>rfl
theorem Zi6 (prog:Program) (w:World) (k:Key) (v:Value):(Za1 prog w).is k v=keyIs k v:=rfl
theorem Zht (prog:Program) (w:World) (i:Int) (t:Tok):(Za1 prog w).is (.inl i) (.int i t)=true:=Zgd i t
theorem Zhu (prog:Program) (w:World) (x:Str) (t:Tok):(Za1 prog w).is (.inr x) (.str x t)=true:=Zde x t
inductive V where
 | non|bl (b:Bool)|int (i:Int)|str (x:Str)|byt (b:Array UInt8)|flt (b:UInt64)|ref (a:Addr)|ty (n:String)
 deriving DecidableEq
noncomputable def RelV:V->Value->Prop
 | .non,u=>u=Value.none
 | .bl b,u=>u=Value.bool b
 | .int i,u=>∃ t,u=Value.int i t
 | .str x,u=>∃ t,u=Value.str x t
 | .byt b,u=>∃ t,u=Value.bytes b t
 | .flt b,u=>∃ t,u=Value.float b t
 | .ref a,u=>u=Value.ref a
 | .ty n,u=>u=Value.type n
noncomputable abbrev Vals:List V->List Value->Prop:=Paired RelV
theorem Vals.length {xs:List V} {us:List Value} (r:Vals xs us):xs.length=us.length:=Paired.length r
theorem Vals.get:∀ {xs:List V} {us:List Value} {i:Nat} {x:V},Vals xs us->xs[i]?=some x->∃ u,us[i]?=some u/\RelV x u
 | _,_,_,_,.nil,e=>by simp at e
 | _,_,0,_,.cons r _,e=>by simp at e;subst e;exact ⟨_,rfl,r⟩
 | _,_,i+1,x,.cons _ t,e=>by
  obtain ⟨u,h1,h2⟩:=Vals.get (i:=i) (x:=x) t (by simpa using e)
  exact ⟨u,by simpa using h1,h2⟩
theorem Vals.set {x:V} {u:Value} (r:RelV x u):∀ {xs:List V} {us:List Value} (i:Nat),Vals xs us->Vals (xs.set i x) (us.set i u)
 | _,_,_,.nil=>.nil
 | _,_,0,.cons _ t=>.cons r t
 | _,_,i+1,.cons q t=>.cons q (Vals.set r i t)
theorem Vals.append:∀ {xs ys:List V} {us ws:List Value},Vals xs us->Vals ys ws->Vals (xs++ys) (us++ws)
 | _,_,_,_,.nil,s=>s
 | _,_,_,_,.cons r t,s=>.cons r (Vals.append t s)
theorem Vals.take:∀ {xs:List V} {us:List Value} (n:Nat),Vals xs us->Vals (xs.take n) (us.take n)
 | _,_,0,_=>.nil
 | _,_,_+1,.nil=>.nil
 | _,_,n+1,.cons r t=>.cons r (Vals.take n t)
theorem Vals.drop:∀ {xs:List V} {us:List Value} (n:Nat),Vals xs us->Vals (xs.drop n) (us.drop n)
 | _,_,0,r=>r
 | _,_,_+1,.nil=>.nil
 | _,_,n+1,.cons _ t=>Vals.drop n t
theorem Vals.none_of:∀ {xs:List V} {us:List Value} {i:Nat},Vals xs us->xs[i]?=none->us[i]?=none:=fun {xs us i} r e=>by
 have h1:=r.length
 have h2:xs.length<=i:=List.getElem?_eq_none_iff.mp e
 exact List.getElem?_eq_none_iff.mpr (by omega)
noncomputable def RelO:Option V->Option Value->Prop
 | some v,some u=>RelV v u
 | none,none=>True
 | _,_=>False
noncomputable def KV {κ:Type}:List (κ×V)->List (κ×Value)->Prop:=Paired fun (p:κ×V) (q:κ×Value)=>p.1=q.1/\RelV p.2 q.2
noncomputable def kV:Key->V
 | .inl i=>.int i
 | .inr x=>.str x
inductive HO where
 | lst (xs:List V)
 | tup (xs:List V)
 | dK (kvs:List (Key×V))|dT (kvs:List (List Key×V))
 | set (S:Int->Bool) (n:Nat)
 | ins (C dx:Addr) (fs:List (Str×V))
 | own (x:Addr)
 | xd (fs:List (Str×V))
 | met (f x:Addr)
 | rng (lo hi:Int)
 | frz (o:Obj) (u:HO)
 | tbl (ps:Array Value)
 | ext (φ:Heap->Prop)
noncomputable abbrev Hp:=Addr->Option HO
noncomputable def upd (H:Hp) (a:Addr) (o:HO):Hp:=fun b=>if b=a then some o else H b
theorem Zag {H:Hp} {a:Addr} {o:HO}:upd H a o a=some o:=by unfold upd;rw [if_pos rfl]
theorem Zai {H:Hp} {a b:Addr} {o:HO} (h:b≠a):upd H a o b=H b:=by unfold upd;rw [if_neg h]
theorem ZaV {H:Hp} {a:Addr} {o u:HO}:upd (upd H a o) a u=upd H a u:=by
 funext b;unfold upd;split<;>rfl
theorem Zbl {H:Hp} {a b:Addr} {o u:HO} (h:H a=some o) (h':H b=some u) (d:o≠u):a≠b:=by
 intro e;subst e;rw [h] at h';exact d (Option.some.inj h')
theorem Zaj {H:Hp} {a b:Addr} {o:HO} (h:H a=some o) (h':H b=none):a≠b:=by
 intro e;subst e;rw [h] at h';cases h'
section
variable (P:Program) (w:World)
noncomputable def ObjOk (H:Hp) (h:Heap) (a:Addr):HO->Prop
 | .lst xs=>xs.length<=sizeLine/\∃ (its:List Value) (n:Nat),Vals xs its/\h.get? a=some { cls:=.type "list", data:=.seq its.toArray n }
 | .tup xs=>xs.length<=sizeLine/\∃ its:List Value,Vals xs its/\IsTup h a its.toArray
 | .dK kvs=>kvs.length<=sizeLine/\(a==sysModules)=false/\∃ vs,KV kvs vs/\h.DictOf (Za1 P w) a vs
 | .dT kvs=>kvs.length<=sizeLine/\(a==sysModules)=false/\∃ xs:List (List Key×Addr×Value),
   Paired (fun (p:List Key×V) (q:List Key×Addr×Value)=>p.1=q.1/\H q.2.1=some (.tup (p.1.map kV))/\RelV p.2 q.2.2) kvs xs /\
   ∃ o es ep,h.get? a=some o/\o.ExactDict/\o.data=.dict es ep/\es.toList=xs.map (entryOfKey (tupleKind (Za1 P w)))/\(xs.map (·.1)).Nodup
 | .set S n=>h.SetOf (intKind P w) a S n
 | .ins C dx fs=>H dx=some (.own a)/\fs.length<=1000/\dx≠a/\h.get? a=some (PySem.W.instObj C dx) /\
   ∃ mA,h.Ns1 dx mA/\(∀ f,RelO (fs.lookup f) (mA f))/\PySem.Within mA (fs.map (·.1))
 | .own _=>∃ o,h.get? a=some o
 | .xd fs=>∃ mA,h.Ns1 a mA/\∀ f,RelO (fs.lookup f) (mA f)
 | .rng lo hi=>∃ t u v,h.get? a=some { cls:=.type "range", data:=.fields #[.int lo t,.int hi u,.int 1 v] }
 | .frz o u=>h.get? a=some o/\ObjOk H h a u
 | .tbl ps=>h.get? a=some { cls:=.none,data:=.fields ps }
 | .met f x=>h.get? a=some (PySem.W.methodObj (.ref f) (.ref x))
 | .ext φ=>φ h/\(∃ o,h.get? a=some o)/\∀ h1 h2:Heap,φ h1->(∀ o,h1.get? a=some o->h2.get? a=some o)->φ h2
noncomputable def HOk (H:Hp) (h:Heap):Prop:=∀ a o,H a=some o->ObjOk P w H h a o
end
section
variable {P:Program} {w:World} {H H':Hp} {h h':Heap} {a:Addr} {o:HO}
theorem ObjOk.lt (x:ObjOk P w H h a o):a<h.objs.size:=by
 cases o with
 | lst xs=>obtain ⟨_,_,_,_,e⟩:=x;exact Heap.lt_size e
 | tup xs=>obtain ⟨_,_,_,p⟩:=x;exact p.lt
 | dK kvs=>obtain ⟨_,_,_,_,o,_,_,e,_⟩:=x;exact Heap.lt_size e
 | dT kvs=>obtain ⟨_,_,_,_,o,_,_,e,_⟩:=x;exact Heap.lt_size e
 | set S n=>obtain ⟨o,_,_,_,e,_⟩:=x;exact Heap.lt_size e
 | ins C dx fs=>obtain ⟨_,_,_,e,_⟩:=x;exact Heap.lt_size e
 | own y=>obtain ⟨_,e⟩:=x;exact Heap.lt_size e
 | xd fs=>obtain ⟨_,⟨_,_,_,e,_⟩,_⟩:=x;exact Heap.lt_size e
 | rng lo hi=>obtain ⟨_,_,_,e⟩:=x;exact Heap.lt_size e
 | frz ob u=>obtain ⟨e,_⟩:=x;exact Heap.lt_size e
 | tbl ps=>exact Heap.lt_size (show h.get? a=some _ from x)
 | met f y=>exact Heap.lt_size (show h.get? a=some _ from x)
 | ext φ=>obtain ⟨_,⟨_,e⟩,_⟩:=x;exact Heap.lt_size e
theorem Paired.mapP {α β:Type} {F G:α->β->Prop}:∀ {l₁:List α} {l₂:List β},Paired F l₁ l₂->(∀ a b,F a b->G a b)->Paired G l₁ l₂
 | _,_,.nil,_=>.nil
 | _,_,.cons r t,f=>.cons (f _ _ r) (Paired.mapP t f)
theorem ObjOk.stay (x:ObjOk P w H h a o) (k:∀ b u,(b=a\/H b=some (.own a))->h.get? b=some u->h'.get? b=some u)
  (ho:∀ b,H b=some (.own a)->H' b=some (.own a)) (ht:∀ b xs,H b=some (.tup xs)->H' b=some (.tup xs)):ObjOk P w H' h' a o:=by
 induction o with
 | lst xs=>obtain ⟨z,its,n,r,e⟩:=x;exact ⟨z,its,n,r,k _ _ (.inl rfl) e⟩
 | tup xs=>obtain ⟨z,its,r,ob,e,c⟩:=x;exact ⟨z,its,r,ob,k _ _ (.inl rfl) e,c⟩
 | dK kvs=>obtain ⟨z,y,vs,r,ob,es,ep,e,c⟩:=x;exact ⟨z,y,vs,r,ob,es,ep,k _ _ (.inl rfl) e,c⟩
 | dT kvs =>
  obtain ⟨z,y,xs,r,ob,es,ep,e,c⟩:=x
  exact ⟨z,y,xs,Paired.mapP r fun p q z=>⟨z.1,ht _ _ z.2.1,z.2.2⟩,ob,es,ep,k _ _ (.inl rfl) e,c⟩
 | set S n=>obtain ⟨ob,es,ep,t,e,c⟩:=x;exact ⟨ob,es,ep,t,k _ _ (.inl rfl) e,c⟩
 | ins C dx fs =>
  obtain ⟨d,z,ne,e,mA,⟨od,es,ep,e2,c⟩,r⟩:=x
  exact ⟨ho _ d,z,ne,k _ _ (.inl rfl) e,mA,⟨od,es,ep,k _ _ (.inr d) e2,c⟩,r⟩
 | own y=>obtain ⟨ob,e⟩:=x;exact ⟨ob,k _ _ (.inl rfl) e⟩
 | xd fs=>obtain ⟨mA,⟨od,es,ep,e,c⟩,r⟩:=x;exact ⟨mA,⟨od,es,ep,k _ _ (.inl rfl) e,c⟩,r⟩
 | rng lo hi=>obtain ⟨t,u,v,e⟩:=x;exact ⟨t,u,v,k _ _ (.inl rfl) e⟩
 | frz ob u ih=>obtain ⟨e,q⟩:=x;exact ⟨k _ _ (.inl rfl) e,ih q⟩
 | tbl ps =>
  have e:h.get? a=some { cls:=.none,data:=.fields ps }:=x
  show h'.get? a=some { cls:=.none,data:=.fields ps }
  exact k a _ (.inl rfl) e
 | met f y =>
  have e:h.get? a=some (PySem.W.methodObj (.ref f) (.ref y)):=x
  show h'.get? a=some (PySem.W.methodObj (.ref f) (.ref y))
  exact k a _ (.inl rfl) e
 | ext φ=>obtain ⟨p,⟨o,e⟩,st⟩:=x;exact ⟨st _ _ p fun o q=>k _ _ (.inl rfl) q,⟨o,k _ _ (.inl rfl) e⟩,st⟩
theorem HOk.lt (x:HOk P w H h) (e:H a=some o):a<h.objs.size:=(x a o e).lt
theorem HOk.fresh (x:HOk P w H h) (e:h.objs.size<=a):H a=none:=by
 cases q:H a with
 | none=>rfl
 | some u=>exact absurd (Nat.lt_of_lt_of_le (x.lt q) e) (Nat.lt_irrefl _)
theorem HOk.kept (x:HOk P w H h) (k:∀ b u,h.get? b=some u->h'.get? b=some u):HOk P w H h':=fun a o e =>
 (x a o e).stay (fun b u _ q=>k b u q) (fun _ q=>q) fun _ _ q=>q
theorem HOk.laid (x:HOk P w H h) (k:∀ b u,h.get? b=some u->h'.get? b=some u) (hp:h.objs.size<=a) (new:ObjOk P w (upd H a o) h' a o):HOk P w (upd H a o) h':=fun b u e=>by
 have hn:=x.fresh hp
 by_cases hb:b=a
 .subst hb;rw [Zag] at e;cases e;exact new
 .rw [Zai hb] at e
  exact (x b u e).stay (fun c v _ q=>k c v q) (fun c q=>by rw [Zai (Zaj q hn)];exact q) fun c xs q=>by rw [Zai (Zaj q hn)];exact q
end
noncomputable def Rd (H:Hp) (a:Addr) (u:HO):Prop:=H a=some u\/∃ o,H a=some (.frz o u)
theorem Rd.of {H:Hp} {a:Addr} {u:HO} (h:H a=some u):Rd H a u:=.inl h
theorem Rd.ok {P:Program} {w:World} {H:Hp} {h:Heap} {a:Addr} {u:HO} (r:Rd H a u) (x:HOk P w H h):ObjOk P w H h a u:=by
 rcases r with r|⟨o,r⟩
 .exact x a u r
 .obtain ⟨_,q⟩:=x a _ r
  exact q
noncomputable def Mut:Option HO->Prop
 | some (.lst _)=>True
 | some (.dK _)=>True
 | some (.dT _)=>True
 | some (.set _ _)=>True
 | some (.ins _ _ _)=>True
 | some (.ext _)=>True
 | _=>False
section
variable {P:Program} {w:World} {H:Hp} {h h':Heap} {x e:Addr} {o':HO}
theorem HOk.write (ok:HOk P w H h) (mu:Mut (H x)) (he:e=x\/H e=some (.own x)) (k:∀ b u,b≠e->h.get? b=some u->h'.get? b=some u) (heo:∃ u,h'.get? e=some u)
  (new:ObjOk P w (upd H x o') h' x o'):HOk P w (upd H x o') h':=fun b u q=>by
 have nown:∀ c y,H c=some (.own y)->c≠x:=fun c y r z=>by subst z;rw [r] at mu;exact mu
 have ntup:∀ c xs,H c=some (.tup xs)->c≠x:=fun c xs r z=>by subst z;rw [r] at mu;exact mu
 by_cases hb:b=x
 .subst hb;rw [Zag] at q;cases q;exact new
 .rw [Zai hb] at q
  by_cases hbe:b=e
  .have q':H b=some (.own x):=by
    rcases he with z|z
    .exact absurd (hbe.trans z) hb
    .rw [hbe];exact z
   rw [q] at q';cases q'
   obtain ⟨v,hv⟩:=heo
   exact ⟨v,by rw [hbe];exact hv⟩
  .refine (ok b u q).stay (fun c v hc r=>k c v ?_ r) (fun c r=>by rw [Zai (nown c b r)];exact r) fun c xs r=>by rw [Zai (ntup c xs r)];exact r
   rcases hc with rfl|hc
   .exact hbe
   .rintro rfl
    rcases he with z|z
    .exact nown c b hc z
    .rw [hc] at z;cases z;exact hb rfl
end
structure Un (fs ex:List Addr) (H H':Hp) (h h':Heap):Prop where
 keep:∀ b o,h.get? b=some o->H b=none->b∉fs->b∉ex->h'.get? b=some o
 slot:∀ b o,h.get? b=some o->H b=none->b∈fs->b∉ex->∃ sl,h'.get? b=some { o with slots:=sl }
 free:∀ b o,h.get? b=some o->H b=none->b∉ex->H' b=none
 there:∀ b o,h.get? b=some o->b∉ex->∃ o',h'.get? b=some o'
 tups:∀ b xs,H b=some (.tup xs)->H' b=some (.tup xs)
 frzs:∀ b o u,H b=some (.frz o u)->H' b=some (.frz o u)
 tbls:∀ b ps,H b=some (.tbl ps)->∃ more,H' b=some (.tbl (ps++more))
section
variable {fs fs' ex ex':List Addr} {H H1 H2:Hp} {h h1 h2 h':Heap} {a x e:Addr} {o:HO}
theorem Un.any (u:Un fs ex H H1 h h1) {b:Addr} {ob:Obj} (q:h.get? b=some ob) (n:H b=none) (hx:b∉ex):∃ sl,h1.get? b=some { ob with slots:=sl }:=by
 by_cases hb:b∈fs
 .exact u.slot b ob q n hb hx
 .exact ⟨ob.slots,u.keep b ob q n hb hx⟩
theorem Un.trans (a:Un fs ex H H1 h h1) (b:Un fs ex H1 H2 h1 h2):Un fs ex H H2 h h2 where
 keep:=fun c ob q n hc hx=>b.keep c ob (a.keep c ob q n hc hx) (a.free c ob q n hx) hc hx
 slot:=fun c ob q n hc hx=>by
  obtain ⟨sl,e1⟩:=a.slot c ob q n hc hx
  obtain ⟨sl',e2⟩:=b.slot c _ e1 (a.free c ob q n hx) hc hx
  exact ⟨sl',e2⟩
 free:=fun c ob q n hx=>by
  obtain ⟨o',e1⟩:=a.there c ob q hx
  exact b.free c o' e1 (a.free c ob q n hx) hx
 there:=fun c ob q hx=>by
  obtain ⟨o',e1⟩:=a.there c ob q hx
  exact b.there c o' e1 hx
 tups:=fun c xs q=>b.tups c xs (a.tups c xs q)
 frzs:=fun c ob xs q=>b.frzs c ob xs (a.frzs c ob xs q)
 tbls:=fun c ps q=>by
  obtain ⟨m1,e1⟩:=a.tbls c ps q
  obtain ⟨m2,e2⟩:=b.tbls c _ e1
  exact ⟨m1++m2,by rw [e2,Array.append_assoc]⟩
theorem Un.kept (k:∀ b u,h.get? b=some u->h'.get? b=some u):Un fs ex H H h h' :=
 ⟨fun b ob q _ _ _=>k b ob q,fun b ob q _ _ _=>⟨ob.slots,k b ob q⟩,fun _ _ _ n _=>n,fun b ob q _=>⟨ob,k b ob q⟩,fun _ _ q=>q,fun _ _ _ q=>q,fun _ ps q=>⟨#[],by rw [q];simp⟩⟩
theorem Un.refl:Un fs ex H H h h:=Un.kept fun _ _ q=>q
theorem Un.laid (k:∀ b u,h.get? b=some u->h'.get? b=some u) (hp:h.objs.size<=a) (hn:H a=none):Un fs ex H (upd H a o) h h' where
 keep:=fun b u q _ _ _=>k b u q
 slot:=fun b u q _ _ _=>⟨u.slots,k b u q⟩
 free:=fun b u q n _=>by rw [Zai (Nat.ne_of_lt (Nat.lt_of_lt_of_le (Heap.lt_size q) hp))];exact n
 there:=fun b u q _=>⟨u,k b u q⟩
 tups:=fun b xs q=>by rw [Zai (Zaj q hn)];exact q
 frzs:=fun b u xs q=>by rw [Zai (Zaj q hn)];exact q
 tbls:=fun b ps q=>⟨#[],by rw [Zai (Zaj q hn),q];simp⟩
theorem Un.write (mu:Mut (H x)) (he:e=x\/H e=some (.own x)) (k:∀ b u,b≠e->h.get? b=some u->h'.get? b=some u) (heo:∃ u,h'.get? e=some u):Un fs ex H (upd H x o) h h':=by
 have hx:∀ b,H b=none->b≠x:=fun b n z=>by subst z;rw [n] at mu;exact mu
 have hb:∀ b,H b=none->b≠e:=fun b n z=>by
  subst z
  rcases he with r|r
  .exact hx b n r
  .rw [n] at r;cases r
 have hm:∀ b u,H b=some u->¬ Mut (some u)->b≠x:=fun b u q nm z=>by subst z;rw [q] at mu;exact nm mu
 refine ⟨fun b u q n _ _=>k b u (hb b n) q,fun b u q n _ _=>⟨u.slots,k b u (hb b n) q⟩,fun b u q n _=>by rw [Zai (hx b n)];exact n,fun b u q _=>?_,
  fun b xs q=>by rw [Zai (hm b _ q fun z=>z)];exact q,fun b u xs q=>by rw [Zai (hm b _ q fun z=>z)];exact q,fun b ps q=>⟨#[],by rw [Zai (hm b _ q fun z=>z),q];simp⟩⟩
 by_cases hbe:b=e
 .subst hbe;exact heo
 .exact ⟨u,k b u hbe q⟩
theorem Un.mono (u:Un fs ex H H1 h h1) (hs:∀ b∈fs,b∈fs') (hx:∀ b∈ex,b∈ex'):Un fs' ex' H H1 h h1 :=
 ⟨fun b ob q n hb he=>u.keep b ob q n (fun z=>hb (hs b z)) fun z=>he (hx b z),fun _ _ q n _ he=>u.any q n fun z=>he (hx _ z),fun b ob q n he=>u.free b ob q n fun z=>he (hx b z),fun b ob q he=>u.there b ob q fun z=>he (hx b z),u.tups,u.frzs,u.tbls⟩
end
noncomputable def trk (h:Heap) (H:Hp):List Addr:=(List.range h.objs.size).filter fun a=>(H a).isSome
noncomputable def hidT (h:Heap) (H:Hp):Heap:=PySem.W.hideAll h (trk h H)
theorem ZjH (h:Heap) (H:Hp):(hidT h H).objs.size=h.objs.size:=PySem.W.hideAll_size _ _
theorem ZlB {h:Heap} {H:Hp} {b:Addr} {o:Obj} (e:h.get? b=some o) (n:H b=none):(hidT h H).get? b=some o :=
 PySem.W.hideAll_get _ e fun hm=>by
  have q:(H b).isSome=true:=(List.mem_filter.mp hm).2
  rw [n] at q;simp at q
theorem Znl {h:Heap} {H:Hp} {b:Addr} {o:Obj} (e:(hidT h H).get? b=some o):h.get? b=some o/\H b=none:=by
 have e':h.get? b=some o:=PySem.W.of_hideAll (trk h H) e
 refine ⟨e',?_⟩
 cases q:H b with
 | none=>rfl
 | some x =>
  have hm:b∈trk h H:=List.mem_filter.mpr ⟨List.mem_range.mpr (Heap.lt_size e'),by simp [q]⟩
  have z:(hidT h H).get? b=none:=PySem.W.hideAll_none (trk h H) hm
  rw [z] at e;cases e
noncomputable def Znm (g h:Heap) (L:Addr):List (Addr×Obj):=(List.range h.objs.size).filterMap fun a=>if a=L\/(g.get? a).isSome=true then none else (h.get? a).map fun o=>(a,o)
noncomputable def rest (g h:Heap) (L d:Addr):List (Addr×Obj):=(Znm g h L).filter fun p=>decide (p.1≠d)
structure Mod (K:PySem.W.Frag) (mg:Str->Option Value) (base:Heap):Prop where
 kin:K.In base
 glob:base.Ns mainGlobals mg
 blt:∃ mb,base.Ns builtinsNs mb/\∀ x:Str,x ≠ "__name__" -> mb x=bootBuiltins x
 nolimit:base.NoLimit
structure Cx where
 prog:Program
 w:World
 K:PySem.W.Frag
 mg:Str->Option Value
 base:Heap
 A:Around
 N:List Str
 s₀:Shared
 H₀:Hp
 env:Env
 outer:List Env
 stack:List Env
 ex:List Addr
 fn:Str->Bool
 calm:Bool
 pn:List (Addr×Obj)
 xe:Value->Shared->Prop
noncomputable def frs (l:List Env):List Addr:=l.filterMap (·.frame)
noncomputable abbrev Cx.fs (X:Cx):List Addr:=frs X.outer
noncomputable def Vis (sc:Scope) (x:Str):Prop:=sc.names.lookup x=some .local\/sc.names.lookup x=some .cell\/sc.names.lookup x=some .free
noncomputable def Loc (sc:Scope) (x:Str):Prop:=sc.names.lookup x=some .local\/sc.names.lookup x=some .cell
noncomputable def Look (env:Env) (h:Heap) (m:Str->Option Value) (x:Str) (u:Value):Prop :=
 (env.kindOf x=some .local/\m x=some u)\/((env.kindOf x=some .cell\/env.kindOf x=some .free)/\∃ c,env.cells.lookup x=some c/\h.IsCell c (some u))
structure Cx.Ok (X:Cx):Prop where
 mod:Mod X.K X.mg X.base
 kind:X.env.scope.kind=.function
 glob:X.env.globals=mainGlobals
 blt:X.env.builtins=builtinsNs
 above:X.s₀.heap.objs.size<=X.env.locals
 inj:∀ x y c,X.env.cells.lookup x=some c->X.env.cells.lookup y=some c->x=y
 has:∀ x,(X.env.kindOf x=some .cell\/X.env.kindOf x=some .free)->∃ c,X.env.cells.lookup x=some c
 cab:∀ x c,X.fn x=true->X.env.cells.lookup x=some c->X.s₀.heap.objs.size<=c
 hd:X.calm=true->X.A.handled=none
 frames:X.A.frames=some X.stack
 stk:X.stack=X.outer\/(X.stack=X.env::X.outer/\X.env.frame=some X.env.locals)
 exf:∀ b∈X.ex,b≠X.env.locals/\∀ x c,X.env.cells.lookup x=some c->c≠b
 bs:∀ b o,X.base.get? b=some o->X.s₀.heap.get? b=some o/\X.H₀ b=none
 bsz:X.base.objs.size<=X.s₀.heap.objs.size
 noex:∀ b o,X.base.get? b=some o->b∉X.ex
 exfs:∀ b∈X.ex,b∉X.fs
 funs:X.s₀.heap.FunFrames X.base X.outer
 frf:∀ b∈X.fs,X.H₀ b=none
structure Inv (X:Cx) (pins:List (Addr×Obj)) (σ:List (Option V)) (H:Hp) (s:Shared):Prop where
 ok:X.Ok
 os:s.os=X.s₀.os
 bare:AllBare s.gens
 base:Un X.fs X.ex X.H₀ H X.s₀.heap s.heap
 loc:∃ m,s.heap.Ns X.env.locals m/\∀ (i:Nat) (x:Str) (v:V),X.N[i]?=some x->σ[i]?=some (some v)->Vis X.env.scope x->∃ u,RelV v u/\Look X.env s.heap m x u
 cell:∀ x c,X.env.cells.lookup x=some c->∃ v,s.heap.IsCell c v
 free:H X.env.locals=none
 freeC:∀ x c,X.env.cells.lookup x=some c->H c=none
 pin:∀ p∈X.pn++pins,s.heap.get? p.1=some p.2/\H p.1=none/\p.1≠X.env.locals/\p.1∉X.fs/\∀ v,p.2.data≠.cell v
 hok:HOk X.prog X.w H s.heap
 len:σ.length=X.N.length
section
variable {X:Cx} {pins:List (Addr×Obj)} {σ:List (Option V)} {H H':Hp} {s:Shared} {h':Heap}
theorem Cx.Ok.nofr (ok:X.Ok) {b:Addr} {o:Obj} (e:X.base.get? b=some o):b∉X.fs:=fun hb=>by
 have:=(ok.funs.mem hb).1
 rw [e] at this;cases this
theorem Inv.bs (I:Inv X pins σ H s):∀ b o,X.base.get? b=some o->s.heap.get? b=some o/\H b=none:=fun b o e =>
 ⟨I.base.keep b o (I.ok.bs b o e).1 (I.ok.bs b o e).2 (I.ok.nofr e) (I.ok.noex b o e),I.base.free b o (I.ok.bs b o e).1 (I.ok.bs b o e).2 (I.ok.noex b o e)⟩
theorem Inv.bk (I:Inv X pins σ H s):∀ b o,X.base.get? b=some o->s.heap.get? b=some o:=fun b o e=>(I.bs b o e).1
theorem Inv.mod (I:Inv X pins σ H s):Mod X.K X.mg X.base:=I.ok.mod
theorem Inv.kIn (I:Inv X pins σ H s):X.K.In s.heap:=I.ok.mod.kin.keeps I.bk
theorem Inv.nolimit (I:Inv X pins σ H s):s.heap.NoLimit:=I.ok.mod.nolimit.keeps I.bk
theorem Inv.fr (I:Inv X pins σ H s):∃ m,Fr X.base X.env.locals s.heap m :=
 let ⟨m,hn,_⟩:=I.loc
 ⟨m,hn,I.bk,Nat.le_trans I.ok.bsz I.ok.above⟩
theorem Inv.lt (I:Inv X pins σ H s):X.env.locals<s.heap.objs.size:=let ⟨_,hn,_⟩:=I.loc;hn.lt
theorem Inv.sz (I:Inv X pins σ H s):X.s₀.heap.objs.size<=s.heap.objs.size:=Nat.le_trans I.ok.above (Nat.le_of_lt I.lt)
theorem Inv.nofs (I:Inv X pins σ H s) {a:Addr} (h:s.heap.objs.size<=a):a∉X.fs:=fun hb=>by
 obtain ⟨_,o,ho,_⟩:=I.ok.funs.mem hb
 exact absurd (Nat.lt_of_lt_of_le (Heap.lt_size ho) (Nat.le_trans I.sz h)) (Nat.lt_irrefl _)
theorem Inv.cne (I:Inv X pins σ H s):∀ x c,X.env.cells.lookup x=some c->c≠X.env.locals:=fun x c e z=>by
 obtain ⟨v,o,ho,hd⟩:=I.cell x c e
 obtain ⟨m,⟨o',es,ep,ho',hd',_⟩,_⟩:=I.loc
 rw [z,ho'] at ho;cases ho;rw [hd'] at hd;cases hd
theorem Inv.funs (I:Inv X pins σ H s):s.heap.FunFrames X.base X.outer:=by
 have all:∀ (l:List Env),(∀ b∈frs l,b∈X.fs)->X.s₀.heap.FunFrames X.base l->s.heap.FunFrames X.base l:=by
  intro l
  induction l with
  | nil=>intro _ _;trivial
  | cons env r ih =>
   intro hs hl
   obtain ⟨hk,⟨L,o,hf,hn,ho,hd⟩,hr⟩:=hl
   have hL:L∈X.fs:=hs L (by unfold frs;rw [List.filterMap_cons,hf];exact List.mem_cons_self)
   obtain ⟨sl,e⟩:=I.base.slot L o ho (I.ok.frf L hL) hL fun z=>I.ok.exfs L z hL
   exact ⟨hk,⟨L,_,hf,hn,e,hd⟩,ih (fun b hb=>hs b (by unfold frs;rw [List.filterMap_cons,hf];exact List.mem_cons_of_mem _ hb)) hr⟩
 exact all X.outer (fun _ hb=>hb) I.ok.funs
theorem Inv.stack (I:Inv X pins σ H s):s.heap.FunFrames X.base X.stack:=by
 rcases I.ok.stk with e|⟨e,hf⟩
 .rw [e];exact I.funs
 .rw [e]
  obtain ⟨m,hn,_⟩:=I.loc
  refine .cons (by rw [I.ok.kind];decide) hf hn ?_ I.funs
  exact Heap.get?_none_of_le (Nat.le_trans I.ok.bsz I.ok.above)
theorem Inv.stkSub (I:Inv X pins σ H s):∀ b∈frs X.stack,b∈X.env.locals::X.fs:=fun b hb=>by
 rcases I.ok.stk with e|⟨e,hf⟩
 .rw [e] at hb;exact List.mem_cons_of_mem _ hb
 .rw [e] at hb
  unfold frs at hb
  rw [List.filterMap_cons,hf] at hb
  exact hb
theorem Inv.stkFree (I:Inv X pins σ H s):∀ b∈frs X.stack,H b=none:=fun b hb=>by
 rcases List.mem_cons.mp (I.stkSub b hb) with e|hb
 .rw [e];exact I.free
 .obtain ⟨_,o,ho,_⟩:=I.ok.funs.mem hb
  exact I.base.free b o ho (I.ok.frf b hb) fun z=>I.ok.exfs b z hb
theorem Inv.step {g':Array GenState} {t':Nat} {d':Drawn} {ch:List Addr} (I:Inv X pins σ H s)
  (hch:∀ b∈ch,(b∈X.ex\/X.s₀.heap.objs.size<=b)/\b≠X.env.locals/\(∀ x c,X.env.cells.lookup x=some c->c≠b)/\∀ p∈X.pn++pins,p.1≠b)
  (keep:∀ b o,b≠X.env.locals->b∉X.fs->b∉ch->s.heap.get? b=some o->H b=none->h'.get? b=some o)
  (slot:∀ b o,b≠X.env.locals->b∈X.fs->b∉ch->s.heap.get? b=some o->H b=none->∃ sl,h'.get? b=some { o with slots:=sl }) (free:∀ b o,b∉ch->s.heap.get? b=some o->H b=none->H' b=none)
  (there:∀ b o,b∉ch->s.heap.get? b=some o->∃ o',h'.get? b=some o')
  (tups:∀ b xs,H b=some (.tup xs)->H' b=some (.tup xs)) (frzs:∀ b o u,H b=some (.frz o u)->H' b=some (.frz o u)) (tbls:∀ b ps,H b=some (.tbl ps)->∃ more,H' b=some (.tbl (ps++more)))
  (ns:∀ m,s.heap.Ns X.env.locals m->h'.Ns X.env.locals m) (hok:HOk X.prog X.w H' h') (hg:AllBare g') :
  Inv X pins σ H' { s with heap:=h',gens:=g',drawn:=d',toks:=t' }:=by
 have neL:∀ b o,X.s₀.heap.get? b=some o->b≠X.env.locals:=fun b o e=>Nat.ne_of_lt (Nat.lt_of_lt_of_le (Heap.lt_size e) I.ok.above)
 have neC:∀ b o,X.s₀.heap.get? b=some o->b∉X.ex->b∉ch:=fun b o e hx hb=>by
  rcases (hch b hb).1 with z|z
  .exact hx z
  .exact absurd (Nat.lt_of_lt_of_le (Heap.lt_size e) z) (Nat.lt_irrefl _)
 have cellK:∀ x c,X.env.cells.lookup x=some c->∀ v,s.heap.IsCell c v->h'.IsCell c v:=fun x c e v ⟨o,ho,hd⟩=>by
  have nch:c∉ch:=fun z=>(hch c z).2.2.1 x c e rfl
  by_cases hc:c∈X.fs
  .obtain ⟨sl,q⟩:=slot c o (I.cne x c e) hc nch ho (I.freeC x c e)
   exact ⟨_,q,hd⟩
  .exact ⟨o,keep c o (I.cne x c e) hc nch ho (I.freeC x c e),hd⟩
 refine ⟨I.ok,I.os,hg,⟨fun b o e n hb hx=>?_,fun b o e n hb hx=>?_,fun b o e n hx=>?_,fun b o e hx=>?_,fun b xs e=>tups b xs (I.base.tups b xs e),fun b o xs e=>frzs b o xs (I.base.frzs b o xs e),fun b ps e=>?_⟩,?_,fun x c e=>?_,?_,fun x c e=>?_,fun p hp=>?_,hok,I.len⟩
 .exact keep b o (neL b o e) hb (neC b o e hx) (I.base.keep b o e n hb hx) (I.base.free b o e n hx)
 .obtain ⟨sl,e1⟩:=I.base.slot b o e n hb hx
  obtain ⟨sl',e2⟩:=slot b _ (neL b o e) hb (neC b o e hx) e1 (I.base.free b o e n hx)
  exact ⟨sl',e2⟩
 .obtain ⟨o',e1⟩:=I.base.there b o e hx
  exact free b o' (neC b o e hx) e1 (I.base.free b o e n hx)
 .obtain ⟨o',e1⟩:=I.base.there b o e hx
  exact there b o' (neC b o e hx) e1
 .obtain ⟨m1,e1⟩:=I.base.tbls b ps e
  obtain ⟨m2,e2⟩:=tbls b _ e1
  exact ⟨m1++m2,by rw [e2,Array.append_assoc]⟩
 .obtain ⟨m,hn,hl⟩:=I.loc
  refine ⟨m,ns m hn,fun i x v e1 e2 e3=>?_⟩
  obtain ⟨u,r,l⟩:=hl i x v e1 e2 e3
  refine ⟨u,r,?_⟩
  rcases l with l|⟨k,c,e,z⟩
  .exact .inl l
  .exact .inr ⟨k,c,e,cellK x c e _ z⟩
 .obtain ⟨v,z⟩:=I.cell x c e
  exact ⟨v,cellK x c e v z⟩
 .obtain ⟨m,⟨o,_,_,ho,_⟩,_⟩:=I.loc
  exact free _ o (fun z=>(hch _ z).2.1 rfl) ho I.free
 .obtain ⟨v,o,ho,hd⟩:=I.cell x c e
  exact free c o (fun z=>(hch c z).2.2.1 x c e rfl) ho (I.freeC x c e)
 .obtain ⟨e,n,ne,nf,d⟩:=I.pin p hp
  have nch:p.1∉ch:=fun z=>(hch p.1 z).2.2.2 p hp rfl
  exact ⟨keep p.1 p.2 ne nf nch e n,free p.1 p.2 nch e n,ne,nf,d⟩
theorem Inv.un {t':Nat} (I:Inv X pins σ H s) (u:Un X.fs [] H H' s.heap h') (hok:HOk X.prog X.w H' h'):Inv X pins σ H' { s with heap:=h',toks:=t' }:=by
 obtain ⟨m,⟨o,es,ep,ho,r⟩,_⟩:=id I.loc
 obtain ⟨sl,hL⟩:=u.any ho I.free (by simp)
 exact I.step (g':=s.gens) (d':=s.drawn) (ch:=[]) (fun _ z=>nomatch z) (fun b o _ hb _ e n=>u.keep b o e n hb (by simp)) (fun b o _ hb _ e n=>u.slot b o e n hb (by simp)) (fun b o _ e n=>u.free b o e n (by simp)) (fun b o _ e=>u.there b o e (by simp)) u.tups u.frzs u.tbls (fun m' hm=>by
  obtain ⟨o',es',ep',ho',r'⟩:=hm
  rw [ho] at ho';cases ho'
  exact ⟨_,es',ep',hL,r'⟩) hok I.bare
theorem Inv.call {g':Array GenState} {t':Nat} {d':Drawn} {ch:List Addr} (I:Inv X pins σ H s) (u:Un (frs X.stack) ch H H' s.heap h') (hok:HOk X.prog X.w H' h') (hg:AllBare g')
  (hch:∀ b∈ch,(b∈X.ex\/X.s₀.heap.objs.size<=b)/\b≠X.env.locals/\(∀ x c,X.env.cells.lookup x=some c->c≠b)/\∀ p∈X.pn++pins,p.1≠b) :
  Inv X pins σ H' { s with heap:=h',gens:=g',drawn:=d',toks:=t' }:=by
 obtain ⟨m,⟨o,es,ep,ho,r⟩,_⟩:=id I.loc
 obtain ⟨sl,hL⟩:=u.any ho I.free fun z=>(hch _ z).2.1 rfl
 exact I.step (ch:=ch) hch (fun b o hL hb hc e n=>u.keep b o e n (fun z=>(List.mem_cons.mp (I.stkSub b z)).elim hL hb) hc) (fun b o _ _ hc e n=>u.any e n hc) (fun b o hc e n=>u.free b o e n hc) (fun b o hc e=>u.there b o e hc) u.tups u.frzs u.tbls (fun m' hm=>by
  obtain ⟨o',es',ep',ho',r'⟩:=hm
  rw [ho] at ho';cases ho'
  exact ⟨_,es',ep',hL,r'⟩) hok hg
theorem Inv.turned {t':Nat} {it:Addr} (I:Inv X pins σ H s) (k:∀ b o,b≠it->s.heap.get? b=some o->h'.get? b=some o) (hn:H it=none) (hL:it≠X.env.locals)
  (h1:it∈X.ex\/X.s₀.heap.objs.size<=it) (h2:∀ x c,X.env.cells.lookup x=some c->c≠it) (h3:∀ p∈X.pn++pins,p.1≠it):Inv X pins σ H { s with heap:=h',toks:=t' }:=by
 have nit:∀ b u,H b=some u->b≠it:=fun b u e z=>by rw [z,hn] at e;cases e
 refine I.step (g':=s.gens) (d':=s.drawn) (ch:=[it]) (fun b hb=>?_) (fun b o _ _ hc e _=>k b o (fun z=>hc (by simp [z])) e) (fun b o _ _ hc e _=>⟨o.slots,k b o (fun z=>hc (by simp [z])) e⟩) (fun _ _ _ _ n=>n)
  (fun b o hc e=>⟨o,k b o (fun z=>hc (by simp [z])) e⟩) (fun _ _ e=>e) (fun _ _ _ e=>e) (fun b ps e=>⟨#[],by rw [e];simp⟩) (fun m hm=>?_) (fun b u e=>?_) I.bare
 .have e:b=it:=by simpa using hb
  subst e
  exact ⟨h1,hL,h2,h3⟩
 .obtain ⟨o,es,ep,ho,r⟩:=hm
  exact ⟨o,es,ep,k _ o (Ne.symm hL) ho,r⟩
 .refine (I.hok b u e).stay (fun c v hc q=>k c v ?_ q) (fun _ q=>q) fun _ _ q=>q
  rcases hc with z|z
  .rw [z];exact nit b u e
  .exact nit c _ z
theorem Inv.tok (I:Inv X pins σ H s) (t:Nat):Inv X pins σ H { s with toks:=t }:=I.un (h':=s.heap) (t':=t) Un.refl I.hok
theorem Inv.kept {t':Nat} (I:Inv X pins σ H s) (k:∀ b u,s.heap.get? b=some u->h'.get? b=some u):Inv X pins σ H { s with heap:=h',toks:=t' }:=I.un (Un.kept k) (I.hok.kept k)
theorem Inv.laid {a:Addr} {o:HO} {t':Nat} (I:Inv X pins σ H s) (k:∀ b u,s.heap.get? b=some u->h'.get? b=some u) (hp:s.heap.objs.size<=a) (new:ObjOk X.prog X.w (upd H a o) h' a o) :
  Inv X pins σ (upd H a o) { s with heap:=h',toks:=t' }:=I.un (Un.laid k hp (I.hok.fresh hp)) (I.hok.laid k hp new)
theorem Inv.write {x e:Addr} {o:HO} {t':Nat} (I:Inv X pins σ H s) (mu:Mut (H x)) (he:e=x\/H e=some (.own x)) (k:∀ b u,b≠e->s.heap.get? b=some u->h'.get? b=some u) (heo:∃ u,h'.get? e=some u)
  (new:ObjOk X.prog X.w (upd H x o) h' x o):Inv X pins σ (upd H x o) { s with heap:=h',toks:=t' }:=I.un (Un.write mu he k heo) (I.hok.write mu he k heo new)
theorem Inv.pins_of {pins':List (Addr×Obj)} (I:Inv X pins σ H s) (h:∀ p∈pins',s.heap.get? p.1=some p.2/\H p.1=none/\p.1≠X.env.locals/\p.1∉X.fs/\∀ v,p.2.data≠.cell v):Inv X pins' σ H s :=
 ⟨I.ok,I.os,I.bare,I.base,I.loc,I.cell,I.free,I.freeC,fun p hp=>(List.mem_append.mp hp).elim (fun z=>I.pin p (List.mem_append_left _ z)) (h p),I.hok,I.len⟩
theorem Ziv {N:List Str} (hN:N.Nodup) {i j:Nat} {x:Str} (a:N[i]?=some x) (b:N[j]?=some x):i=j:=by
 obtain ⟨h1,e1⟩:=List.getElem?_eq_some_iff.mp a
 obtain ⟨h2,e2⟩:=List.getElem?_eq_some_iff.mp b
 exact (List.getElem_inj hN).mp (e1.trans e2.symm)
theorem Zge {M:Model} {A:Around} {E:Value->Shared->Prop} {i:Nat} {x:Str} {v:V} {u:Value} {Q:Unit->Shared->Prop} (I:Inv X pins σ H s) (hN:X.N.Nodup) (hi:X.N[i]?=some x) (hx:Loc X.env.scope x) (r:RelV v u)
  (h:∀ s',Inv X pins (σ.set i (some v)) H s'->(∃ a,Heap.SameBut a s.heap s'.heap/\(a=X.env.locals\/X.env.cells.lookup x=some a))->Q () s') (hf:X.fn x=true\/X.env.scope.names.lookup x=some .local:=by first|exact .inl rfl|exact .inr rfl|assumption):wpAny M A (storeName X.env x u) Q E s:=by
 obtain ⟨m,hn,hl⟩:=id I.loc
 have hcls:(X.env.scope.kind==.class||(X.env.scope.kind==.module&&X.env.locals != X.env.globals))=false:=by rw [I.ok.kind];rfl
 have hiσ:i<σ.length:=by rw [I.len];exact (List.getElem?_eq_some_iff.mp hi).1
 have cne:=I.cne
 have tracked:∀ {a:Addr} {h':Heap},(∃ o,s.heap.get? a=some o/\H a=none)->Heap.SameBut a s.heap h'->HOk X.prog X.w H h':=fun {a h'} ha hs b ob e=>by
  obtain ⟨_,_,hfree⟩:=ha
  refine (I.hok b ob e).stay (fun c w' hc q=>(hs.2 c ?_).trans q) (fun _ q=>q) fun _ _ q=>q
  rintro rfl
  rcases hc with rfl|hc
  .rw [hfree] at e;cases e
  .rw [hfree] at hc;cases hc
 rcases hx with hk|hk
 .refine wpAny_storeName_local hk hn (fun h' hn' hs=>?_) hcls
  obtain ⟨oL,_,_,hoL,_⟩:=id hn
  refine h _ ⟨I.ok,I.os,I.bare,⟨fun b o e n hb hx=>?_,fun b o e n hb hx=>?_,I.base.free,fun b o e hx=>?_,I.base.tups,I.base.frzs,I.base.tbls⟩,⟨_,hn',fun j y v' e1 e2 e3=>?_⟩,fun y c e=>?_,I.free,I.freeC,fun p hp=>?_,tracked ⟨oL,hoL,I.free⟩ hs,by simpa using I.len⟩ ⟨_,hs,.inl rfl⟩
  .exact (hs.2 b (Nat.ne_of_lt (Nat.lt_of_lt_of_le (Heap.lt_size e) I.ok.above))).trans (I.base.keep b o e n hb hx)
  .obtain ⟨sl,e1⟩:=I.base.slot b o e n hb hx
   exact ⟨sl,(hs.2 b (Nat.ne_of_lt (Nat.lt_of_lt_of_le (Heap.lt_size e) I.ok.above))).trans e1⟩
  .obtain ⟨o',e1⟩:=I.base.there b o e hx
   exact ⟨o',(hs.2 b (Nat.ne_of_lt (Nat.lt_of_lt_of_le (Heap.lt_size e) I.ok.above))).trans e1⟩
  .by_cases hj:j=i
   .subst hj
    rw [hi] at e1;cases e1
    rw [List.getElem?_set_self hiσ] at e2
    cases e2
    exact ⟨u,r,.inl ⟨hk,by simp⟩⟩
   .rw [List.getElem?_set_ne (Ne.symm hj)] at e2
    obtain ⟨u',r',q⟩:=hl j y v' e1 e2 e3
    refine ⟨u',r',?_⟩
    rcases q with ⟨k,e⟩|⟨k,c,e,z⟩
    .refine .inl ⟨k,?_⟩
     have:y≠x:=fun e=>hj (Ziv hN e1 (e▸hi))
     simp [this,e]
    .exact .inr ⟨k,c,e,z.sameBut hs (cne y c e)⟩
  .obtain ⟨w',z⟩:=I.cell y c e
   exact ⟨w',z.sameBut hs (cne y c e)⟩
  .obtain ⟨e,n,ne,nf,d⟩:=I.pin p hp
   exact ⟨(hs.2 p.1 ne).trans e,n,ne,nf,d⟩
 .have hfn:X.fn x=true:=by
   rcases hf with z|z
   .exact z
   .rw [z] at hk;cases hk
  obtain ⟨c,hc⟩:=I.ok.has x (.inl hk)
  obtain ⟨w',z⟩:=I.cell x c hc
  refine wpAny_storeName_cell I.ok.kind hk hc z (fun h' hc' hs=>?_)
  obtain ⟨oc,hoc,hocd⟩:=id z
  refine h { s with heap:=h' } ⟨I.ok,I.os,I.bare,⟨fun b o e n hb hx=>?_,fun b o e n hb hx=>?_,I.base.free,fun b o e hx=>?_,I.base.tups,I.base.frzs,I.base.tbls⟩,⟨m,hn.sameBut hs (Ne.symm (cne x c hc)),fun j y v' e1 e2 e3=>?_⟩,fun y c' e=>?_,I.free,I.freeC,fun p hp=>?_,tracked ⟨oc,hoc,I.freeC x c hc⟩ hs,by simpa using I.len⟩ ⟨c,hs,.inr hc⟩
  .exact (hs.2 b (Nat.ne_of_lt (Nat.lt_of_lt_of_le (Heap.lt_size e) (I.ok.cab x c hfn hc)))).trans (I.base.keep b o e n hb hx)
  .obtain ⟨sl,e1⟩:=I.base.slot b o e n hb hx
   exact ⟨sl,(hs.2 b (Nat.ne_of_lt (Nat.lt_of_lt_of_le (Heap.lt_size e) (I.ok.cab x c hfn hc)))).trans e1⟩
  .obtain ⟨o',e1⟩:=I.base.there b o e hx
   exact ⟨o',(hs.2 b (Nat.ne_of_lt (Nat.lt_of_lt_of_le (Heap.lt_size e) (I.ok.cab x c hfn hc)))).trans e1⟩
  .by_cases hj:j=i
   .subst hj
    rw [hi] at e1;cases e1
    rw [List.getElem?_set_self hiσ] at e2
    cases e2
    exact ⟨u,r,.inr ⟨.inl hk,c,hc,hc'⟩⟩
   .rw [List.getElem?_set_ne (Ne.symm hj)] at e2
    obtain ⟨u',r',q⟩:=hl j y v' e1 e2 e3
    refine ⟨u',r',?_⟩
    rcases q with q|⟨k,c',e,z'⟩
    .exact .inl q
    .refine .inr ⟨k,c',e,z'.sameBut hs ?_⟩
     rintro rfl
     exact hj (Ziv hN e1 (I.ok.inj _ _ _ e hc▸hi))
  .by_cases hcc:c'=c
   .subst hcc;exact ⟨_,hc'⟩
   .obtain ⟨w2,z2⟩:=I.cell y c' e
    exact ⟨w2,z2.sameBut hs hcc⟩
  .obtain ⟨e,n,ne,nf,d⟩:=I.pin p hp
   refine ⟨(hs.2 p.1 ?_).trans e,n,ne,nf,d⟩
   intro q
   rw [q,hoc] at e
   have q':oc=p.2:=Option.some.inj e
   exact d w' (by rw [<- q'];exact hocd)
theorem Ziw {M:Model} {A:Around} {E:Value->Shared->Prop} {i:Nat} {x:Str} {v:V} {u:Value} {Q:Unit->Shared->Prop} (I:Inv X pins σ H s) (hN:X.N.Nodup) (hi:X.N[i]?=some x) (hx:Loc X.env.scope x) (r:RelV v u)
  (h:∀ s',Inv X pins (σ.set i (some v)) H s'->Q () s') (hf:X.fn x=true\/X.env.scope.names.lookup x=some .local:=by first|exact .inl rfl|exact .inr rfl|assumption):wpAny M A (storeName X.env x u) Q E s :=
 Zge I hN hi hx r (fun s' I' _=>h s' I') hf
theorem Inv.call' {s':Shared} {ch:List Addr} (I:Inv X pins σ H s) (ho:s'.os=s.os) (u:Un (frs X.stack) ch H H' s.heap s'.heap) (hok:HOk X.prog X.w H' s'.heap) (hg:AllBare s'.gens)
  (hch:∀ b∈ch,(b∈X.ex\/X.s₀.heap.objs.size<=b)/\b≠X.env.locals/\(∀ x c,X.env.cells.lookup x=some c->c≠b)/\∀ p∈X.pn++pins,p.1≠b):Inv X pins σ H' s':=by
 obtain ⟨h',g',d',t',o'⟩:=s'
 have e:o'=s.os:=ho
 subst e
 exact I.call (g':=g') (t':=t') (d':=d') u hok hg hch
end
noncomputable abbrev XK:=Value->Option Addr->Hp->Prop
noncomputable abbrev St:=List (Option V)
noncomputable abbrev VK:=V->Hp->Prop
noncomputable abbrev TE:=St->Hp->VK->Prop
noncomputable abbrev TT:=St->Hp->(Bool->Hp->Prop)->Prop
noncomputable abbrev TA:=St->Hp->(List V->Hp->Prop)->Prop
structure Ends where
 nx:St->Hp->Prop
 rt:VK
 bk:St->Hp->Prop:=fun _ _=>False
 ct:St->Hp->Prop:=fun _ _=>False
noncomputable abbrev TS:=Ends->St->Hp->Prop
noncomputable def EP (X:Cx) (pins:List (Addr×Obj)) (σ:St) (Q:VK) (u:Value) (s':Shared):Prop:=∃ v H',Inv X pins σ H' s'/\RelV v u/\Q v H'
noncomputable def TP (X:Cx) (pins:List (Addr×Obj)) (σ:St) (Q:Bool->Hp->Prop) (b:Bool) (s':Shared):Prop:=∃ H',Inv X pins σ H' s'/\Q b H'
noncomputable def AP (X:Cx) (pins:List (Addr×Obj)) (σ:St) (Q:List V->Hp->Prop) (us:List Value) (s':Shared):Prop:=∃ vs H',Inv X pins σ H' s'/\Vals vs us/\Q vs H'
noncomputable def SP (X:Cx) (pins:List (Addr×Obj)) (D:Ends) (f:Flow) (s':Shared):Prop :=
 match f with
 | .next=>∃ σ' H',Inv X pins σ' H' s'/\D.nx σ' H'
 | .brk=>∃ σ' H',Inv X pins σ' H' s'/\D.bk σ' H'
 | .cont=>∃ σ' H',Inv X pins σ' H' s'/\D.ct σ' H'
 | .ret u=>∃ v σ' H',Inv X pins σ' H' s'/\RelV v u/\D.rt v H'
noncomputable def PE (X:Cx) (e:Expr) (t:TE):Prop :=
 ∀ (pins:List (Addr×Obj)) (s:Shared) (σ:St) (H:Hp) (Q:VK),Inv X pins σ H s->t σ H Q->wpAny (model X.prog X.w) X.A (eval e X.env) (EP X pins σ Q) X.xe s
noncomputable def PT (X:Cx) (e:Expr) (t:TT):Prop :=
 ∀ (pins:List (Addr×Obj)) (s:Shared) (σ:St) (H:Hp) (Q:Bool->Hp->Prop),Inv X pins σ H s->t σ H Q->wpAny (model X.prog X.w) X.A (isTrue e X.env (eval e X.env)) (TP X pins σ Q) X.xe s
noncomputable def PW (X:Cx) (e:Expr) (t:TT):Prop :=
 ∀ (whole:Sem Value) (pins:List (Addr×Obj)) (s:Shared) (σ:St) (H:Hp) (Q:Bool->Hp->Prop),Inv X pins σ H s->t σ H Q->wpAny (model X.prog X.w) X.A (isTrue e X.env whole) (TP X pins σ Q) X.xe s
theorem PW.pt {X:Cx} {e:Expr} {t:TT} (h:PW X e t):PT X e t:=h _
noncomputable def PA (X:Cx) (es:List Expr) (t:TA):Prop :=
 ∀ (pos:Pos) (pins:List (Addr×Obj)) (s:Shared) (σ:St) (H:Hp) (Q:List V->Hp->Prop),Inv X pins σ H s->t σ H Q->wpAny (model X.prog X.w) X.A (spliced (backTo pos (starEach es X.env))) (AP X pins σ Q) X.xe s
noncomputable def PS (X:Cx) (st:Stmt) (t:TS):Prop :=
 ∀ (pins:List (Addr×Obj)) (s:Shared) (σ:St) (H:Hp) (D:Ends),Inv X pins σ H s->t D σ H->wpAny (model X.prog X.w) X.A (exec st X.env) (SP X pins D) X.xe s
noncomputable def PSs (X:Cx) (st:List Stmt) (t:TS):Prop :=
 ∀ (pins:List (Addr×Obj)) (s:Shared) (σ:St) (H:Hp) (D:Ends),Inv X pins σ H s->t D σ H->wpAny (model X.prog X.w) X.A (execs st X.env) (SP X pins D) X.xe s
theorem thn {α:Type} {t:Sem α} {Q Q':α->Shared->Prop} {M:Model} {A:Around} {E:Value->Shared->Prop} {s:Shared} (h:wpAny M A t Q E s) (hQ:∀ a s,Q a s->Q' a s):wpAny M A t Q' E s:=wpAny_mono h hQ fun _ _ x=>x
section
variable {X:Cx}
theorem bin {a b:Expr} {ta tb:TE} (ha:PE X a ta) (hb:PE X b tb) {pins:List (Addr×Obj)} {s:Shared} {σ:St} {H:Hp} {R:V->V->Hp->Prop} (I:Inv X pins σ H s) (h:ta σ H fun x H1=>tb σ H1 fun y H2=>R x y H2)
  {α:Type} {Q:α->Shared->Prop} {f:Value->Value->Sem α}
  (hf:∀ v u s2 x y H2,Inv X pins σ H2 s2->RelV x v->RelV y u->R x y H2->wpAny (model X.prog X.w) X.A (f v u) Q X.xe s2) :
  wpAny (model X.prog X.w) X.A (eval a X.env) (fun v s₁=>wpAny (model X.prog X.w) X.A (eval b X.env) (fun u s₂=>wpAny (model X.prog X.w) X.A (f v u) Q X.xe s₂) X.xe s₁) X.xe s:=by
 refine thn (ha pins s σ H _ I h) fun v s1 ⟨x,H1,I1,r1,q1⟩=>?_
 refine thn (hb pins s1 σ H1 _ I1 q1) fun u s2 ⟨y,H2,I2,r2,q2⟩=>?_
 exact hf v u s2 x y H2 I2 r1 r2 q2
noncomputable def tVar (i:Nat):TE:=fun σ H Q=>∃ v,σ[i]?=some (some v)/\Q v H
noncomputable def tC (v:V):TE:=fun _ H Q=>Q v H
theorem pe_var {i:Nat} {x:Str} {pos:Pos} (hN:X.N[i]?=some x) (hv:Vis X.env.scope x) (hd:(x==("__debug__" : Str))=false:=by decide) (hcd:(x==("__classdict__" : Str))=false:=by decide):PE X (.Name x pos) (tVar i):=by
 intro pins s σ H Q I h
 obtain ⟨v,e,h⟩:=h
 obtain ⟨m,hn,hl⟩:=I.loc
 obtain ⟨u,r,l⟩:=hl i x v hN e hv
 have fin:EP X pins σ Q u s:=⟨v,H,I,r,h⟩
 rcases l with ⟨hk,hm⟩|⟨hk,c,hc,hcell⟩
 .exact wpAny_Name (wpAny_loadName_local I.ok.kind hk hn hm fin) hd
 .rcases hk with hk|hk
  .exact wpAny_Name (wpAny_loadName_cell I.ok.kind hk hc hcell fin) hd
  .exact wpAny_Name (wpAny_loadName_free I.ok.kind hk hc hcell fin hcd) hd
theorem Zae {i j pos}:PE X (.Constant (.int i) j pos) (tC (.int i)):=fun _ _ _ H _ I h=>wpAny_Constant_int ⟨.int i,H,I.tok _,⟨_,rfl⟩,h⟩
theorem Zfs {b j pos}:PE X (.Constant (.bool b) j pos) (tC (.bl b)):=fun _ _ _ H _ I h=>Constant_bool ⟨.bl b,H,I,rfl,h⟩
theorem Zcp {j pos}:PE X (.Constant .none j pos) (tC .non):=fun _ _ _ H _ I h=>Constant_none ⟨.non,H,I,rfl,h⟩
theorem Zar {x j pos}:PE X (.Constant (.str x) j pos) (tC (.str x)):=fun _ _ _ H _ I h=>Calls.Constant_str ⟨.str x,H,I.tok _,⟨_,rfl⟩,h⟩
noncomputable def Gl (X:Cx) (x:Str):Prop:=X.env.kindOf x=some .globalImplicit
theorem Zhv {E:Value->Shared->Prop} {pins:List (Addr×Obj)} {s:Shared} {σ:St} {H:Hp} {x:Str} {u:Value} {pos:Pos} {Q:Value->Shared->Prop} (I:Inv X pins σ H s) (hg:Gl X x) (hm:X.mg x=some u) (h:Q u s)
  (hd:(x==("__debug__" : Str))=false:=by decide):wpAny (model X.prog X.w) X.A (eval (.Name x pos) X.env) Q E s :=
 Calls.Name_function_global I.ok.kind hg (Calls.loadGlobal_global (by rw [I.ok.glob];exact I.mod.glob.keeps I.bk) hm h) hd
theorem Zfd {E:Value->Shared->Prop} {pins:List (Addr×Obj)} {s:Shared} {σ:St} {H:Hp} {x:Str} {u:Value} {pos:Pos} {Q:Value->Shared->Prop} (I:Inv X pins σ H s) (hg:Gl X x) (hm:X.mg x=none) (hv:bootBuiltins x=some u) (h:Q u s)
  (hn:x ≠ "__name__" := by decide) (hd:(x==("__debug__" : Str))=false:=by decide):wpAny (model X.prog X.w) X.A (eval (.Name x pos) X.env) Q E s:=by
 obtain ⟨mb,h1,h2⟩:=I.mod.blt
 exact Calls.Name_function_global I.ok.kind hg (Calls.loadGlobal_builtin (by rw [I.ok.glob];exact I.mod.glob.keeps I.bk) hm (by rw [I.ok.blt];exact h1.keeps I.bk) ((h2 x hn).trans hv) h) hd
theorem Znn {x:Str} {v:V} {u:Value} {pos:Pos} (hg:Gl X x) (hm:X.mg x=some u) (r:RelV v u) (hd:(x==("__debug__" : Str))=false:=by decide):PE X (.Name x pos) (tC v) :=
 fun _ _ _ H _ I h=>Zhv I hg hm ⟨v,H,I,r,h⟩ hd
theorem Zno {x:Str} {v:V} {u:Value} {pos:Pos} (hg:Gl X x) (hm:X.mg x=none) (hv:bootBuiltins x=some u) (r:RelV v u) (hn:x ≠ "__name__" := by decide) (hd:(x==("__debug__" : Str))=false:=by decide):PE X (.Name x pos) (tC v) :=
 fun _ _ _ H _ I h=>Zfd I hg hm hv ⟨v,H,I,r,h⟩ hn hd
noncomputable def t2I (ta tb:TE) (k:Int->Int->Hp->Prop):St->Hp->Prop:=fun σ H=>ta σ H fun x H1=>tb σ H1 fun y H2=>∃ i j,x=.int i/\y=.int j/\k i j H2
variable {a b:Expr} {ta tb:TE} {pos:Pos}
noncomputable def PC (X:Cx) (op:CmpOp) (a b:Expr) (t:TE):Prop :=
 ∀ (pins:List (Addr×Obj)) (s:Shared) (σ:St) (H:Hp) (Q:VK),Inv X pins σ H s->t σ H Q ->
  wpAny (model X.prog X.w) X.A (eval a X.env) (fun v s₁=>wpAny (model X.prog X.w) X.A (eval b X.env) (fun u s₂=>wpAny (model X.prog X.w) X.A (compareOp op v u) (EP X pins σ Q) X.xe s₂) X.xe s₁) X.xe s
theorem ZlC (b:Expr) {op:CmpOp} (h:op≠.In) (h2:op≠.NotIn):behindInMarks op b=false:=by
 have e1:(op==CmpOp.In)=false:=by cases op<;>first|rfl|exact absurd rfl h
 have e2:(op==CmpOp.NotIn)=false:=by cases op<;>first|rfl|exact absurd rfl h2
 cases b<;>simp [behindInMarks,e1,e2]
noncomputable def tCmp (p:Int->Int->Bool) (ta tb:TE):TE:=fun σ H Q=>t2I ta tb (fun i j H2=>Q (.bl (p i j)) H2) σ H
noncomputable abbrev tLt:TE->TE->TE:=tCmp fun i j=>decide (i<j)
noncomputable abbrev tLe:TE->TE->TE:=tCmp fun i j=>decide (i<=j)
noncomputable abbrev tGt:TE->TE->TE:=tCmp fun i j=>decide (j<i)
noncomputable abbrev tGe:TE->TE->TE:=tCmp fun i j=>decide (j<=i)
noncomputable abbrev tEqI:TE->TE->TE:=tCmp fun i j=>decide (i=j)
noncomputable abbrev tNeI:TE->TE->TE:=tCmp fun i j=>!decide (i=j)
noncomputable def tB (t:TE):TT:=fun σ H Q=>t σ H fun x H1=>∃ c,x=.bl c/\Q c H1
theorem pt_cmp {op:CmpOp} {t:TE} (h:PC X op a b t) (h1:behindInMarks op b=false:=by first|exact ZlC _ (by decide) (by decide)|rfl):PT X (.Compare a [op] [b] pos) (tB t):=by
 intro pins s σ H Q I hw
 refine wpAny_isTrue_Compare1 (thn (h pins s σ H _ I hw) fun v s1 h1=>thn h1 fun u s2 h2=>thn h2 fun c s3 ⟨x,H1,I1,r1,q1⟩=>?_) h1
 obtain ⟨d,rfl,q⟩:=q1
 cases r1
 exact wpAny_truthy_bool ⟨H1,I1,q⟩
theorem Zcm {e:Expr} {t:TE} (h:PE X e t) (he:∀ whole,isTrue e X.env whole=(do let v <- whole;standAt e.pos;holding [v] (truthy v)):=by intro _;rfl):PT X e (tB t):=by
 intro pins s σ H Q I hw
 refine isTrue_plain (thn (h pins s σ H _ I hw) fun v s1 ⟨x,H1,I1,r1,q1⟩=>?_) (he _)
 obtain ⟨d,rfl,q⟩:=q1
 cases r1
 exact wpAny_truthy_bool ⟨H1,I1,q⟩
variable {tA tB':TT} {rest:List Expr}
noncomputable def tAnd (t u:TT):TT:=fun σ H Q=>t σ H fun c H1=>if c=true then u σ H1 Q else Q false H1
noncomputable def tOr (t u:TT):TT:=fun σ H Q=>t σ H fun c H1=>if c=true then Q true H1 else u σ H1 Q
noncomputable def tNot (t:TT):TT:=fun σ H Q=>t σ H fun c H1=>Q (!c) H1
theorem ZjI (ha:PT X a tA):PW X (.BoolOp .And [a] pos) tA:=by
 intro wh pins s σ H Q I h
 refine isTrue_and (thn (ha pins s σ H Q I h) fun c s1 e=>?_)
 cases c with
 | true=>exact isTrue_and_nil e
 | false=>exact e
theorem Zfe (ha:PT X a tA):PW X (.BoolOp .Or [a] pos) tA:=by
 intro wh pins s σ H Q I h
 refine isTrue_or (thn (ha pins s σ H Q I h) fun c s1 e=>?_)
 cases c with
 | false=>exact isTrue_or_nil e
 | true=>exact e
theorem ZmY (ha:PT X a tA) (hb:PW X (.BoolOp .And (b::rest) pos) tB'):PW X (.BoolOp .And (a::b::rest) pos) (tAnd tA tB'):=by
 intro wh pins s σ H Q I h
 refine isTrue_and (thn (ha pins s σ H _ I h) fun c s1 ⟨H1,I1,q1⟩=>?_)
 cases c with
 | true=>exact hb wh pins s1 σ H1 Q I1 q1
 | false=>exact ⟨H1,I1,q1⟩
theorem Ze3 (ha:PT X a tA) (hb:PW X (.BoolOp .Or (b::rest) pos) tB'):PW X (.BoolOp .Or (a::b::rest) pos) (tOr tA tB'):=by
 intro wh pins s σ H Q I h
 refine isTrue_or (thn (ha pins s σ H _ I h) fun c s1 ⟨H1,I1,q1⟩=>?_)
 cases c with
 | true=>exact ⟨H1,I1,q1⟩
 | false=>exact hb wh pins s1 σ H1 Q I1 q1
theorem ZdT (ha:PT X a tA):PT X (.UnaryOp .Not a pos) (tNot tA):=by
 intro pins s σ H Q I h
 exact isTrue_not (ha pins s σ H (fun c H1=>Q (!c) H1) I h)
noncomputable def tAndV (ta tb:TE):TE:=fun σ H Q=>ta σ H fun x H1=>∃ c,x=.bl c/\if c=true then tb σ H1 Q else Q (.bl false) H1
noncomputable def tOrV (ta tb:TE):TE:=fun σ H Q=>ta σ H fun x H1=>∃ c,x=.bl c/\if c=true then Q (.bl true) H1 else tb σ H1 Q
noncomputable def tNotV (ta:TE):TE:=fun σ H Q=>ta σ H fun x H1=>∃ c,x=.bl c/\Q (.bl (!c)) H1
theorem Zgf {op} {t:TE} (h:PE X a t):PE X (.BoolOp op [a] pos) t:=fun pins s σ H Q I hw=>BoolOp_one (h pins s σ H Q I hw)
theorem ZjJ (ha:PE X a ta) (hb:PE X (.BoolOp .And (b::rest) pos) tb):PE X (.BoolOp .And (a::b::rest) pos) (tAndV ta tb):=by
 intro pins s σ H Q I h
 refine BoolOp_and (thn (ha pins s σ H _ I h) fun v s1 ⟨x,H1,I1,r1,q1⟩=>?_)
 obtain ⟨c,rfl,q1⟩:=q1
 cases r1
 refine wpAny_truthy_bool ?_
 cases c with
 | true=>exact hb pins s1 σ H1 Q I1 q1
 | false=>exact ⟨.bl false,H1,I1,rfl,q1⟩
theorem pe_or (ha:PE X a ta) (hb:PE X (.BoolOp .Or (b::rest) pos) tb):PE X (.BoolOp .Or (a::b::rest) pos) (tOrV ta tb):=by
 intro pins s σ H Q I h
 refine BoolOp_or (thn (ha pins s σ H _ I h) fun v s1 ⟨x,H1,I1,r1,q1⟩=>?_)
 obtain ⟨c,rfl,q1⟩:=q1
 cases r1
 refine wpAny_truthy_bool ?_
 cases c with
 | false=>exact hb pins s1 σ H1 Q I1 q1
 | true=>exact ⟨.bl true,H1,I1,rfl,q1⟩
theorem pe_not (ha:PE X a ta):PE X (.UnaryOp .Not a pos) (tNotV ta):=by
 intro pins s σ H Q I h
 refine UnaryOp_ (thn (ha pins s σ H _ I h) fun v s1 ⟨x,H1,I1,r1,q1⟩=>?_)
 obtain ⟨c,rfl,q1⟩:=q1
 cases r1
 exact not_of (wpAny_truthy_bool ⟨.bl (!c),H1,I1,rfl,q1⟩)
noncomputable def tIf (t:TT) (ta tb:TE):TE:=fun σ H Q=>t σ H fun c H1=>if c=true then ta σ H1 Q else tb σ H1 Q
theorem Zd6 {c:Expr} (hc:PT X c tA) (ha:PE X a ta) (hb:PE X b tb):PE X (.IfExp c a b pos) (tIf tA ta tb):=by
 intro pins s σ H Q I h
 refine wpAny_IfExp (thn (hc pins s σ H _ I h) fun d s1 ⟨H1,I1,q1⟩=>?_)
 cases d with
 | true=>exact ha pins s1 σ H1 Q I1 q1
 | false=>exact hb pins s1 σ H1 Q I1 q1
end
noncomputable def SqL (K:PySem.W.Frag) (H:Hp) (a:Addr) (xs:List V):Prop :=
 Rd H a (.lst xs) \/
  ∃ (o:Obj) (its:Array Value) (n:Nat),K.lookup a=some o/\o.cls=.type "list" /\ o.dict=none/\o.data=.seq its n/\its.size<=sizeLine/\Vals xs its.toList
noncomputable def SqT (K:PySem.W.Frag) (H:Hp) (a:Addr) (xs:List V):Prop :=
 Rd H a (.tup xs) \/
  ∃ (o:Obj) (its:Array Value) (n:Nat),K.lookup a=some o/\o.cls=.type "tuple" /\ o.data=.seq its n/\its.size<=sizeLine/\Vals xs its.toList
noncomputable def absV:Value->Option V
 | .none=>some .non
 | .bool b=>some (.bl b)
 | .int i _=>some (.int i)
 | .str x _=>some (.str x)
 | .bytes b _=>some (.byt b)
 | .float b _=>some (.flt b)
 | .ref a=>some (.ref a)
 | .type n=>some (.ty n)
 | _=>none
theorem RelV.abs {x:V} {u:Value} (r:RelV x u):absV u=some x:=by
 cases x with
 | non=>cases r;rfl
 | bl _=>cases r;rfl
 | int _=>obtain ⟨t,rfl⟩:=r;rfl
 | str _=>obtain ⟨t,rfl⟩:=r;rfl
 | byt _=>obtain ⟨t,rfl⟩:=r;rfl
 | flt _=>obtain ⟨t,rfl⟩:=r;rfl
 | ref _=>cases r;rfl
 | ty _=>cases r;rfl
theorem RelV.inj {x y:V} {u:Value} (r:RelV x u) (q:RelV y u):x=y:=Option.some.inj (r.abs.symm.trans q.abs)
theorem Vals.inj:∀ {xs ys:List V} {us:List Value},Vals xs us->Vals ys us->xs=ys
 | _,_,_,.nil,.nil=>rfl
 | _,_,_,.cons r t,.cons r' t'=>by rw [r.inj r',Vals.inj t t']
section
variable {X:Cx} {pins:List (Addr×Obj)} {σ:St} {H:Hp} {s:Shared} {a:Addr} {xs ys:List V}
theorem SqL.of {K:PySem.W.Frag} (h:H a=some (.lst xs)):SqL K H a xs:=.inl (.inl h)
theorem SqT.of {K:PySem.W.Frag} (h:H a=some (.tup xs)):SqT K H a xs:=.inl (.inl h)
theorem Inv.list (I:Inv X pins σ H s) (h:SqL X.K H a xs):∃ its:List Value,Vals xs its/\PlainL s.heap a its.toArray/\xs.length<=sizeLine:=by
 rcases h with h|⟨o,its,n,hk,hc,hd,hs,hz,r⟩
 .obtain ⟨z,its,n,r,e⟩:=h.ok I.hok
  exact ⟨its,r,⟨_,n,e,rfl,rfl,rfl⟩,z⟩
 .refine ⟨its.toList,r,⟨o,n,I.kIn a o hk,hc,hd,by simpa using hs⟩,?_⟩
  have e:=r.length
  simp only [Array.length_toList] at e
  omega
theorem Inv.tuple (I:Inv X pins σ H s) (h:SqT X.K H a xs):∃ its:List Value,Vals xs its/\IsTup s.heap a its.toArray/\xs.length<=sizeLine:=by
 rcases h with h|⟨o,its,n,hk,hc,hs,hz,r⟩
 .obtain ⟨z,its,r,p⟩:=h.ok I.hok
  exact ⟨its,r,p,z⟩
 .refine ⟨its.toList,r,⟨o,I.kIn a o hk,hc,n,by simpa using hs⟩,?_⟩
  have e:=r.length
  simp only [Array.length_toList] at e
  omega
theorem Inv.list_inj (I:Inv X pins σ H s) (h:SqL X.K H a xs) (h':SqL X.K H a ys):xs=ys:=by
 obtain ⟨its,r,⟨o,n,e,_,_,d⟩,_⟩:=I.list h
 obtain ⟨its',r',⟨o',n',e',_,_,d'⟩,_⟩:=I.list h'
 rw [e] at e';cases e'
 rw [d] at d'
 injection d' with d1 _
 have:its=its':=by simpa using congrArg Array.toList d1
 subst this
 exact r.inj r'
theorem Inv.tuple_inj (I:Inv X pins σ H s) (h:SqT X.K H a xs) (h':SqT X.K H a ys):xs=ys:=by
 obtain ⟨its,r,⟨o,e,_,n,d⟩,_⟩:=I.tuple h
 obtain ⟨its',r',⟨o',e',_,n',d'⟩,_⟩:=I.tuple h'
 rw [e] at e';cases e'
 rw [d] at d'
 injection d' with d1 _
 have:its=its':=by simpa using congrArg Array.toList d1
 subst this
 exact r.inj r'
end
noncomputable abbrev Cx.wish (X:Cx) (E:Value->Shared->Prop):Cx:={ X with xe:=E }
noncomputable abbrev Cx.nox (X:Cx):Cx:=X.wish fun _ _=>False
theorem Cx.Ok.wish {X:Cx} (ok:X.Ok) (E:Value->Shared->Prop):(X.wish E).Ok :=
 ⟨ok.mod,ok.kind,ok.glob,ok.blt,ok.above,ok.inj,ok.has,ok.cab,ok.hd,ok.frames,ok.stk,ok.exf,ok.bs,ok.bsz,ok.noex,ok.exfs,ok.funs,ok.frf⟩
theorem Cx.Ok.unwish {X:Cx} {E:Value->Shared->Prop} (ok:(X.wish E).Ok):X.Ok :=
 ⟨ok.mod,ok.kind,ok.glob,ok.blt,ok.above,ok.inj,ok.has,ok.cab,ok.hd,ok.frames,ok.stk,ok.exf,ok.bs,ok.bsz,ok.noex,ok.exfs,ok.funs,ok.frf⟩
section
variable {X:Cx} {pins:List (Addr×Obj)} {σ:St} {H:Hp} {s:Shared} {E:Value->Shared->Prop}
theorem Inv.wish (I:Inv X pins σ H s) (E:Value->Shared->Prop):Inv (X.wish E) pins σ H s:=⟨I.ok.wish E,I.os,I.bare,I.base,I.loc,I.cell,I.free,I.freeC,I.pin,I.hok,I.len⟩
theorem Inv.unwish (I:Inv (X.wish E) pins σ H s):Inv X pins σ H s:=⟨I.ok.unwish,I.os,I.bare,I.base,I.loc,I.cell,I.free,I.freeC,I.pin,I.hok,I.len⟩
theorem SP.unwish {D:Ends} {f:Flow} {s':Shared} (h:SP (X.wish E) pins D f s'):SP X pins D f s':=by
 cases f with
 | next=>obtain ⟨σ',H',I,q⟩:=h;exact ⟨σ',H',I.unwish,q⟩
 | brk=>obtain ⟨σ',H',I,q⟩:=h;exact ⟨σ',H',I.unwish,q⟩
 | cont=>obtain ⟨σ',H',I,q⟩:=h;exact ⟨σ',H',I.unwish,q⟩
 | ret u=>obtain ⟨v,σ',H',I,r,q⟩:=h;exact ⟨v,σ',H',I.unwish,r,q⟩
theorem PE.nox {e:Expr} {t:TE} (h:PE X.nox e t):PE X e t:=fun pins s σ H Q I hw =>
 wpAny_mono (h pins s σ H Q (I.wish _) hw) (fun _ _ ⟨v,H',I',r,q⟩=>⟨v,H',I'.unwish,r,q⟩) fun _ _ z=>False.elim z
theorem PT.nox {e:Expr} {t:TT} (h:PT X.nox e t):PT X e t:=fun pins s σ H Q I hw =>
 wpAny_mono (h pins s σ H Q (I.wish _) hw) (fun _ _ ⟨H',I',q⟩=>⟨H',I'.unwish,q⟩) fun _ _ z=>False.elim z
theorem PSs.nox {st:List Stmt} {t:TS} (h:PSs X.nox st t):PSs X st t:=fun pins s σ H D I hw =>
 wpAny_mono (h pins s σ H D (I.wish _) hw) (fun _ _ q=>q.unwish) fun _ _ z=>False.elim z
end
section
variable {X:Cx} {st:Stmt} {rest:List Stmt} {t u:TS} {e:Expr} {te:TE} {pos:Pos}
noncomputable def tNext:TS:=fun D σ H=>D.nx σ H
noncomputable def tSeq (t u:TS):TS:=fun D σ H=>t { D with nx:=u D } σ H
theorem ZaJ:PSs X [] tNext:=fun _ _ σ H _ I h=>wpAny_execs_nil ⟨σ,H,I,h⟩
theorem Zad (h1:PS X st t) (h2:PSs X rest u):PSs X (st::rest) (tSeq t u):=by
 intro pins s σ H D I h
 refine wpAny_execs_cons (thn (h1 pins s σ H { D with nx:=u D } I h) fun f s1 q=>?_)
 cases f with
 | next =>
  obtain ⟨σ',H',I',q⟩:=q
  exact h2 pins s1 σ' H' D I' q
 | ret v=>exact q
 | brk=>exact q
 | cont=>exact q
theorem Zaf (h1:PS X st t):PSs X [st] t:=by
 intro pins s σ H D I h
 refine wpAny_execs_cons (thn (h1 pins s σ H D I h) fun f s1 q=>?_)
 cases f with
 | next=>exact wpAny_execs_nil q
 | ret v=>exact q
 | brk=>exact q
 | cont=>exact q
theorem ZjK:PS X (.Pass pos) tNext:=fun _ _ σ H _ I h=>wpAny_Pass ⟨σ,H,I,h⟩
theorem Inv.quiet {pins:List (Addr×Obj)} {σ:St} {H:Hp} {s:Shared} (I:Inv X pins σ H s):interactive X.env=false:=by simp [interactive,I.ok.kind]
noncomputable def tDrop (te:TE):TS:=fun D σ H=>te σ H fun _ H1=>D.nx σ H1
theorem Zax (he:PE X e te) (hs:swapsWith e none pos.line X.env=pure false:=by rfl):PS X (.Expr e pos) (tDrop te):=by
 intro pins s σ H D I h
 exact wpAny_Expr_any (thn (he pins s σ H _ I h) fun v s1 ⟨x,H1,I1,r1,q1⟩=>⟨σ,H1,I1,q1⟩) I.quiet hs
noncomputable def tRet (te:TE):TS:=fun D σ H=>te σ H D.rt
theorem Zap (he:PE X e te):PS X (.Return (some e) pos) (tRet te):=by
 intro pins s σ H D I h
 exact wpAny_Return_some (thn (he pins s σ H _ I h) fun v s1 ⟨x,H1,I1,r1,q1⟩=>⟨x,σ,H1,I1,r1,q1⟩)
noncomputable def tRetN:TS:=fun D _ H=>D.rt .non H
theorem Znp:PS X (.Return none pos) tRetN:=fun _ _ σ H _ I h=>wpAny_Return_none ⟨.non,σ,H,I,rfl,h⟩
noncomputable def tIfS (c:TT) (t u:TS):TS:=fun D σ H=>c σ H fun b H1=>if b=true then t D σ H1 else u D σ H1
theorem Zbd {c:Expr} {a b:List Stmt} {tc:TT} (hc:PT X c tc) (ha:PSs X a t) (hb:PSs X b u):PS X (.If c a b pos) (tIfS tc t u):=by
 intro pins s σ H D I h
 refine wpAny_If (thn (hc pins s σ H _ I h) fun d s1 ⟨H1,I1,q1⟩=>?_)
 cases d with
 | true=>exact ha pins s1 σ H1 D I1 q1
 | false=>exact hb pins s1 σ H1 D I1 q1
end
noncomputable abbrev TG:=V->St->Hp->(St->Hp->Prop)->Prop
noncomputable abbrev TGs:=List V->St->Hp->(St->Hp->Prop)->Prop
noncomputable def PG (X:Cx) (target:Expr) (t:TG):Prop :=
 ∀ (pins:List (Addr×Obj)) (s:Shared) (σ:St) (H:Hp) (v:V) (u:Value) (Q:St->Hp->Prop),Inv X pins σ H s->RelV v u->t v σ H Q ->
  wpAny (model X.prog X.w) X.A (assign target X.env u) (fun _ s'=>∃ σ' H',Inv X pins σ' H' s'/\Q σ' H') X.xe s
noncomputable abbrev TSet:=V->V->V->Hp->(Hp->Prop)->Prop
noncomputable def PSet (X:Cx) (t:TSet):Prop :=
 ∀ (pins:List (Addr×Obj)) (s:Shared) (σ:St) (H:Hp) (o i v:V) (ov iv u:Value) (Q:Hp->Prop),Inv X pins σ H s->RelV o ov->RelV i iv->RelV v u->t o i v H Q ->
  wpAny (model X.prog X.w) X.A (setItem ov iv u) (fun _ s'=>∃ H',Inv X pins σ H' s'/\Q H') X.xe s
noncomputable abbrev TIp:=V->V->Hp->VK->Prop
section
variable {X:Cx} {pos:Pos}
noncomputable def gName (i:Nat):TG:=fun v σ H Q=>Q (σ.set i (some v)) H
theorem ZbV {i:Nat} {x:Str} (hN:X.N.Nodup) (hi:X.N[i]?=some x) (hx:Loc X.env.scope x) (hf:X.fn x=true\/X.env.scope.names.lookup x=some .local:=by first|exact .inl rfl|exact .inr rfl|assumption):PG X (.Name x pos) (gName i):=by
 intro pins s σ H v u Q I r h
 exact wpAny_assign_Name (Ziw I hN hi hx r (fun s' I'=>⟨_,H,I',h⟩) hf)
noncomputable def gSub (to ti:TE) (t:TSet):TG:=fun v σ H Q=>to σ H fun o H1=>ti σ H1 fun i H2=>t o i v H2 fun H3=>Q σ H3
theorem Zgg {o i:Expr} {to ti:TE} {t:TSet} (ho:PE X o to) (hi:PE X i ti) (hs:PSet X t)
  (ha:∀ v,assign (.Subscript o i pos) X.env v=(do
   let ov <- holding [v] (eval o X.env)
   let iv <- holding [v,ov] (eval i X.env)
   standAt pos
   holding [v,ov,iv] (setItem ov iv v)
   release [v,ov,iv] []):=by intro _;rfl):PG X (.Subscript o i pos) (gSub to ti t):=by
 intro pins s σ H v u Q I r h
 rw [ha]
 refine wpAny_bind (wpAny_holding (thn (ho pins s σ H _ I h) fun ov s1 ⟨x,H1,I1,r1,q1⟩=>?_))
 refine wpAny_bind (wpAny_holding (thn (hi pins s1 σ H1 _ I1 q1) fun iv s2 ⟨y,H2,I2,r2,q2⟩=>?_))
 refine wpAny_bind (wpAny_standAt (wpAny_bind (wpAny_holding (thn (hs pins s2 σ H2 x y v ov iv u _ I2 r1 r2 r q2) fun _ s3 ⟨H3,I3,q3⟩=>?_))))
 exact wpAny_release ⟨σ,H3,I3,q3⟩
noncomputable def tAsg (te:TE) (g:TG):TS:=fun D σ H=>te σ H fun x H1=>g x σ H1 D.nx
theorem Zgh {tg e:Expr} {te:TE} {g:TG} (he:PE X e te) (hg:PG X tg g) (hs:swapsWithSole [tg] e pos.line X.env=pure false:=by rfl) (hw:swappedStores [tg] e X.env=pure none:=by rfl)
  (h1:(assignEach [tg] X.env).map (·.2)=[assign tg X.env]:=by rfl):PS X (.Assign [tg] e pos) (tAsg te g):=by
 intro pins s σ H D I h
 refine wpAny_Assign_stores (thn (he pins s σ H _ I h) fun v s1 ⟨x,H1,I1,r1,q1⟩=>?_) hs hw
 rw [h1]
 exact thn (hg pins s1 σ H1 x v _ I1 r1 q1) fun _ s2 q=>q
theorem ZaF {i:Nat} {x:Str} {e:Expr} {te:TE} {pos':Pos} (hN:X.N.Nodup) (hi:X.N[i]?=some x) (hx:Loc X.env.scope x) (he:PE X e te) (hs:swapsWith e (some (.Name x pos')) pos.line X.env=pure false:=by rfl) (hf:X.fn x=true\/X.env.scope.names.lookup x=some .local:=by first|exact .inl rfl|exact .inr rfl|assumption) :
  PS X (.Assign [.Name x pos'] e pos) (tAsg te (gName i)):=by
 intro pins s σ H D I h
 refine wpAny_Assign_Name (thn (he pins s σ H _ I h) fun v s1 ⟨y,H1,I1,r1,q1⟩=>?_) hs
 exact Ziw I1 hN hi hx r1 (fun s2 I2=>⟨_,H1,I2,q1⟩) hf
end
section
variable {X:Cx} {pos:Pos}
noncomputable def tWhile (c:TT) (tb:TS):TS:=fun D σ H=>∃ W:Nat->St->Hp->Prop,(∃ m,W m σ H)/\∀ m σ H,W m σ H ->
 c σ H fun b H1=>if b=true then ∃ N:St->Hp->Prop,(∀ σ' H',N σ' H'->∃ m',m'<m/\W m' σ' H')/\tb { D with nx:=N,ct:=N,bk:=D.nx } σ H1 else D.nx σ H1
theorem Zix {c:Expr} {body:List Stmt} {tc:TT} {tb:TS} (hp:PassesOwn (model X.prog X.w) X.A X.env X.xe) (hc:PT X c tc) (hb:PSs X body tb):PS X (.While c body [] pos) (tWhile tc tb):=by
 intro pins s σ H D I h
 obtain ⟨W,⟨m0,w0⟩,turn⟩:=h
 refine wpAny_While (codeAny_whileLoop (fun n s'=>∃ σ' H',Inv X pins σ' H' s'/\W n σ' H') ?_ m0 ⟨σ,H,I,w0⟩)
 rintro n s1 ⟨σ1,H1,I1,w1⟩
 refine wpAny_passesOwn hp (thn (hc pins s1 σ1 H1 _ I1 (turn n σ1 H1 w1)) fun b s2 ⟨H2,I2,q2⟩=>?_)
 cases b with
 | true =>
  obtain ⟨N,hN,q2⟩:=q2
  rw [if_pos rfl]
  refine wpAny_passesOwn hp (thn (hb pins s2 σ1 H2 _ I2 q2) fun f s3 q3=>?_)
  cases f with
  | next =>
   obtain ⟨σ3,H3,I3,n3⟩:=q3
   obtain ⟨m',hm,w3⟩:=hN σ3 H3 n3
   exact ⟨m',hm,σ3,H3,I3,w3⟩
  | cont =>
   obtain ⟨σ3,H3,I3,n3⟩:=q3
   obtain ⟨m',hm,w3⟩:=hN σ3 H3 n3
   exact ⟨m',hm,σ3,H3,I3,w3⟩
  | brk=>exact q3
  | ret v=>exact q3
 | false =>
  rw [if_neg Bool.false_ne_true]
  exact wpAny_execs_nil ⟨σ1,H2,I2,q2⟩
end
structure It where
 go:Nat->Hp->Prop
 yld:Nat->Hp->V->Hp->Prop
 stop:Nat->Hp->Prop
noncomputable def FpOk (X:Cx) (pins:List (Addr×Obj)) (H:Hp) (b:Addr):Prop :=
 H b=none/\b≠X.env.locals/\b∉X.fs/\(b∈X.ex\/X.s₀.heap.objs.size<=b)/\(∀ x c,X.env.cells.lookup x=some c->c≠b)/\∀ p∈X.pn++pins,p.1≠b
theorem Inv.fpOk {X:Cx} {pins:List (Addr×Obj)} {σ:St} {H H':Hp} {s:Shared} {b:Addr} (I:Inv X pins σ H s) (hb:s.heap.objs.size<=b) (hn:H' b=none):FpOk X pins H' b:=by
 refine ⟨hn,Nat.ne_of_gt (Nat.lt_of_lt_of_le I.lt hb),I.nofs hb,.inr (Nat.le_trans I.sz hb),fun x c e z=>?_,fun p hp z=>?_⟩
 .obtain ⟨v,q⟩:=I.cell x c e
  exact absurd (Nat.lt_of_lt_of_le q.lt (by rw [z];exact hb)) (Nat.lt_irrefl _)
 .exact absurd (Nat.lt_of_lt_of_le (Heap.lt_size (I.pin p hp).1) (by rw [z];exact hb)) (Nat.lt_irrefl _)
structure Turn (P:Program) (w:World) (K:PySem.W.Frag) (tg:Expr) (J:It) (fp:List Addr) (it:Addr) (tn:Nat->Heap->Prop):Prop where
 mem:it∈fp
 obj:∀ i h,tn i h->∀ b∈fp,∃ o,h.get? b=some o/\∀ v,o.data≠.cell v
 keep:∀ i h h',tn i h->(∀ b∈fp,∀ o,h.get? b=some o->h'.get? b=some o)->tn i h'
 item:∀ (X:Cx),X.prog=P->X.w=w->X.K=K->X.calm=true->∀ (i:Nat) (pins:List (Addr×Obj)) (s:Shared) (σ:St) (H:Hp) (E:Value->Shared->Prop),Inv X pins σ H s->(∀ b∈fp,FpOk X pins H b)->tn i s.heap->J.go i H ->
  wpAny (model P w) X.A (pyNext (.ref it)) (fun r s1=>∃ u,r=some u /\
   wpAny (model P w) X.A (letOwnedTupleGo tg (.ref it) u) (fun _ s2=>∃ x H',Inv X pins σ H' s2/\RelV x u/\J.yld i H x H'/\tn (i+1) s2.heap/\∀ b∈fp,H' b=none) E s1) E s
 done:∀ (X:Cx),X.prog=P->X.w=w->X.K=K->X.calm=true->∀ (i:Nat) (pins:List (Addr×Obj)) (s:Shared) (σ:St) (H:Hp) (E:Value->Shared->Prop),Inv X pins σ H s->(∀ b∈fp,FpOk X pins H b)->tn i s.heap->J.stop i H ->
  wpAny (model P w) X.A (pyNext (.ref it)) (fun r s1=>r=none/\Inv X pins σ H s1) E s
 self:∀ (A:Around) (i:Nat) (s:Shared) (Q:Value->Shared->Prop) (E:Value->Shared->Prop),tn i s.heap->Q (.ref it) s->wpAny (model P w) A (pyIter (.ref it)) Q E s
noncomputable abbrev TI:=St->Hp->(It->Hp->Prop)->Prop
noncomputable def PIE (X:Cx) (pins:List (Addr×Obj)) (σ:St) (tg:Expr) (R:It->Hp->Prop) (itv:Value) (s2:Shared):Prop :=
 ∃ (it:Addr) (fp:List Addr) (tn:Nat->Heap->Prop) (J:It) (H':Hp),itv=.ref it/\Inv X pins σ H' s2/\Turn X.prog X.w X.K tg J fp it tn/\tn 0 s2.heap/\(∀ b∈fp,FpOk X pins H' b)/\R J H'
noncomputable def PI (X:Cx) (tg iter:Expr) (wi:TI):Prop :=
 ∀ (pins:List (Addr×Obj)) (s:Shared) (σ:St) (H:Hp) (R:It->Hp->Prop),Inv X pins σ H s->wi σ H R ->
  wpAny (model X.prog X.w) X.A (eval iter X.env) (fun v s1=>wpAny (model X.prog X.w) X.A (pyIter v) (PIE X pins σ tg R) X.xe s1) X.xe s
theorem go_of {M:Model} {A:Around} {E:Value->Shared->Prop} {s:Shared} {tg:Expr} {it:Addr} {u:Value} {o:Obj} {n:String} {vs:Array Value} {Q:Unit->Shared->Prop} (ho:s.heap.get? it=some o) (hc:o.cls=.type n) (hd:o.data=.fields vs)
  (hn:["enumerate", "zip", "dict_itemiterator", "dict_reverseitemiterator", "odict_iterator", "itertools.zip_longest", "itertools.pairwise"].contains n=false) (hQ:Q () s):wpAny M A (letOwnedTupleGo tg (.ref it) u) Q E s:=by
 unfold letOwnedTupleGo
 cases tg<;>first
  | exact wpAny_pure hQ
  | (cases u<;>first
    | exact wpAny_pure hQ
    | (refine wpAny_bind (wpAny_load ho ?_)
       rw [hc,hd]
       show wpAny M A (if (["enumerate", "zip", "dict_itemiterator", "dict_reverseitemiterator", "odict_iterator", "itertools.zip_longest", "itertools.pairwise"].contains n&&vs[0]?==some (rawInt _))=true then _ else _) Q E s
       rw [if_neg (by intro h;rw [hn,Bool.false_and] at h;cases h)]
       exact wpAny_pure hQ))
noncomputable def Itl (K:PySem.W.Frag) (a:Addr):It :=
 ⟨fun i H=>∃ xs x,SqL K H a xs/\xs[i]?=some x,fun i H x H'=>H'=H/\∀ xs,SqL K H a xs->xs[i]?=some x,fun i H=>∃ xs,SqL K H a xs/\xs.length<=i⟩
noncomputable def Itr (lo:Int) (n:Nat):It:=⟨fun i _=>i<n,fun i H x H'=>H'=H/\x=.int (lo+i),fun i _=>n<=i⟩
theorem ZjL {P:Program} {w:World} {K:PySem.W.Frag} {tg:Expr} (a it:Addr):Turn P w K tg (Itl K a) [it] it (fun i h=>h.IsListIter it a i) where
 mem:=by simp
 obj:=fun i h st b hb=>by
  have e:b=it:=by simpa using hb
  subst e
  obtain ⟨o,e,c,d⟩:=st
  exact ⟨o,e,fun v z=>by rw [d] at z;cases z⟩
 keep:=fun i h h' st k=>st.at fun o e=>k it (by simp) o e
 item:=by
  intro X hP hw hK hc i pins s σ H E I hf st hg
  subst hP hw hK
  obtain ⟨xs,x,hq,hx⟩:=hg
  obtain ⟨its,rv,p,hz⟩:=I.list hq
  obtain ⟨u,hu,ru⟩:=rv.get hx
  obtain ⟨f0,f1,f2,f3,f4,f5⟩:=hf it (by simp)
  refine wpAny_pyNext_list_item st p.isList (x:=u) (by simpa using hu) fun h' st' sb=>?_
  have I1:Inv X pins σ H { s with heap:=h' }:=I.turned (t':=s.toks) (fun b o hb e=>(sb.2 b hb).trans e) f0 f1 f3 f4 f5
  obtain ⟨o,e,c,d⟩:=id st'
  exact ⟨u,rfl,go_of (s:={ s with heap:=h' }) e c d (by decide) ⟨x,H,I1,ru,⟨rfl,fun ys hy=>by rw [I.list_inj hy hq];exact hx⟩,st',fun b hb=>(hf b hb).1⟩⟩
 done:=by
  intro X hP hw hK hc i pins s σ H E I hf st hg
  subst hP hw hK
  obtain ⟨xs,hq,hx⟩:=hg
  obtain ⟨its,rv,p,hz⟩:=I.list hq
  obtain ⟨f0,f1,f2,f3,f4,f5⟩:=hf it (by simp)
  have hl:=rv.length
  exact wpAny_pyNext_list_end (I.ok.hd hc) st p.isList (by simp;omega) fun h' eb=>⟨rfl,I.turned (t':=s.toks) (fun b o hb e=>eb b o hb e) f0 f1 f3 f4 f5⟩
 self:=fun _ _ _ _ _ st h=>wpAny_pyIter_listiter st h
theorem Zi7 {P:Program} {w:World} {K:PySem.W.Frag} {tg:Expr} (it:Addr) (lo:Int) (n:Nat):Turn P w K tg (Itr lo n) [it] it (fun i h=>IsRangeIter h it (lo+(i:Nat)*1) ((n:Int)-(i:Nat)) 1) where
 mem:=by simp
 obj:=fun i h st b hb=>by
  have e:b=it:=by simpa using hb
  subst e
  exact ⟨_,st,fun v z=>by
   have z':Data.fields _=Data.cell v:=z
   cases z'⟩
 keep:=fun i h h' st k=>k it (by simp) _ st
 item:=by
  intro X hP hw hK hc i pins s σ H E I hf st hg
  subst hP hw hK
  obtain ⟨f0,f1,f2,f3,f4,f5⟩:=hf it (by simp)
  have W:=Walks.range (prog:=X.prog) (w:=X.w) (I.ok.hd hc) it lo 1 n
  refine W.item i s _ _ hg st fun v h' tk hv st' kk=>?_
  obtain ⟨t,rfl⟩:=hv
  have I1:Inv X pins σ H { s with heap:=h',toks:=tk }:=I.turned (fun b o hb e=>kk b o (by simpa using hb) e) f0 f1 f3 f4 f5
  refine ⟨_,rfl,go_of (s:={ s with heap:=h',toks:=tk }) (n := "range_iterator") st' rfl rfl (by decide) ⟨.int (lo+i),H,I1,⟨t,?_⟩,⟨rfl,rfl⟩,st',fun b hb=>(hf b hb).1⟩⟩
  rw [Int.mul_one]
 done:=by
  intro X hP hw hK hc i pins s σ H E I hf st hg
  subst hP hw hK
  obtain ⟨f0,f1,f2,f3,f4,f5⟩:=hf it (by simp)
  exact wpAny_pyNext_range_end (I.ok.hd hc) st (by have:n<=i:=hg;omega) fun h' eb=>⟨rfl,I.turned (t':=s.toks) (fun b o hb e=>eb b o hb e) f0 f1 f3 f4 f5⟩
 self:=fun _ _ _ _ _ st h=>wpAny_pyIter_rangeiter st h
section
variable {X:Cx} {tg:Expr}
noncomputable def iList (K:PySem.W.Frag) (tl:TE):TI:=fun σ H R=>tl σ H fun x H1=>∃ a,x=.ref a/\(∃ xs,SqL K H1 a xs)/\R (Itl K a) H1
theorem Zdr {l:Expr} {tl:TE} (hl:PE X l tl):PI X tg l (iList X.K tl):=by
 intro pins s σ H R I h
 refine thn (hl pins s σ H _ I h) fun v s1 ⟨x,H1,I1,r1,q1⟩=>?_
 obtain ⟨a,e,⟨xs,hq⟩,q⟩:=q1
 subst e
 cases r1
 obtain ⟨its,rv,p,hz⟩:=I1.list hq
 refine wpAny_pyIter_list p.isList ?_
 refine ⟨s1.heap.objs.size,[s1.heap.objs.size],_,_,H1,rfl,I1.kept (t':=s1.toks) fun b o e=>Heap.get?_push_of_some _ e,ZjL a _,⟨_,Heap.get?_push_size _ rfl,rfl,rfl⟩,fun b hb=>?_,q⟩
 have e:b=s1.heap.objs.size:=by simpa using hb
 subst e
 exact I1.fpOk (Nat.le_refl _) (I1.hok.fresh (Nat.le_refl _))
theorem ZlD {pins:List (Addr×Obj)} {σ:St} {H:Hp} {s:Shared} {R:It->Hp->Prop} {E:Value->Shared->Prop} {lo hi:Int} {t u v:Tok} {tk:Nat} (I:Inv X pins σ H s) (h1:-(2 ^ 62)<=lo) (h2:lo<2 ^ 62) (h3:-(2 ^ 62)<=hi) (h4:hi<2 ^ 62)
  (q:R (Itr lo (hi-lo).toNat) H):wpAny (model X.prog X.w) X.A (pyIter (.ref s.heap.objs.size)) (PIE X pins σ tg R) E { s with heap:=s.heap.push { cls:=.type "range", data:=.fields #[.int lo t,.int hi u,.int 1 v] },toks:=tk }:=by
 refine wpAny_pyIter_range (IsRange.new ..) (small_one h1 h2 h3 h4) ?_
 have I1:Inv X pins σ H { s with heap:=s.heap.push { cls:=.type "range", data:=.fields #[.int lo t,.int hi u,.int 1 v] },toks:=tk }:=I.kept fun b o e=>Heap.get?_push_of_some _ e
 refine ⟨(s.heap.push { cls:=.type "range", data:=.fields #[.int lo t,.int hi u,.int 1 v] }).objs.size,[(s.heap.push { cls:=.type "range", data:=.fields #[.int lo t,.int hi u,.int 1 v] }).objs.size],_,_,H,rfl,
  I1.kept (t':=tk) fun b o e=>Heap.get?_push_of_some _ e,Zi7 _ lo (hi-lo).toNat,?_,fun b hb=>?_,q⟩
 .have e1:lo+((0:Nat):Int)*1=lo:=by simp
  have e2:(((hi-lo).toNat:Nat):Int)-((0:Nat):Int)=Builtin.Range.rangeSize lo hi 1:=by rw [rangeSize_one];split<;>omega
  show IsRangeIter _ _ (lo+((0:Nat):Int)*1) ((((hi-lo).toNat:Nat):Int)-((0:Nat):Int)) 1
  rw [e1,e2]
  exact Heap.get?_push_size _ rfl
 .have e:b=(s.heap.push { cls:=.type "range", data:=.fields #[.int lo t,.int hi u,.int 1 v] }).objs.size:=by simpa using hb
  subst e
  exact I1.fpOk (Nat.le_refl _) (I1.hok.fresh (Nat.le_refl _))
noncomputable def iRng1 (ta:TA):TI:=fun σ H R=>ta σ H fun vs H1=>∃ j:Int,vs=[.int j]/\-(2 ^ 62)<=j/\j<2 ^ 62/\R (Itr 0 j.toNat) H1
theorem Zcq {a:Expr} {ta:TA} {p pos:Pos} (hg:Gl X "range") (hm:X.mg "range" = none) (ha:PA X [a] ta) (hs:starEach [a] X.env=[(false,eval a X.env)]:=by rfl):PI X tg (.Call (.Name "range" p) [a] [] pos) (iRng1 ta):=by
 intro pins s σ H R I h
 refine Call_ (Zfd I hg hm boot_range (PyProof.Rows.callWith_type1 (thn (ha pos pins s σ H _ I h) fun us s1 ⟨vs,H1,I1,r1,q1⟩=>?_) hs rfl))
 obtain ⟨j,e,q1,q2,q⟩:=q1
 subst e
 cases r1 with
 | cons r rr =>
  cases rr
  obtain ⟨t,rfl⟩:=r
  exact call_range_1 (ZlD I1 (by omega) (by omega) q1 q2 (by simpa using q))
noncomputable def tFor (wi:TI) (g:TG) (tb:TS):TS:=fun D σ H=>wi σ H fun J H1=>∃ W:Nat->Nat->St->Hp->Prop,(∃ m,W 0 m σ H1)/\∀ i m σ H,W i m σ H ->
 (J.stop i H/\D.nx σ H)\/(J.go i H/\∃ N:St->Hp->Prop,(∀ σ' H',N σ' H'->∃ m',m'<m/\W (i+1) m' σ' H')/\∀ x H',J.yld i H x H'->g x σ H' fun σ2 H2=>tb { D with nx:=N,ct:=N,bk:=D.nx } σ2 H2)
noncomputable def pinsAt (fp:List Addr) (h:Heap):List (Addr×Obj):=fp.filterMap fun b=>(h.get? b).map fun o=>(b,o)
theorem ZcG {fp:List Addr} {h:Heap} {b:Addr} {o:Obj} (hb:b∈fp) (e:h.get? b=some o):(b,o)∈pinsAt fp h:=List.mem_filterMap.mpr ⟨b,hb,by rw [e];rfl⟩
theorem ZjM {fp:List Addr} {h:Heap} {p:Addr×Obj} (hp:p∈pinsAt fp h):p.1∈fp/\h.get? p.1=some p.2:=by
 obtain ⟨b,hb,e⟩:=List.mem_filterMap.mp hp
 cases q:h.get? b with
 | none=>rw [q] at e;cases e
 | some o =>
  rw [q] at e
  have e':(b,o)=p:=Option.some.inj e
  subst e'
  exact ⟨hb,q⟩
theorem Inv.pinned {pins:List (Addr×Obj)} {σ:St} {H:Hp} {s:Shared} {fp:List Addr} (I:Inv X pins σ H s) (hf:∀ b∈fp,FpOk X pins H b) (ho:∀ b∈fp,∃ o,s.heap.get? b=some o/\∀ v,o.data≠.cell v):Inv X (pins++pinsAt fp s.heap) σ H s :=
 I.pins_of fun p hp=>(List.mem_append.mp hp).elim (fun z=>I.pin p (List.mem_append_right _ z)) fun z=>by
  obtain ⟨hb,e⟩:=ZjM z
  obtain ⟨f0,f1,f2,_⟩:=hf p.1 hb
  obtain ⟨o,e',d⟩:=ho p.1 hb
  rw [e] at e';cases e'
  exact ⟨e,f0,f1,f2,d⟩
theorem Inv.unpinned {pins pl:List (Addr×Obj)} {σ:St} {H:Hp} {s:Shared} (I:Inv X (pins++pl) σ H s):Inv X pins σ H s:=I.pins_of fun p hp=>I.pin p (List.mem_append_right _ (List.mem_append_left _ hp))
theorem Zff {iter:Expr} {body:List Stmt} {wi:TI} {g:TG} {tb:TS} {pos:Pos} (hp:PassesOwn (model X.prog X.w) X.A X.env X.xe) (hc:X.calm=true) (hi:PI X tg iter wi) (hg:PG X tg g) (hb:PSs X body tb)
  (hs:∀ x,foldedSetIterable iter X.env x=pure x:=by intro _;rfl):PS X (.For tg iter body [] pos) (tFor wi g tb):=by
 intro pins s σ H D I h
 refine wpAny_For (thn (hi pins s σ H _ I h) fun v s1 h1=>thn h1 fun itv s2 h2=>?_) hs
 obtain ⟨it,fp,tn,J,H2,e,I2,T,st2,f2,W,⟨m0,w0⟩,turn⟩:=h2
 subst e
 have stat:∀ {H':Hp},(∀ b∈fp,H' b=none)->∀ b∈fp,FpOk X pins H' b:=fun hn b hb=>⟨hn b hb,(f2 b hb).2⟩
 refine codeAny_forLoop_any (fun n s'=>∃ i σ' H',Inv X pins σ' H' s'/\tn i s'.heap/\(∀ b∈fp,H' b=none)/\W i n σ' H') ?_ m0 ⟨0,σ,H2,I2,st2,fun b hb=>(f2 b hb).1,w0⟩
 rintro n s3 ⟨i,σ3,H3,I3,st3,fr3,w3⟩
 rcases turn i n σ3 H3 w3 with ⟨stop,qn⟩|⟨go,N,hN,step⟩
 .refine wpAny_passesOwn hp (thn (T.done X rfl rfl rfl hc i pins s3 σ3 H3 X.xe I3 (stat fr3) st3 stop) fun r s4 ⟨hr,I4⟩=>?_)
  subst hr
  exact wpAny_execs_nil ⟨σ3,H3,I4,qn⟩
 .refine wpAny_passesOwn hp (thn (T.item X rfl rfl rfl hc i pins s3 σ3 H3 X.xe I3 (stat fr3) st3 go) fun r s4 ⟨u,hr,h4⟩=>?_)
  subst hr
  refine wpAny_passesOwn hp (thn h4 fun _ s5 ⟨x,H5,I5,r5,y5,st5,fr5⟩=>?_)
  have I5':=I5.pinned (stat fr5) (T.obj _ _ st5)
  refine wpAny_passesOwn hp (thn (hg _ s5 σ3 H5 x u _ I5' r5 (step x H5 y5)) fun _ s6 ⟨σ6,H6,I6,q6⟩=>?_)
  refine wpAny_passesOwn hp (thn (hb _ s6 σ6 H6 _ I6 q6) fun f s7 q7=>?_)
  have again:∀ {σ7:St} {H7:Hp},Inv X (pins++pinsAt fp s5.heap) σ7 H7 s7->N σ7 H7->∃ m,m<n/\∃ i σ' H',Inv X pins σ' H' s7/\tn i s7.heap/\(∀ b∈fp,H' b=none)/\W i m σ' H':=fun {σ7 H7} I7 n7=>by
   obtain ⟨m',hm,w7⟩:=hN σ7 H7 n7
   refine ⟨m',hm,i+1,σ7,H7,I7.unpinned,T.keep _ _ _ st5 fun b hb o e=>(I7.pin (b,o) (List.mem_append_right _ (List.mem_append_right _ (ZcG hb e)))).1,fun b hb=>?_,w7⟩
   obtain ⟨o,e,d⟩:=T.obj _ _ st5 b hb
   exact (I7.pin (b,o) (List.mem_append_right _ (List.mem_append_right _ (ZcG hb e)))).2.1
  cases f with
  | next=>obtain ⟨σ7,H7,I7,n7⟩:=q7;exact again I7 n7
  | cont=>obtain ⟨σ7,H7,I7,n7⟩:=q7;exact again I7 n7
  | brk=>obtain ⟨σ7,H7,I7,q7⟩:=q7;exact ⟨σ7,H7,I7.unpinned,q7⟩
  | ret v=>obtain ⟨x7,σ7,H7,I7,r7,q7⟩:=q7;exact ⟨x7,σ7,H7,I7.unpinned,r7,q7⟩
end
theorem Zft {K:PySem.W.Frag} {a:Addr} {xs:List V} {g:TG} {tb:TS} {D:Ends} {σ:St} {H:Hp} (Pv:Nat->St->Hp->Prop) (h0:Pv 0 σ H) (hl:∀ i σ H,i<=xs.length->Pv i σ H->SqL K H a xs)
  (hs:∀ i x σ H,xs[i]?=some x->Pv i σ H->g x σ H fun σ2 H2=>tb { D with nx:=Pv (i+1),ct:=Pv (i+1),bk:=D.nx } σ2 H2) (hd:∀ σ H,Pv xs.length σ H->D.nx σ H) :
  ∃ W:Nat->Nat->St->Hp->Prop,(∃ m,W 0 m σ H)/\∀ i m σ H,W i m σ H ->
   ((Itl K a).stop i H/\D.nx σ H)\/((Itl K a).go i H/\∃ N:St->Hp->Prop,(∀ σ' H',N σ' H'->∃ m',m'<m/\W (i+1) m' σ' H')/\∀ x H',(Itl K a).yld i H x H'->g x σ H' fun σ2 H2=>tb { D with nx:=N,ct:=N,bk:=D.nx } σ2 H2):=by
 refine ⟨fun i m σ H=>m=xs.length-i/\i<=xs.length/\Pv i σ H,⟨xs.length,by simp,Nat.zero_le _,h0⟩,?_⟩
 rintro i m σ H ⟨rfl,hi,p⟩
 have q:=hl i σ H hi p
 by_cases hlt:i<xs.length
 .refine .inr ⟨⟨xs,xs[i],q,by simp [hlt]⟩,Pv (i+1),fun σ' H' p'=>⟨xs.length-(i+1),by omega,rfl,hlt,p'⟩,fun x H' y=>?_⟩
  obtain ⟨e,y⟩:=y
  subst e
  exact hs i x σ _ (y xs q) p
 .have e:i=xs.length:=by omega
  subst e
  exact .inl ⟨⟨xs,q,Nat.le_refl _⟩,hd σ H p⟩
theorem Zed {lo:Int} {n:Nat} {g:TG} {tb:TS} {D:Ends} {σ:St} {H:Hp} (Pv:Nat->St->Hp->Prop) (h0:Pv 0 σ H)
  (hs:∀ i σ H,i<n->Pv i σ H->g (.int (lo+i)) σ H fun σ2 H2=>tb { D with nx:=Pv (i+1),ct:=Pv (i+1),bk:=D.nx } σ2 H2) (hd:∀ σ H,Pv n σ H->D.nx σ H) :
  ∃ W:Nat->Nat->St->Hp->Prop,(∃ m,W 0 m σ H)/\∀ i m σ H,W i m σ H ->
   ((Itr lo n).stop i H/\D.nx σ H)\/((Itr lo n).go i H/\∃ N:St->Hp->Prop,(∀ σ' H',N σ' H'->∃ m',m'<m/\W (i+1) m' σ' H')/\∀ x H',(Itr lo n).yld i H x H'->g x σ H' fun σ2 H2=>tb { D with nx:=N,ct:=N,bk:=D.nx } σ2 H2):=by
 refine ⟨fun i m σ H=>m=n-i/\i<=n/\Pv i σ H,⟨n,by simp,Nat.zero_le _,h0⟩,?_⟩
 rintro i m σ H ⟨rfl,hi,p⟩
 by_cases hlt:i<n
 .refine .inr ⟨hlt,Pv (i+1),fun σ' H' p'=>⟨n-(i+1),by omega,rfl,hlt,p'⟩,fun x H' y=>?_⟩
  obtain ⟨e,y⟩:=y
  subst e y
  exact hs i σ _ hlt p
 .have e:i=n:=by omega
  subst e
  exact .inl ⟨Nat.le_refl _,hd σ H p⟩
noncomputable abbrev R2:=V->V->Hp->VK->Prop
noncomputable def OpR (X:Cx) (f:Value->Value->Sem Value) (r:R2):Prop :=
 ∀ (pins:List (Addr×Obj)) (s:Shared) (σ:St) (H:Hp) (x y:V) (v u:Value) (Q:VK),Inv X pins σ H s->RelV x v->RelV y u->r x y H Q ->
  wpAny (model X.prog X.w) X.A (f v u) (EP X pins σ Q) X.xe s
noncomputable def UnR (X:Cx) (f:Value->Sem Value) (r:V->Hp->VK->Prop):Prop :=
 ∀ (pins:List (Addr×Obj)) (s:Shared) (σ:St) (H:Hp) (x:V) (v:Value) (Q:VK),Inv X pins σ H s->RelV x v->r x H Q ->
  wpAny (model X.prog X.w) X.A (f v) (EP X pins σ Q) X.xe s
noncomputable def CallR (X:Cx) (f:Value) (r:List V->Hp->VK->Prop):Prop :=
 ∀ (pins:List (Addr×Obj)) (s:Shared) (σ:St) (H:Hp) (xs:List V) (us:List Value) (Q:VK),Inv X pins σ H s->Vals xs us->r xs H Q ->
  wpAny (model X.prog X.w) X.A (call f us) (EP X pins σ Q) X.xe s
noncomputable def tOp (r:R2) (ta tb:TE):TE:=fun σ H Q=>ta σ H fun x H1=>tb σ H1 fun y H2=>r x y H2 Q
noncomputable def tUn (r:V->Hp->VK->Prop) (ta:TE):TE:=fun σ H Q=>ta σ H fun x H1=>r x H1 Q
noncomputable def rI (C:Int->Int->Prop) (g:Int->Int->V):R2:=fun x y H Q=>∃ i j,x=.int i/\y=.int j/\C i j/\Q (g i j) H
noncomputable def rI0 (g:Int->Int->V):R2:=fun x y H Q=>∃ i j,x=.int i/\y=.int j/\Q (g i j) H
noncomputable def rU (g:Int->V):V->Hp->VK->Prop:=fun x H Q=>∃ i,x=.int i/\Q (g i) H
section
variable {X:Cx} {a b c:Expr} {ta tb tc:TE} {pos:Pos}
theorem binT (ha:PE X a ta) (hb:PE X b tb) {pins:List (Addr×Obj)} {s:Shared} {σ:St} {H:Hp} {R:V->V->Hp->Prop} (I:Inv X pins σ H s)
  (h:ta σ H fun x H1=>tb σ H1 fun y H2=>R x y H2) {Q:Value->Shared->Prop} {f:Value->Value->Sem Value}
  (hf:∀ v u s2 x y H2,Inv X pins σ H2 s2->RelV x v->RelV y u->R x y H2->wpAny (model X.prog X.w) X.A (f v u) Q X.xe s2) :
  wpAny (model X.prog X.w) X.A (eval a X.env) (fun v s₁=>wpAny (model X.prog X.w) X.A (eval b X.env) (fun u s₂=>wpAny (model X.prog X.w) X.A (f v u) Q X.xe s₂) X.xe s₁) X.xe s:=by
 refine thn (ha pins s σ H _ I h) fun v s1 ⟨x,H1,I1,r1,q1⟩=>?_
 refine thn (hb pins s1 σ H1 _ I1 q1) fun u s2 ⟨y,H2,I2,r2,q2⟩=>?_
 exact hf v u s2 x y H2 I2 r1 r2 q2
theorem ZaB {op:Operator} {r:R2} (ho:OpR X (binaryOp op) r) (ha:PE X a ta) (hb:PE X b tb):PE X (.BinOp a op b pos) (tOp r ta tb):=by
 intro pins s σ H Q I h
 exact wpAny_BinOp (binT ha hb I h fun v u s2 x y H2 I2 rx ry q=>ho pins s2 σ H2 x y v u Q I2 rx ry q)
theorem Zgi {op:UnaryOp} {r:V->Hp->VK->Prop} (ho:UnR X (unaryOp op) r) (ha:PE X a ta):PE X (.UnaryOp op a pos) (tUn r ta):=by
 intro pins s σ H Q I h
 exact UnaryOp_ (thn (ha pins s σ H _ I h) fun v s1 ⟨x,H1,I1,r1,q1⟩=>ho pins s1 σ H1 x v Q I1 r1 q1)
theorem opI {f:Value->Value->Sem Value} {C:Int->Int->Prop} {g:Int->Int->Int}
  (rule:∀ (i j:Int) (t u:Tok) (s:Shared) (Q:Value->Shared->Prop) (E:Value->Shared->Prop),C i j->Q (.int (g i j) s.toks) { s with toks:=s.toks+1 }->wpAny (model X.prog X.w) X.A (f (.int i t) (.int j u)) Q E s) :
  OpR X f (rI C fun i j=>.int (g i j)):=by
 intro pins s σ H x y v u Q I rx ry h
 obtain ⟨i,j,rfl,rfl,hc,q⟩:=h
 obtain ⟨t,rfl⟩:=rx
 obtain ⟨t',rfl⟩:=ry
 exact rule i j t t' s _ _ hc ⟨.int (g i j),H,I.tok _,⟨_,rfl⟩,q⟩
theorem opI0 {f:Value->Value->Sem Value} {g:Int->Int->Int}
  (rule:∀ (i j:Int) (t u:Tok) (s:Shared) (Q:Value->Shared->Prop) (E:Value->Shared->Prop),Q (.int (g i j) s.toks) { s with toks:=s.toks+1 }->wpAny (model X.prog X.w) X.A (f (.int i t) (.int j u)) Q E s) :
  OpR X f (rI0 fun i j=>.int (g i j)):=by
 intro pins s σ H x y v u Q I rx ry h
 obtain ⟨i,j,rfl,rfl,q⟩:=h
 obtain ⟨t,rfl⟩:=rx
 obtain ⟨t',rfl⟩:=ry
 exact rule i j t t' s _ _ ⟨.int (g i j),H,I.tok _,⟨_,rfl⟩,q⟩
theorem opB0 {f:Value->Value->Sem Value} {g:Int->Int->Bool}
  (rule:∀ (i j:Int) (t u:Tok) (s:Shared) (Q:Value->Shared->Prop) (E:Value->Shared->Prop),Q (.bool (g i j)) s->wpAny (model X.prog X.w) X.A (f (.int i t) (.int j u)) Q E s) :
  OpR X f (rI0 fun i j=>.bl (g i j)):=by
 intro pins s σ H x y v u Q I rx ry h
 obtain ⟨i,j,rfl,rfl,q⟩:=h
 obtain ⟨t,rfl⟩:=rx
 obtain ⟨t',rfl⟩:=ry
 exact rule i j t t' s _ _ ⟨.bl (g i j),H,I,rfl,q⟩
noncomputable def CPow (i j:Int):Prop:=0<=j/\j<=1000000/\i.natAbs<2 ^ 64
noncomputable def CMul (i j:Int):Prop:=(-(2 ^ 64)<i/\i<2 ^ 64)\/(-(2 ^ 64)<j/\j<2 ^ 64)
theorem CMul.ok {i j:Int} (h:CMul i j):IntMulOk i j:=by
 rcases h with ⟨h1,h2⟩|⟨h1,h2⟩
 .exact .of_left (intBits_le_64 h1 h2)
 .exact .of_right (intBits_le_64 h1 h2)
theorem Zi8 (k:Nat):(0:Int)<=2 ^ k:=by
 rw [two_pow_cast]
 exact Int.natCast_nonneg _
theorem Zb8:OpR X (binaryOp .Add) (rI0 fun i j=>.int (i+j)):=opI0 fun _ _ _ _ _ _ _ q=>add_int q
theorem Zee:OpR X (binaryOp .Sub) (rI0 fun i j=>.int (i-j)):=opI0 fun _ _ _ _ _ _ _ q=>sub_int q
theorem Ziy:OpR X (binaryOp .Mult) (rI CMul fun i j=>.int (i*j)):=opI fun _ _ _ _ _ _ _ hc q=>mul_int q hc.ok
theorem Za2:OpR X (binaryOp .Mod) (rI (fun _ j=>0<j) fun i j=>.int (i % j)):=opI fun i j _ _ _ _ _ hc q=>by
 have h1:(0:Int)<j:=hc
 exact mod_int' (by omega) (by rw [Int.fmod_eq_emod_of_nonneg i (by omega)];exact q)
theorem Zef:OpR X (binaryOp .Pow) (rI CPow fun i j=>.int (i ^ j.toNat)):=opI fun _ _ _ _ _ _ _ hc q=>pow_int_small hc.1 hc.2.1 hc.2.2 q
theorem op_shl:OpR X (binaryOp .LShift) (rI CPow fun i j=>.int (i*2 ^ j.toNat)):=opI fun _ _ _ _ _ _ _ hc q=>lshift_int_small hc.1 hc.2.1 hc.2.2 q
theorem op_shr:OpR X (binaryOp .RShift) (rI (fun _ j=>0<=j) fun i j=>.int (i / 2 ^ j.toNat)):=opI fun i j _ _ _ _ _ hc q =>
 rshift_int hc (by rw [Int.fdiv_eq_ediv_of_nonneg i (Zi8 _)];exact q)
theorem op_and:OpR X (binaryOp .BitAnd) (rI0 fun i j=>.int (Builtin.bitAnd i j)):=opI0 fun _ _ _ _ _ _ _ q=>and_int q
theorem op_or:OpR X (binaryOp .BitOr) (rI0 fun i j=>.int (Builtin.bitOr i j)):=opI0 fun _ _ _ _ _ _ _ q=>or_int q
theorem op_xor:OpR X (binaryOp .BitXor) (rI0 fun i j=>.int (Builtin.bitXor i j)):=opI0 fun _ _ _ _ _ _ _ q=>xor_int q
theorem unI {f:Value->Sem Value} {g:Int->Int}
  (rule:∀ (i:Int) (t:Tok) (s:Shared) (Q:Value->Shared->Prop) (E:Value->Shared->Prop),Q (.int (g i) s.toks) { s with toks:=s.toks+1 }->wpAny (model X.prog X.w) X.A (f (.int i t)) Q E s) :
  UnR X f (rU fun i=>.int (g i)):=by
 intro pins s σ H x v Q I rx h
 obtain ⟨i,rfl,q⟩:=h
 obtain ⟨t,rfl⟩:=rx
 exact rule i t s _ _ ⟨.int (g i),H,I.tok _,⟨_,rfl⟩,q⟩
theorem ZdU:UnR X (unaryOp .USub) (rU fun i=>.int (-i)):=unI fun _ _ _ _ _ q=>neg_int q
end
noncomputable def scal:V->V->Bool
 | .non,.non=>true|.non,.int _=>true|.int _,.non=>true|.non,.bl _=>true|.bl _,.non=>true|.non,.str _=>true|.str _,.non=>true
 | .int _,.int _=>true|.bl _,.bl _=>true|.str _,.str _=>true|.byt _,.byt _=>true
 | .int _,.str _=>true|.str _,.int _=>true|.bl _,.str _=>true|.str _,.bl _=>true
 | _,_=>false
noncomputable def rEq:R2:=fun x y H Q=>scal x y=true/\Q (.bl (decide (x=y))) H
noncomputable def rNe:R2:=fun x y H Q=>scal x y=true/\Q (.bl (!decide (x=y))) H
theorem ZjN {i j:Int}:decide (V.int i=V.int j)=(i==j):=by
 rw [Bool.eq_iff_iff]
 simp
theorem ZmZ {i j:Bool}:decide (V.bl i=V.bl j)=(i==j):=by
 rw [Bool.eq_iff_iff]
 simp
theorem ZjO {i j:Str}:decide (V.str i=V.str j)=(i==j):=by
 rw [Bool.eq_iff_iff]
 simp
theorem ZjP {i j:Array UInt8}:decide (V.byt i=V.byt j)=(i.toList==j.toList):=by
 rw [Bool.eq_iff_iff]
 cases i
 cases j
 simp
section
variable {X:Cx} {a b c:Expr} {ta tb tc:TE} {pos:Pos}
theorem Za4 {pins:List (Addr×Obj)} {σ:St} {H:Hp} {s:Shared} {Q:VK} {k k':Bool} (I:Inv X pins σ H s) (q:Q (.bl k) H) (e:k=k'):EP X pins σ Q (.bool k') s:=by
 subst e
 exact ⟨.bl k,H,I,rfl,q⟩
theorem Zco:OpR X (compareOp .Eq) rEq:=by
 intro pins s σ H x y v u Q I rx ry h
 obtain ⟨hs,q⟩:=h
 cases x with
 | non =>
  cases rx
  cases y with
  | non=>cases ry;exact PySem.EqNone.eq_none_none (Za4 I q (by simp))
  | bl j=>cases ry;exact PySem.EqNone.eq_none_bool (Za4 I q (by simp))
  | int j=>obtain ⟨t',rfl⟩:=ry;exact PySem.EqNone.eq_none_int (Za4 I q (by simp))
  | str j=>obtain ⟨t',rfl⟩:=ry;exact PySem.EqNone.eq_none_str (Za4 I q (by simp))
  | _=>exact absurd (show false=true from hs) Bool.false_ne_true
 | bl i =>
  cases rx
  cases y with
  | non=>cases ry;exact PySem.EqNone.eq_bool_none (Za4 I q (by simp))
  | bl j=>cases ry;exact eq_bool (Za4 I q ZmZ)
  | str j=>obtain ⟨t',rfl⟩:=ry;exact PySem.EqMixed.eq_bool_str (Za4 I q (by simp))
  | _=>exact absurd (show false=true from hs) Bool.false_ne_true
 | int i =>
  obtain ⟨t,rfl⟩:=rx
  cases y with
  | non=>cases ry;exact PySem.EqNone.eq_int_none (Za4 I q (by simp))
  | int j=>obtain ⟨t',rfl⟩:=ry;exact eq_int (Za4 I q ZjN)
  | str j=>obtain ⟨t',rfl⟩:=ry;exact PySem.EqMixed.eq_int_str (Za4 I q (by simp))
  | _=>exact absurd (show false=true from hs) Bool.false_ne_true
 | str i =>
  obtain ⟨t,rfl⟩:=rx
  cases y with
  | non=>cases ry;exact PySem.EqNone.eq_str_none (Za4 I q (by simp))
  | bl j=>cases ry;exact PySem.EqMixed.eq_str_bool (Za4 I q (by simp))
  | int j=>obtain ⟨t',rfl⟩:=ry;exact PySem.EqMixed.eq_str_int (Za4 I q (by simp))
  | str j=>obtain ⟨t',rfl⟩:=ry;exact eq_str (Za4 I q ZjO)
  | _=>exact absurd (show false=true from hs) Bool.false_ne_true
 | byt i =>
  obtain ⟨t,rfl⟩:=rx
  cases y with
  | byt j=>obtain ⟨t',rfl⟩:=ry;exact PySem.W.eq_bytes (Za4 I q ZjP)
  | _=>exact absurd (show false=true from hs) Bool.false_ne_true
 | _=>cases y<;>exact absurd (show false=true from hs) Bool.false_ne_true
theorem Zhw:OpR X (compareOp .NotEq) rNe:=by
 intro pins s σ H x y v u Q I rx ry h
 obtain ⟨hs,q⟩:=h
 cases x with
 | non =>
  cases rx
  cases y with
  | non=>cases ry;exact PySem.EqNone.ne_none_none (Za4 I q (by simp))
  | bl j=>cases ry;exact PySem.EqNone.ne_none_bool (Za4 I q (by simp))
  | int j=>obtain ⟨t',rfl⟩:=ry;exact PySem.EqNone.ne_none_int (Za4 I q (by simp))
  | str j=>obtain ⟨t',rfl⟩:=ry;exact PySem.EqNone.ne_none_str (Za4 I q (by simp))
  | _=>exact absurd (show false=true from hs) Bool.false_ne_true
 | bl i =>
  cases rx
  cases y with
  | non=>cases ry;exact PySem.EqNone.ne_bool_none (Za4 I q (by simp))
  | bl j=>cases ry;exact ne_bool (Za4 I q (congrArg not ZmZ))
  | str j=>obtain ⟨t',rfl⟩:=ry;exact PySem.EqMixed.ne_bool_str (Za4 I q (by simp))
  | _=>exact absurd (show false=true from hs) Bool.false_ne_true
 | int i =>
  obtain ⟨t,rfl⟩:=rx
  cases y with
  | non=>cases ry;exact PySem.EqNone.ne_int_none (Za4 I q (by simp))
  | int j=>obtain ⟨t',rfl⟩:=ry;exact ne_int (Za4 I q (congrArg not ZjN))
  | str j=>obtain ⟨t',rfl⟩:=ry;exact PySem.EqMixed.ne_int_str (Za4 I q (by simp))
  | _=>exact absurd (show false=true from hs) Bool.false_ne_true
 | str i =>
  obtain ⟨t,rfl⟩:=rx
  cases y with
  | non=>cases ry;exact PySem.EqNone.ne_str_none (Za4 I q (by simp))
  | bl j=>cases ry;exact PySem.EqMixed.ne_str_bool (Za4 I q (by simp))
  | int j=>obtain ⟨t',rfl⟩:=ry;exact PySem.EqMixed.ne_str_int (Za4 I q (by simp))
  | str j=>obtain ⟨t',rfl⟩:=ry;exact ne_str (Za4 I q (congrArg not ZjO))
  | _=>exact absurd (show false=true from hs) Bool.false_ne_true
 | byt i =>
  obtain ⟨t,rfl⟩:=rx
  cases y with
  | byt j=>obtain ⟨t',rfl⟩:=ry;exact PySem.W.ne_bytes (Za4 I q (congrArg not ZjP))
  | _=>exact absurd (show false=true from hs) Bool.false_ne_true
 | _=>cases y<;>exact absurd (show false=true from hs) Bool.false_ne_true
theorem Zfu:OpR X (compareOp .Lt) (rI0 fun i j=>.bl (decide (i<j))):=opB0 fun _ _ _ _ _ _ _ q=>lt_int q
theorem op_le:OpR X (compareOp .LtE) (rI0 fun i j=>.bl (decide (i<=j))):=opB0 fun _ _ _ _ _ _ _ q=>le_int q
theorem Zhx:OpR X (compareOp .Gt) (rI0 fun i j=>.bl (decide (j<i))):=opB0 fun _ _ _ _ _ _ _ q=>gt_int q
theorem Znq:OpR X (compareOp .GtE) (rI0 fun i j=>.bl (decide (j<=i))):=opB0 fun _ _ _ _ _ _ _ q=>ge_int q
theorem op_isN:OpR X (compareOp .Is) (fun x y H Q=>y=.non/\Q (.bl (decide (x=.non))) H):=by
 intro pins s σ H x y v u Q I rx ry h
 obtain ⟨rfl,q⟩:=h
 cases ry
 refine is_none_gen (Za4 I q ?_)
 cases x<;>first
  | (cases rx;rfl)
  | (obtain ⟨t,rfl⟩:=rx;rfl)
theorem OpR.or {f:Value->Value->Sem Value} {r r':R2} (h:OpR X f r) (h':OpR X f r'):OpR X f (fun x y H Q=>r x y H Q\/r' x y H Q):=by
 intro pins s σ H x y v u Q I rx ry q
 rcases q with q|q
 .exact h pins s σ H x y v u Q I rx ry q
 .exact h' pins s σ H x y v u Q I rx ry q
theorem nomark (b:Expr) {op:CmpOp} (h:op≠.In:=by decide) (h2:op≠.NotIn:=by decide):behindInMarks op b=false:=by
 have e1:(op==CmpOp.In)=false:=by cases op<;>first|rfl|exact absurd rfl h
 have e2:(op==CmpOp.NotIn)=false:=by cases op<;>first|rfl|exact absurd rfl h2
 cases b<;>simp [behindInMarks,e1,e2]
theorem ZcV {op:CmpOp} {r:R2} (ho:OpR X (compareOp op) r) (ha:PE X a ta) (hb:PE X b tb) (hm:behindInMarks op b=false):PE X (.Compare a [op] [b] pos) (tOp r ta tb):=by
 intro pins s σ H Q I h
 exact wpAny_Compare1 (binT ha hb I h fun v u s2 x y H2 I2 rx ry q=>ho pins s2 σ H2 x y v u Q I2 rx ry q) hm
noncomputable def tTest (t:TE):TT:=fun σ H Q=>t σ H fun x H'=>∃ k,x=.bl k/\Q k H'
theorem Zau {op:CmpOp} {r:R2} (ho:OpR X (compareOp op) r) (ha:PE X a ta) (hb:PE X b tb) (hm:behindInMarks op b=false):PT X (.Compare a [op] [b] pos) (tTest (tOp r ta tb)):=by
 intro pins s σ H Q I h
 refine wpAny_isTrue_Compare1 (thn (ha pins s σ H _ I h) fun v s1 ⟨x,H1,I1,r1,q1⟩=>thn (hb pins s1 σ H1 _ I1 q1) fun u s2 ⟨y,H2,I2,r2,q2⟩ =>
  thn (ho pins s2 σ H2 x y v u _ I2 r1 r2 q2) fun c s3 ⟨z,H3,I3,r3,k,e,q3⟩=>?_) hm
 subst e
 cases r3
 exact wpAny_truthy_bool ⟨H3,I3,q3⟩
noncomputable def tChain (r r':R2) (ta tb tc:TE):TE:=fun σ H Q=>ta σ H fun x H1=>tb σ H1 fun y H2=>r x y H2 fun z H3=>∃ k,z=.bl k /\
 (if k=true then tc σ H3 fun w' H4=>r' y w' H4 Q else Q (.bl false) H3)
theorem ZlE {op op':CmpOp} {r r':R2} (ho:OpR X (compareOp op) r) (ho':OpR X (compareOp op') r') (ha:PE X a ta) (hb:PE X b tb) (hc:PE X c tc)
  (hm:lastMarks [op,op'] [b,c]=false:=by with_unfolding_all rfl):PT X (.Compare a [op,op'] [b,c] pos) (tTest (tChain r r' ta tb tc)):=by
 intro pins s σ H Q I h
 refine isTrue_chain (thn (ha pins s σ H _ I h) fun v s1 ⟨x,H1,I1,r1,q1⟩=>test_link (thn (hb pins s1 σ H1 _ I1 q1) fun u s2 ⟨y,H2,I2,r2,q2⟩ =>
  thn (ho pins s2 σ H2 x y v u _ I2 r1 r2 q2) fun d s3 ⟨z,H3,I3,r3,k,e,q3⟩=>?_)) hm
 subst e
 cases r3
 refine wpAny_truthy_bool ?_
 cases k with
 | false =>
  obtain ⟨k',e',q'⟩:=q3
  cases e'
  exact ite_ff ⟨H3,I3,q'⟩
 | true =>
  refine ite_tt (test_last (thn (hc pins s3 σ H3 _ I3 q3) fun w' s4 ⟨z',H4,I4,r4,q4⟩=>thn (ho' pins s4 σ H4 y z' u w' _ I4 r2 r4 q4) fun d' s5 ⟨z2,H5,I5,r5,k2,e2,q5⟩=>?_))
  subst e2
  cases r5
  exact wpAny_truthy_bool ⟨H5,I5,q5⟩
theorem line63:(sizeLine:Nat)<2 ^ 63:=by rw [sizeLine_eq];decide
theorem vals1 {x:V} {us:List Value} (r:Vals [x] us):∃ u,us=[u]/\RelV x u:=by
 cases r with
 | cons r1 r2=>cases r2;exact ⟨_,rfl,r1⟩
theorem vals2 {x y:V} {us:List Value} (r:Vals [x,y] us):∃ u w',us=[u,w']/\RelV x u/\RelV y w':=by
 cases r with
 | cons r1 r2 =>
  cases r2 with
  | cons r3 r4=>cases r4;exact ⟨_,_,rfl,r1,r3⟩
theorem ZjQ (hc:X.calm=true):CallR X (.builtin "max") (fun xs H Q=>∃ i j,xs=[.int i,.int j]/\Q (.int (if j>i then j else i)) H):=by
 intro pins s σ H xs us Q I r h
 obtain ⟨i,j,rfl,q⟩:=h
 obtain ⟨u,w',rfl,⟨t,rfl⟩,⟨t',rfl⟩⟩:=vals2 r
 refine max_two_ints (I.ok.hd hc) fun h' tk k=>⟨_,H,I.kept k,?_,q⟩
 by_cases hj:j>i
 .rw [if_pos hj,if_pos hj];exact ⟨_,rfl⟩
 .rw [if_neg hj,if_neg hj];exact ⟨_,rfl⟩
theorem ZjR (hc:X.calm=true):CallR X (.builtin "min") (fun xs H Q=>∃ i j,xs=[.int i,.int j]/\Q (.int (if j<i then j else i)) H):=by
 intro pins s σ H xs us Q I r h
 obtain ⟨i,j,rfl,q⟩:=h
 obtain ⟨u,w',rfl,⟨t,rfl⟩,⟨t',rfl⟩⟩:=vals2 r
 refine min_two_ints (I.ok.hd hc) fun h' tk k=>⟨_,H,I.kept k,?_,q⟩
 by_cases hj:j<i
 .rw [if_pos hj,if_pos hj];exact ⟨_,rfl⟩
 .rw [if_neg hj,if_neg hj];exact ⟨_,rfl⟩
end
structure ObjM (h:Heap) (x dx C:Addr) (mA:Str->Option Value):Prop where
 obj:h.get? x=some (PySem.W.instObj C dx)
 ns:h.Ns1 dx mA
 ne:dx≠x
theorem ZjS {h:Heap} {dx:Addr} {mA:Str->Option Value} (n:h.Ns1 dx mA):∃ od,h.get? dx=some od/\∀ name,PySem.W.lookIn name od=some (mA name):=by
 obtain ⟨o,es,ep,ho,hd,hk,_,hm⟩:=n
 refine ⟨o,ho,fun name=>?_⟩
 have e:=hm name
 unfold nsFind findBy at e
 rw [<- Array.find?_toList] at e
 unfold PySem.W.lookIn
 rw [hd]
 dsimp only
 split
 .rename_i y q
  rw [q] at e
  exact congrArg some e
 .rename_i q
  rw [q] at e
  have a:es.toList.any (·.refKey)=false:=by
   rw [List.any_eq_false]
   intro y hy
   obtain ⟨z,t,hkey⟩:=hk y (Array.mem_toList_iff.mp hy)
   simp [DictEntry.refKey,hkey]
  have a':¬ es.toList.any (·.refKey)=true:=by rw [a];exact Bool.false_ne_true
  rw [if_neg a']
  exact congrArg some e
theorem ObjM.look {h:Heap} {x dx C:Addr} {mA:Str->Option Value} (I:ObjM h x dx C mA):∃ od,PySem.W.InstAt h x (PySem.W.instObj C dx) C (some od)/\∀ name,PySem.W.lookIn name od=some (mA name) :=
 let ⟨od,ho,hl⟩:=ZjS I.ns
 ⟨od,⟨I.obj,rfl,rfl,ho⟩,hl⟩
section
variable {prog:Program} {w:World} {A:Around} {E:Value->Shared->Prop} {s:Shared} {K:PySem.W.Frag} {x dx C f:Addr} {mA:Str->Option Value} {name:Str} {v:Value}
theorem Znr {expr:Bool} {Q:Value->Shared->Prop} (X:K.In s.heap) (I:ObjM s.heap x dx C mA) (hg:PySem.W.plainGet K C name=true) (hh:PySem.W.hasDictIn K C=true)
  (ha:PySem.W.findIn K (.ref C) name=some none) (hv:mA name=some v) (hv':PySem.W.handedIn v=true) (h:Q v { s with toks:=s.toks+1 }) :
  wpAny (model prog w) A (getAttr (.ref x) name expr) Q E s:=by
 obtain ⟨od,J,hl⟩:=I.look
 exact PySem.W.get_value X J (PySem.W.plainGet_of hg).1 (PySem.W.findObj_own hh ha rfl (by rw [hl,hv])) hv' h
theorem ZlF {pl:Sem Bool} {Q:Value×List Value->Shared->Prop} (X:K.In s.heap) (I:ObjM s.heap x dx C mA) (hg:PySem.W.plainGet K C name=true)
  (hf:PySem.W.findIn K (.ref C) name=some (some (.ref f))) (ht:PySem.W.isFn K (.ref f)=true) (hv:mA name=none) (h:Q (.ref f,[.ref x]) s) :
  wpAny (model prog w) A (getMethod (.ref x) name pl) Q E s:=by
 obtain ⟨od,J,hl⟩:=I.look
 exact PySem.W.method_fn X J (PySem.W.plainGet_of hg).1 (PySem.W.plainGet_of hg).2 hf (beq_iff_eq.mp ht) (by show (PySem.W.lookIn name od).map (·.isSome)=some false;rw [hl,hv];rfl) h
theorem Zns {ns:List Str} {Q:Unit->Shared->Prop} (X:K.In s.heap) (I:ObjM s.heap x dx C mA)
  (hs:PySem.W.findIn K (.ref C) "__setattr__" = some (some (.builtin "object.__setattr__"))) (hp:PySem.W.plainOver K C=true) (ht:PySem.W.takerIn K C name=some none) (hh:PySem.W.hasDictIn K C=true)
  (hw:PySem.Within mA ns) (hsz:ns.length<=sizeLine)
  (h:∀ h',ObjM h' x dx C (fun y=>if y=name then some v else mA y)->Heap.SameBut dx s.heap h'->Q () { s with heap:=h',toks:=s.toks+2 }) :
  wpAny (model prog w) A (setAttr (.ref x) name v) Q E s:=by
 obtain ⟨od,J,hl⟩:=I.look
 refine PySem.W.set_plain X J hs (PySem.W.osa_open (s:={ s with toks:=s.toks+1 }) (r:=none) X J hp ht fun b=>?_)
 obtain ⟨cd,hc,hd'⟩:=PySem.W.any_some hh
 have hx:s.heap.get? x=some ⟨.ref C,some dx,.plain,#[]⟩:=I.obj
 refine wpAny_bind (wpAny_pure (wpAny_bind (wpAny_bind (wpAny_loadPart hx (wpAny_bind (PySem.W.Looks.here (s:={ s with toks:=s.toks+1 }) (PySem.W.looks_clsIn X hc) ?_))))))
 rw [hd']
 refine wpAny_pure (a:=some dx) (wpAny_bind (wpAny_pure (wpAny_bind ?_)))
 refine wpAny_nsSet1 (s:={ s with toks:=s.toks+1 }) I.ns fun h' hn2 hs2=>?_
 obtain ⟨oD,esD,epD,hoD,hdD,hcD⟩:=hn2.count (PySem.Within.cons name v hw)
 refine wpAny_bind (wpAny_lookBehind hoD (by rw [hdD];exact pastItsLine_dict (Nat.le_trans hcD (by rw [List.length_cons];omega))) ?_)
 exact wpAny_pure (h _ ⟨(hs2.2 _ (Ne.symm I.ne)).trans I.obj,hn2,I.ne⟩ hs2)
theorem ZlG {R:Result->Shared->Prop} {vs:List Value} {kw:List (Str×Value)} (X:K.In s.heap) (hm:PySem.W.makesIn K C=true)
  (hi:PySem.W.findIn K (.ref C) "__init__" = some (some (.ref f))) (hf:PySem.W.typeIn K (.ref f)=some (.type "function"))
  (h:codeAny (model prog w) (A.under (.builtin "type.__call__" ⟨.ref C::vs,kw⟩)) (.call (.ref f) ⟨.ref (s.heap.objs.size+1)::vs,kw⟩) (PySem.W.InitBack (s.heap.objs.size+1) R)
   { s with heap:=(s.heap.push PySem.W.emptyDict).push (PySem.W.instObj C s.heap.objs.size) }) :
  codeAny (model prog w) A (.call (.ref C) ⟨vs,kw⟩) R s:=by
 obtain ⟨hh,g,d,t,os⟩:=s
 exact PySem.W.make_core (PySem.W.makes_of X hm) (PySem.W.looks_findIn X hi) (fun self=>PySem.W.bind_fn X self hf) (.inl rfl) h
end
noncomputable def putF (f:Str) (v:V):List (Str×V)->List (Str×V)
 | []=>[(f,v)]
 | (g,x)::r=>if g=f then (g,v)::r else (g,x)::putF f v r
theorem Zeg (f g:Str) (v:V):∀ fs:List (Str×V),(putF f v fs).lookup g=if g=f then some v else fs.lookup g
 | []=>by
  show List.lookup g [(f,v)]=_
  by_cases h:g=f
  .have hb:(g==f)=true:=beq_iff_eq.mpr h
   simp only [List.lookup,hb,if_pos h]
  .have hb:(g==f)=false:=beq_eq_false_iff_ne.mpr h
   simp only [List.lookup,hb,if_neg h]
 | (k,x)::r=>by
  have ih:=Zeg f g v r
  rw [show putF f v ((k,x)::r)=(if k=f then (k,v)::r else (k,x)::putF f v r) from rfl]
  by_cases hk:k=f
  .rw [if_pos hk]
   by_cases h:g=k
   .have hb:(g==k)=true:=beq_iff_eq.mpr h
    simp only [List.lookup,hb,if_pos (h.trans hk)]
   .have hb:(g==k)=false:=beq_eq_false_iff_ne.mpr h
    simp only [List.lookup,hb,if_neg (fun e:g=f=>h (e.trans hk.symm))]
  .rw [if_neg hk]
   by_cases h:g=k
   .have hb:(g==k)=true:=beq_iff_eq.mpr h
    simp only [List.lookup,hb,if_neg (fun e:g=f=>hk (h.symm.trans e))]
   .have hb:(g==k)=false:=beq_eq_false_iff_ne.mpr h
    simp only [List.lookup,hb]
    exact ih
theorem Zeh (f:Str) (v:V):∀ fs:List (Str×V),f∈(putF f v fs).map (·.1)/\∀ g,g∈fs.map (·.1)->g∈(putF f v fs).map (·.1)
 | []=>⟨by simp [putF],fun g h=>by simp at h⟩
 | (k,x)::r=>by
  obtain ⟨i1,i2⟩:=Zeh f v r
  rw [show putF f v ((k,x)::r)=(if k=f then (k,v)::r else (k,x)::putF f v r) from rfl]
  by_cases hk:k=f
  .rw [if_pos hk]
   subst hk
   exact ⟨by simp,fun g h=>by simpa using h⟩
  .rw [if_neg hk]
   refine ⟨?_,fun g h=>?_⟩
   .rw [List.map_cons]
    exact List.mem_cons_of_mem _ i1
   .rw [List.map_cons] at h |-
    rcases List.mem_cons.mp h with e|e
    .exact List.mem_cons.mpr (.inl e)
    .exact List.mem_cons_of_mem _ (i2 g e)
theorem Zei (f:Str) (v:V):∀ fs:List (Str×V),(putF f v fs).length<=fs.length+1
 | []=>by simp [putF]
 | (k,x)::r=>by
  have ih:=Zei f v r
  rw [show putF f v ((k,x)::r)=(if k=f then (k,v)::r else (k,x)::putF f v r) from rfl]
  by_cases hk:k=f
  .rw [if_pos hk,List.length_cons,List.length_cons];omega
  .rw [if_neg hk,List.length_cons,List.length_cons];omega
theorem RelO.some_of {v:V} {o:Option Value} (r:RelO (some v) o):∃ u,o=some u/\RelV v u:=by
 cases o with
 | none=>exact (show False from r).elim
 | some u=>exact ⟨u,rfl,r⟩
theorem RelO.none_of {o:Option Value} (r:RelO none o):o=none:=by
 cases o with
 | none=>rfl
 | some u=>exact (show False from r).elim
theorem ZjT {v:V} {u:Value} (r:RelV v u):PySem.W.handedIn u=true:=by
 cases v with
 | non=>cases (show u=Value.none from r);rfl
 | bl b=>cases (show u=Value.bool b from r);rfl
 | int i=>obtain ⟨t,e⟩:=(show ∃ t,u=Value.int i t from r);cases e;rfl
 | str x=>obtain ⟨t,e⟩:=(show ∃ t,u=Value.str x t from r);cases e;rfl
 | byt b=>obtain ⟨t,e⟩:=(show ∃ t,u=Value.bytes b t from r);cases e;rfl
 | flt b=>obtain ⟨t,e⟩:=(show ∃ t,u=Value.float b t from r);cases e;rfl
 | ref a=>cases (show u=Value.ref a from r);rfl
 | ty n=>cases (show u=Value.type n from r);rfl
section
variable {P:Program} {w:World} {H H':Hp} {h h':Heap} {a C dx:Addr} {fs fs':List (Str×V)}
theorem Zhy (hok:HOk P w H h) (e:H a=some (.ins C dx fs)):∃ mA,ObjM h a dx C mA/\(∀ f,RelO (fs.lookup f) (mA f))/\PySem.Within mA (fs.map (·.1))/\fs.length<=1000/\H dx=some (.own a):=by
 obtain ⟨d,z,ne,ob,mA,n,r,q⟩:=(show ObjOk P w H h a (.ins C dx fs) from hok a _ e)
 exact ⟨mA,⟨ob,n,ne⟩,r,q,z,d⟩
end
structure Cls (K:PySem.W.Frag) (C:Addr):Prop where
 pg:PySem.W.plainGet K C Str.empty=true
 hd:PySem.W.hasDictIn K C=true
 po:PySem.W.plainOver K C=true
 sa:PySem.W.findIn K (.ref C) "__setattr__" = some (some (.builtin "object.__setattr__"))
theorem Cls.get {K:PySem.W.Frag} {C:Addr} (c:Cls K C) (f:Str):PySem.W.plainGet K C f=true:=c.pg
noncomputable def NoAttr (K:PySem.W.Frag) (C:Addr) (f:Str):Prop:=PySem.W.findIn K (.ref C) f=some none
theorem NoAttr.taker {K:PySem.W.Frag} {C:Addr} {f:Str} (n:NoAttr K C f):PySem.W.takerIn K C f=some none:=by
 unfold PySem.W.takerIn
 rw [show PySem.W.findIn K (.ref C) f=some none from n]
 rfl
structure Con (K:PySem.W.Frag) (C:Addr) (f:Str) (v:V) (u:Value):Prop where
 at_:PySem.W.findIn K (.ref C) f=some (some u)
 rel:RelV v u
 get:PySem.W.specialIn K u "__get__" = some none
 cp:PySem.W.copiedNames.contains f=false
structure Meth (K:PySem.W.Frag) (C:Addr) (m:Str) (f:Addr):Prop where
 at_:PySem.W.findIn K (.ref C) m=some (some (.ref f))
 fn:PySem.W.isFn K (.ref f)=true
 kp:PySem.W.keepIn K (.ref f)=true
section
variable {X:Cx} {pins:List (Addr×Obj)} {σ:St} {H:Hp} {s:Shared} {a C dx:Addr} {fs:List (Str×V)} {f:Str} {v:V} {A:Around} {E:Value->Shared->Prop}
theorem Zfg {b:Bool} {Q:Value->Shared->Prop} (I:Inv X pins σ H s) (e:H a=some (.ins C dx fs)) (c:Cls X.K C) (n:NoAttr X.K C f) (l:fs.lookup f=some v)
  (h:∀ u s',Inv X pins σ H s'->RelV v u->Q u s'):wpAny (model X.prog X.w) A (getAttr (.ref a) f b) Q E s:=by
 obtain ⟨mA,O,r,_,_,_⟩:=Zhy I.hok e
 obtain ⟨u,hu,ru⟩:=RelO.some_of (v:=v) (o:=mA f) (by rw [<- l];exact r f)
 exact Znr I.kIn O (c.get f) c.hd n hu (ZjT ru) (h u _ (I.tok _) ru)
theorem Zb9 {m:Str} {g:Addr} {pl:Sem Bool} {Q:Value×List Value->Shared->Prop} (I:Inv X pins σ H s) (e:H a=some (.ins C dx fs)) (c:Cls X.K C) (k:Meth X.K C m g) (l:fs.lookup m=none)
  (h:Q (.ref g,[.ref a]) s):wpAny (model X.prog X.w) A (getMethod (.ref a) m pl) Q E s:=by
 obtain ⟨mA,O,r,_,_,_⟩:=Zhy I.hok e
 have hn:mA m=none:=RelO.none_of (by rw [<- l];exact r m)
 exact ZlF I.kIn O (c.get m) k.at_ k.fn hn h
theorem Zfh {y:V} {u:Value} {Q:Unit->Shared->Prop} (I:Inv X pins σ H s) (e:H a=some (.ins C dx fs)) (c:Cls X.K C) (n:NoAttr X.K C f) (hl:fs.length<1000) (ry:RelV y u)
  (h:∀ s',Inv X pins σ (upd H a (.ins C dx (putF f y fs))) s'->Q () s'):wpAny (model X.prog X.w) A (setAttr (.ref a) f u) Q E s:=by
 obtain ⟨mA,O,r,wi,_,ho⟩:=Zhy I.hok e
 have hz:(fs.map (·.1)).length<=sizeLine:=by rw [List.length_map,sizeLine_eq];omega
 refine Zns I.kIn O c.sa c.po n.taker c.hd wi hz fun h' O' sb=>h _ ?_
 have hd:∃ o,h'.get? dx=some o:=let ⟨o,_,_,e',_⟩:=O'.ns;⟨o,e'⟩
 refine I.write (x:=a) (e:=dx) (by rw [e];exact True.intro) (.inr ho) (fun b q hb z=>(sb.2 b hb).trans z) hd ?_
 refine ⟨by rw [Zai O.ne];exact ho,?_,O.ne,O'.obj,_,O'.ns,fun g=>?_,fun g hg=>?_⟩
 .have:=Zei f y fs;omega
 .show RelO ((putF f y fs).lookup g) (if g=f then some u else mA g)
  rw [Zeg]
  by_cases q:g=f
  .rw [if_pos q,if_pos q];exact ry
  .rw [if_neg q,if_neg q];exact r g
 .by_cases q:g=f
  .rw [q];exact (Zeh f y fs).1
  .refine (Zeh f y fs).2 g (wi g fun z=>hg ?_)
   show (if g=f then some u else mA g)=none
   rw [if_neg q];exact z
theorem Inv.made (I:Inv X pins σ H s):Inv X pins σ (upd (upd H s.heap.objs.size (.own (s.heap.objs.size+1))) (s.heap.objs.size+1) (.ins C s.heap.objs.size []))
  { s with heap:=(s.heap.push PySem.W.emptyDict).push (PySem.W.instObj C s.heap.objs.size) }:=by
 have e1:(s.heap.push PySem.W.emptyDict).get? s.heap.objs.size=some PySem.W.emptyDict:=Heap.get?_push_size s.heap rfl
 have e2:((s.heap.push PySem.W.emptyDict).push (PySem.W.instObj C s.heap.objs.size)).get? (s.heap.objs.size+1)=some (PySem.W.instObj C s.heap.objs.size):=by
  have:=Heap.get?_push_size (s.heap.push PySem.W.emptyDict) (o:=PySem.W.instObj C s.heap.objs.size) rfl
  rwa [Heap.size_push] at this
 have e3:(s.heap.push PySem.W.emptyDict).Ns s.heap.objs.size (fun _=>none):=⟨PySem.W.emptyDict,#[],_,e1,rfl,(fun e he=>absurd he (by simp)),fun _=>rfl⟩
 have I1:=I.laid (a:=s.heap.objs.size) (o:=.own (s.heap.objs.size+1)) (h':=s.heap.push PySem.W.emptyDict) (t':=s.toks) (fun b u q=>Heap.get?_push_of_some _ q) (Nat.le_refl _) ⟨_,e1⟩
 refine I1.laid (a:=s.heap.objs.size+1) (o:=.ins C s.heap.objs.size []) (t':=s.toks) (fun b u q=>Heap.get?_push_of_some _ q) (Nat.le_of_eq (Heap.size_push _ _)) ?_
 have ne:s.heap.objs.size≠s.heap.objs.size+1:=Nat.ne_of_lt (Nat.lt_succ_self _)
 refine ⟨by rw [Zai ne,Zag],Nat.zero_le _,ne,e2,fun _=>none,(Heap.Ns1.of_empty e3).at fun o q=>Heap.get?_push_of_some _ q,fun _=>True.intro,fun y hy=>absurd rfl hy⟩
theorem Znt {prog:Program} {w:World} {env:Env} {e:Expr} {f:Str} {pos:Pos} {s:Shared} {Q:Value->Shared->Prop} (hb:attributeBase e f env (eval e env)=eval e env)
  (h:wpAny (model prog w) A (eval e env) (fun o s₁=>wpAny (model prog w) A (getAttr o f true) Q E s₁) E s):wpAny (model prog w) A (eval (.Attribute e f pos) env) Q E s :=
 Attribute_any_ h (by rw [arm_eval_Attribute,hb])
end
noncomputable def tFld (K:PySem.W.Frag) (ta:TE) (f:Str):TE:=fun σ H Q=>ta σ H fun x H1=>∃ a C dx fs v,x=.ref a/\H1 a=some (.ins C dx fs)/\Cls K C/\NoAttr K C f/\fs.lookup f=some v/\Q v H1
noncomputable def sFld (K:PySem.W.Frag) (ta tv:TE) (f:Str):TS:=fun D σ H=>tv σ H fun y H1=>ta σ H1 fun x H2=>∃ a C dx fs,x=.ref a/\H2 a=some (.ins C dx fs)/\Cls K C/\NoAttr K C f/\fs.length<1000 /\
 D.nx σ (upd H2 a (.ins C dx (putF f y fs)))
noncomputable def InOp (X:Cx) (op:Operator) (rd:V->V->Hp->VK->Prop):Prop :=
 ∀ (pins:List (Addr×Obj)) (s:Shared) (σ:St) (H:Hp) (x y:V) (u v:Value) (Q:VK),Inv X pins σ H s->RelV x u->RelV y v->rd x y H Q->wpAny (model X.prog X.w) X.A (inplaceOp op u v) (EP X pins σ Q) X.xe s
noncomputable def ZjU (K:PySem.W.Frag) (ta tv:TE) (rd:V->V->Hp->VK->Prop) (f:Str):TS:=fun D σ H=>ta σ H fun x H1=>∃ a C dx fs v,x=.ref a/\H1 a=some (.ins C dx fs)/\Cls K C/\NoAttr K C f/\fs.lookup f=some v /\
 tv σ H1 fun y H2=>rd v y H2 fun z H3=>∃ dx' fs',H3 a=some (.ins C dx' fs')/\fs'.length<1000/\D.nx σ (upd H3 a (.ins C dx' (putF f z fs')))
section
variable {X:Cx} {o e value:Expr} {f:Str} {pos pos' tpos:Pos} {ta tv:TE}
theorem Zak (he:PE X e ta) (hb:attributeBase e f X.env (eval e X.env)=eval e X.env):PE X (.Attribute e f pos) (tFld X.K ta f):=by
 intro pins s σ H Q I h
 refine Znt hb (thn (he pins s σ H _ I h) fun u s1 ⟨x,H1,I1,rx,a,C,dx,fs,v,ex,ea,c,n,l,q⟩=>?_)
 subst ex
 obtain rfl:u=Value.ref a:=rx
 exact Zfg I1 ea c n l fun u' s2 I2 ru=>⟨v,H1,I2,ru,q⟩
theorem ZaT (ha:PE X o ta) (hv:PE X value tv) (hs:swapsWith value (some (.Attribute o f pos')) pos.line X.env=pure false):PS X (.Assign [.Attribute o f pos'] value pos) (sFld X.K ta tv f):=by
 intro pins s σ H D I h
 refine plainObj_wpAny_Assign_Attribute (thn (hv pins s σ H _ I h) fun u s1 ⟨y,H1,I1,ry,q⟩=>thn (ha pins s1 σ H1 _ I1 q) fun ov s2 ⟨x,H2,I2,rx,a,C,dx,fs,ex,ea,c,n,l,q2⟩=>?_) hs
 subst ex
 obtain rfl:ov=Value.ref a:=rx
 exact Zfh I2 ea c n l ry fun s3 I3=>⟨σ,_,I3,q2⟩
theorem Zcr {op:Operator} {rd:V->V->Hp->VK->Prop} (ha:PE X o ta) (hv:PE X value tv) (hop:InOp X op rd):PS X (.AugAssign (.Attribute o f tpos) op value pos) (ZjU X.K ta tv rd f):=by
 intro pins s σ H D I h
 refine wpAny_AugAssign_AttributeAny (thn (ha pins s σ H _ I h) fun ov s1 ⟨x,H1,I1,rx,a,C,dx,fs,v,ex,ea,c,n,l,q⟩=>?_)
 subst ex
 obtain rfl:ov=Value.ref a:=rx
 refine Zfg I1 ea c n l fun u s2 I2 ru=>thn (hv pins s2 σ H1 _ I2 q) fun w3 s3 ⟨y,H2,I3,ry,q3⟩=>thn (hop pins s3 σ H2 v y u w3 _ I3 ru ry q3) fun w4 s4 ⟨z,H3,I4,rz,dx',fs',ea',l',q4⟩=>?_
 exact Zfh I4 ea' c n l' rz fun s5 I5=>⟨σ,_,I5,q4⟩
noncomputable def rAdd:V->V->Hp->VK->Prop:=fun x y H Q=>∃ i j,x=.int i/\y=.int j/\Q (.int (i+j)) H
noncomputable def rSub:V->V->Hp->VK->Prop:=fun x y H Q=>∃ i j,x=.int i/\y=.int j/\Q (.int (i-j)) H
theorem Ziz:InOp X .Add rAdd:=by
 rintro pins s σ H x y u v Q I rx ry ⟨i,j,rfl,rfl,q⟩
 obtain ⟨t,rfl⟩:=(show ∃ t,u=Value.int i t from rx)
 obtain ⟨t',rfl⟩:=(show ∃ t',v=Value.int j t' from ry)
 exact PyProof.Rows.iadd_int ⟨.int (i+j),H,I.tok _,⟨_,rfl⟩,q⟩
theorem in_sub:InOp X .Sub rSub:=by
 rintro pins s σ H x y u v Q I rx ry ⟨i,j,rfl,rfl,q⟩
 obtain ⟨t,rfl⟩:=(show ∃ t,u=Value.int i t from rx)
 obtain ⟨t',rfl⟩:=(show ∃ t',v=Value.int j t' from ry)
 exact PyProof.Rows.isub_int ⟨.int (i-j),H,I.tok _,⟨_,rfl⟩,q⟩
theorem Znu {pl:Sem Bool} {m:Str} {apos:Pos} {args:List Expr} {pins:List (Addr×Obj)} {s:Shared} {σ:St} {H:Hp} {Q:Value->Shared->Prop} {te:TE} (he:PE X e te) (I:Inv X pins σ H s)
  (h:te σ H fun x H1=>∃ a C dx fs g,x=.ref a/\H1 a=some (.ins C dx fs)/\Cls X.K C/\Meth X.K C m g/\fs.lookup m=none /\
   ∀ s1,Inv X pins σ H1 s1->wpAny (model X.prog X.w) X.A (callWith pos (.ref g) [.ref a] (backTo pos (starEach args X.env)) (backToKw pos (keywordEach [] X.env))) Q X.xe s1)
  (ht:eval (.Call (.Attribute e m apos) args [] pos) X.env=(do
   let ov <- eval e X.env
   standAt apos.atName
   let (f,first) <- holding [ov] (getMethod ov m pl)
   callWith pos f first (backTo pos (starEach args X.env)) (backToKw pos (keywordEach [] X.env)))) :
  wpAny (model X.prog X.w) X.A (eval (.Call (.Attribute e m apos) args [] pos) X.env) Q X.xe s:=by
 refine PySem.W.methodCall_KW (pl:=pl) (thn (he pins s σ H _ I h) fun u s1 ⟨x,H1,I1,rx,a,C,dx,fs,g,ex,ea,c,k,l,q⟩=>?_) ht
 subst ex
 obtain rfl:u=Value.ref a:=rx
 exact Zb9 I1 ea c k l (q s1 I1)
end
section
variable {X:Cx} {pins:List (Addr×Obj)} {σ:St} {H:Hp} {s:Shared} {A:Around} {E:Value->Shared->Prop} {Q:Value->Shared->Prop} {c:Value} {b:Bool}
inductive TyOf (K:PySem.W.Frag) (H:Hp):V->Value->Prop where
 | non:TyOf K H .non (.type "NoneType")
 | bl (x:Bool):TyOf K H (.bl x) (.type "bool")
 | int (i:Int):TyOf K H (.int i) (.type "int")
 | str (x:Str):TyOf K H (.str x) (.type "str")
 | flt (x:UInt64):TyOf K H (.flt x) (.type "float")
 | lst {a:Addr} {xs:List V} (e:H a=some (.lst xs)):TyOf K H (.ref a) (.type "list")
 | frz {a:Addr} {o:Obj} {xs:List V} (e:H a=some (.frz o (.lst xs))):TyOf K H (.ref a) (.type "list")
 | tup {a:Addr} {xs:List V} (e:H a=some (.tup xs)):TyOf K H (.ref a) (.type "tuple")
 | dK {a:Addr} {kvs:List (Key×V)} (e:H a=some (.dK kvs)):TyOf K H (.ref a) (.type "dict")
 | dT {a:Addr} {kvs:List (List Key×V)} (e:H a=some (.dT kvs)):TyOf K H (.ref a) (.type "dict")
 | ins {a C dx:Addr} {fs:List (Str×V)} (e:H a=some (.ins C dx fs)) (cl:Cls K C) (ha:PySem.W.findIn K (.ref C) "__class__" = some (some (.builtin "object.__class__")))
   (hn:PySem.W.specialIn K (.builtin "object.__class__") "__get__" = some (some (.builtin "getset_descriptor.__get__"))) (htk:PySem.W.takesIn K (.builtin "object.__class__")=some true)
   (hm:PySem.W.mroIn K C (.type "object")=some true):TyOf K H (.ref a) (.ref C)
end
structure Room (k:Nat) (A:Around):Prop where
 hd:A.handled=none
 dp:A.depth+3*k+5<recursionLimit
 un:A.units+16*k+200<cLine
theorem Room.mono {j k:Nat} {A:Around} (r:Room k A) (h:j<=k):Room j A:=⟨r.hd,by have:=r.dp;omega,by have:=r.un;omega⟩
theorem Room.deeper {k:Nat} {A:Around} (r:Room (k+1) A) (env:Env):Room k (A.deeper env) :=
 ⟨r.hd,by have:=r.dp;show A.depth+1+3*k+5<_;omega,by have:=r.un;show A.units+3+16*k+200<_;omega⟩
theorem Room.in1 {k:Nat} {A:Around} (r:Room (k+1) A):Room k A.in1 :=
 ⟨r.hd,by have:=r.dp;show A.depth+3*k+5<_;omega,by have:=r.un;show A.units+1+16*k+200<_;omega⟩
theorem Zi9 {A:Around} {C:Addr} {us:List Value} {kw:List (Str×Value)}:(A.under (.builtin "type.__call__" ⟨.ref C::us,kw⟩)).depth=A.depth+1:=by
 first|rfl|simp [Around.under,Code.weight,Code.isCreation,Code.isGuard,Code.isCaller,Code.frames,Code.isFrame,guardIds]
theorem Zja {A:Around} {C:Addr} {us:List Value} {kw:List (Str×Value)}:(A.under (.builtin "type.__call__" ⟨.ref C::us,kw⟩)).units=A.units+1:=by
 first|rfl|simp [Around.under,Code.cUnits,Code.frames,Code.isFrame]
theorem Room.make {k:Nat} {A:Around} (r:Room (k+1) A) (C:Addr) (us:List Value) (kw:List (Str×Value)):Room k (A.under (.builtin "type.__call__" ⟨.ref C::us,kw⟩)) :=
 ⟨r.hd,by have:=r.dp;rw [Zi9];omega,by have:=r.un;rw [Zja];omega⟩
theorem Room.depth {k:Nat} {A:Around} (r:Room k A):A.depth<recursionLimit:=by have:=r.dp;omega
theorem Room.units {k:Nat} {A:Around} (r:Room k A):A.units+64<cLine:=by have:=r.un;omega
noncomputable def tNil:TA:=fun _ H Q=>Q [] H
noncomputable def tCons (ta:TE) (tr:TA):TA:=fun σ H Q=>ta σ H fun x H1=>tr σ H1 fun xs H2=>Q (x::xs) H2
section
variable {X:Cx} {e:Expr} {es:List Expr} {te:TE} {t:TA} {pos:Pos}
theorem Zac:PA X [] tNil:=fun _ _ _ _ H Q I h=>Calls.spliced_nil ⟨[],H,I,.nil,h⟩
theorem Zaa (ha:PE X e te) (hr:PA X es t) (hs:starEach (e::es) X.env=(false,eval e X.env)::starEach es X.env:=by rfl):PA X (e::es) (tCons te t):=by
 intro pos pins s σ H Q I h
 rw [hs]
 show wpAny _ _ (spliced ((false,eval e X.env)::backTo pos (starEach es X.env))) _ _ s
 refine Calls.spliced_cons (thn (ha pins s σ H _ I h) fun u s1 ⟨x,H1,I1,r1,q1⟩=>?_)
 exact thn (hr pos pins s1 σ H1 _ I1 q1) fun us s2 ⟨xs,H2,I2,r2,q2⟩=>⟨x::xs,H2,I2,.cons r1 r2,q2⟩
noncomputable def tTup (t:TA):TE:=fun σ H Q=>t σ H fun xs H1=>xs.length<=sizeLine/\∀ p,H1 p=none->Q (.ref p) (upd H1 p (.tup xs))
noncomputable def tLst (t:TA):TE:=fun σ H Q=>t σ H fun xs H1=>xs.length<=sizeLine/\∀ p,H1 p=none->Q (.ref p) (upd H1 p (.lst xs))
theorem ZaG {x1} (h:PA X es t):PE X (.Tuple es x1 pos) (tTup t):=by
 intro pins s σ H Q I hq
 refine wpAny_Tuple_spliced (thn (h pos pins s σ H _ I hq) fun us s1 ⟨xs,H1,I1,r,z,q⟩=>⟨by rw [<- r.length];exact z,?_⟩)
 have hf:H1 s1.heap.objs.size=none:=I1.hok.fresh (Nat.le_refl _)
 refine ⟨.ref s1.heap.objs.size,upd H1 s1.heap.objs.size (.tup xs),I1.laid (t':=s1.toks) (fun b u e=>Heap.get?_push_of_some _ e) (Nat.le_refl _) ?_,rfl,q _ hf⟩
 exact ⟨z,us,r,⟨_,Heap.get?_push_size _ rfl,rfl,_,rfl⟩⟩
theorem ZaO (h:PA X es t):PE X (.List es pos) (tLst t):=by
 intro pins s σ H Q I hq
 refine wpAny_List_spliced (thn (h pos pins s σ H _ I hq) fun us s1 ⟨xs,H1,I1,r,z,q⟩=>⟨by rw [<- r.length];exact z,?_⟩)
 have hf:H1 s1.heap.objs.size=none:=I1.hok.fresh (Nat.le_refl _)
 refine ⟨.ref s1.heap.objs.size,upd H1 s1.heap.objs.size (.lst xs),I1.laid (t':=s1.toks) (fun b u e=>Heap.get?_push_of_some _ e) (Nat.le_refl _) ?_,rfl,q _ hf⟩
 exact ⟨z,us,0,r,Heap.get?_push_size _ rfl⟩
end
noncomputable abbrev Sp:=List V->Hp->VK->XK->Prop
noncomputable abbrev CXT:=List Env->Hp->Shared->XK->Value->Shared->Prop
structure Env0 (P:Program) (w:World) (K:PySem.W.Frag) (mg:Str->Option Value) (base:Heap) (A:Around) (outer:List Env) (s:Shared) (H:Hp):Prop where
 frames:A.frames=some outer
 mod:Mod K mg base
 bs:∀ b o,base.get? b=some o->s.heap.get? b=some o/\H b=none
 bsz:base.objs.size<=s.heap.objs.size
 funs:s.heap.FunFrames base outer
 frf:∀ b∈frs outer,H b=none
 hok:HOk P w H s.heap
 bare:AllBare s.gens
noncomputable def CE (outer:List Env) (P:Program) (w:World) (H:Hp) (s:Shared) (Q:VK) (u:Value) (s':Shared):Prop :=
 ∃ v H',s'.os=s.os/\AllBare s'.gens/\Un (frs outer) [] H H' s.heap s'.heap/\HOk P w H' s'.heap/\RelV v u/\Q v H'
noncomputable def CR (CX:CXT) (outer:List Env) (P:Program) (w:World) (H:Hp) (s:Shared) (Q:VK) (E:XK) (r:Result) (s':Shared):Prop :=
 match r with
 | .ok (.ret u)=>CE outer P w H s Q u s'
 | .ok _=>False
 | .error e=>CX outer H s E e s'
structure FnOk (P:Program) (w:World) (K:PySem.W.Frag) (mg:Str->Option Value) (base:Heap) (CX:CXT) (k:Nat) (f:Addr) (fd:FuncData) (ps:List Str) (sp:Sp):Prop where
 len:∀ vs H Q E,sp vs H Q E->vs.length=ps.length
 run:∀ (A:Around) (outer:List Env) (s:Shared) (H:Hp) (args:Args) (us:List Value) (vs:List V) (Q:VK) (E:XK),Room k A->Env0 P w K mg base A outer s H->BindsTo s fd args (ps.zip us)->Vals vs us->sp vs H Q E ->
  codeAny (model P w) A (.call (.ref f) args) (CR CX outer P w H s Q E) s
theorem FnOk.mono {P:Program} {w:World} {K:PySem.W.Frag} {mg:Str->Option Value} {base:Heap} {CX:CXT} {j k:Nat} {f:Addr} {fd:FuncData} {ps:List Str} {sp:Sp} (F:FnOk P w K mg base CX j f fd ps sp) (h:j<=k) :
  FnOk P w K mg base CX k f fd ps sp:=⟨F.len,fun A outer s H args us vs Q E hr=>F.run A outer s H args us vs Q E (hr.mono h)⟩
theorem FnOk.imp {P:Program} {w:World} {K:PySem.W.Frag} {mg:Str->Option Value} {base:Heap} {CX:CXT} {k:Nat} {f:Addr} {fd:FuncData} {ps:List Str} {sp sp':Sp} (F:FnOk P w K mg base CX k f fd ps sp)
  (h:∀ vs H Q E,sp' vs H Q E->sp vs H Q E):FnOk P w K mg base CX k f fd ps sp' :=
 ⟨fun vs H Q E q=>F.len vs H Q E (h _ _ _ _ q),fun A outer s H args us vs Q E hr he hb hv hs=>F.run A outer s H args us vs Q E hr he hb hv (h _ _ _ _ hs)⟩
theorem Env0.make {P:Program} {w:World} {K:PySem.W.Frag} {mg:Str->Option Value} {base:Heap} {A:Around} {outer:List Env} {s:Shared} {H:Hp} (e:Env0 P w K mg base A outer s H) (C:Addr) (us:List Value) (kw:List (Str×Value)) :
  Env0 P w K mg base (A.under (.builtin "type.__call__" ⟨.ref C::us,kw⟩)) outer s H:=⟨by first|exact e.frames|(simpa [Around.under,Code.envs,Code.isFrame,pushEnvs] using e.frames),e.mod,e.bs,e.bsz,e.funs,e.frf,e.hok,e.bare⟩
theorem Env0.in1 {P:Program} {w:World} {K:PySem.W.Frag} {mg:Str->Option Value} {base:Heap} {A:Around} {outer:List Env} {s:Shared} {H:Hp} (e:Env0 P w K mg base A outer s H) :
  Env0 P w K mg base A.in1 outer s H:=⟨e.frames,e.mod,e.bs,e.bsz,e.funs,e.frf,e.hok,e.bare⟩
section
variable {X:Cx} {pins:List (Addr×Obj)} {σ:St} {H:Hp} {s s':Shared}
theorem Inv.env0 (I:Inv X pins σ H s):Env0 X.prog X.w X.K X.mg X.base X.A X.stack s H :=
 ⟨I.ok.frames,I.ok.mod,I.bs,Nat.le_trans I.ok.bsz I.sz,I.stack,I.stkFree,I.hok,I.bare⟩
theorem Inv.after {Q:VK} {u:Value} (I:Inv X pins σ H s) (h:CE X.stack X.prog X.w H s Q u s'):EP X pins σ Q u s':=by
 obtain ⟨v,H',os,bare,un,hok,r,q⟩:=h
 obtain ⟨hh,g,d,t,os'⟩:=s'
 obtain rfl:os'=s.os:=os
 exact ⟨v,H',I.call (h':=hh) (g':=g) (d':=d) (t':=t) (ch:=[]) un hok bare (fun b z=>absurd z (by simp)),r,q⟩
end
noncomputable def tCall (sp:Sp) (dvs:List V) (E:XK) (t:TA):TE:=fun σ H Q=>t σ H fun vs H1=>sp (vs++dvs) H1 Q E
noncomputable def tMeth (C:Addr) (m:Str) (sp:Sp) (dvs:List V) (E:XK) (ta:TE) (t:TA):TE:=fun σ H Q=>ta σ H fun x H1=>∃ a dx fs,x=.ref a/\H1 a=some (.ins C dx fs)/\fs.lookup m=none /\
 t σ H1 fun vs H2=>sp (x::(vs++dvs)) H2 Q E
noncomputable def tMake (C:Addr) (sp:Sp) (dvs:List V) (E:XK) (t:TA):TE:=fun σ H Q=>t σ H fun vs H1=>∀ x dx,H1 x=none->H1 dx=none->dx≠x ->
 sp (.ref x::(vs++dvs)) (upd (upd H1 dx (.own x)) x (.ins C dx [])) (fun v H2=>v=.non/\Q (.ref x) H2) E
noncomputable def Binds (K:PySem.W.Frag) (fd:FuncData) (ps:List Str) (ds:List Value):Prop :=
 ∀ (s:Shared) (us:List Value),K.In s.heap->(us++ds).length=ps.length->BindsTo s fd ⟨us,[]⟩ (ps.zip (us++ds))
theorem Binds.all {K:PySem.W.Frag} {fd:FuncData} {ps:List Str} (h:∀ us:List Value,us.length=ps.length->bindArgs fd ⟨us,[]⟩=pure (ps.zip us)):Binds K fd ps []:=fun s us _ hl=>by
 rw [List.append_nil] at hl |-
 exact .of_eq (h us hl)
noncomputable def Zej (CX:CXT) (X:Cx) (E:XK):Prop:=∀ (pins:List (Addr×Obj)) (σ:St) (H:Hp) (s:Shared) (e:Value) (s':Shared),Inv X pins σ H s->CX X.stack H s E e s'->X.xe e s'
section
variable {X:Cx} {CX:CXT} {k:Nat} {f C:Addr} {fd:FuncData} {ps:List Str} {sp:Sp} {dvs:List V} {ds:List Value} {E:XK} {x m:Str} {p pos apos:Pos} {e o:Expr} {es:List Expr} {ta:TE} {t:TA}
theorem Zfi {pins:List (Addr×Obj)} {σ:St} {H:Hp} {s:Shared} {Q:VK} {us:List Value} {vs:List V} (F:FnOk X.prog X.w X.K X.mg X.base CX k f fd ps sp) (hr:Room k X.A) (hb:Binds X.K fd ps ds) (hd:Vals dvs ds) (hx:Zej CX X E)
  (I:Inv X pins σ H s) (r:Vals vs us) (h:sp (vs++dvs) H Q E):wpAny (model X.prog X.w) X.A (call (.ref f) us) (EP X pins σ Q) X.xe s:=by
 have r2:Vals (vs++dvs) (us++ds):=r.append hd
 have hl:(us++ds).length=ps.length:=by rw [<- r2.length];exact F.len _ _ _ _ h
 refine wpAny_call (codeAny_mono (F.run X.A X.stack s H ⟨us,[]⟩ (us++ds) (vs++dvs) Q E hr I.env0 (hb s us I.kIn hl) r2 h) fun r s' hq=>?_)
 cases r with
 | error e=>exact hx pins σ H s e s' I hq
 | ok fl =>
  cases fl with
  | ret u=>exact I.after hq
  | next=>exact False.elim hq
  | brk=>exact False.elim hq
  | cont=>exact False.elim hq
theorem ZjV (F:FnOk X.prog X.w X.K X.mg X.base CX k f fd ps sp) (hr:Room k X.A) (hg:Gl X x) (hm:X.mg x=some (.ref f)) (hk:PySem.W.keepIn X.K (.ref f)=true) (hb:Binds X.K fd ps ds) (hd:Vals dvs ds) (hx:Zej CX X E)
  (ha:PA X (e::es) t) (hdb:(x==("__debug__" : Str))=false:=by decide) (he:starEach (e::es) X.env=(false,eval e X.env)::starEach es X.env:=by rfl) (hpl:(backTo pos (starEach es X.env)).any (·.1)=false:=by rfl) :
  PE X (.Call (.Name x p) (e::es) [] pos) (tCall sp dvs E t):=by
 intro pins s σ H Q I h
 refine wpAny_Call_Name_kw (Zhv I hg hm ?_ hdb)
 refine PySem.W.callWith_K (h₀:=X.base) I.ok.mod.kin hk (thn (ha pos pins s σ H _ I h) fun us s1 ⟨vs,H1,I1,r,q⟩=>⟨I1.kIn,?_⟩) he hpl
 exact Zfi F hr hb hd hx I1 r q
theorem Znv {pl:Sem Bool} (he:PE X o ta) (c:Cls X.K C) (hm:Meth X.K C m f) (F:FnOk X.prog X.w X.K X.mg X.base CX k f fd ps sp) (hr:Room k X.A) (hb:Binds X.K fd ps ds) (hd:Vals dvs ds) (hx:Zej CX X E) (ha:PA X (e::es) t)
  (hst:starEach (e::es) X.env=(false,eval e X.env)::starEach es X.env:=by rfl) (hpl:(backTo pos (starEach es X.env)).any (·.1)=false:=by rfl)
  (ht:eval (.Call (.Attribute o m apos) (e::es) [] pos) X.env=(do
   let ov <- eval o X.env
   standAt apos.atName
   let (f,first) <- holding [ov] (getMethod ov m pl)
   callWith pos f first (backTo pos (starEach (e::es) X.env)) (backToKw pos (keywordEach [] X.env))):=by rfl) :
  PE X (.Call (.Attribute o m apos) (e::es) [] pos) (tMeth C m sp dvs E ta t):=by
 intro pins s σ H Q I h
 refine PySem.W.methodCall_KW (pl:=pl) (thn (he pins s σ H _ I h) fun u s1 ⟨x,H1,I1,rx,a,dx,fs,ex,ea,l,q⟩=>?_) ht
 subst ex
 obtain rfl:u=Value.ref a:=rx
 refine Zb9 I1 ea c hm l ?_
 refine PySem.W.callWith_K (first:=[.ref a]) (h₀:=X.base) I.ok.mod.kin hm.kp (thn (ha pos pins s1 σ H1 _ I1 q) fun us s2 ⟨vs,H2,I2,r,q2⟩=>⟨I2.kIn,?_⟩) hst hpl
 exact Zfi (us:=.ref a::us) (vs:=.ref a::vs) F hr hb hd hx I2 (.cons rfl r) q2
theorem ZlH {pl:Sem Bool} (he:PE X o ta) (c:Cls X.K C) (hm:Meth X.K C m f) (F:FnOk X.prog X.w X.K X.mg X.base CX k f fd ps sp) (hr:Room k X.A) (hb:Binds X.K fd ps ds) (hd:Vals dvs ds) (hx:Zej CX X E)
  (ht:eval (.Call (.Attribute o m apos) [] [] pos) X.env=(do
   let ov <- eval o X.env
   standAt apos.atName
   let (f,first) <- holding [ov] (getMethod ov m pl)
   callWith pos f first (backTo pos (starEach [] X.env)) (backToKw pos (keywordEach [] X.env))):=by rfl) :
  PE X (.Call (.Attribute o m apos) [] [] pos) (tMeth C m sp dvs E ta tNil):=by
 intro pins s σ H Q I h
 refine PySem.W.methodCall_KW (pl:=pl) (thn (he pins s σ H _ I h) fun u s1 ⟨x,H1,I1,rx,a,dx,fs,ex,ea,l,q⟩=>?_) ht
 subst ex
 obtain rfl:u=Value.ref a:=rx
 refine Zb9 I1 ea c hm l ?_
 exact PySem.W.callWith_K0 (first:=[.ref a]) I1.kIn hm.kp (Zfi (us:=[.ref a]) (vs:=[.ref a]) F hr hb hd hx I1 (.cons rfl .nil) q)
structure Mk (K:PySem.W.Frag) (C f:Addr):Prop where
 makes:PySem.W.makesIn K C=true
 init:PySem.W.findIn K (.ref C) "__init__" = some (some (.ref f))
 fn:PySem.W.isFn K (.ref f)=true
 kp:PySem.W.keepIn K (.ref C)=true
theorem ZlI {pins:List (Addr×Obj)} {σ:St} {H:Hp} {s:Shared} {Q:VK} {us:List Value} {vs:List V} (M:Mk X.K C f) (F:FnOk X.prog X.w X.K X.mg X.base CX k f fd ps sp) (hr:Room (k+1) X.A) (hb:Binds X.K fd ps ds) (hd:Vals dvs ds)
  (hx:Zej CX X E) (I:Inv X pins σ H s) (r:Vals vs us)
  (h:∀ x dx,H x=none->H dx=none->dx≠x->sp (.ref x::(vs++dvs)) (upd (upd H dx (.own x)) x (.ins C dx [])) (fun v H2=>v=.non/\Q (.ref x) H2) E) :
  wpAny (model X.prog X.w) X.A (call (.ref C) us) (EP X pins σ Q) X.xe s:=by
 have hq:=h (s.heap.objs.size+1) s.heap.objs.size (I.hok.fresh (Nat.le_succ _)) (I.hok.fresh (Nat.le_refl _)) (Nat.ne_of_lt (Nat.lt_succ_self _))
 have I2:=Inv.made (C:=C) I
 have r2:Vals (V.ref (s.heap.objs.size+1)::(vs++dvs)) (Value.ref (s.heap.objs.size+1)::(us++ds)):=.cons rfl (r.append hd)
 have hl:(Value.ref (s.heap.objs.size+1)::us++ds).length=ps.length:=by
  have e:=r2.length
  rw [F.len _ _ _ _ hq] at e
  exact e.symm
 refine wpAny_call (ZlG (f:=f) I.kIn M.makes M.init (beq_iff_eq.mp M.fn) (codeAny_mono (F.run _ X.stack _ _ ⟨Value.ref (s.heap.objs.size+1)::us,[]⟩ (Value.ref (s.heap.objs.size+1)::(us++ds)) _ _ E (hr.make C us [])
  (I2.env0.make C us []) (hb _ (Value.ref (s.heap.objs.size+1)::us) I2.kIn hl) r2 hq) fun r s' hq'=>?_))
 cases r with
 | error e=>exact hx pins σ _ _ e s' I2 hq'
 | ok fl =>
  cases fl with
  | ret u =>
   obtain ⟨v,H',I3,rv,ev,q3⟩:=I2.after hq'
   subst ev
   exact ⟨rv,⟨V.ref (s.heap.objs.size+1),H',I3,rfl,q3⟩⟩
  | next=>exact False.elim hq'
  | brk=>exact False.elim hq'
  | cont=>exact False.elim hq'
theorem ZjW (M:Mk X.K C f) (F:FnOk X.prog X.w X.K X.mg X.base CX k f fd ps sp) (hr:Room (k+1) X.A) (hg:Gl X x) (hm:X.mg x=some (.ref C)) (hb:Binds X.K fd ps ds) (hd:Vals dvs ds) (hx:Zej CX X E)
  (ha:PA X (e::es) t) (hdb:(x==("__debug__" : Str))=false:=by decide) (he:starEach (e::es) X.env=(false,eval e X.env)::starEach es X.env:=by rfl) (hpl:(backTo pos (starEach es X.env)).any (·.1)=false:=by rfl) :
  PE X (.Call (.Name x p) (e::es) [] pos) (tMake C sp dvs E t):=by
 intro pins s σ H Q I h
 refine wpAny_Call_Name_kw (Zhv I hg hm ?_ hdb)
 refine PySem.W.callWith_K (h₀:=X.base) I.ok.mod.kin M.kp (thn (ha pos pins s σ H _ I h) fun us s1 ⟨vs,H1,I1,r,q⟩=>⟨I1.kIn,?_⟩) he hpl
 exact ZlI M F hr hb hd hx I1 r q
end
section
variable {X:Cx} {CX:CXT} {k:Nat} {f C:Addr} {fd:FuncData} {ps ks:List Str} {sp:Sp} {E:XK} {x m:Str} {p pos apos kpos:Pos} {e o:Expr} {es:List Expr} {kws:List Keyword} {te ta:TE} {t tk:TA} {nm:Option Str}
structure KBinds (K:PySem.W.Frag) (fd:FuncData) (ps ks:List Str) (g:List Value->List Value->List Value) (gV:List V->List V->List V):Prop where
 to:∀ (s:Shared) (us ws:List Value),K.In s.heap->(g us ws).length=ps.length->BindsTo s fd ⟨us,ks.zip ws⟩ (ps.zip (g us ws))
 rel:∀ {vs:List V} {us:List Value} {zs:List V} {ws:List Value},Vals vs us->Vals zs ws->Vals (gV vs zs) (g us ws)
variable {g:List Value->List Value->List Value} {gV:List V->List V->List V}
end
structure FnScope (N P:List Str) (sc:Scope):Prop where
 kind:sc.kind=.function
 co:sc.isCoroutine=false
 gen:sc.isGenerator=false
 nd:N.Nodup
 pre:N.take P.length=P
 par:∀ x∈P,sc.names.lookup x=some .local\/sc.names.lookup x=some .cell
 nofree:∀ y∈sc.names,y.2≠.free
theorem Zgj {kindOf:Str->Option NameKind} {x:Str}:∀ {binds:List (Str×Value)} {m:Str->Option Value},(∀ v,(x,v)∉binds)->bindL kindOf binds m x=m x
 | [],_,_=>rfl
 | (n,v)::r,m,h=>by
  unfold bindL
  rw [Zgj fun w hw=>h w (List.mem_cons_of_mem _ hw)]
  split
  .have:x≠n:=by rintro rfl;exact h v List.mem_cons_self
   simp [this]
  .rfl
theorem Zgk {kindOf:Str->Option NameKind} {x:Str}:∀ {binds:List (Str×Value)} {m:Str->Option Value},(∀ v,(x,v)∉binds)->bindC kindOf binds m x=m x
 | [],_,_=>rfl
 | (n,v)::r,m,h=>by
  unfold bindC
  rw [Zgk fun w hw=>h w (List.mem_cons_of_mem _ hw)]
  split
  .rfl
  .have:x≠n:=by rintro rfl;exact h v List.mem_cons_self
   simp [this]
theorem Zgl {kindOf:Str->Option NameKind} {x:Str} {v:Value}:∀ {P:List Str} {vs:List Value} {i:Nat} {m:Str->Option Value},P.Nodup->P[i]?=some x->vs[i]?=some v->kindOf x=some .local ->
  bindL kindOf (P.zip vs) m x=some v
 | [],_,_,_,_,h,_,_=>by simp at h
 | _::_,[],_,_,_,_,h,_=>by simp at h
 | p::P,w::vs,0,m,nd,h1,h2,hk=>by
  simp at h1 h2;subst h1;subst h2
  show bindL kindOf ((p,w)::P.zip vs) m p=_
  unfold bindL
  rw [Zgj fun v hv=>(List.nodup_cons.mp nd).1 (List.of_mem_zip hv).1,if_pos hk]
  simp
 | p::P,w::vs,i+1,m,nd,h1,h2,hk=>by
  show bindL kindOf ((p,w)::P.zip vs) m x=_
  unfold bindL
  exact Zgl (i:=i) (List.nodup_cons.mp nd).2 (by simpa using h1) (by simpa using h2) hk
theorem Zgm {kindOf:Str->Option NameKind} {x:Str} {v:Value}:∀ {P:List Str} {vs:List Value} {i:Nat} {m:Str->Option Value},P.Nodup->P[i]?=some x->vs[i]?=some v->kindOf x≠some .local ->
  bindC kindOf (P.zip vs) m x=some v
 | [],_,_,_,_,h,_,_=>by simp at h
 | _::_,[],_,_,_,_,h,_=>by simp at h
 | p::P,w::vs,0,m,nd,h1,h2,hk=>by
  simp at h1 h2;subst h1;subst h2
  show bindC kindOf ((p,w)::P.zip vs) m p=_
  unfold bindC
  rw [Zgk fun v hv=>(List.nodup_cons.mp nd).1 (List.of_mem_zip hv).1,if_neg hk]
  simp
 | p::P,w::vs,i+1,m,nd,h1,h2,hk=>by
  show bindC kindOf ((p,w)::P.zip vs) m x=_
  unfold bindC
  exact Zgm (i:=i) (List.nodup_cons.mp nd).2 (by simpa using h1) (by simpa using h2) hk
noncomputable def start (N:List Str) (vs:List V):St:=vs.map some++List.replicate (N.length-vs.length) none
noncomputable def cxOf (CX:CXT) (P:Program) (w:World) (K:PySem.W.Frag) (mg:Str->Option Value) (base:Heap) (N:List Str) (qual:Str) (scope:Scope) (f:Addr) (cd:Value) (A:Around) (outer:List Env) (s:Shared) (H:Hp) (E:XK):Cx where
 prog:=P
 w:=w
 K:=K
 mg:=mg
 base:=base
 A:=A.deeper (envOfC qual scope s.heap.objs.size f cd)
 N:=N
 s₀:=s
 H₀:=H
 env:=envOfC qual scope s.heap.objs.size f cd
 outer:=outer
 stack:=envOfC qual scope s.heap.objs.size f cd::outer
 ex:=[]
 calm:=true
 fn:=fun _=>true
 pn:=[]
 xe:=fun e s'=>wpAny (model P w) (A.deeper (envOfC qual scope s.heap.objs.size f cd)) (leaving (envOfC qual scope s.heap.objs.size f cd) e) (fun _ s''=>CX outer H s E e s'') (fun e' s''=>CX outer H s E e' s'') s'
theorem ZiA {sc:Scope} {n:Nat} {x:Str} (h:sc.names.lookup x=some .cell):∃ c,(cellsFrom n sc.names []).lookup x=some c:=by
 have q:=PySem.W.cellsFrom_some sc.names n [] (.inl h)
 exact Option.isSome_iff_exists.mp q
theorem ZjX {CX:CXT} {P:Program} {w:World} {K:PySem.W.Frag} {mg:Str->Option Value} {base:Heap} {N ps:List Str} {qual:Str} {scope:Scope} {f:Addr} {cd:Value} {A:Around} {outer:List Env} {s s1:Shared} {H:Hp} {E:XK} {us:List Value} {vs:List V}
  (S:FnScope N ps scope) (hd:A.handled=none) (e0:Env0 P w K mg base A outer s H) (hl:vs.length=ps.length) (r:Vals vs us)
  (x:InCallC s s.heap.objs.size (bindL (envOfC qual scope s.heap.objs.size f cd).kindOf (ps.zip us) fun _=>none) (cellsFrom (s.heap.objs.size+1) scope.names []) (bindC (envOfC qual scope s.heap.objs.size f cd).kindOf (ps.zip us) fun _=>none) s1) :
  Inv (cxOf CX P w K mg base N qual scope f cd A outer s H E) [] (start N vs) H s1:=by
 have hpl:ps.length<=N.length:=by have:=congrArg List.length S.pre;rw [List.length_take] at this;omega
 obtain ⟨h1,tk,rfl,hk⟩:=x.done
 have noA:∀ b:Addr,b∉(cxOf CX P w K mg base N qual scope f cd A outer s H E).ex:=fun b z=>absurd (show b∈([]:List Addr) from z) (by simp)
 refine ⟨⟨e0.mod,S.kind,rfl,rfl,Nat.le_refl _,fun y z c h1 h2=>?_,fun y hy=>?_,fun y c _ h=>?_,fun _=>hd,Around.frames_deeper e0.frames,.inr ⟨rfl,rfl⟩,fun b z=>absurd z (noA b),e0.bs,e0.bsz,fun b _ _=>noA b,fun b z=>absurd z (noA b),e0.funs,e0.frf⟩,
  rfl,e0.bare,Un.kept hk,⟨_,x.toInCall.ns,fun i y v h1 h2 h3=>?_⟩,fun y c h=>⟨_,x.cell y c h⟩,e0.hok.fresh (Nat.le_refl _),fun y c h=>?_,fun p hp=>absurd (show p∈([]:List (Addr×Obj)) from hp) (by simp),e0.hok.kept hk,?_⟩
 .exact name_of_addr x.apart (PySem.mem_of_lookup h1) (PySem.mem_of_lookup h2)
 .have hy:scope.names.lookup y=some .cell\/scope.names.lookup y=some .free:=hy
  rcases hy with hy|hy
  .exact ZiA hy
  .exact absurd rfl (S.nofree _ (PySem.mem_of_lookup hy))
 .exact Nat.le_of_lt (x.above y c (PySem.mem_of_lookup h))
 .have hi:i<vs.length:=by
   unfold start at h2
   by_cases hi:i<vs.length
   .exact hi
   .rw [List.getElem?_append_right (by simpa using hi)] at h2
    rw [List.getElem?_replicate] at h2
    split at h2<;>cases h2
  have ha:vs[i]?=some v:=by
   unfold start at h2
   rw [List.getElem?_append_left (by simpa using hi),List.getElem?_map] at h2
   cases e:vs[i]? with
   | none=>rw [e] at h2;cases h2
   | some a=>rw [e] at h2;cases h2;rfl
  obtain ⟨u,hu,rv⟩:=r.get ha
  have hp:ps[i]?=some y:=by
   rw [<- S.pre,List.getElem?_take_of_lt (by omega)];exact h1
  have ndP:ps.Nodup:=by rw [<- S.pre];exact S.nd.sublist (List.take_sublist _ _)
  refine ⟨u,rv,?_⟩
  rcases S.par y (List.mem_of_getElem? hp) with k|k
  .exact .inl ⟨k,Zgl ndP hp hu k⟩
  .obtain ⟨c,e⟩:=ZiA (n:=s.heap.objs.size+1) k
   refine .inr ⟨.inl k,c,e,?_⟩
   have q:=x.cell y c e
   rw [Zgm ndP hp hu (by show scope.names.lookup y≠_;rw [k];decide)] at q
   exact q
 .exact e0.hok.fresh (Nat.le_of_lt (x.above y c (PySem.mem_of_lookup h)))
 .unfold start
  show _=N.length
  rw [List.length_append,List.length_map,List.length_replicate]
  omega
theorem fn_of {CX:CXT} {P:Program} {w:World} {K:PySem.W.Frag} {mg:Str->Option Value} {base:Heap} {k:Nat} {f:Addr} {name qual:Str} {params:Arguments} {body:List Stmt} {scope:Scope} {dV kV doc pm cdv ct oc:Value} {an od:Option Addr}
  {osl:Array (Option Value)} {N ps:List Str} {sp:Sp} (lk:K.lookup f=some ⟨oc,od,.func (PySem.W.fnOf name qual params body scope dV kV doc pm an cdv ct),osl⟩) (hcd:PySem.W.codeIn K cdv qual=true) (S:FnScope N ps scope)
  (len:∀ vs H Q E,sp vs H Q E->vs.length=ps.length)
  (hbody:∀ (A:Around) (outer:List Env) (s:Shared) (H:Hp) (vs:List V) (Q:VK) (E:XK),Room k (A.deeper (envOfC qual scope s.heap.objs.size f cdv))->sp vs H Q E ->
   ∃ t,PSs (cxOf CX P w K mg base N qual scope f cdv A outer s H E) body t/\t { nx:=fun _ H'=>Q .non H',rt:=Q } (start N vs) H) :
  FnOk P w K mg base CX (k+1) f (PySem.W.fnOf name qual params body scope dV kV doc pm an cdv ct) ps sp:=by
 refine ⟨len,fun A outer s H args us vs Q E hr e0 hb r hsp=>?_⟩
 have hl:=len _ _ _ _ hsp
 have KX:K.In s.heap:=e0.mod.kin.keeps fun b o e=>(e0.bs b o e).1
 have lim:s.heap.NoLimit:=e0.mod.nolimit.keeps fun b o e=>(e0.bs b o e).1
 have hkind:∀ y∈ps.zip us,scope.names.lookup y.1=some .local\/(scope.names.lookup y.1=some .cell/\((cellsFrom (s.heap.objs.size+1) scope.names []).lookup y.1).isSome=true):=fun ⟨n,v⟩ hy=>by
  rcases S.par n (List.of_mem_zip hy).1 with q|q
  .exact .inl q
  .exact .inr ⟨q,PySem.W.cellsFrom_some _ _ _ (.inl q)⟩
 refine codeAny_call_function hr.depth (KX _ _ lk) rfl S.co S.gen rfl (PySem.W.codeRec_of KX hcd) (hb _ _ _ _ ?_)
 refine wpAny_newFunctionEnv_cells S.kind hkind fun env he s1 x=>?_
 subst he
 refine ⟨lim.keeps x.toInCall.keep,codeAny_func ?_⟩
 obtain ⟨t,ht,hq⟩:=hbody A outer s H vs Q E (hr.deeper _) hsp
 have I:Inv (cxOf CX P w K mg base N qual scope f cdv A outer s H E) [] (start N vs) H s1:=ZjX S hr.hd e0 hl r x
 refine wpAny_mono (ht [] s1 (start N vs) H _ I hq) (fun fl s' hs=>?_) fun e s' hs=>hs
 have fin:∀ {σ':St} {H':Hp} {v:V} {u:Value},Inv (cxOf CX P w K mg base N qual scope f cdv A outer s H E) [] σ' H' s'->RelV v u->Q v H'->CE outer P w H s Q u s' :=
  fun {σ' H' v u} J rv q=>⟨v,H',J.os,J.bare,J.base,J.hok,rv,q⟩
 cases fl with
 | ret u =>
  obtain ⟨v,σ',H',J,rv,q⟩:=hs
  exact fin J rv q
 | next =>
  obtain ⟨σ',H',J,q⟩:=hs
  exact fin (v:=V.non) (u:=Value.none) J rfl q
 | brk =>
  obtain ⟨_,_,_,q⟩:=hs
  exact False.elim q
 | cont =>
  obtain ⟨_,_,_,q⟩:=hs
  exact False.elim q
section
variable {X:Cx} {x:Str} {p pos:Pos} {e:Expr} {es:List Expr} {t:TA} {id T:String} {r:List V->Hp->VK->Prop}
noncomputable def tCB (r:List V->Hp->VK->Prop) (t:TA):TE:=fun σ H Q=>t σ H fun vs H1=>r vs H1 Q
theorem ZaM (hc:CallR X (.builtin id) r) (hg:Gl X x) (hm:X.mg x=none) (hv:bootBuiltins x=some (.builtin id)) (ha:PA X (e::es) t) (hn:x ≠ "__name__" := by decide) (hdb:(x==("__debug__" : Str))=false:=by decide)
  (he:starEach (e::es) X.env=(false,eval e X.env)::starEach es X.env:=by rfl) (hpl:(backTo pos (starEach es X.env)).any (·.1)=false:=by rfl):PE X (.Call (.Name x p) (e::es) [] pos) (tCB r t):=by
 intro pins s σ H Q I h
 refine wpAny_Call_Name_kw (Zfd I hg hm hv ?_ hn hdb)
 exact PyProof.Rows.callWith_builtin1 (thn (ha pos pins s σ H _ I h) fun us s1 ⟨vs,H1,I1,r1,q1⟩=>hc pins s1 σ H1 vs us Q I1 r1 q1) he hpl
theorem Zgn (hc:CallR X (.type T) r) (hg:Gl X x) (hm:X.mg x=none) (hv:bootBuiltins x=some (.type T)) (ha:PA X (e::es) t) (hn:x ≠ "__name__" := by decide) (hdb:(x==("__debug__" : Str))=false:=by decide)
  (he:starEach (e::es) X.env=(false,eval e X.env)::starEach es X.env:=by rfl) (hpl:(backTo pos (starEach es X.env)).any (·.1)=false:=by rfl):PE X (.Call (.Name x p) (e::es) [] pos) (tCB r t):=by
 intro pins s σ H Q I h
 refine wpAny_Call_Name_kw (Zfd I hg hm hv ?_ hn hdb)
 exact PyProof.Rows.callWith_type1 (thn (ha pos pins s σ H _ I h) fun us s1 ⟨vs,H1,I1,r1,q1⟩=>hc pins s1 σ H1 vs us Q I1 r1 q1) he hpl
end
end L2
namespace HT
open PySem PyProof.Rows
section
open PySem.SeqAt
open PySem.AutoSeq1 (wpAny_loadPart')
open PySem.MeetsSeq PySem.MeetsSeq2 PySem.MeetsSeq3
end
section
variable {prog:Program} {w:World} {A:Around} {E:Value->Shared->Prop} {s:Shared}
noncomputable def sIx (n d:Nat):Option Int->Nat
 | none=>d
 | some v=>if v<0 then (v+(n:Int)).toNat else min v.toNat n
end
end HT
namespace L2
open PySem PySem.Spec PyProof.Rows
noncomputable abbrev TO:=St->Hp->(Option Int->Hp->Prop)->Prop
noncomputable def PO (X:Cx) (e:Option Expr) (t:TO):Prop :=
 ∀ (pins:List (Addr×Obj)) (s:Shared) (σ:St) (H:Hp) (Q:Option Int->Hp->Prop),Inv X pins σ H s->t σ H Q ->
  wpAny (model X.prog X.w) X.A (evalPart e X.env) (fun u s'=>∃ o H',Inv X pins σ H' s'/\IsPart u o/\Q o H') X.xe s
noncomputable def ZjY:TO:=fun _ H Q=>Q none H
noncomputable def tPart (t:TE):TO:=fun σ H Q=>t σ H fun x H1=>∃ i,x=.int i/\Q (some i) H1
section
variable {X:Cx} {e:Expr} {te:TE} {lo hi:Option Expr} {tl th:TO} {pos p2:Pos}
theorem Znw:PO X none ZjY:=by
 intro pins s σ H Q I h
 rw [evalPart_none]
 exact wpAny_pure ⟨none,H,I,.none,h⟩
theorem Zhz (h:PE X e te):PO X (some e) (tPart te):=by
 intro pins s σ H Q I hw
 rw [evalPart_some]
 refine thn (h pins s σ H _ I hw) fun u s1 ⟨x,H1,I1,r1,q1⟩=>?_
 obtain ⟨i,rfl,q⟩:=q1
 obtain ⟨t,rfl⟩:=r1
 exact ⟨some i,H1,I1,.int i t,q⟩
noncomputable def SlR (X:Cx) (r:V->Option Int->Option Int->Hp->VK->Prop):Prop :=
 ∀ (pins:List (Addr×Obj)) (s:Shared) (σ:St) (H:Hp) (x:V) (v vl vu:Value) (lo hi:Option Int) (sl:Addr) (Q:VK),Inv X pins σ H s->RelV x v->s.heap.IsSliceOf sl vl vu .none->IsPart vl lo->IsPart vu hi->r x lo hi H Q ->
  ∃ T id,typeLookup (.type T) "__getitem__" = pure (some (.builtin id))/\s.TypeIs v T/\wpAny (model X.prog X.w) X.A (getItem v (.ref sl)) (EP X pins σ Q) X.xe s
theorem SlR.or {r r':V->Option Int->Option Int->Hp->VK->Prop} (h:SlR X r) (h':SlR X r'):SlR X (fun x lo hi H Q=>r x lo hi H Q\/r' x lo hi H Q):=by
 intro pins s σ H x v vl vu lo hi sl Q I rx hs pl pu q
 rcases q with q|q
 .exact h pins s σ H x v vl vu lo hi sl Q I rx hs pl pu q
 .exact h' pins s σ H x v vl vu lo hi sl Q I rx hs pl pu q
noncomputable def tSl (r:V->Option Int->Option Int->Hp->VK->Prop) (te:TE) (tl th:TO):TE:=fun σ H Q=>te σ H fun x H1=>tl σ H1 fun l H2=>th σ H2 fun u H3=>r x l u H3 Q
theorem ZiB {r:V->Option Int->Option Int->Hp->VK->Prop} (hr:SlR X r) (he:PE X e te) (hl:PO X lo tl) (hu:PO X hi th):PE X (.Subscript e (.Slice lo hi none p2) pos) (tSl r te tl th):=by
 intro pins s σ H Q I h
 refine Subscript_ (thn (he pins s σ H _ I h) fun v s1 ⟨x,H1,I1,r1,q1⟩=>?_)
 refine wpAny_Slice (thn (hl pins s1 σ H1 _ I1 q1) fun vl s2 ⟨l,H2,I2,pl,q2⟩=>thn (hu pins s2 σ H2 _ I2 q2) fun vu s3 ⟨u,H3,I3,pu,q3⟩=>?_)
 rw [evalPart_none]
 refine wpAny_pure ?_
 have I4:Inv X pins σ H3 { s3 with heap:=s3.heap.push { cls:=.type "slice", data:=.fields #[vl,vu,.none] } }:=I3.kept (t':=s3.toks) fun b ob q=>Heap.get?_push_of_some _ q
 obtain ⟨T,id,hT,ht,hg⟩:=hr pins { s3 with heap:=s3.heap.push { cls:=.type "slice", data:=.fields #[vl,vu,.none] } } σ H3 x v vl vu l u s3.heap.objs.size Q I4 r1 (Heap.IsSliceOf.new ..) pl pu q3
 show wpAny (model X.prog X.w) X.A (subscriptTail e (.Slice lo hi none p2) v (.ref s3.heap.objs.size)) (EP X pins σ Q) X.xe { s3 with heap:=s3.heap.push { cls:=.type "slice", data:=.fields #[vl,vu,.none] } }
 exact tail_any (ops:=[.ref s3.heap.objs.size,v]) ht hT hg (by with_unfolding_all rfl)
noncomputable def cutV (xs:List V) (lo hi:Option Int):List V:=(xs.drop (HT.sIx xs.length 0 lo)).take (HT.sIx xs.length xs.length hi-HT.sIx xs.length 0 lo)
theorem ZhA (xs:List V) (lo hi:Option Int):(cutV xs lo hi).length<=xs.length:=by
 unfold cutV
 rw [List.length_take,List.length_drop]
 omega
end
noncomputable def ixN (n:Nat) (i:Int):Option Nat:=if 0<=i then (if i<n then some i.toNat else none) else if -(n:Int)<=i then some (i+n).toNat else none
noncomputable def atI {α:Type} (xs:List α) (i:Int):Option α:=(ixN xs.length i).bind fun j=>xs[j]?
theorem ZjZ {n:Nat} {i:Int} {j:Nat} (h:ixN n i=some j):seqIndex? i n=some j/\j<n/\-(n:Int)<=i/\i<n:=by
 unfold ixN at h
 by_cases h0:0<=i
 .rw [if_pos h0] at h
  by_cases h1:i<n
  .rw [if_pos h1] at h
   have e:i.toNat=j:=Option.some.inj h
   exact ⟨by rw [seqIndex_of h0 h1,e],by omega,by omega,h1⟩
  .rw [if_neg h1] at h;cases h
 .rw [if_neg h0] at h
  by_cases h1:-(n:Int)<=i
  .rw [if_pos h1] at h
   have e:(i+n).toNat=j:=Option.some.inj h
   exact ⟨by rw [seqIndex_neg (by omega) h1,e],by omega,h1,by omega⟩
  .rw [if_neg h1] at h;cases h
theorem ZhB {α:Type} {xs:List α} {i:Int} {v:α} (h:atI xs i=some v):∃ j,seqIndex? i xs.length=some j/\xs[j]?=some v/\j<xs.length/\-(xs.length:Int)<=i/\i<xs.length:=by
 unfold atI at h
 cases e:ixN xs.length i with
 | none=>rw [e] at h;cases h
 | some j =>
  rw [e] at h
  obtain ⟨h1,h2,h3,h4⟩:=ZjZ e
  exact ⟨j,h1,h,h2,h3,h4⟩
theorem ZcW {α:Type} {xs:List α} {j:Nat} {v:α} (h:xs[j]?=some v):atI xs (j:Int)=some v:=by
 have hj:j<xs.length:=(List.getElem?_eq_some_iff.mp h).1
 have e:ixN xs.length (j:Int)=some j:=by
  unfold ixN
  rw [if_pos (by omega),if_pos (by omega)];simp
 unfold atI;rw [e];exact h
theorem ZlJ {α:Type} (xs:List α) (v:α):atI (xs++[v]) (-1)=some v:=by
 have hl:(xs++[v]).length=xs.length+1:=by simp
 have e:ixN (xs++[v]).length (-1)=some xs.length:=by
  unfold ixN
  rw [hl,if_neg (by decide),if_pos (by omega)]
  congr 1
  omega
 unfold atI
 rw [e]
 show (xs++[v])[xs.length]?=some v
 simp
noncomputable def Znx (b:Expr):Prop:=∀ o i,subscripted b false o i=operate [o,i] (getItem o i)
noncomputable def IxR (X:Cx) (r:R2):Prop :=
 ∀ (value slice:Expr) (pins:List (Addr×Obj)) (s:Shared) (σ:St) (H:Hp) (x y:V) (v u:Value) (Q:VK),Inv X pins σ H s->RelV x v->RelV y u->r x y H Q ->
  subscripted slice false v u=operate [v,u] (getItem v u)->wpAny (model X.prog X.w) X.A (subscriptTail value slice v u) (EP X pins σ Q) X.xe s
noncomputable def MtR (X:Cx) (id:String) (r:V->List V->Hp->VK->Prop):Prop :=
 ∀ (pins:List (Addr×Obj)) (s:Shared) (σ:St) (H:Hp) (x:V) (xs:List V) (v:Value) (us:List Value) (Q:VK),Inv X pins σ H s->RelV x v->Vals xs us->r x xs H Q ->
  wpAny (model X.prog X.w) X.A (call (.builtin id) (v::us)) (EP X pins σ Q) X.xe s
section
variable {X:Cx} {a b:Expr} {ta tb:TE} {pos:Pos}
theorem IxR.or {r r':R2} (h:IxR X r) (h':IxR X r'):IxR X (fun x y H Q=>r x y H Q\/r' x y H Q):=by
 intro value slice pins s σ H x y v u Q I rx ry q hs
 rcases q with q|q
 .exact h value slice pins s σ H x y v u Q I rx ry q hs
 .exact h' value slice pins s σ H x y v u Q I rx ry q hs
theorem MtR.or {id:String} {r r':V->List V->Hp->VK->Prop} (h:MtR X id r) (h':MtR X id r'):MtR X id (fun x xs H Q=>r x xs H Q\/r' x xs H Q):=by
 intro pins s σ H x xs v us Q I rx rs q
 rcases q with q|q
 .exact h pins s σ H x xs v us Q I rx rs q
 .exact h' pins s σ H x xs v us Q I rx rs q
theorem Zav {r:R2} (hr:IxR X r) (ha:PE X a ta) (hb:PE X b tb) (hs:Znx b):PE X (.Subscript a b pos) (tOp r ta tb):=by
 intro pins s σ H Q I h
 exact Subscript_ (binT ha hb I h fun v u s2 x y H2 I2 rx ry q=>hr a b pins s2 σ H2 x y v u Q I2 rx ry q (hs _ _))
noncomputable def rIxL (K:PySem.W.Frag):R2:=fun x y H Q=>∃ p xs i v,x=.ref p/\y=.int i/\SqL K H p xs/\atI xs i=some v/\Q v H
noncomputable def rIxT (K:PySem.W.Frag):R2:=fun x y H Q=>∃ p xs i v,x=.ref p/\y=.int i/\SqT K H p xs/\atI xs i=some v/\Q v H
noncomputable def rIxS:R2:=fun x y H Q=>∃ z i c,x=.str z/\y=.int i/\z.length<=sizeLine/\atI z.cps.toList i=some c/\Q (.str ⟨#[c]⟩) H
theorem Zaq:IxR X (rIxL X.K):=by
 intro value slice pins s σ H x y v u Q I rx ry h hs
 obtain ⟨p,xs,i,z,rfl,rfl,hq,he,q⟩:=h
 cases rx
 obtain ⟨t,rfl⟩:=ry
 obtain ⟨its,r,pl,hz⟩:=I.list hq
 obtain ⟨j,h1,h2,h3,h4,h5⟩:=ZhB he
 obtain ⟨w,ew,rw'⟩:=r.get h2
 have hl:=r.length
 have hn:=line63
 have fin:EP X pins σ Q w s:=⟨z,H,I,rw',q⟩
 by_cases h0:0<=i
 .have hj:i.toNat=j:=by
   rw [seqIndex_of h0 h5] at h1
   exact Option.some.inj h1
  exact item_listR pl.isList h0 (by omega) (by rw [hj];simpa using ew) fin hs
 .have hj:(i+(its.toArray.size:Int)).toNat=j:=by
   rw [seqIndex_neg (by omega) h4] at h1
   rw [List.size_toArray,<- hl]
   exact Option.some.inj h1
  exact subscriptTail_builtinR (x:=w) pl.isList.typeIs slot_list_getitem.lookup
   (wpAny_getItem_list_neg (Q:=fun r s'=>r=w/\EP X pins σ Q r s') pl.isList (by omega) (by rw [List.size_toArray]<;>omega) (by omega) (by rw [hj];simpa using ew) ⟨rfl,fin⟩) hs
theorem Za0:IxR X (rIxT X.K):=by
 intro value slice pins s σ H x y v u Q I rx ry h hs
 obtain ⟨p,xs,i,z,rfl,rfl,hq,he,q⟩:=h
 cases rx
 obtain ⟨t,rfl⟩:=ry
 obtain ⟨its,r,pl,hz⟩:=I.tuple hq
 obtain ⟨j,h1,h2,h3,h4,h5⟩:=ZhB he
 obtain ⟨w,ew,rw'⟩:=r.get h2
 have hl:=r.length
 have hn:=line63
 have fin:EP X pins σ Q w s:=⟨z,H,I,rw',q⟩
 exact subscriptTail_builtinR (x:=w) pl.typeIs slot_tuple_getitem.lookup
  (getItem_tuple (j:=j) (Q:=fun r s'=>r=w/\EP X pins σ Q r s') pl (by omega) (by omega) (by rw [List.size_toArray,<- hl];exact h1) (by simpa using ew) ⟨rfl,fin⟩) hs
theorem ix_str:IxR X rIxS:=by
 intro value slice pins s σ H x y v u Q I rx ry h hs
 obtain ⟨z,i,c,rfl,rfl,hz,he,q⟩:=h
 obtain ⟨t,rfl⟩:=rx
 obtain ⟨t',rfl⟩:=ry
 obtain ⟨j,h1,h2,h3,h4,h5⟩:=ZhB he
 have hl:z.cps.toList.length=z.length:=by simp [Str.length]
 rw [hl] at h1 h4 h5
 have hn:=line63
 exact tail_any (typeIs_str s z t) slot_str_getitem.lookup (getItem_str (c:=c) (by
  have e1:decide (i < -(2 ^ 63:Int))=false:=decide_eq_false (by omega)
  have e2:decide (i >= 2 ^ 63)=false:=decide_eq_false (by omega)
  rw [e1,e2,Bool.or_false]) (by rw [h1];simpa using h2) ⟨.str ⟨#[c]⟩,H,I.tok _,⟨_,rfl⟩,q⟩) hs
noncomputable def rIx (K:PySem.W.Frag):R2:=fun x y H Q=>rIxL K x y H Q\/rIxT K x y H Q\/rIxS x y H Q
theorem Zj0:IxR X (rIx X.K):=Zaq.or (Za0.or ix_str)
theorem Zjb (its:List Value) (n j:Nat) (u:Value):Obj.mapSeq (·.setIfInBounds j u) { cls:=.type "list", data:=.seq its.toArray n }={ cls:=.type "list", data:=.seq (its.set j u).toArray n }:=by
 simp [Obj.mapSeq]
theorem Inv.lst {pins:List (Addr×Obj)} {σ:St} {H:Hp} {s:Shared} {p:Addr} {xs:List V} (I:Inv X pins σ H s) (h:H p=some (.lst xs)) :
  ∃ (its:List Value) (n:Nat),Vals xs its/\s.heap.get? p=some { cls:=.type "list", data:=.seq its.toArray n }/\xs.length<=sizeLine:=by
 obtain ⟨z,its,n,r,e⟩:=I.hok p _ h
 exact ⟨its,n,r,e,z⟩
theorem Inv.lstUpd {pins:List (Addr×Obj)} {σ:St} {H:Hp} {s:Shared} {p:Addr} {xs ys:List V} {its its':List Value} {n n':Nat} {f:Obj->Obj} (I:Inv X pins σ H s) (h:H p=some (.lst xs))
  (ho:s.heap.get? p=some { cls:=.type "list", data:=.seq its.toArray n }) (hf:f { cls:=.type "list", data:=.seq its.toArray n }={ cls:=.type "list", data:=.seq its'.toArray n' }) (r:Vals ys its') (hz:ys.length<=sizeLine) (t:Nat) :
  Inv X pins σ (upd H p (.lst ys)) { s with heap:=s.heap.update p f,toks:=t }:=by
 have e:(s.heap.update p f).get? p=some { cls:=.type "list", data:=.seq its'.toArray n' }:=by
  rw [Heap.get?_update_self f ho (by rw [hf]<;>rfl),hf]
 refine I.write (x:=p) (e:=p) (by rw [h];trivial) (.inl rfl) (fun b u hb q=>(Heap.get?_update_other _ _ (Ne.symm hb)).trans q) ⟨_,e⟩ ?_
 exact ⟨hz,its',n',r,e⟩
noncomputable def rSetL:V->V->V->Hp->(Hp->Prop)->Prop:=fun o i v H Q=>∃ p xs k j,o=.ref p/\i=.int k/\H p=some (.lst xs)/\ixN xs.length k=some j/\Q (upd H p (.lst (xs.set j v)))
theorem Zdf:PSet X rSetL:=by
 intro pins s σ H o i v ov iv u Q I ro ri rv h
 obtain ⟨p,xs,k,j,rfl,rfl,hp,hj,q⟩:=h
 cases ro
 obtain ⟨t,rfl⟩:=ri
 obtain ⟨its,n,r,ho,hz⟩:=I.lst hp
 obtain ⟨h1,h2,h3,h4⟩:=ZjZ hj
 have hl:=r.length
 have hn:=line63
 have I':Inv X pins σ (upd H p (.lst (xs.set j v))) { s with heap:=s.heap.update p (Obj.mapSeq (·.setIfInBounds j u)) } :=
  I.lstUpd hp ho (Zjb its n j u) (r.set rv j) (by rw [List.length_set];exact hz) s.toks
 by_cases h0:0<=k
 .have hk:k.toNat=j:=by
   rw [seqIndex_of h0 h4] at h1
   exact Option.some.inj h1
  exact PySem.W.ki_setAt ho h0 (by omega) (by rw [List.size_toArray,<- hl];exact h4) (by rw [hk];exact ⟨_,I',q⟩)
 .have hk:(k+(its.toArray.size:Int)).toNat=j:=by
   rw [seqIndex_neg (by omega) h3] at h1
   rw [List.size_toArray,<- hl]
   exact Option.some.inj h1
  exact PySem.W.ki_setBack ho (by omega) (by rw [List.size_toArray,<- hl];exact h3) (by omega) (by rw [hk];exact ⟨_,I',q⟩)
theorem Zgo (lo hi:Option Int) (n:Nat):(sliceBounds lo hi none n).1=((HT.sIx n 0 lo:Nat):Int)/\(sliceBounds lo hi none n).2.1=((HT.sIx n n hi:Nat):Int)/\(sliceBounds lo hi none n).2.2=1:=by
 refine ⟨?_,?_,rfl⟩
 .cases lo with
  | none=>simp [sliceBounds,HT.sIx]
  | some i =>
   simp only [sliceBounds,HT.sIx,Option.getD_none,show (1:Int)>0 by decide,if_true]
   by_cases h:i<0
   .simp only [h,if_true]<;>omega
   .simp only [h,if_false]<;>omega
 .cases hi with
  | none=>simp [sliceBounds,HT.sIx]
  | some i =>
   simp only [sliceBounds,HT.sIx,Option.getD_none,show (1:Int)>0 by decide,if_true]
   by_cases h:i<0
   .simp only [h,if_true]<;>omega
   .simp only [h,if_false]<;>omega
theorem Zfv (its:List Value) (lo hi:Option Int):slicePick its.toArray lo hi none=((its.drop (HT.sIx its.length 0 lo)).take (HT.sIx its.length its.length hi-HT.sIx its.length 0 lo)).toArray:=by
 obtain ⟨h1,h2,h3⟩:=Zgo lo hi its.toArray.size
 unfold slicePick
 rw [h1,h2,h3]
 simp only [sliceRange_one,pick_run,List.size_toArray]<;>rfl
noncomputable def rSlL (K:PySem.W.Frag):V->Option Int->Option Int->Hp->VK->Prop:=fun x lo hi H Q=>∃ a xs,x=.ref a/\SqL K H a xs/\∀ p,H p=none->Q (.ref p) (upd H p (.lst (cutV xs lo hi)))
theorem Zj1:SlR X (rSlL X.K):=by
 intro pins s σ H x v vl vu lo hi sl Q I rx hs pl pu h
 obtain ⟨a,xs,rfl,hx,q⟩:=h
 cases rx
 obtain ⟨its,r,ht,hz⟩:=I.list hx
 have hlen:=r.length
 refine ⟨"list", _,slot_list_getitem.lookup,ht.isList.typeIs,?_⟩
 refine wpAny_getItem_list_slice ht.isList hs pl pu .none (by simp) ?_ (by rw [List.size_toArray]<;>omega)
 rw [Zfv,<- hlen]
 refine ⟨.ref s.heap.objs.size,_,I.laid (t':=s.toks) (o:=.lst (cutV xs lo hi)) (fun b ob q=>Heap.get?_push_of_some _ q) (Nat.le_refl _) ?_,rfl,q _ (I.hok.fresh (Nat.le_refl _))⟩
 exact ⟨Nat.le_trans (ZhA xs lo hi) hz,_,0,(r.drop (HT.sIx xs.length 0 lo)).take (HT.sIx xs.length xs.length hi-HT.sIx xs.length 0 lo),Heap.get?_push_size _ rfl⟩
noncomputable def flatV:V->Bool
 | .non=>true
 | .bl _=>true
 | .int _=>true
 | .str _=>true
 | _=>false
noncomputable def eqV:V->V->Bool
 | .non,.non=>true
 | .bl a,.bl b=>a==b
 | .bl a,.int b=>(if a then 1 else 0)==b
 | .int a,.bl b=>a==(if b then 1 else 0)
 | .int a,.int b=>a==b
 | .str a,.str b=>a==b
 | _,_=>false
theorem eqAt_V {A:Around} {s:Shared} {y x:V} {u v:Value} (ry:RelV y u) (rx:RelV x v) (fy:flatV y=true) (fx:flatV x=true):SeqAt.EqAt A s u v (eqV y x):=by
 cases y with
 | non =>
  cases ry
  cases x with
  | non=>cases rx;exact SeqAt.EqAt.same _
  | bl b=>cases rx;exact SeqAt.EqAt.none_bool b
  | int b=>obtain ⟨t,rfl⟩:=rx;exact SeqAt.EqAt.none_int b t
  | str b=>obtain ⟨t,rfl⟩:=rx;exact SeqAt.EqAt.none_str b t
  | _=>exact absurd (show false=true from fx) Bool.false_ne_true
 | bl a =>
  cases ry
  cases x with
  | non=>cases rx;exact SeqAt.EqAt.bool_none a
  | bl b=>cases rx;exact SeqAt.EqAt.bool_bool a b
  | int b=>obtain ⟨t,rfl⟩:=rx;exact SeqAt.EqAt.bool_int a b t
  | str b=>obtain ⟨t,rfl⟩:=rx;exact SeqAt.EqAt.bool_str a b t
  | _=>exact absurd (show false=true from fx) Bool.false_ne_true
 | int a =>
  obtain ⟨t',rfl⟩:=ry
  cases x with
  | non=>cases rx;exact SeqAt.EqAt.int_none a t'
  | bl b=>cases rx;exact SeqAt.EqAt.int_bool a t' b
  | int b=>obtain ⟨t,rfl⟩:=rx;exact SeqAt.EqAt.int_int a t' b t
  | str b=>obtain ⟨t,rfl⟩:=rx;exact SeqAt.EqAt.int_str a t' b t
  | _=>exact absurd (show false=true from fx) Bool.false_ne_true
 | str a =>
  obtain ⟨t',rfl⟩:=ry
  cases x with
  | non=>cases rx;exact SeqAt.EqAt.str_none a t'
  | bl b=>cases rx;exact SeqAt.EqAt.str_bool a t' b
  | int b=>obtain ⟨t,rfl⟩:=rx;exact SeqAt.EqAt.str_int a t' b t
  | str b=>obtain ⟨t,rfl⟩:=rx;exact SeqAt.EqAt.str_str a t' b t
  | _=>exact absurd (show false=true from fx) Bool.false_ne_true
 | _=>exact absurd (show false=true from fy) Bool.false_ne_true
noncomputable def eqU (x:V) (u:Value):Bool:=match u with
 | .none=>eqV .non x
 | .bool b=>eqV (.bl b) x
 | .int i _=>eqV (.int i) x
 | .str z _=>eqV (.str z) x
 | _=>false
theorem Zm0 {x y:V} {u:Value} (r:RelV y u) (f:flatV y=true):eqU x u=eqV y x:=by
 cases y with
 | non=>cases r;rfl
 | bl b=>cases r;rfl
 | int i=>obtain ⟨t,rfl⟩:=r;rfl
 | str z=>obtain ⟨t,rfl⟩:=r;rfl
 | _=>exact absurd (show false=true from f) Bool.false_ne_true
theorem ZhC {x:V}:∀ {xs:List V} {us:List Value},Vals xs us->xs.all flatV=true->us.any (eqU x)=xs.any fun y=>eqV y x
 | _,_,.nil,_=>rfl
 | y::xs,u::us,.cons r t,f=>by
  rw [List.all_cons,Bool.and_eq_true] at f
  rw [List.any_cons,List.any_cons,Zm0 r f.1,ZhC t f.2]
theorem Zfw {A:Around} {s:Shared} {x:V} {v:Value} (rx:RelV x v) (fx:flatV x=true):∀ {xs:List V} {us:List Value},Vals xs us->xs.all flatV=true->∀ u∈us,SeqAt.EqAt A s u v (eqU x u)
 | _,_,.nil,_=>fun u hu=>by cases hu
 | y::xs,u::us,.cons r t,f=>fun u' hu=>by
  rw [List.all_cons,Bool.and_eq_true] at f
  rcases List.mem_cons.mp hu with rfl|hu
  .rw [Zm0 r f.1];exact eqAt_V r rx f.1 fx
  .exact Zfw rx fx t f.2 u' hu
noncomputable def inV (x:V) (xs:List V):Bool:=xs.any fun y=>eqV y x
noncomputable def rIn (K:PySem.W.Frag) (neg:Bool):R2:=fun x y H Q=>∃ p xs,y=.ref p/\(SqL K H p xs\/SqT K H p xs)/\flatV x=true/\xs.all flatV=true/\Q (.bl (if neg then !inV x xs else inV x xs)) H
theorem Zek:OpR X (compareOp .In) (rIn X.K false):=by
 intro pins s σ H x y v u Q I rx ry h
 obtain ⟨p,xs,rfl,hq,fx,fs,q⟩:=h
 cases ry
 rcases hq with hq|hq
 .obtain ⟨its,r,pl,hz⟩:=I.list hq
  refine SeqAt.in_listAt (eqU x) pl.isList (fun w hw=>Zfw rx fx r fs w (by simpa using hw)) ⟨.bl _,H,I,rfl,?_⟩
  rw [show its.toArray.any (eqU x)=its.any (eqU x) by simp,ZhC r fs]
  exact q
 .obtain ⟨its,r,pl,hz⟩:=I.tuple hq
  refine SeqAt.in_tupleAt (eqU x) pl (fun w hw=>Zfw rx fx r fs w (by simpa using hw)) ⟨.bl _,H,I,rfl,?_⟩
  rw [show its.toArray.any (eqU x)=its.any (eqU x) by simp,ZhC r fs]
  exact q
theorem Zgp:CallR X (.builtin "len") (fun xs H Q=>∃ p ys,xs=[.ref p]/\(SqL X.K H p ys\/SqT X.K H p ys)/\Q (.int ys.length) H):=by
 intro pins s σ H xs us Q I r h
 obtain ⟨p,ys,rfl,hq,q⟩:=h
 obtain ⟨u,rfl,rx⟩:=vals1 r
 cases rx
 have hn:=line63
 rcases hq with hq|hq
 .obtain ⟨its,r',pl,hz⟩:=I.list hq
  have hlen:=r'.length
  exact Calls.call_len_list pl.isList (by simp only [List.size_toArray]<;>omega) ⟨.int ys.length,H,I.tok _,⟨s.toks+1,by rw [List.size_toArray,hlen]⟩,q⟩
 .obtain ⟨its,r',pl,hz⟩:=I.tuple hq
  have hlen:=r'.length
  exact len_tuple pl (by simp only [List.size_toArray]<;>omega) ⟨.int ys.length,H,I.tok _,⟨s.toks+1,by rw [List.size_toArray,hlen]⟩,q⟩
theorem CallR.or {f:Value} {r r':List V->Hp->VK->Prop} (h:CallR X f r) (h':CallR X f r'):CallR X f (fun xs H Q=>r xs H Q\/r' xs H Q):=by
 intro pins s σ H xs us Q I rs q
 rcases q with q|q
 .exact h pins s σ H xs us Q I rs q
 .exact h' pins s σ H xs us Q I rs q
theorem Zgq:CallR X (.type "list") (fun xs H Q=>∃ p ys,xs=[.ref p]/\(SqL X.K H p ys\/SqT X.K H p ys)/\∀ l,H l=none->Q (.ref l) (upd H l (.lst ys))):=by
 intro pins s σ H xs us Q I r h
 obtain ⟨p,ys,rfl,hq,q⟩:=h
 obtain ⟨u,rfl,rx⟩:=vals1 r
 cases rx
 have fin:∀ (its:List Value),Vals ys its->ys.length<=sizeLine->∀ (h':Heap) (c':Nat),(∀ b o',s.heap.get? b=some o'->h'.get? b=some o') ->
   h'.get? s.heap.objs.size=some { cls:=.type "list", dict:=none,data:=.seq its.toArray c',slots:=#[] }->EP X pins σ Q (.ref s.heap.objs.size) { s with heap:=h' }:=fun its r' hz h' c' kp e =>
  ⟨.ref s.heap.objs.size,_,I.laid (t':=s.toks) kp (Nat.le_refl _) (show ObjOk X.prog X.w _ h' _ (.lst ys) from ⟨hz,its,c',r',e⟩),rfl,q _ (I.hok.fresh (Nat.le_refl _))⟩
 rcases hq with hq|hq
 .obtain ⟨its,r',pl,hz⟩:=I.list hq
  have hlen:=r'.length
  obtain ⟨o,ho,hc,n,hd⟩:=pl.isList
  exact call_list_seq p (.inl rfl) ho hc hd (fun h' c' kp e=>fin its r' hz h' c' kp e) (by simp only [List.size_toArray]<;>omega)
 .obtain ⟨its,r',pl,hz⟩:=I.tuple hq
  have hlen:=r'.length
  obtain ⟨o,ho,hc,n,hd⟩:=pl
  exact call_list_seq p (.inr rfl) ho hc hd (fun h' c' kp e=>fin its r' hz h' c' kp e) (by simp only [List.size_toArray]<;>omega)
noncomputable def tyV (K:PySem.W.Frag) (T:String) (x:V) (H:Hp):Prop:=match x with
 | .str _=>T = "str"
 | .int _=>T = "int"
 | .ref p=>(T = "list" /\ ∃ xs,SqL K H p xs)\/(T = "tuple" /\ ∃ o,K.lookup p=some o/\o.cls=.type "tuple" /\ o.dict=none) \/
   (T = "dict" /\ ((∃ kvs,H p=some (.dK kvs))\/∃ kvs,H p=some (.dT kvs)))\/(T = "set" /\ ∃ S n,H p=some (.set S n))
 | _=>False
theorem Zm1 {pins:List (Addr×Obj)} {σ:St} {H:Hp} {s:Shared} {T:String} {x:V} {v:Value} (I:Inv X pins σ H s) (r:RelV x v) (ty:tyV X.K T x H) :
  s.TypeIs v T/\∀ a,v=.ref a->∃ ob,s.heap.get? a=some ob/\ob.dict=none:=by
 cases x with
 | str z =>
  obtain ⟨t,rfl⟩:=r
  cases (show T = "str" from ty)
  exact ⟨typeIs_str s z t,fun _ e=>nomatch e⟩
 | int i =>
  obtain ⟨t,rfl⟩:=r
  cases (show T = "int" from ty)
  exact ⟨typeIs_int s i t,fun _ e=>nomatch e⟩
 | ref p =>
  cases r
  rcases ty with ⟨rfl,xs,hq⟩|⟨rfl,o,hk,hc,hd⟩|⟨rfl,hk⟩|⟨rfl,S,n,hk⟩
  .obtain ⟨its,_,pl,_⟩:=I.list hq
   refine ⟨pl.isList.typeIs,fun a e=>?_⟩
   cases e
   obtain ⟨o,n,e,c,hd,_⟩:=pl
   exact ⟨o,e,hd⟩
  .refine ⟨⟨o,I.kIn p o hk,hc⟩,fun a e=>?_⟩
   cases e
   exact ⟨o,I.kIn _ o hk,hd⟩
  .have z:∃ o,s.heap.get? p=some o/\o.ExactDict:=by
    rcases hk with ⟨kvs,hk⟩|⟨kvs,hk⟩
    .obtain ⟨_,_,_,_,o,_,_,e,ex,_⟩:=I.hok p _ hk
     exact ⟨o,e,ex⟩
    .obtain ⟨_,_,_,_,o,_,_,e,ex,_⟩:=I.hok p _ hk
     exact ⟨o,e,ex⟩
   obtain ⟨o,e,ex⟩:=z
   refine ⟨⟨o,e,ex.1⟩,fun a e2=>?_⟩
   cases e2
   exact ⟨o,e,ex.2.1⟩
  .obtain ⟨o,_,_,_,e,ex,_⟩:=I.hok p _ hk
   refine ⟨⟨o,e,ex.1⟩,fun a e2=>?_⟩
   cases e2
   exact ⟨o,e,ex.2.1⟩
 | _=>exact False.elim ty
noncomputable def tBM0 (K:PySem.W.Frag) (T:String) (r:V->List V->Hp->VK->Prop) (to:TE):TE:=fun σ H Q=>to σ H fun x H1=>tyV K T x H1/\r x [] H1 Q
noncomputable def tBM (K:PySem.W.Frag) (T:String) (r:V->List V->Hp->VK->Prop) (to:TE) (t:TA):TE:=fun σ H Q=>to σ H fun x H1=>tyV K T x H1/\t σ H1 fun xs H2=>r x xs H2 Q
variable {o e:Expr} {es:List Expr} {to:TE} {t:TA} {name:Str} {apos cpos:Pos} {T id:String} {r:V->List V->Hp->VK->Prop}
theorem Zm2 (pa:PlainAttrs T) (slot:Slot T name id) (hty:typeOf (.builtin id)=pure (.type "method_descriptor")) (hm:MtR X id r) (ho:PE X o to)
  (hbase:attributeBase o name X.env (eval o X.env)=eval o X.env:=by rfl) (hline:(apos.endLine==cpos.line)=true:=by rfl):PE X (.Call (.Attribute o name apos) [] [] cpos) (tBM0 X.K T r to):=by
 intro pins s σ H Q I h
 refine wpAny_Call_method0_late hbase hline (thn (ho pins s σ H _ I h) fun v s1 ⟨x,H1,I1,r1,ty,q1⟩=>?_)
 obtain ⟨h1,h2⟩:=Zm1 I1 r1 ty
 exact ⟨T,id,pa,slot,hty,h1,h2,Calls.callWith_builtin rfl (PySem.evalArgs_none (hm pins s1 σ H1 x [] v [] Q I1 r1 .nil q1))⟩
theorem Zel (pa:PlainAttrs T) (slot:Slot T name id) (hty:typeOf (.builtin id)=pure (.type "method_descriptor")) (hm:MtR X id r) (ho:PE X o to) (ha:PA X (e::es) t)
  (hbase:attributeBase o name X.env (eval o X.env)=eval o X.env:=by rfl)
  (hfew:((backTo cpos (starEach (e::es) X.env)).all (fun x=>!x.1)&&(backToKw cpos (keywordEach [] X.env)).all (fun x=>x.1.isSome)
   && decide ((e::es).length+([]:List Keyword).length+(if ([]:List Keyword).isEmpty then 0 else 1)<30))=true:=by rfl)
  (hline:(apos.endLine==cpos.line)=true:=by rfl) (hs:starEach (e::es) X.env=(false,eval e X.env)::starEach es X.env:=by rfl) (hplain:(backTo cpos (starEach es X.env)).any (·.1)=false:=by rfl) :
  PE X (.Call (.Attribute o name apos) (e::es) [] cpos) (tBM X.K T r to t):=by
 intro pins s σ H Q I h
 refine wpAny_Call_method_late hbase hfew hline rfl (thn (ho pins s σ H _ I h) fun v s1 ⟨x,H1,I1,r1,ty,q1⟩=>?_)
 obtain ⟨h1,h2⟩:=Zm1 I1 r1 ty
 refine ⟨T,id,pa,slot,hty,h1,h2,?_⟩
 have hA:=ha cpos pins s1 σ H1 _ I1 q1
 rw [hs] at hA |-
 refine Calls.callWith_builtin (by show (false||(backTo cpos (starEach es X.env)).any (·.1))=false;rw [hplain]<;>rfl) (Calls.evalArgs_plain ?_)
 exact thn hA fun us s2 ⟨vs,H2,I2,r2,q2⟩=>hm pins s2 σ H2 x vs v us Q I2 r1 r2 q2
end
noncomputable def MtM (X:Cx) (id:String) (r:V->List V->Hp->VK->Prop):Prop :=
 ∀ (pins:List (Addr×Obj)) (s:Shared) (σ:St) (H:Hp) (x:V) (xs:List V) (v:Value) (us:List Value) (Q:VK),Inv X pins σ H s->RelV x v->Vals xs us->r x xs H Q ->
  wpAny (model X.prog X.w) X.A (call (.builtin id) (v::us)) (EP X pins σ Q) X.xe s
theorem Vals.one:∀ {x:V} {us:List Value},Vals [x] us->∃ u,us=[u]/\RelV x u
 | _,_,.cons r .nil=>⟨_,rfl,r⟩
theorem Vals.two:∀ {x y:V} {us:List Value},Vals [x,y] us->∃ u v,us=[u,v]/\RelV x u/\RelV y v
 | _,_,_,.cons r (.cons q .nil)=>⟨_,_,rfl,r,q⟩
theorem Vals.zero:∀ {us:List Value},Vals [] us->us=[]
 | _,.nil=>rfl
theorem Vals.dropLast {xs:List V} {us:List Value} (h:Vals xs us):Vals xs.dropLast us.dropLast:=by
 induction h with
 | nil=>exact .nil
 | cons r t ih =>
  cases t with
  | nil=>exact .nil
  | cons q t'=>exact .cons r ih
theorem Vals.eraseIdx:∀ {xs:List V} {us:List Value} (i:Nat),Vals xs us->Vals (xs.eraseIdx i) (us.eraseIdx i)
 | _,_,_,.nil=>.nil
 | _,_,0,.cons _ t=>t
 | _,_,i+1,.cons r t=>.cons r (Vals.eraseIdx i t)
theorem Vals.reverse {xs:List V} {us:List Value} (h:Vals xs us):Vals xs.reverse us.reverse:=by
 induction h with
 | nil=>exact .nil
 | cons r t ih=>rw [List.reverse_cons,List.reverse_cons];exact Vals.append ih (.cons r .nil)
theorem Vals.rep {xs:List V} {us:List Value} (h:Vals xs us):∀ k:Nat,Vals (List.replicate k xs).flatten (List.replicate k us).flatten
 | 0=>.nil
 | k+1=>by
  rw [List.replicate_succ,List.replicate_succ,List.flatten_cons,List.flatten_cons]
  exact Vals.append h (Vals.rep h k)
theorem Zjc {α:Type} (l:List α):l.eraseIdx (l.length-1)=l.dropLast:=by
 induction l with
 | nil=>rfl
 | cons a r ih =>
  cases r with
  | nil=>rfl
  | cons b r =>
   have e:(a::b::r).length-1=((b::r).length-1)+1:=by
    have h1:(a::b::r).length=r.length+2:=rfl
    have h2:(b::r).length=r.length+1:=rfl
    omega
   rw [e,List.eraseIdx_cons_succ,ih]
   all_goals rfl
theorem Zgr (its:List Value):∀ (k:Nat) (acc:List Value),
  List.foldl (fun x1 x2=>x1++x2) acc.toArray (List.replicate k its.toArray)=(acc++(List.replicate k its).flatten).toArray
 | 0,acc=>by simp
 | k+1,acc=>by
  have e:acc.toArray++its.toArray=(acc++its).toArray:=by simp
  have e2:(acc++its)++(List.replicate k its).flatten=acc++(List.replicate (k+1) its).flatten:=by
   rw [List.replicate_succ,List.flatten_cons,List.append_assoc]
  rw [<- e2,<- Zgr its k (acc++its),<- e,List.replicate_succ,List.foldl_cons]
section
variable {X:Cx} {pins:List (Addr×Obj)} {σ:St} {H:Hp} {s:Shared} {l b:Addr} {xs ys zs:List V}
theorem Inv.lset {its its':List Value} {n:Nat} {f:Array Value->Array Value} {t':Nat} (I:Inv X pins σ H s) (hH:H l=some (.lst xs))
  (e:s.heap.get? l=some { cls:=.type "list", data:=.seq its.toArray n }) (hf:f its.toArray=its'.toArray) (hv:Vals ys its') (hz:ys.length<=sizeLine) :
  Inv X pins σ (upd H l (.lst ys)) { s with heap:=s.heap.update l (Obj.mapSeq f),toks:=t' }:=by
 have q:=PySem.IsL.update e f
 rw [hf] at q
 refine I.write (x:=l) (e:=l) (by rw [hH];exact trivial) (.inl rfl) (fun b' u hb hu=>(Heap.get?_update_other s.heap (Obj.mapSeq f) (Ne.symm hb)).trans hu) ⟨_,q⟩ ?_
 exact ⟨hz,its',_,hv,q⟩
theorem Inv.lnew {its:List Value} {t':Nat} (I:Inv X pins σ H s) (hv:Vals ys its) (hz:ys.length<=sizeLine) :
  Inv X pins σ (upd H s.heap.objs.size (.lst ys)) { s with heap:=s.heap.push { cls:=.type "list", data:=.seq its.toArray },toks:=t' } :=
 I.laid (fun _ _ q=>Heap.get?_push_of_some _ q) (Nat.le_refl _) ⟨hz,its,0,hv,Heap.get?_push_size _ rfl⟩
theorem Inv.fresh (I:Inv X pins σ H s):H s.heap.objs.size=none:=I.hok.fresh (Nat.le_refl _)
theorem Inv.lstM (I:Inv X pins σ H s) (hH:H l=some (.lst xs)):xs.length<=sizeLine/\∃ (its:List Value) (n:Nat),Vals xs its/\xs.length=its.length/\s.heap.get? l=some { cls:=.type "list", data:=.seq its.toArray n }:=by
 obtain ⟨z,its,n,r,e⟩:=I.hok l _ hH
 exact ⟨z,its,n,r,r.length,e⟩
theorem ZiC {n:Nat} (h:n<=sizeLine):Builtin.List.listTooLong n=false:=by
 unfold Builtin.List.listTooLong
 exact decide_eq_false (by omega)
end
section
variable {X:Cx}
noncomputable def Zj2:V->List V->Hp->VK->Prop:=fun x vs H Q=>∃ l xs y,x=.ref l/\vs=[y]/\H l=some (.lst xs)/\xs.length<sizeLine/\Q .non (upd H l (.lst (xs++[y])))
theorem ZbN:MtM X "list.append" Zj2:=by
 intro pins s σ H x vs v us Q I rx rv h
 obtain ⟨l,xs,y,rfl,rfl,hH,hz,q⟩:=h
 cases rx
 obtain ⟨u,rfl,ru⟩:=rv.one
 obtain ⟨z,its,n,r,hl,e⟩:=I.lstM hH
 refine call_meets F.slot_list_append ⟨_,e,rfl⟩ F.entry_list_append (F.args_list_append_2 _ _) (PySem.list_append l its.toArray n u (by rw [List.size_toArray];omega)) ⟨e,?_⟩
 refine ⟨.non,_,I.lset (its':=its++[u]) hH e (by simp) (r.append (.cons ru .nil)) ?_,rfl,q⟩
 rw [List.length_append,List.length_singleton]
 omega
noncomputable def Zj3:V->List V->Hp->VK->Prop:=fun x vs H Q=>∃ l b xs zs,x=.ref l/\vs=[.ref b]/\H l=some (.lst xs)/\H b=some (.lst zs)/\xs.length+zs.length<=sizeLine/\Q .non (upd H l (.lst (xs++zs)))
theorem Zgs:MtM X "list.extend" Zj3:=by
 intro pins s σ H x vs v us Q I rx rv h
 obtain ⟨l,b,xs,zs,rfl,rfl,hH,hB,hz,q⟩:=h
 cases rx
 obtain ⟨u,rfl,ru⟩:=rv.one
 cases ru
 obtain ⟨z,its,n,r,hl,e⟩:=I.lstM hH
 obtain ⟨z2,its2,n2,r2,hl2,e2⟩:=I.lstM hB
 have hsz:its.toArray.size+its2.toArray.size<=sizeLine:=by rw [List.size_toArray,List.size_toArray];omega
 have hlong:¬ (!its.toArray.isEmpty&&Builtin.List.listTooLong (its.toArray.size+its2.toArray.size))=true:=by
  rw [ZiC hsz,Bool.and_false]
  exact Bool.false_ne_true
 refine call_meets F.slot_list_extend ⟨_,e,rfl⟩ F.entry_list_extend (F.args_list_extend_2 _ _)
  (AutoSeq1.list_extend_list_list_0 l its.toArray n b its2.toArray n2 hlong (by rw [List.size_toArray];omega) (by omega)) ⟨e,e2,?_⟩
 refine ⟨.non,_,I.lset (its':=its++its2) hH e (by simp) (r.append r2) ?_,rfl,q⟩
 rw [List.length_append]
 omega
noncomputable def rPop:V->List V->Hp->VK->Prop:=fun x vs H Q=>∃ l xs y,x=.ref l/\vs=[]/\H l=some (.lst xs)/\xs[xs.length-1]?=some y/\Q y (upd H l (.lst xs.dropLast))
theorem Zm3:MtM X "list.pop" rPop:=by
 intro pins s σ H x vs v us Q I rx rv h
 obtain ⟨l,xs,y,rfl,rfl,hH,hy,q⟩:=h
 cases rx
 have hus:=rv.zero
 subst hus
 obtain ⟨z,its,n,r,hl,e⟩:=I.lstM hH
 obtain ⟨u,hu,ru⟩:=r.get hy
 have hy':its.toArray[its.toArray.size-1]?=some u:=by
  show its.toArray[its.length-1]?=some u
  rw [<- Array.getElem?_toList,<- hl]
  exact hu
 refine call_meets F.slot_list_pop ⟨_,e,rfl⟩ F.entry_list_pop (F.args_list_pop_1 _) (MeetsSeq.list_pop_last l its.toArray n u hy' (by rw [List.size_toArray];omega)) ⟨e,?_⟩
 refine ⟨y,_,I.lset (its':=its.dropLast) hH e ?_ r.dropLast ?_,ru,q⟩
 .show its.toArray.eraseIdxIfInBounds (its.toArray.size-1)=its.dropLast.toArray
  rw [List.size_toArray,List.eraseIdxIfInBounds_toArray,Zjc]
 .rw [List.length_dropLast]
  omega
noncomputable def rCat:R2:=fun x y H Q=>∃ l b xs zs,x=.ref l/\y=.ref b/\H l=some (.lst xs)/\H b=some (.lst zs)/\xs.length+zs.length<=sizeLine/\∀ p,H p=none->Q (.ref p) (upd H p (.lst (xs++zs)))
theorem Zfj:OpR X (binaryOp .Add) rCat:=by
 intro pins s σ H x y v u Q I rx ry h
 obtain ⟨l,b,xs,zs,rfl,rfl,hH,hB,hz,q⟩:=h
 cases rx
 cases ry
 obtain ⟨z,its,n,r,hl,e⟩:=I.lstM hH
 obtain ⟨z2,its2,n2,r2,hl2,e2⟩:=I.lstM hB
 refine PySem.P.add_list e e2 ?_ (by rw [List.size_toArray,List.size_toArray];omega)
 have ea:its.toArray++its2.toArray=(its++its2).toArray:=by simp
 rw [ea]
 exact ⟨.ref _,_,I.lnew (t':=s.toks) (r.append r2) (by rw [List.length_append];omega),rfl,q _ I.fresh⟩
noncomputable def rRep:R2:=fun x y H Q=>∃ l k xs,x=.ref l/\y=.int k/\H l=some (.lst xs)/\-(2 ^ 63)<=k/\k<2 ^ 63/\xs.length*k.toNat<=sizeLine /\
 ∀ p,H p=none->Q (.ref p) (upd H p (.lst (List.replicate k.toNat xs).flatten))
theorem Zny {α:Type} (xs:List α) (k:Nat):(List.replicate k xs).flatten.length=k*xs.length:=by
 induction k with
 | zero=>simp
 | succ k ih=>rw [List.replicate_succ,List.flatten_cons,List.length_append,ih,Nat.succ_mul,Nat.add_comm]
theorem op_rep:OpR X (binaryOp .Mult) rRep:=by
 intro pins s σ H x y v u Q I rx ry h
 obtain ⟨l,k,xs,rfl,rfl,hH,h1,h2,hz,q⟩:=h
 cases rx
 obtain ⟨t,rfl⟩:=ry
 obtain ⟨z,its,n,r,hl,e⟩:=I.lstM hH
 have hlen:its.toArray.size*k.toNat<=sizeLine:=by rw [List.size_toArray,<- hl];exact hz
 have hcap:¬ its.toArray.size*k.toNat>(2 ^ 63-1) / 8:=by
  have:(sizeLine:Nat)<=(2 ^ 63-1) / 8:=by decide
  omega
 have hfit:¬ (!Builtin.List.listFitsIndex k)=true:=by
  rw [fitsIndex_both h1 h2]
  exact Bool.false_ne_true
 have hlong:¬ Builtin.List.listTooLong (its.toArray.size*k.toNat)=true:=by
  rw [ZiC hlen]
  exact Bool.false_ne_true
 have hnew:List.foldl (fun x1 x2=>x1++x2) #[] (List.replicate (if its.toArray.isEmpty=true then 0 else k.toNat) its.toArray)=(List.replicate k.toNat its).flatten.toArray:=by
  have f0:∀ m:Nat,List.foldl (fun x1 x2=>x1++x2) #[] (List.replicate m its.toArray)=(List.replicate m its).flatten.toArray:=fun m=>by
   have:=Zgr its m []
   rw [List.nil_append] at this
   exact this
  rw [f0]
  cases its with
  | nil=>simp
  | cons a r'=>rw [if_neg (by simp)]
 refine wpAny_binaryOp_repeat_ref (T := "list") (U := "int") (by decide) ⟨_,e,rfl⟩ (fun s'=>typeIs_int s' k t) noFill_list_mul F.fills_int_mul F.slot_int_rmul repeat_list F.slot_int_index.lookup
  (call_meets F.slot_int_rmul (typeIs_int s k t) F.entry_int_rmul (F.args_int_rmul_2 _ _) (int___rmul___int_list k t l its.toArray n)
   ⟨e,rfl,⟨_,e,rfl⟩,call_meets F.slot_list_mul ⟨_,e,rfl⟩ F.entry_list_mul (F.args_list_mul_2 _ _) (AutoListH.list___mul___list_int_3 l its.toArray n k t hfit hcap hlong) ⟨e,?_⟩⟩)
 rw [hnew]
 exact ⟨.ref _,_,I.lnew (t':=s.toks) (r.rep k.toNat) (by rw [Zny,Nat.mul_comm];exact hz),rfl,q _ I.fresh⟩
end
section
variable {prog:Program} {w:World} {A:Around} {E:Value->Shared->Prop} {s:Shared}
end
section
variable {X:Cx}
end
section
variable {κ:Type} [DecidableEq κ]
noncomputable def valV (kvs:List (κ×V)) (k:κ):Option V:=(kvs.find? fun kv=>decide (kv.1=k)).map (·.2)
noncomputable def putK (kvs:List (κ×V)) (k:κ) (v:V):List (κ×V) :=
 if (kvs.any fun kv=>decide (kv.1=k))=true then kvs.map (fun kv=>if kv.1=k then (kv.1,v) else kv) else kvs++[(k,v)]
noncomputable def dropK (kvs:List (κ×V)) (k:κ):List (κ×V):=kvs.filter fun kv=>decide (kv.1≠k)
theorem ZlK {k:κ}:valV ([]:List (κ×V)) k=none:=rfl
theorem Zbs {p:κ×V} {r:List (κ×V)} {k:κ} (e:p.1=k):valV (p::r) k=some p.2:=by simp [valV,List.find?_cons,e]
theorem Zbn {p:κ×V} {r:List (κ×V)} {k:κ} (e:¬ p.1=k):valV (p::r) k=valV r k:=by simp [valV,List.find?_cons,e]
theorem Zb4 (k:κ):∀ kvs:List (κ×V),(kvs.any fun kv=>decide (kv.1=k))=(valV kvs k).isSome
 | []=>rfl
 | p::r=>by
  rw [List.any_cons]
  by_cases e:p.1=k
  .simp only [Zbs e,decide_eq_true e,Bool.true_or,Option.isSome_some]
  .rw [Zbn e,decide_eq_false e,Bool.false_or];exact Zb4 k r
theorem ZiD (k j:κ) (y:V):∀ kvs:List (κ×V),valV (kvs.map fun kv=>if kv.1=k then (kv.1,y) else kv) j=(valV kvs j).map fun x=>if j=k then y else x
 | []=>rfl
 | p::r=>by
  have ih:=ZiD k j y r
  rw [List.map_cons]
  by_cases h:p.1=k
  .rw [if_pos h]
   by_cases e:p.1=j
   .rw [Zbs (p:=(p.1,y)) e,Zbs e,Option.map_some,if_pos (e.symm.trans h)]
   .rw [Zbn (p:=(p.1,y)) e,Zbn e,ih]
  .rw [if_neg h]
   by_cases e:p.1=j
   .rw [Zbs (p:=p) e,Zbs e,Option.map_some,if_neg (fun z=>h (e.trans z))]
   .rw [Zbn (p:=p) e,Zbn e,ih]
theorem Zgt (k j:κ) (y:V):∀ kvs:List (κ×V),valV kvs k=none->valV (kvs++[(k,y)]) j=if j=k then some y else valV kvs j
 | [],_=>by
  by_cases e:k=j
  .rw [if_pos e.symm];exact Zbs (p:=(k,y)) e
  .rw [if_neg (fun z=>e z.symm)];exact Zbn (p:=(k,y)) e
 | p::r,hn=>by
  rw [List.cons_append]
  have hk:¬ p.1=k:=fun z=>by rw [Zbs z] at hn;cases hn
  rw [Zbn hk] at hn
  have ih:=Zgt k j y r hn
  by_cases e:p.1=j
  .rw [Zbs e,Zbs e,if_neg (fun z=>hk (e.trans z))]
  .rw [Zbn e,Zbn e,ih]
theorem ZlL (kvs:List (κ×V)) (k j:κ) (y:V):valV (putK kvs k y) j=if j=k then some y else valV kvs j:=by
 unfold putK
 by_cases a:(kvs.any fun kv=>decide (kv.1=k))=true
 .rw [if_pos a,ZiD]
  rw [Zb4] at a
  by_cases e:j=k
  .obtain ⟨x,hx⟩:=Option.isSome_iff_exists.mp a
   rw [if_pos e,e,hx,Option.map_some,if_pos rfl]
  .rw [if_neg e]
   cases valV kvs j with
   | none=>rfl
   | some x=>rw [Option.map_some,if_neg e]
 .rw [if_neg a]
  refine Zgt k j y kvs ?_
  rw [Zb4] at a
  cases q:valV kvs k with
  | none=>rfl
  | some x=>rw [q] at a;exact (a rfl).elim
theorem ZcX (kvs:List (κ×V)) (k:κ) (v:V):(putK kvs k v).length<=kvs.length+1:=by
 unfold putK
 split
 .rw [List.length_map];omega
 .rw [List.length_append,List.length_cons,List.length_nil];omega
theorem ZlM {kvs:List (κ×V)} {k:κ} (v:V) (h:valV kvs k=none):putK kvs k v=kvs++[(k,v)]:=by
 unfold putK
 rw [Zb4,h]
 exact if_neg (by decide)
theorem RelO.isSome_eq {o:Option V} {u:Option Value} (r:RelO o u):o.isSome=u.isSome:=by
 cases o with
 | none=>cases u with
  | none=>rfl
  | some _=>exact (show False from r).elim
 | some _=>cases u with
  | none=>exact (show False from r).elim
  | some _=>rfl
theorem RelO.getD {o:Option V} {u:Option Value} {d:V} {d':Value} (r:RelO o u) (rd:RelV d d'):RelV (o.getD d) (u.getD d'):=by
 cases o with
 | none=>cases u with
  | none=>exact rd
  | some _=>exact (show False from r).elim
 | some _=>cases u with
  | none=>exact (show False from r).elim
  | some _=>exact r
theorem KV.val {kvs:List (κ×V)} {vs:List (κ×Value)} (r:KV kvs vs) (k:κ):RelO (valV kvs k) (valueAt vs k):=by
 unfold KV at r
 induction r with
 | nil=>exact True.intro
 | @cons p q ps qs h t ih =>
  obtain ⟨h1,h2⟩:=h
  by_cases e:p.1=k
  .have e':q.1=k:=h1.symm.trans e
   have b:valueAt (q::qs) k=some q.2:=by simp [valueAt,List.find?_cons,e']
   rw [Zbs e,b];exact h2
  .have e':¬ q.1=k:=fun z=>e (h1.trans z)
   have b:valueAt (q::qs) k=valueAt qs k:=by simp [valueAt,List.find?_cons,e']
   rw [Zbn e,b];exact ih
theorem KV.any {kvs:List (κ×V)} {vs:List (κ×Value)} (r:KV kvs vs) (k:κ):(kvs.any fun kv=>decide (kv.1=k))=vs.any fun kv=>decide (kv.1=k):=by
 unfold KV at r
 induction r with
 | nil=>rfl
 | cons h t ih=>rw [List.any_cons,List.any_cons,ih,h.1]
theorem KV.repl {kvs:List (κ×V)} {vs:List (κ×Value)} (r:KV kvs vs) (k:κ) {y:V} {u:Value} (ry:RelV y u) :
  KV (kvs.map fun kv=>if kv.1=k then (kv.1,y) else kv) (vs.map fun kv=>if kv.1=k then (kv.1,u) else kv):=by
 unfold KV at r |-
 induction r with
 | nil=>exact .nil
 | @cons p q ps qs h t ih =>
  rw [List.map_cons,List.map_cons]
  refine .cons ?_ ih
  obtain ⟨h1,h2⟩:=h
  by_cases e:p.1=k
  .rw [if_pos e,if_pos (h1.symm.trans e)];exact ⟨h1,ry⟩
  .rw [if_neg e,if_neg (fun z=>e (h1.trans z))];exact ⟨h1,h2⟩
theorem KV.put {kvs:List (κ×V)} {vs:List (κ×Value)} (r:KV kvs vs) (k:κ) {y:V} {u:Value} (ry:RelV y u):KV (putK kvs k y) (stored vs k u):=by
 unfold putK stored
 rw [r.any k]
 by_cases e:(vs.any fun kv=>decide (kv.1=k))=true
 .rw [if_pos e,if_pos e];exact r.repl k ry
 .rw [if_neg e,if_neg e];exact Paired.snoc r ⟨rfl,ry⟩
theorem KV.drop {kvs:List (κ×V)} {vs:List (κ×Value)} (r:KV kvs vs) (k:κ):KV (dropK kvs k) (without vs k):=by
 unfold KV at r |-
 unfold dropK without
 induction r with
 | nil=>exact .nil
 | @cons p q ps qs h t ih =>
  obtain ⟨h1,h2⟩:=h
  rw [List.filter_cons,List.filter_cons]
  by_cases e:p.1=k
  .have a:¬ decide (p.1≠k)=true:=by simp [e]
   have b:¬ decide (q.1≠k)=true:=by simp [h1.symm.trans e]
   rw [if_neg a,if_neg b];exact ih
  .have e':¬ q.1=k:=fun z=>e (h1.trans z)
   have a:decide (p.1≠k)=true:=by simp [e]
   have b:decide (q.1≠k)=true:=by simp [e']
   rw [if_pos a,if_pos b];exact .cons ⟨h1,h2⟩ ih
theorem KV.keys {kvs:List (κ×V)} {vs:List (κ×Value)} (r:KV kvs vs):kvs.map (·.1)=vs.map (·.1):=by
 unfold KV at r
 induction r with
 | nil=>rfl
 | cons h t ih=>rw [List.map_cons,List.map_cons,ih,h.1]
theorem KV.length {kvs:List (κ×V)} {vs:List (κ×Value)} (r:KV kvs vs):kvs.length=vs.length:=Paired.length r
theorem Zfx (kvs:List (κ×V)) (k:κ):(dropK kvs k).length<=kvs.length:=List.length_filter_le _ _
end
theorem ZhD {P:Program} {w:World} {k:Key} {u:Value} (r:RelV (kV k) u):(Za1 P w).is k u=true:=by
 cases k with
 | inl i=>obtain ⟨t,e⟩:=(show ∃ t,u=Value.int i t from r);subst e;exact Zht P w i t
 | inr x=>obtain ⟨t,e⟩:=(show ∃ t,u=Value.str x t from r);subst e;exact Zhu P w x t
theorem Zgu {P:Program} {w:World}:∀ {ks:List Key} {us:List Value},Vals (ks.map kV) us->ItemsAre (Za1 P w) ks us
 | [],_,r=>by rw [List.map_nil] at r;cases r;exact .nil
 | k::ks,_,r=>by
  rw [List.map_cons] at r
  cases r with
  | cons h t=>exact .cons (ZhD h) (Zgu t)
noncomputable abbrev KT (H:Hp):List (List Key×V)->List (List Key×Addr×Value)->Prop:=Paired fun p q=>p.1=q.1/\H q.2.1=some (.tup (p.1.map kV))/\RelV p.2 q.2.2
theorem KT.val {H:Hp} {kvs:List (List Key×V)} {xs:List (List Key×Addr×Value)} (r:KT H kvs xs) (k:List Key):RelO (valV kvs k) ((atKey xs k).map (·.2)):=by
 induction r with
 | nil=>exact True.intro
 | @cons p q ps qs h t ih =>
  obtain ⟨h1,_,h2⟩:=h
  by_cases e:p.1=k
  .have e':q.1=k:=h1.symm.trans e
   have b:atKey (q::qs) k=some q.2:=by simp [atKey,List.find?_cons,e']
   rw [Zbs e,b];exact h2
  .have e':¬ q.1=k:=fun z=>e (h1.trans z)
   have b:atKey (q::qs) k=atKey qs k:=by simp [atKey,List.find?_cons,e']
   rw [Zbn e,b];exact ih
theorem KT.repl {H:Hp} {kvs:List (List Key×V)} {xs:List (List Key×Addr×Value)} (r:KT H kvs xs) (k:List Key) {y:V} {u:Value} (ry:RelV y u) :
  KT H (kvs.map fun kv=>if kv.1=k then (kv.1,y) else kv) (xs.map (putAt k u)):=by
 induction r with
 | nil=>exact .nil
 | @cons p q ps qs h t ih =>
  rw [List.map_cons,List.map_cons]
  refine .cons ?_ ih
  obtain ⟨h1,h2,h3⟩:=h
  unfold putAt
  by_cases e:p.1=k
  .rw [if_pos e,if_pos (h1.symm.trans e)];exact ⟨h1,h2,ry⟩
  .rw [if_neg e,if_neg (fun z=>e (h1.trans z))];exact ⟨h1,h2,h3⟩
theorem KT.put {H:Hp} {kvs:List (List Key×V)} {xs:List (List Key×Addr×Value)} (r:KT H kvs xs) (k:List Key) {b:Addr} {y:V} {u:Value} (hb:H b=some (.tup (k.map kV))) (ry:RelV y u) :
  KT H (putK kvs k y) (storedH xs k b u):=by
 have e:(kvs.any fun kv=>decide (kv.1=k))=(atKey xs k).isSome:=by
  rw [Zb4,(r.val k).isSome_eq,Option.isSome_map]
 unfold putK storedH
 rw [e]
 by_cases q:(atKey xs k).isSome=true
 .rw [if_pos q,if_pos q];exact r.repl k ry
 .rw [if_neg q,if_neg q];exact Paired.snoc r ⟨rfl,hb,ry⟩
theorem KT.keeps {H H':Hp} {kvs:List (List Key×V)} {xs:List (List Key×Addr×Value)} (r:KT H kvs xs) (ht:∀ b ys,H b=some (.tup ys)->H' b=some (.tup ys)):KT H' kvs xs :=
 Paired.mapP r fun _ _ z=>⟨z.1,ht _ _ z.2.1,z.2.2⟩
section
variable {P:Program} {w:World} {H:Hp} {h:Heap} {a:Addr}
theorem rd_of {u:HO} (ok:HOk P w H h) (e:Rd H a u):ObjOk P w H h a u:=e.ok ok
theorem Zjd {kvs:List (Key×V)} (ok:HOk P w H h) (e:Rd H a (.dK kvs)):kvs.length<=sizeLine/\(a==sysModules)=false/\∃ vs,KV kvs vs/\h.DictOf (Za1 P w) a vs :=
 show ObjOk P w H h a (.dK kvs) from rd_of ok e
theorem Zj4 {kvs:List (Key×V)} (ok:HOk P w H h) (e:H a=some (.dK kvs)):kvs.length<=sizeLine/\(a==sysModules)=false/\∃ vs,KV kvs vs/\h.DictOf (Za1 P w) a vs:=Zjd ok (.inl e)
theorem ZiE {ks:List Key} (ok:HOk P w H h) (e:H a=some (.tup (ks.map kV))):(tupleKind (Za1 P w)).is h ks a:=by
 obtain ⟨_,its,r,o,h1,h2,n,h3⟩:=(show ObjOk P w H h a (.tup (ks.map kV)) from ok a _ e)
 exact ⟨o,its.toArray,n,h1,h2,h3,by simpa using Zgu r⟩
theorem Zj5 {kvs:List (List Key×V)} (ok:HOk P w H h) (e:Rd H a (.dT kvs)):kvs.length<=sizeLine/\(a==sysModules)=false /\
  ∃ xs,KT H kvs xs/\h.DictOfH (tupleKind (Za1 P w)) a xs:=by
 obtain ⟨z,y,xs,r,o,es,ep,h1,h2,h3,h4,h5⟩:=(show ObjOk P w H h a (.dT kvs) from rd_of ok e)
 refine ⟨z,y,xs,r,o,es,ep,h1,h2,h3,h4,fun x hx=>?_,h5⟩
 have all:∀ {l:List (List Key×V)} {m:List (List Key×Addr×Value)},KT H l m->∀ x∈m,(tupleKind (Za1 P w)).is h x.1 x.2.1:=by
  intro l m q
  induction q with
  | nil=>intro x hx;exact nomatch hx
  | @cons p q ps qs hq t ih =>
   intro x hx
   rcases List.mem_cons.mp hx with e|hx
   .subst e
    exact ZiE ok (by rw [<- hq.1];exact hq.2.1)
   .exact ih x hx
 exact all r x hx
theorem dt_of {kvs:List (List Key×V)} (ok:HOk P w H h) (e:H a=some (.dT kvs)):kvs.length<=sizeLine/\(a==sysModules)=false /\
  ∃ xs,KT H kvs xs/\h.DictOfH (tupleKind (Za1 P w)) a xs:=Zj5 ok (.inl e)
end
noncomputable def DGet (H:Hp) (a:Addr) (y:V) (r:Option V):Prop :=
 (∃ kvs k,Rd H a (.dK kvs)/\y=kV k/\r=valV kvs k)\/∃ kvs k b,Rd H a (.dT kvs)/\y=.ref b/\H b=some (.tup (k.map kV))/\r=valV kvs k
noncomputable def DPut (H:Hp) (a:Addr) (y v:V) (H':Hp):Prop :=
 (∃ kvs k,H a=some (.dK kvs)/\y=kV k/\kvs.length<sizeLine/\H'=upd H a (.dK (putK kvs k v))) \/
 ∃ kvs k b,H a=some (.dT kvs)/\y=.ref b/\H b=some (.tup (k.map kV))/\kvs.length<sizeLine/\H'=upd H a (.dT (putK kvs k v))
theorem DGet.k {H:Hp} {a:Addr} {kvs:List (Key×V)} {k:Key} (e:H a=some (.dK kvs)):DGet H a (kV k) (valV kvs k):=.inl ⟨kvs,k,.inl e,rfl,rfl⟩
theorem DGet.t {H:Hp} {a b:Addr} {kvs:List (List Key×V)} {k:List Key} (e:H a=some (.dT kvs)) (eb:H b=some (.tup (k.map kV))):DGet H a (.ref b) (valV kvs k):=.inr ⟨kvs,k,b,.inl e,rfl,eb,rfl⟩
theorem DPut.k {H:Hp} {a:Addr} {kvs:List (Key×V)} {k:Key} {v:V} (e:H a=some (.dK kvs)) (hl:kvs.length<sizeLine):DPut H a (kV k) v (upd H a (.dK (putK kvs k v))):=.inl ⟨kvs,k,e,rfl,hl,rfl⟩
theorem DPut.t {H:Hp} {a b:Addr} {kvs:List (List Key×V)} {k:List Key} {v:V} (e:H a=some (.dT kvs)) (eb:H b=some (.tup (k.map kV))) (hl:kvs.length<sizeLine) :
  DPut H a (.ref b) v (upd H a (.dT (putK kvs k v))):=.inr ⟨kvs,k,b,e,rfl,eb,hl,rfl⟩
section
variable {X:Cx} {pins:List (Addr×Obj)} {σ:St} {H:Hp} {s:Shared} {a:Addr} {y v:V} {u r:Value} {o:Option V} {A:Around} {E:Value->Shared->Prop}
theorem Inv.big (I:Inv X pins σ H s):sysModules<s.heap.objs.size:=by
 have h:mainGlobals<s.heap.objs.size:=(I.mod.glob.keeps I.bk).lt
 exact Nat.lt_trans (by decide) h
theorem Zj6 {Q:Value->Shared->Prop} (hu:A.units+1<cLine) (I:Inv X pins σ H s) (g:DGet H a y (some v)) (ry:RelV y u) (h:∀ w' s',Inv X pins σ H s'->RelV v w'->Q w' s') :
  wpAny (model X.prog X.w) A (getItem (.ref a) u) Q E s:=by
 rcases g with ⟨kvs,k,e,ey,l⟩|⟨kvs,k,b,e,ey,eb,l⟩
 .subst ey
  obtain ⟨z,hd,vs,rel,dd⟩:=Zjd I.hok e
  obtain ⟨w',hw,rw'⟩:=RelO.some_of (v:=v) (o:=valueAt vs k) (by rw [l];exact rel.val k)
  exact wpAny_getItem_of (ZhD ry) dd.mapOf hw (h w' _ (I.tok _) rw')
 .subst ey
  cases (show u=Value.ref b from ry)
  obtain ⟨z,hd,xs,rel,dd⟩:=Zj5 I.hok e
  obtain ⟨w',hw,rw'⟩:=RelO.some_of (v:=v) (o:=(atKey xs k).map (·.2)) (by rw [l];exact rel.val k)
  obtain ⟨p,hp,hp2⟩:=Option.map_eq_some_iff.mp hw
  refine wpAny_getItem_heap (tupleKind_room_in1 hu) (ZiE I.hok eb) dd hp ?_
  rw [hp2]
  exact h w' _ (I.tok _) rw'
theorem Zfy {h':Heap} {t':Nat} {ob:HO} (I:Inv X pins σ H s) (mu:Mut (H a)) (hs:Heap.SameBut a s.heap h') (he:∃ q,h'.get? a=some q) (new:ObjOk X.prog X.w (upd H a ob) h' a ob) :
  Inv X pins σ (upd H a ob) { s with heap:=h',toks:=t' } :=
 I.write (x:=a) (e:=a) mu (.inl rfl) (fun b q hb z=>(hs.2 b hb).trans z) he new
theorem Zj7 {P:Program} {w:World} {H':Hp} {h':Heap} {kvs:List (Key×V)} {vs:List (Key×Value)} (z:kvs.length<=sizeLine) (hd:(a==sysModules)=false) (rel:KV kvs vs) (dd:h'.DictOf (Za1 P w) a vs) :
  ObjOk P w H' h' a (.dK kvs):=⟨z,hd,vs,rel,dd⟩
theorem Zj8 {H':Hp} {Q:Unit->Shared->Prop} (hu:A.units+1<cLine) (I:Inv X pins σ H s) (g:DPut H a y v H') (ry:RelV y u) (rv:RelV v r) (h:∀ s',Inv X pins σ H' s'->Q () s') :
  wpAny (model X.prog X.w) A (setItem (.ref a) u r) Q E s:=by
 rcases g with ⟨kvs,k,e,ey,l,eH⟩|⟨kvs,k,b,e,ey,eb,l,eH⟩
 .subst ey eH
  obtain ⟨z,hd,vs,rel,dd⟩:=Zj4 I.hok e
  have hz:vs.length<=sizeLine:=by rw [<- rel.length];exact z
  have hl:(putK kvs k v).length<=sizeLine:=by have:=ZcX kvs k v;omega
  refine wpAny_setItem_pairs (hsz:=hz) (ZhD ry) dd fun h' dd' hs=>h _ ?_
  have he:∃ q,h'.get? a=some q:=let ⟨q,_,_,hq,_⟩:=dd';⟨q,hq⟩
  exact Zfy I (by rw [e];exact True.intro) hs he (Zj7 hl hd (rel.put k rv) dd')
 .subst ey eH
  cases (show u=Value.ref b from ry)
  obtain ⟨z,hd,xs,rel,dd⟩:=dt_of I.hok e
  have hz:xs.length<=sizeLine:=by rw [<- Paired.length rel];exact z
  have hl:(putK kvs k v).length<=sizeLine:=by have:=ZcX kvs k v;omega
  refine wpAny_setItem_heap (hsz:=hz) (tupleKind_room_in1 hu) (ZiE I.hok eb) dd fun h' dd' hs=>h _ ?_
  obtain ⟨q,es,ep,hq,h2,h3,h4,_,h5⟩:=dd'
  refine Zfy I (by rw [e];exact True.intro) hs ⟨q,hq⟩ ⟨hl,hd,_,(rel.put k eb rv).keeps fun c ys ec=>?_,q,es,ep,hq,h2,h3,h4,h5⟩
  rw [Zai (Zbl ec e (fun z=>nomatch z))]
  exact ec
end
section
variable {X:Cx} {pins:List (Addr×Obj)} {σ:St} {H:Hp} {s:Shared} {a:Addr} {kvs:List (Key×V)} {k:Key} {u:Value} {A:Around} {E:Value->Shared->Prop}
theorem d_delItem {Q:Unit->Shared->Prop} (I:Inv X pins σ H s) (e:H a=some (.dK kvs)) (ry:RelV (kV k) u) (l:(valV kvs k).isSome=true) (h:∀ s',Inv X pins σ (upd H a (.dK (dropK kvs k))) s'->Q () s') :
  wpAny (model X.prog X.w) A (delItem (.ref a) u) Q E s:=by
 obtain ⟨z,hd,vs,rel,dd⟩:=Zj4 I.hok e
 refine wpAny_delItem_slot dd.typeIs (by decide) PySem.F.slot_dict_delitem
  (call_meetsIn PySem.F.slot_dict_delitem dd.typeIs PySem.F.entry_dict_delitem (PySem.F.args_dict_delitem_2 _ _) (meets_dict_delitem_pairs (Za1 X.prog X.w) a (ZhD ry)) ⟨vs,dd,by rw [<- rel.length];exact z,by rw [<- (rel.val k).isSome_eq];exact l,fun h' dd' hs=>h _ ?_⟩)
 have he:∃ q,h'.get? a=some q:=let ⟨q,_,_,hq,_⟩:=dd';⟨q,hq⟩
 exact Zfy I (by rw [e];exact True.intro) hs he (Zj7 (Nat.le_trans (Zfx kvs k) z) hd (rel.drop k) dd')
theorem d_pop {v:V} {more:List Value} {Q:Value->Shared->Prop} (I:Inv X pins σ H s) (e:H a=some (.dK kvs)) (ry:RelV (kV k) u) (l:valV kvs k=some v) (hm:more=[]\/∃ x,more=[x])
  (h:∀ w' s',Inv X pins σ (upd H a (.dK (dropK kvs k))) s'->RelV v w'->Q w' s'):wpAny (model X.prog X.w) A (call (.builtin "dict.pop") (.ref a::u::more)) Q E s:=by
 obtain ⟨z,hd,vs,rel,dd⟩:=Zj4 I.hok e
 obtain ⟨w',hw,rw'⟩:=RelO.some_of (v:=v) (o:=valueAt vs k) (by rw [<- l];exact rel.val k)
 have hp:(keyPart u).isSome=true:=by
  cases k with
  | inl i=>obtain ⟨t,q⟩:=(show ∃ t,u=Value.int i t from ry);subst q;rfl
  | inr x=>obtain ⟨t,q⟩:=(show ∃ t,u=Value.str x t from ry);subst q;rfl
 have ha:argsOk "dict.pop" ⟨.ref a::u::more,[]⟩:=by
  rcases hm with q|⟨x,q⟩
  .subst q;exact PySem.F.args_dict_pop_2 _ _
  .subst q;exact PySem.F.args_dict_pop_3 _ _ _
 refine call_meetsIn PySem.F.slot_dict_pop dd.typeIs PySem.F.entry_dict_pop ha (meets_dict_pop_there (Za1 X.prog X.w) a (ZhD ry) more hm hp)
  ⟨vs,w',dd,by rw [<- rel.length];exact z,hw,fun h' dd' hs=>h w' _ ?_ rw'⟩
 have he:∃ q,h'.get? a=some q:=let ⟨q,_,_,hq,_⟩:=dd';⟨q,hq⟩
 exact Zfy I (by rw [e];exact True.intro) hs he (Zj7 (Nat.le_trans (Zfx kvs k) z) hd (rel.drop k) dd')
theorem d_popD {r:Value} {Q:Value->Shared->Prop} (I:Inv X pins σ H s) (e:H a=some (.dK kvs)) (ry:RelV (kV k) u) (l:valV kvs k=none) (h:∀ s',Inv X pins σ H s'->Q r s') :
  wpAny (model X.prog X.w) A (call (.builtin "dict.pop") [.ref a,u,r]) Q E s:=by
 obtain ⟨z,hd,vs,rel,dd⟩:=Zj4 I.hok e
 have hn:valueAt vs k=none:=RelO.none_of (by rw [<- l];exact rel.val k)
 have hp:(keyPart u).isSome=true:=by
  cases k with
  | inl i=>obtain ⟨t,q⟩:=(show ∃ t,u=Value.int i t from ry);subst q;rfl
  | inr x=>obtain ⟨t,q⟩:=(show ∃ t,u=Value.str x t from ry);subst q;rfl
 exact call_meetsIn PySem.F.slot_dict_pop dd.typeIs PySem.F.entry_dict_pop (PySem.F.args_dict_pop_3 _ _ _) (meets_dict_pop_default (Za1 X.prog X.w) a (ZhD ry) hd hp r) ⟨vs,dd,hn,h _ (I.tok _)⟩
theorem d_len {Q:Value->Shared->Prop} (I:Inv X pins σ H s) (e:Rd H a (.dK kvs)) (h:∀ t s',Inv X pins σ H s'->Q (.int kvs.length t) s'):wpAny (model X.prog X.w) A (call (.builtin "len") [.ref a]) Q E s:=by
 obtain ⟨z,hd,vs,rel,dd⟩:=Zjd I.hok e
 refine call_len_dict hd dd (by rw [<- rel.length];rw [sizeLine_eq] at z;omega) ?_
 rw [<- rel.length]
 exact h _ _ (I.tok _)
end
noncomputable def NoSl (i:Expr):Prop:=∀ ov iv,subscripted i false ov iv=operate [ov,iv] (getItem ov iv)
theorem Zj9 {prog:Program} {w:World} {A:Around} {E:Value->Shared->Prop} {s:Shared} {env:Env} {value slice:Expr} {pos:Pos} {T id:String} {Q:Value->Shared->Prop}
  (hl:typeLookup (.type T) "__getitem__" = pure (some (.builtin id))) (hs:NoSl slice)
  (h:wpAny (model prog w) A (eval value env) (fun o s₁=>wpAny (model prog w) A (eval slice env) (fun i s₂=>s₂.TypeIs o T/\wpAny (model prog w) A (getItem o i) Q E s₂) E s₁) E s) :
  wpAny (model prog w) A (eval (.Subscript value slice pos) env) Q E s:=by
 refine Subscript_ (wpAny_mono h (fun o s₁ h₁=>wpAny_mono h₁ (fun i s₂ h₂=>?_) fun _ _ x=>x) fun _ _ x=>x)
 obtain ⟨hT,h₂⟩:=h₂
 unfold subscriptTail
 refine wpAny_bind ?_
 rw [getitemInPython_of_ne hT.not_modules]
 refine wpAny_bind (wpAny_specialOf hT hl ?_)
 have fin:wpAny (model prog w) A (subscripted slice false o i) (fun r s₃=>wpAny (model prog w) A (letTemporaryGo value o r >>= fun _=>pure r) Q E s₃) E s₂:=by
  rw [hs o i]
  exact wpAny_operating (wpAny_mono h₂ (fun r s₃ h₃=>wpAny_bind (wpAny_letTemporaryGo (wpAny_pure h₃))) fun _ _ x=>x)
 first
  | exact wpAny_pure (wpAny_bind fin)
  | exact wpAny_bind (wpAny_pure (wpAny_bind fin))
  | exact wpAny_bind fin
theorem ZhE {X:Cx} {pins:List (Addr×Obj)} {σ:St} {H:Hp} {s:Shared} {a:Addr} {y:V} {o:Option V} (I:Inv X pins σ H s) (g:DGet H a y o):s.TypeIs (.ref a) "dict" := by
 rcases g with ⟨kvs,k,e,_,_⟩|⟨kvs,k,b,e,_,_,_⟩
 .obtain ⟨_,_,vs,_,dd⟩:=Zjd I.hok e
  exact dd.typeIs
 .obtain ⟨_,_,xs,_,dd⟩:=Zj5 I.hok e
  exact dd.typeIs
noncomputable def tDGet (td ty:TE):TE:=fun σ H Q=>td σ H fun x H1=>ty σ H1 fun y H2=>∃ a v,x=.ref a/\DGet H2 a y (some v)/\Q v H2
noncomputable def sDPut (td ty tv:TE):TS:=fun D σ H=>tv σ H fun v H1=>td σ H1 fun x H2=>ty σ H2 fun y H3=>∃ a H4,x=.ref a/\DPut H3 a y v H4/\D.nx σ H4
section
variable {X:Cx} {o i e value:Expr} {pos pos' tpos:Pos} {td ty tv:TE}
theorem Znz (hu:X.A.units+1<cLine) (ho:PE X o td) (hi:PE X i ty) (hs:NoSl i):PE X (.Subscript o i pos) (tDGet td ty):=by
 intro pins s σ H Q I h
 refine Zj9 PySem.F.slot_dict_getitem.lookup hs (thn (ho pins s σ H _ I h) fun u s1 ⟨x,H1,I1,rx,q1⟩=>thn (hi pins s1 σ H1 _ I1 q1) fun iv s2 ⟨y,H2,I2,ry,a,v,ex,g,q2⟩=>?_)
 subst ex
 obtain rfl:u=Value.ref a:=rx
 exact ⟨ZhE I2 g,Zj6 hu I2 g ry fun w' s3 I3 rw'=>⟨v,H2,I3,rw',q2⟩⟩
theorem ZnA (hu:X.A.units+1<cLine) (ho:PE X o td) (hi:PE X i ty) (hv:PE X value tv) (hs:swapsWith value (some (.Subscript o i pos')) pos.line X.env=pure false) :
  PS X (.Assign [.Subscript o i pos'] value pos) (sDPut td ty tv):=by
 intro pins s σ H D I h
 refine wpAny_Assign_Subscript (thn (hv pins s σ H _ I h) fun r s1 ⟨v,H1,I1,rv,q1⟩=>thn (ho pins s1 σ H1 _ I1 q1) fun u s2 ⟨x,H2,I2,rx,q2⟩=>thn (hi pins s2 σ H2 _ I2 q2) fun iv s3 ⟨y,H3,I3,ry,a,H4,ex,g,q3⟩=>?_) hs
 subst ex
 obtain rfl:u=Value.ref a:=rx
 exact Zj8 hu I3 g ry rv fun s4 I4=>⟨σ,H4,I4,q3⟩
end
theorem ZlN {P:Program} {w:World} {H:Hp} (h:Heap) (hb:sysModules<h.objs.size):ObjOk P w H (h.push { cls:=.type "dict", data:=.dict #[] }) h.objs.size (.dK []) :=
 ⟨Nat.zero_le _,beq_eq_false_iff_ne.mpr (Ne.symm (Nat.ne_of_lt hb)),[],.nil,Heap.DictOf.new h⟩
noncomputable def tDNewK:TE:=fun _ H Q=>∀ p,H p=none->Q (.ref p) (upd H p (.dK []))
section
variable {X:Cx} {pos:Pos}
theorem ZlO:PE X (.Dict [] [] pos) tDNewK:=fun pins s σ H Q I h =>
 wpAny_Dict_empty ⟨.ref s.heap.objs.size,_,I.laid (a:=s.heap.objs.size) (o:=.dK []) (t':=s.toks) (fun _ _ q=>Heap.get?_push_of_some _ q) (Nat.le_refl _) (ZlN s.heap I.big),rfl,h _ (I.hok.fresh (Nat.le_refl _))⟩
end
noncomputable abbrev VV:List (V×V)->List (Value×Value)->Prop:=Paired fun p q=>RelV p.1 q.1/\RelV p.2 q.2
structure M1 (X:Cx) (o:Expr) (m:Str) (apos:Pos) (e:Expr) (cpos:Pos):Prop where
 base:attributeBase o m X.env (eval o X.env)=eval o X.env
 few:((backTo cpos (starEach [e] X.env)).all (fun x=>!x.1)&&(backToKw cpos (keywordEach [] X.env)).all (fun x=>x.1.isSome)
  && decide (([e]:List Expr).length+([]:List Keyword).length+(if ([]:List Keyword).isEmpty then 0 else 1)<30))=true
 line:(apos.endLine==cpos.line)=true
 trees:backTo cpos (starEach [e] X.env)=[(false,eval e X.env)]
structure M2 (X:Cx) (o:Expr) (m:Str) (apos:Pos) (e f:Expr) (cpos:Pos):Prop where
 base:attributeBase o m X.env (eval o X.env)=eval o X.env
 few:((backTo cpos (starEach [e,f] X.env)).all (fun x=>!x.1)&&(backToKw cpos (keywordEach [] X.env)).all (fun x=>x.1.isSome)
  && decide (([e,f]:List Expr).length+([]:List Keyword).length+(if ([]:List Keyword).isEmpty then 0 else 1)<30))=true
 line:(apos.endLine==cpos.line)=true
 trees:backTo cpos (starEach [e,f] X.env)=[(false,eval e X.env),(false,eval f X.env)]
noncomputable def IsD (H:Hp) (a:Addr):Prop:=(∃ kvs,Rd H a (.dK kvs))\/∃ kvs,Rd H a (.dT kvs)
theorem Zm4 {X:Cx} {pins:List (Addr×Obj)} {σ:St} {H:Hp} {s:Shared} {a:Addr} (I:Inv X pins σ H s) (d:IsD H a) :
  s.TypeIs (.ref a) "dict" /\ (∀ b,Value.ref a=.ref b->∃ ob,s.heap.get? b=some ob/\ob.dict=none)/\(a==sysModules)=false:=by
 rcases d with ⟨kvs,e⟩|⟨kvs,e⟩
 .obtain ⟨_,hd,vs,_,dd⟩:=Zjd I.hok e
  refine ⟨dd.typeIs,fun b q=>?_,hd⟩
  cases q
  obtain ⟨ob,_,_,h1,h2,_⟩:=dd
  exact ⟨ob,h1,h2.2.1⟩
 .obtain ⟨_,hd,xs,_,dd⟩:=Zj5 I.hok e
  refine ⟨dd.typeIs,fun b q=>?_,hd⟩
  cases q
  obtain ⟨ob,_,_,h1,h2,_⟩:=dd
  exact ⟨ob,h1,h2.2.1⟩
section
variable {X:Cx} {pins:List (Addr×Obj)} {σ:St} {H:Hp} {s:Shared} {a:Addr} {y d:V} {u r:Value} {o:Option V} {A:Around} {E:Value->Shared->Prop}
theorem d_get2 {Q:Value->Shared->Prop} (hu:A.units+1<cLine) (I:Inv X pins σ H s) (g:DGet H a y o) (ry:RelV y u) (rd:RelV d r) (h:∀ w' s',Inv X pins σ H s'->RelV (o.getD d) w'->Q w' s') :
  wpAny (model X.prog X.w) A (call (.builtin "dict.get") [.ref a,u,r]) Q E s:=by
 rcases g with ⟨kvs,k,e,ey,l⟩|⟨kvs,k,b,e,ey,eb,l⟩
 .subst ey
  obtain ⟨z,hd,vs,rel,dd⟩:=Zjd I.hok e
  refine call_meetsIn PySem.F.slot_dict_get dd.typeIs PySem.F.entry_dict_get (PySem.F.args_dict_get_3 _ _ _) (meets_dict_get_default (Za1 X.prog X.w) a (ZhD ry) hd r) ⟨_,dd.mapOf,h _ _ (I.tok _) ?_⟩
  rw [l]
  exact (rel.val k).getD rd
 .subst ey
  cases (show u=Value.ref b from ry)
  obtain ⟨z,hd,xs,rel,dd⟩:=Zj5 I.hok e
  refine call_meetsIn PySem.F.slot_dict_get dd.typeIs PySem.F.entry_dict_get (PySem.F.args_dict_get_3 _ _ _) (meetsH_dict_get_default (tupleKind (Za1 X.prog X.w)) a b hd r) ⟨tupleKind_room_in1 hu,k,xs,ZiE I.hok eb,dd,h _ _ (I.tok _) ?_⟩
  rw [l]
  exact (rel.val k).getD rd
end
noncomputable def tDGet2 (td ty tx:TE):TE:=fun σ H Q=>td σ H fun x H1=>∃ a,x=.ref a/\IsD H1 a/\ty σ H1 fun y H2=>tx σ H2 fun z H3=>∃ o,DGet H3 a y o/\Q (o.getD z) H3
noncomputable def tDPop2 (td ty tx:TE):TE:=fun σ H Q=>td σ H fun x H1=>∃ a,x=.ref a/\IsD H1 a/\ty σ H1 fun y H2=>tx σ H2 fun z H3=>∃ kvs k,H3 a=some (.dK kvs)/\y=kV k /\
 (∀ v,valV kvs k=some v->Q v (upd H3 a (.dK (dropK kvs k))))/\(valV kvs k=none->Q z H3)
section
variable {X:Cx} {o e f:Expr} {apos cpos:Pos} {td ty tx:TE}
theorem ZlP (hu:X.A.units+1<cLine) (ho:PE X o td) (he:PE X e ty) (hf:PE X f tx) (m:M2 X o "get" apos e f cpos):PE X (.Call (.Attribute o "get" apos) [e,f] [] cpos) (tDGet2 td ty tx):=by
 intro pins s σ H Q I h
 refine wpAny_Call_method m.base m.few m.line PySem.F.plainAttrs_dict PySem.F.slot_dict_get PySem.F.type_dict_get (thn (ho pins s σ H _ I h) fun u s1 ⟨x,H1,I1,rx,a,ex,d,q1⟩=>?_)
 subst ex
 obtain rfl:u=Value.ref a:=rx
 obtain ⟨t1,t2,_⟩:=Zm4 I1 d
 refine ⟨t1,t2,?_⟩
 rw [m.trees]
 refine Calls.callWith_builtin rfl (Calls.evalArgs_plain (Calls.spliced_cons (thn (he pins s1 σ H1 _ I1 q1) fun iv s2 ⟨y,H2,I2,ry,q2⟩ =>
  Calls.spliced_cons (thn (hf pins s2 σ H2 _ I2 q2) fun fv s3 ⟨z,H3,I3,rz,ov,g,q3⟩=>Calls.spliced_nil ?_))))
 exact d_get2 hu I3 g ry rz fun w' s4 I4 rw'=>⟨_,H3,I4,rw',q3⟩
theorem ZlQ (ho:PE X o td) (he:PE X e ty) (hf:PE X f tx) (m:M2 X o "pop" apos e f cpos):PE X (.Call (.Attribute o "pop" apos) [e,f] [] cpos) (tDPop2 td ty tx):=by
 intro pins s σ H Q I h
 refine wpAny_Call_method m.base m.few m.line PySem.F.plainAttrs_dict PySem.F.slot_dict_pop PySem.F.type_dict_pop (thn (ho pins s σ H _ I h) fun u s1 ⟨x,H1,I1,rx,a,ex,d,q1⟩=>?_)
 subst ex
 obtain rfl:u=Value.ref a:=rx
 obtain ⟨t1,t2,_⟩:=Zm4 I1 d
 refine ⟨t1,t2,?_⟩
 rw [m.trees]
 refine Calls.callWith_builtin rfl (Calls.evalArgs_plain (Calls.spliced_cons (thn (he pins s1 σ H1 _ I1 q1) fun iv s2 ⟨y,H2,I2,ry,q2⟩ =>
  Calls.spliced_cons (thn (hf pins s2 σ H2 _ I2 q2) fun fv s3 ⟨z,H3,I3,rz,kvs,k,ea,ey,q3,q4⟩=>Calls.spliced_nil ?_))))
 subst ey
 cases l:valV kvs k with
 | some v=>exact d_pop I3 ea ry l (.inr ⟨fv,rfl⟩) fun w' s4 I4 rw'=>⟨v,_,I4,rw',q3 v l⟩
 | none=>exact d_popD I3 ea ry l fun s4 I4=>⟨z,H3,I4,rz,q4 l⟩
end
section
variable {X:Cx} {pins:List (Addr×Obj)} {σ:St} {H:Hp} {s:Shared} {a:Addr} {kvs:List (Key×V)} {A:Around} {E:Value->Shared->Prop}
end
section
variable {X:Cx} {pins:List (Addr×Obj)} {σ:St} {H:Hp} {s:Shared} {a:Addr} {y:V} {u:Value} {A:Around} {E:Value->Shared->Prop}
end
end L2
namespace Att
open PySem PySem.W PySem.Calls PyProof.Rows
theorem Zem {P:Params} {h:Heap}:∀ (ns:List Int) (vs:List Value),WellAll P h vs (ns.map WData.int)->IntsAre vs ns:=by
 intro ns
 induction ns with
 | nil =>
  intro vs w
  rw [List.map_nil] at w
  cases w
  exact .nil
 | cons n ns ih =>
  intro vs w
  rw [List.map_cons] at w
  cases w with
  | cons a b =>
   cases a
   exact .cons _ _ (ih _ b)
theorem Zgv {l:OpenLaw} {n:Nat} (hn:l.most=some n) {P:Params} {h:Heap} {args:List WData} {vals:List Value}
  (hpre:l.row.toRowW.claim.pre args=true) (hwl:WellAll P h vals args) :
  ∃ a vs ns,vals=[Value.ref a]/\args=[WData.list (ns.map WData.int)]/\h.get? a=some { cls:=.type "list", data:=.seq vs.toArray }/\IntsAre vs ns/\ns.length<=n:=by
 have hsh:WShape.hasAll [] args [.list .int]=true:=(pre_splitW hpre).1
 have hc:l.pre.holds [] { args:=args }=true:=(pre_splitW hpre).2
 obtain ⟨d,r,rfl,h1,h2⟩:=hasAllW_cons hsh
 obtain rfl:=hasAllW_nil h2
 obtain ⟨xs,rfl,h3⟩:=hasW_list h1
 obtain ⟨ns,rfl⟩:=items_int h3
 have hlen:ns.length<=n:=by
  unfold OpenLaw.pre at hc
  have h4:(WTm.not (.lt (.lit (.int (n:Int))) (.len (.arg 0)))).holds [] { args:=[.list (ns.map .int)] }=true:=by
   have h4:=(holds_andW hc).1
   rw [hn] at h4
   exact h4
  have h5:=condW_of h4 (w_not (w_lt w_lit (w_len_list (w_arg rfl))))
  rw [List.length_map] at h5
  refine Nat.le_of_not_lt fun q=>?_
  have q':(n:Int)<((ns.length:Nat):Int):=by omega
  first
   | (rw [decide_eq_true q'] at h5;exact absurd h5 (by decide))
   | (simp at h5;omega)
 cases hwl with
 | cons w1 w2 =>
  cases w2
  cases w1 with
  | list ho hall=>exact ⟨_,_,ns,rfl,rfl,ho,Zem ns _ hall,hlen⟩
theorem Zgw (l:OpenLaw) (args:List WData):l.row.toRowW.claim.post args (.bool true) args=true :=
 postW_of (r:=l.row.toRowW) (X:=(true==true))
  (show WShape.has [] (.bool true) .bool=true by first|rfl|decide|simp [WShape.has,WShape.arms,WShape.armsAll])
  (show (WTm.eq .res (.lit (.bool true))).value [] { args:=args,res:=some (.bool true),after:=args }=some (.bool (true==true)) from w_eq_bool (w_res rfl) w_lit) rfl
theorem attach {l:OpenLaw} {n:Nat} {q:Program} {loose:List Str} {XP:(Str->Option Value)->Heap->Prop} {YP:World->Heap->Prop} {d:DefRec} {x:Str}
  (hn:l.most=some n) (hdf:d.params.defaults=[])
  (hbind:∀ pm cd doc v:Value,bindArgs (docDef d.name d.params d.body d.scope pm cd doc) ⟨[v],[]⟩=pure [(x,v)])
  (hx:d.scope.names.lookup x=some .local\/d.scope.names.lookup x=some .cell)
  (hk:d.scope.kind=.function) (hco:d.scope.isCoroutine=false) (hgen:d.scope.isGenerator=false)
  (body:∀ (w:World) (s₀ s₁ s:Shared) (mg mb:Str->Option Value) (fa:Addr) (o:Obj) (pm cd doc:Value) (a:Addr) (vs:List Value) (ns:List Int),
   Ground q loose [] XP w s₀ mg mb s₁.heap->YP w s₁.heap ->
   s₁.heap.get? fa=some o->o.data=.func (docDef d.name d.params d.body d.scope pm cd doc)->s₁.heap.CodeRec cd d.name->mg d.name=some (.ref fa) ->
   s₁.heap.get? a=some { cls:=.type "list", data:=.seq vs.toArray }->IntsAre vs ns->ns.length<=n ->
   s.gens=#[]->s.os=s₁.os ->
   Fr s₁.heap s₁.heap.objs.size s.heap (bindL (envOfC d.name d.scope s₁.heap.objs.size fa cd).kindOf [(x,.ref a)] fun _=>none) ->
   Cl s₁.heap.objs.size (cellsFrom (s₁.heap.objs.size+1) d.scope.names []) s.heap (bindC (envOfC d.name d.scope s₁.heap.objs.size fa cd).kindOf [(x,.ref a)] fun _=>none) ->
   wpAny (model l.prog w) (callerA.deeper (envOfC d.name d.scope s₁.heap.objs.size fa cd)) (execs d.body (envOfC d.name d.scope s₁.heap.objs.size fa cd))
    (fun f s'=>f=.ret (.bool true)/\OldK s₁.heap s'.heap/\s'.os=s₁.os/\AllBare s'.gens) (fun _ _=>False) s) :
  WalkO q loose XP YP l.row.toRowW d [] (fun f vs=>PySem.call f vs):=by
 intro w s₀ s₁ mg mb G Y fa o pm cd doc dV kV ho hd hcd hD hmg hg args vals as hpre hlay hrd hwl hlo
 obtain rfl:dV=.none:=Dflts.none hD hdf
 obtain rfl:kV=.none:=Dflts.noKw hD
 obtain ⟨a,vs,ns,rfl,rfl,hobj,hints,hlen⟩:=Zgv hn hpre hwl
 refine enter_call ?_
 refine call_cells_ret (o:=o) (by rw [depth_caller];decide) ho (fd_plain hd) G.T.nolimit hcd (hbind pm cd doc (.ref a)) (fun y hy=>?_) (fun h₁ tk F X=>?_) hco hgen hk
 .obtain rfl:y=(x,Value.ref a):=List.mem_singleton.mp hy
  rcases hx with e|e
  .exact .inl e
  .exact .inr ⟨e,cellsFrom_some _ _ _ (.inl e)⟩
 .refine wpAny_mono (body w s₀ s₁ { s₁ with heap:=h₁,toks:=tk } mg mb fa o pm cd doc a vs ns G Y ho (fd_plain hd) hcd hmg hobj hints hlen hg rfl F X) (fun f s' hq=>?_) (fun _ _ hq=>hq)
  obtain ⟨rfl,h2,h3,h4⟩:=hq
  exact ⟨.inl ⟨.bool true,.bool true,[],rfl,fun _=>rfl,.bool true,Zgw l _,fun _=>⟨List.Pairwise.nil,fun _ hm=>(nomatch hm)⟩⟩,h2,h3,h4⟩
theorem ZhF {l:OpenLaw} {n:Nat} {q:Program} {loose:List Str} {XP:(Str->Option Value)->Heap->Prop} {YP:World->Heap->Prop} {d:DefRec}
  (hn:l.most=some n) (hdf:d.params.defaults=[])
  (call:∀ (w:World) (s₀ s₁:Shared) (mg mb:Str->Option Value) (fa:Addr) (o:Obj) (pm cd doc:Value) (a:Addr) (vs:List Value) (ns:List Int),
   Ground q loose [] XP w s₀ mg mb s₁.heap->YP w s₁.heap ->
   s₁.heap.get? fa=some o->o.data=.func (docDef d.name d.params d.body d.scope pm cd doc)->s₁.heap.CodeRec cd d.name->mg d.name=some (.ref fa) ->
   s₁.heap.get? a=some { cls:=.type "list", data:=.seq vs.toArray }->IntsAre vs ns->ns.length<=n->s₁.gens=#[] ->
   codeAny (model l.prog w) callerA (.call (.ref fa) ⟨[.ref a],[]⟩) (fun r s'=>r=.ok (.ret (.bool true))/\OldK s₁.heap s'.heap/\s'.os=s₁.os/\AllBare s'.gens) s₁) :
  WalkO q loose XP YP l.row.toRowW d [] (fun f vs=>PySem.call f vs):=by
 intro w s₀ s₁ mg mb G Y fa o pm cd doc dV kV ho hd hcd hD hmg hg args vals as hpre hlay hrd hwl hlo
 obtain rfl:dV=.none:=Dflts.none hD hdf
 obtain rfl:kV=.none:=Dflts.noKw hD
 obtain ⟨a,vs,ns,rfl,rfl,hobj,hints,hlen⟩:=Zgv hn hpre hwl
 refine enter_call (codeAny_mono (call w s₀ s₁ mg mb fa o pm cd doc a vs ns G Y ho (fd_plain hd) hcd hmg hobj hints hlen hg) fun r s' hq=>?_)
 obtain ⟨rfl,h2,h3,h4⟩:=hq
 exact ⟨.inl ⟨.bool true,.bool true,[],rfl,fun _=>rfl,.bool true,Zgw l _,fun _=>⟨List.Pairwise.nil,fun _ hm=>(nomatch hm)⟩⟩,h2,h3,h4⟩
section
variable {prog:Program} {w:World} {A:Around} {E:Value->Shared->Prop} {s:Shared} {K:Frag}
end
end Att
namespace L2
open PySem PySem.Spec PyProof.Rows
theorem Zen:∀ {vs:List Value} {ns:List Int},IntsAre vs ns->Vals (ns.map V.int) vs
 | _,_,.nil=>.nil
 | _,_,.cons n t h=>.cons ⟨t,rfl⟩ (Zen h)
noncomputable def Only (H:Hp):Prop:=∀ b,H b=none\/∃ o xs,H b=some (.frz o (.lst xs))
theorem ZlR {P:Program} {w:World} {K:PySem.W.Frag} {mg mb:Str->Option Value} {CX:CXT} {k:Nat} {fa a:Addr} {fd:FuncData} {x:Str} {sp:Sp} {s₁:Shared} {vs:List Value} {ns:List Int}
  (KX:K.In s₁.heap) (hns:s₁.heap.Ns mainGlobals mg) (hb:s₁.heap.Ns builtinsNs mb) (hbb:∀ x:Str,x ≠ "__name__" -> mb x=bootBuiltins x) (hlim:s₁.heap.NoLimit) (hg:s₁.gens=#[])
  (ha:s₁.heap.get? a=some { cls:=.type "list", data:=.seq vs.toArray }) (hi:IntsAre vs ns) (hl:ns.length<=sizeLine) (hr:Room k callerA)
  (F:∀ base:Heap,K.In base->base.Ns mainGlobals mg->FnOk P w K mg base CX k fa fd [x] sp) (hbind:∀ (s:Shared) (u:Value),BindsTo s fd ⟨[u],[]⟩ [(x,u)])
  (hsp:∀ H:Hp,Only H->SqL K H a (ns.map V.int)->sp [.ref a] H (fun v _=>v=.bl true) fun _ _ _=>False)
  (hCX:∀ H e s',CX [] H s₁ (fun _ _ _=>False) e s'->False) :
  codeAny (model P w) callerA (.call (.ref fa) ⟨[.ref a],[]⟩) (fun r s'=>r=.ok (.ret (.bool true))/\OldK s₁.heap s'.heap/\s'.os=s₁.os/\AllBare s'.gens) s₁:=by
 have rv:=Zen hi
 have lenV:=hi.length
 have core:∀ H:Hp,Only H->SqL K H a (ns.map V.int)->HOk P w H s₁.heap->(∀ b,H b≠none->b=a)->(H a≠none->K.lookup a=none) ->
   codeAny (model P w) callerA (.call (.ref fa) ⟨[.ref a],[]⟩) (fun r s'=>r=.ok (.ret (.bool true))/\OldK s₁.heap s'.heap/\s'.os=s₁.os/\AllBare s'.gens) s₁:=by
  intro H hO hS hok hA hK
  have base_of:∀ {b:Addr} {o:Obj},s₁.heap.get? b=some o->H b=none->(hidT s₁.heap H).get? b=some o:=fun e n=>ZlB e n
  have noA:∀ {b:Addr} {o:Obj} {es:Array DictEntry} {ep:Nat},s₁.heap.get? b=some o->o.data=.dict es ep->H b=none:=fun {b o es ep} e d=>by
   cases q:H b with
   | none=>rfl
   | some u =>
    have e':b=a:=hA b (by rw [q];simp)
    subst e'
    rw [ha] at e;cases e
    have d':Data.seq vs.toArray _=Data.dict es ep:=d
    cases d'
  have nsK:∀ {b:Addr} {m:Str->Option Value},s₁.heap.Ns b m->(hidT s₁.heap H).Ns b m:=fun {b m} ⟨o,es,ep,e,d,r⟩=>⟨o,es,ep,base_of e (noA e d),d,r⟩
  have hKb:K.In (hidT s₁.heap H):=fun b o e=>base_of (KX b o e) (by
   cases q:H b with
   | none=>rfl
   | some u =>
    have e':b=a:=hA b (by rw [q];simp)
    subst e'
    rw [hK (by rw [q];simp)] at e;cases e)
  have hM:Mod K mg (hidT s₁.heap H):=⟨hKb,nsK hns,⟨mb,nsK hb,hbb⟩,let ⟨mc,h1,h2⟩:=hlim;⟨mc,nsK h1,h2⟩⟩
  have e0:Env0 P w K mg (hidT s₁.heap H) callerA [] s₁ H:=⟨rfl,hM,fun b o e=>Znl e,Nat.le_of_eq (ZjH _ _),trivial,fun b hb=>absurd (show b∈([]:List Addr) from hb) (by simp),hok,.of_eq hg⟩
  refine codeAny_mono ((F _ hKb (nsK hns)).run callerA [] s₁ H ⟨[.ref a],[]⟩ [.ref a] [.ref a] _ _ hr e0 (hbind s₁ (.ref a)) (.cons rfl .nil) (hsp H hO hS)) fun r s' h=>?_
  cases r with
  | error e=>exact (hCX H e s' h).elim
  | ok fl =>
   cases fl with
   | next=>exact False.elim h
   | brk=>exact False.elim h
   | cont=>exact False.elim h
   | ret u =>
    obtain ⟨v,H',os,bare,un,hok',r',q⟩:=h
    have q':v=.bl true:=q
    subst q'
    obtain rfl:u=Value.bool true:=r'
    refine ⟨rfl,OldK.of_keep fun b o e=>?_,os,bare⟩
    cases q:H b with
    | none=>exact un.keep b o e q (by intro z;exact absurd (show b∈([]:List Addr) from z) (by simp)) (by simp)
    | some u =>
     rcases hO b with z|⟨ob,xs,z⟩
     .rw [q] at z;cases z
     .have z2:=un.frzs b ob _ z
      obtain ⟨e1,_⟩:=hok b _ z
      obtain ⟨e2,_⟩:=hok' b _ z2
      rw [e] at e1;cases e1
      exact e2
 cases hk:K.lookup a with
 | some o =>
  have e:=KX a o hk
  rw [ha] at e
  cases e
  refine core (fun _=>none) (fun _=>.inl rfl) (.inr ⟨_,vs.toArray,_,hk,rfl,rfl,rfl,by rw [List.size_toArray,lenV];exact hl,by simpa using rv⟩) (fun b u z=>by have z':(none:Option HO)=some u:=z;cases z') (fun b z=>absurd rfl z) fun z=>absurd rfl z
 | none =>
  refine core (fun b=>if b=a then some (.frz { cls:=.type "list", data:=.seq vs.toArray } (.lst (ns.map V.int))) else none) (fun b=>?_) (.inl (.inr ⟨{ cls:=.type "list", data:=.seq vs.toArray },if_pos rfl⟩)) (fun b u z=>?_) (fun b z=>?_) fun _=>hk
  .by_cases hb:b=a
   .exact .inr ⟨_,_,if_pos hb⟩
   .exact .inl (if_neg hb)
  .by_cases hb:b=a
   .have z':=(if_pos hb).symm.trans z
    cases z'
    subst hb
    exact ⟨ha,by rw [List.length_map];exact hl,vs,_,rv,ha⟩
   .have z':=(if_neg hb).symm.trans z
    cases z'
  .by_cases hb:b=a
   .exact hb
   .exact absurd (if_neg hb) z
noncomputable abbrev KOf {K:PySem.W.Frag} {h:Heap} (_:K.In h):PySem.W.Frag:=K
theorem ZnB {l:PySem.W.OpenLaw} {n k:Nat} {q:Program} {loose:List Str} {XP:(Str->Option Value)->Heap->Prop} {YP:World->Heap->Prop} {d:DefRec} {K:Params->PySem.W.Frag} {CX:World->CXT} {sp:World->Sp} {x:Str}
  (hn:l.most=some n) (hn2:n<=sizeLine) (hdf:d.params.defaults=[]) (hr:Room k callerA)
  (hY:∀ (w:World) (h:Heap),YP w h->(K w.params).In h)
  (F:∀ (w:World) (mg:Str->Option Value) (fa:Addr) (h:Heap),(K w.params).In h->h.Ns mainGlobals mg->mg d.name=some (.ref fa) ->
   ∃ fd:FuncData,(∀ (s:Shared) (u:Value),BindsTo s fd ⟨[u],[]⟩ [(x,u)]) /\
    ∀ base:Heap,(K w.params).In base->base.Ns mainGlobals mg->FnOk l.prog w (K w.params) mg base (CX w) k fa fd [x] (sp w))
  (hsp:∀ (w:World) (H:Hp) (a:Addr) (ns:List Int),ns.length<=n->Only H->SqL (K w.params) H a (ns.map V.int)->sp w [.ref a] H (fun v _=>v=.bl true) fun _ _ _=>False)
  (hCX:∀ (w:World) (H:Hp) (s:Shared) (e:Value) (s':Shared),CX w [] H s (fun _ _ _=>False) e s'->False) :
  PySem.W.WalkO q loose XP YP l.row.toRowW d [] (fun f vs=>PySem.call f vs):=by
 refine Att.ZhF hn hdf fun w s₀ s₁ mg mb fa o pm cd doc a vs ns G Y ho hd hcd hmg hobj hints hlen hg=>?_
 have KX:=hY w _ Y
 obtain ⟨fd,hb,hF⟩:=F w mg fa _ KX G.T.g hmg
 exact ZlR KX G.T.g G.T.b G.T.builtins G.T.nolimit hg hobj hints (Nat.le_trans hlen hn2) hr hF hb (fun H hO hS=>hsp w H a ns hlen hO hS) fun H e s'=>hCX w H s₁ e s'
theorem ZlS {l:PySem.W.OpenLaw} {n k:Nat} {q:Program} {loose:List Str} {XP:(Str->Option Value)->Heap->Prop} {YP:World->Heap->Prop} {d:DefRec} {K:Params->PySem.W.Frag} {CX:CXT} {sp:PySem.W.Frag->Sp} {x:Str}
  (hn:l.most=some n) (hn2:n<=sizeLine) (hdf:d.params.defaults=[]) (hr:Room k callerA)
  (hY:∀ (w:World) (h:Heap),YP w h->(K w.params).In h)
  (F:∀ (w:World) (mg:Str->Option Value) (fa:Addr) (h:Heap),(K w.params).In h->h.Ns mainGlobals mg->mg d.name=some (.ref fa) ->
   ∃ fd:FuncData,(∀ (s:Shared) (u:Value),BindsTo s fd ⟨[u],[]⟩ [(x,u)]) /\
    ∀ base:Heap,(K w.params).In base->base.Ns mainGlobals mg->FnOk l.prog w (K w.params) mg base CX k fa fd [x] (sp (K w.params)))
  (hsp:∀ (K:PySem.W.Frag) (H:Hp) (a:Addr) (ns:List Int),ns.length<=n->Only H->SqL K H a (ns.map V.int)->sp K [.ref a] H (fun v _=>v=.bl true) fun _ _ _=>False)
  (hCX:∀ (H:Hp) (s:Shared) (e:Value) (s':Shared),CX [] H s (fun _ _ _=>False) e s'->False) :
  PySem.W.WalkO q loose XP YP l.row.toRowW d [] (fun f vs=>PySem.call f vs) :=
 ZnB (K:=K) (CX:=fun _=>CX) (sp:=fun w=>sp (K w.params)) hn hn2 hdf hr hY F (fun w H a ns h1 h2 h3=>hsp (K w.params) H a ns h1 h2 h3) fun _ H s e s'=>hCX H s e s'
noncomputable def ZaK (s:Stmt) (j:Nat):Stmt:=match s with
 | .ClassDef _ _ _ body _ _ _ _ _ _ _=>body.getD j (.Pass ⟨0,0,0,0⟩)
 | _=>.Pass ⟨0,0,0,0⟩
noncomputable def Zay (s:Stmt):Arguments:=match s with
 | .FunctionDef _ a _ _ _ _ _ _ _ _=>a
 | _=>{ posonlyargs:=[],args:=[],vararg:=none,kwonlyargs:=[],kw_defaults:=[],kwarg:=none,defaults:=[] }
noncomputable def Zat (s:Stmt):List Stmt:=match s with
 | .FunctionDef _ _ b _ _ _ _ _ _ _=>b
 | _=>[]
noncomputable def Zab (s:Stmt):Scope:=match s with
 | .FunctionDef _ _ _ _ _ _ sc _ _ _=>sc
 | _=>{ kind:=.function,names:=[],isGenerator:=false,isCoroutine:=false }
noncomputable abbrev CX0:CXT:=fun _ _ _ _ _ _=>False
noncomputable abbrev E0:XK:=fun _ _ _=>False
theorem pass0 {X:Cx}:Zej CX0 X E0:=fun _ _ _ _ _ _ _ h=>h.elim
structure Fun (K:PySem.W.Frag) (x qual:Str) (st:Stmt) (f:Addr) (fd:FuncData):Prop where
 ex:∃ (oc:Value) (od:Option Addr) (kV doc pm:Value) (an:Option Addr) (cdv ct:Value) (osl:Array (Option Value)),
  fd=PySem.W.fnOf x qual (Zay st) (Zat st) (Zab st) .none kV doc pm an cdv ct/\K.lookup f=some ⟨oc,od,.func fd,osl⟩/\PySem.W.codeIn K cdv qual=true
 kp:PySem.W.keepIn K (.ref f)=true
section
variable {P:Program} {w:World} {K:PySem.W.Frag} {mg:Str->Option Value} {base:Heap}
theorem Fun.ok {x qual:Str} {st:Stmt} {f:Addr} {fd:FuncData} {N ps:List Str} {k:Nat} {sp:Sp} (F:Fun K x qual st f fd) (S:FnScope N ps (Zab st)) (len:∀ vs H Q E,sp vs H Q E->vs.length=ps.length)
  (hbody:∀ (cdv:Value) (A:Around) (outer:List Env) (s:Shared) (H:Hp) (vs:List V) (Q:VK) (E:XK),Room k (A.deeper (envOfC qual (Zab st) s.heap.objs.size f cdv))->sp vs H Q E ->
   ∃ t,PSs (cxOf CX0 P w K mg base N qual (Zab st) f cdv A outer s H E).nox (Zat st) t/\t { nx:=fun _ H'=>Q .non H',rt:=Q } (start N vs) H):FnOk P w K mg base CX0 (k+1) f fd ps sp:=by
 obtain ⟨oc,od,kV,doc,pm,an,cdv,ct,osl,rfl,lk,hcd⟩:=F.ex
 refine fn_of lk hcd S len fun A outer s H vs Q E hr hsp=>?_
 obtain ⟨t,h,q⟩:=hbody cdv A outer s H vs Q E hr hsp
 exact ⟨t,h.nox,q⟩
theorem Fun.binds {x qual:Str} {st:Stmt} {f:Addr} {fd:FuncData} {ps:List Str} (F:Fun K x qual st f fd)
  (h:∀ (kV doc pm:Value) (an:Option Addr) (cdv ct:Value) (us:List Value),us.length=ps.length->bindArgs (PySem.W.fnOf x qual (Zay st) (Zat st) (Zab st) .none kV doc pm an cdv ct) ⟨us,[]⟩=pure (ps.zip us)):Binds K fd ps []:=by
 obtain ⟨oc,od,kV,doc,pm,an,cdv,ct,osl,rfl,lk,hcd⟩:=F.ex
 exact .all (h kV doc pm an cdv ct)
theorem Zm5 {x qual:Str} {st:Stmt} {f:Addr} {oc:Value} {od an:Option Addr} {osl:Array (Option Value)} {kV doc pm cdv ct:Value} (l:K.lookup f=some ⟨oc,od,.func (PySem.W.fnOf x qual (Zay st) (Zat st) (Zab st) .none kV doc pm an cdv ct),osl⟩)
  (c:PySem.W.codeIn K cdv qual=true) (k:PySem.W.keepIn K (.ref f)=true):Fun K x qual st f (PySem.W.fnOf x qual (Zay st) (Zat st) (Zab st) .none kV doc pm an cdv ct):=⟨⟨oc,od,kV,doc,pm,an,cdv,ct,osl,rfl,l,c⟩,k⟩
end
theorem ZnC {A:Around} {k:Nat} (hr:Room k A):A.units+1<cLine:=Nat.lt_of_le_of_lt (Nat.add_le_add_left (by decide:1<=64) _) hr.units
section
variable {X:Cx}
theorem pv (i:Nat) {x:Str} {pos:Pos} (hN:X.N[i]?=some x:=by rfl) (hv:Vis X.env.scope x:=by first|exact Or.inl rfl|exact Or.inr (Or.inl rfl)|exact Or.inr (Or.inr rfl)) (hd:(x==("__debug__" : Str))=false:=by decide)
  (hcd:(x==("__classdict__" : Str))=false:=by decide):PE X (.Name x pos) (tVar i):=pe_var hN hv hd hcd
theorem Zka:CallR X (.builtin "len") (fun xs H Q=>∃ a kvs,xs=[V.ref a]/\H a=some (.dK kvs)/\Q (.int kvs.length) H):=by
 intro pins s σ H xs us Q I r h
 obtain ⟨a,kvs,rfl,ha,q⟩:=h
 obtain ⟨u,rfl,ru⟩:=vals1 r
 cases ru
 exact d_len I (.inl ha) fun t s' I'=>⟨.int kvs.length,H,I',⟨t,rfl⟩,q⟩
end
theorem iteF {A B:Prop} (h:B):if false=true then A else B:=by
 rw [if_neg Bool.false_ne_true]
 exact h
theorem iteT {A B:Prop} (h:A):if true=true then A else B:=by
 rw [if_pos rfl]
 exact h
noncomputable def Same (H H':Hp):Prop:=∀ b o,H b=some o->H' b=some o
theorem Same.refl (H:Hp):Same H H:=fun _ _ h=>h
theorem Same.trans {H H1 H2:Hp} (a:Same H H1) (b:Same H1 H2):Same H H2:=fun c o h=>b c o (a c o h)
theorem Same.free {H H':Hp} (e:Same H H') {l:Addr} (h:H' l=Option.none):H l=Option.none:=by
 cases q:H l with
 | none=>rfl
 | some o =>
  rw [e l o q] at h
  cases h
theorem Same.seq {K:PySem.W.Frag} {H H':Hp} {a:Addr} {xs:List V} (e:Same H H') (h:SqL K H a xs):SqL K H' a xs:=by
 rcases h with (h|⟨o,h⟩)|h
 .exact .inl (.inl (e _ _ h))
 .exact .inl (.inr ⟨o,e _ _ h⟩)
 .exact .inr h
section
variable {κ:Type} [DecidableEq κ]
theorem Zfz {kvs:List (κ×V)} {k:κ} (h:valV kvs k=none):¬ k∈kvs.map (·.1):=by
 intro m
 obtain ⟨p,hp,e⟩:=List.mem_map.mp m
 have q:(kvs.any fun kv=>decide (kv.1=k))=true:=List.any_eq_true.mpr ⟨p,hp,decide_eq_true e⟩
 rw [Zb4,h] at q
 exact absurd q (by simp)
theorem ZnD {kvs:List (κ×V)} {k:κ} {v:V} (h:valV kvs k=some v):k∈kvs.map (·.1):=by
 have q:(kvs.any fun kv=>decide (kv.1=k))=true:=by
  rw [Zb4,h]
  all_goals rfl
 obtain ⟨p,hp,e⟩:=List.any_eq_true.mp q
 exact List.mem_map.mpr ⟨p,hp,of_decide_eq_true e⟩
theorem Zkb:∀ {l:List κ} {k:κ},l.Nodup->¬ k∈l->(l++[k]).Nodup
 | [],k,_,_=>by simp
 | a::r,k,h,hk=>by
  obtain ⟨h1,h2⟩:=List.nodup_cons.mp h
  show (a::(r++[k])).Nodup
  refine List.nodup_cons.mpr ⟨fun m=>?_,Zkb h2 fun m=>hk (List.mem_cons.mpr (Or.inr m))⟩
  rcases List.mem_append.mp m with q|q
  .exact h1 q
  .exact hk (List.mem_cons.mpr (Or.inl (List.mem_singleton.mp q).symm))
theorem ZnE {kvs:List (κ×V)} {k:κ} (v:V) (hn:(kvs.map (·.1)).Nodup) (h:valV kvs k=none):((putK kvs k v).map (·.1)).Nodup:=by
 rw [ZlM v h,List.map_append]
 exact Zkb hn (Zfz h)
theorem Zgx {p:κ×V} {r:List (κ×V)} {k:κ} (e:p.1=k):dropK (p::r) k=dropK r k:=by
 unfold dropK
 rw [List.filter_cons,if_neg (by simp [e])]
theorem Zgy {p:κ×V} {r:List (κ×V)} {k:κ} (e:¬ p.1=k):dropK (p::r) k=p::dropK r k:=by
 unfold dropK
 rw [List.filter_cons,if_pos (by simp [e])]
theorem Zgz {kvs:List (κ×V)} {k:κ} {p:κ×V} (h:p∈dropK kvs k):p∈kvs:=(List.mem_filter.mp h).1
theorem ZfA:∀ {kvs:List (κ×V)} {k:κ},(kvs.map (·.1)).Nodup->((dropK kvs k).map (·.1)).Nodup
 | [],_,_=>List.nodup_nil
 | p::r,k,h=>by
  have h:(p.1::r.map (·.1)).Nodup:=h
  obtain ⟨h1,h2⟩:=List.nodup_cons.mp h
  by_cases e:p.1=k
  .rw [Zgx e]
   exact ZfA h2
  .rw [Zgy e]
   show (p.1::(dropK r k).map (·.1)).Nodup
   refine List.nodup_cons.mpr ⟨fun m=>h1 ?_,ZfA h2⟩
   obtain ⟨q,hq,eq⟩:=List.mem_map.mp m
   exact List.mem_map.mpr ⟨q,Zgz hq,eq⟩
end
noncomputable def hid (own:List Str) (x:Str):Str:=if own.contains x=true then "" else x
structure CompScope (sc:Scope) (N own:List Str) (scope:Scope):Prop where
 kind:scope.kind=.function
 nocell:∀ y∈scope.names,y.2≠.cell
 names:∀ y∈scope.names,y.2=.local->scope.names.lookup y.1=some .local
 free:∀ y∈scope.names,y.2=.free->sc.names.lookup y.1=some .cell\/sc.names.lookup y.1=some .free
 dis:∀ x∈N,scope.names.lookup x=some .local->own.contains x=true
 no:scope.names.lookup ("" : Str)=none
noncomputable def cxComp (X:Cx) (own:List Str) (scope:Scope) (cl:List (Str×Addr)) (C:Addr) (s:Shared) (H:Hp) (ex:List Addr):Cx :=
 { X with N:=own++X.N.map (hid own),s₀:=s,H₀:=H,env:=compEnvC scope cl C X.env,outer:=X.stack,stack:=X.stack,ex:=ex,fn:=fun _=>false,pn:=[],xe:=fun _ _=>False }
theorem Zbw {κ:Type} [BEq κ] [LawfulBEq κ] {β:Type}:∀ {l:List (κ×β)} {x:κ} {v:β},l.lookup x=some v->(x,v)∈l
 | [],_,_,h=>by simp at h
 | (y,u)::r,x,v,h=>by
  rw [List.lookup_cons] at h
  cases e:x==y with
  | true =>
   rw [e] at h
   cases h
   rw [eq_of_beq e]
   exact List.mem_cons_self
  | false =>
   rw [e] at h
   exact List.mem_cons_of_mem _ (Zbw h)
theorem Zje {scope:Scope} {env:Env} (h:∀ y∈scope.names,y.2=.free->∃ c,env.cells.lookup y.1=some c) :
  ∃ cl,closureFor scope env=pure cl/\(∀ x c,cl.lookup x=some c->env.cells.lookup x=some c)/\∀ y∈scope.names,y.2=.free->∃ c,cl.lookup y.1=some c:=by
 have gen:∀ (names:List (Str×NameKind)) (acc:List (Str×Addr)),(∀ y∈names,y.2=.free->∃ c,env.cells.lookup y.1=some c)->(∀ x c,acc.lookup x=some c->env.cells.lookup x=some c) ->
   ∃ cl,(forIn names acc fun (x:Str×NameKind) (r:List (Str×Addr))=>if (x.2==NameKind.free)=true then (do let a <- cellOf env x.1;pure (ForInStep.yield ((x.1,a)::r))) else pure (ForInStep.yield r):Sem (List (Str×Addr)))=pure cl/\(∀ x c,cl.lookup x=some c->env.cells.lookup x=some c) /\
    (∀ y∈names,y.2=.free->∃ c,cl.lookup y.1=some c)/\∀ x c,acc.lookup x=some c->∃ c',cl.lookup x=some c':=by
  intro names
  induction names with
  | nil=>intro acc _ ha;exact ⟨acc,by simp [List.forIn_nil],ha,fun y hy=>by simp at hy,fun x c e=>⟨c,e⟩⟩
  | cons y r ih =>
   intro acc hn ha
   rw [List.forIn_cons]
   by_cases hf:y.2=.free
   .obtain ⟨c,hc⟩:=hn y List.mem_cons_self hf
    have e1:(y.2==NameKind.free)=true:=by rw [hf];rfl
    have ce:cellOf env y.1=pure c:=by unfold cellOf;rw [hc]
    obtain ⟨cl,h1,h2,h3,h4⟩:=ih ((y.1,c)::acc) (fun z hz=>hn z (List.mem_cons_of_mem _ hz)) (fun x c' e=>by
     rw [List.lookup_cons] at e
     cases q:x==y.1 with
     | true=>rw [q] at e;cases e;rw [eq_of_beq q];exact hc
     | false=>rw [q] at e;exact ha x c' e)
    refine ⟨cl,?_,h2,?_,?_⟩
    .rw [if_pos e1,ce]
     simpa using h1
    .intro z hz zf
     rcases List.mem_cons.mp hz with rfl|hz
     .exact h4 z.1 c (by rw [List.lookup_cons];simp)
     .exact h3 z hz zf
    .intro x c' e
     cases q:x==y.1 with
     | true=>exact h4 x c (by rw [List.lookup_cons,q])
     | false=>exact h4 x c' (by rw [List.lookup_cons,q];exact e)
   .have e1:¬ (y.2==NameKind.free)=true:=by intro z;exact hf (by simpa using z)
    obtain ⟨cl,h1,h2,h3,h4⟩:=ih acc (fun z hz=>hn z (List.mem_cons_of_mem _ hz)) ha
    refine ⟨cl,?_,h2,?_,h4⟩
    .rw [if_neg e1]
     simpa using h1
    .intro z hz zf
     rcases List.mem_cons.mp hz with rfl|hz
     .exact absurd zf hf
     .exact h3 z hz zf
 obtain ⟨cl,h1,h2,h3,_⟩:=gen scope.names [] h (fun x c e=>by simp at e)
 refine ⟨cl,?_,h2,h3⟩
 unfold closureFor
 simpa using h1
theorem Zcc {scope:Scope} {env:Env}:∀ {names:List (Str×NameKind)} {x:Str},(∀ y∈names,y.2≠.cell) ->
  (names.map fun (n,k)=>if (k==NameKind.free&&env.scope.kind==.function&&env.kindOf n==some .cell)=true then (n,NameKind.cell) else (n,k)).lookup x=some .local->names.lookup x=some .local
 | [],_,_,h=>by simp at h
 | (n,k)::r,x,hc,h=>by
  rw [List.map_cons,List.lookup_cons] at h
  rw [List.lookup_cons]
  by_cases q:(k==NameKind.free&&env.scope.kind==.function&&env.kindOf n==some .cell)=true
  .simp only [q,if_true] at h
   cases e:x==n with
   | true=>rw [e] at h;cases h
   | false=>rw [e] at h;exact Zcc (scope:=scope) (env:=env) (fun y hy=>hc y (List.mem_cons_of_mem _ hy)) h
  .simp only [q] at h
   cases e:x==n with
   | true=>simpa [e] using h
   | false =>
    have h':(r.map fun (n,k)=>if (k==NameKind.free&&env.scope.kind==.function&&env.kindOf n==some .cell)=true then (n,NameKind.cell) else (n,k)).lookup x=some .local:=by simpa [e] using h
    exact Zcc (scope:=scope) (env:=env) (fun y hy=>hc y (List.mem_cons_of_mem _ hy)) h'
theorem Zcd {scope:Scope} {env:Env}:∀ {names:List (Str×NameKind)} {x:Str},(∀ y∈names,y.2≠.cell) ->
  ((names.map fun (n,k)=>if (k==NameKind.free&&env.scope.kind==.function&&env.kindOf n==some .cell)=true then (n,NameKind.cell) else (n,k)).lookup x=some .cell \/
   (names.map fun (n,k)=>if (k==NameKind.free&&env.scope.kind==.function&&env.kindOf n==some .cell)=true then (n,NameKind.cell) else (n,k)).lookup x=some .free)->(x,NameKind.free)∈names
 | [],_,_,h=>by simp at h
 | (n,k)::r,x,hc,h=>by
  rw [List.map_cons,List.lookup_cons] at h
  by_cases q:(k==NameKind.free&&env.scope.kind==.function&&env.kindOf n==some .cell)=true
  .have kf:k=.free:=by
    simp only [Bool.and_eq_true,beq_iff_eq] at q
    exact q.1.1
   simp only [q,if_true] at h
   cases e:x==n with
   | true=>rw [eq_of_beq e,kf];exact List.mem_cons_self
   | false =>
    rw [e] at h
    exact List.mem_cons_of_mem _ (Zcd (scope:=scope) (env:=env) (fun y hy=>hc y (List.mem_cons_of_mem _ hy)) h)
  .simp only [q] at h
   cases e:x==n with
   | true =>
    have h':k=.cell\/k=.free:=by simpa [e] using h
    rcases h' with z|z
    .exact absurd z (hc (n,k) List.mem_cons_self)
    .rw [eq_of_beq e,z];exact List.mem_cons_self
   | false =>
    have h':((r.map fun (n,k)=>if (k==NameKind.free&&env.scope.kind==.function&&env.kindOf n==some .cell)=true then (n,NameKind.cell) else (n,k)).lookup x=some .cell \/
   (r.map fun (n,k)=>if (k==NameKind.free&&env.scope.kind==.function&&env.kindOf n==some .cell)=true then (n,NameKind.cell) else (n,k)).lookup x=some .free):=by simpa [e] using h
    exact List.mem_cons_of_mem _ (Zcd (scope:=scope) (env:=env) (fun y hy=>hc y (List.mem_cons_of_mem _ hy)) h')
theorem Zcs {env:Env}:∀ {names:List (Str×NameKind)} {x:Str},names.lookup x=none ->
  (names.map fun (n,k)=>if (k==NameKind.free&&env.scope.kind==.function&&env.kindOf n==some .cell)=true then (n,NameKind.cell) else (n,k)).lookup x=none
 | [],_,_=>rfl
 | (n,k)::r,x,h=>by
  rw [List.lookup_cons] at h
  rw [List.map_cons,List.lookup_cons]
  cases e:x==n with
  | true=>rw [e] at h;cases h
  | false =>
   rw [e] at h
   by_cases q:(k==NameKind.free&&env.scope.kind==.function&&env.kindOf n==some .cell)=true
   .simp only [q,if_true,e]
    exact Zcs h
   .simp only [q,e]
    simpa [e] using Zcs (env:=env) h
theorem Inv.block {X:Cx} {pins:List (Addr×Obj)} {σ:St} {H:Hp} {s:Shared} {own:List Str} {scope:Scope} {cl:List (Str×Addr)} {fp:List Addr} {h':Heap}
  (I:Inv X pins σ H s) (S:CompScope X.env.scope X.N own scope)
  (c1:∀ x c,cl.lookup x=some c->X.env.cells.lookup x=some c) (c2:∀ y∈scope.names,y.2=.free->∃ c,cl.lookup y.1=some c)
  (f:∀ b∈fp,FpOk X pins H b) (fo:∀ b∈fp,b<s.heap.objs.size)
  (ns:h'.Ns s.heap.objs.size (fun _=>none)) (k:∀ b o,s.heap.get? b=some o->h'.get? b=some o) {t':Nat} :
  Inv (cxComp X own scope cl s.heap.objs.size s H fp) [] (List.replicate own.length none++σ) H { s with heap:=h',toks:=t' }:=by
 have kd:∀ x,(compEnvC scope cl s.heap.objs.size X.env).kindOf x=some .cell\/(compEnvC scope cl s.heap.objs.size X.env).kindOf x=some .free->(x,NameKind.free)∈scope.names:=fun x h=>Zcd (scope:=scope) (env:=X.env) S.nocell h
 have okY:(cxComp X own scope cl s.heap.objs.size s H fp).Ok:=by
  refine ⟨I.ok.mod,S.kind,I.ok.glob,I.ok.blt,Nat.le_refl _,fun x y c hx hy=>I.ok.inj x y c (c1 x c hx) (c1 y c hy),fun x hx=>?_,fun x c hf=>(nomatch hf),I.ok.hd,I.ok.frames,.inl rfl,fun b hb=>⟨?_,fun x c hc=>?_⟩,I.bs,Nat.le_trans I.ok.bsz I.sz,fun b o e hb=>?_,fun b hb hfs=>?_,I.stack,I.stkFree⟩
  .exact c2 (x,.free) (kd x hx) rfl
  .exact Nat.ne_of_lt (fo b hb)
  .exact (f b hb).2.2.2.2.1 x c (c1 x c hc)
  .rcases (f b hb).2.2.2.1 with z|z
   .exact I.ok.noex b o e z
   .exact absurd (Nat.lt_of_lt_of_le (Heap.lt_size e) (Nat.le_trans I.ok.bsz z)) (Nat.lt_irrefl _)
  .obtain ⟨_,f1,f2,_⟩:=f b hb
   rcases List.mem_cons.mp (I.stkSub b hfs) with z|z
   .exact f1 z
   .exact f2 z
 refine ⟨okY,rfl,I.bare,Un.kept k,⟨_,ns,fun i x v e1 e2 e3=>?_⟩,fun x c hc=>?_,I.hok.fresh (Nat.le_refl _),fun x c hc=>I.freeC x c (c1 x c hc),fun p hp=>by simp [cxComp] at hp,I.hok.kept k,?_⟩
 .by_cases hi:i<own.length
  .have e2':(List.replicate own.length (none:Option V)++σ)[i]?=some (some v):=e2
   rw [List.getElem?_append_left (by simpa using hi),List.getElem?_replicate,if_pos hi] at e2'
   cases e2'
  .have hle:own.length<=i:=Nat.le_of_not_lt hi
   have e2':σ[i-own.length]?=some (some v):=by
    have e2':(List.replicate own.length (none:Option V)++σ)[i]?=some (some v):=e2
    rw [List.getElem?_append_right (by simpa using hle)] at e2'
    simpa using e2'
   have e1'':(X.N.map (hid own))[i-own.length]?=some x:=by
    have e1':(own++X.N.map (hid own))[i]?=some x:=e1
    rwa [List.getElem?_append_right hle] at e1'
   rw [List.getElem?_map] at e1''
   obtain ⟨y,e1',ey⟩:=Option.map_eq_some_iff.mp e1''
   have hy:own.contains y=false:=by
    cases hc:own.contains y with
    | false=>rfl
    | true =>
     unfold hid at ey
     rw [if_pos hc] at ey
     subst ey
     have e3':(scope.names.map fun (n,k)=>if (k==NameKind.free&&X.env.scope.kind==.function&&X.env.kindOf n==some .cell)=true then (n,NameKind.cell) else (n,k)).lookup ("" : Str)≠none:=by
      rcases e3 with z|z|z<;>(intro q;have z':(scope.names.map fun (n,k)=>if (k==NameKind.free&&X.env.scope.kind==.function&&X.env.kindOf n==some .cell)=true then (n,NameKind.cell) else (n,k)).lookup ("" : Str)=_:=z;rw [q] at z';cases z')
     exact absurd (Zcs S.no) e3'
   have exy:y=x:=by
    unfold hid at ey
    rw [if_neg (by rw [hy];exact Bool.false_ne_true)] at ey
    exact ey
   subst exy
   have hm:y∈X.N:=List.mem_of_getElem? e1'
   have h3:(compEnvC scope cl s.heap.objs.size X.env).kindOf y=some .cell\/(compEnvC scope cl s.heap.objs.size X.env).kindOf y=some .free:=by
    rcases e3 with z|z
    .have:=S.dis y hm (Zcc (scope:=scope) (env:=X.env) S.nocell z)
     rw [hy] at this
     cases this
    .exact z
   have hfree:=kd y h3
   obtain ⟨c,hc⟩:=c2 (y,.free) hfree rfl
   have hout:=S.free (y,.free) hfree rfl
   obtain ⟨m,hn,hl⟩:=I.loc
   obtain ⟨u,r,l⟩:=hl _ y v e1' e2' (hout.elim (fun z=>.inr (.inl z)) (fun z=>.inr (.inr z)))
   refine ⟨u,r,.inr ⟨h3,c,hc,?_⟩⟩
   rcases l with ⟨kl,_⟩|⟨_,c',hc',hcell⟩
   .rcases hout with z|z
    .rw [show X.env.kindOf y=X.env.scope.names.lookup y from rfl,z] at kl;cases kl
    .rw [show X.env.kindOf y=X.env.scope.names.lookup y from rfl,z] at kl;cases kl
   .rw [c1 y c hc] at hc'
    cases hc'
    obtain ⟨o,ho,hd⟩:=hcell
    exact ⟨o,k c o ho,hd⟩
 .obtain ⟨v,o,ho,hd⟩:=I.cell x c (c1 x c hc)
  exact ⟨v,o,k c o ho,hd⟩
 .show (List.replicate own.length (none:Option V)++σ).length=(own++X.N.map (hid own)).length
  rw [List.length_append,List.length_append,List.length_replicate,List.length_map,I.len]
noncomputable def PIf (X:Cx) (ifs:List Expr) (tc:TT):Prop :=
 ∀ (pins:List (Addr×Obj)) (s:Shared) (σ:St) (H:Hp) (Q:Bool->Hp->Prop),Inv X pins σ H s->tc σ H Q ->
  wpAny (model X.prog X.w) X.A (forIn ifs true fun c r=>if r=true then do let ok <- isTrue c X.env (eval c X.env);pure (ForInStep.yield ok) else pure (ForInStep.yield r)) (TP X pins σ Q) X.xe s
noncomputable def tNoIf:TT:=fun _ H Q=>Q true H
theorem Zeo {X:Cx}:PIf X [] tNoIf:=by
 intro pins s σ H Q I h
 rw [List.forIn_nil]
 exact wpAny_pure ⟨H,I,h⟩
noncomputable def tLoopC (k:Nat) (g:TG) (tc:TT) (te:TE) (J:It) (p:Addr) (R:Hp->Prop) (σ:St) (H:Hp):Prop :=
 ∃ W:Nat->Nat->St->Hp->Prop,(∃ m,W 0 m (List.replicate k none++σ) (upd H p (.lst [])))/\∀ i m σ' H',W i m σ' H' ->
  (J.stop i H'/\R H')\/(J.go i H'/\∃ N:St->Hp->Prop,(∀ σ2 H2,N σ2 H2->∃ m',m'<m/\W (i+1) m' σ2 H2)/\∀ x H1,J.yld i H' x H1->g x σ' H1 fun σ2 H2=>tc σ2 H2 fun b H3 =>
   if b=true then te σ2 H3 fun v H4=>∃ ys,H4 p=some (.lst ys)/\ys.length<sizeLine/\N σ2 (upd H4 p (.lst (ys++[v]))) else N σ2 H3)
noncomputable def tComp (k:Nat) (wi:TI) (g:TG) (tc:TT) (te:TE):TE:=fun σ H Q=>wi σ H fun J H1=>∀ p,H1 p=none->tLoopC k g tc te J p (fun H'=>Q (.ref p) H') σ H1
theorem ZgA {X:Cx} {tg elt iter:Expr} {ifs:List Expr} {scope:Scope} {pos:Pos} {own:List Str} {wi:TI} {g:TG} {tc:TT} {te:TE} {pins:List (Addr×Obj)} {σ:St} {H:Hp} {s:Shared} {use:Option (Value->Sem Unit)} {Q:Value->Shared->Prop} {R:Addr->Hp->Prop}
  (hc:X.calm=true) (S:CompScope X.env.scope X.N own scope) (hi:PI X tg iter wi)
  (hg:∀ cl C s₀ H₀ ex,PG (cxComp X own scope cl C s₀ H₀ ex) tg g) (ht:∀ cl C s₀ H₀ ex,PIf (cxComp X own scope cl C s₀ H₀ ex) ifs tc) (he:∀ cl C s₀ H₀ ex,PE (cxComp X own scope cl C s₀ H₀ ex) elt te)
  (hs:∀ x,foldedSetIterable iter X.env x=pure x)
  (I:Inv X pins σ H s) (h:wi σ H fun J H1=>∀ p,H1 p=none->tLoopC own.length g tc te J p (R p) σ H1)
  (fin:∀ (p:Addr) (H':Hp) (s':Shared) (C:Addr) (m:Str->Option Value),Inv X pins σ H' s'->FpOk X pins H' C->s'.heap.Ns C m->R p H'->compPost (model X.prog X.w) X.A X.xe use Q (.ref p) C (.ok .next) s') :
  wpAny (model X.prog X.w) X.A (comprehension (.ListComp elt [⟨tg,iter,ifs,0⟩] scope pos) scope X.env (firstIterPos [⟨tg,iter,ifs,0⟩] pos) (newList []) false (eval iter X.env) use) Q X.xe s:=by
 obtain ⟨cl,hcl,c1,c2⟩:=Zje (scope:=scope) (env:=X.env) fun y hy hf=>I.ok.has y.1 (S.free y hy hf)
 refine wpAny_comprehension_free (use:=use) rfl hs hcl S.kind S.names (thn (hi pins s σ H _ I h) fun xv s1 h1=>thn h1 fun itv s2 h2=>?_)
 obtain ⟨it,fp,tn,J,H2,e,I2,T,st2,f2,q2⟩:=h2
 subst e
 refine wpAny_newObj_type ?_
 have hp:H2 s2.heap.objs.size=none:=I2.hok.fresh (Nat.le_refl _)
 obtain ⟨W,⟨m0,w0⟩,turn⟩:=q2 _ hp
 generalize hP:s2.heap.objs.size=P at hp W w0 turn |-
 have kP:∀ b u,s2.heap.get? b=some u->(s2.heap.push { cls:=.type "list", dict:=none,data:=.seq ([]:List Value).toArray }).get? b=some u:=fun b u e=>Heap.get?_push_of_some _ e
 have I3:Inv X pins σ (upd H2 P (.lst [])) { s2 with heap:=s2.heap.push { cls:=.type "list", dict:=none,data:=.seq ([]:List Value).toArray },toks:=s2.toks } :=
  I2.laid (a:=P) (o:=.lst []) (t':=s2.toks) kP (by rw [hP];exact Nat.le_refl _) ⟨Nat.zero_le _,[],0,.nil,by rw [<- hP];exact Heap.get?_push_size _ rfl⟩
 have fP:∀ b∈fp,b≠P:=fun b hb z=>by
  obtain ⟨o,ho,_⟩:=T.obj _ _ st2 b hb
  have q:=Heap.lt_size ho
  rw [hP,z] at q
  exact Nat.lt_irrefl _ q
 have f3:∀ b∈fp,FpOk X pins (upd H2 P (.lst [])) b:=fun b hb=>⟨by rw [Zai (fP b hb)];exact (f2 b hb).1,(f2 b hb).2⟩
 have st3:tn 0 (s2.heap.push { cls:=.type "list", dict:=none,data:=.seq ([]:List Value).toArray }):=T.keep _ _ _ st2 fun b _ o e=>kP b o e
 generalize hS3:({ s2 with heap:=s2.heap.push { cls:=.type "list", dict:=none,data:=.seq ([]:List Value).toArray },toks:=s2.toks }:Shared)=s3 at I3
 have st3':tn 0 s3.heap:=by rw [<- hS3];exact st3
 have fo:∀ b∈fp,b<s3.heap.objs.size:=fun b hb=>by
  obtain ⟨o,ho,_⟩:=T.obj _ _ st3' b hb
  exact Heap.lt_size ho
 refine wpAny_newFunctionEnv S.nocell (by intro y hy;simp at hy) (fun h4 hns hsb=>?_) S.kind
 try dsimp only at hns hsb |-
 have k4:∀ b o,s3.heap.get? b=some o->h4.get? b=some o:=fun b o e=>hsb.extBut b o (Nat.ne_of_lt (Heap.lt_size e)) (Heap.get?_push_of_some _ e)
 have I4:=Inv.block (own:=own) (h':=h4) (t':=s3.toks+([]:List (Str×Value)).length) I3 S c1 c2 f3 fo (by simpa using hns) k4
 have fpY:∀ {H':Hp},(∀ b∈fp,H' b=none)->∀ b∈fp,FpOk (cxComp X own scope cl s3.heap.objs.size s3 (upd H2 P (.lst [])) fp) [] H' b:=fun hn b hb=>by
  refine ⟨hn b hb,Nat.ne_of_lt (fo b hb),?_,.inl hb,fun x c hx=>(f3 b hb).2.2.2.2.1 x c (c1 x c hx),fun p hp=>by simp [cxComp] at hp⟩
  intro hfs
  rcases List.mem_cons.mp (I3.stkSub b hfs) with z|z
  .exact (f3 b hb).2.1 z
  .exact (f3 b hb).2.2.1 z
 have loop:codeAny (model X.prog X.w) X.A (.compLoop (.ListComp elt [⟨tg,iter,ifs,0⟩] scope pos) 0 (.ref it) (.ref P) (compEnvC scope cl s3.heap.objs.size X.env)) (compPost (model X.prog X.w) X.A X.xe use Q (.ref P) s3.heap.objs.size) { s3 with heap:=h4,toks:=s3.toks+([]:List (Str×Value)).length }:=by
  refine codeAny_loop rfl (fun n s'=>∃ i σ' H',Inv (cxComp X own scope cl s3.heap.objs.size s3 (upd H2 P (.lst [])) fp) [] σ' H' s'/\tn i s'.heap/\(∀ b∈fp,H' b=none)/\W i n σ' H') ?_ m0 ⟨0,_,_,I4,T.keep _ _ _ st3' fun b _ o e=>k4 b o e,fun b hb=>(f3 b hb).1,w0⟩
  rintro n s5 ⟨i,σ5,H5,I5,st5,fr5,w5⟩
  show wpAny _ _ ((compTurn (.ListComp elt [⟨tg,iter,ifs,0⟩] scope pos) 0 (.ref it) (.ref P) (compEnvC scope cl s3.heap.objs.size X.env)).onRaise (fun x=>do noteFrame x (compEnvC scope cl s3.heap.objs.size X.env);theTreesLotGoes x)) _ _ s5
  refine wpAny_noted ?_
  rw [compTurn_list]
  have nE:∀ {α:Type} {t:Sem α} {QQ:α->Shared->Prop} {E':Value->Shared->Prop} {ss:Shared},wpAny (model X.prog X.w) X.A t QQ (fun _ _=>False) ss->wpAny (model X.prog X.w) X.A t QQ E' ss:=fun h=>wpAny_mono h (fun _ _ q=>q) fun _ _ z=>z.elim
  refine wpAny_bind (wpAny_standAt (wpAny_bind ?_))
  rcases turn i n σ5 H5 w5 with ⟨stop,qn⟩|⟨go,N,hN,step⟩
  .refine thn (T.done (cxComp X own scope cl s3.heap.objs.size s3 (upd H2 P (.lst [])) fp) rfl rfl rfl hc i [] s5 σ5 H5 _ I5 (fpY fr5) st5 stop) fun r s6 ⟨hr,I6⟩=>?_
   subst hr
   refine wpAny_pure ?_
   have back:∀ h',Heap.SameBut s3.heap.objs.size s6.heap h'->Inv X pins σ H5 { s6 with heap:=h' }:=fun h' sb=>by
    have nC:∀ b o,s3.heap.get? b=some o->b≠s3.heap.objs.size:=fun b o e=>Nat.ne_of_lt (Heap.lt_size e)
    have nH:∀ b u,H5 b=some u->b≠s3.heap.objs.size:=fun b u e z=>by
     have:H5 s3.heap.objs.size=none:=I6.free
     rw [z,this] at e;cases e
    refine I3.call' (s':={ s6 with heap:=h' }) (ch:=fp) I6.os ⟨fun b o e n hb hx=>?_,fun b o e n hb hx=>?_,I6.base.free,fun b o e hx=>?_,I6.base.tups,I6.base.frzs,I6.base.tbls⟩ ?_ I6.bare fun b hb=>?_
    .exact (sb.2 b (nC b o e)).trans (I6.base.keep b o e n hb hx)
    .obtain ⟨sl,z⟩:=I6.base.slot b o e n hb hx
     exact ⟨sl,(sb.2 b (nC b o e)).trans z⟩
    .obtain ⟨o',z⟩:=I6.base.there b o e hx
     exact ⟨o',(sb.2 b (nC b o e)).trans z⟩
    .intro b u e
     refine (I6.hok b u e).stay (fun c v hc q=>(sb.2 c ?_).trans q) (fun _ q=>q) fun _ _ q=>q
     rcases hc with z|z
     .rw [z];exact nH b u e
     .exact nH c _ z
    .obtain ⟨_,g1,g2,g3,g4,g5⟩:=f3 b hb
     exact ⟨g3,g1,g4,g5⟩
   obtain ⟨m,hn,_⟩:=I6.loc
   exact fin P H5 s6 s3.heap.objs.size m (back s6.heap (.refl ..)) (I3.fpOk (Nat.le_refl _) I6.free) hn qn
  .refine thn (T.item (cxComp X own scope cl s3.heap.objs.size s3 (upd H2 P (.lst [])) fp) rfl rfl rfl hc i [] s5 σ5 H5 _ I5 (fpY fr5) st5 go) fun r s6 ⟨u,hr,h6⟩=>?_
   subst hr
   refine wpAny_bind (thn h6 fun _ s7 ⟨x,H7,I7,r7,y7,st7,fr7⟩=>?_)
   have I7':=I7.pinned (fpY fr7) (T.obj _ _ st7)
   refine wpAny_bind (nE (thn (hg cl s3.heap.objs.size s3 (upd H2 P (.lst [])) fp _ s7 σ5 H7 x u _ I7' r7 (step x H7 y7)) fun _ s8 ⟨σ8,H8,I8,q8⟩=>?_))
   have again:∀ {s9:Shared} {H9:Hp},Inv (cxComp X own scope cl s3.heap.objs.size s3 (upd H2 P (.lst [])) fp) ([]++pinsAt fp s7.heap) σ8 H9 s9->N σ8 H9->∃ m,m<n/\∃ i σ' H',Inv (cxComp X own scope cl s3.heap.objs.size s3 (upd H2 P (.lst [])) fp) [] σ' H' s9/\tn i s9.heap/\(∀ b∈fp,H' b=none)/\W i m σ' H':=fun {s9 H9} I9 n9=>by
    obtain ⟨m',hm,w9⟩:=hN σ8 H9 n9
    refine ⟨m',hm,i+1,σ8,H9,I9.unpinned,T.keep _ _ _ st7 fun b hb o e=>(I9.pin (b,o) (List.mem_append_right _ (List.mem_append_right _ (ZcG hb e)))).1,fun b hb=>?_,w9⟩
    obtain ⟨o,e,d⟩:=T.obj _ _ st7 b hb
    exact (I9.pin (b,o) (List.mem_append_right _ (List.mem_append_right _ (ZcG hb e)))).2.1
   refine wpAny_bind (nE (thn (ht cl s3.heap.objs.size s3 (upd H2 P (.lst [])) fp _ s8 σ8 H8 _ I8 q8) fun ok s9 ⟨H9,I9,q9⟩=>?_))
   cases ok with
   | false =>
    rw [if_neg (by decide)] at q9
    exact wpAny_pure ⟨rfl,again I9 q9⟩
   | true =>
    rw [if_pos rfl] at q9
    refine wpAny_bind (wpAny_bind (nE (thn (he cl s3.heap.objs.size s3 (upd H2 P (.lst [])) fp _ s9 σ8 H9 _ I9 q9) fun y s10 ⟨v,H10,I10,r10,ys,e10,l10,q10⟩=>?_)))
    refine wpAny_bind (nE (thn (ZbN (X:=cxComp X own scope cl s3.heap.objs.size s3 (upd H2 P (.lst [])) fp) _ s10 σ8 H10 (.ref P) [v] (.ref P) [y] (fun _ H'=>N σ8 H') I10 rfl (.cons r10 .nil) ⟨P,ys,v,rfl,rfl,e10,l10,q10⟩) fun _ s11 ⟨_,H11,I11,_,q11⟩=>?_))
    exact wpAny_pure (wpAny_pure ⟨rfl,again I11 q11⟩)
 have lself:=T.self X.A 0 ({ s3 with heap:=h4,toks:=s3.toks+([]:List (Str×Value)).length }:Shared) (fun it' s'=>codeAny (model X.prog X.w) X.A (.compLoop (.ListComp elt [⟨tg,iter,ifs,0⟩] scope pos) 0 it' (.ref P) (compEnvC scope cl s3.heap.objs.size X.env)) (compPost (model X.prog X.w) X.A X.xe use Q (.ref P) s3.heap.objs.size) s')
  (notedBy (model X.prog X.w) X.A (compEnvC scope cl s3.heap.objs.size X.env) fun x s'=>compPost (model X.prog X.w) X.A X.xe use Q (.ref P) s3.heap.objs.size (.error x) s') (T.keep _ _ _ st3' fun b _ o e=>k4 b o e) loop
 exact codeAny_compStart_list loop lself
theorem Zkc {X:Cx} {tg elt iter:Expr} {ifs:List Expr} {scope:Scope} {pos:Pos} (own:List Str) {wi:TI} {g:TG} {tc:TT} {te:TE}
  (hc:X.calm=true) (S:CompScope X.env.scope X.N own scope) (hi:PI X tg iter wi)
  (hg:∀ cl C s₀ H₀ ex,PG (cxComp X own scope cl C s₀ H₀ ex) tg g) (ht:∀ cl C s₀ H₀ ex,PIf (cxComp X own scope cl C s₀ H₀ ex) ifs tc) (he:∀ cl C s₀ H₀ ex,PE (cxComp X own scope cl C s₀ H₀ ex) elt te)
  (hs:∀ x,foldedSetIterable iter X.env x=pure x:=by intro _;rfl) :
  PE X (.ListComp elt [⟨tg,iter,ifs,0⟩] scope pos) (tComp own.length wi g tc te):=by
 intro pins s σ H Q I h
 rw [eval_ListComp]
 refine ZgA (use:=none) (R:=fun p H'=>Q (.ref p) H') hc S hi hg ht he hs I h fun p H' s' C m I' f hn q=>?_
 obtain ⟨f0,f1,f2,f3,f4,f5⟩:=f
 exact ⟨m,hn,fun h' sb=>⟨.ref p,H',I'.turned (t':=s'.toks) (fun b o hb e=>(sb.2 b hb).trans e) f0 f1 f3 f4 f5,rfl,q⟩⟩
theorem ZhG {X:Cx} {tg elt iter:Expr} {ifs:List Expr} {scope:Scope} {pos:Pos} (own:List Str) {wi:TI} {g:TG} {tc:TT} {te:TE} {i:Nat} {x:Str} {pos' spos:Pos}
  (hN:X.N.Nodup) (hx0:X.N[i]?=some x) (hx:X.env.scope.names.lookup x=some .local) (hc:X.calm=true) (S:CompScope X.env.scope X.N own scope) (hi:PI X tg iter wi)
  (hg:∀ cl C s₀ H₀ ex,PG (cxComp X own scope cl C s₀ H₀ ex) tg g) (ht:∀ cl C s₀ H₀ ex,PIf (cxComp X own scope cl C s₀ H₀ ex) ifs tc) (he:∀ cl C s₀ H₀ ex,PE (cxComp X own scope cl C s₀ H₀ ex) elt te)
  (hsw:swapsWith (.ListComp elt [⟨tg,iter,ifs,0⟩] scope pos) (some (.Name x pos')) spos.line X.env=pure true:=by rfl)
  (hs:∀ x,foldedSetIterable iter X.env x=pure x:=by intro _;rfl) :
  PS X (.Assign [.Name x pos'] (.ListComp elt [⟨tg,iter,ifs,0⟩] scope pos) spos) (tAsg (tComp own.length wi g tc te) (gName i)):=by
 intro pins s σ H D I h
 rw [exec_Assign_Name_used _ _ _ _ hsw]
 refine wpAny_bind (wpAny_standAt (wpAny_bind ?_))
 show wpAny _ X.A (do let _ <- comprehension (.ListComp elt [⟨tg,iter,ifs,0⟩] scope pos) scope X.env _ (newList []) false (eval iter X.env) (some (assign (.Name x pos') X.env))) _ _ s
 refine wpAny_bind (thn (ZgA (use:=some (assign (.Name x pos') X.env)) (Q:=fun _ s'=>SP X pins D .next s') (R:=fun p H'=>D.nx (σ.set i (some (.ref p))) H') hc S hi hg ht he hs I h fun p H' s' C m I' f hn q=>?_) fun _ s' hq=>wpAny_pure (wpAny_pure hq))
 obtain ⟨f0,f1,f2,f3,f4,f5⟩:=f
 show wpAny _ X.A (assign (.Name x pos') X.env (.ref p)) _ _ s'
 refine wpAny_assign_Name (Zge I' hN hx0 (.inl hx) (v:=.ref p) rfl (fun s2 I2 ⟨a,sb,ha⟩=>?_) (.inr hx))
 have hCa:C≠a:=by
  rcases ha with z|z
  .rw [z];exact f1
  .exact fun e=>f4 x a z e.symm
 exact ⟨m,hn.sameBut sb hCa,fun h' sb'=>⟨_,H',I2.turned (t':=s2.toks) (fun b o hb e=>(sb'.2 b hb).trans e) f0 f1 f3 f4 f5,q⟩⟩
noncomputable def Zao (K:PySem.W.Frag) (mg:Str->Option Value) (x:Str) (st:Stmt):Prop:=∃ f fd,Fun K x x st f fd/\mg x=some (.ref f)
theorem Zal {K:PySem.W.Frag} {h:Heap} {mg:Str->Option Value} {x:Str} {st:Stmt} {f:Addr} {oc:Value} {od an:Option Addr} {osl:Array (Option Value)} {kV doc pm cdv ct:Value} (X:K.In h) (G:h.Ns mainGlobals mg)
  (a:PySem.W.nsIn K mainGlobals x=some (some (.ref f))) (l:K.lookup f=some ⟨oc,od,.func (PySem.W.fnOf x x (Zay st) (Zat st) (Zab st) .none kV doc pm an cdv ct),osl⟩)
  (c:PySem.W.codeIn K cdv x=true) (k:PySem.W.keepIn K (.ref f)=true):Zao K mg x st :=
 ⟨f,_,Zm5 l c k,PySem.W.mg_of X G a⟩
noncomputable def CalF (P:Program) (w:World) (K:PySem.W.Frag) (mg:Str->Option Value) (base:Heap) (k:Nat) (f:Addr) (sp:Sp):Prop :=
 ∃ fd ps,FnOk P w K mg base CX0 k f fd ps sp/\PySem.W.keepIn K (.ref f)=true/\Binds K fd ps []
noncomputable def Cal (P:Program) (w:World) (K:PySem.W.Frag) (mg:Str->Option Value) (base:Heap) (k:Nat) (x:Str) (sp:Sp):Prop :=
 ∃ f,mg x=some (.ref f)/\CalF P w K mg base k f sp
section
variable {P:Program} {w:World} {K:PySem.W.Frag} {mg:Str->Option Value} {base:Heap}
theorem CalF.mono {j k:Nat} {f:Addr} {sp:Sp} (c:CalF P w K mg base j f sp) (h:j<=k):CalF P w K mg base k f sp :=
 let ⟨fd,ps,F,kp,b⟩:=c
 ⟨fd,ps,F.mono h,kp,b⟩
theorem Cal.mono {j k:Nat} {x:Str} {sp:Sp} (c:Cal P w K mg base j x sp) (h:j<=k):Cal P w K mg base k x sp :=
 let ⟨f,m,c⟩:=c
 ⟨f,m,c.mono h⟩
theorem CalF.imp {k:Nat} {f:Addr} {sp sp':Sp} (c:CalF P w K mg base k f sp) (h:∀ vs H Q E,sp' vs H Q E->sp vs H Q E):CalF P w K mg base k f sp' :=
 let ⟨fd,ps,F,kp,b⟩:=c
 ⟨fd,ps,F.imp h,kp,b⟩
theorem Cal.imp {k:Nat} {x:Str} {sp sp':Sp} (c:Cal P w K mg base k x sp) (h:∀ vs H Q E,sp' vs H Q E->sp vs H Q E):Cal P w K mg base k x sp' :=
 let ⟨f,m,c⟩:=c
 ⟨f,m,c.imp h⟩
theorem Zaz {x:Str} {st:Stmt} {N ps:List Str} {k:Nat} {sp:Sp} (D:Zao K mg x st) (S:FnScope N ps (Zab st)) (len:∀ vs H Q E,sp vs H Q E->vs.length=ps.length)
  (hb:∀ (kV doc pm:Value) (an:Option Addr) (cdv ct:Value) (us:List Value),us.length=ps.length->bindArgs (PySem.W.fnOf x x (Zay st) (Zat st) (Zab st) .none kV doc pm an cdv ct) ⟨us,[]⟩=pure (ps.zip us))
  (hbody:∀ (f:Addr) (cdv:Value) (A:Around) (outer:List Env) (s:Shared) (H:Hp) (vs:List V) (Q:VK) (E:XK),Room k (A.deeper (envOfC x (Zab st) s.heap.objs.size f cdv))->sp vs H Q E ->
   ∃ t,PSs (cxOf CX0 P w K mg base N x (Zab st) f cdv A outer s H E).nox (Zat st) t/\t { nx:=fun _ H'=>Q .non H',rt:=Q } (start N vs) H):Cal P w K mg base (k+1) x sp:=by
 obtain ⟨f,fd,F,m⟩:=D
 exact ⟨f,m,fd,ps,F.ok S len (hbody f),F.kp,F.binds hb⟩
end
section
variable {X:Cx} {k:Nat} {x:Str} {sp:Sp} {p pos:Pos} {e func:Expr} {es:List Expr} {t:TA} {tf:TE}
theorem ZaL (c:Cal X.prog X.w X.K X.mg X.base k x sp) (hr:Room k X.A) (hg:Gl X x) (ha:PA X (e::es) t) (hdb:(x==("__debug__" : Str))=false:=by decide)
  (he:starEach (e::es) X.env=(false,eval e X.env)::starEach es X.env:=by rfl) (hpl:(backTo pos (starEach es X.env)).any (·.1)=false:=by rfl) :
  PE X (.Call (.Name x p) (e::es) [] pos) (tCall sp [] E0 t):=by
 obtain ⟨f,m,fd,ps,F,kp,b⟩:=c
 exact ZjV F hr hg m kp b .nil pass0 ha hdb he hpl
noncomputable def tCallV (P:Program) (w:World) (K:PySem.W.Frag) (mg:Str->Option Value) (base:Heap) (k:Nat) (tf:TE) (t:TA):TE:=fun σ H Q=>tf σ H fun v H1=>∃ f sp,v=.ref f/\CalF P w K mg base k f sp/\t σ H1 fun vs H2=>sp vs H2 Q E0
theorem ZiF (hr:Room k X.A) (hf:PE X func tf) (ha:PA X (e::es) t)
  (hc:eval (.Call func (e::es) [] pos) X.env=(do callWith pos (<- eval func X.env) [] (backTo pos (starEach (e::es) X.env)) (backToKw pos (keywordEach [] X.env))):=by rfl)
  (he:starEach (e::es) X.env=(false,eval e X.env)::starEach es X.env:=by rfl) (hpl:(backTo pos (starEach es X.env)).any (·.1)=false:=by rfl) :
  PE X (.Call func (e::es) [] pos) (tCallV X.prog X.w X.K X.mg X.base k tf t):=by
 intro pins s σ H Q I h
 refine Call_ (thn (hf pins s σ H _ I h) fun u s1 ⟨v,H1,I1,r,f,sp,ev,⟨fd,ps,F,kp,b⟩,q⟩=>?_) hc
 subst ev
 obtain rfl:u=Value.ref f:=r
 refine PySem.W.callWith_K (h₀:=X.base) I.ok.mod.kin kp (thn (ha pos pins s1 σ H1 _ I1 q) fun us s2 ⟨vs,H2,I2,r2,q2⟩=>⟨I2.kIn,?_⟩) he hpl
 exact Zfi (dvs:=[]) (E:=E0) F hr b .nil pass0 I2 r2 (by rw [List.append_nil];exact q2)
end
noncomputable def CDivW (i j:Int):Prop:=0<j/\j<2 ^ 200
section
variable {X:Cx}
theorem Zjf {n:Nat} (h:n<2 ^ 200):n.log2<9000:=by
 by_cases z:n=0
 .subst z;decide
 .have:=(Nat.log2_lt z).mpr h
  omega
theorem Zbk:OpR X (binaryOp .FloorDiv) (rI CDivW fun i j=>.int (i / j)):=opI fun i j _ _ _ _ _ hc q=>by
 refine floordiv_int (by have:=hc.1;omega) ?_ (.inl (PyProof.noPylong_of_log2 (Zjf ?_)))
 .rw [Int.fdiv_eq_ediv_of_nonneg _ (Int.le_of_lt hc.1)]
  exact q
 .have h1:=hc.1
  have h2:=hc.2
  have e:((j.natAbs:Nat):Int)=j:=Int.natAbs_of_nonneg (Int.le_of_lt h1)
  have:((j.natAbs:Nat):Int)<((2 ^ 200:Nat):Int):=by rw [e];exact h2
  exact Int.ofNat_lt.mp this
end
noncomputable def isiV:V->String->Option Bool
 | .int _, "int" => some true
 | .int _, "bool" => some false
 | .int _, "str" => some false
 | .int _, "tuple" => some false
 | .int _, "list" => some false
 | .bl _, "bool" => some true
 | .bl _, "int" => some true
 | .bl _, "str" => some false
 | .str _, "str" => some true
 | .str _, "int" => some false
 | .str _, "bool" => some false
 | .str _, "tuple" => some false
 | .str _, "list" => some false
 | _,_=>none
section
variable {X:Cx}
theorem ZlT:CallR X (.builtin "isinstance") (fun xs H Q=>∃ x T b,xs=[x,.ty T]/\isiV x T=some b/\Q (.bl b) H):=by
 intro pins s σ H xs us Q I r h
 obtain ⟨x,T,b,rfl,e,q⟩:=h
 obtain ⟨u,v,rfl,ru,rv⟩:=vals2 r
 obtain rfl:v=Value.type T:=rv
 unfold isiV at e
 split at e<;>first
  | (cases e;obtain ⟨t,rfl⟩:=ru;first
    | exact IsiPair.int_int ⟨.bl true,H,I,rfl,q⟩
    | exact IsiPair.int_bool ⟨.bl false,H,I.tok _,rfl,q⟩
    | exact IsiPair.int_str ⟨.bl false,H,I.tok _,rfl,q⟩
    | exact IsiPair.int_tuple ⟨.bl false,H,I.tok _,rfl,q⟩
    | exact IsiPair.int_list ⟨.bl false,H,I.tok _,rfl,q⟩
    | exact IsiPair.str_str ⟨.bl true,H,I,rfl,q⟩
    | exact IsiPair.str_int ⟨.bl false,H,I.tok _,rfl,q⟩
    | exact IsiPair.str_bool ⟨.bl false,H,I.tok _,rfl,q⟩
    | exact IsiPair.str_tuple ⟨.bl false,H,I.tok _,rfl,q⟩
    | exact IsiPair.str_list ⟨.bl false,H,I.tok _,rfl,q⟩)
  | (cases e;cases ru;first
    | exact IsiPair.bool_bool ⟨.bl true,H,I,rfl,q⟩
    | exact IsiPair.bool_int ⟨.bl true,H,I,rfl,q⟩
    | exact IsiPair.bool_str ⟨.bl false,H,I.tok _,rfl,q⟩)
  | cases e
end
noncomputable def Zdg (P:Program) (w:World) (K:PySem.W.Frag) (a:Addr) (vs:List (Key×Value)):Prop:=∀ h:Heap,K.In h->h.DictOf (Za1 P w) a vs
theorem ZlU {P:Program} {w:World} {K:PySem.W.Frag} {a:Addr} {vs:List (Key×Value)} {es:Array DictEntry} {ep:Nat} (l:K.lookup a=some ⟨.type "dict", none,.dict es ep,#[]⟩)
  (hk:∀ e∈es.toList,∃ k,keyIs k e.key=true/\e.hash=keyH w k) (hp:Pairs (Za1 P w) es.toList vs) (nd:(vs.map (·.1)).Nodup):Zdg P w K a vs:=fun h X =>
 ⟨_,es,ep,X _ _ l,⟨rfl,rfl,rfl⟩,rfl,fun e he=>hk e (Array.mem_toList_iff.mpr he),hp,nd⟩
noncomputable def tDGetK (P:Program) (w:World) (K:PySem.W.Frag) (td ty:TE):TE:=fun σ H Q=>td σ H fun x H1=>ty σ H1 fun y H2=>∃ a vs k u v,x=.ref a/\y=kV k/\Zdg P w K a vs/\valueAt vs k=some u/\RelV v u/\Q v H2
theorem kV_isM {P:Program} {w:World} {k:Key} {u:Value} (r:RelV (kV k) u):(Za1 P w).is k u=true:=by
 cases k with
 | inl i=>obtain ⟨t,rfl⟩:=r;exact Zgd i t
 | inr x=>obtain ⟨t,rfl⟩:=r;exact Zde x t
section
variable {X:Cx} {o i:Expr} {td ty:TE} {pos:Pos}
theorem ZlV (ho:PE X o td) (hi:PE X i ty) (hs:NoSl i):PE X (.Subscript o i pos) (tDGetK X.prog X.w X.K td ty):=by
 intro pins s σ H Q I h
 refine Zj9 PySem.F.slot_dict_getitem.lookup hs (thn (ho pins s σ H _ I h) fun u s1 ⟨x,H1,I1,rx,q1⟩=>thn (hi pins s1 σ H1 _ I1 q1) fun iv s2 ⟨y,H2,I2,ry,a,vs,k,w',v,ex,ey,D,hv,rv,q2⟩=>?_)
 subst ex ey
 obtain rfl:u=Value.ref a:=rx
 have dd:=D s2.heap I2.kIn
 exact ⟨dd.typeIs,wpAny_getItem_of (kV_isM ry) dd.mapOf hv ⟨v,H2,I2.tok _,rv,q2⟩⟩
end
section
variable {σ:St} {H:Hp} {Q:VK} {D:Ends} {i:Nat} {v:V}
theorem rd_C (q:Q v H):tC v σ H Q:=q
theorem rd_V (e:σ[i]?=some (some v)) (q:Q v H):tVar i σ H Q:=⟨v,e,q⟩
theorem rd_op {r:R2} {ta tb:TE} (q:ta σ H fun x H1=>tb σ H1 fun y H2=>r x y H2 Q):tOp r ta tb σ H Q:=q
theorem rd_un {r:V->Hp->VK->Prop} {ta:TE} (q:ta σ H fun x H1=>r x H1 Q):tUn r ta σ H Q:=q
theorem rd_I {C:Int->Int->Prop} {g:Int->Int->V} {a b:Int} (c:C a b) (q:Q (g a b) H):rI C g (.int a) (.int b) H Q:=⟨a,b,rfl,rfl,c,q⟩
theorem rd_I0 {g:Int->Int->V} {a b:Int} (q:Q (g a b) H):rI0 g (.int a) (.int b) H Q:=⟨a,b,rfl,rfl,q⟩
theorem rd_U {g:Int->V} {a:Int} (q:Q (g a) H):rU g (.int a) H Q:=⟨a,rfl,q⟩
theorem rd_eqI {a b:Int} (q:Q (.bl (decide (a=b))) H):rEq (.int a) (.int b) H Q:=by
 refine ⟨rfl,?_⟩
 have e:decide (V.int a=V.int b)=decide (a=b):=decide_eq_decide.mpr ⟨fun h=>V.int.inj h,fun h=>by rw [h]⟩
 rw [e];exact q
theorem rd_neI {a b:Int} (q:Q (.bl (!decide (a=b))) H):rNe (.int a) (.int b) H Q:=by
 refine ⟨rfl,?_⟩
 have e:decide (V.int a=V.int b)=decide (a=b):=decide_eq_decide.mpr ⟨fun h=>V.int.inj h,fun h=>by rw [h]⟩
 rw [e];exact q
theorem rd_eqS {a b:Str} (q:Q (.bl (decide (a=b))) H):rEq (.str a) (.str b) H Q:=by
 refine ⟨rfl,?_⟩
 have e:decide (V.str a=V.str b)=decide (a=b):=decide_eq_decide.mpr ⟨fun h=>V.str.inj h,fun h=>by rw [h]⟩
 rw [e];exact q
theorem rd_neS {a b:Str} (q:Q (.bl (!decide (a=b))) H):rNe (.str a) (.str b) H Q:=by
 refine ⟨rfl,?_⟩
 have e:decide (V.str a=V.str b)=decide (a=b):=decide_eq_decide.mpr ⟨fun h=>V.str.inj h,fun h=>by rw [h]⟩
 rw [e];exact q
theorem rd_seq {t u:TS} (q:t { D with nx:=u D } σ H):tSeq t u D σ H:=q
theorem rd_asg {te:TE} {g:TG} (q:te σ H fun x H1=>g x σ H1 D.nx):tAsg te g D σ H:=q
theorem Zkd {R:St->Hp->Prop} (q:R (σ.set i (some v)) H):gName i v σ H R:=q
theorem Zm6 {te:TE} (q:te σ H D.rt):tRet te D σ H:=q
theorem ZnF (q:D.nx σ H):tNext D σ H:=q
theorem Zke {te:TE} (q:te σ H fun _ H1=>D.nx σ H1):tDrop te D σ H:=q
theorem rd_ifS {c:TT} {t u:TS} (q:c σ H fun b H1=>if b=true then t D σ H1 else u D σ H1):tIfS c t u D σ H:=q
theorem rd_if {c:TT} {ta tb:TE} (q:c σ H fun b H1=>if b=true then ta σ H1 Q else tb σ H1 Q):tIf c ta tb σ H Q:=q
theorem ZnG {te:TE} {R:Bool->Hp->Prop} (q:te σ H fun x H'=>∃ k,x=.bl k/\R k H'):tTest te σ H R:=q
theorem rd_B {te:TE} {R:Bool->Hp->Prop} (q:te σ H fun x H'=>∃ k,x=.bl k/\R k H'):tB te σ H R:=q
theorem rd_bl {b:Bool} {R:Bool->Prop} (q:R b):∃ k,V.bl b=.bl k/\R k:=⟨b,rfl,q⟩
theorem rd_and {t u:TT} {R:Bool->Hp->Prop} (q:t σ H fun c H1=>if c=true then u σ H1 R else R false H1):tAnd t u σ H R:=q
theorem rd_or {t u:TT} {R:Bool->Hp->Prop} (q:t σ H fun c H1=>if c=true then R true H1 else u σ H1 R):tOr t u σ H R:=q
theorem rd_not {t:TT} {R:Bool->Hp->Prop} (q:t σ H fun c H1=>R (!c) H1):tNot t σ H R:=q
theorem ZnH {ta tb:TE} (q:ta σ H fun x H1=>∃ c,x=.bl c/\if c=true then tb σ H1 Q else Q (.bl false) H1):tAndV ta tb σ H Q:=q
theorem rd_orV {ta tb:TE} (q:ta σ H fun x H1=>∃ c,x=.bl c/\if c=true then Q (.bl true) H1 else tb σ H1 Q):tOrV ta tb σ H Q:=q
theorem ZnI {ta:TE} (q:ta σ H fun x H1=>∃ c,x=.bl c/\Q (.bl (!c)) H1):tNotV ta σ H Q:=q
theorem ZnJ {ta:TE} {tr:TA} {R:List V->Hp->Prop} (q:ta σ H fun x H1=>tr σ H1 fun xs H2=>R (x::xs) H2):tCons ta tr σ H R:=q
theorem Zfk {R:List V->Hp->Prop} (q:R [] H):tNil σ H R:=q
theorem ZnK {sp:Sp} {t:TA} (q:t σ H fun vs H1=>sp vs H1 Q E0):tCall sp [] E0 t σ H Q:=by
 unfold tCall
 have e:(fun (vs:List V) H1=>sp (vs++[]) H1 Q E0)=fun vs H1=>sp vs H1 Q E0:=by funext vs H1;rw [List.append_nil]
 rw [e]
 exact q
theorem rd_CB {r:List V->Hp->VK->Prop} {t:TA} (q:t σ H fun vs H1=>r vs H1 Q):tCB r t σ H Q:=q
theorem ZlW {r r':R2} {ta tb tc:TE} (q:ta σ H fun x H1=>tb σ H1 fun y H2=>r x y H2 fun z H3=>∃ k,z=.bl k/\if k=true then tc σ H3 fun u H4=>r' y u H4 Q else Q (.bl false) H3):tChain r r' ta tb tc σ H Q:=q
theorem rd_tup {t:TA} (q:t σ H fun xs H1=>xs.length<=sizeLine/\∀ p,H1 p=none->Q (.ref p) (upd H1 p (.tup xs))):tTup t σ H Q:=q
theorem rd_lst {t:TA} (q:t σ H fun xs H1=>xs.length<=sizeLine/\∀ p,H1 p=none->Q (.ref p) (upd H1 p (.lst xs))):tLst t σ H Q:=q
theorem Zds {c A B:Prop} [Decidable c] (h1:c->A) (h2:¬ c->B):if decide c=true then A else B:=by
 by_cases h:c
 .rw [if_pos (decide_eq_true h)];exact h1 h
 .rw [if_neg (by rw [decide_eq_false h];exact Bool.false_ne_true)];exact h2 h
theorem ZcH {c A B:Prop} [Decidable c] (h1:¬ c->A) (h2:c->B):if (!decide c)=true then A else B:=by
 by_cases h:c
 .rw [decide_eq_true h];exact iteF (h2 h)
 .rw [decide_eq_false h];exact iteT (h1 h)
theorem ZbS {u:V} (e:u=v) (q:Q v H):Q u H:=by rw [e];exact q
end
noncomputable def ZaW (mg:Str->Option Value) (x:Str) (v:V):Prop:=∃ u,mg x=some u/\RelV v u
section
variable {X:Cx} {x:Str} {v:V} {T:String} {pos:Pos}
theorem ZbL (hg:Gl X x) (h:ZaW X.mg x v) (hd:(x==("__debug__" : Str))=false:=by decide):PE X (.Name x pos) (tC v) :=
 let ⟨_,m,r⟩:=h
 Znn hg m r hd
theorem Zep (hg:Gl X x) (hm:X.mg x=none) (hv:bootBuiltins x=some (.type T)) (hn:x ≠ "__name__" := by decide) (hd:(x==("__debug__" : Str))=false:=by decide):PE X (.Name x pos) (tC (.ty T)) :=
 Zno hg hm hv rfl hn hd
end
noncomputable def sEnt (w:World) (p:Str×Tok×Value):DictEntry:=⟨PyData.keyHash w.params p.1,.str p.1 p.2.1,p.2.2⟩
noncomputable def entsOf (es:Array DictEntry):List (Str×Tok×Value):=es.toList.filterMap fun e=>match e.key with|.str x t=>some (x,t,e.val)|_=>none
theorem Zfl {P:Program} {w:World}:∀ l:List (Str×Tok×Value),Pairs (Za1 P w) (l.map (sEnt w)) (l.map fun p=>((Sum.inr p.1:Key),p.2.2))
 | []=>.nil
 | p::r=>.cons (Zde p.1 p.2.1) rfl (Zfl r)
theorem ZgB:∀ {l:List Str},l.Nodup->(l.map fun x=>(Sum.inr x:Key)).Nodup
 | [],_=>List.nodup_nil
 | x::r,h=>by
  have h1:=List.nodup_cons.mp h
  rw [List.map_cons,List.nodup_cons]
  refine ⟨fun hm=>?_,ZgB h1.2⟩
  obtain ⟨y,hy,e⟩:=List.mem_map.mp hm
  cases e
  exact h1.1 hy
theorem Zeq {P:Program} {w:World} {K:PySem.W.Frag} {a:Addr} {es:Array DictEntry} {ep:Nat} (l:K.lookup a=some ⟨.type "dict", none,.dict es ep,#[]⟩) (he:es=((entsOf es).map (sEnt w)).toArray)
  (nd:((entsOf es).map (·.1)).Nodup):Zdg P w K a ((entsOf es).map fun p=>((Sum.inr p.1:Key),p.2.2)):=by
 have e:es.toList=(entsOf es).map (sEnt w):=by rw [he];simp [<- he]
 refine ZlU l (fun e' he'=>?_) (by rw [e];exact Zfl _) ?_
 .rw [e] at he'
  obtain ⟨p,_,rfl⟩:=List.mem_map.mp he'
  exact ⟨.inr p.1,Zde p.1 p.2.1,rfl⟩
 .rw [List.map_map]
  have:((fun x:Key×Value=>x.1) ∘ fun p:Str×Tok×Value=>((Sum.inr p.1:Key),p.2.2))=(fun x=>(Sum.inr x:Key)) ∘ (fun p:Str×Tok×Value=>p.1):=rfl
  rw [this,<- List.map_map]
  exact ZgB nd
theorem Same.tup {K:PySem.W.Frag} {H H':Hp} {a:Addr} {xs:List V} (e:Same H H') (h:SqT K H a xs):SqT K H' a xs:=by
 rcases h with (h|⟨o,h⟩)|h
 .exact .inl (.inl (e _ _ h))
 .exact .inl (.inr ⟨o,e _ _ h⟩)
 .exact .inr h
theorem Same.new {H:Hp} {p:Addr} {o:HO} (n:H p=none):Same H (upd H p o):=fun b u e=>by rw [Zai (Zaj e n)];exact e
theorem Same.newT {H H':Hp} {p:Addr} {o:HO} (s:Same H H') (n:H' p=none):Same H (upd H' p o):=s.trans (Same.new n)
theorem Zkf {K:PySem.W.Frag} {H:Hp} {p:Addr} {xs:List V}:SqT K (upd H p (.tup xs)) p xs:=.inl (.inl Zag)
theorem Zas {K:PySem.W.Frag} {H:Hp} {p:Addr} {xs:List V} (h:H p=some (.lst xs)):SqL K H p xs:=.inl (.inl h)
theorem ZaA {K:PySem.W.Frag} {H:Hp} {p:Addr} {xs:List V} (h:H p=some (.tup xs)):SqT K H p xs:=.inl (.inl h)
theorem ZcI {α:Type} {xs:List α} {i:Nat} {j:Int} {v:α} (h:xs[i]?=some v) (e:j=(i:Int)):atI xs j=some v:=by rw [e];exact ZcW h
section
variable {σ:St} {H:Hp} {Q:VK} {K:PySem.W.Frag} {p a b:Addr} {xs ys:List V} {v:V}
theorem ZaH {i:Int} (h:SqL K H p xs) (e:atI xs i=some v) (q:Q v H):rIxL K (.ref p) (.int i) H Q:=⟨p,xs,i,v,rfl,rfl,h,e,q⟩
theorem Zcn {i:Int} (h:SqT K H p xs) (e:atI xs i=some v) (q:Q v H):rIxT K (.ref p) (.int i) H Q:=⟨p,xs,i,v,rfl,rfl,h,e,q⟩
theorem Zkg {lo hi:Option Int} (h:SqL K H a xs) (q:∀ p,H p=none->Q (.ref p) (upd H p (.lst (cutV xs lo hi)))):rSlL K (.ref a) lo hi H Q:=⟨a,xs,rfl,h,q⟩
theorem rd_sl {r:V->Option Int->Option Int->Hp->VK->Prop} {te:TE} {tl th:TO} (q:te σ H fun x H1=>tl σ H1 fun l H2=>th σ H2 fun u H3=>r x l u H3 Q):tSl r te tl th σ H Q:=q
theorem Zkh {R:Option Int->Hp->Prop} (q:R none H):ZjY σ H R:=q
theorem ZnL {R:Option Int->Hp->Prop} {t:TE} (q:t σ H fun x H1=>∃ i,x=.int i/\R (some i) H1):tPart t σ H R:=q
theorem rd_ei {R:Int->Prop} {i:Int} (q:R i):∃ j,V.int i=.int j/\R j:=⟨i,rfl,q⟩
theorem Zfm (h1:H a=some (.lst xs)) (h2:H b=some (.lst ys)) (hz:xs.length+ys.length<=sizeLine) (q:∀ p,H p=none->Q (.ref p) (upd H p (.lst (xs++ys)))):rCat (.ref a) (.ref b) H Q:=⟨a,b,xs,ys,rfl,rfl,h1,h2,hz,q⟩
end
theorem iteNT {A B:Prop} (h:B):if (!true)=true then A else B:=iteF h
section
variable {σ:St} {H:Hp} {Q:VK} {D:Ends}
theorem Zer {k:Nat} {wi:TI} {g:TG} {tc:TT} {te:TE} (q:wi σ H fun J H1=>∀ p,H1 p=none->tLoopC k g tc te J p (fun H'=>Q (.ref p) H') σ H1):tComp k wi g tc te σ H Q:=q
theorem ZcJ {K:PySem.W.Frag} {tl:TE} {R:It->Hp->Prop} (q:tl σ H fun x H1=>∃ a,x=.ref a/\(∃ xs,SqL K H1 a xs)/\R (Itl K a) H1):iList K tl σ H R:=q
theorem Zdh {ta:TA} {R:It->Hp->Prop} (q:ta σ H fun vs H1=>∃ j:Int,vs=[.int j]/\-(2 ^ 62)<=j/\j<2 ^ 62/\R (Itr 0 j.toNat) H1):iRng1 ta σ H R:=q
theorem Zfn {wi:TI} {g:TG} {tb:TS} (q:wi σ H fun J H1=>∃ W:Nat->Nat->St->Hp->Prop,(∃ m,W 0 m σ H1)/\∀ i m σ H,W i m σ H ->
 (J.stop i H/\D.nx σ H)\/(J.go i H/\∃ N:St->Hp->Prop,(∀ σ' H',N σ' H'->∃ m',m'<m/\W (i+1) m' σ' H')/\∀ x H',J.yld i H x H'->g x σ H' fun σ2 H2=>tb { D with nx:=N,ct:=N,bk:=D.nx } σ2 H2)):tFor wi g tb D σ H:=q
end
section
variable {CX:CXT} {P:Program} {w:World} {K:PySem.W.Frag} {mg:Str->Option Value} {base:Heap} {N:List Str} {q:Str} {sc:Scope} {f:Addr} {cd:Value} {A:Around} {outer:List Env} {s:Shared} {H:Hp} {E:XK}
theorem nox_K:(cxOf CX P w K mg base N q sc f cd A outer s H E).nox.K=K:=rfl
theorem nox_P:(cxOf CX P w K mg base N q sc f cd A outer s H E).nox.prog=P:=rfl
theorem nox_w:(cxOf CX P w K mg base N q sc f cd A outer s H E).nox.w=w:=rfl
theorem nox_mg:(cxOf CX P w K mg base N q sc f cd A outer s H E).nox.mg=mg:=rfl
theorem ZlX:(cxOf CX P w K mg base N q sc f cd A outer s H E).nox.base=base:=rfl
end
theorem ZcK {K:PySem.W.Frag} {h:Heap} {mg:Str->Option Value} {x:Str} {i:Int} {t:Tok} (X:K.In h) (G:h.Ns mainGlobals mg) (a:PySem.W.nsIn K mainGlobals x=some (some (.int i t))):ZaW mg x (.int i):=⟨_,PySem.W.mg_of X G a,t,rfl⟩
theorem Zca {K:PySem.W.Frag} {h:Heap} {mg:Str->Option Value} {x:Str} {i:Addr} (X:K.In h) (G:h.Ns mainGlobals mg) (a:PySem.W.nsIn K mainGlobals x=some (some (.ref i))):ZaW mg x (.ref i):=⟨_,PySem.W.mg_of X G a,rfl⟩
theorem Zjg {K:PySem.W.Frag} {x qual p:Str} {st:Stmt} {f:Addr} {fd:FuncData} (F:Fun K x qual st f fd)
  (hb:∀ (kV doc pm:Value) (an:Option Addr) (cdv ct u:Value),bindArgs (PySem.W.fnOf x qual (Zay st) (Zat st) (Zab st) .none kV doc pm an cdv ct) ⟨[u],[]⟩=pure [(p,u)]:=by intros;rfl):∀ (s:Shared) (u:Value),BindsTo s fd ⟨[u],[]⟩ [(p,u)]:=by
 obtain ⟨oc,od,kV,doc,pm,an,cdv,ct,osl,rfl,lk,hcd⟩:=F.ex
 exact fun s u=>.of_eq (hb kV doc pm an cdv ct u)
section
variable {σ:St} {H:Hp} {Q:VK} {D:Ends} {i:Nat} {x:V}
end
noncomputable abbrev RC:=List V->Hp->VK->Prop
noncomputable def rMax2:RC:=fun xs H Q=>∃ i j,xs=[.int i,.int j]/\Q (.int (if j>i then j else i)) H
noncomputable def rMin2:RC:=fun xs H Q=>∃ i j,xs=[.int i,.int j]/\Q (.int (if j<i then j else i)) H
noncomputable def rIsi:RC:=fun xs H Q=>∃ x T b,xs=[x,.ty T]/\isiV x T=some b/\Q (.bl b) H
noncomputable def rLenS (K:PySem.W.Frag):RC:=fun xs H Q=>∃ p ys,xs=[.ref p]/\(SqL K H p ys\/SqT K H p ys)/\Q (.int ys.length) H
section
variable {X:Cx} {H:Hp} {Q:VK} {K:PySem.W.Frag}
theorem Zki (hc:X.calm=true):CallR X (.builtin "max") rMax2:=ZjQ hc
theorem cn_min (hc:X.calm=true):CallR X (.builtin "min") rMin2:=ZjR hc
theorem cn_isi:CallR X (.builtin "isinstance") rIsi:=ZlT
theorem ZbO:CallR X (.builtin "len") (rLenS X.K):=Zgp
theorem ZhH {a b:Int} (q:Q (.int (if b>a then b else a)) H):rMax2 [.int a,.int b] H Q:=⟨a,b,rfl,q⟩
theorem Zkj {a b:Int} (q:Q (.int (if b<a then b else a)) H):rMin2 [.int a,.int b] H Q:=⟨a,b,rfl,q⟩
theorem Zkk {p:Addr} {xs:List V} (h:SqL K H p xs) (q:Q (.int xs.length) H):rLenS K [.ref p] H Q:=⟨p,xs,rfl,.inl h,q⟩
theorem ZnM {p:Addr} {xs:List V} (h:SqT K H p xs) (q:Q (.int xs.length) H):rLenS K [.ref p] H Q:=⟨p,xs,rfl,.inr h,q⟩
end
section
variable {σ:St} {H:Hp} {Q:VK} {K:PySem.W.Frag} {p:Addr} {xs:List V} {v:V}
theorem rd_bm {T:String} {r:V->List V->Hp->VK->Prop} {to:TE} {t:TA} (q:to σ H fun x H1=>tyV K T x H1/\t σ H1 fun xs H2=>r x xs H2 Q):tBM K T r to t σ H Q:=q
theorem rd_bm0 {T:String} {r:V->List V->Hp->VK->Prop} {to:TE} (q:to σ H fun x H1=>tyV K T x H1/\r x [] H1 Q):tBM0 K T r to σ H Q:=q
theorem ZbW (h:SqL K H p xs):tyV K "list" (.ref p) H:=.inl ⟨rfl,_,h⟩
theorem ZbX (h:H p=some (.lst xs)) (hz:xs.length<sizeLine) (q:Q .non (upd H p (.lst (xs++[v])))):Zj2 (.ref p) [v] H Q:=⟨p,xs,v,rfl,rfl,h,hz,q⟩
theorem Zm7 (h:H p=some (.lst (xs++[v]))) (q:Q v (upd H p (.lst xs))):rPop (.ref p) [] H Q:=by
 refine ⟨p,xs++[v],v,rfl,rfl,h,by simp,?_⟩
 rw [List.dropLast_concat]
 exact q
end
noncomputable def TupK (K:PySem.W.Frag) (a:Addr) (xs:List V):Prop:=∃ (o:Obj) (its:Array Value) (n:Nat),K.lookup a=some o/\o.cls=.type "tuple" /\ o.data=.seq its n/\its.size<=sizeLine/\Vals xs its.toList
theorem TupK.sqt {K:PySem.W.Frag} {a:Addr} {xs:List V} (h:TupK K a xs) (H:Hp):SqT K H a xs:=.inr h
theorem ZaP {K:PySem.W.Frag} {a:Addr} {xs:List V} {d:Option Addr} {its:Array Value} {n:Nat} {sl:Array (Option Value)} (l:K.lookup a=some ⟨.type "tuple", d,.seq its n,sl⟩) (v:Vals xs its.toList) (z:its.size<=sizeLine):TupK K a xs:=⟨_,its,n,l,rfl,rfl,z,v⟩
noncomputable def inS (x:Str) (xs:List Str):Bool:=xs.any fun y=>y==x
theorem ZnN (x:Str) (xs:List Str):inV (.str x) (xs.map V.str)=inS x xs:=by
 unfold inV inS
 rw [List.any_map]
 rfl
section
variable {σ:St} {H:Hp} {Q:VK} {K:PySem.W.Frag} {p:Addr}
theorem Zkl {x:Str} {xs:List Str} (h:SqT K H p (xs.map V.str)) (q:Q (.bl (inS x xs)) H):rIn K false (.str x) (.ref p) H Q:=by
 refine ⟨p,_,rfl,.inr h,rfl,?_,?_⟩
 .rw [List.all_map]
  exact List.all_eq_true.mpr fun _ _=>rfl
 .rw [if_neg (by decide),ZnN]
  exact q
theorem Zfo {te:TE} {R:Hp->Prop} {lo:Int} {n:Nat} {ys:List V} (hp:H p=none) (hn:ys.length=n) (hz:n<=sizeLine)
  (he:∀ (i:Nat) (y:V) (H':Hp) (Q:VK),i<n->ys[i]?=some y->Same H H'->Q y H'->te (some (.int (lo+i))::σ) H' Q) (fin:R (upd H p (.lst ys))) :
  tLoopC 1 (gName 0) tNoIf te (Itr lo n) p R σ H:=by
 refine ⟨fun i m σ' H'=>m=n-i/\i<=n/\H'=upd H p (.lst (ys.take i))/\∃ v,σ'=v::σ,⟨n,by omega,Nat.zero_le _,rfl,none,rfl⟩,?_⟩
 rintro i m σ' H' ⟨rfl,hi,rfl,v,rfl⟩
 by_cases hlt:i<n
 .refine .inr ⟨hlt,fun σ2 H2=>H2=upd H p (.lst (ys.take (i+1)))/\∃ v,σ2=v::σ,fun σ2 H2 ⟨e,v',e'⟩=>⟨n-(i+1),by omega,rfl,hlt,e,v',e'⟩,fun x H1 ⟨e,y⟩=>?_⟩
  subst e y
  refine Zkd ?_
  simp only [tNoIf,if_true,List.set_cons_zero]
  have hyl:i<ys.length:=by omega
  refine he i ys[i] _ _ hlt (by simp [hyl]) (Same.new hp) ?_
  refine ⟨ys.take i,Zag,?_,?_,some _,rfl⟩
  .rw [List.length_take];omega
  .rw [ZaV,List.take_succ_eq_append_getElem hyl]
 .have e:i=n:=by omega
  subst e
  refine .inl ⟨Nat.le_refl _,?_⟩
  rw [<- hn,List.take_length]
  exact fin
end
noncomputable def CalD (P:Program) (w:World) (K:PySem.W.Frag) (mg:Str->Option Value) (base:Heap) (k:Nat) (x:Str) (sp:Sp) (dvs:List V):Prop :=
 ∃ f fd ps ds,mg x=some (.ref f)/\FnOk P w K mg base CX0 k f fd ps sp/\PySem.W.keepIn K (.ref f)=true/\Binds K fd ps ds/\Vals dvs ds
theorem ZnO {X:Cx} {k:Nat} {x:Str} {sp:Sp} {dvs:List V} {p pos:Pos} {e:Expr} {es:List Expr} {t:TA} (c:CalD X.prog X.w X.K X.mg X.base k x sp dvs) (hr:Room k X.A) (hg:Gl X x) (ha:PA X (e::es) t) (hdb:(x==("__debug__" : Str))=false:=by decide)
  (he:starEach (e::es) X.env=(false,eval e X.env)::starEach es X.env:=by rfl) (hpl:(backTo pos (starEach es X.env)).any (·.1)=false:=by rfl) :
  PE X (.Call (.Name x p) (e::es) [] pos) (tCall sp dvs E0 t):=by
 obtain ⟨f,fd,ps,ds,m,F,kp,b,v⟩:=c
 exact ZjV F hr hg m kp b v pass0 ha hdb he hpl
noncomputable def isiSeq:Bool->String->Option Bool
 | true, "tuple" => some true
 | true, "list" => some false
 | true, "int" => some false
 | true, "bool" => some false
 | true, "str" => some false
 | false, "list" => some true
 | false, "tuple" => some false
 | false, "int" => some false
 | false, "bool" => some false
 | false, "str" => some false
 | _,_=>none
noncomputable def rIsiQ (K:PySem.W.Frag):RC:=fun xs H Q=>∃ a T ys b,xs=[.ref a,.ty T]/\((SqT K H a ys/\isiSeq true T=some b)\/(SqL K H a ys/\isiSeq false T=some b))/\Q (.bl b) H
theorem Zkm {X:Cx}:CallR X (.builtin "isinstance") (rIsiQ X.K):=by
 intro pins s σ H xs us Q I r h
 obtain ⟨a,T,ys,b,rfl,e,q⟩:=h
 obtain ⟨u,v,rfl,ru,rv⟩:=vals2 r
 obtain rfl:v=Value.type T:=rv
 obtain rfl:u=Value.ref a:=ru
 have kp:∀ b o,s.heap.get? b=some o->s.heap.get? b=some o:=fun _ _ z=>z
 rcases e with ⟨hq,e⟩|⟨hq,e⟩
 .obtain ⟨its,rv,p,hz⟩:=I.tuple hq
  have p':s.heap.IsTuple a its.toArray:=p
  unfold isiSeq at e
  split at e<;>first
   | contradiction
   | (cases e;first
    | exact IsiPair.isTuple_tuple p' kp ⟨.bl true,H,I,rfl,q⟩
    | exact IsiPair.isTuple_list p' kp ⟨.bl false,H,I.tok _,rfl,q⟩
    | exact IsiPair.isTuple_int p' kp ⟨.bl false,H,I.tok _,rfl,q⟩
    | exact IsiPair.isTuple_bool p' kp ⟨.bl false,H,I.tok _,rfl,q⟩
    | exact IsiPair.isTuple_str p' kp ⟨.bl false,H,I.tok _,rfl,q⟩)
   | cases e
   | (rename_i z _;cases z)
 .obtain ⟨its,rv,p,hz⟩:=I.list hq
  have p':s.heap.IsList a its.toArray:=p.isList
  unfold isiSeq at e
  split at e<;>first
   | contradiction
   | (cases e;first
    | exact IsiPair.isList_list p' kp ⟨.bl true,H,I,rfl,q⟩
    | exact IsiPair.isList_tuple p' kp ⟨.bl false,H,I.tok _,rfl,q⟩
    | exact IsiPair.isList_int p' kp ⟨.bl false,H,I.tok _,rfl,q⟩
    | exact IsiPair.isList_bool p' kp ⟨.bl false,H,I.tok _,rfl,q⟩
    | exact IsiPair.isList_str p' kp ⟨.bl false,H,I.tok _,rfl,q⟩)
   | cases e
   | (rename_i z _;cases z)
noncomputable def rIsiA (K:PySem.W.Frag):RC:=fun xs H Q=>rIsi xs H Q\/rIsiQ K xs H Q
theorem ZcY {X:Cx}:CallR X (.builtin "isinstance") (rIsiA X.K):=cn_isi.or Zkm
section
variable {H:Hp} {Q:VK} {K:PySem.W.Frag}
theorem ZnP {x:V} {T:String} {b:Bool} (e:isiV x T=some b) (q:Q (.bl b) H):rIsiA K [x,.ty T] H Q:=.inl ⟨x,T,b,rfl,e,q⟩
theorem ZnQ {a:Addr} {T:String} {ys:List V} {b:Bool} (h:SqT K H a ys) (e:isiSeq true T=some b) (q:Q (.bl b) H):rIsiA K [.ref a,.ty T] H Q:=.inr ⟨a,T,ys,b,rfl,.inl ⟨h,e⟩,q⟩
theorem ZnR {a:Addr} {T:String} {ys:List V} {b:Bool} (h:SqL K H a ys) (e:isiSeq false T=some b) (q:Q (.bl b) H):rIsiA K [.ref a,.ty T] H Q:=.inr ⟨a,T,ys,b,rfl,.inr ⟨h,e⟩,q⟩
end
noncomputable def cV:Expr->Option V
 | .Constant (.int i) _ _=>some (.int i)
 | .Constant (.str x) _ _=>some (.str x)
 | _=>none
noncomputable def cVs:List Expr->Option (List V)
 | []=>some []
 | e::es=>match cV e,cVs es with
  | some v,some vs=>some (v::vs)
  | _,_=>none
noncomputable def tVals (vs:List V):TA:=fun _ H Q=>Q vs H
theorem pe_cV {X:Cx} {e:Expr} {v:V} (h:cV e=some v):PE X e (tC v)/\∀ es,starEach (e::es) X.env=(false,eval e X.env)::starEach es X.env:=by
 unfold cV at h
 split at h
 .cases h;exact ⟨Zae,fun _=>rfl⟩
 .cases h;exact ⟨Zar,fun _=>rfl⟩
 .cases h
theorem ZlY {X:Cx}:∀ {es:List Expr} {vs:List V},cVs es=some vs->PA X es (tVals vs)
 | [],vs,h=>by
  cases h
  exact fun _ _ _ _ H Q I h=>Calls.spliced_nil ⟨[],H,I,.nil,h⟩
 | e::es,vs,h=>by
  unfold cVs at h
  cases he:cV e with
  | none=>rw [he] at h;cases h
  | some v =>
   cases hs:cVs es with
   | none=>rw [he,hs] at h;cases h
   | some us =>
    rw [he,hs] at h
    cases h
    obtain ⟨h1,h2⟩:=pe_cV (X:=X) he
    exact Zaa h1 (ZlY hs) (h2 es)
theorem ZnS {σ:St} {H:Hp} {vs:List V} {R:List V->Hp->Prop} (q:R vs H):tVals vs σ H R:=q
section
variable {σ:St} {H:Hp} {Q:VK} {P:Program} {w:World} {K:PySem.W.Frag} {td ty:TE}
end
noncomputable def rDK (P:Program) (w:World) (K:PySem.W.Frag):R2:=fun x y H Q=>∃ a vs k u v,x=.ref a/\y=kV k/\Zdg P w K a vs/\valueAt vs k=some u/\RelV v u/\Q v H
theorem Zfp {X:Cx} {o i:Expr} {td ty:TE} {pos:Pos} (ho:PE X o td) (hi:PE X i ty) (hs:NoSl i):PE X (.Subscript o i pos) (tOp (rDK X.prog X.w X.K) td ty):=ZlV ho hi hs
section
variable {H:Hp} {Q:VK} {P:Program} {w:World} {K:PySem.W.Frag}
theorem Zkn {a:Addr} {vs:List (Key×Value)} {x:Str} {u:Value} {v:V} (dk:Zdg P w K a vs) (hv:valueAt vs (.inr x)=some u) (r:RelV v u) (q:Q v H):rDK P w K (.ref a) (.str x) H Q:=⟨a,vs,.inr x,u,v,rfl,rfl,dk,hv,r,q⟩
end
section
variable {CX:CXT} {P:Program} {w:World} {K:PySem.W.Frag} {mg:Str->Option Value} {base:Heap} {N:List Str} {q:Str} {sc:Scope} {f:Addr} {cd:Value} {A:Around} {outer:List Env} {s:Shared} {H:Hp} {E:XK}
theorem cxOf_K:(cxOf CX P w K mg base N q sc f cd A outer s H E).K=K:=rfl
theorem cxOf_P:(cxOf CX P w K mg base N q sc f cd A outer s H E).prog=P:=rfl
theorem cxOf_w:(cxOf CX P w K mg base N q sc f cd A outer s H E).w=w:=rfl
theorem ZnT:(cxOf CX P w K mg base N q sc f cd A outer s H E).mg=mg:=rfl
theorem Zko:(cxOf CX P w K mg base N q sc f cd A outer s H E).base=base:=rfl
end
theorem ZlZ:Vals [] []:=.nil
theorem Zl0 {i:Int} {t:Tok} {xs:List V} {us:List Value} (h:Vals xs us):Vals (.int i::xs) (.int i t::us):=.cons ⟨t,rfl⟩ h
theorem Zl1 {x:Str} {t:Tok} {xs:List V} {us:List Value} (h:Vals xs us):Vals (.str x::xs) (.str x t::us):=.cons ⟨t,rfl⟩ h
theorem Zkp {K:PySem.W.Frag} {h:Heap} {mg:Str->Option Value} {x:Str} {i:Addr} {xs:List V} {d:Option Addr} {its:Array Value} {n:Nat} {sl:Array (Option Value)} (X:K.In h) (G:h.Ns mainGlobals mg) (a:PySem.W.nsIn K mainGlobals x=some (some (.ref i)))
  (l:K.lookup i=some ⟨.type "tuple", d,.seq its n,sl⟩) (v:Vals xs its.toList) (z:its.size<=sizeLine):∃ a,ZaW mg x (.ref a)/\TupK K a xs:=⟨i,Zca X G a,ZaP l v z⟩
structure FunD (K:PySem.W.Frag) (x qual:Str) (st:Stmt) (items:Array Value) (f:Addr) (fd:FuncData):Prop where
 ex:∃ (oc:Value) (od:Option Addr) (T:Addr) (kV doc pm:Value) (an:Option Addr) (cdv ct:Value) (osl:Array (Option Value)) (o:Obj) (n:Nat),
  fd=PySem.W.fnOf x qual (Zay st) (Zat st) (Zab st) (.ref T) kV doc pm an cdv ct/\K.lookup f=some ⟨oc,od,.func fd,osl⟩/\PySem.W.codeIn K cdv qual=true/\K.lookup T=some o/\o.data=.seq items n
 kp:PySem.W.keepIn K (.ref f)=true
noncomputable def Zkq (K:PySem.W.Frag) (mg:Str->Option Value) (x:Str) (st:Stmt) (items:Array Value):Prop:=∃ f fd,FunD K x x st items f fd/\mg x=some (.ref f)
theorem Zkr {K:PySem.W.Frag} {h:Heap} {mg:Str->Option Value} {x:Str} {st:Stmt} {f T:Addr} {oc c2:Value} {od an d2:Option Addr} {osl s2:Array (Option Value)} {kV doc pm cdv ct:Value} {items:Array Value} {n:Nat} (X:K.In h) (G:h.Ns mainGlobals mg)
  (a:PySem.W.nsIn K mainGlobals x=some (some (.ref f))) (l:K.lookup f=some ⟨oc,od,.func (PySem.W.fnOf x x (Zay st) (Zat st) (Zab st) (.ref T) kV doc pm an cdv ct),osl⟩)
  (c:PySem.W.codeIn K cdv x=true) (k:PySem.W.keepIn K (.ref f)=true) (d:K.lookup T=some ⟨c2,d2,.seq items n,s2⟩):Zkq K mg x st items :=
 ⟨f,_,⟨⟨oc,od,T,kV,doc,pm,an,cdv,ct,osl,_,n,rfl,l,c,d,rfl⟩,k⟩,PySem.W.mg_of X G a⟩
section
variable {P:Program} {w:World} {K:PySem.W.Frag} {mg:Str->Option Value} {base:Heap}
theorem FunD.fn {x qual:Str} {st:Stmt} {items:Array Value} {f:Addr} {fd:FuncData} {N ps:List Str} {k:Nat} {sp:Sp} (F:FunD K x qual st items f fd) (S:FnScope N ps (Zab st)) (len:∀ vs H Q E,sp vs H Q E->vs.length=ps.length)
  (hbody:∀ (cdv:Value) (A:Around) (outer:List Env) (s:Shared) (H:Hp) (vs:List V) (Q:VK) (E:XK),Room k (A.deeper (envOfC qual (Zab st) s.heap.objs.size f cdv))->sp vs H Q E ->
   ∃ t,PSs (cxOf CX0 P w K mg base N qual (Zab st) f cdv A outer s H E).nox (Zat st) t/\t { nx:=fun _ H'=>Q .non H',rt:=Q } (start N vs) H):FnOk P w K mg base CX0 (k+1) f fd ps sp:=by
 obtain ⟨oc,od,T,kV,doc,pm,an,cdv,ct,osl,o,n,rfl,lk,hcd,lt,ld⟩:=F.ex
 refine fn_of lk hcd S len fun A outer s H vs Q E hr hsp=>?_
 obtain ⟨t,h,q⟩:=hbody cdv A outer s H vs Q E hr hsp
 exact ⟨t,h.nox,q⟩
theorem FunD.binds {x qual:Str} {st:Stmt} {items:Array Value} {f:Addr} {fd:FuncData} {ps:List Str} (F:FunD K x qual st items f fd) (ds:List Value)
  (h:∀ (T:Addr) (kV doc pm:Value) (an:Option Addr) (cdv ct:Value) (us:List Value),(us++ds).length=ps.length->∃ k:Option (Array Value)->Sem (List (Str×Value)),bindArgs (PySem.W.fnOf x qual (Zay st) (Zat st) (Zab st) (.ref T) kV doc pm an cdv ct) ⟨us,[]⟩=seqItems? (.ref T) >>= k/\k (some items)=pure (ps.zip (us++ds))):Binds K fd ps ds:=by
 obtain ⟨oc,od,T,kV,doc,pm,an,cdv,ct,osl,o,n,rfl,lk,hcd,lt,ld⟩:=F.ex
 intro s us X hl
 obtain ⟨k,h1,h2⟩:=h T kV doc pm an cdv ct us hl
 exact BindsTo.of_defaults (fd:=PySem.W.fnOf x qual (Zay st) (Zat st) (Zab st) (.ref T) kV doc pm an cdv ct) rfl (X _ _ lt) ld h1 h2
end
end L2
namespace L2
open PySem PySem.Spec PyProof.Rows PySem.SeqAt
inductive Dt where
 | non
 | bl (b:Bool)
 | int (i:Int)
 | str (x:Str)
 | lst (ds:List Dt)
 | tup (ds:List Dt)
mutual
noncomputable def Dt.eq:Dt->Dt->Bool
 | .non,.non=>true
 | .bl a,.bl b=>a==b
 | .bl a,.int b=>(if a then 1 else 0)==b
 | .int a,.bl b=>a==(if b then 1 else 0)
 | .int a,.int b=>a==b
 | .str a,.str b=>a==b
 | .lst a,.lst b=>Dt.eqs a b
 | .tup a,.tup b=>Dt.eqs a b
 | _,_=>false
noncomputable def Dt.eqs:List Dt->List Dt->Bool
 | [],[]=>true
 | a::r,b::t=>Dt.eq a b&&Dt.eqs r t
 | _,_=>false
end
mutual
noncomputable def Dt.dep:Dt->Nat
 | .lst ds=>Dt.deps ds+1
 | .tup ds=>Dt.deps ds+1
 | _=>0
noncomputable def Dt.deps:List Dt->Nat
 | []=>0
 | d::r=>max (Dt.dep d) (Dt.deps r)
end
mutual
noncomputable def DV (K:PySem.W.Frag) (H:Hp):Dt->V->Prop
 | .non,v=>v=.non
 | .bl b,v=>v=.bl b
 | .int i,v=>v=.int i
 | .str x,v=>v=.str x
 | .lst ds,v=>∃ a xs,v=.ref a/\SqL K H a xs/\DVs K H ds xs
 | .tup ds,v=>∃ a xs,v=.ref a/\SqT K H a xs/\DVs K H ds xs
noncomputable def DVs (K:PySem.W.Frag) (H:Hp):List Dt->List V->Prop
 | [],xs=>xs=[]
 | d::r,xs=>∃ x t,xs=x::t/\DV K H d x/\DVs K H r t
end
theorem DVs.length {K:PySem.W.Frag} {H:Hp}:∀ {ds:List Dt} {xs:List V},DVs K H ds xs->ds.length=xs.length
 | [],xs,h=>by unfold DVs at h;subst h;rfl
 | d::r,xs,h=>by
  unfold DVs at h
  obtain ⟨x,t,rfl,_,h⟩:=h
  rw [List.length_cons,List.length_cons,DVs.length h]
theorem DVs.get {K:PySem.W.Frag} {H:Hp}:∀ {ds:List Dt} {xs:List V} {i:Nat} {d:Dt} {x:V},DVs K H ds xs->ds[i]?=some d->xs[i]?=some x->DV K H d x
 | [],xs,i,d,x,h,e,_=>by simp at e
 | d0::r,xs,i,d,x,h,e1,e2=>by
  unfold DVs at h
  obtain ⟨x0,t,rfl,h0,h⟩:=h
  cases i with
  | zero=>simp at e1 e2;subst e1 e2;exact h0
  | succ i=>exact DVs.get (i:=i) h (by simpa using e1) (by simpa using e2)
theorem Dt.dep_le:∀ {ds:List Dt} {i:Nat} {d:Dt},ds[i]?=some d->d.dep<=Dt.deps ds
 | [],i,d,e=>by simp at e
 | d0::r,i,d,e=>by
  unfold Dt.deps
  cases i with
  | zero=>simp at e;subst e;exact Nat.le_max_left _ _
  | succ i=>exact Nat.le_trans (Dt.dep_le (i:=i) (by simpa using e)) (Nat.le_max_right _ _)
theorem Dt.eqs_range:∀ (ds es:List Dt),ds.length=es.length->(List.range ds.length).all (fun j=>Dt.eq (ds.getD j .non) (es.getD j .non))=Dt.eqs ds es
 | [],[],_=>by unfold Dt.eqs;rfl
 | d::r,e::t,h=>by
  have ih:=Dt.eqs_range r t (by simpa using h)
  rw [List.length_cons,List.range_succ_eq_map,List.all_cons,List.all_map]
  unfold Dt.eqs
  rw [<- ih]
  rfl
 | [],_::_,h=>by simp at h
 | _::_,[],h=>by simp at h
theorem Dt.eqs_len:∀ (ds es:List Dt),ds.length≠es.length->Dt.eqs ds es=false
 | [],[],h=>absurd rfl h
 | d::r,e::t,h=>by
  unfold Dt.eqs
  rw [Dt.eqs_len r t (by simpa using h),Bool.and_false]
 | [],_::_,_=>by unfold Dt.eqs;rfl
 | _::_,[],_=>by unfold Dt.eqs;rfl
section
variable {X:Cx} {pins:List (Addr×Obj)} {σ:St} {H:Hp} {s:Shared}
theorem DV.same (I:Inv X pins σ H s):∀ (n:Nat) (d e:Dt) (x:V),d.dep<=n->DV X.K H d x->DV X.K H e x->Dt.eq d e=true:=by
 intro n
 induction n with
 | zero =>
  intro d e x hn h1 h2
  cases d with
  | lst ds=>unfold Dt.dep at hn;omega
  | tup ds=>unfold Dt.dep at hn;omega
  | non=>unfold DV at h1;subst h1;cases e<;>unfold DV at h2<;>first|(cases h2;done)|(obtain ⟨_,_,z,_⟩:=h2;cases z;done)|(unfold Dt.eq;rfl)
  | bl b=>unfold DV at h1;subst h1;cases e<;>unfold DV at h2<;>first|(cases h2;unfold Dt.eq;simp;done)|(obtain ⟨_,_,z,_⟩:=h2;cases z;done)|(cases h2;done)
  | int b=>unfold DV at h1;subst h1;cases e<;>unfold DV at h2<;>first|(cases h2;unfold Dt.eq;simp;done)|(obtain ⟨_,_,z,_⟩:=h2;cases z;done)|(cases h2;done)
  | str b=>unfold DV at h1;subst h1;cases e<;>unfold DV at h2<;>first|(cases h2;unfold Dt.eq;simp;done)|(obtain ⟨_,_,z,_⟩:=h2;cases z;done)|(cases h2;done)
 | succ n ih =>
  intro d e x hn h1 h2
  have lists:∀ (ds es:List Dt) (xs:List V),Dt.deps ds<=n->DVs X.K H ds xs->DVs X.K H es xs->Dt.eqs ds es=true:=by
   intro ds es xs hd a b
   have l1:=a.length
   have l2:=b.length
   rw [<- Dt.eqs_range ds es (l1.trans l2.symm),List.all_eq_true]
   intro j hj
   have hj':j<ds.length:=List.mem_range.mp hj
   have e1:ds[j]?=some ds[j]:=List.getElem?_eq_getElem hj'
   have e2:es[j]?=some (es[j]'(by omega)):=List.getElem?_eq_getElem (by omega)
   have e3:xs[j]?=some (xs[j]'(by omega)):=List.getElem?_eq_getElem (by omega)
   rw [List.getD_eq_getElem?_getD,List.getD_eq_getElem?_getD,e1,e2]
   exact ih _ _ _ (Nat.le_trans (Dt.dep_le e1) hd) (a.get e1 e3) (b.get e2 e3)
  cases d with
  | lst ds =>
   unfold Dt.dep at hn
   unfold DV at h1
   obtain ⟨a,xs,rfl,q1,r1⟩:=h1
   cases e with
   | lst es =>
    unfold DV at h2
    obtain ⟨b,ys,z,q2,r2⟩:=h2
    cases z
    rw [I.list_inj q2 q1] at r2
    unfold Dt.eq
    exact lists ds es xs (by omega) r1 r2
   | tup es =>
    unfold DV at h2
    obtain ⟨b,ys,z,q2,r2⟩:=h2
    cases z
    obtain ⟨i1,_,p1,_⟩:=I.list q1
    obtain ⟨i2,_,p2,_⟩:=I.tuple q2
    obtain ⟨o1,g1,c1,_⟩:=p1.isList
    have p2':s.heap.IsTuple a i2.toArray:=p2
    obtain ⟨o2,g2,c2,_⟩:=p2'
    rw [g1] at g2
    cases g2
    rw [c1] at c2
    exact absurd c2 (by decide)
   | non=>unfold DV at h2;cases h2
   | bl b=>unfold DV at h2;cases h2
   | int b=>unfold DV at h2;cases h2
   | str b=>unfold DV at h2;cases h2
  | tup ds =>
   unfold Dt.dep at hn
   unfold DV at h1
   obtain ⟨a,xs,rfl,q1,r1⟩:=h1
   cases e with
   | tup es =>
    unfold DV at h2
    obtain ⟨b,ys,z,q2,r2⟩:=h2
    cases z
    rw [I.tuple_inj q2 q1] at r2
    unfold Dt.eq
    exact lists ds es xs (by omega) r1 r2
   | lst es =>
    unfold DV at h2
    obtain ⟨b,ys,z,q2,r2⟩:=h2
    cases z
    obtain ⟨i1,_,p1,_⟩:=I.list q2
    obtain ⟨i2,_,p2,_⟩:=I.tuple q1
    obtain ⟨o1,g1,c1,_⟩:=p1.isList
    have p2':s.heap.IsTuple a i2.toArray:=p2
    obtain ⟨o2,g2,c2,_⟩:=p2'
    rw [g1] at g2
    cases g2
    rw [c1] at c2
    exact absurd c2 (by decide)
   | non=>unfold DV at h2;cases h2
   | bl b=>unfold DV at h2;cases h2
   | int b=>unfold DV at h2;cases h2
   | str b=>unfold DV at h2;cases h2
  | non=>exact ih _ e x (by unfold Dt.dep;omega) h1 h2
  | bl b=>exact ih _ e x (by unfold Dt.dep;omega) h1 h2
  | int b=>exact ih _ e x (by unfold Dt.dep;omega) h1 h2
  | str b=>exact ih _ e x (by unfold Dt.dep;omega) h1 h2
end
end L2
namespace L2
open PySem PySem.Spec PyProof.Rows PySem.SeqAt
section
variable {X:Cx} {pins:List (Addr×Obj)} {σ:St} {H:Hp} {s:Shared}
theorem ZgC {K:PySem.W.Frag} {ds:List Dt} {xs:List V} {its:List Value} (h:DVs K H ds xs) (rv:Vals xs its) {j:Nat} (hj:j<its.toArray.size):∃ d x,ds[j]?=some d/\xs[j]?=some x/\DV K H d x/\RelV x (its.toArray[j])/\ds.getD j .non=d:=by
 have hj':j<its.length:=by simpa using hj
 have l1:=h.length
 have l2:=rv.length
 have e1:ds[j]?=some (ds[j]'(by omega)):=List.getElem?_eq_getElem (by omega)
 have e2:xs[j]?=some (xs[j]'(by omega)):=List.getElem?_eq_getElem (by omega)
 obtain ⟨u,hu,ru⟩:=rv.get e2
 refine ⟨_,_,e1,e2,h.get e1 e2,?_,by rw [List.getD_eq_getElem?_getD,e1];rfl⟩
 have:its.toArray[j]=u:=by
  have q:its[j]?=some its[j]:=List.getElem?_eq_getElem hj'
  rw [q] at hu
  simpa using Option.some.inj hu
 rw [this]
 exact ru
theorem Zks (A:Around):A.in1.units=A.units+1:=rfl
theorem Zm8 (I:Inv X pins σ H s):∀ (n:Nat) (d e:Dt) (x y:V) (u v:Value) (A:Around),d.dep<=n->A.units+n<cLine->DV X.K H d x->DV X.K H e y->RelV x u->RelV y v ->
  EqAt A s u v (Dt.eq d e)/\RcAt A s u v (Dt.eq d e)/\RcNeAt A s u v (!Dt.eq d e):=by
 intro n
 induction n with
 | zero =>
  intro d e x y u v A hn hA h1 h2 r1 r2
  have hu:A.units<cLine:=by omega
  cases d with
  | lst ds=>unfold Dt.dep at hn;omega
  | tup ds=>unfold Dt.dep at hn;omega
  | non =>
   unfold DV at h1;subst h1;cases r1
   cases e<;>unfold DV at h2
   case lst es=>obtain ⟨a,xs,rfl,q,_⟩:=h2;cases r2;obtain ⟨its,_,p,_⟩:=I.list q;unfold Dt.eq;exact ⟨EqAt.none_list p.isList hu,RcAt.none_list p.isList hu,RcNeAt.none_list p.isList hu⟩
   case tup es=>obtain ⟨a,xs,rfl,q,_⟩:=h2;cases r2;obtain ⟨its,_,p,_⟩:=I.tuple q;unfold Dt.eq;exact ⟨EqAt.none_tuple (show s.heap.IsTuple a its.toArray from p) hu,RcAt.none_tuple (show s.heap.IsTuple a its.toArray from p) hu,RcNeAt.none_tuple (show s.heap.IsTuple a its.toArray from p) hu⟩
   case non=>subst h2;cases r2;unfold Dt.eq;exact ⟨EqAt.same _,RcAt.none_none,RcNeAt.none_none⟩
   case bl b=>subst h2;cases r2;unfold Dt.eq;exact ⟨EqAt.none_bool _,RcAt.none_bool _,RcNeAt.none_bool _⟩
   case int b=>subst h2;obtain ⟨t,rfl⟩:=r2;unfold Dt.eq;exact ⟨EqAt.none_int _ _,RcAt.none_int _ _,RcNeAt.none_int _ _⟩
   case str b=>subst h2;obtain ⟨t,rfl⟩:=r2;unfold Dt.eq;exact ⟨EqAt.none_str _ _,RcAt.none_str _ _,RcNeAt.none_str _ _⟩
  | bl b0 =>
   unfold DV at h1;subst h1;cases r1
   cases e<;>unfold DV at h2
   case lst es=>obtain ⟨a,xs,rfl,q,_⟩:=h2;cases r2;obtain ⟨its,_,p,_⟩:=I.list q;unfold Dt.eq;exact ⟨EqAt.bool_list _ p.isList hu,RcAt.bool_list _ p.isList hu,RcNeAt.bool_list _ p.isList hu⟩
   case tup es=>obtain ⟨a,xs,rfl,q,_⟩:=h2;cases r2;obtain ⟨its,_,p,_⟩:=I.tuple q;unfold Dt.eq;exact ⟨EqAt.bool_tuple _ (show s.heap.IsTuple a its.toArray from p) hu,RcAt.bool_tuple _ (show s.heap.IsTuple a its.toArray from p) hu,RcNeAt.bool_tuple _ (show s.heap.IsTuple a its.toArray from p) hu⟩
   case non=>subst h2;cases r2;unfold Dt.eq;exact ⟨EqAt.bool_none _,RcAt.bool_none _,RcNeAt.bool_none _⟩
   case bl b=>subst h2;cases r2;unfold Dt.eq;exact ⟨EqAt.bool_bool _ _,RcAt.bool_bool _ _,RcNeAt.bool_bool _ _⟩
   case int b=>subst h2;obtain ⟨t,rfl⟩:=r2;unfold Dt.eq;exact ⟨EqAt.bool_int _ _ _,RcAt.bool_int _ _ _,RcNeAt.bool_int _ _ _⟩
   case str b=>subst h2;obtain ⟨t,rfl⟩:=r2;unfold Dt.eq;exact ⟨EqAt.bool_str _ _ _,RcAt.bool_str _ _ _,RcNeAt.bool_str _ _ _⟩
  | int b0 =>
   unfold DV at h1;subst h1;obtain ⟨t0,rfl⟩:=r1
   cases e<;>unfold DV at h2
   case lst es=>obtain ⟨a,xs,rfl,q,_⟩:=h2;cases r2;obtain ⟨its,_,p,_⟩:=I.list q;unfold Dt.eq;exact ⟨EqAt.int_list _ _ p.isList hu,RcAt.int_list _ _ p.isList hu,RcNeAt.int_list _ _ p.isList hu⟩
   case tup es=>obtain ⟨a,xs,rfl,q,_⟩:=h2;cases r2;obtain ⟨its,_,p,_⟩:=I.tuple q;unfold Dt.eq;exact ⟨EqAt.int_tuple _ _ (show s.heap.IsTuple a its.toArray from p) hu,RcAt.int_tuple _ _ (show s.heap.IsTuple a its.toArray from p) hu,RcNeAt.int_tuple _ _ (show s.heap.IsTuple a its.toArray from p) hu⟩
   case non=>subst h2;cases r2;unfold Dt.eq;exact ⟨EqAt.int_none _ _,RcAt.int_none _ _,RcNeAt.int_none _ _⟩
   case bl b=>subst h2;cases r2;unfold Dt.eq;exact ⟨EqAt.int_bool _ _ _,RcAt.int_bool _ _ _,RcNeAt.int_bool _ _ _⟩
   case int b=>subst h2;obtain ⟨t,rfl⟩:=r2;unfold Dt.eq;exact ⟨EqAt.int_int _ _ _ _,RcAt.int_int _ _ _ _,RcNeAt.int_int _ _ _ _⟩
   case str b=>subst h2;obtain ⟨t,rfl⟩:=r2;unfold Dt.eq;exact ⟨EqAt.int_str _ _ _ _,RcAt.int_str _ _ _ _,RcNeAt.int_str _ _ _ _⟩
  | str b0 =>
   unfold DV at h1;subst h1;obtain ⟨t0,rfl⟩:=r1
   cases e<;>unfold DV at h2
   case lst es=>obtain ⟨a,xs,rfl,q,_⟩:=h2;cases r2;obtain ⟨its,_,p,_⟩:=I.list q;unfold Dt.eq;exact ⟨EqAt.str_list _ _ p.isList hu,RcAt.str_list _ _ p.isList hu,RcNeAt.str_list _ _ p.isList hu⟩
   case tup es=>obtain ⟨a,xs,rfl,q,_⟩:=h2;cases r2;obtain ⟨its,_,p,_⟩:=I.tuple q;unfold Dt.eq;exact ⟨EqAt.str_tuple _ _ (show s.heap.IsTuple a its.toArray from p) hu,RcAt.str_tuple _ _ (show s.heap.IsTuple a its.toArray from p) hu,RcNeAt.str_tuple _ _ (show s.heap.IsTuple a its.toArray from p) hu⟩
   case non=>subst h2;cases r2;unfold Dt.eq;exact ⟨EqAt.str_none _ _,RcAt.str_none _ _,RcNeAt.str_none _ _⟩
   case bl b=>subst h2;cases r2;unfold Dt.eq;exact ⟨EqAt.str_bool _ _ _,RcAt.str_bool _ _ _,RcNeAt.str_bool _ _ _⟩
   case int b=>subst h2;obtain ⟨t,rfl⟩:=r2;unfold Dt.eq;exact ⟨EqAt.str_int _ _ _ _,RcAt.str_int _ _ _ _,RcNeAt.str_int _ _ _ _⟩
   case str b=>subst h2;obtain ⟨t,rfl⟩:=r2;unfold Dt.eq;exact ⟨EqAt.str_str _ _ _ _,RcAt.str_str _ _ _ _,RcNeAt.str_str _ _ _ _⟩
 | succ n ih =>
  intro d e x y u v A hn hA h1 h2 r1 r2
  have hu:A.units<cLine:=by omega
  have wrap:∀ (a b:Addr),u=.ref a->v=.ref b->x=.ref a->y=.ref b->RcAt A s u v (Dt.eq d e)->EqAt A s u v (Dt.eq d e):=fun a b eu ev ex ey rc=>by
   subst eu ev ex ey
   by_cases hab:a=b
   .subst hab
    rw [DV.same I (n+1) d e (.ref a) hn h1 h2]
    exact EqAt.same _
   .exact EqAt.of_refs hab rc
  have items:∀ (ds es:List Dt) (xs ys:List V) (its jts:List Value),Dt.deps ds<=n->DVs X.K H ds xs->DVs X.K H es ys->Vals xs its->Vals ys jts ->
    ∀ j (g1:j<its.toArray.size) (g2:j<jts.toArray.size),EqAt A.in1 s its.toArray[j] jts.toArray[j] (Dt.eq (ds.getD j .non) (es.getD j .non)):=by
   intro ds es xs ys its jts hd a b ra rb j g1 g2
   obtain ⟨d',x',e1,_,v1,q1,z1⟩:=ZgC a ra g1
   obtain ⟨d'',x'',e2,_,v2,q2,z2⟩:=ZgC b rb g2
   rw [z1,z2]
   exact (ih d' d'' x' x'' _ _ A.in1 (Nat.le_trans (Dt.dep_le e1) hd) (by rw [Zks];omega) v1 v2 q1 q2).1
  cases d with
  | lst ds =>
   unfold Dt.dep at hn
   unfold DV at h1
   obtain ⟨a,xs,rfl,q1,w1⟩:=id h1
   cases r1
   obtain ⟨its,rv,p,_⟩:=I.list q1
   cases e with
   | lst es =>
    unfold DV at h2
    obtain ⟨b,ys,rfl,q2,w2⟩:=id h2
    cases r2
    obtain ⟨jts,rv2,p2,_⟩:=I.list q2
    have rcs:RcAt A s (.ref a) (.ref b) (Dt.eq (.lst ds) (.lst es))/\RcNeAt A s (.ref a) (.ref b) (!Dt.eq (.lst ds) (.lst es)):=by
     unfold Dt.eq
     have l1:its.toArray.size=ds.length:=by rw [List.size_toArray,<- rv.length,w1.length]
     have l2:jts.toArray.size=es.length:=by rw [List.size_toArray,<- rv2.length,w2.length]
     by_cases hl:ds.length=es.length
     .have hi:=items ds es xs ys its jts (by omega) w1 w2 rv rv2
      rw [<- Dt.eqs_range ds es hl,<- l1]
      exact ⟨RcAt.lists p.isList p2.isList (by omega) hu hi,RcNeAt.lists p.isList p2.isList (by omega) hu hi⟩
     .have hne:(its.toArray.size != jts.toArray.size)=true:=by rw [l1,l2];simpa using hl
      rw [Dt.eqs_len ds es hl]
      exact ⟨RcAt.lists_lengths p.isList p2.isList hne hu,RcNeAt.lists_lengths p.isList p2.isList hne hu⟩
    exact ⟨wrap a b rfl rfl rfl rfl rcs.1,rcs⟩
   | tup es =>
    unfold DV at h2
    obtain ⟨b,ys,rfl,q2,w2⟩:=id h2
    cases r2
    obtain ⟨jts,rv2,p2,_⟩:=I.tuple q2
    have p2':s.heap.IsTuple b jts.toArray:=p2
    unfold Dt.eq
    exact ⟨EqAt.list_tuple p.isList p2' hu,RcAt.list_tuple p.isList p2' hu,RcNeAt.list_tuple p.isList p2' hu⟩
   | non=>unfold DV at h2;subst h2;cases r2;unfold Dt.eq;exact ⟨EqAt.list_none p.isList hu,RcAt.list_none p.isList hu,RcNeAt.list_none p.isList hu⟩
   | bl b=>unfold DV at h2;subst h2;cases r2;unfold Dt.eq;exact ⟨EqAt.list_bool _ p.isList hu,RcAt.list_bool _ p.isList hu,RcNeAt.list_bool _ p.isList hu⟩
   | int b=>unfold DV at h2;subst h2;obtain ⟨t,rfl⟩:=r2;unfold Dt.eq;exact ⟨EqAt.list_int _ _ p.isList hu,RcAt.list_int _ _ p.isList hu,RcNeAt.list_int _ _ p.isList hu⟩
   | str b=>unfold DV at h2;subst h2;obtain ⟨t,rfl⟩:=r2;unfold Dt.eq;exact ⟨EqAt.list_str _ _ p.isList hu,RcAt.list_str _ _ p.isList hu,RcNeAt.list_str _ _ p.isList hu⟩
  | tup ds =>
   unfold Dt.dep at hn
   unfold DV at h1
   obtain ⟨a,xs,rfl,q1,w1⟩:=id h1
   cases r1
   obtain ⟨its,rv,p0,_⟩:=I.tuple q1
   have p:s.heap.IsTuple a its.toArray:=p0
   cases e with
   | tup es =>
    unfold DV at h2
    obtain ⟨b,ys,rfl,q2,w2⟩:=id h2
    cases r2
    obtain ⟨jts,rv2,p20,_⟩:=I.tuple q2
    have p2:s.heap.IsTuple b jts.toArray:=p20
    have l1:its.toArray.size=ds.length:=by rw [List.size_toArray,<- rv.length,w1.length]
    have l2:jts.toArray.size=es.length:=by rw [List.size_toArray,<- rv2.length,w2.length]
    have hi:=items ds es xs ys its jts (by omega) w1 w2 rv rv2
    have ev:((List.range (min its.toArray.size jts.toArray.size)).all (fun j=>Dt.eq (ds.getD j .non) (es.getD j .non))&&its.toArray.size==jts.toArray.size)=Dt.eqs ds es:=by
     rw [l1,l2]
     by_cases hl:ds.length=es.length
     .rw [<- Dt.eqs_range ds es hl,hl,Nat.min_self]
      simp
     .rw [Dt.eqs_len ds es hl]
      simp [hl]
    have rcs:RcAt A s (.ref a) (.ref b) (Dt.eq (.tup ds) (.tup es))/\RcNeAt A s (.ref a) (.ref b) (!Dt.eq (.tup ds) (.tup es)):=by
     unfold Dt.eq
     rw [<- ev]
     exact ⟨RcAt.tuples p p2 hu hi,RcNeAt.tuples p p2 hu hi⟩
    exact ⟨wrap a b rfl rfl rfl rfl rcs.1,rcs⟩
   | lst es =>
    unfold DV at h2
    obtain ⟨b,ys,rfl,q2,w2⟩:=id h2
    cases r2
    obtain ⟨jts,rv2,p2,_⟩:=I.list q2
    unfold Dt.eq
    exact ⟨EqAt.tuple_list p p2.isList hu,RcAt.tuple_list p p2.isList hu,RcNeAt.tuple_list p p2.isList hu⟩
   | non=>unfold DV at h2;subst h2;cases r2;unfold Dt.eq;exact ⟨EqAt.tuple_none p hu,RcAt.tuple_none p hu,RcNeAt.tuple_none p hu⟩
   | bl b=>unfold DV at h2;subst h2;cases r2;unfold Dt.eq;exact ⟨EqAt.tuple_bool _ p hu,RcAt.tuple_bool _ p hu,RcNeAt.tuple_bool _ p hu⟩
   | int b=>unfold DV at h2;subst h2;obtain ⟨t,rfl⟩:=r2;unfold Dt.eq;exact ⟨EqAt.tuple_int _ _ p hu,RcAt.tuple_int _ _ p hu,RcNeAt.tuple_int _ _ p hu⟩
   | str b=>unfold DV at h2;subst h2;obtain ⟨t,rfl⟩:=r2;unfold Dt.eq;exact ⟨EqAt.tuple_str _ _ p hu,RcAt.tuple_str _ _ p hu,RcNeAt.tuple_str _ _ p hu⟩
  | non=>exact ih _ e x y u v A (by unfold Dt.dep;omega) (by omega) h1 h2 r1 r2
  | bl b=>exact ih _ e x y u v A (by unfold Dt.dep;omega) (by omega) h1 h2 r1 r2
  | int b=>exact ih _ e x y u v A (by unfold Dt.dep;omega) (by omega) h1 h2 r1 r2
  | str b=>exact ih _ e x y u v A (by unfold Dt.dep;omega) (by omega) h1 h2 r1 r2
end
noncomputable def rEqD (K:PySem.W.Frag):R2:=fun x y H Q=>∃ d e,DV K H d x/\DV K H e y/\d.dep<=64/\Q (.bl (Dt.eq d e)) H
noncomputable def rNeD (K:PySem.W.Frag):R2:=fun x y H Q=>∃ d e,DV K H d x/\DV K H e y/\d.dep<=64/\Q (.bl (!Dt.eq d e)) H
section
variable {X:Cx}
theorem op_eqD (hu:X.A.units+64<cLine):OpR X (compareOp .Eq) (rEqD X.K):=by
 intro pins s σ H x y v u Q I rx ry h
 obtain ⟨d,e,h1,h2,hd,q⟩:=h
 exact (Zm8 I 64 d e x y v u X.A hd hu h1 h2 rx ry).2.1 _ _ _ _ ⟨.bl (Dt.eq d e),H,I,rfl,q⟩
theorem Zkt (hu:X.A.units+64<cLine):OpR X (compareOp .NotEq) (rNeD X.K):=by
 intro pins s σ H x y v u Q I rx ry h
 obtain ⟨d,e,h1,h2,hd,q⟩:=h
 exact (Zm8 I 64 d e x y v u X.A hd hu h1 h2 rx ry).2.2 _ _ _ _ ⟨.bl (!Dt.eq d e),H,I,rfl,q⟩
end
noncomputable def Dt.ints (ns:List Int):List Dt:=ns.map Dt.int
theorem ZiG {K:PySem.W.Frag} {H:Hp}:∀ ns:List Int,DVs K H (Dt.ints ns) (ns.map V.int)
 | []=>by unfold Dt.ints DVs;rfl
 | n::r=>by
  show DVs K H (Dt.int n::Dt.ints r) (V.int n::r.map V.int)
  unfold DVs
  exact ⟨_,_,rfl,by unfold DV;rfl,ZiG r⟩
theorem Zl2 {K:PySem.W.Frag} {H:Hp} {a:Addr} {ns:List Int} (h:SqL K H a (ns.map V.int)):DV K H (.lst (Dt.ints ns)) (.ref a):=by unfold DV;exact ⟨a,_,rfl,h,ZiG ns⟩
section
variable {H:Hp} {Q:VK} {K:PySem.W.Frag} {a b:Addr}
end
mutual
theorem DV.keep {K:PySem.W.Frag} {H H':Hp} (s:Same H H'):∀ {d:Dt} {v:V},DV K H d v->DV K H' d v
 | .non,v,h=>by unfold DV at h |-;exact h
 | .bl b,v,h=>by unfold DV at h |-;exact h
 | .int i,v,h=>by unfold DV at h |-;exact h
 | .str x,v,h=>by unfold DV at h |-;exact h
 | .lst ds,v,h=>by
  unfold DV at h |-
  obtain ⟨a,xs,e,q,r⟩:=h
  exact ⟨a,xs,e,s.seq q,DVs.keep s r⟩
 | .tup ds,v,h=>by
  unfold DV at h |-
  obtain ⟨a,xs,e,q,r⟩:=h
  exact ⟨a,xs,e,s.tup q,DVs.keep s r⟩
theorem DVs.keep {K:PySem.W.Frag} {H H':Hp} (s:Same H H'):∀ {ds:List Dt} {xs:List V},DVs K H ds xs->DVs K H' ds xs
 | [],xs,h=>by unfold DVs at h |-;exact h
 | d::r,xs,h=>by
  unfold DVs at h |-
  obtain ⟨x,t,e,h1,h2⟩:=h
  exact ⟨x,t,e,DV.keep s h1,DVs.keep s h2⟩
end
end L2
namespace L2
open PySem PySem.Spec PyProof.Rows Builtin Builtin.Str
end L2
namespace L2
open PySem PySem.Spec PyProof.Rows Builtin Builtin.Str
noncomputable abbrev RM:=V->List V->Hp->VK->Prop
section
variable {X:Cx}
variable {o e:Expr} {es:List Expr} {to:TE} {t:TA} {apos cpos:Pos}
end
section
variable {X:Cx} {H:Hp} {Q:VK} {K:PySem.W.Frag} {z y:Str} {p:Addr} {ts:List Str}
end
end L2
namespace L2
open PySem PySem.Spec PyProof.Rows Builtin Builtin.Str
end L2
namespace L2
open PySem PySem.Spec PyProof.Rows Builtin Builtin.Str
noncomputable def rIsN:R2:=fun x y H Q=>y=.non/\Q (.bl (decide (x=.non))) H
section
variable {X:Cx} {σ:St} {H:Hp} {Q:VK} {K:PySem.W.Frag} {z y:Str} {R:Prop}
theorem Zes:OpR X (compareOp .Is) rIsN:=op_isN
theorem ZnU (q:Q (.bl true) H):rIsN .non .non H Q:=⟨rfl,by rw [decide_eq_true rfl];exact q⟩
theorem ZnV {p:Addr} (q:Q (.bl false) H):rIsN (.ref p) .non H Q:=⟨rfl,by rw [decide_eq_false (fun e=>nomatch e)];exact q⟩
end
theorem Zl3 {α:Type} {xs:List α} {i:Int} (h0:0<=i) (h:i<xs.length):∃ c,atI xs i=some c/\xs[i.toNat]?=some c:=by
 have hl:i.toNat<xs.length:=by omega
 exact ⟨xs[i.toNat],ZcI (i:=i.toNat) (by simp [hl]) (by omega),by simp [hl]⟩
section
variable {H:Hp} {Q:VK} {z y:Str} {i:Int} {lo hi:Option Int}
end
noncomputable def Zku (K:PySem.W.Frag):RC:=fun xs H Q=>∃ p ys,xs=[.ref p]/\(SqL K H p ys\/SqT K H p ys)/\∀ l,H l=none->Q (.ref l) (upd H l (.lst ys))
theorem Zkv {X:Cx}:CallR X (.type "list") (Zku X.K):=Zgq
section
variable {H:Hp} {Q:VK} {K:PySem.W.Frag} {p:Addr} {xs:List V}
theorem ZfB (h:SqL K H p xs) (q:∀ l,H l=none->Q (.ref l) (upd H l (.lst xs))):Zku K [.ref p] H Q:=⟨p,xs,rfl,.inl h,q⟩
end
structure ClsF (K:PySem.W.Frag) (mg:Str->Option Value) (x:Str) (C:Addr):Prop where
 cl:Cls K C
 ms:PySem.W.makesIn K C=true
 kc:PySem.W.keepIn K (.ref C)=true
 mgC:mg x=some (.ref C)
noncomputable def Zan (K:PySem.W.Frag) (C:Addr) (m qual:Str) (st:Stmt):Prop:=∃ f fd,Fun K m qual st f fd/\PySem.W.findIn K (.ref C) m=some (some (.ref f))/\PySem.W.isFn K (.ref f)=true
noncomputable def MCal (P:Program) (w:World) (K:PySem.W.Frag) (mg:Str->Option Value) (base:Heap) (k:Nat) (C:Addr) (m:Str) (sp:Sp):Prop :=
 Cls K C/\∃ f fd ps,Meth K C m f/\FnOk P w K mg base CX0 k f fd ps sp/\Binds K fd ps []
noncomputable def ICal (P:Program) (w:World) (K:PySem.W.Frag) (mg:Str->Option Value) (base:Heap) (k:Nat) (x:Str) (C:Addr) (sp:Sp):Prop :=
 mg x=some (.ref C)/\∃ f fd ps,Mk K C f/\FnOk P w K mg base CX0 k f fd ps sp/\Binds K fd ps []
section
variable {P:Program} {w:World} {K:PySem.W.Frag} {mg:Str->Option Value} {base:Heap}
theorem ZaE {C:Addr} {m qual:Str} {st:Stmt} {f:Addr} {oc:Value} {od an:Option Addr} {osl:Array (Option Value)} {kV doc pm cdv ct:Value}
  (a:PySem.W.findIn K (.ref C) m=some (some (.ref f))) (i:PySem.W.isFn K (.ref f)=true) (l:K.lookup f=some ⟨oc,od,.func (PySem.W.fnOf m qual (Zay st) (Zat st) (Zab st) .none kV doc pm an cdv ct),osl⟩)
  (c:PySem.W.codeIn K cdv qual=true) (k:PySem.W.keepIn K (.ref f)=true):Zan K C m qual st:=⟨f,_,Zm5 l c k,a,i⟩
theorem Za5 {C:Addr} {m qual:Str} {st:Stmt} {N ps:List Str} {k:Nat} {sp:Sp} (D:Zan K C m qual st) (c:Cls K C) (S:FnScope N ps (Zab st)) (len:∀ vs H Q E,sp vs H Q E->vs.length=ps.length)
  (hb:∀ (kV doc pm:Value) (an:Option Addr) (cdv ct:Value) (us:List Value),us.length=ps.length->bindArgs (PySem.W.fnOf m qual (Zay st) (Zat st) (Zab st) .none kV doc pm an cdv ct) ⟨us,[]⟩=pure (ps.zip us))
  (hbody:∀ (f:Addr) (cdv:Value) (A:Around) (outer:List Env) (s:Shared) (H:Hp) (vs:List V) (Q:VK) (E:XK),Room k (A.deeper (envOfC qual (Zab st) s.heap.objs.size f cdv))->sp vs H Q E ->
   ∃ t,PSs (cxOf CX0 P w K mg base N qual (Zab st) f cdv A outer s H E).nox (Zat st) t/\t { nx:=fun _ H'=>Q .non H',rt:=Q } (start N vs) H):MCal P w K mg base (k+1) C m sp:=by
 obtain ⟨f,fd,F,a,i⟩:=D
 exact ⟨c,f,fd,ps,⟨a,i,F.kp⟩,F.ok S len (hbody f),F.binds hb⟩
theorem Zet {C:Addr} {x qual:Str} {st:Stmt} {N ps:List Str} {k:Nat} {sp:Sp} (D:Zan K C "__init__" qual st) (c:ClsF K mg x C) (S:FnScope N ps (Zab st)) (len:∀ vs H Q E,sp vs H Q E->vs.length=ps.length)
  (hb:∀ (kV doc pm:Value) (an:Option Addr) (cdv ct:Value) (us:List Value),us.length=ps.length->bindArgs (PySem.W.fnOf "__init__" qual (Zay st) (Zat st) (Zab st) .none kV doc pm an cdv ct) ⟨us,[]⟩=pure (ps.zip us))
  (hbody:∀ (f:Addr) (cdv:Value) (A:Around) (outer:List Env) (s:Shared) (H:Hp) (vs:List V) (Q:VK) (E:XK),Room k (A.deeper (envOfC qual (Zab st) s.heap.objs.size f cdv))->sp vs H Q E ->
   ∃ t,PSs (cxOf CX0 P w K mg base N qual (Zab st) f cdv A outer s H E).nox (Zat st) t/\t { nx:=fun _ H'=>Q .non H',rt:=Q } (start N vs) H):ICal P w K mg base (k+1) x C sp:=by
 obtain ⟨f,fd,F,a,i⟩:=D
 exact ⟨c.mgC,f,fd,ps,⟨c.ms,a,i,c.kc⟩,F.ok S len (hbody f),F.binds hb⟩
theorem MCal.mono {j k:Nat} {C:Addr} {m:Str} {sp:Sp} (c:MCal P w K mg base j C m sp) (h:j<=k):MCal P w K mg base k C m sp :=
 let ⟨cl,f,fd,ps,M,F,b⟩:=c
 ⟨cl,f,fd,ps,M,F.mono h,b⟩
end
section
variable {X:Cx} {k:Nat} {C:Addr} {sp:Sp} {x m:Str} {p pos apos:Pos} {e o:Expr} {es:List Expr} {ta:TE} {t:TA}
theorem ZaN {pl:Sem Bool} (c:MCal X.prog X.w X.K X.mg X.base k C m sp) (hr:Room k X.A) (he:PE X o ta) (ha:PA X (e::es) t)
  (hst:starEach (e::es) X.env=(false,eval e X.env)::starEach es X.env:=by rfl) (hpl:(backTo pos (starEach es X.env)).any (·.1)=false:=by rfl)
  (ht:eval (.Call (.Attribute o m apos) (e::es) [] pos) X.env=(do
   let ov <- eval o X.env
   standAt apos.atName
   let (f,first) <- holding [ov] (getMethod ov m pl)
   callWith pos f first (backTo pos (starEach (e::es) X.env)) (backToKw pos (keywordEach [] X.env))):=by rfl) :
  PE X (.Call (.Attribute o m apos) (e::es) [] pos) (tMeth C m sp [] E0 ta t):=by
 obtain ⟨cl,f,fd,ps,M,F,b⟩:=c
 exact Znv he cl M F hr b .nil pass0 ha hst hpl ht
theorem ZbT {pl:Sem Bool} (c:MCal X.prog X.w X.K X.mg X.base k C m sp) (hr:Room k X.A) (he:PE X o ta)
  (ht:eval (.Call (.Attribute o m apos) [] [] pos) X.env=(do
   let ov <- eval o X.env
   standAt apos.atName
   let (f,first) <- holding [ov] (getMethod ov m pl)
   callWith pos f first (backTo pos (starEach [] X.env)) (backToKw pos (keywordEach [] X.env))):=by rfl) :
  PE X (.Call (.Attribute o m apos) [] [] pos) (tMeth C m sp [] E0 ta tNil):=by
 obtain ⟨cl,f,fd,ps,M,F,b⟩:=c
 exact ZlH he cl M F hr b .nil pass0 ht
theorem Zdt (c:ICal X.prog X.w X.K X.mg X.base k x C sp) (hr:Room (k+1) X.A) (hg:Gl X x) (ha:PA X (e::es) t) (hdb:(x==("__debug__" : Str))=false:=by decide)
  (he:starEach (e::es) X.env=(false,eval e X.env)::starEach es X.env:=by rfl) (hpl:(backTo pos (starEach es X.env)).any (·.1)=false:=by rfl) :
  PE X (.Call (.Name x p) (e::es) [] pos) (tMake C sp [] E0 t):=by
 obtain ⟨m,f,fd,ps,M,F,b⟩:=c
 exact ZjW M F hr hg m b .nil pass0 ha hdb he hpl
noncomputable def tMethD (T:Addr->Sp->Prop) (m:Str) (ta:TE) (t:TA):TE:=fun σ H Q=>ta σ H fun x H1=>∃ a C dx fs sp,x=.ref a/\H1 a=some (.ins C dx fs)/\fs.lookup m=none/\T C sp/\t σ H1 fun vs H2=>sp (x::vs) H2 Q E0
theorem ZiH {pl:Sem Bool} {T:Addr->Sp->Prop} (c:∀ C sp,T C sp->MCal X.prog X.w X.K X.mg X.base k C m sp) (hr:Room k X.A) (he:PE X o ta) (ha:PA X (e::es) t)
  (hst:starEach (e::es) X.env=(false,eval e X.env)::starEach es X.env:=by rfl) (hpl:(backTo pos (starEach es X.env)).any (·.1)=false:=by rfl)
  (ht:eval (.Call (.Attribute o m apos) (e::es) [] pos) X.env=(do
   let ov <- eval o X.env
   standAt apos.atName
   let (f,first) <- holding [ov] (getMethod ov m pl)
   callWith pos f first (backTo pos (starEach (e::es) X.env)) (backToKw pos (keywordEach [] X.env))):=by rfl) :
  PE X (.Call (.Attribute o m apos) (e::es) [] pos) (tMethD T m ta t):=by
 intro pins s σ H Q I h
 refine PySem.W.methodCall_KW (pl:=pl) (thn (he pins s σ H _ I h) fun u s1 ⟨x,H1,I1,rx,a,C,dx,fs,sp,ex,ea,l,hT,q⟩=>?_) ht
 obtain ⟨cl,f,fd,ps,M,F,b⟩:=c C sp hT
 subst ex
 obtain rfl:u=Value.ref a:=rx
 refine Zb9 I1 ea cl M l ?_
 refine PySem.W.callWith_K (first:=[.ref a]) (h₀:=X.base) I.ok.mod.kin M.kp (thn (ha pos pins s1 σ H1 _ I1 q) fun us s2 ⟨vs,H2,I2,r,q2⟩=>⟨I2.kIn,?_⟩) hst hpl
 exact Zfi (us:=.ref a::us) (vs:=.ref a::vs) (dvs:=[]) (E:=E0) F hr b .nil pass0 I2 (.cons rfl r) (by rw [List.append_nil];exact q2)
theorem ZgD {pl:Sem Bool} {T:Addr->Sp->Prop} (c:∀ C sp,T C sp->MCal X.prog X.w X.K X.mg X.base k C m sp) (hr:Room k X.A) (he:PE X o ta)
  (ht:eval (.Call (.Attribute o m apos) [] [] pos) X.env=(do
   let ov <- eval o X.env
   standAt apos.atName
   let (f,first) <- holding [ov] (getMethod ov m pl)
   callWith pos f first (backTo pos (starEach [] X.env)) (backToKw pos (keywordEach [] X.env))):=by rfl) :
  PE X (.Call (.Attribute o m apos) [] [] pos) (tMethD T m ta tNil):=by
 intro pins s σ H Q I h
 refine PySem.W.methodCall_KW (pl:=pl) (thn (he pins s σ H _ I h) fun u s1 ⟨x,H1,I1,rx,a,C,dx,fs,sp,ex,ea,l,hT,q⟩=>?_) ht
 obtain ⟨cl,f,fd,ps,M,F,b⟩:=c C sp hT
 subst ex
 obtain rfl:u=Value.ref a:=rx
 refine Zb9 I1 ea cl M l ?_
 exact PySem.W.callWith_K0 (first:=[.ref a]) I1.kIn M.kp (Zfi (us:=[.ref a]) (vs:=[.ref a]) (dvs:=[]) (E:=E0) F hr b .nil pass0 I1 (.cons rfl .nil) q)
end
section
variable {σ:St} {H:Hp} {Q:VK} {K:PySem.W.Frag} {a C dx:Addr} {fs:List (Str×V)} {f m:Str} {v:V} {D:Ends} {sp:Sp}
theorem rd_fld {ta:TE} (q:ta σ H fun x H1=>∃ a C dx fs v,x=.ref a/\H1 a=some (.ins C dx fs)/\Cls K C/\NoAttr K C f/\fs.lookup f=some v/\Q v H1):tFld K ta f σ H Q:=q
theorem Zah {R:V->Prop} (h:H a=some (.ins C dx fs)) (c:Cls K C) (n:NoAttr K C f) (l:fs.lookup f=some v) (q:R v):∃ a' C dx fs v,V.ref a=.ref a'/\H a'=some (.ins C dx fs)/\Cls K C/\NoAttr K C f/\fs.lookup f=some v/\R v:=⟨a,C,dx,fs,v,rfl,h,c,n,l,q⟩
theorem ZnW {ta tv:TE} (q:tv σ H fun y H1=>ta σ H1 fun x H2=>∃ a C dx fs,x=.ref a/\H2 a=some (.ins C dx fs)/\Cls K C/\NoAttr K C f/\fs.length<1000/\D.nx σ (upd H2 a (.ins C dx (putF f y fs)))):sFld K ta tv f D σ H:=q
theorem Zaw {R:Hp->Prop} {y:V} (h:H a=some (.ins C dx fs)) (c:Cls K C) (n:NoAttr K C f) (l:fs.length<1000) (q:R (upd H a (.ins C dx (putF f y fs)))):∃ a' C dx fs,V.ref a=.ref a'/\H a'=some (.ins C dx fs)/\Cls K C/\NoAttr K C f/\fs.length<1000/\R (upd H a' (.ins C dx (putF f y fs))):=⟨a,C,dx,fs,rfl,h,c,n,l,q⟩
theorem ZnX {ta:TE} {t:TA} (q:ta σ H fun x H1=>∃ a dx fs,x=.ref a/\H1 a=some (.ins C dx fs)/\fs.lookup m=none/\t σ H1 fun vs H2=>sp (x::(vs++[])) H2 Q E0):tMeth C m sp [] E0 ta t σ H Q:=q
theorem Zam {R:Prop} (h:H a=some (.ins C dx fs)) (l:fs.lookup m=none) (q:R):∃ a' dx fs,V.ref a=.ref a'/\H a'=some (.ins C dx fs)/\fs.lookup m=none/\R:=⟨a,dx,fs,rfl,h,l,q⟩
theorem Zl4 (q:∀ p,H p=none->Q (.ref p) (upd H p (.dK []))):tDNewK σ H Q:=q
theorem Zl5 {td ty tx:TE} (q:td σ H fun x H1=>∃ a,x=.ref a/\IsD H1 a/\ty σ H1 fun y H2=>tx σ H2 fun z H3=>∃ o,DGet H3 a y o/\Q (o.getD z) H3):tDGet2 td ty tx σ H Q:=q
theorem isD_k {kvs:List (Key×V)} (h:H a=some (.dK kvs)):IsD H a:=.inl ⟨kvs,.inl h⟩
end
section
variable {σ:St} {H:Hp} {Q:VK} {a:Addr} {kvs:List (Key×V)} {k:Key} {v:V} {R:Prop}
theorem ZnY {td ty:TE} (q:td σ H fun x H1=>ty σ H1 fun y H2=>∃ a v,x=.ref a/\DGet H2 a y (some v)/\Q v H2):tDGet td ty σ H Q:=q
theorem ZnZ {td ty tv:TE} {D:Ends} (q:tv σ H fun v H1=>td σ H1 fun x H2=>ty σ H2 fun y H3=>∃ a H4,x=.ref a/\DPut H3 a y v H4/\D.nx σ H4):sDPut td ty tv D σ H:=q
theorem Zl6 {S:Hp->Prop} {i:Int} (h:H a=some (.dK kvs)) (hl:kvs.length<sizeLine) (q:S (upd H a (.dK (putK kvs (Sum.inl i) v)))):∃ a' H4,V.ref a=.ref a'/\DPut H a' (.int i) v H4/\S H4:=⟨a,_,rfl,DPut.k (k:=Sum.inl i) h hl,q⟩
end
theorem SqL.updI {K:PySem.W.Frag} {H:Hp} {a p C dx:Addr} {fs:List (Str×V)} {xs:List V} {o:HO} (h:SqL K H a xs) (n:H p=some (.ins C dx fs)):SqL K (upd H p o) a xs:=by
 rcases h with (h|⟨ob,h⟩)|h
 .exact .inl (.inl (by rw [Zai (Zbl h n (by intro z;cases z))];exact h))
 .exact .inl (.inr ⟨ob,by rw [Zai (Zbl h n (by intro z;cases z))];exact h⟩)
 .exact .inr h
theorem Same.wr {H H':Hp} {l:Addr} {o:HO} (s:Same H H') (n:H l=none):Same H (upd H' l o):=fun b u e=>by rw [Zai (Zaj e n)];exact s b u e
theorem Same.fresh {H H':Hp} {q:Addr} (s:Same H H') (hq:H' q=none):H q=none:=by
 cases e:H q with
 | none=>rfl
 | some o=>rw [s _ _ e] at hq;cases hq
section
variable {σ:St} {H:Hp} {p:Addr}
end
section
variable {σ:St} {H:Hp} {p:Addr} {xs:List V} {v:V}
theorem Zn0 {to ti:TE} {t:TSet} {Q:St->Hp->Prop} (q:to σ H fun o H1=>ti σ H1 fun i H2=>t o i v H2 fun H3=>Q σ H3):gSub to ti t v σ H Q:=q
theorem Zeu {Q:Hp->Prop} {k:Int} {j:Nat} (h:H p=some (.lst xs)) (hj:ixN xs.length k=some j) (q:Q (upd H p (.lst (xs.set j v)))):rSetL (.ref p) (.int k) v H Q:=⟨p,xs,k,j,rfl,rfl,h,hj,q⟩
theorem ZfC {n j:Nat} {k:Int} (e:k=(j:Int)) (h:j<n):ixN n k=some j:=by
 unfold ixN
 rw [if_pos (by omega),if_pos (by omega),e,Int.toNat_natCast]
theorem Zkw {n j:Nat} {k:Int} (hk:k<0) (e:k+n=(j:Int)):ixN n k=some j:=by
 unfold ixN
 rw [if_neg (by omega),if_pos (by omega),e,Int.toNat_natCast]
end
section
variable {σ:St} {H:Hp} {p a:Addr} {K:PySem.W.Frag} {xs:List V}
end
mutual
theorem Dt.eq_self:∀ d:Dt,Dt.eq d d=true
 | .non=>by unfold Dt.eq;rfl
 | .bl b=>by unfold Dt.eq;exact beq_self_eq_true b
 | .int i=>by unfold Dt.eq;exact beq_self_eq_true i
 | .str x=>by unfold Dt.eq;exact beq_self_eq_true x
 | .lst ds=>by unfold Dt.eq;exact Dt.eqs_self ds
 | .tup ds=>by unfold Dt.eq;exact Dt.eqs_self ds
theorem Dt.eqs_self:∀ ds:List Dt,Dt.eqs ds ds=true
 | []=>by unfold Dt.eqs;rfl
 | d::r=>by unfold Dt.eqs;rw [Dt.eq_self d,Dt.eqs_self r];rfl
end
section
variable {K:PySem.W.Frag} {H:Hp} {Q:VK} {x y:V} {d:Dt}
theorem Zn1 (h1:DV K H d x) (h2:DV K H d y) (hd:d.dep<=64) (q:Q (.bl true) H):rEqD K x y H Q:=⟨d,d,h1,h2,hd,by rw [Dt.eq_self];exact q⟩
theorem ZhI (h1:DV K H d x) (h2:DV K H d y) (hd:d.dep<=64) (q:Q (.bl false) H):rNeD K x y H Q:=⟨d,d,h1,h2,hd,by rw [Dt.eq_self];exact q⟩
theorem ZbH {i:Int}:DV K H (.int i) (.int i):=by unfold DV;rfl
theorem Zev {i:Str}:DV K H (.str i) (.str i):=by unfold DV;rfl
theorem ZbI:DVs K H [] []:=by unfold DVs;rfl
theorem ZaI {d:Dt} {r:List Dt} {x:V} {t:List V} (h:DV K H d x) (h2:DVs K H r t):DVs K H (d::r) (x::t):=by unfold DVs;exact ⟨x,t,rfl,h,h2⟩
theorem ZgE {a:Addr} {xs:List V} {ds:List Dt} (h:SqT K H a xs) (h2:DVs K H ds xs):DV K H (.tup ds) (.ref a):=by unfold DV;exact ⟨a,xs,rfl,h,h2⟩
theorem ZgF {a:Addr} {xs:List V} {ds:List Dt} (h:SqL K H a xs) (h2:DVs K H ds xs):DV K H (.lst ds) (.ref a):=by unfold DV;exact ⟨a,xs,rfl,h,h2⟩
end
theorem Zn2 {K:PySem.W.Frag} {H:Hp} {p:Addr} {xs:List V} {Q:VK} {n:Nat} (h:SqL K H p xs) (e:xs.length=n) (q:Q (.int n) H):rLenS K [.ref p] H Q:=Zkk h (by rw [e];exact q)
theorem Zjh {ns:List V} {m n:Nat}:cutV ns (some (m:Int)) (some (n:Int))=(ns.drop m).take (n-m):=by
 have e:HT.sIx ns.length ns.length (some (n:Int))=min n ns.length:=by
  unfold HT.sIx
  simp only []
  split<;>omega
 have e0:HT.sIx ns.length 0 (some (m:Int))=min m ns.length:=by
  unfold HT.sIx
  simp only []
  split<;>omega
 unfold cutV
 rw [e,e0]
 by_cases h:m<=ns.length
 .rw [Nat.min_eq_left h,List.take_eq_take_iff,List.length_drop]
  omega
 .rw [Nat.min_eq_right (show ns.length<=m by omega),List.drop_length,List.drop_eq_nil_of_le (show ns.length<=m by omega),List.take_nil,List.take_nil]
theorem Zl7 {σ σ':St} {H:Hp} {i:Nat} {v:V} {R:St->Hp->Prop} (e:σ.set i (some v)=σ') (q:R σ' H):gName i v σ H R:=by subst e;exact q
theorem Zn3 {σ:St} {H:Hp} {Q:VK} {C:Addr} {sp:Sp} {t:TA} (q:t σ H fun vs H1=>∀ x dx,H1 x=none->H1 dx=none->dx≠x->sp (.ref x::(vs++[])) (upd (upd H1 dx (.own x)) x (.ins C dx [])) (fun v H2=>v=.non/\Q (.ref x) H2) E0):tMake C sp [] E0 t σ H Q:=q
theorem Same.made {H H':Hp} {x dx C:Addr} {o:HO} (hx:H x=none) (hd:H dx=none) (k:∀ b u,(upd (upd H dx o) x (.ins C dx [])) b=some u->b≠x->H' b=some u):Same H H':=fun b u e =>
 k b u (by rw [Zai (Zaj e hx),Zai (Zaj e hd)];exact e) (Zaj e hx)
noncomputable def Imm (u:HO):Prop:=(∃ xs,u=.tup xs)\/∃ o w,u=.frz o w
noncomputable def SameI (H H':Hp):Prop:=∀ b u,H b=some u->Imm u->H' b=some u
theorem SameI.refl (H:Hp):SameI H H:=fun _ _ h _=>h
theorem SameI.trans {H H1 H2:Hp} (a:SameI H H1) (b:SameI H1 H2):SameI H H2:=fun c u h i=>b c u (a c u h i) i
theorem Same.imm {H H':Hp} (s:Same H H'):SameI H H':=fun b u h _=>s b u h
theorem SameI.upd {H:Hp} {a:Addr} {u o:HO} (h:H a=some u) (n:¬ Imm u):SameI H (upd H a o):=fun b v e i=>by
 rw [Zai (Zbl e h (fun z=>n (z▸i)))];exact e
theorem SameI.new {H:Hp} {a:Addr} {o:HO} (h:H a=none):SameI H (L2.upd H a o):=(Same.new h).imm
theorem SameI.tup {K:PySem.W.Frag} {H H':Hp} {a:Addr} {xs:List V} (e:SameI H H') (h:SqT K H a xs):SqT K H' a xs:=by
 rcases h with (h|⟨o,h⟩)|h
 .exact .inl (.inl (e _ _ h (.inl ⟨_,rfl⟩)))
 .exact .inl (.inr ⟨o,e _ _ h (.inr ⟨_,_,rfl⟩)⟩)
 .exact .inr h
theorem Zbt {xs:List V}:¬ Imm (.lst xs):=by rintro (⟨_,z⟩|⟨_,_,z⟩)<;>cases z
theorem ZgG {kvs:List (Key×V)}:¬ Imm (.dK kvs):=by rintro (⟨_,z⟩|⟨_,_,z⟩)<;>cases z
theorem ZcL {C dx:Addr} {fs:List (Str×V)}:¬ Imm (.ins C dx fs):=by rintro (⟨_,z⟩|⟨_,_,z⟩)<;>cases z
noncomputable def SameND (H H':Hp):Prop:=∀ b u,H b=some u->(∀ kvs,u≠.dK kvs)->H' b=some u
theorem SameND.refl (H:Hp):SameND H H:=fun _ _ h _=>h
theorem SameND.trans {H H1 H2:Hp} (a:SameND H H1) (b:SameND H1 H2):SameND H H2:=fun c u h i=>b c u (a c u h i) i
theorem Same.nd {H H':Hp} (s:Same H H'):SameND H H':=fun b u h _=>s b u h
theorem SameND.imm {H H':Hp} (s:SameND H H'):SameI H H':=fun b u h i=>s b u h (by
 rintro kvs rfl
 exact ZgG i)
theorem SameND.seq {K:PySem.W.Frag} {H H':Hp} {a:Addr} {xs:List V} (e:SameND H H') (h:SqL K H a xs):SqL K H' a xs:=by
 rcases h with (h|⟨o,h⟩)|h
 .exact .inl (.inl (e _ _ h (by intro _ z;cases z)))
 .exact .inl (.inr ⟨o,e _ _ h (by intro _ z;cases z)⟩)
 .exact .inr h
noncomputable abbrev Row:=Str×Option Int
noncomputable def rowVs:Row->List V
 | (w,none)=>[.str w]
 | (w,some n)=>[.str w,.int n]
noncomputable def rowD:Row->Dt
 | (w,none)=>.tup [.str w]
 | (w,some n)=>.tup [.str w,.int n]
noncomputable def RowAt (K:PySem.W.Frag) (H:Hp) (r:Row) (v:V):Prop:=∃ t,v=.ref t/\SqT K H t (rowVs r)
noncomputable def RowsAt (K:PySem.W.Frag) (H:Hp) (rs:List Row) (xs:List V):Prop:=rs.length=xs.length/\∀ (i:Nat) (r:Row) (x:V),rs[i]?=some r->xs[i]?=some x->RowAt K H r x
theorem RowAt.keep {K:PySem.W.Frag} {H H':Hp} {r:Row} {v:V} (h:RowAt K H r v) (s:SameI H H'):RowAt K H' r v:=let ⟨t,e,q⟩:=h;⟨t,e,s.tup q⟩
theorem RowsAt.keep {K:PySem.W.Frag} {H H':Hp} {rs:List Row} {xs:List V} (h:RowsAt K H rs xs) (s:SameI H H'):RowsAt K H' rs xs:=⟨h.1,fun i r x h1 h2=>(h.2 i r x h1 h2).keep s⟩
theorem RowsAt.nil {K:PySem.W.Frag} {H:Hp}:RowsAt K H [] []:=⟨rfl,fun i r x h=>by simp at h⟩
theorem RowsAt.tail {K:PySem.W.Frag} {H:Hp} {r:Row} {rs:List Row} {x:V} {xs:List V} (h:RowsAt K H (r::rs) (x::xs)):RowAt K H r x/\RowsAt K H rs xs :=
 ⟨h.2 0 r x rfl rfl,by have:=h.1;simpa using this,fun i r' x' h1 h2=>h.2 (i+1) r' x' (by simpa using h1) (by simpa using h2)⟩
theorem RowsAt.cons {K:PySem.W.Frag} {H:Hp} {r:Row} {rs:List Row} {x:V} {xs:List V} (h1:RowAt K H r x) (h:RowsAt K H rs xs):RowsAt K H (r::rs) (x::xs):=by
 refine ⟨by simp [h.1],fun i r' x' e1 e2=>?_⟩
 cases i with
 | zero=>cases e1;cases e2;exact h1
 | succ i=>exact h.2 i r' x' (by simpa using e1) (by simpa using e2)
theorem RowAt.dv {K:PySem.W.Frag} {H:Hp} {r:Row} {v:V} (h:RowAt K H r v):DV K H (rowD r) v:=by
 obtain ⟨t,rfl,q⟩:=h
 obtain ⟨w,o⟩:=r
 cases o with
 | none=>exact ZgE q (ZaI Zev ZbI)
 | some n=>exact ZgE q (ZaI Zev (ZaI ZbH ZbI))
theorem RowsAt.dvs {K:PySem.W.Frag} {H:Hp}:∀ {rs:List Row} {xs:List V},RowsAt K H rs xs->DVs K H (rs.map rowD) xs
 | [],[],_=>ZbI
 | r::rs,x::xs,h=>ZaI h.tail.1.dv h.tail.2.dvs
 | [],x::xs,h=>by have:=h.1;simp at this
 | r::rs,[],h=>by have:=h.1;simp at this
noncomputable def putFn (f:Int->Int) (i v:Int):Int->Int:=fun j=>if j=i then v else f j
noncomputable def DictF (H:Hp) (d:Addr) (f:Int->Int) (m:Nat):Prop:=∃ kvs,H d=some (.dK kvs)/\kvs.length<=m/\∀ i:Int,(valV kvs (Sum.inl i:Key)).getD (.int 0)=.int (f i)
noncomputable def StoreAt (H:Hp) (d:Addr) (f:Int->Int) (m:Nat):Prop:=∃ kvs,H d=some (.dK kvs)/\kvs.length<=m/\(kvs.map (·.1)).Nodup/\(∀ p∈kvs,∃ i n:Int,p=(Sum.inl i,.int n)/\n≠0)/\∀ i:Int,(valV kvs (Sum.inl i:Key)).getD (.int 0)=.int (f i)
theorem DictF.put {H:Hp} {d:Addr} {kvs:List (Key×V)} {f:Int->Int} {m:Nat} (hl:kvs.length<=m) (hf:∀ i:Int,(valV kvs (Sum.inl i:Key)).getD (.int 0)=.int (f i)) (i v:Int):DictF (upd H d (.dK (putK kvs (Sum.inl i) (.int v)))) d (putFn f i v) (m+1):=by
 refine ⟨_,Zag,Nat.le_trans (ZcX ..) (Nat.add_le_add_right hl 1),fun j=>?_⟩
 rw [ZlL]
 unfold putFn
 by_cases e:j=i
 .subst e
  rw [if_pos rfl,if_pos rfl]
  rfl
 .rw [if_neg (fun z=>e (Sum.inl.inj z)),if_neg e]
  exact hf j
theorem ZgH {κ:Type} [DecidableEq κ] (k j:κ):∀ kvs:List (κ×V),valV (dropK kvs k) j=if j=k then none else valV kvs j
 | []=>by
  have:dropK ([]:List (κ×V)) k=[]:=rfl
  rw [this,ZlK]
  split<;>rfl
 | p::r=>by
  have ih:=ZgH k j r
  by_cases e:p.1=k
  .rw [Zgx e,ih]
   by_cases z:j=k
   .rw [if_pos z,if_pos z]
   .rw [if_neg z,if_neg z,Zbn (fun q=>z (q.symm.trans e))]
  .rw [Zgy e]
   by_cases q:p.1=j
   .rw [Zbs q,Zbs q,if_neg (fun z=>e (q.trans z))]
   .rw [Zbn q,Zbn q,ih]
theorem Zkx {κ:Type} [DecidableEq κ] {kvs:List (κ×V)} {k:κ} (v:V) (hn:(kvs.map (·.1)).Nodup):((putK kvs k v).map (·.1)).Nodup:=by
 cases e:valV kvs k with
 | none=>exact ZnE v hn e
 | some u =>
  have hk:(kvs.any fun kv=>decide (kv.1=k))=true:=by rw [Zb4,e];rfl
  unfold putK
  rw [if_pos hk,List.map_map]
  have:((fun x:κ×V=>x.1) ∘ fun kv:κ×V=>if kv.1=k then (kv.1,v) else kv)=fun x=>x.1:=by
   funext x
   show (if x.1=k then (x.1,v) else x).1=x.1
   split<;>rfl
  rw [this]
  exact hn
theorem Zl8 {κ:Type} [DecidableEq κ] {kvs:List (κ×V)} {k:κ} {v:V} {p:κ×V} (h:p∈putK kvs k v):p=(k,v)\/p∈kvs:=by
 unfold putK at h
 split at h
 .obtain ⟨q,hq,e⟩:=List.mem_map.mp h
  by_cases z:q.1=k
  .rw [if_pos z] at e;left;rw [<- e,z]
  .rw [if_neg z] at e;right;rw [<- e];exact hq
 .rcases List.mem_append.mp h with h|h
  .exact .inr h
  .exact .inl (List.mem_singleton.mp h)
theorem StoreAt.put {H:Hp} {d:Addr} {kvs:List (Key×V)} {f:Int->Int} {m:Nat} (hl:kvs.length<=m) (hn:(kvs.map (·.1)).Nodup) (hz:∀ p∈kvs,∃ i n:Int,p=(Sum.inl i,.int n)/\n≠0) (hf:∀ i:Int,(valV kvs (Sum.inl i:Key)).getD (.int 0)=.int (f i)) (i v:Int) (hv:v≠0) :
  StoreAt (upd H d (.dK (putK kvs (Sum.inl i) (.int v)))) d (putFn f i v) (m+1):=by
 obtain ⟨kvs',e1,e2,e3⟩:=DictF.put (H:=H) (d:=d) hl hf i v
 rw [Zag] at e1
 cases e1
 refine ⟨_,Zag,e2,Zkx _ hn,fun p hp=>?_,e3⟩
 rcases Zl8 hp with rfl|hp
 .exact ⟨i,v,rfl,hv⟩
 .exact hz p hp
theorem StoreAt.drop {H:Hp} {d:Addr} {kvs:List (Key×V)} {f:Int->Int} {m:Nat} (hl:kvs.length<=m) (hn:(kvs.map (·.1)).Nodup) (hz:∀ p∈kvs,∃ i n:Int,p=(Sum.inl i,.int n)/\n≠0) (hf:∀ i:Int,(valV kvs (Sum.inl i:Key)).getD (.int 0)=.int (f i)) (i:Int) :
  StoreAt (upd H d (.dK (dropK kvs (Sum.inl i)))) d (putFn f i 0) (m+1):=by
 refine ⟨_,Zag,Nat.le_trans (Zfx ..) (Nat.le_trans hl (Nat.le_succ _)),ZfA hn,fun p hp=>hz p (Zgz hp),fun j=>?_⟩
 rw [ZgH]
 unfold putFn
 by_cases e:j=i
 .subst e
  rw [if_pos rfl,if_pos rfl]
  rfl
 .rw [if_neg (fun z=>e (Sum.inl.inj z)),if_neg e]
  exact hf j
theorem StoreAt.same {H H':Hp} {d:Addr} {f:Int->Int} {m:Nat} (h:StoreAt H d f m) (e:H' d=H d):StoreAt H' d f m:=let ⟨kvs,a,b⟩:=h;⟨kvs,e.trans a,b⟩
theorem DictF.same {H H':Hp} {d:Addr} {f:Int->Int} {m:Nat} (h:DictF H d f m) (e:H' d=H d):DictF H' d f m:=let ⟨kvs,a,b⟩:=h;⟨kvs,e.trans a,b⟩
theorem StoreAt.le {H:Hp} {d:Addr} {f:Int->Int} {m m':Nat} (h:StoreAt H d f m) (e:m<=m'):StoreAt H d f m':=let ⟨kvs,a,b,c⟩:=h;⟨kvs,a,Nat.le_trans b e,c⟩
theorem DictF.le {H:Hp} {d:Addr} {f:Int->Int} {m m':Nat} (h:DictF H d f m) (e:m<=m'):DictF H d f m':=let ⟨kvs,a,b,c⟩:=h;⟨kvs,a,Nat.le_trans b e,c⟩
section
variable {σ:St} {H:Hp} {Q:VK} {a:Addr} {kvs:List (Key×V)}
theorem Zl9 {td ty tx:TE} (q:td σ H fun x H1=>∃ a,x=.ref a/\IsD H1 a/\ty σ H1 fun y H2=>tx σ H2 fun z H3=>∃ kvs k,H3 a=some (.dK kvs)/\y=kV k/\(∀ v,valV kvs k=some v->Q v (upd H3 a (.dK (dropK kvs k))))/\(valV kvs k=none->Q z H3)):tDPop2 td ty tx σ H Q:=q
end
section
variable {σ:St} {H:Hp} {K:PySem.W.Frag} {a l:Addr} {xs:List V} {n:Nat} {t:TGs} {Q:St->Hp->Prop} {v:V} {r:List V} {g:TG} {u:TGs}
end
section
variable {σ:St} {H:Hp} {p a:Addr} {K:PySem.W.Frag} {xs:List V}
noncomputable def compNx (Pv:Nat->Hp->Prop) (i:Nat) (σ:St):St->Hp->Prop:=fun σ2 H2=>Pv i H2/\∃ v,σ2=v::σ
theorem Zew {tc:TT} {te:TE} {R:Hp->Prop} (Pv:Nat->Hp->Prop) (h0:Pv 0 (upd H p (.lst []))) (hl:∀ i H',Pv i H'->SqL K H' a xs)
  (hs:∀ (i:Nat) (x:V) (H':Hp),xs[i]?=some x->Pv i H'->tc (some x::σ) H' fun b H1=>if b=true then te (some x::σ) H1 fun y H2=>∃ ys,H2 p=some (.lst ys)/\ys.length<sizeLine/\compNx Pv (i+1) σ (some x::σ) (upd H2 p (.lst (ys++[y]))) else compNx Pv (i+1) σ (some x::σ) H1)
  (fin:∀ H',Pv xs.length H'->R H'):tLoopC 1 (gName 0) tc te (Itl K a) p R σ H:=by
 refine ⟨fun i m σ' H'=>m=xs.length-i/\i<=xs.length/\Pv i H'/\∃ v,σ'=v::σ,⟨xs.length,by omega,Nat.zero_le _,h0,none,rfl⟩,?_⟩
 rintro i m σ' H' ⟨rfl,hi,hp,v,rfl⟩
 have hs':=hl i H' hp
 by_cases hlt:i<xs.length
 .refine .inr ⟨⟨xs,xs[i],hs',by simp [hlt]⟩,compNx Pv (i+1) σ,fun σ2 H2 ⟨e,v',e'⟩=>⟨xs.length-(i+1),by omega,rfl,hlt,e,v',e'⟩,fun x H1 ⟨e,y⟩=>?_⟩
  subst e
  have hx:=y xs hs'
  refine Zkd ?_
  simp only [List.set_cons_zero]
  exact hs i x _ hx hp
 .have e:i=xs.length:=by omega
  subst e
  exact .inl ⟨⟨xs,hs',Nat.le_refl _⟩,fin H' hp⟩
theorem ZhJ {σ:St} {H:Hp} {R:Bool->Hp->Prop} (q:R true H):tNoIf σ H R:=q
end
theorem RowsAt.snoc {K:PySem.W.Frag} {H:Hp} {rs:List Row} {xs:List V} {r:Row} {x:V} (h:RowsAt K H rs xs) (h1:RowAt K H r x):RowsAt K H (rs++[r]) (xs++[x]):=by
 refine ⟨by simp [h.1],fun i r' x' e1 e2=>?_⟩
 by_cases hi:i<rs.length
 .rw [List.getElem?_append_left hi] at e1
  rw [List.getElem?_append_left (by rw [<- h.1];exact hi)] at e2
  exact h.2 i r' x' e1 e2
 .have hi2:i=rs.length:=by
   have:=(List.getElem?_eq_some_iff.mp e1).1
   simp at this
   omega
  subst hi2
  rw [List.getElem?_append_right (Nat.le_refl _),Nat.sub_self] at e1
  rw [List.getElem?_append_right (by rw [h.1];exact Nat.le_refl _),h.1,Nat.sub_self] at e2
  cases e1
  cases e2
  exact h1
theorem RowsAt.ins {K:PySem.W.Frag} {H:Hp} {rs:List Row} {xs:List V} {r:Row} {x:V} (h:RowsAt K H rs xs) (h1:RowAt K H r x) (k:Nat):RowsAt K H (rs.take k++r::rs.drop k) (xs.take k++x::xs.drop k):=by
 have ht:RowsAt K H (rs.take k) (xs.take k):=⟨by simp [h.1],fun i r' x' e1 e2=>by
  rw [List.getElem?_take] at e1 e2
  split at e1
  .rename_i hk
   rw [if_pos hk] at e2
   exact h.2 i r' x' e1 e2
  .cases e1⟩
 have hd:RowsAt K H (r::rs.drop k) (x::xs.drop k):=.cons h1 ⟨by simp [h.1],fun i r' x' e1 e2=>by
  rw [List.getElem?_drop] at e1 e2
  exact h.2 _ r' x' e1 e2⟩
 refine ⟨by rw [List.length_append,List.length_append,ht.1,hd.1],fun i r' x' e1 e2=>?_⟩
 by_cases hi:i<(rs.take k).length
 .rw [List.getElem?_append_left hi] at e1
  rw [List.getElem?_append_left (by rw [<- ht.1];exact hi)] at e2
  exact ht.2 i r' x' e1 e2
 .rw [List.getElem?_append_right (by omega)] at e1
  rw [List.getElem?_append_right (by rw [<- ht.1];omega),<- ht.1] at e2
  exact hd.2 _ r' x' e1 e2
end L2
namespace L2
open PySem PySem.Spec PyProof.Rows PySem.Calls PySem.W
section
variable {Pr:Program} {wo:World} {Ar:Around} {Ex:Value->Shared->Prop} {sh:Shared} {Ty:String} {ro di:Addr} {cnt:Nat} {Pp:Nat->Value->Prop} {Okd:Heap->Prop}
theorem dcol {Rr:List Value->Shared->Prop} (Sr:KdlSrc Pr wo Ty ro di cnt Pp Okd) (h0:Ar.handled=none) (hO:Okd sh.heap) (hN:cnt<=sizeLine)
  (fin:∀ (hp:Heap) (tn:Nat) (its:Array Value),(∀ b u,sh.heap.get? b=some u->hp.get? b=some u)->sh.heap.objs.size<hp.objs.size->ItemsOf Pp its cnt->Rr its.toList { sh with heap:=hp,toks:=tn }) :
  wpAny (model Pr wo) Ar (collect (.ref ro)) Rr Ex sh:=by
 have lt2:=Sr.there _ hO
 have lt1:sh.heap.objs.size<(sh.heap.push { cls:=.type "list", data:=.seq ([]:List Value).toArray }).objs.size:=by rw [size_push'];exact Nat.lt_succ_self _
 unfold collect
 refine wpAny_bind (wpAny_runValue (codeAny_builtin (entry_proto_collect') ?_))
 rw [Around.under_plainId (PySem.F.plain_proto_collect) (_)]
 show wpAny _ (Ar.in1) (newList [] >>= fun q=>again (.builtin "list.__iadd__" ⟨[q,.ref ro],[]⟩)) _ _ sh
 refine wpAny_bind (wpAny_newObj_type (?_))
 refine wpAny_pure ⟨plainId_quiet (PySem.F.plain_list_iadd) (_),codeAny_builtin (entry_list_iadd') ?_⟩
 rw [Around.under_plainId (PySem.F.plain_list_iadd) (_)]
 have g1:(sh.heap.push { cls:=.type "list", data:=.seq ([]:List Value).toArray }).get? sh.heap.objs.size=some { cls:=.type "list", data:=.seq #[] }:=Heap.get?_push_size _ rfl
 show wpAny _ (Ar.in1) (Builtin.List.listExtendWith (.ref sh.heap.objs.size) (.ref ro) (.ref sh.heap.objs.size)) _ _ _
 have ext:=kdl_extend (A:=Ar) (s:={ sh with heap:=sh.heap.push { cls:=.type "list", data:=.seq ([]:List Value).toArray } })
  (R:=fun (rs:Result) (s2:Shared)=>∃ (hp:Heap) (tn:Nat) (its:Array Value) (ep:Nat),rs=.ok (.ret (.ref sh.heap.objs.size))/\s2={ sh with heap:=hp,toks:=tn } /\
   (∀ b u,sh.heap.get? b=some u->hp.get? b=some u)/\hp.get? sh.heap.objs.size=some { cls:=.type "list", dict:=none,data:=.seq its ep,slots:=#[] }/\ItemsOf Pp its cnt)
  Sr h0 (Sr.keep _ _ hO fun b _ u e=>Heap.get?_push_of_some _ e) sh.heap.objs.size (Nat.ne_of_gt lt2.1) (Nat.ne_of_gt lt2.2) (.ref sh.heap.objs.size) 0 g1
  (fun hp tn its ep kp at1 ok=>⟨hp,tn,its,ep,rfl,rfl,fun b u e=>kp b u (Nat.ne_of_lt (Heap.lt_size e)) (Heap.get?_push_of_some _ e),at1,ok⟩) hN
 refine wpAny_mono ext (fun fl s2 xx=>?_) fun er s2 xx=>?_
 .cases fl with
  | done fl2 =>
   obtain ⟨hp,tn,its,ep,e1,rfl,kp,at1,ok⟩:=xx
   cases e1
   show wpAny _ Ar (load sh.heap.objs.size >>= _) _ _ _
   exact wpAny_bind (wpAny_load at1 (wpAny_pure (fin hp tn its kp (Heap.lt_size at1) ok)))
  | again cc =>
   refine ⟨xx.1,codeAny_mono xx.2 fun rs s3 yy=>?_⟩
   obtain ⟨hp,tn,its,ep,rfl,rfl,kp,at1,ok⟩:=yy
   show wpAny _ Ar (load sh.heap.objs.size >>= _) _ _ _
   exact wpAny_bind (wpAny_load at1 (wpAny_pure (fin hp tn its kp (Heap.lt_size at1) ok)))
 .obtain ⟨_,_,_,_,e1,_⟩:=xx
  cases e1
end
noncomputable def Zn4 (ns:List Int) (R:List Int->Prop):Prop:=∀ ms:List Int,ms.Perm ns->ms.Pairwise (·<=·)->R ms
noncomputable def Zky (K:PySem.W.Frag):RC:=fun xs H Q=>∃ d ns,xs=[.ref d]/\ns.length<64/\((∃ kvs:List (Key×V),H d=some (.dK kvs)/\kvs.map (·.1)=ns.map Sum.inl)\/SqL K H d (ns.map V.int)) /\
 Zn4 ns fun ms=>∀ p,H p=none->Q (.ref p) (upd H p (.lst (ms.map V.int)))
theorem ZgI:∀ {ns:List Int} {us:List Value},IntsAre us ns->Vals (ns.map V.int) us:=fun h=>Zen h
theorem Zma:∀ {ns:List Int} {us:List Value},Vals (ns.map V.int) us->IntsAre us ns:=by
 intro ns
 induction ns with
 | nil=>intro us h;cases h;exact .nil
 | cons n r ih =>
  intro us h
  cases h with
  | cons a b =>
   obtain ⟨t,rfl⟩:=a
   exact .cons _ _ (ih b)
theorem Zkz:∀ (us:List Value) (ns:List Int),us.length=ns.length->(∀ (j:Nat) (v:Value) (n:Int),us[j]?=some v->ns[j]?=some n->∃ t,v=.int n t)->IntsAre us ns
 | [],[],_,_=>.nil
 | u::us,n::ns,hl,h=>by
  obtain ⟨t,rfl⟩:=h 0 u n rfl rfl
  exact .cons _ _ (Zkz us ns (by simpa using hl) fun j v m h1 h2=>h (j+1) v m (by simpa using h1) (by simpa using h2))
 | [],n::ns,hl,_=>by simp at hl
 | u::us,[],hl,_=>by simp at hl
theorem ZkA {X:Cx} (hc:X.calm=true):CallR X (.builtin "sorted") (Zky X.K):=by
 intro pins s σ H xs us Q I r h
 obtain ⟨d,ns,rfl,h64,hs,q⟩:=h
 obtain ⟨u,rfl,rx⟩:=vals1 r
 cases rx
 rcases hs with ⟨kvs,hd,hk⟩|hl
 .obtain ⟨hz,lo,vs,hkv,hD⟩:=Zj4 I.hok hd
  obtain ⟨ep,hat⟩:=hD.dictAt
  have hh:X.A.in1.in1.handled=none:=I.ok.hd hc
  refine Calls.call_function_entry (kind_sorted) (plain_sorted) (entry_sorted) (args_sorted1 _) ?_
  unfold Builtin.«sorted»
  refine wpAny_bind (m:=checkCount "sorted" 1 1 (_)) (wpAny_pure (?_))
  have hvl:vs.length=ns.length:=by
   have:=hkv.length
   have h2:=congrArg List.length hk
   rw [List.length_map,List.length_map] at h2
   omega
  refine wpAny_bind (dcol (Ar:=X.A.in1) (kdl_dict (knd:=Za1 X.prog X.w) (kvs:=vs) (ep:=ep) lo) (I.ok.hd hc) hat (by rw [hvl];exact Nat.le_trans (Nat.le_of_lt h64) (by decide)) fun hp tn its kp lt ok=>?_)
  have hI:IntsAre its.toList ns:=by
   refine Zkz _ _ (by rw [Array.length_toList,ok.1,hvl]) fun j v n h1 h2=>?_
   obtain ⟨key,x,e1,e2⟩:=ok.2 j v (by rw [<- Array.getElem?_toList];exact h1)
   have e3:(vs.map (·.1))[j]?=some key:=by rw [List.getElem?_map,e1];rfl
   rw [<- hkv.keys,hk,List.getElem?_map,h2] at e3
   cases e3
   rw [Zi6] at e2
   rcases Zbc e2 with ⟨i,t,e4,rfl⟩|⟨y,t,e4,rfl⟩
   .cases e4
    exact ⟨t,rfl⟩
   .cases e4
  have hl2:its.toList.length<64:=by rw [Array.length_toList,ok.1,hvl];exact h64
  refine wpAny_bind (wpAny_newList (?_) (Nat.le_trans (Nat.le_of_lt hl2) (by decide)))
  have at1:(hp.push (seqObj "list" its.toList.toArray 0)).get? hp.objs.size=some (seqObj "list" its.toList.toArray 0):=Heap.get?_push_size _ rfl
  refine wpAny_bind (wpAny_holding (wpAny_call_entry (slot_list_sort) ⟨_,at1,rfl⟩ (entry_list_sort) (list_sort_tree at1 hI hl2 fun out ms a1 a2 a3=>⟨_,rfl,?_⟩) (args_list_sort _)))
  refine wpAny_pure ⟨_,rfl,?_⟩
  obtain ⟨e5,at2⟩:=sortedHeap_at (out:=out) at1
  have hml:ms.length<=sizeLine:=by rw [a2.length_eq];exact Nat.le_trans (Nat.le_of_lt h64) (by decide)
  refine ⟨.ref hp.objs.size,_,I.laid (t':=tn) (fun b u e=>?_) (Nat.le_of_lt lt) (show ObjOk X.prog X.w _ _ _ (.lst (ms.map V.int)) from ⟨by rw [List.length_map];exact hml,out.toList,e5,ZgI a1,at2⟩),rfl,q ms a2 a3 _ (I.hok.fresh (Nat.le_of_lt lt))⟩
  have lb:=Heap.lt_size (kp b u e)
  rw [sortedHeap_old (Nat.ne_of_lt lb) (by rw [size_push'];exact Nat.lt_succ_of_lt lb)]
  exact Heap.get?_push_of_some _ (kp b u e)
 .obtain ⟨its,rv,pl,hz⟩:=I.list hl
  have hI:=Zma rv
  have hl2:its.length<64:=by rw [<- rv.length,List.length_map];exact h64
  refine sorted_ints pl.isList hI hl2 fun out ms a1 a2 a3=>?_
  obtain ⟨e5,at2⟩:=sortedAll_at s.heap its out
  have hml:ms.length<=sizeLine:=by rw [a2.length_eq];exact Nat.le_trans (Nat.le_of_lt h64) (by decide)
  exact ⟨.ref (s.heap.objs.size+1),_,I.laid (t':=s.toks) (fun b u e=>sortedAll_old e) (Nat.le_succ _) (show ObjOk X.prog X.w _ _ _ (.lst (ms.map V.int)) from ⟨by rw [List.length_map];exact hml,out.toList,e5,ZgI a1,at2⟩),rfl,q ms a2 a3 _ (I.hok.fresh (Nat.le_succ _))⟩
section
variable {K:PySem.W.Frag} {H:Hp} {Q:VK} {d:Addr} {ns:List Int}
theorem Zji {kvs:List (Key×V)} (h:H d=some (.dK kvs)) (hk:kvs.map (·.1)=ns.map Sum.inl) (h64:ns.length<64) (q:∀ ms:List Int,ms.Perm ns->ms.Pairwise (·<=·)->∀ p,H p=none->Q (.ref p) (upd H p (.lst (ms.map V.int)))):Zky K [.ref d] H Q:=⟨d,ns,rfl,h64,.inl ⟨kvs,h,hk⟩,q⟩
end
noncomputable def rTIdx (K:PySem.W.Frag):V->List V->Hp->VK->Prop:=fun x vs H Q=>∃ (t:Addr) (ys:List Str) (y:Str) (k:Nat),x=.ref t/\vs=[.str y]/\SqT K H t (ys.map V.str)/\ys[k]?=some y/\(∀ j,j<k->ys[j]?≠some y)/\Q (.int k) H
theorem ZgJ {X:Cx}:MtM X "tuple.index" (rTIdx X.K):=by
 intro pins s σ H x vs v us Q I rx rv h
 obtain ⟨t,ys,y,k,rfl,rfl,hq,hk,hno,q⟩:=h
 cases rx
 obtain ⟨u,rfl,ru⟩:=rv.one
 obtain ⟨tk,rfl⟩:=ru
 obtain ⟨its,r',pl,hz⟩:=I.tuple hq
 obtain ⟨o,ho,hcls,n,hd⟩:=pl
 refine wpAny_call_entry F.slot_tuple_index ⟨o,ho,hcls⟩ F.entry_tuple_index ?_ (F.args_tuple_index_2 _ _)
 unfold Builtin.«tuple.index»
 refine wpAny_bind (wpAny_pure ?_)
 dsimp only
 refine wpAny_bind (wpAny_tupleItemsOf ho hd ?_)
 refine wpAny_bind (wpAny_pure ?_)
 refine wpAny_bind (wpAny_pure ?_)
 rw [Nat.min_self]
 have hlen:ys.length=its.length:=by have:=r'.length;rwa [List.length_map] at this
 have hkl:k<ys.length:=(List.getElem?_eq_some_iff.mp hk).1
 refine wpAny_bind ?_
 rw [Std.Legacy.Range.forIn_eq_forIn_range']
 refine wpAny_forIn_list _ (fun rest b s'=>b=(none,())/\s'=s/\∃ i,i<=k/\rest=List.range' i (its.length-i)) _ ?_ ?_ _ _ ?_
 .rintro i rest b s' ⟨rfl,rfl,i',hi,e⟩
  have hil:i'<its.length:=by omega
  obtain ⟨m,hm⟩:∃ m,its.length-i'=m+1:=⟨its.length-i'-1,by omega⟩
  rw [hm,List.range'_succ] at e
  obtain ⟨rfl,rfl⟩:=List.cons.inj e
  obtain ⟨z,hz1⟩:∃ z,ys[i]?=some z:=⟨ys[i]'(by omega),List.getElem?_eq_getElem _⟩
  obtain ⟨w,hw,rw'⟩:=r'.get (i:=i) (x:=.str z) (by rw [List.getElem?_map,hz1];rfl)
  obtain ⟨t2,rfl⟩:=rw'
  have hw2:its.toArray[i]?=some (.str z t2):=by rw [List.getElem?_toArray];exact hw
  rw [hw2]
  dsimp only
  refine wpAny_bind (wpAny_eqBool_str ?_)
  by_cases hzy:z=y
  .rw [decide_eq_true hzy,if_pos rfl]
   have hik:i=k:=by
    rcases Nat.lt_or_ge i k with q1|q1
    .exact absurd (hzy▸hz1) (hno i q1)
    .omega
   subst hik
   refine wpAny_bind ?_
   show wpAny _ _ (mkInt (i:Int) >>= fun v=>ret v) _ _ _
   refine wpAny_bind (wpAny_mkInt (wpAny_pure (wpAny_pure ?_)))
   dsimp only
   exact wpAny_pure ⟨_,rfl,.int i,H,I.tok _,⟨_,rfl⟩,q⟩
  .rw [decide_eq_false hzy,if_neg (by decide)]
   refine wpAny_pure ⟨rfl,rfl,i+1,?_,by congr 1;omega⟩
   rcases Nat.lt_or_ge i k with q1|q1
   .omega
   .have:i=k:=by omega
    subst this
    rw [hk] at hz1
    exact absurd (Option.some.inj hz1).symm hzy
 .rintro b s' ⟨rfl,rfl,i,hi,e⟩
  have:(List.range' i (its.length-i)).length=0:=by rw [<- e];rfl
  rw [List.length_range'] at this
  omega
 .refine ⟨rfl,rfl,0,Nat.zero_le _,?_⟩
  simp [Std.Legacy.Range.size]
noncomputable def Tup0 (K:PySem.W.Frag) (a:Addr):Prop:=∃ o,K.lookup a=some o/\o.cls=.type "tuple" /\ o.dict=none
theorem Zmb {K:PySem.W.Frag} {h:Heap} {mg:Str->Option Value} {x:Str} {i:Addr} {xs:List V} {its:Array Value} {n:Nat} {sl:Array (Option Value)} (X:K.In h) (G:h.Ns mainGlobals mg) (a:PySem.W.nsIn K mainGlobals x=some (some (.ref i)))
  (l:K.lookup i=some ⟨.type "tuple", none,.seq its n,sl⟩) (v:Vals xs its.toList) (z:its.size<=sizeLine):∃ a,ZaW mg x (.ref a)/\TupK K a xs/\Tup0 K a:=⟨i,Zca X G a,ZaP l v z,_,l,rfl,rfl⟩
section
variable {K:PySem.W.Frag} {H:Hp} {Q:VK} {t l b:Addr}
theorem Zm9 (h:Tup0 K t):tyV K "tuple" (.ref t) H:=.inr (.inl ⟨rfl,h⟩)
theorem ZgK {ys:List Str} {y:Str} {k:Nat} (h:SqT K H t (ys.map V.str)) (hk:ys[k]?=some y) (hno:∀ j,j<k->ys[j]?≠some y) (q:Q (.int k) H):rTIdx K (.ref t) [.str y] H Q:=⟨t,ys,y,k,rfl,rfl,h,hk,hno,q⟩
theorem ZgL {xs zs:List V} (h:H l=some (.lst xs)) (h2:H b=some (.lst zs)) (hz:xs.length+zs.length<=sizeLine) (q:Q .non (upd H l (.lst (xs++zs)))):Zj3 (.ref l) [.ref b] H Q:=⟨l,b,xs,zs,rfl,rfl,h,h2,hz,q⟩
end
noncomputable def Zex:List Str->Str->Nat
 | [],_=>0
 | a::r,x=>if a=x then 0 else Zex r x+1
theorem Zey:∀ {xs:List Str} {x:Str},x∈xs->xs[Zex xs x]?=some x/\∀ j,j<Zex xs x->xs[j]?≠some x
 | [],x,h=>by simp at h
 | a::r,x,h=>by
  unfold Zex
  by_cases e:a=x
  .rw [if_pos e]
   exact ⟨by rw [e];rfl,fun j hj=>absurd hj (Nat.not_lt_zero j)⟩
  .rw [if_neg e]
   have hr:x∈r:=(List.mem_cons.mp h).resolve_left (fun z=>e z.symm)
   obtain ⟨h1,h2⟩:=Zey hr
   refine ⟨by rw [List.getElem?_cons_succ];exact h1,fun j hj=>?_⟩
   cases j with
   | zero=>intro z;exact e (Option.some.inj z)
   | succ j=>rw [List.getElem?_cons_succ];exact h2 j (by omega)
theorem ZiI:∀ {xs ys:List Int},xs.Pairwise (·<·)->ys.Pairwise (·<·)->(∀ i,i∈xs ↔ i∈ys)->xs=ys
 | [],[],_,_,_=>rfl
 | [],y::ys,_,_,h=>by have:=(h y).mpr (by simp);simp at this
 | x::xs,[],_,_,h=>by have:=(h x).mp (by simp);simp at this
 | x::xs,y::ys,h1,h2,h=>by
  obtain ⟨a1,a2⟩:=List.pairwise_cons.mp h1
  obtain ⟨b1,b2⟩:=List.pairwise_cons.mp h2
  have e:x=y:=by
   rcases List.mem_cons.mp ((h x).mp (by simp)) with z|z
   .exact z
   .rcases List.mem_cons.mp ((h y).mpr (by simp)) with w|w
    .exact w.symm
    .have:=a1 y w
     have:=b1 x z
     omega
  subst e
  rw [ZiI a2 b2 fun i=>?_]
  constructor
  .intro hi
   rcases List.mem_cons.mp ((h i).mp (List.mem_cons_of_mem _ hi)) with z|z
   .have:=a1 i hi;omega
   .exact z
  .intro hi
   rcases List.mem_cons.mp ((h i).mpr (List.mem_cons_of_mem _ hi)) with z|z
   .have:=b1 i hi;omega
   .exact z
theorem Zmc {ms:List Int} (h:ms.Pairwise (·<=·)) (hn:ms.Nodup):ms.Pairwise (·<·):=by
 induction ms with
 | nil=>exact .nil
 | cons a r ih =>
  obtain ⟨h1,h2⟩:=List.pairwise_cons.mp h
  obtain ⟨n1,n2⟩:=List.nodup_cons.mp hn
  refine List.pairwise_cons.mpr ⟨fun b hb=>?_,ih h2 n2⟩
  have:=h1 b hb
  have:a≠b:=fun z=>n1 (z▸hb)
  omega
end L2
namespace L2
open PySem PySem.Builtin PySem.Builtin.Str PySem.StrLaws
noncomputable def Gap (w:Nat):List Nat->Prop
 | []=>True
 | [_]=>True
 | a::b::r=>a+w<=b/\Gap w (b::r)
theorem Gap.tail {w a:Nat} {r:List Nat} (h:Gap w (a::r)):Gap w r:=by
 cases r with
 | nil=>trivial
 | cons b r=>exact h.2
theorem Gap.ge {w a:Nat}:∀ {r:List Nat},Gap w (a::r)->∀ b∈r,a+w<=b
 | [],_,b,hb=>by simp at hb
 | c::r,h,b,hb=>by
  rcases List.mem_cons.mp hb with rfl|hb
  .exact h.1
  .have:=Gap.ge (r:=r) h.2 b hb
   have:=h.1
   omega
end L2
namespace L2
open PySem PySem.Builtin PySem.Builtin.Str PySem.StrLaws
section
variable {X:Cx} {pins:List (Addr×Obj)} {σ:St} {H:Hp} {s:Shared} {a:Addr} {o:Obj} {kvs:List (Key×V)}
end
section
variable {σ:St} {H:Hp} {Q:VK} {D:Ends} {td:TE} {g:TG} {tc:TT} {te:TE} {tb:TS} {k:Nat} {a:Addr} {o:Obj} {kvs:List (Key×V)} {p:Addr}
theorem DGet.frz {k:Key} (e:H a=some (.frz o (.dK kvs))):DGet H a (kV k) (valV kvs k):=.inl ⟨kvs,k,.inr ⟨o,e⟩,rfl,rfl⟩
end
section
variable {K:PySem.W.Frag} {σ:St} {H:Hp} {D:Ends} {a C dx:Addr} {fs:List (Str×V)} {f:Str} {i j:Int}
theorem ZkB {ta tv:TE} {rd:V->V->Hp->VK->Prop} (q:ta σ H fun x H1=>∃ a C dx fs v,x=.ref a/\H1 a=some (.ins C dx fs)/\Cls K C/\NoAttr K C f/\fs.lookup f=some v/\tv σ H1 fun y H2=>rd v y H2 fun z H3=>∃ dx' fs',H3 a=some (.ins C dx' fs')/\fs'.length<1000/\D.nx σ (upd H3 a (.ins C dx' (putF f z fs')))):ZjU K ta tv rd f D σ H:=q
theorem Zdi {v:V} {R:Addr->Addr->V->Prop} (h:H a=some (.ins C dx fs)) (c:Cls K C) (n:NoAttr K C f) (l:fs.lookup f=some v) (q:R a C v):∃ a' C dx fs v,V.ref a=.ref a'/\H a'=some (.ins C dx fs)/\Cls K C/\NoAttr K C f/\fs.lookup f=some v/\R a' C v:=⟨a,C,dx,fs,v,rfl,h,c,n,l,q⟩
theorem Zn5 {Q:VK} (q:Q (.int (i+j)) H):rAdd (.int i) (.int j) H Q:=⟨i,j,rfl,rfl,q⟩
theorem Zn6 {Q:VK} (q:Q (.int (i-j)) H):rSub (.int i) (.int j) H Q:=⟨i,j,rfl,rfl,q⟩
end
end L2
namespace L2
open PySem PySem.Spec PyProof.Rows PySem.Calls
section
variable {H:Hp} {Q:VK} {σ:St}
end
section
variable {H:Hp} {Q:VK} {σ:St} {K:PySem.W.Frag} {p a:Addr} {xs ys:List V}
end
end L2
namespace L2
open PySem PySem.Spec PyProof.Rows PySem.Calls
theorem KV.at {kvs:List (Key×V)} {vs:List (Key×Value)}:KV kvs vs->∀ {i:Nat} {p:Key×V},kvs[i]?=some p->∃ u,vs[i]?=some (p.1,u)/\RelV p.2 u:=by
 intro h
 unfold KV at h
 induction h with
 | nil=>intro i p e;simp at e
 | @cons a b as bs ab _ ih =>
  intro i p e
  cases i with
  | zero =>
   cases e
   refine ⟨b.2,?_,ab.2⟩
   rw [ab.1]
   rfl
  | succ i=>exact ih (by simpa using e)
section
variable {σ:St} {H:Hp} {Q:VK} {D:Ends} {td:TE} {g:TG} {tb:TS} {a:Addr} {o:Obj} {kvs:List (Key×V)}
end
section
variable {σ:St} {H:Hp} {Q:VK}
end
end L2
namespace L2
open PySem PySem.Spec PyProof.Rows PySem.Calls
structure Fly (base h:Heap) (e T:Addr) (cls:Value):Prop where
 x:∃ oe vs oT ts,h.get? e=some oe/\oe.cls=cls/\oe.data=.fields vs/\vs[1]?=some (.ref T)/\h.get? T=some oT/\oT.data=.fields ts/\ts[3]?=some .none
 nT:base.get? T=none
 ne:T≠e
 dn:∀ o,h.get? e=some o->o.dict=none
structure Gone (base:Heap) (l:List Env) (e:Addr) (cls:Value) (ch:List Addr) (h h':Heap):Prop where
 st:base.StaysIn h'
 fr:h'.FunFrames base l
 fly:∃ T,Fly base h' e T cls/\(T∈ch\/h.objs.size<=T)
 keep:∀ b o,b∉l.filterMap (·.frame)->b≠e->b∉ch->h.get? b=some o->h'.get? b=some o
 slot:∀ b o,b∈l.filterMap (·.frame)->h.get? b=some o->∃ sl,h'.get? b=some { o with slots:=sl }
section
variable {M:Model} {A:Around} {E:Value->Shared->Prop} {s:Shared} {base:Heap} {env:Env} {outer:List Env} {L e:Addr} {Q:Unit->Shared->Prop}
end
noncomputable def CXE (P:Program) (w:World) (base:Heap):CXT:=fun outer H s E e s'=>∃ (a T C:Addr) (H':Hp),e=.ref a/\Fly base s'.heap a T (.ref C)/\base.get? a=none/\H' a=none/\H' T=none/\s.heap.get? a=none/\s.heap.get? T=none /\
 s'.os=s.os/\AllBare s'.gens/\Un (frs outer) [] H H' s.heap s'.heap/\HOk P w H' s'.heap/\E e (some C) H'
theorem ObjOk.is {P:Program} {w:World} {H:Hp} {h:Heap} {a:Addr} {o:HO} (x:ObjOk P w H h a o):∃ q,h.get? a=some q:=by
 cases o with
 | lst xs=>obtain ⟨_,_,_,_,e⟩:=x;exact ⟨_,e⟩
 | tup xs=>obtain ⟨_,_,_,p⟩:=x;obtain ⟨_,e,_⟩:=p;exact ⟨_,e⟩
 | dK kvs=>obtain ⟨_,_,_,_,o,_,_,e,_⟩:=x;exact ⟨_,e⟩
 | dT kvs=>obtain ⟨_,_,_,_,o,_,_,e,_⟩:=x;exact ⟨_,e⟩
 | set S n=>obtain ⟨o,_,_,_,e,_⟩:=x;exact ⟨_,e⟩
 | ins C dx fs=>obtain ⟨_,_,_,e,_⟩:=x;exact ⟨_,e⟩
 | own y=>exact x
 | xd fs=>obtain ⟨_,⟨_,_,_,e,_⟩,_⟩:=x;exact ⟨_,e⟩
 | rng lo hi=>obtain ⟨_,_,_,e⟩:=x;exact ⟨_,e⟩
 | frz ob u=>exact ⟨_,x.1⟩
 | tbl ps=>exact ⟨_,x⟩
 | met f y=>exact ⟨_,x⟩
 | ext φ=>exact x.2.1
section
variable {X:Cx} {pins:List (Addr×Obj)} {σ:St} {H':Hp} {s':Shared} {h':Heap} {a:Addr} {cls:Value} {ch:List Addr}
end
end L2
namespace L2
open PySem PySem.Spec PyProof.Rows PySem.Calls
noncomputable def CalE (P:Program) (w:World) (K:PySem.W.Frag) (mg:Str->Option Value) (base:Heap) (k:Nat) (x:Str) (sp:Sp):Prop :=
 ∃ f,mg x=some (.ref f)/\∃ fd ps,FnOk P w K mg base (CXE P w base) k f fd ps sp/\PySem.W.keepIn K (.ref f)=true/\Binds K fd ps []
theorem CalE.mono {P:Program} {w:World} {K:PySem.W.Frag} {mg:Str->Option Value} {base:Heap} {j k:Nat} {x:Str} {sp:Sp} (c:CalE P w K mg base j x sp) (h:j<=k):CalE P w K mg base k x sp :=
 let ⟨f,m,fd,ps,F,kp,b⟩:=c
 ⟨f,m,fd,ps,F.mono h,kp,b⟩
section
variable {X:Cx} {pins pins':List (Addr×Obj)} {σ σ':St} {H:Hp} {s:Shared} {E:XK}
end
section
variable {X:Cx} {pins pins':List (Addr×Obj)} {σ:St} {H:Hp} {s s':Shared} {E:XK} {e:Value}
end
end L2
namespace L2
open PySem PySem.Spec PyProof.Rows PySem.Calls
end L2
namespace L2
open PySem PySem.Spec PyProof.Rows PySem.Calls
theorem ZhK:typeLookup (.type "list_reverseiterator") "__length_hint__" = pure (some (.builtin "list_reverseiterator.__length_hint__")):=by
 rw [typeLookup_type,builtinLookup_eq_fast]
 kernel_rfl
theorem Zn7:typeLookup (.type "list_reverseiterator") "__len__" = pure none:=by
 rw [typeLookup_type,builtinLookup_eq_fast]
 kernel_rfl
section
variable {prog:Program} {w:World} {A:Around} {E:Value->Shared->Prop} {s:Shared} {r:Addr}
theorem Zmd {Q:Bool->Shared->Prop} (hT:s.TypeIs (.ref r) "list_reverseiterator") (h:Q false s):wpAny (model prog w) A (Builtin.List.listLengthHint (.ref r)) Q E s:=by
 unfold Builtin.List.listLengthHint
 refine wpAny_bind (wpAny_specialOf hT Zn7 ?_)
 dsimp only
 refine wpAny_ite_split (fun hab=>absurd hab (by decide)) (fun _=>?_)
 refine wpAny_ite_split (fun hab=>absurd hab (by decide)) (fun _=>?_)
 refine wpAny_bind (wpAny_specialOf hT ZhK ?_)
 generalize hid:("list_reverseiterator.__length_hint__" : String)=id0
 wp_delta
 rw [show splitId id0=some ("list_reverseiterator", "__length_hint__") from by subst hid;decide +kernel]
 subst hid
 refine wpAny_bind (wpAny_isInstance (T := "list_reverseiterator") (b:=true) hT (by rw [isSubtype_type];kernel_rfl) ?_)
 refine wpAny_ite_split (fun hab=>absurd hab (by decide)) (fun _=>?_)
 refine wpAny_ite_split (fun _=>?_) (fun hab=>absurd (by decide +kernel) hab)
 refine wpAny_ite_split (fun hab=>absurd hab (by decide)) (fun _=>?_)
 exact wpAny_pure h
theorem ZfD {l:Addr} {items:Array Value} {Q:Value->Shared->Prop} (hh:A.handled=none) (hit:s.heap.IsRevIter r l ((items.size:Int)-1)) (hl:s.heap.IsList l items) (hlr:l≠r) (hn:items.size<=sizeLine)
  (hQ:∀ h' tk acc c,(∀ b o,b≠r->s.heap.get? b=some o->h'.get? b=some o)->h'.get? s.heap.objs.size=some { cls:=.type "list", dict:=none,data:=.seq acc c,slots:=#[] } ->
   ItemsOf (fun i v=>items[items.size-1-i]?=some v) acc items.size->Q (.ref s.heap.objs.size) { s with heap:=h',toks:=tk }):wpAny (model prog w) A (call (.type "list") [.ref r]) Q E s:=by
 refine callType_codes (Q₁:=fun obj s₁=>s₁={ s with heap:=s.heap.push { cls:=.type "list", data:=.seq #[] } }/\obj=.ref s.heap.objs.size) PySem.F.called_list (PySem.F.typeCall_list_1 _) PySem.F.entry_list_init (code_list_new _ ⟨rfl,rfl⟩) ?_
 rintro obj s₁ ⟨rfl,rfl⟩
 have hS:(s.heap.push { cls:=.type "list", data:=.seq #[] }).get? s.heap.objs.size=some { cls:=.type "list", data:=.seq #[] }:=Heap.get?_push_size _ rfl
 have rlt:r<s.heap.objs.size:=by obtain ⟨o,e,_⟩:=hit;exact Heap.lt_size e
 have llt:l<s.heap.objs.size:=by obtain ⟨o,e,_⟩:=hl;exact Heap.lt_size e
 generalize hz:s.heap.objs.size=S at hS rlt llt hQ |-
 have hSr:S≠r:=Nat.ne_of_gt rlt
 have hSl:S≠l:=Nat.ne_of_gt llt
 refine ⟨⟨_,hS,rfl⟩,PySem.F.args_list_init_2 _ _,?_⟩
 have up1:∀ b o,s.heap.get? b=some o->(s.heap.push { cls:=.type "list", data:=.seq #[] }).get? b=some o:=fun b o e=>Heap.get?_push_of_some _ e
 generalize s.heap.push { cls:=.type "list", data:=.seq #[] }=h1 at hS up1 |-
 show wpAny _ _ (Builtin.List.listItems (.ref S) >>= fun old=>Builtin.List.listUpdate (.ref S) (fun _=>#[]) >>= fun _=>letGo old.toList.reverse >>= fun _=>Builtin.List.listExtendWith (.ref S) (.ref r) .none) _ _ _
 unfold Builtin.List.listItems
 refine wpAny_bind (wpAny_bind (wpAny_seqItems hS rfl (wpAny_pure ?_)))
 refine wpAny_bind (wpAny_updateSeq hS rfl ?_)
 have hS2:=Heap.get?_update_self (Obj.mapSeq (fun _=>(#[]:Array Value))) hS rfl
 have up2:∀ b o,b≠S->h1.get? b=some o->(h1.update S (Obj.mapSeq (fun _=>(#[]:Array Value)))).get? b=some o:=fun b o hb e=>by
  rw [Heap.get?_update_other _ _ (Ne.symm hb)]
  exact e
 generalize h1.update S (Obj.mapSeq (fun _=>(#[]:Array Value)))=h2 at hS2 up2 |-
 refine wpAny_bind (wpAny_letGo ?_)
 have it2:h2.IsRevIter r l ((items.size:Int)-1):=hit.at fun o e=>up2 _ _ (Ne.symm hSr) (up1 _ _ e)
 have l2:h2.IsList l items:=hl.at fun o e=>up2 _ _ (Ne.symm hSl) (up1 _ _ e)
 have ty2:({ s with heap:=h2 }:Shared).TypeIs (.ref r) "list_reverseiterator" := Heap.IsRevIter.typeIs (s:={ s with heap:=h2 }) it2
 unfold Builtin.List.listExtendWith
 refine wpAny_bind (wpAny_typeOf ty2 ?_)
 have ns:Builtin.List.listSameRef (.ref S) (.ref r)=false:=by simp [Builtin.List.listSameRef,hSr]
 rw [ns]
 refine wpAny_ite_split (fun hab=>absurd hab (by decide)) (fun _=>?_)
 refine wpAny_bind (wpAny_pyIter_revIter (s:={ s with heap:=h2 }) it2 ?_)
 refine wpAny_bind (wpAny_holding (Zmd ty2 ?_))
 refine wpAny_ite_split (fun hab=>absurd hab (by decide)) (fun _=>?_)
 have W:=fun B:Around=>fun (hB:B.handled=none)=>Walks.listRev (prog:=prog) (w:=w) (A:=B) hB r l hlr items
 have e0:(items.size:Int)-1-((0:Nat):Int)=(items.size:Int)-1:=by omega
 refine wpAny_pure ⟨plainId_quiet PySem.F.plain_extend_loop _,codeAny_extend_loopS (W A.in1.in1 hh).toS hn S ?_ .none items.size 0 _ #[] _ rfl (Nat.zero_le _) ⟨Nat.zero_le _,by rw [e0];exact it2,l2⟩ hS2 (ItemsOf.nil _) fun s' acc c mv hS' ok=>?_⟩
 .simp [hSr,hSl]
 .rw [Moved.eq_with mv]
  refine ⟨rfl,hQ s'.heap s'.toks acc c (fun b o hb e=>?_) hS' ok⟩
  have hbS:b≠S:=by rw [<- hz];exact Nat.ne_of_lt (Heap.lt_size e)
  exact mv.heap b o (by simp [hb,hbS]) (up2 b o hbS (up1 b o e))
end
noncomputable def ZiJ (K:PySem.W.Frag) (ta:TA):TE:=fun σ H Q=>ta σ H fun vs H1=>∃ b xs,vs=[.ref b]/\SqL K H1 b xs/\∀ l,H1 l=none->Q (.ref l) (upd H1 l (.lst xs.reverse))
theorem Zjj {K:PySem.W.Frag} {ta:TA} {σ:St} {H:Hp} {Q:VK} (q:ta σ H fun vs H1=>∃ b xs,vs=[.ref b]/\SqL K H1 b xs/\∀ l,H1 l=none->Q (.ref l) (upd H1 l (.lst xs.reverse))):ZiJ K ta σ H Q:=q
theorem ZkC:∀ (xs:List V) (us:List Value),xs.length=us.length->(∀ (j:Nat) (x:V) (u:Value),xs[j]?=some x->us[j]?=some u->RelV x u)->Vals xs us
 | [],[],_,_=>.nil
 | [],_::_,h,_=>by simp at h
 | _::_,[],h,_=>by simp at h
 | x::xs,u::us,h,g=>.cons (g 0 x u rfl rfl) (ZkC xs us (by simpa using h) fun j y v h1 h2=>g (j+1) y v (by simpa using h1) (by simpa using h2))
theorem Zjk {X:Cx} {a:Expr} {ta:TA} {p p2 pos pos2:Pos} (hc:X.calm=true) (hgl:Gl X "list") (hml:X.mg "list" = none) (hgr:Gl X "reversed") (hmr:X.mg "reversed" = none) (ha:PA X [a] ta) (hs:starEach [a] X.env=[(false,eval a X.env)]:=by rfl)
  (hs2:starEach [.Call (.Name "reversed" p2) [a] [] pos2] X.env=[(false,eval (.Call (.Name "reversed" p2) [a] [] pos2) X.env)]:=by rfl):PE X (.Call (.Name "list" p) [.Call (.Name "reversed" p2) [a] [] pos2] [] pos) (ZiJ X.K ta):=by
 intro pins s σ H Q I h
 refine Call_ (Zfd I hgl hml boot_list (PyProof.Rows.callWith_type1 (PyProof.Rows.spliced_more (Call_ (Zfd I hgr hmr boot_reversed (PyProof.Rows.callWith_type1 (thn (ha pos2 pins s σ H _ I h) fun us s1 ⟨vs,H1,I1,r1,q1⟩=>?_) hs rfl))) hs2) hs2 rfl))
 obtain ⟨l,xs,e,hq,q⟩:=q1
 subst e
 cases r1 with
 | cons r rr =>
  cases rr
  cases r
  obtain ⟨its,rv,pl,hz⟩:=I1.list hq
  refine call_reversed_list pl.isList ?_
  have en:its.toArray.size=xs.length:=by rw [List.size_toArray,rv.length]
  have st:(s1.heap.push (revObj l ((its.toArray.size:Int)-1))).IsRevIter s1.heap.objs.size l ((its.toArray.size:Int)-1):=⟨_,Heap.get?_push_size _ rfl,rfl,rfl⟩
  have llt:l<s1.heap.objs.size:=by obtain ⟨_,e,_⟩:=pl.isList;exact Heap.lt_size e
  refine PyProof.Rows.spliced_none ?_
  refine ZfD (s:={ s1 with heap:=s1.heap.push (revObj l ((its.toArray.size:Int)-1)) }) (I1.ok.hd hc) st (pl.isList.at fun o e=>Heap.get?_push_of_some _ e) (Nat.ne_of_lt llt) (by rw [en];exact hz) fun h' tk acc c kp hS ok=>?_
  have ge:s1.heap.objs.size<=(s1.heap.push (revObj l ((its.toArray.size:Int)-1))).objs.size:=by rw [Heap.size_push];exact Nat.le_succ _
  refine ⟨.ref _,_,I1.laid (t':=tk) (h':=h') (o:=.lst xs.reverse) (fun b u e=>kp b u (Nat.ne_of_lt (Heap.lt_size e)) (Heap.get?_push_of_some _ e)) ge ?_,rfl,q _ (I1.hok.fresh ge)⟩
  refine ⟨by rw [List.length_reverse];exact hz,acc.toList,c,ZkC _ _ ?_ fun j x u h1 h2=>?_,hS⟩
  .have k1:=ok.1
   have k2:acc.toList.length=acc.size:=Array.length_toList
   have k3:xs.reverse.length=xs.length:=List.length_reverse
   omega
  .have h3:=ok.2 j u (by rw [<- Array.getElem?_toList];exact h2)
   have hj:j<xs.length:=by
    have:=(List.getElem?_eq_some_iff.mp h1).1
    rwa [List.length_reverse] at this
   rw [List.getElem?_reverse hj] at h1
   rw [en] at h3
   obtain ⟨v,hv,rr⟩:=rv.get h1
   have h4:its[xs.length-1-j]?=some u:=by simpa using h3
   rw [hv] at h4
   cases h4
   exact rr
noncomputable abbrev Exc (x:Str) (C:Addr) (mg:Str->Option Value) (base:Heap):Prop:=OwnCls x C [.type "ValueError", .type "Exception", .type "BaseException", .type "object"] "ValueError.__new__" mg base
noncomputable def Zct (K:PySem.W.Frag) (C:Addr) (m qual:Str) (st:Stmt) (items:Array Value):Prop:=∃ f fd,FunD K m qual st items f fd/\PySem.W.findIn K (.ref C) m=some (some (.ref f))/\PySem.W.isFn K (.ref f)=true
noncomputable def ZhL (P:Program) (w:World) (K:PySem.W.Frag) (mg:Str->Option Value) (base:Heap) (k:Nat) (x:Str) (C:Addr) (sp:Sp) (dvs:List V):Prop :=
 mg x=some (.ref C)/\∃ f fd ps ds,Mk K C f/\FnOk P w K mg base CX0 k f fd ps sp/\Binds K fd ps ds/\Vals dvs ds
section
variable {P:Program} {w:World} {K:PySem.W.Frag} {mg:Str->Option Value} {base:Heap}
theorem Zjl {C:Addr} {m qual:Str} {st:Stmt} {f T:Addr} {oc c2:Value} {od an d2:Option Addr} {osl s2:Array (Option Value)} {kV doc pm cdv ct:Value} {items:Array Value} {n:Nat}
  (a:PySem.W.findIn K (.ref C) m=some (some (.ref f))) (i:PySem.W.isFn K (.ref f)=true) (l:K.lookup f=some ⟨oc,od,.func (PySem.W.fnOf m qual (Zay st) (Zat st) (Zab st) (.ref T) kV doc pm an cdv ct),osl⟩)
  (c:PySem.W.codeIn K cdv qual=true) (k:PySem.W.keepIn K (.ref f)=true) (d:K.lookup T=some ⟨c2,d2,.seq items n,s2⟩):Zct K C m qual st items :=
 ⟨f,_,⟨⟨oc,od,T,kV,doc,pm,an,cdv,ct,osl,_,n,rfl,l,c,d,rfl⟩,k⟩,a,i⟩
theorem Zme {C:Addr} {x qual:Str} {st:Stmt} {items:Array Value} {N ps:List Str} {k:Nat} {sp:Sp} (D:Zct K C "__init__" qual st items) (c:ClsF K mg x C) (S:FnScope N ps (Zab st)) (len:∀ vs H Q E,sp vs H Q E->vs.length=ps.length)
  (hbody:∀ (f:Addr) (cdv:Value) (A:Around) (outer:List Env) (s:Shared) (H:Hp) (vs:List V) (Q:VK) (E:XK),Room k (A.deeper (envOfC qual (Zab st) s.heap.objs.size f cdv))->sp vs H Q E ->
   ∃ t,PSs (cxOf CX0 P w K mg base N qual (Zab st) f cdv A outer s H E).nox (Zat st) t/\t { nx:=fun _ H'=>Q .non H',rt:=Q } (start N vs) H)
  (ds:List Value) {dvs:List V} (v:Vals dvs ds)
  (hb:∀ (T:Addr) (kV doc pm:Value) (an:Option Addr) (cdv ct:Value) (us:List Value),(us++ds).length=ps.length->∃ k:Option (Array Value)->Sem (List (Str×Value)),bindArgs (PySem.W.fnOf "__init__" qual (Zay st) (Zat st) (Zab st) (.ref T) kV doc pm an cdv ct) ⟨us,[]⟩=seqItems? (.ref T) >>= k/\k (some items)=pure (ps.zip (us++ds))):ZhL P w K mg base (k+1) x C sp dvs:=by
 obtain ⟨f,fd,F,a,i⟩:=D
 exact ⟨c.mgC,f,fd,ps,ds,⟨c.ms,a,i,c.kc⟩,F.fn S len (hbody f),F.binds ds hb,v⟩
end
section
variable {X:Cx} {k:Nat} {C:Addr} {sp:Sp} {x:Str} {p pos:Pos} {e:Expr} {es:List Expr} {t:TA} {dvs:List V}
theorem Zd7 (c:ZhL X.prog X.w X.K X.mg X.base k x C sp dvs) (hr:Room (k+1) X.A) (hg:Gl X x) (ha:PA X (e::es) t) (hdb:(x==("__debug__" : Str))=false:=by decide)
  (he:starEach (e::es) X.env=(false,eval e X.env)::starEach es X.env:=by rfl) (hpl:(backTo pos (starEach es X.env)).any (·.1)=false:=by rfl) :
  PE X (.Call (.Name x p) (e::es) [] pos) (tMake C sp dvs E0 t):=by
 obtain ⟨m,f,fd,ps,ds,M,F,b,v⟩:=c
 exact ZjW M F hr hg m b v pass0 ha hdb he hpl
end
theorem Zmf {σ:St} {H:Hp} {Q:VK} {C:Addr} {sp:Sp} {t:TA} {dvs:List V} (q:t σ H fun vs H1=>∀ x dx,H1 x=none->H1 dx=none->dx≠x->sp (.ref x::(vs++dvs)) (upd (upd H1 dx (.own x)) x (.ins C dx [])) (fun v H2=>v=.non/\Q (.ref x) H2) E0):tMake C sp dvs E0 t σ H Q:=q
noncomputable def KeptX (X:Addr->Prop) (H H':Hp):Prop:=∀ b o,H b=some o->¬ X b->H' b=some o
section
variable {X Y:Addr->Prop} {H H1 H2:Hp}
theorem KeptX.refl:KeptX X H H:=fun _ _ e _=>e
theorem KeptX.trans (a:KeptX X H H1) (b:KeptX X H1 H2):KeptX X H H2:=fun c o e n=>b c o (a c o e n) n
theorem KeptX.mono (a:KeptX X H H1) (h:∀ b,X b->Y b):KeptX Y H H1:=fun c o e n=>a c o e fun z=>n (h c z)
theorem Same.keptX (s:Same H H1):KeptX X H H1:=fun c o e _=>s c o e
theorem KeptX.upd {b:Addr} {o:HO} (h:X b):KeptX X H (L2.upd H b o):=fun c u e n=>by
 have hc:c≠b:=fun z=>by rw [z] at n;exact n h
 rw [Zai hc];exact e
theorem KeptX.new {b:Addr} {o:HO} (h:H b=none):KeptX X H (L2.upd H b o):=(Same.new h).keptX
theorem KeptX.imm (a:KeptX X H H1) (h:∀ b o,X b->H b=some o->¬ Imm o):SameI H H1:=fun b u e i=>a b u e fun z=>h b u z e i
end
end L2
local macro_rules|`(tactic| walk_at "settle")=>`(tactic| first
 | (simp only [L2.start,List.map_cons,List.map_nil,List.length_cons,List.length_nil,List.replicate,List.cons_append,List.nil_append,List.append_nil,List.set_cons_zero,List.set_cons_succ,Nat.reduceAdd,Nat.reduceSub];done)
 | (simp only [L2.start,List.map_cons,List.map_nil,List.length_cons,List.length_nil,List.replicate,List.cons_append,List.nil_append,List.append_nil,List.set_cons_zero,List.set_cons_succ,Nat.reduceAdd,Nat.reduceSub];rfl)
 | rfl
 | fail)
local macro_rules|`(tactic| walk_at "side")=>`(tactic| first
 | exact ⟨by decide,by decide⟩
 | exact ⟨by decide,by decide,by decide⟩
 | (show (0:Int)<_;first|decide|omega)
 | (show (0:Int)<=_;first|decide|omega)
 | (show (0:Int)<_/\_<_;refine ⟨by omega,by omega⟩)
 | (show (_/\_)\/_;refine .inl ⟨by omega,by omega⟩)
 | (show _\/(_/\_);refine .inr ⟨by omega,by omega⟩)
 | fail)
local macro_rules|`(tactic| walk_at "rd")=>`(tactic| first
 | with_reducible refine L2.rd_seq ?_
 | with_reducible refine L2.rd_asg ?_
 | ((with_reducible refine' L2.Zl7 ?e ?_);(case e=>walk_at "settle"))
 | with_reducible refine L2.rd_C ?_
 | ((with_reducible refine' L2.rd_V ?e ?_);(case e=>rfl))
 | with_reducible refine L2.rd_op ?_
 | with_reducible refine L2.rd_I0 ?_
 | ((with_reducible refine' L2.rd_I ?c ?_);(case c=>walk_at "side"))
 | with_reducible refine L2.rd_eqI ?_
 | with_reducible refine L2.rd_eqS ?_
 | with_reducible refine L2.rd_neI ?_
 | with_reducible refine L2.rd_neS ?_
 | with_reducible refine L2.rd_eqB ?_
 | with_reducible refine L2.rd_neB ?_
 | with_reducible refine L2.ZnG ?_
 | with_reducible refine L2.rd_B ?_
 | with_reducible refine L2.rd_bl ?_
 | with_reducible refine L2.rd_ifS ?_
 | with_reducible refine L2.rd_if ?_
 | with_reducible refine L2.Zds (fun _=>?_) (fun _=>?_)
 | with_reducible refine L2.ZcH (fun _=>?_) (fun _=>?_)
 | with_reducible refine L2.rd_iteNND (fun _=>?_) (fun _=>?_)
 | with_reducible refine L2.iteT ?_
 | with_reducible refine L2.iteF ?_
 | with_reducible refine L2.iteNT ?_
 | with_reducible refine L2.iteNF ?_
 | with_reducible refine L2.Zm6 ?_
 | with_reducible refine L2.ZnF ?_
 | with_reducible refine L2.Zke ?_
 | with_reducible refine L2.rd_and ?_
 | with_reducible refine L2.rd_or ?_
 | with_reducible refine L2.rd_not ?_
 | with_reducible refine L2.ZnH ?_
 | with_reducible refine L2.rd_orV ?_
 | with_reducible refine L2.ZnI ?_
 | with_reducible refine L2.ZnJ ?_
 | with_reducible refine L2.Zfk ?_
 | with_reducible refine L2.ZnS ?_
 | with_reducible refine L2.ZnK ?_
 | with_reducible refine L2.rd_CB ?_
 | with_reducible refine L2.ZlW ?_
 | with_reducible refine L2.rd_un ?_
 | with_reducible refine L2.rd_U ?_
 | with_reducible refine L2.rd_tup ?_
 | with_reducible refine L2.rd_lst ?_
 | fail)
local macro_rules|`(tactic| walk_at "sql")=>`(tactic| first
 | assumption
 | exact L2.sql_new
 | exact L2.Zkf
 | exact L2.Zas (by assumption)
 | exact L2.ZaA (by assumption)
 | exact L2.TupK.sqt (by assumption) _
 | (refine L2.SqL.updN ?_ (by assumption);walk_at "sql")
 | (refine L2.SqT.updN ?_ (by assumption);walk_at "sql")
 | fail)
local macro_rules|`(tactic| walk_at "hp")=>`(tactic| first
 | assumption
 | exact L2.Zag
 | exact Eq.trans (L2.Zai (L2.Zaj L2.Zag (by assumption))) L2.Zag
 | fail)
local macro_rules|`(tactic| walk_at "rdl")=>`(tactic| first
 | walk_at "rd"
 | ((with_reducible refine' L2.ZaH ?h ?e ?_);(case h=>walk_at "sql");(case e=>rfl))
 | ((with_reducible refine' L2.Zcn ?h ?e ?_);(case h=>walk_at "sql");(case e=>rfl))
 | with_reducible refine L2.rd_sl ?_
 | with_reducible refine L2.Zkh ?_
 | with_reducible refine L2.ZnL ?_
 | with_reducible refine L2.rd_ei ?_
 | ((with_reducible refine' L2.Zkg ?h ?_);(case h=>walk_at "sql"))
 | fail)
local macro_rules|`(tactic| walk_at "rda")=>`(tactic| first
 | walk_at "rdl"
 | ((with_reducible refine' L2.rd_aug ?e ?_);(case e=>rfl))
 | with_reducible refine L2.rd_ipI ?_
 | with_reducible refine L2.ZhH ?_
 | with_reducible refine L2.Zkj ?_
 | with_reducible refine L2.rd_abs ?_
 | ((with_reducible refine' L2.rd_isi ?e ?_);(case e=>rfl))
 | ((with_reducible refine' L2.ZnP ?e ?_);(case e=>rfl))
 | ((with_reducible refine' L2.ZnQ ?h ?e ?_);(case h=>walk_at "sql");(case e=>rfl))
 | ((with_reducible refine' L2.ZnR ?h ?e ?_);(case h=>walk_at "sql");(case e=>rfl))
 | ((with_reducible refine' L2.Zkk ?h ?_);(case h=>walk_at "sql"))
 | ((with_reducible refine' L2.ZnM ?h ?_);(case h=>walk_at "sql"))
 | fail)
local macro_rules|`(tactic| walk_at "sz")=>`(tactic| first
 | assumption
 | exact Nat.le_trans (by assumption) (by decide)
 | decide
 | fail)
local macro_rules|`(tactic| walk_at "rdt")=>`(tactic| first
 | walk_at "rda"
 | with_reducible refine L2.rd_bm ?_
 | with_reducible refine L2.rd_bm0 ?_
 | with_reducible refine L2.rd_tyS ?_
 | with_reducible refine L2.rd_find ?_
 | with_reducible refine L2.rd_inS ?_
 | with_reducible refine L2.rd_notInS ?_
 | with_reducible refine L2.rd_sb ?_
 | with_reducible refine L2.rd_ord ?_
 | with_reducible refine L2.ZnU ?_
 | with_reducible refine L2.rd_isNi ?_
 | with_reducible refine L2.ZnV ?_
 | with_reducible refine L2.rd_notN0 ?_
 | with_reducible refine L2.rd_notNi ?_
 | with_reducible refine L2.rd_notNr ?_
 | ((with_reducible refine' L2.rd_lenZ ?h ?_);(case h=>walk_at "sz"))
 | ((with_reducible refine' L2.rd_slS ?h ?_);(case h=>walk_at "sz"))
 | fail)
local macro_rules|`(tactic| walk_at "rdq")=>`(tactic| first
 | ((with_reducible refine L2.Zds (fun _=>?_) (fun _=>?_))<;>(try (exfalso;omega)))
 | ((with_reducible refine L2.ZcH (fun _=>?_) (fun _=>?_))<;>(try (exfalso;omega)))
 | ((with_reducible refine L2.rd_iteNND (fun _=>?_) (fun _=>?_))<;>(try (exfalso;omega)))
 | walk_at "rdt"
 | fail)
local macro_rules|`(tactic| walk_at "rdj")=>`(tactic| first
 | ((with_reducible refine' L2.rd_addJ ?h (fun _ _=>?_));(case h=>omega))
 | ((with_reducible refine' L2.rd_slJ ?h (fun _ _=>?_));(case h=>omega))
 | walk_at "rdq"
 | fail)
local macro_rules|`(tactic| walk_at "rdm")=>`(tactic| first
 | walk_at "rdt"
 | ((with_reducible refine' L2.ZfB ?h (fun _ _=>?_));(case h=>walk_at "sql"))
 | ((with_reducible refine' L2.rd_listT ?h (fun _ _=>?_));(case h=>walk_at "sql"))
 | with_reducible refine L2.Zn0 ?_
 | fail)
local macro_rules|`(tactic| walk_at "rdk")=>`(tactic| first
 | walk_at "rdm"
 | with_reducible refine L2.rd_fld ?_
 | with_reducible refine L2.ZnW ?_
 | with_reducible refine L2.ZkB ?_
 | with_reducible refine L2.Zn5 ?_
 | with_reducible refine L2.Zn6 ?_
 | with_reducible refine L2.ZnX ?_
 | with_reducible refine L2.Zn3 ?_
 | ((with_reducible refine' L2.rd_sum ?h ?_);(case h=>walk_at "sql"))
 | with_reducible refine L2.Zl5 ?_
 | with_reducible refine L2.Zl4 (fun _ _=>?_)
 | with_reducible refine L2.rd_din ?_
 | with_reducible refine L2.rd_dnotin ?_
 | with_reducible refine L2.ZnY ?_
 | with_reducible refine L2.ZnZ ?_
 | with_reducible refine L2.rd_dpop1 ?_
 | with_reducible refine L2.Zl9 ?_
 | with_reducible refine L2.rd_gcons ?_
 | with_reducible refine L2.rd_gnil ?_
 | ((with_reducible refine' L2.rd_gtup ?h ?e ?_);(case h=>walk_at "sql");(case e=>rfl))
 | fail)
local macro_rules|`(tactic| walk_at "rdz")=>`(tactic| first
 | ((with_reducible refine L2.Zds (fun _=>?_) (fun _=>?_))<;>(try (exfalso;omega)))
 | ((with_reducible refine L2.ZcH (fun _=>?_) (fun _=>?_))<;>(try (exfalso;omega)))
 | ((with_reducible refine L2.rd_iteNND (fun _=>?_) (fun _=>?_))<;>(try (exfalso;omega)))
 | walk_at "rdk"
 | fail)
local macro_rules|`(tactic| walk_at "rdx")=>`(tactic| first
 | with_reducible refine L2.Zds (fun h=>absurd h (by decide)) (fun _=>?_)
 | with_reducible refine L2.Zds (fun _=>?_) (fun h=>absurd (by decide) h)
 | with_reducible refine L2.ZcH (fun h=>absurd (by decide) h) (fun _=>?_)
 | with_reducible refine L2.ZcH (fun _=>?_) (fun h=>absurd h (by decide))
 | walk_at "rdk"
 | fail)
namespace My
open PySem L2
theorem szl_0:0<=sizeLine:=by decide
theorem szl_1:1<=sizeLine:=by decide
theorem szl_2:2<=sizeLine:=by decide
theorem szl_3:3<=sizeLine:=by decide
theorem szl_4:4<=sizeLine:=by decide
theorem szl_5:5<=sizeLine:=by decide
theorem szl_6:6<=sizeLine:=by decide
theorem szl_7:7<=sizeLine:=by decide
theorem szl_11:11<=sizeLine:=by decide
local macro_rules|`(tactic| walk_at "nx")=>`(tactic| try simp only [L2.nox_K,L2.nox_P,L2.nox_w,L2.nox_mg,L2.ZlX,L2.cxOf_K,L2.cxOf_P,L2.cxOf_w,L2.ZnT,L2.Zko])
noncomputable def top (i:Nat):Stmt:=PySem.Challenge.pw_meterhouse_k37_whole_look_changes_nothin.main.body.getD i (.Pass ⟨0,0,0,0⟩)
noncomputable abbrev s__wall:Stmt:=top 0
noncomputable abbrev ZhM:Stmt:=top 6
noncomputable abbrev ZhN:Stmt:=top 7
noncomputable abbrev ZfE:Stmt:=top 8
noncomputable abbrev ZhO:Stmt:=top 9
noncomputable abbrev Zce:Stmt:=top 11
noncomputable abbrev Zcu:Stmt:=top 13
noncomputable abbrev Zcv:Stmt:=top 15
noncomputable abbrev ZhP:Stmt:=top 25
noncomputable abbrev Zdu:Stmt:=top 26
noncomputable abbrev Zcw:Stmt:=top 27
noncomputable abbrev ZcZ:Stmt:=top 28
noncomputable abbrev Zc0:Stmt:=top 29
noncomputable abbrev Zdv:Stmt:=top 30
noncomputable abbrev Zez:Stmt:=top 31
noncomputable abbrev ZeA:Stmt:=top 32
noncomputable abbrev Zc1:Stmt:=top 33
noncomputable abbrev Zcf:Stmt:=top 34
noncomputable abbrev ZeB:Stmt:=top 35
noncomputable abbrev ZfF:Stmt:=top 36
noncomputable abbrev ZfG:Stmt:=top 38
noncomputable abbrev Zcx:Stmt:=top 40
noncomputable abbrev Zdw:Stmt:=top 41
noncomputable abbrev Zdx:Stmt:=top 42
noncomputable abbrev Zdy:Stmt:=top 43
noncomputable abbrev Zdz:Stmt:=top 44
noncomputable abbrev Zcy:Stmt:=top 45
noncomputable abbrev ZdA:Stmt:=top 46
noncomputable abbrev Zcz:Stmt:=top 47
noncomputable abbrev ZdB:Stmt:=top 48
noncomputable abbrev ZdC:Stmt:=top 49
noncomputable abbrev ZfH:Stmt:=top 50
noncomputable abbrev ZdD:Stmt:=top 51
noncomputable abbrev ZdE:Stmt:=top 52
noncomputable abbrev ZdF:Stmt:=top 53
noncomputable abbrev ZdG:Stmt:=top 54
noncomputable abbrev ZdH:Stmt:=top 55
noncomputable abbrev ZdI:Stmt:=top 56
noncomputable abbrev ZdJ:Stmt:=top 57
noncomputable abbrev ZfI:Stmt:=top 59
noncomputable abbrev Zcg:Stmt:=top 63
noncomputable abbrev Zch:Stmt:=top 64
noncomputable abbrev Zc2:Stmt:=top 65
noncomputable abbrev Zc3:Stmt:=top 66
noncomputable abbrev Zb6:Stmt:=top 67
noncomputable abbrev ZcA:Stmt:=top 68
noncomputable abbrev Zbz:Stmt:=top 69
noncomputable abbrev ZcM:Stmt:=top 70
noncomputable abbrev Zd8:Stmt:=top 71
noncomputable abbrev ZfJ:Stmt:=top 72
noncomputable abbrev s_go:Stmt:=top 73
noncomputable abbrev ZhQ:Stmt:=top 74
noncomputable abbrev ZdK:Stmt:=top 78
noncomputable abbrev Zc4:Stmt:=top 79
noncomputable abbrev Zc5:Stmt:=top 80
noncomputable abbrev ZeC:Stmt:=top 81
noncomputable abbrev ZdL:Stmt:=top 82
noncomputable abbrev Zc6:Stmt:=top 83
noncomputable abbrev ZfK:Stmt:=top 84
noncomputable abbrev Zdj:Stmt:=top 85
noncomputable abbrev Zd9:Stmt:=top 86
noncomputable abbrev Zjm:Stmt:=top 87
noncomputable abbrev ZaR:Stmt:=ZaK (top 12) 0
noncomputable abbrev ZaZ:Stmt:=ZaK (top 12) 1
noncomputable abbrev Zbe:Stmt:=ZaK (top 12) 2
noncomputable abbrev Za6:Stmt:=ZaK (top 12) 3
noncomputable abbrev s_Deed_do:Stmt:=ZaK (top 16) 0
noncomputable abbrev Zn8:Stmt:=ZaK (top 16) 1
noncomputable abbrev Zn9:Stmt:=ZaK (top 16) 2
noncomputable abbrev Zna:Stmt:=ZaK (top 16) 3
noncomputable abbrev Zly:Stmt:=ZaK (top 16) 4
noncomputable abbrev Za7:Stmt:=ZaK (top 17) 0
noncomputable abbrev ZbY:Stmt:=ZaK (top 17) 1
noncomputable abbrev ZbA:Stmt:=ZaK (top 17) 2
noncomputable abbrev ZbB:Stmt:=ZaK (top 17) 3
noncomputable abbrev Znb:Stmt:=ZaK (top 17) 4
noncomputable abbrev Zlz:Stmt:=ZaK (top 17) 5
noncomputable abbrev Za8:Stmt:=ZaK (top 18) 0
noncomputable abbrev ZbZ:Stmt:=ZaK (top 18) 1
noncomputable abbrev ZbC:Stmt:=ZaK (top 18) 2
noncomputable abbrev ZbD:Stmt:=ZaK (top 18) 3
noncomputable abbrev ZlA:Stmt:=ZaK (top 18) 4
noncomputable abbrev Za9:Stmt:=ZaK (top 19) 0
noncomputable abbrev ZbE:Stmt:=ZaK (top 19) 1
noncomputable abbrev ZaC:Stmt:=ZaK (top 22) 0
noncomputable abbrev Zbo:Stmt:=ZaK (top 22) 1
noncomputable abbrev ZaU:Stmt:=ZaK (top 22) 2
noncomputable abbrev ZaQ:Stmt:=ZaK (top 22) 3
noncomputable abbrev Zbm:Stmt:=ZaK (top 22) 4
noncomputable abbrev ZbF:Stmt:=ZaK (top 22) 5
noncomputable abbrev Zbf:Stmt:=ZaK (top 22) 6
noncomputable abbrev Zbp:Stmt:=ZaK (top 22) 7
noncomputable abbrev ZaS:Stmt:=ZaK (top 76) 0
noncomputable abbrev Zba:Stmt:=ZaK (top 76) 1
noncomputable abbrev Zbg:Stmt:=ZaK (top 76) 2
noncomputable abbrev Zbh:Stmt:=ZaK (top 76) 3
noncomputable abbrev Za3:Stmt:=ZaK (top 76) 4
noncomputable abbrev ZkD:Stmt:=ZaK (top 76) 5
noncomputable abbrev Zjn:Stmt:=ZaK (top 76) 6
noncomputable abbrev Zb0:Stmt:=ZaK (top 16) 0
noncomputable abbrev ZbG:Stmt:=ZaK (top 16) 1
structure T_Account (K:PySem.W.Frag) (mg:Str->Option Value) (C:Addr):Prop where
 k:ClsF K mg "Account" C
 n_coin:NoAttr K C "coin"
 n_purse:NoAttr K C "purse"
 n_count:NoAttr K C "count"
 n_program:NoAttr K C "program"
 n_store:NoAttr K C "store"
structure T_Deed (K:PySem.W.Frag) (mg:Str->Option Value) (C:Addr):Prop where
 k:ClsF K mg "Deed" C
structure T_Save (K:PySem.W.Frag) (mg:Str->Option Value) (C:Addr):Prop where
 k:ClsF K mg "Save" C
 n_slot:NoAttr K C "slot"
 n_place:NoAttr K C "place"
 n_old:NoAttr K C "old"
 n_new:NoAttr K C "new"
structure T_Move (K:PySem.W.Frag) (mg:Str->Option Value) (C:Addr):Prop where
 k:ClsF K mg "Move" C
 n_slot:NoAttr K C "slot"
 n_taker:NoAttr K C "taker"
 n_many:NoAttr K C "many"
structure T_Note (K:PySem.W.Frag) (mg:Str->Option Value) (C:Addr):Prop where
 k:ClsF K mg "Note" C
 n_slot:NoAttr K C "slot"
 n_number:NoAttr K C "number"
structure T_Frame (K:PySem.W.Frag) (mg:Str->Option Value) (C:Addr):Prop where
 k:ClsF K mg "Frame" C
 n_kind:NoAttr K C "kind"
 n_who:NoAttr K C "who"
 n_whose:NoAttr K C "whose"
 n_caller:NoAttr K C "caller"
 n_coin:NoAttr K C "coin"
 n_word:NoAttr K C "word"
 n_given:NoAttr K C "given"
 n_depth:NoAttr K C "depth"
 n_looking:NoAttr K C "looking"
 n_used:NoAttr K C "used"
 n_stack:NoAttr K C "stack"
 n_row:NoAttr K C "row"
 n_steps:NoAttr K C "steps"
 n_end:NoAttr K C "end"
 n_answer:NoAttr K C "answer"
structure T_Journal (K:PySem.W.Frag) (mg:Str->Option Value) (C:Addr):Prop where
 k:ClsF K mg "Journal" C
 n_rooms:NoAttr K C "rooms"
 n_deeds:NoAttr K C "deeds"
theorem bd1 {R:List Value->Prop} (h:∀ a,R [a]) (us:List Value) (hl:us.length=1):R us:=by
 cases us with
 | nil=>cases hl
 | cons a r =>
  cases r with
  | nil=>exact h a
  | cons b r=>cases hl
theorem bdS {R:List Value->Prop} {n:Nat} (h:∀ a (r:List Value),r.length=n->R (a::r)) (us:List Value) (hl:us.length=n+1):R us:=by
 cases us with
 | nil=>cases hl
 | cons a r=>exact h a r (Nat.succ.inj hl)
theorem bd2 {R:List Value->Prop} (h:∀ a b,R [a,b]) (us:List Value) (hl:us.length=2):R us:=bdS (n:=1) (fun a r hr=>bd1 (R:=fun r=>R (a::r)) (h a) r hr) us hl
theorem bd3 {R:List Value->Prop} (h:∀ a b c,R [a,b,c]) (us:List Value) (hl:us.length=3):R us:=bdS (n:=2) (fun a r hr=>bd2 (R:=fun r=>R (a::r)) (h a) r hr) us hl
theorem bd4 {R:List Value->Prop} (h:∀ a b c d,R [a,b,c,d]) (us:List Value) (hl:us.length=4):R us:=bdS (n:=3) (fun a r hr=>bd3 (R:=fun r=>R (a::r)) (h a) r hr) us hl
theorem bd5 {R:List Value->Prop} (h:∀ a b c d e,R [a,b,c,d,e]) (us:List Value) (hl:us.length=5):R us:=bdS (n:=4) (fun a r hr=>bd4 (R:=fun r=>R (a::r)) (h a) r hr) us hl
theorem bd6 {R:List Value->Prop} (h:∀ a0 a1 a2 a3 a4 a5,R [a0,a1,a2,a3,a4,a5]) (us:List Value) (hl:us.length=6):R us:=bdS (n:=5) (fun a r hr=>bd5 (R:=fun r=>R (a::r)) (h a) r hr) us hl
theorem bd7 {R:List Value->Prop} (h:∀ a0 a1 a2 a3 a4 a5 a6,R [a0,a1,a2,a3,a4,a5,a6]) (us:List Value) (hl:us.length=7):R us:=bdS (n:=6) (fun a r hr=>bd6 (R:=fun r=>R (a::r)) (h a) r hr) us hl
theorem bd8 {R:List Value->Prop} (h:∀ a0 a1 a2 a3 a4 a5 a6 a7,R [a0,a1,a2,a3,a4,a5,a6,a7]) (us:List Value) (hl:us.length=8):R us:=bdS (n:=7) (fun a r hr=>bd7 (R:=fun r=>R (a::r)) (h a) r hr) us hl
theorem bd9 {R:List Value->Prop} (h:∀ a0 a1 a2 a3 a4 a5 a6 a7 a8,R [a0,a1,a2,a3,a4,a5,a6,a7,a8]) (us:List Value) (hl:us.length=9):R us:=bdS (n:=8) (fun a r hr=>bd8 (R:=fun r=>R (a::r)) (h a) r hr) us hl
theorem bd10 {R:List Value->Prop} (h:∀ a0 a1 a2 a3 a4 a5 a6 a7 a8 a9,R [a0,a1,a2,a3,a4,a5,a6,a7,a8,a9]) (us:List Value) (hl:us.length=10):R us:=bdS (n:=9) (fun a r hr=>bd9 (R:=fun r=>R (a::r)) (h a) r hr) us hl
noncomputable def sCut (t:TS):TS:=fun D σ H=>∃ P:St->Hp->Prop,t { D with nx:=P } σ H/\∀ σ' H',P σ' H'->D.nx σ' H'
theorem Znc {t:TS} {D:Ends} {σ:St} {H:Hp} (P:St->Hp->Prop) (q:t { D with nx:=P } σ H) (m:∀ σ' H',P σ' H'->D.nx σ' H'):sCut t D σ H:=⟨P,q,m⟩
theorem Znd {X:Cx} {st:Stmt} {t:TS} (h:PS X st t):PS X st (sCut t):=by
 intro pins s σ H D I q
 obtain ⟨P,q,m⟩:=q
 refine wpAny_mono (h pins s σ H { D with nx:=P } I q) (fun f s' z=>?_) fun _ _ z=>z
 cases f with
 | next=>obtain ⟨σ',H',I',q'⟩:=z;exact ⟨σ',H',I',m _ _ q'⟩
 | brk=>exact z
 | cont=>exact z
 | ret u=>exact z
noncomputable abbrev W64:Int:=18446744073709551616
noncomputable def sp2 (f:Int->Int->Int) (C:Int->Int->Prop):Sp:=fun vs H Q _=>∃ a b,vs=[.int a,.int b]/\C a b/\Q (.int (f a b)) H
noncomputable def In64 (a:Int):Prop:=0<=a/\a<18446744073709551616
noncomputable def rkAdd (a b:Int):Int:=(a+b) % 18446744073709551616
noncomputable def rkSub (a b:Int):Int:=(a-b) % 18446744073709551616
noncomputable def rkMul (a b:Int):Int:=a*b % 18446744073709551616
noncomputable def rkDiv (a b:Int):Int:=if b=0 then 0 else a / b
noncomputable def rkMod (a b:Int):Int:=if b=0 then 0 else a % b
noncomputable def rkLt (a b:Int):Int:=if a<b then 1 else 0
noncomputable def rkEq (a b:Int):Int:=if a=b then 1 else 0
noncomputable def rkAnd (a b:Int):Int:=Builtin.bitAnd a b
noncomputable def rkOr (a b:Int):Int:=Builtin.bitOr a b
noncomputable def rkXor (a b:Int):Int:=Builtin.bitXor a b
noncomputable def rkUp (a b:Int):Int:=if 64<=b then 0 else a*2 ^ b.toNat % 18446744073709551616
noncomputable def rkDown (a b:Int):Int:=if 64<=b then 0 else a / 2 ^ b.toNat
noncomputable def ZaX (a b:Int):Prop:=In64 a/\In64 b
noncomputable def RK:List (Str×(Int->Int->Int)):=[("add", rkAdd),("minus", rkSub),("times", rkMul),("over", rkDiv),("rest", rkMod),("below", rkLt),("same", rkEq),("both", rkAnd),("either", rkOr),("unlike", rkXor),("up", rkUp),("down", rkDown)]
noncomputable def ZiK:Sp:=fun vs H Q _=>∃ x a b f,vs=[.str x,.int a,.int b]/\RK.lookup x=some f/\ZaX a b/\Q (.int (f a b)) H
noncomputable def Zne (P:Program) (w:World) (K:PySem.W.Frag) (mg:Str->Option Value) (base:Heap) (aS:Addr):Prop :=
 ∃ vs,Zdg P w K aS vs/\∀ x f,RK.lookup x=some f->∃ fa,valueAt vs (.inr x)=some (.ref fa)/\CalF P w K mg base 1 fa (sp2 f ZaX)
section
variable {P:Program} {w:World} {K:PySem.W.Frag} {mg:Str->Option Value} {base:Heap}
theorem Zmg:FnScope ["one", "other"] ["one", "other"] (Zab ZhP):=⟨rfl,rfl,rfl,by decide +kernel,rfl,by decide +kernel,by decide +kernel⟩
theorem Zmh    (D:Zao K mg "added" ZhP) (g_WIDE:ZaW mg "WIDE" (.int 18446744073709551616)):Cal P w K mg base 1 "added" (sp2 rkAdd ZaX):=by
 refine Zaz D Zmg (fun vs H Q E h=>?_) (fun _ _ _ _ _ _ us hl=>bd2 (R:=fun us=>bindArgs _ ⟨us,[]⟩=pure (List.zip _ us)) (fun _ _=>rfl) us hl) (fun f cdv A outer s H vs Q E hr h=>?_)
 .obtain ⟨a,b,rfl,_⟩:=h;rfl
 .obtain ⟨a,b,rfl,⟨⟨ha0,ha1⟩,hb0,hb1⟩,k⟩:=h
  refine ⟨_,(Zaf (Zap (ZaB Za2 (ZaB Zb8 (pv 0) (pv 1)) (ZbL rfl g_WIDE)))),?_⟩
  walk_at "nx"
  repeat' walk_at "rd"
  exact k
theorem ZhR:FnScope ["one", "other"] ["one", "other"] (Zab Zdu):=⟨rfl,rfl,rfl,by decide +kernel,rfl,by decide +kernel,by decide +kernel⟩
theorem ZhS    (D:Zao K mg "lessened" Zdu) (g_WIDE:ZaW mg "WIDE" (.int 18446744073709551616)):Cal P w K mg base 1 "lessened" (sp2 rkSub ZaX):=by
 refine Zaz D ZhR (fun vs H Q E h=>?_) (fun _ _ _ _ _ _ us hl=>bd2 (R:=fun us=>bindArgs _ ⟨us,[]⟩=pure (List.zip _ us)) (fun _ _=>rfl) us hl) (fun f cdv A outer s H vs Q E hr h=>?_)
 .obtain ⟨a,b,rfl,_⟩:=h;rfl
 .obtain ⟨a,b,rfl,⟨⟨ha0,ha1⟩,hb0,hb1⟩,k⟩:=h
  refine ⟨_,(Zaf (Zap (ZaB Za2 (ZaB Zee (pv 0) (pv 1)) (ZbL rfl g_WIDE)))),?_⟩
  walk_at "nx"
  repeat' walk_at "rd"
  exact k
theorem ZfL:FnScope ["one", "other"] ["one", "other"] (Zab Zcw):=⟨rfl,rfl,rfl,by decide +kernel,rfl,by decide +kernel,by decide +kernel⟩
theorem ZfM    (D:Zao K mg "multiplied" Zcw) (g_WIDE:ZaW mg "WIDE" (.int 18446744073709551616)):Cal P w K mg base 1 "multiplied" (sp2 rkMul ZaX):=by
 refine Zaz D ZfL (fun vs H Q E h=>?_) (fun _ _ _ _ _ _ us hl=>bd2 (R:=fun us=>bindArgs _ ⟨us,[]⟩=pure (List.zip _ us)) (fun _ _=>rfl) us hl) (fun f cdv A outer s H vs Q E hr h=>?_)
 .obtain ⟨a,b,rfl,_⟩:=h;rfl
 .obtain ⟨a,b,rfl,⟨⟨ha0,ha1⟩,hb0,hb1⟩,k⟩:=h
  refine ⟨_,(Zaf (Zap (ZaB Za2 (ZaB Ziy (pv 0) (pv 1)) (ZbL rfl g_WIDE)))),?_⟩
  walk_at "nx"
  repeat' walk_at "rd"
  exact k
theorem ZgM:FnScope ["one", "other"] ["one", "other"] (Zab ZcZ):=⟨rfl,rfl,rfl,by decide +kernel,rfl,by decide +kernel,by decide +kernel⟩
theorem ZgN    (D:Zao K mg "contained" ZcZ):Cal P w K mg base 1 "contained" (sp2 rkDiv ZaX):=by
 refine Zaz D ZgM (fun vs H Q E h=>?_) (fun _ _ _ _ _ _ us hl=>bd2 (R:=fun us=>bindArgs _ ⟨us,[]⟩=pure (List.zip _ us)) (fun _ _=>rfl) us hl) (fun f cdv A outer s H vs Q E hr h=>?_)
 .obtain ⟨a,b,rfl,_⟩:=h;rfl
 .obtain ⟨a,b,rfl,⟨⟨ha0,ha1⟩,hb0,hb1⟩,k⟩:=h
  refine ⟨_,(Zad (Zbd (Zau Zco (pv 1) Zae (nomark _)) (Zaf (Zap Zae)) ZaJ)
   (Zaf (Zap (ZaB Zbk (pv 0) (pv 1))))),?_⟩
  walk_at "nx"
  repeat' walk_at "rd"
  .rename_i e;exact ZbS (by unfold rkDiv;rw [if_pos e]) k
  .rename_i e;exact ZbS (by unfold rkDiv;rw [if_neg e]) k
theorem ZgO:FnScope ["one", "other"] ["one", "other"] (Zab Zc0):=⟨rfl,rfl,rfl,by decide +kernel,rfl,by decide +kernel,by decide +kernel⟩
theorem ZgP    (D:Zao K mg "left_over" Zc0):Cal P w K mg base 1 "left_over" (sp2 rkMod ZaX):=by
 refine Zaz D ZgO (fun vs H Q E h=>?_) (fun _ _ _ _ _ _ us hl=>bd2 (R:=fun us=>bindArgs _ ⟨us,[]⟩=pure (List.zip _ us)) (fun _ _=>rfl) us hl) (fun f cdv A outer s H vs Q E hr h=>?_)
 .obtain ⟨a,b,rfl,_⟩:=h;rfl
 .obtain ⟨a,b,rfl,⟨⟨ha0,ha1⟩,hb0,hb1⟩,k⟩:=h
  refine ⟨_,(Zad (Zbd (Zau Zco (pv 1) Zae (nomark _)) (Zaf (Zap Zae)) ZaJ)
   (Zaf (Zap (ZaB Za2 (pv 0) (pv 1))))),?_⟩
  walk_at "nx"
  repeat' walk_at "rd"
  .rename_i e;exact ZbS (by unfold rkMod;rw [if_pos e]) k
  .rename_i e;exact ZbS (by unfold rkMod;rw [if_neg e]) k
theorem ZhT:FnScope ["one", "other"] ["one", "other"] (Zab Zdv):=⟨rfl,rfl,rfl,by decide +kernel,rfl,by decide +kernel,by decide +kernel⟩
theorem ZhU    (D:Zao K mg "is_below" Zdv):Cal P w K mg base 1 "is_below" (sp2 rkLt ZaX):=by
 refine Zaz D ZhT (fun vs H Q E h=>?_) (fun _ _ _ _ _ _ us hl=>bd2 (R:=fun us=>bindArgs _ ⟨us,[]⟩=pure (List.zip _ us)) (fun _ _=>rfl) us hl) (fun f cdv A outer s H vs Q E hr h=>?_)
 .obtain ⟨a,b,rfl,_⟩:=h;rfl
 .obtain ⟨a,b,rfl,⟨⟨ha0,ha1⟩,hb0,hb1⟩,k⟩:=h
  refine ⟨_,(Zaf (Zap (Zd6 (Zau Zfu (pv 0) (pv 1) (nomark _)) Zae Zae))),?_⟩
  walk_at "nx"
  repeat' walk_at "rd"
  .rename_i e;exact ZbS (by unfold rkLt;rw [if_pos e]) k
  .rename_i e;exact ZbS (by unfold rkLt;rw [if_neg e]) k
theorem Zjo:FnScope ["one", "other"] ["one", "other"] (Zab Zez):=⟨rfl,rfl,rfl,by decide +kernel,rfl,by decide +kernel,by decide +kernel⟩
theorem Zjp    (D:Zao K mg "is_same" Zez):Cal P w K mg base 1 "is_same" (sp2 rkEq ZaX):=by
 refine Zaz D Zjo (fun vs H Q E h=>?_) (fun _ _ _ _ _ _ us hl=>bd2 (R:=fun us=>bindArgs _ ⟨us,[]⟩=pure (List.zip _ us)) (fun _ _=>rfl) us hl) (fun f cdv A outer s H vs Q E hr h=>?_)
 .obtain ⟨a,b,rfl,_⟩:=h;rfl
 .obtain ⟨a,b,rfl,⟨⟨ha0,ha1⟩,hb0,hb1⟩,k⟩:=h
  refine ⟨_,(Zaf (Zap (Zd6 (Zau Zco (pv 0) (pv 1) (nomark _)) Zae Zae))),?_⟩
  walk_at "nx"
  repeat' walk_at "rd"
  .rename_i e;exact ZbS (by unfold rkEq;rw [if_pos e]) k
  .rename_i e;exact ZbS (by unfold rkEq;rw [if_neg e]) k
theorem Zjq:FnScope ["one", "other"] ["one", "other"] (Zab ZeA):=⟨rfl,rfl,rfl,by decide +kernel,rfl,by decide +kernel,by decide +kernel⟩
theorem Zjr    (D:Zao K mg "in_both" ZeA):Cal P w K mg base 1 "in_both" (sp2 rkAnd ZaX):=by
 refine Zaz D Zjq (fun vs H Q E h=>?_) (fun _ _ _ _ _ _ us hl=>bd2 (R:=fun us=>bindArgs _ ⟨us,[]⟩=pure (List.zip _ us)) (fun _ _=>rfl) us hl) (fun f cdv A outer s H vs Q E hr h=>?_)
 .obtain ⟨a,b,rfl,_⟩:=h;rfl
 .obtain ⟨a,b,rfl,⟨⟨ha0,ha1⟩,hb0,hb1⟩,k⟩:=h
  refine ⟨_,(Zaf (Zap (ZaB op_and (pv 0) (pv 1)))),?_⟩
  walk_at "nx"
  repeat' walk_at "rd"
  exact k
theorem ZgQ:FnScope ["one", "other"] ["one", "other"] (Zab Zc1):=⟨rfl,rfl,rfl,by decide +kernel,rfl,by decide +kernel,by decide +kernel⟩
theorem ZgR    (D:Zao K mg "in_either" Zc1):Cal P w K mg base 1 "in_either" (sp2 rkOr ZaX):=by
 refine Zaz D ZgQ (fun vs H Q E h=>?_) (fun _ _ _ _ _ _ us hl=>bd2 (R:=fun us=>bindArgs _ ⟨us,[]⟩=pure (List.zip _ us)) (fun _ _=>rfl) us hl) (fun f cdv A outer s H vs Q E hr h=>?_)
 .obtain ⟨a,b,rfl,_⟩:=h;rfl
 .obtain ⟨a,b,rfl,⟨⟨ha0,ha1⟩,hb0,hb1⟩,k⟩:=h
  refine ⟨_,(Zaf (Zap (ZaB op_or (pv 0) (pv 1)))),?_⟩
  walk_at "nx"
  repeat' walk_at "rd"
  exact k
theorem Ze4:FnScope ["one", "other"] ["one", "other"] (Zab Zcf):=⟨rfl,rfl,rfl,by decide +kernel,rfl,by decide +kernel,by decide +kernel⟩
theorem Ze5    (D:Zao K mg "in_just_one" Zcf):Cal P w K mg base 1 "in_just_one" (sp2 rkXor ZaX):=by
 refine Zaz D Ze4 (fun vs H Q E h=>?_) (fun _ _ _ _ _ _ us hl=>bd2 (R:=fun us=>bindArgs _ ⟨us,[]⟩=pure (List.zip _ us)) (fun _ _=>rfl) us hl) (fun f cdv A outer s H vs Q E hr h=>?_)
 .obtain ⟨a,b,rfl,_⟩:=h;rfl
 .obtain ⟨a,b,rfl,⟨⟨ha0,ha1⟩,hb0,hb1⟩,k⟩:=h
  refine ⟨_,(Zaf (Zap (ZaB op_xor (pv 0) (pv 1)))),?_⟩
  walk_at "nx"
  repeat' walk_at "rd"
  exact k
theorem Zjs:FnScope ["one", "other"] ["one", "other"] (Zab ZeB):=⟨rfl,rfl,rfl,by decide +kernel,rfl,by decide +kernel,by decide +kernel⟩
theorem Zjt    (D:Zao K mg "doubled" ZeB) (n_max:mg "max" = none) (g_FIGURES:ZaW mg "FIGURES" (.int 64)) (g_WIDE:ZaW mg "WIDE" (.int 18446744073709551616)):Cal P w K mg base 1 "doubled" (sp2 rkUp ZaX):=by
 refine Zaz D Zjs (fun vs H Q E h=>?_) (fun _ _ _ _ _ _ us hl=>bd2 (R:=fun us=>bindArgs _ ⟨us,[]⟩=pure (List.zip _ us)) (fun _ _=>rfl) us hl) (fun f cdv A outer s H vs Q E hr h=>?_)
 .obtain ⟨a,b,rfl,_⟩:=h;rfl
 .obtain ⟨a,b,rfl,⟨⟨ha0,ha1⟩,hb0,hb1⟩,k⟩:=h
  refine ⟨_,(Zad (Zbd (Zau Znq (pv 1) (ZbL rfl g_FIGURES) (nomark _)) (Zaf (Zap Zae)) ZaJ)
   (Zaf (Zap (ZaB Za2 (ZaB op_shl (pv 0) (ZaM (Zki rfl) rfl n_max PyProof.Rows.boot_max (Zaa (pv 1) (Zaa Zae Zac)))) (ZbL rfl g_WIDE))))),?_⟩
  walk_at "nx"
  repeat' walk_at "rd"
  .rename_i e;exact ZbS (by unfold rkUp;rw [if_pos e]) k
  .rename_i e
   refine ZhH ?_
   have m0:(if (0:Int)>b then (0:Int) else b)=b:=if_neg (by omega)
   rw [m0]
   refine rd_I ⟨hb0,by omega,by omega⟩ ?_
   repeat walk_at "rd"
   exact ZbS (by unfold rkUp;rw [if_neg e]) k
theorem ZkE:FnScope ["one", "other"] ["one", "other"] (Zab ZfF):=⟨rfl,rfl,rfl,by decide +kernel,rfl,by decide +kernel,by decide +kernel⟩
theorem ZkF    (D:Zao K mg "halved" ZfF) (n_max:mg "max" = none) (g_FIGURES:ZaW mg "FIGURES" (.int 64)):Cal P w K mg base 1 "halved" (sp2 rkDown ZaX):=by
 refine Zaz D ZkE (fun vs H Q E h=>?_) (fun _ _ _ _ _ _ us hl=>bd2 (R:=fun us=>bindArgs _ ⟨us,[]⟩=pure (List.zip _ us)) (fun _ _=>rfl) us hl) (fun f cdv A outer s H vs Q E hr h=>?_)
 .obtain ⟨a,b,rfl,_⟩:=h;rfl
 .obtain ⟨a,b,rfl,⟨⟨ha0,ha1⟩,hb0,hb1⟩,k⟩:=h
  refine ⟨_,(Zad (Zbd (Zau Znq (pv 1) (ZbL rfl g_FIGURES) (nomark _)) (Zaf (Zap Zae)) ZaJ)
   (Zaf (Zap (ZaB op_shr (pv 0) (ZaM (Zki rfl) rfl n_max PyProof.Rows.boot_max (Zaa (pv 1) (Zaa Zae Zac))))))),?_⟩
  walk_at "nx"
  repeat' walk_at "rd"
  .rename_i e;exact ZbS (by unfold rkDown;rw [if_pos e]) k
  .rename_i e
   refine ZhH ?_
   have m0:(if (0:Int)>b then (0:Int) else b)=b:=if_neg (by omega)
   rw [m0]
   refine rd_I hb0 ?_
   repeat walk_at "rd"
   exact ZbS (by unfold rkDown;rw [if_neg e]) k
theorem Zoa {aS:Addr} {u1 u2 u3 u4 u5 u6 u7 u8 u9 u10 u11 u12:Value} (dk:Zdg P w K aS [(Sum.inr "add", u1),(Sum.inr "minus", u2),(Sum.inr "times", u3),(Sum.inr "over", u4),(Sum.inr "rest", u5),(Sum.inr "below", u6),(Sum.inr "same", u7),(Sum.inr "both", u8),(Sum.inr "either", u9),(Sum.inr "unlike", u10),(Sum.inr "up", u11),(Sum.inr "down", u12)])
  (m1:mg "added" = some u1) (m2:mg "lessened" = some u2) (m3:mg "multiplied" = some u3) (m4:mg "contained" = some u4) (m5:mg "left_over" = some u5) (m6:mg "is_below" = some u6) (m7:mg "is_same" = some u7) (m8:mg "in_both" = some u8) (m9:mg "in_either" = some u9) (m10:mg "in_just_one" = some u10) (m11:mg "doubled" = some u11) (m12:mg "halved" = some u12)
  (c1:Cal P w K mg base 1 "added" (sp2 rkAdd ZaX)) (c2:Cal P w K mg base 1 "lessened" (sp2 rkSub ZaX)) (c3:Cal P w K mg base 1 "multiplied" (sp2 rkMul ZaX)) (c4:Cal P w K mg base 1 "contained" (sp2 rkDiv ZaX)) (c5:Cal P w K mg base 1 "left_over" (sp2 rkMod ZaX)) (c6:Cal P w K mg base 1 "is_below" (sp2 rkLt ZaX)) (c7:Cal P w K mg base 1 "is_same" (sp2 rkEq ZaX)) (c8:Cal P w K mg base 1 "in_both" (sp2 rkAnd ZaX)) (c9:Cal P w K mg base 1 "in_either" (sp2 rkOr ZaX)) (c10:Cal P w K mg base 1 "in_just_one" (sp2 rkXor ZaX)) (c11:Cal P w K mg base 1 "doubled" (sp2 rkUp ZaX)) (c12:Cal P w K mg base 1 "halved" (sp2 rkDown ZaX)):Zne P w K mg base aS:=by
 refine ⟨_,dk,fun x f h=>?_⟩
 have hm:=Zbw h
 simp only [RK,List.mem_cons,Prod.mk.injEq,List.not_mem_nil,or_false] at hm
 rcases hm with ⟨rfl,rfl⟩|⟨rfl,rfl⟩|⟨rfl,rfl⟩|⟨rfl,rfl⟩|⟨rfl,rfl⟩|⟨rfl,rfl⟩|⟨rfl,rfl⟩|⟨rfl,rfl⟩|⟨rfl,rfl⟩|⟨rfl,rfl⟩|⟨rfl,rfl⟩|⟨rfl,rfl⟩
 .obtain ⟨fa,m,c⟩:=c1
  rw [m1] at m
  cases m
  exact ⟨fa,rfl,c⟩
 .obtain ⟨fa,m,c⟩:=c2
  rw [m2] at m
  cases m
  exact ⟨fa,rfl,c⟩
 .obtain ⟨fa,m,c⟩:=c3
  rw [m3] at m
  cases m
  exact ⟨fa,rfl,c⟩
 .obtain ⟨fa,m,c⟩:=c4
  rw [m4] at m
  cases m
  exact ⟨fa,rfl,c⟩
 .obtain ⟨fa,m,c⟩:=c5
  rw [m5] at m
  cases m
  exact ⟨fa,rfl,c⟩
 .obtain ⟨fa,m,c⟩:=c6
  rw [m6] at m
  cases m
  exact ⟨fa,rfl,c⟩
 .obtain ⟨fa,m,c⟩:=c7
  rw [m7] at m
  cases m
  exact ⟨fa,rfl,c⟩
 .obtain ⟨fa,m,c⟩:=c8
  rw [m8] at m
  cases m
  exact ⟨fa,rfl,c⟩
 .obtain ⟨fa,m,c⟩:=c9
  rw [m9] at m
  cases m
  exact ⟨fa,rfl,c⟩
 .obtain ⟨fa,m,c⟩:=c10
  rw [m10] at m
  cases m
  exact ⟨fa,rfl,c⟩
 .obtain ⟨fa,m,c⟩:=c11
  rw [m11] at m
  cases m
  exact ⟨fa,rfl,c⟩
 .obtain ⟨fa,m,c⟩:=c12
  rw [m12] at m
  cases m
  exact ⟨fa,rfl,c⟩
theorem ZkG:FnScope ["word", "one", "other"] ["word", "one", "other"] (Zab ZfG):=⟨rfl,rfl,rfl,by decide +kernel,rfl,by decide +kernel,by decide +kernel⟩
theorem ZkH  {aS:Addr} (S:Zne P w K mg base aS)  (D:Zao K mg "reckon" ZfG) (g_SUMS:ZaW mg "SUMS" (.ref aS)):Cal P w K mg base 2 "reckon" ZiK:=by
 refine Zaz D ZkG (fun vs H Q E h=>?_) (fun _ _ _ _ _ _ us hl=>bd3 (R:=fun us=>bindArgs _ ⟨us,[]⟩=pure (List.zip _ us)) (fun _ _ _=>rfl) us hl) (fun f cdv A outer s H vs Q E hr h=>?_)
 .obtain ⟨x,a,b,f,rfl,_⟩:=h;rfl
 .obtain ⟨x,a,b,fn,rfl,hx,hc,k⟩:=h
  refine ⟨_,(Zaf (Zap (ZiF (k:=1) (hr.mono (by decide)) (Zfp (ZbL rfl g_SUMS) (pv 0) (fun _ _=>rfl)) (Zaa (pv 1) (Zaa (pv 2) Zac))))),?_⟩
  walk_at "nx"
  obtain ⟨ws,dk,al⟩:=S
  obtain ⟨fa,hv,cf⟩:=al x fn hx
  refine Zm6 ?_
  show tCallV _ _ _ _ _ _ _ _ _ _ _
  refine ⟨_,rfl,aS,ws,.inr x,.ref fa,.ref fa,rfl,rfl,dk,hv,rfl,fa,_,rfl,cf,?_⟩
  repeat walk_at "rd"
  exact ⟨a,b,rfl,hc,k⟩
end
noncomputable def RT:List (Str×Int×Int×Int×Int):=[("push", 0,1,1,1),("drop", 1,0,1,1),("copy", 1,2,1,1),("swap", 1,1,1,1),("add", 2,1,1,1),("minus", 2,1,1,1),("times", 2,1,2,2),("over", 2,1,2,2),("rest", 2,1,2,2),("below", 2,1,1,1),("same", 2,1,1,1),("both", 2,1,1,1),("either", 2,1,1,1),("unlike", 2,1,1,1),("up", 2,1,1,1),("down", 2,1,1,1),("jump", 0,0,1,1),("jumpif", 1,0,1,1),("load", 1,1,3,3),("save", 2,0,5,12),("me", 0,1,1,1),("from", 0,1,1,1),("sent", 0,1,1,1),("word", 0,1,1,1),("coin", 1,1,3,3),("note", 1,0,4,4),("call", 4,2,8,12),("borrow", 3,2,6,6),("look", 3,2,6,6),("give", 1,0,1,1),("fail", 1,0,1,1)]
noncomputable def rowV (x:Str) (n:Option Int):List V:=rowVs (x,n)
noncomputable def ZbJ (x:Str) (n:Option Int):Option Int:=if inS x ["copy", "swap"]=true then n else some 0
noncomputable def ZgS (P:Program) (w:World) (K:PySem.W.Frag) (aT:Addr):Prop :=
 ∃ vs,Zdg P w K aT vs/\∀ x t l p d,RT.lookup x=some (t,l,p,d)->∃ ta,valueAt vs (.inr x)=some (.ref ta)/\TupK K ta [.int t,.int l,.int p,.int d]
noncomputable def ZbP (K:PySem.W.Frag) (H:Hp) (p:Addr) (x:Str) (n:Option Int):Prop:=SqT K H p (rowV x n)
theorem ZhV {x:Str} {n:Option Int}:atI (rowV x n) 0=some (.str x):=by cases n<;>rfl
noncomputable def ZhW (K:PySem.W.Frag):Sp:=fun vs H Q _=>∃ p x n r,vs=[.ref p]/\ZbP K H p x n/\ZbJ x n=some r/\Q (.int r) H
noncomputable def ZfN (K:PySem.W.Frag):Sp:=fun vs H Q _=>∃ p x n r t l pr d,vs=[.ref p]/\ZbP K H p x n/\ZbJ x n=some r/\RT.lookup x=some (t,l,pr,d)/\Q (.int (t+r)) H
noncomputable def ZiL (K:PySem.W.Frag):Sp:=fun vs H Q _=>∃ p x n r t l pr d,vs=[.ref p]/\ZbP K H p x n/\ZbJ x n=some r/\RT.lookup x=some (t,l,pr,d)/\Q (.int (l+r)) H
noncomputable def ZkI (K:PySem.W.Frag):Sp:=fun vs H Q _=>∃ p x n t l pr d b,vs=[.ref p,.bl b]/\ZbP K H p x n/\RT.lookup x=some (t,l,pr,d)/\Q (.int (if b=true then d else pr)) H
local macro_rules|`(tactic| walk_at "rw")=>`(tactic| first
 | walk_at "rdk"
 | ((with_reducible refine' L2.Zcn ?h ?e ?_);(case h=>assumption);(case e=>exact My.ZhV))
 | fail)
local macro_rules|`(tactic| walk_at "rz")=>`(tactic| first
 | ((with_reducible refine L2.Zds (fun _=>?_) (fun _=>?_))<;>(try (exfalso;omega)))
 | ((with_reducible refine L2.ZcH (fun _=>?_) (fun _=>?_))<;>(try (exfalso;omega)))
 | ((with_reducible refine L2.rd_iteNND (fun _=>?_) (fun _=>?_))<;>(try (exfalso;omega)))
 | walk_at "rw"
 | fail)
section
variable {P:Program} {w:World} {K:PySem.W.Frag} {mg:Str->Option Value} {base:Heap}
theorem Zmi:FnScope ["row"] ["row"] (Zab ZhM):=⟨rfl,rfl,rfl,by decide +kernel,rfl,by decide +kernel,by decide +kernel⟩
theorem Zmj  {aR:Addr} (tR:TupK K aR ((["copy", "swap"]:List Str).map V.str))  (D:Zao K mg "reach" ZhM) (g_REACHING:ZaW mg "REACHING" (.ref aR)):Cal P w K mg base 1 "reach" (ZhW K):=by
 refine Zaz D Zmi (fun vs H Q E h=>?_) (fun _ _ _ _ _ _ us hl=>bd1 (R:=fun us=>bindArgs _ ⟨us,[]⟩=pure (List.zip _ us)) (fun _=>rfl) us hl) (fun f cdv A outer s H vs Q E hr h=>?_)
 .obtain ⟨p,x,n,r,rfl,_⟩:=h;rfl
 .obtain ⟨p,x,n,r,rfl,hp,hr',k⟩:=h
  refine ⟨_,(Zad (Zbd (Zau Zek (Zav Za0 (pv 0) Zae (fun _ _=>rfl)) (ZbL rfl g_REACHING) rfl) (Zaf (Zap (Zav Za0 (pv 0) Zae (fun _ _=>rfl)))) ZaJ)
   (Zaf (Zap Zae))),?_⟩
  walk_at "nx"
  repeat walk_at "rd"
  refine Zcn hp ZhV ?_
  repeat walk_at "rd"
  refine Zkl (tR.sqt H) ?_
  repeat walk_at "rd"
  unfold ZbJ at hr'
  cases e:inS x ["copy", "swap"] with
  | true =>
   rw [e,if_pos rfl] at hr'
   subst hr'
   repeat walk_at "rd"
   refine Zcn hp rfl ?_
   exact k
  | false =>
   rw [e,if_neg (by decide)] at hr'
   cases hr'
   repeat walk_at "rd"
   exact k
theorem Zmk:FnScope ["row"] ["row"] (Zab ZhN):=⟨rfl,rfl,rfl,by decide +kernel,rfl,by decide +kernel,by decide +kernel⟩
theorem Zml  {aT:Addr} (R:ZgS P w K aT)  (D:Zao K mg "takes" ZhN) (c_reach:Cal P w K mg base 1 "reach" (ZhW K)) (g_ROWS:ZaW mg "ROWS" (.ref aT)):Cal P w K mg base 2 "takes" (ZfN K):=by
 refine Zaz D Zmk (fun vs H Q E h=>?_) (fun _ _ _ _ _ _ us hl=>bd1 (R:=fun us=>bindArgs _ ⟨us,[]⟩=pure (List.zip _ us)) (fun _=>rfl) us hl) (fun f cdv A outer s H vs Q E hr h=>?_)
 .obtain ⟨p,x,n,r,t,l,pr,d,rfl,_⟩:=h;rfl
 .obtain ⟨p,x,n,r,t,l,pr,d,rfl,hp,hr',ht,k⟩:=h
  refine ⟨_,(Zaf (Zap (ZaB Zb8 (Zav Za0 (Zfp (ZbL rfl g_ROWS) (Zav Za0 (pv 0) Zae (fun _ _=>rfl)) (fun _ _=>rfl)) Zae (fun _ _=>rfl)) (ZaL c_reach (hr.mono (by decide)) rfl (Zaa (pv 0) Zac))))),?_⟩
  walk_at "nx"
  obtain ⟨ws,dk,al⟩:=R
  obtain ⟨ta,hv,tk⟩:=al x t l pr d ht
  have tk':=tk.sqt H
  repeat walk_at "rw"
  refine Zkn (v:=.ref ta) dk hv rfl ?_
  repeat walk_at "rw"
  refine ⟨p,x,n,r,rfl,hp,hr',?_⟩
  repeat walk_at "rw"
  exact k
theorem ZkJ:FnScope ["row"] ["row"] (Zab ZfE):=⟨rfl,rfl,rfl,by decide +kernel,rfl,by decide +kernel,by decide +kernel⟩
theorem ZkK  {aT:Addr} (R:ZgS P w K aT)  (D:Zao K mg "leaves" ZfE) (c_reach:Cal P w K mg base 1 "reach" (ZhW K)) (g_ROWS:ZaW mg "ROWS" (.ref aT)):Cal P w K mg base 2 "leaves" (ZiL K):=by
 refine Zaz D ZkJ (fun vs H Q E h=>?_) (fun _ _ _ _ _ _ us hl=>bd1 (R:=fun us=>bindArgs _ ⟨us,[]⟩=pure (List.zip _ us)) (fun _=>rfl) us hl) (fun f cdv A outer s H vs Q E hr h=>?_)
 .obtain ⟨p,x,n,r,t,l,pr,d,rfl,_⟩:=h;rfl
 .obtain ⟨p,x,n,r,t,l,pr,d,rfl,hp,hr',ht,k⟩:=h
  refine ⟨_,(Zaf (Zap (ZaB Zb8 (Zav Za0 (Zfp (ZbL rfl g_ROWS) (Zav Za0 (pv 0) Zae (fun _ _=>rfl)) (fun _ _=>rfl)) Zae (fun _ _=>rfl)) (ZaL c_reach (hr.mono (by decide)) rfl (Zaa (pv 0) Zac))))),?_⟩
  walk_at "nx"
  obtain ⟨ws,dk,al⟩:=R
  obtain ⟨ta,hv,tk⟩:=al x t l pr d ht
  have tk':=tk.sqt H
  repeat walk_at "rw"
  refine Zkn (v:=.ref ta) dk hv rfl ?_
  repeat walk_at "rw"
  refine ⟨p,x,n,r,rfl,hp,hr',?_⟩
  repeat walk_at "rw"
  exact k
theorem Zmm:FnScope ["row", "dear"] ["row", "dear"] (Zab ZhO):=⟨rfl,rfl,rfl,by decide +kernel,rfl,by decide +kernel,by decide +kernel⟩
theorem Zmn {aT:Addr} (R:ZgS P w K aT) (D:Zkq K mg "price" ZhO #[.bool false]) (g_ROWS:ZaW mg "ROWS" (.ref aT)):CalD P w K mg base 1 "price" (ZkI K) []:=by
 obtain ⟨f,fd,F,m⟩:=D
 refine ⟨f,fd,_,[],m,F.fn Zmm (fun vs H Q E h=>?_) (fun cdv A outer s H vs Q E hr h=>?_),F.kp,F.binds (ps:=["row", "dear"]) [] (fun T kV doc pm an cdv ct us hl=>bd2 (R:=fun us=>∃ k:Option (Array Value)->Sem (List (Str×Value)),bindArgs _ ⟨us,[]⟩=seqItems? (.ref T) >>= k/\k (some _)=pure (List.zip _ (us++[]))) (fun _ _=>⟨_,rfl,rfl⟩) us (by simpa using hl)),.nil⟩
 .obtain ⟨p,x,n,t,l,pr,d,b,rfl,_⟩:=h;rfl
 .obtain ⟨p,x,n,t,l,pr,d,b,rfl,hp,ht,k⟩:=h
  refine ⟨_,(Zad (Zbd (Zcm (pv 1)) (Zaf (Zap (Zav Za0 (Zfp (ZbL rfl g_ROWS) (Zav Za0 (pv 0) Zae (fun _ _=>rfl)) (fun _ _=>rfl)) Zae (fun _ _=>rfl)))) ZaJ)
   (Zaf (Zap (Zav Za0 (Zfp (ZbL rfl g_ROWS) (Zav Za0 (pv 0) Zae (fun _ _=>rfl)) (fun _ _=>rfl)) Zae (fun _ _=>rfl))))),?_⟩
  walk_at "nx"
  obtain ⟨ws,dk,al⟩:=R
  obtain ⟨ta,hv,tk⟩:=al x t l pr d ht
  have tk':=tk.sqt H
  repeat walk_at "rw"
  cases b with
  | true =>
   repeat walk_at "rw"
   refine Zkn (v:=.ref ta) dk hv rfl ?_
   repeat walk_at "rw"
   exact k
  | false =>
   repeat walk_at "rw"
   refine Zkn (v:=.ref ta) dk hv rfl ?_
   repeat walk_at "rw"
   exact k
end
noncomputable def accF (c p n:Int) (pr st:Addr):List (Str×V):=[("coin", .int c),("purse", .int p),("count", .int n),("program", .ref pr),("store", .ref st)]
structure AcAt (K:PySem.W.Frag) (C:Addr) (H:Hp) (a dx pr st:Addr) (c p n:Int) (rs:List Row) (f:Int->Int) (m:Nat):Prop where
 ob:H a=some (.ins C dx (accF c p n pr st))
 pg:∃ xs,H pr=some (.lst xs)/\RowsAt K H rs xs
 sto:StoreAt H st f m
noncomputable def spInit (K:PySem.W.Frag) (C:Addr):Sp:=fun vs H Q _=>∃ (a dx pr0:Addr) (c p:Int) (xs:List V) (rs:List Row),vs=[.ref a,.int c,.int p,.ref pr0]/\H a=some (.ins C dx [])/\SqL K H pr0 xs/\RowsAt K H rs xs /\
 ∀ (pr st:Addr) (H':Hp),H pr=none->H st=none->pr≠st->AcAt K C H' a dx pr st c p 0 rs (fun _=>0) 0->(∀ b o,H b=some o->b≠a->H' b=some o)->Q .non H'
noncomputable def Zea (K:PySem.W.Frag) (C:Addr):Sp:=fun vs H Q _=>∃ (a dx pr st:Addr) (c p n:Int) (rs:List Row) (f:Int->Int) (m:Nat) (i:Int),vs=[.ref a,.int i]/\AcAt K C H a dx pr st c p n rs f m/\Q (.int (f i)) H
noncomputable def spKeep (K:PySem.W.Frag) (C:Addr):Sp:=fun vs H Q _=>∃ (a dx pr st:Addr) (c p n:Int) (rs:List Row) (f:Int->Int) (m:Nat) (i v:Int),vs=[.ref a,.int i,.int v]/\AcAt K C H a dx pr st c p n rs f m/\m<=1000000 /\
 ∀ H',(∀ b,b≠st->H' b=H b)->StoreAt H' st (putFn f i v) (m+1)->Q .non H'
theorem AcAt.nd {K:PySem.W.Frag} {C:Addr} {H H':Hp} {a dx pr st:Addr} {c p n:Int} {rs:List Row} {f g:Int->Int} {m m':Nat} (h:AcAt K C H a dx pr st c p n rs f m) (s:SameND H H') (e:StoreAt H' st g m'):AcAt K C H' a dx pr st c p n rs g m' :=
 ⟨s _ _ h.ob (by intro _ z;cases z),let ⟨xs,e1,e2⟩:=h.pg;⟨xs,s _ _ e1 (by intro _ z;cases z),e2.keep s.imm⟩,e⟩
theorem SameND.but {H H':Hp} {st:Addr} {kvs:List (Key×V)} (h:H st=some (.dK kvs)) (k:∀ b,b≠st->H' b=H b):SameND H H':=fun b u e n=>by
 rw [k b (fun z=>by rw [z,h] at e;exact n kvs (Option.some.inj e).symm)];exact e
structure AcI where
 a:Addr
 dx:Addr
 pr:Addr
 st:Addr
structure AcS where
 coin:Int
 purse:Int
 count:Int
 rows:List Row
 store:Int->Int
noncomputable def roomV:Option AcI->V
 | none=>.non
 | some x=>.ref x.a
noncomputable def Acc (K:PySem.W.Frag) (C:Addr) (H:Hp) (x:AcI) (S:AcS) (m:Nat):Prop:=AcAt K C H x.a x.dx x.pr x.st S.coin S.purse S.count S.rows S.store m
structure Rooms (K:PySem.W.Frag) (C:Addr) (H:Hp) (R:Addr) (A:Nat->Option AcI) (S:Nat->AcS) (m:Nat):Prop where
 ob:H R=some (.lst ((List.range 16).map fun i=>roomV (A i)))
 ac:∀ i x,i<16->A i=some x->Acc K C H x (S i) m
 da:∀ i j x y,i<16->j<16->A i=some x->A j=some y->x.a=y.a->i=j
 ds:∀ i j x y,i<16->j<16->A i=some x->A j=some y->x.st=y.st->i=j
noncomputable def setS (S:Nat->AcS) (i:Nat) (v:AcS):Nat->AcS:=fun j=>if j=i then v else S j
theorem Rooms.at {K:PySem.W.Frag} {C:Addr} {H:Hp} {R:Addr} {A:Nat->Option AcI} {S:Nat->AcS} {m:Nat} (r:Rooms K C H R A S m) {i:Nat} (hi:i<16) {x:AcI} (hx:A i=some x):atI ((List.range 16).map fun i=>roomV (A i)) (i:Int)=some (.ref x.a) :=
 ZcI (i:=i) (by rw [List.getElem?_map,List.getElem?_range hi];show some (roomV (A i))=_;rw [hx];rfl) rfl
theorem Acc.le {K:PySem.W.Frag} {C:Addr} {H:Hp} {x:AcI} {S:AcS} {m m':Nat} (h:Acc K C H x S m) (e:m<=m'):Acc K C H x S m':=⟨h.ob,h.pg,h.sto.le e⟩
theorem Rooms.keep {K:PySem.W.Frag} {C:Addr} {H H':Hp} {R:Addr} {A:Nat->Option AcI} {S:Nat->AcS} {m:Nat} (r:Rooms K C H R A S m) {i:Nat} (hi:i<16) {x:AcI} (hx:A i=some x) (k:∀ b,b≠x.st->H' b=H b) {p v:Int} (e:StoreAt H' x.st (putFn (S i).store p v) (m+1)) :
  Rooms K C H' R A (setS S i { S i with store:=putFn (S i).store p v }) (m+1):=by
 have ai:=r.ac i x hi hx
 obtain ⟨kvs,hs,_⟩:=ai.sto
 have nd:=SameND.but hs k
 refine ⟨by rw [k R (Zbl r.ob hs (by intro z;cases z))];exact r.ob,fun j y hj hy=>?_,r.da,r.ds⟩
 unfold setS
 by_cases z:j=i
 .subst z
  rw [hx] at hy
  cases hy
  rw [if_pos rfl]
  exact AcAt.nd ai nd e
 .rw [if_neg z]
  have aj:=(r.ac j y hj hy).le (Nat.le_succ m)
  have hne:y.st≠x.st:=fun q=>z (r.ds j i y x hj hi hy hx q)
  exact AcAt.nd aj nd (aj.sto.same (k _ hne))
theorem Rooms.coin {K:PySem.W.Frag} {C:Addr} {H:Hp} {R:Addr} {A:Nat->Option AcI} {S:Nat->AcS} {m:Nat} (r:Rooms K C H R A S m) {i:Nat} (hi:i<16) {x:AcI} (hx:A i=some x) (c:Int) :
  Rooms K C (upd H x.a (.ins C x.dx (accF c (S i).purse (S i).count x.pr x.st))) R A (setS S i { S i with coin:=c }) m:=by
 have ai:=r.ac i x hi hx
 have im:SameI H (upd H x.a (.ins C x.dx (accF c (S i).purse (S i).count x.pr x.st))):=SameI.upd ai.ob ZcL
 refine ⟨by rw [Zai (Zbl r.ob ai.ob (by intro z;cases z))];exact r.ob,fun j y hj hy=>?_,r.da,r.ds⟩
 have aj:=r.ac j y hj hy
 obtain ⟨xs,e1,e2⟩:=aj.pg
 obtain ⟨kvs,e3,e4⟩:=aj.sto
 have f1:(upd H x.a (.ins C x.dx (accF c (S i).purse (S i).count x.pr x.st))) y.pr=some (.lst xs):=by rw [Zai (Zbl e1 ai.ob (by intro z;cases z))];exact e1
 have f2:(upd H x.a (.ins C x.dx (accF c (S i).purse (S i).count x.pr x.st))) y.st=some (.dK kvs):=by rw [Zai (Zbl e3 ai.ob (by intro z;cases z))];exact e3
 unfold setS
 by_cases z:j=i
 .subst z
  rw [hx] at hy
  cases hy
  rw [if_pos rfl]
  exact ⟨Zag,⟨xs,f1,e2.keep im⟩,kvs,f2,e4⟩
 .rw [if_neg z]
  have hne:y.a≠x.a:=fun q=>z (r.da j i y x hj hi hy hx q)
  exact ⟨by rw [Zai hne];exact aj.ob,⟨xs,f1,e2.keep im⟩,kvs,f2,e4⟩
noncomputable def moved (S:Nat->AcS) (i j:Nat) (k:Int):Nat->AcS:=let S1:=setS S i { S i with coin:=(S i).coin-k };setS S1 j { S1 j with coin:=(S1 j).coin+k }
noncomputable def ZhX (K:PySem.W.Frag) (C:Addr):Sp:=fun vs H Q _=>∃ (R:Addr) (A:Nat->Option AcI) (S:Nat->AcS) (m i j:Nat) (x y:AcI) (k:Int),vs=[.ref x.a,.ref y.a,.int k]/\Rooms K C H R A S m/\i<16/\j<16/\A i=some x/\A j=some y /\
 ∀ H',(∀ b,b≠x.a->b≠y.a->H' b=H b)->Rooms K C H' R A (moved S i j k) m->Q .non H'
section
variable {P:Program} {w:World} {K:PySem.W.Frag} {mg:Str->Option Value} {base:Heap}
theorem Zc7:FnScope ["self", "coin", "purse", "program"] ["self", "coin", "purse", "program"] (Zab ZaR):=⟨rfl,rfl,rfl,by decide +kernel,rfl,by decide +kernel,by decide +kernel⟩
theorem Zc8   {cAccount:Addr} (D:Zan K cAccount "__init__" "Account.__init__" ZaR) (tAccount:T_Account K mg cAccount) (n_list:mg "list" = none):ICal P w K mg base 1 "Account" cAccount (spInit K cAccount):=by
 refine Zet D tAccount.k Zc7 (fun vs H Q E h=>?_) (fun _ _ _ _ _ _ us hl=>bd4 (R:=fun us=>bindArgs _ ⟨us,[]⟩=pure (List.zip _ us)) (fun _ _ _ _=>rfl) us hl) (fun f cdv A outer s H vs Q E hr h=>?_)
 .obtain ⟨a,dx,pr0,c,p,xs,rs,rfl,_⟩:=h;rfl
 .obtain ⟨a,dx,pr0,c,p,xs,rs,rfl,ha,hl,hR,k⟩:=h
  refine ⟨_,(Zad (ZaT (pv 0) (pv 1) rfl)
   (Zad (ZaT (pv 0) (pv 2) rfl)
   (Zad (ZaT (pv 0) Zae rfl)
   (Zad (ZaT (pv 0) (Zgn Zkv rfl n_list PyProof.Rows.boot_list (Zaa (pv 3) Zac)) rfl)
   (Zaf (ZaT (pv 0) ZlO rfl)))))),?_⟩
  walk_at "nx"
  repeat walk_at "rdk"
  refine Zaw ha tAccount.k.cl tAccount.n_coin (by decide) ?_
  repeat walk_at "rdk"
  refine Zaw Zag tAccount.k.cl tAccount.n_purse (by show 1<1000;decide) ?_
  rw [ZaV]
  repeat walk_at "rdk"
  refine Zaw Zag tAccount.k.cl tAccount.n_count (by show 2<1000;decide) ?_
  rw [ZaV]
  repeat walk_at "rdk"
  refine ZfB (hl.updI ha) fun pr hpr=>?_
  have hn:H pr=none:=by
   by_cases e:pr=a
   .subst e;rw [Zag] at hpr;cases hpr
   .rw [Zai e] at hpr;exact hpr
  have na:a≠pr:=Zaj ha hn
  repeat walk_at "rdk"
  refine Zaw (by rw [Zai na,Zag]) tAccount.k.cl tAccount.n_program (by show 3<1000;decide) ?_
  repeat walk_at "rdk"
  rename_i st hst
  have ns:st≠a:=fun e=>by subst e;rw [Zag] at hst;cases hst
  have np:st≠pr:=fun e=>by subst e;rw [Zai ns,Zag] at hst;cases hst
  have hn2:H st=none:=by rw [Zai ns,Zai np,Zai ns] at hst;exact hst
  refine Zaw (by rw [Zai ns.symm,Zag]) tAccount.k.cl tAccount.n_store (by show 4<1000;decide) ?_
  have kp:∀ b o,H b=some o->b≠a->(upd (upd (upd (upd (upd H a (.ins cAccount dx [("coin", .int c),("purse", .int p),("count", .int 0)])) pr (.lst xs)) a (.ins cAccount dx [("coin", .int c),("purse", .int p),("count", .int 0),("program", .ref pr)])) st (.dK [])) a (.ins cAccount dx (accF c p 0 pr st))) b=some o:=by
   intro b o e hb
   have h1:b≠pr:=Zaj e hn
   have h2:b≠st:=Zaj e hn2
   rw [Zai hb,Zai h2,Zai hb,Zai h1,Zai hb]
   exact e
  refine k pr st _ hn hn2 np.symm ⟨?_,⟨xs,?_,?_⟩,⟨[],?_,by decide,by simp,by simp,fun i=>rfl⟩⟩ ?_
  .rw [Zag];rfl
  .rw [Zai na.symm,Zai np.symm,Zai na.symm,Zag]
  .refine hR.keep fun b u e i=>?_
   have hb:b≠a:=fun z=>by rw [z,ha] at e;cases e;exact ZcL i
   exact kp b u e hb
  .rw [Zai ns,Zag]
  .exact kp
theorem ZdM:FnScope ["self", "place"] ["self", "place"] (Zab ZaZ):=⟨rfl,rfl,rfl,by decide +kernel,rfl,by decide +kernel,by decide +kernel⟩
theorem ZdN   {cAccount:Addr} (D:Zan K cAccount "loaded" "Account.loaded" ZaZ) (tAccount:T_Account K mg cAccount):MCal P w K mg base 1 cAccount "loaded" (Zea K cAccount):=by
 refine Za5 D tAccount.k.cl ZdM (fun vs H Q E h=>?_) (fun _ _ _ _ _ _ us hl=>bd2 (R:=fun us=>bindArgs _ ⟨us,[]⟩=pure (List.zip _ us)) (fun _ _=>rfl) us hl) (fun f cdv A outer s H vs Q E hr h=>?_)
 .obtain ⟨a,dx,pr,st,c,p,n,rs,f,m,i,rfl,_⟩:=h;rfl
 .obtain ⟨a,dx,pr,st,c,p,n,rs,fn,m,i,rfl,A,k⟩:=h
  refine ⟨_,(Zaf (Zap (ZlP (ZnC hr) (Zak (pv 0) rfl) (pv 1) Zae ⟨rfl,rfl,rfl,rfl⟩))),?_⟩
  walk_at "nx"
  obtain ⟨kvs,hs,_,_,_,hf⟩:=A.sto
  repeat walk_at "rdk"
  refine Zah A.ob tAccount.k.cl tAccount.n_store rfl ?_
  refine ⟨st,rfl,isD_k hs,?_⟩
  repeat walk_at "rdk"
  exact ⟨_,DGet.k (k:=Sum.inl i) hs,by rw [hf i];exact k⟩
theorem ZeD:FnScope ["self", "place", "number"] ["self", "place", "number"] (Zab Zbe):=⟨rfl,rfl,rfl,by decide +kernel,rfl,by decide +kernel,by decide +kernel⟩
theorem ZeE   {cAccount:Addr} (D:Zan K cAccount "keep" "Account.keep" Zbe) (tAccount:T_Account K mg cAccount):MCal P w K mg base 1 cAccount "keep" (spKeep K cAccount):=by
 refine Za5 D tAccount.k.cl ZeD (fun vs H Q E h=>?_) (fun _ _ _ _ _ _ us hl=>bd3 (R:=fun us=>bindArgs _ ⟨us,[]⟩=pure (List.zip _ us)) (fun _ _ _=>rfl) us hl) (fun f cdv A outer s H vs Q E hr h=>?_)
 .obtain ⟨a,dx,pr,st,c,p,n,rs,f,m,i,v,rfl,_⟩:=h;rfl
 .obtain ⟨a,dx,pr,st,c,p,n,rs,fn,m,i,v,rfl,A,hm,k⟩:=h
  refine ⟨_,(Zaf (Zbd (Zau Zco (pv 2) Zae (nomark _)) (Zaf (Zax (ZlQ (Zak (pv 0) rfl) (pv 1) Zcp ⟨rfl,rfl,rfl,rfl⟩))) (Zaf (ZnA (ZnC hr) (Zak (pv 0) rfl) (pv 1) (pv 2) rfl)))),?_⟩
  walk_at "nx"
  obtain ⟨kvs,hs,hl,hn,hz,hf⟩:=A.sto
  repeat' walk_at "rdk"
  .rename_i hv
   subst hv
   refine Zah A.ob tAccount.k.cl tAccount.n_store rfl ⟨st,rfl,isD_k hs,?_⟩
   repeat walk_at "rdk"
   refine ⟨kvs,Sum.inl i,hs,rfl,fun v hv=>?_,fun hv=>?_⟩
   .dsimp only
    repeat walk_at "rdk"
    exact k _ (fun b hb=>Zai hb) (StoreAt.drop hl hn hz hf i)
   .dsimp only
    repeat walk_at "rdk"
    refine k _ (fun b hb=>rfl) ⟨kvs,hs,Nat.le_trans hl (Nat.le_succ _),hn,hz,fun j=>?_⟩
    unfold putFn
    by_cases e:j=i
    .subst e
     rw [if_pos rfl,hv]
     rfl
    .rw [if_neg e]
     exact hf j
  .rename_i hv
   refine Zah A.ob tAccount.k.cl tAccount.n_store rfl ?_
   repeat walk_at "rdk"
   exact Zl6 hs (Nat.lt_of_le_of_lt (Nat.le_trans hl hm) (by decide)) (k _ (fun b hb=>Zai hb) (StoreAt.put hl hn hz hf i v hv))
theorem ZfO:FnScope ["giver", "taker", "many"] ["giver", "taker", "many"] (Zab Zcv):=⟨rfl,rfl,rfl,by decide +kernel,rfl,by decide +kernel,by decide +kernel⟩
theorem ZfP   {cAccount:Addr} (D:Zao K mg "shift_coin" Zcv) (tAccount:T_Account K mg cAccount):Cal P w K mg base 1 "shift_coin" (ZhX K cAccount):=by
 refine Zaz D ZfO (fun vs H Q E h=>?_) (fun _ _ _ _ _ _ us hl=>bd3 (R:=fun us=>bindArgs _ ⟨us,[]⟩=pure (List.zip _ us)) (fun _ _ _=>rfl) us hl) (fun f cdv A outer s H vs Q E hr h=>?_)
 .obtain ⟨R,A,S,m,i,j,x,y,k,rfl,_⟩:=h;rfl
 .obtain ⟨R,Ar,S,m,i,j,x,y,kk,rfl,r,hi,hj,hx,hy,k⟩:=h
  refine ⟨_,(Zad (Zcr (pv 0) (pv 2) in_sub)
   (Zaf (Zcr (pv 1) (pv 2) Ziz))),?_⟩
  walk_at "nx"
  have ax:=r.ac i x hi hx
  repeat walk_at "rdk"
  refine Zdi ax.ob tAccount.k.cl tAccount.n_coin rfl ?_
  repeat walk_at "rdk"
  refine ⟨x.dx,_,ax.ob,by show 5<1000;decide,?_⟩
  have r1:=r.coin hi hx ((S i).coin-kk)
  have fr1:∀ b,b≠x.a->(upd H x.a (.ins cAccount x.dx (accF ((S i).coin-kk) (S i).purse (S i).count x.pr x.st))) b=H b:=fun b hb=>Zai hb
  have ep:∀ (c c' p n:Int) (pr st:Addr),putF "coin" (.int c') (accF c p n pr st)=accF c' p n pr st:=fun _ _ _ _ _ _=>rfl
  rw [ep]
  generalize upd H x.a _=H1 at r1 fr1
  generalize hS1:setS S i { S i with coin:=(S i).coin-kk }=S1 at r1
  have ay:=r1.ac j y hj hy
  dsimp only
  repeat walk_at "rdk"
  refine Zdi ay.ob tAccount.k.cl tAccount.n_coin rfl ?_
  repeat walk_at "rdk"
  refine ⟨y.dx,_,ay.ob,by show 5<1000;decide,?_⟩
  rw [ep]
  have r2:=r1.coin hj hy ((S1 j).coin+kk)
  refine k _ (fun b h1 h2=>by rw [Zai h2];exact fr1 b h1) ?_
  unfold moved
  rw [hS1]
  exact r2
end
inductive Dd where
 | save (s p o n:Int)
 | move (s t k:Int)
 | note (s n:Int)
noncomputable def saveF (s p o n:Int):List (Str×V):=[("slot", .int s),("place", .int p),("old", .int o),("new", .int n)]
noncomputable def moveF (s t k:Int):List (Str×V):=[("slot", .int s),("taker", .int t),("many", .int k)]
noncomputable def noteF (s n:Int):List (Str×V):=[("slot", .int s),("number", .int n)]
noncomputable def doneS (S:Nat->AcS):Dd->Nat->AcS
 | .save s p _ n=>setS S s.toNat { S s.toNat with store:=putFn (S s.toNat).store p n }
 | .move s t k=>moved S s.toNat t.toNat k
 | .note _ _=>S
noncomputable def fitsD (A:Nat->Option AcI):Dd->Prop
 | .save s _ _ _=>∃ i x,s=((i:Nat):Int)/\i<16/\A i=some x
 | .move s t _=>(∃ i x,s=((i:Nat):Int)/\i<16/\A i=some x)/\∃ i x,t=((i:Nat):Int)/\i<16/\A i=some x
 | .note _ _=>True
noncomputable def Out (A:Nat->Option AcI) (b:Addr):Prop:=∀ i x,i<16->A i=some x->b≠x.a/\b≠x.st
theorem Rooms.le {K:PySem.W.Frag} {C:Addr} {H:Hp} {R:Addr} {A:Nat->Option AcI} {S:Nat->AcS} {m m':Nat} (r:Rooms K C H R A S m) (e:m<=m'):Rooms K C H R A S m':=⟨r.ob,fun i x hi hx=>(r.ac i x hi hx).le e,r.da,r.ds⟩
noncomputable def ZiM (C:Addr):Sp:=fun vs H Q _=>∃ (a dx:Addr) (s p o n:Int),vs=[.ref a,.int s,.int p,.int o,.int n]/\H a=some (.ins C dx [])/\Q .non (upd H a (.ins C dx (saveF s p o n)))
noncomputable def ZfQ (C:Addr):Sp:=fun vs H Q _=>∃ (a dx:Addr) (s t k:Int),vs=[.ref a,.int s,.int t,.int k]/\H a=some (.ins C dx [])/\Q .non (upd H a (.ins C dx (moveF s t k)))
noncomputable def ZiN (C:Addr):Sp:=fun vs H Q _=>∃ (a dx:Addr) (s n:Int),vs=[.ref a,.int s,.int n]/\H a=some (.ins C dx [])/\Q .non (upd H a (.ins C dx (noteF s n)))
noncomputable def fldD:Dd->List (Str×V)
 | .save s p o n=>saveF s p o n
 | .move s t k=>moveF s t k
 | .note s n=>noteF s n
noncomputable def spDo (K:PySem.W.Frag) (C CD:Addr) (ok:Dd->Prop):Sp:=fun vs H Q _=>∃ (a dx R:Addr) (d:Dd) (A:Nat->Option AcI) (S:Nat->AcS) (m:Nat),vs=[.ref a,.ref R]/\ok d/\H a=some (.ins CD dx (fldD d))/\Rooms K C H R A S m/\fitsD A d/\m<=1000000 /\
 ∀ H',(∀ b,Out A b->H' b=H b)->Rooms K C H' R A (doneS S d) (m+1)->Q .non H'
noncomputable def isSave (d:Dd):Prop:=∃ s p o n,d=.save s p o n
noncomputable def isMove (d:Dd):Prop:=∃ s t k,d=.move s t k
noncomputable def isNote (d:Dd):Prop:=∃ s n,d=.note s n
noncomputable def ZfR (S:Nat->AcS):Dd->Nat->AcS
 | .save s p o _=>setS S s.toNat { S s.toNat with store:=putFn (S s.toNat).store p o }
 | .move s t k=>moved S t.toNat s.toNat k
 | .note _ _=>S
noncomputable def spUndo (K:PySem.W.Frag) (C CD:Addr) (ok:Dd->Prop):Sp:=fun vs H Q _=>∃ (a dx R:Addr) (d:Dd) (A:Nat->Option AcI) (S:Nat->AcS) (m:Nat),vs=[.ref a,.ref R]/\ok d/\H a=some (.ins CD dx (fldD d))/\Rooms K C H R A S m/\fitsD A d/\m<=1000000 /\
 ∀ H',(∀ b,Out A b->H' b=H b)->Rooms K C H' R A (ZfR S d) (m+1)->Q .non H'
noncomputable def rightD (S:Nat->AcS):Dd->Prop
 | .save s p o _=>(S s.toNat).store p=o
 | .move _ _ _=>True
 | .note _ _=>True
theorem ZgT (S:Nat->AcS) (i:Nat) (v:AcS):setS S i v i=v:=by unfold setS;rw [if_pos rfl]
theorem ZkL (S:Nat->AcS) (i:Nat) (v w:AcS):setS (setS S i v) i w=setS S i w:=by
 funext j
 unfold setS
 by_cases h:j=i
 .rw [if_pos h,if_pos h]
 .rw [if_neg h,if_neg h,if_neg h]
theorem Zob (S:Nat->AcS) (i:Nat):setS S i (S i)=S:=by
 funext j
 unfold setS
 by_cases h:j=i
 .rw [if_pos h,h]
 .rw [if_neg h]
theorem Zju {f:Int->Int} {p o n:Int} (h:f p=o):putFn (putFn f p n) p o=f:=by
 funext j
 unfold putFn
 by_cases e:j=p
 .rw [if_pos e,e,h]
 .rw [if_neg e,if_neg e]
theorem ZbM (S:Nat->AcS) (i j:Nat) (k:Int) (n:Nat):moved S i j k n={ S n with coin:=(S n).coin-(if n=i then k else 0)+(if n=j then k else 0) }:=by
 unfold moved setS
 dsimp only
 by_cases h1:n=j
 .subst h1
  by_cases h2:n=i
  .subst h2;simp
  .simp [h2]
 .by_cases h2:n=i
  .subst h2;simp [h1]
  .simp [h1,h2]
theorem ZhY {S:Nat->AcS} {d:Dd} (h:rightD S d):ZfR (doneS S d) d=S:=by
 cases d with
 | save s p o n =>
  have e:doneS S (.save s p o n) s.toNat={ S s.toNat with store:=putFn (S s.toNat).store p n }:=ZgT ..
  show setS (setS S s.toNat _) s.toNat { doneS S (.save s p o n) s.toNat with store:=putFn (doneS S (.save s p o n) s.toNat).store p o }=S
  rw [ZkL,e]
  dsimp only
  rw [Zju h]
  exact Zob S _
 | move s t k =>
  show moved (moved S _ _ k) _ _ k=S
  funext n
  rw [ZbM,ZbM]
  dsimp only
  have:(S n).coin-(if n=s.toNat then k else 0)+(if n=t.toNat then k else 0)-(if n=t.toNat then k else 0)+(if n=s.toNat then k else 0)=(S n).coin:=by omega
  rw [this]
 | note s n=>rfl
section
variable {P:Program} {w:World} {K:PySem.W.Frag} {mg:Str->Option Value} {base:Heap}
theorem ZdV:FnScope ["self", "slot", "place", "old", "new"] ["self", "slot", "place", "old", "new"] (Zab Za7):=⟨rfl,rfl,rfl,by decide +kernel,rfl,by decide +kernel,by decide +kernel⟩
theorem ZdW   {cSave:Addr} (D:Zan K cSave "__init__" "Save.__init__" Za7) (tSave:T_Save K mg cSave):ICal P w K mg base 1 "Save" cSave (ZiM cSave):=by
 refine Zet D tSave.k ZdV (fun vs H Q E h=>?_) (fun _ _ _ _ _ _ us hl=>bd5 (R:=fun us=>bindArgs _ ⟨us,[]⟩=pure (List.zip _ us)) (fun _ _ _ _ _=>rfl) us hl) (fun f cdv A outer s H vs Q E hr h=>?_)
 .obtain ⟨a,dx,s0,p,o,n,rfl,_⟩:=h;rfl
 .obtain ⟨a,dx,s0,p,o,n,rfl,ha,k⟩:=h
  refine ⟨_,(Zad (ZaT (pv 0) (pv 1) rfl)
   (Zad (ZaT (pv 0) (pv 2) rfl)
   (Zad (ZaT (pv 0) (pv 3) rfl)
   (Zaf (ZaT (pv 0) (pv 4) rfl))))),?_⟩
  walk_at "nx"
  repeat walk_at "rdk"
  refine Zaw ha tSave.k.cl tSave.n_slot (by decide) ?_
  repeat walk_at "rdk"
  refine Zaw Zag tSave.k.cl tSave.n_place (by show 1<1000;decide) ?_
  rw [ZaV]
  repeat walk_at "rdk"
  refine Zaw Zag tSave.k.cl tSave.n_old (by show 2<1000;decide) ?_
  rw [ZaV]
  repeat walk_at "rdk"
  refine Zaw Zag tSave.k.cl tSave.n_new (by show 3<1000;decide) ?_
  rw [ZaV]
  exact k
theorem ZdX:FnScope ["self", "slot", "taker", "many"] ["self", "slot", "taker", "many"] (Zab Za8):=⟨rfl,rfl,rfl,by decide +kernel,rfl,by decide +kernel,by decide +kernel⟩
theorem ZdY   {cMove:Addr} (D:Zan K cMove "__init__" "Move.__init__" Za8) (tMove:T_Move K mg cMove):ICal P w K mg base 1 "Move" cMove (ZfQ cMove):=by
 refine Zet D tMove.k ZdX (fun vs H Q E h=>?_) (fun _ _ _ _ _ _ us hl=>bd4 (R:=fun us=>bindArgs _ ⟨us,[]⟩=pure (List.zip _ us)) (fun _ _ _ _=>rfl) us hl) (fun f cdv A outer s H vs Q E hr h=>?_)
 .obtain ⟨a,dx,s0,t0,kk,rfl,_⟩:=h;rfl
 .obtain ⟨a,dx,s0,t0,kk,rfl,ha,k⟩:=h
  refine ⟨_,(Zad (ZaT (pv 0) (pv 1) rfl)
   (Zad (ZaT (pv 0) (pv 2) rfl)
   (Zaf (ZaT (pv 0) (pv 3) rfl)))),?_⟩
  walk_at "nx"
  repeat walk_at "rdk"
  refine Zaw ha tMove.k.cl tMove.n_slot (by decide) ?_
  repeat walk_at "rdk"
  refine Zaw Zag tMove.k.cl tMove.n_taker (by show 1<1000;decide) ?_
  rw [ZaV]
  repeat walk_at "rdk"
  refine Zaw Zag tMove.k.cl tMove.n_many (by show 2<1000;decide) ?_
  rw [ZaV]
  exact k
theorem ZdZ:FnScope ["self", "slot", "number"] ["self", "slot", "number"] (Zab Za9):=⟨rfl,rfl,rfl,by decide +kernel,rfl,by decide +kernel,by decide +kernel⟩
theorem Zd0   {cNote:Addr} (D:Zan K cNote "__init__" "Note.__init__" Za9) (tNote:T_Note K mg cNote):ICal P w K mg base 1 "Note" cNote (ZiN cNote):=by
 refine Zet D tNote.k ZdZ (fun vs H Q E h=>?_) (fun _ _ _ _ _ _ us hl=>bd3 (R:=fun us=>bindArgs _ ⟨us,[]⟩=pure (List.zip _ us)) (fun _ _ _=>rfl) us hl) (fun f cdv A outer s H vs Q E hr h=>?_)
 .obtain ⟨a,dx,s0,n,rfl,_⟩:=h;rfl
 .obtain ⟨a,dx,s0,n,rfl,ha,k⟩:=h
  refine ⟨_,(Zad (ZaT (pv 0) (pv 1) rfl)
   (Zaf (ZaT (pv 0) (pv 2) rfl))),?_⟩
  walk_at "nx"
  repeat walk_at "rdk"
  refine Zaw ha tNote.k.cl tNote.n_slot (by decide) ?_
  repeat walk_at "rdk"
  refine Zaw Zag tNote.k.cl tNote.n_number (by show 1<1000;decide) ?_
  rw [ZaV]
  exact k
theorem Zjv:FnScope ["self", "rooms"] ["self", "rooms"] (Zab ZbY):=⟨rfl,rfl,rfl,by decide +kernel,rfl,by decide +kernel,by decide +kernel⟩
theorem Zjw   {cSave:Addr} {cAccount:Addr} (D:Zan K cSave "do" "Save.do" ZbY) (tSave:T_Save K mg cSave) (tAccount:T_Account K mg cAccount) (m_Account_keep:MCal P w K mg base 1 cAccount "keep" (spKeep K cAccount)):MCal P w K mg base 2 cSave "do" (spDo K cAccount cSave isSave):=by
 refine Za5 D tSave.k.cl Zjv (fun vs H Q E h=>?_) (fun _ _ _ _ _ _ us hl=>bd2 (R:=fun us=>bindArgs _ ⟨us,[]⟩=pure (List.zip _ us)) (fun _ _=>rfl) us hl) (fun f cdv A outer s H vs Q E hr h=>?_)
 .obtain ⟨a,dx,R,d,A,S,m,rfl,_⟩:=h;rfl
 .obtain ⟨a,dx,R,d,Ar,S,m,rfl,⟨s0,p,o,n,rfl⟩,ha,r,⟨i,x,rfl,hi,hx⟩,hm,k⟩:=h
  refine ⟨_,(Zaf (Zax (ZaN m_Account_keep (hr.mono (by decide)) (Zav Zaq (pv 1) (Zak (pv 0) rfl) (fun _ _=>rfl)) (Zaa (Zak (pv 0) rfl) (Zaa (Zak (pv 0) rfl) Zac))))),?_⟩
  walk_at "nx"
  have ax:=r.ac i x hi hx
  repeat walk_at "rdk"
  refine Zah ha tSave.k.cl tSave.n_slot rfl ?_
  refine ZaH (Zas r.ob) (r.at hi hx) ?_
  refine Zam ax.ob rfl ?_
  repeat walk_at "rdk"
  refine Zah ha tSave.k.cl tSave.n_place rfl ?_
  repeat walk_at "rdk"
  refine Zah ha tSave.k.cl tSave.n_new rfl ?_
  repeat walk_at "rdk"
  refine ⟨x.a,x.dx,x.pr,x.st,_,_,_,_,_,m,p,n,rfl,ax,hm,fun H' k1 e1=>?_⟩
  repeat walk_at "rdk"
  refine k H' (fun b hb=>k1 b (hb i x hi hx).2) ?_
  have:=r.keep hi hx k1 e1
  exact this
theorem Zjx:FnScope ["self", "rooms"] ["self", "rooms"] (Zab ZbZ):=⟨rfl,rfl,rfl,by decide +kernel,rfl,by decide +kernel,by decide +kernel⟩
theorem Zjy   {cMove:Addr} (D:Zan K cMove "do" "Move.do" ZbZ) (tMove:T_Move K mg cMove) (c_shift_coin:Cal P w K mg base 1 "shift_coin" (ZhX K cAccount)):MCal P w K mg base 2 cMove "do" (spDo K cAccount cMove isMove):=by
 refine Za5 D tMove.k.cl Zjx (fun vs H Q E h=>?_) (fun _ _ _ _ _ _ us hl=>bd2 (R:=fun us=>bindArgs _ ⟨us,[]⟩=pure (List.zip _ us)) (fun _ _=>rfl) us hl) (fun f cdv A outer s H vs Q E hr h=>?_)
 .obtain ⟨a,dx,R,d,A,S,m,rfl,_⟩:=h;rfl
 .obtain ⟨a,dx,R,d,Ar,S,m,rfl,⟨s0,t0,kk,rfl⟩,ha,r,⟨⟨i,x,rfl,hi,hx⟩,j,y,rfl,hj,hy⟩,hm,k⟩:=h
  refine ⟨_,(Zaf (Zax (ZaL c_shift_coin (hr.mono (by decide)) rfl (Zaa (Zav Zaq (pv 1) (Zak (pv 0) rfl) (fun _ _=>rfl)) (Zaa (Zav Zaq (pv 1) (Zak (pv 0) rfl) (fun _ _=>rfl)) (Zaa (Zak (pv 0) rfl) Zac)))))),?_⟩
  walk_at "nx"
  repeat walk_at "rdk"
  refine Zah ha tMove.k.cl tMove.n_slot rfl ?_
  refine ZaH (Zas r.ob) (r.at hi hx) ?_
  repeat walk_at "rdk"
  refine Zah ha tMove.k.cl tMove.n_taker rfl ?_
  refine ZaH (Zas r.ob) (r.at hj hy) ?_
  repeat walk_at "rdk"
  refine Zah ha tMove.k.cl tMove.n_many rfl ?_
  repeat walk_at "rdk"
  refine ⟨R,Ar,S,m,i,j,x,y,kk,rfl,r,hi,hj,hx,hy,fun H' k1 r1=>?_⟩
  repeat walk_at "rdk"
  refine k H' (fun b hb=>k1 b (hb i x hi hx).1 (hb j y hj hy).1) ?_
  exact r1.le (Nat.le_succ m)
theorem Zjz:FnScope ["self", "rooms"] ["self", "rooms"] (Zab Zb0):=⟨rfl,rfl,rfl,by decide +kernel,rfl,by decide +kernel,by decide +kernel⟩
theorem ZjA   {cNote:Addr} (D:Zan K cNote "do" "Deed.do" Zb0) (tNote:T_Note K mg cNote):MCal P w K mg base 2 cNote "do" (spDo K cAccount cNote isNote):=by
 refine Za5 D tNote.k.cl Zjz (fun vs H Q E h=>?_) (fun _ _ _ _ _ _ us hl=>bd2 (R:=fun us=>bindArgs _ ⟨us,[]⟩=pure (List.zip _ us)) (fun _ _=>rfl) us hl) (fun f cdv A outer s H vs Q E hr h=>?_)
 .obtain ⟨a,dx,R,d,A,S,m,rfl,_⟩:=h;rfl
 .obtain ⟨a,dx,R,d,Ar,S,m,rfl,⟨s0,n,rfl⟩,ha,r,_,hm,k⟩:=h
  refine ⟨_,(Zaf ZjK),?_⟩
  walk_at "nx"
  exact k H (fun b _=>rfl) (r.le (Nat.le_succ m))
theorem ZgU:FnScope ["self", "rooms"] ["self", "rooms"] (Zab ZbA):=⟨rfl,rfl,rfl,by decide +kernel,rfl,by decide +kernel,by decide +kernel⟩
theorem ZgV   {cSave:Addr} {cAccount:Addr} (D:Zan K cSave "undo" "Save.undo" ZbA) (tSave:T_Save K mg cSave) (tAccount:T_Account K mg cAccount) (m_Account_keep:MCal P w K mg base 1 cAccount "keep" (spKeep K cAccount)):MCal P w K mg base 2 cSave "undo" (spUndo K cAccount cSave isSave):=by
 refine Za5 D tSave.k.cl ZgU (fun vs H Q E h=>?_) (fun _ _ _ _ _ _ us hl=>bd2 (R:=fun us=>bindArgs _ ⟨us,[]⟩=pure (List.zip _ us)) (fun _ _=>rfl) us hl) (fun f cdv A outer s H vs Q E hr h=>?_)
 .obtain ⟨a,dx,R,d,A,S,m,rfl,_⟩:=h;rfl
 .obtain ⟨a,dx,R,d,Ar,S,m,rfl,⟨s0,p,o,n,rfl⟩,ha,r,⟨i,x,rfl,hi,hx⟩,hm,k⟩:=h
  refine ⟨_,(Zaf (Zax (ZaN m_Account_keep (hr.mono (by decide)) (Zav Zaq (pv 1) (Zak (pv 0) rfl) (fun _ _=>rfl)) (Zaa (Zak (pv 0) rfl) (Zaa (Zak (pv 0) rfl) Zac))))),?_⟩
  walk_at "nx"
  have ax:=r.ac i x hi hx
  repeat walk_at "rdk"
  refine Zah ha tSave.k.cl tSave.n_slot rfl ?_
  refine ZaH (Zas r.ob) (r.at hi hx) ?_
  refine Zam ax.ob rfl ?_
  repeat walk_at "rdk"
  refine Zah ha tSave.k.cl tSave.n_place rfl ?_
  repeat walk_at "rdk"
  refine Zah ha tSave.k.cl tSave.n_old rfl ?_
  repeat walk_at "rdk"
  refine ⟨x.a,x.dx,x.pr,x.st,_,_,_,_,_,m,p,o,rfl,ax,hm,fun H' k1 e1=>?_⟩
  repeat walk_at "rdk"
  refine k H' (fun b hb=>k1 b (hb i x hi hx).2) ?_
  have:=r.keep hi hx k1 e1
  exact this
theorem ZgW:FnScope ["self", "rooms"] ["self", "rooms"] (Zab ZbC):=⟨rfl,rfl,rfl,by decide +kernel,rfl,by decide +kernel,by decide +kernel⟩
theorem ZgX   {cMove:Addr} (D:Zan K cMove "undo" "Move.undo" ZbC) (tMove:T_Move K mg cMove) (c_shift_coin:Cal P w K mg base 1 "shift_coin" (ZhX K cAccount)):MCal P w K mg base 2 cMove "undo" (spUndo K cAccount cMove isMove):=by
 refine Za5 D tMove.k.cl ZgW (fun vs H Q E h=>?_) (fun _ _ _ _ _ _ us hl=>bd2 (R:=fun us=>bindArgs _ ⟨us,[]⟩=pure (List.zip _ us)) (fun _ _=>rfl) us hl) (fun f cdv A outer s H vs Q E hr h=>?_)
 .obtain ⟨a,dx,R,d,A,S,m,rfl,_⟩:=h;rfl
 .obtain ⟨a,dx,R,d,Ar,S,m,rfl,⟨s0,t0,kk,rfl⟩,ha,r,⟨⟨i,x,rfl,hi,hx⟩,j,y,rfl,hj,hy⟩,hm,k⟩:=h
  refine ⟨_,(Zaf (Zax (ZaL c_shift_coin (hr.mono (by decide)) rfl (Zaa (Zav Zaq (pv 1) (Zak (pv 0) rfl) (fun _ _=>rfl)) (Zaa (Zav Zaq (pv 1) (Zak (pv 0) rfl) (fun _ _=>rfl)) (Zaa (Zak (pv 0) rfl) Zac)))))),?_⟩
  walk_at "nx"
  repeat walk_at "rdk"
  refine Zah ha tMove.k.cl tMove.n_taker rfl ?_
  refine ZaH (Zas r.ob) (r.at hj hy) ?_
  repeat walk_at "rdk"
  refine Zah ha tMove.k.cl tMove.n_slot rfl ?_
  refine ZaH (Zas r.ob) (r.at hi hx) ?_
  repeat walk_at "rdk"
  refine Zah ha tMove.k.cl tMove.n_many rfl ?_
  repeat walk_at "rdk"
  refine ⟨R,Ar,S,m,j,i,y,x,kk,rfl,r,hj,hi,hy,hx,fun H' k1 r1=>?_⟩
  repeat walk_at "rdk"
  refine k H' (fun b hb=>k1 b (hb j y hj hy).1 (hb i x hi hx).1) ?_
  exact r1.le (Nat.le_succ m)
theorem ZgY:FnScope ["self", "rooms"] ["self", "rooms"] (Zab ZbG):=⟨rfl,rfl,rfl,by decide +kernel,rfl,by decide +kernel,by decide +kernel⟩
theorem ZgZ   {cNote:Addr} (D:Zan K cNote "undo" "Deed.undo" ZbG) (tNote:T_Note K mg cNote):MCal P w K mg base 2 cNote "undo" (spUndo K cAccount cNote isNote):=by
 refine Za5 D tNote.k.cl ZgY (fun vs H Q E h=>?_) (fun _ _ _ _ _ _ us hl=>bd2 (R:=fun us=>bindArgs _ ⟨us,[]⟩=pure (List.zip _ us)) (fun _ _=>rfl) us hl) (fun f cdv A outer s H vs Q E hr h=>?_)
 .obtain ⟨a,dx,R,d,A,S,m,rfl,_⟩:=h;rfl
 .obtain ⟨a,dx,R,d,Ar,S,m,rfl,⟨s0,n,rfl⟩,ha,r,_,hm,k⟩:=h
  refine ⟨_,(Zaf ZjK),?_⟩
  walk_at "nx"
  exact k H (fun b _=>rfl) (r.le (Nat.le_succ m))
end
noncomputable def clsD (cS cM cN:Addr):Dd->Addr
 | .save ..=>cS
 | .move ..=>cM
 | .note ..=>cN
noncomputable def T3 (a b c:Addr) (s1 s2 s3:Sp) (C:Addr) (sp:Sp):Prop:=(C=a/\sp=s1)\/(C=b/\sp=s2)\/(C=c/\sp=s3)
theorem Zmo {P:Program} {w:World} {K:PySem.W.Frag} {mg:Str->Option Value} {base:Heap} {n:Nat} {m:Str} {a b c:Addr} {s1 s2 s3:Sp} (m1:MCal P w K mg base n a m s1) (m2:MCal P w K mg base n b m s2) (m3:MCal P w K mg base n c m s3) (C:Addr) (sp:Sp) (h:T3 a b c s1 s2 s3 C sp):MCal P w K mg base n C m sp:=by
 rcases h with ⟨rfl,rfl⟩|⟨rfl,rfl⟩|⟨rfl,rfl⟩
 .exact m1
 .exact m2
 .exact m3
theorem Zeb {T:Addr->Sp->Prop} {m:Str} {ta:TE} {t:TA} {σ:St} {H:Hp} {Q:VK} (q:ta σ H fun x H1=>∃ a C dx fs sp,x=.ref a/\H1 a=some (.ins C dx fs)/\fs.lookup m=none/\T C sp/\t σ H1 fun vs H2=>sp (x::vs) H2 Q E0):tMethD T m ta t σ H Q:=q
noncomputable def TDo (K:PySem.W.Frag) (cA cS cM cN:Addr):Addr->Sp->Prop:=T3 cS cM cN (spDo K cA cS isSave) (spDo K cA cM isMove) (spDo K cA cN isNote)
noncomputable def TUn (K:PySem.W.Frag) (cA cS cM cN:Addr):Addr->Sp->Prop:=T3 cS cM cN (spUndo K cA cS isSave) (spUndo K cA cM isMove) (spUndo K cA cN isNote)
noncomputable def okOf:Dd->Dd->Prop
 | .save ..=>isSave
 | .move ..=>isMove
 | .note ..=>isNote
theorem Zdk (d:Dd):okOf d d:=by
 cases d with
 | save=>exact ⟨_,_,_,_,rfl⟩
 | move=>exact ⟨_,_,_,rfl⟩
 | note=>exact ⟨_,_,rfl⟩
theorem tdo_of (K:PySem.W.Frag) (cA cS cM cN:Addr) (d:Dd):TDo K cA cS cM cN (clsD cS cM cN d) (spDo K cA (clsD cS cM cN d) (okOf d)):=by
 cases d with
 | save=>exact .inl ⟨rfl,rfl⟩
 | move=>exact .inr (.inl ⟨rfl,rfl⟩)
 | note=>exact .inr (.inr ⟨rfl,rfl⟩)
theorem tun_of (K:PySem.W.Frag) (cA cS cM cN:Addr) (d:Dd):TUn K cA cS cM cN (clsD cS cM cN d) (spUndo K cA (clsD cS cM cN d) (okOf d)):=by
 cases d with
 | save=>exact .inl ⟨rfl,rfl⟩
 | move=>exact .inr (.inl ⟨rfl,rfl⟩)
 | note=>exact .inr (.inr ⟨rfl,rfl⟩)
theorem fld_do (d:Dd):(fldD d).lookup (Str.ofString "do")=none:=by cases d<;>rfl
theorem Zmp (d:Dd):(fldD d).lookup (Str.ofString "undo")=none:=by cases d<;>rfl
noncomputable def runS (S:Nat->AcS) (ds:List Dd):Nat->AcS:=ds.foldl doneS S
theorem Zdl (S:Nat->AcS) (ds:List Dd) (d:Dd):runS S (ds++[d])=doneS (runS S ds) d:=by unfold runS;rw [List.foldl_append];rfl
noncomputable def Zbx:(Nat->AcS)->List Dd->Prop
 | _,[]=>True
 | S,d::ds=>rightD S d/\Zbx (doneS S d) ds
theorem ZbU:∀ (S:Nat->AcS) (ds:List Dd) (d:Dd),Zbx S (ds++[d]) ↔ Zbx S ds/\rightD (runS S ds) d
 | S,[],d=>by simp [Zbx,runS]
 | S,e::ds,d=>by
  show rightD S e/\Zbx (doneS S e) (ds++[d]) ↔ (rightD S e/\Zbx (doneS S e) ds)/\rightD (runS S (e::ds)) d
  rw [ZbU (doneS S e) ds d,and_assoc]
  rfl
structure DI where
 o:Addr
 dx:Addr
 d:Dd
noncomputable def jF (R L:Addr):List (Str×V):=[("rooms", .ref R),("deeds", .ref L)]
structure Jr (cJ cS cM cN:Addr) (H:Hp) (j dx R L:Addr) (A:Nat->Option AcI) (es:List DI):Prop where
 ob:H j=some (.ins cJ dx (jF R L))
 li:H L=some (.lst (es.map fun e=>V.ref e.o))
 de:∀ e∈es,H e.o=some (.ins (clsD cS cM cN e.d) e.dx (fldD e.d))/\fitsD A e.d
 nR:L≠R
 np:∀ i x,i<16->A i=some x->L≠x.pr
theorem ZiO {H:Hp} {a b C C' dx dx':Addr} {fs gs:List (Str×V)} (h:H a=some (.ins C dx fs)) (h':H b=some (.ins C' dx' gs)) (n:fs.length≠gs.length):a≠b:=fun z=>by
 rw [z,h'] at h
 cases h
 exact n rfl
theorem ZfS (d:Dd):(fldD d).length<5:=by
 cases d with
 | save=>show 4<5;decide
 | move=>show 3<5;decide
 | note=>show 2<5;decide
section
variable {K:PySem.W.Frag} {C cJ cS cM cN:Addr} {H H':Hp} {j dx R L:Addr} {A:Nat->Option AcI} {S:Nat->AcS} {m:Nat} {es:List DI}
theorem Rooms.same {K:PySem.W.Frag} {C:Addr} {H H':Hp} {R:Addr} {A:Nat->Option AcI} {S:Nat->AcS} {m:Nat} (r:Rooms K C H R A S m) (s:Same H H'):Rooms K C H' R A S m :=
 ⟨s _ _ r.ob,fun i x hi hx=>let h:=r.ac i x hi hx;⟨s _ _ h.ob,let ⟨xs,e1,e2⟩:=h.pg;⟨xs,s _ _ e1,e2.keep s.imm⟩,let ⟨k,a,b⟩:=h.sto;⟨k,s _ _ a,b⟩⟩,r.da,r.ds⟩
theorem Rooms.outI (r:Rooms K C H R A S m) {a C' dx':Addr} {fs:List (Str×V)} (h:H a=some (.ins C' dx' fs)) (n:fs.length<5):Out A a:=fun i x hi hx =>
 ⟨ZiO h (r.ac i x hi hx).ob (by show fs.length≠5;omega),let ⟨_,g,_⟩:=(r.ac i x hi hx).sto;Zbl h g (by intro z;cases z)⟩
theorem Rooms.outL (r:Rooms K C H R A S m) {a:Addr} {xs:List V} (h:H a=some (.lst xs)):Out A a:=fun i x hi hx =>
 ⟨Zbl h (r.ac i x hi hx).ob (by intro z;cases z),let ⟨_,g,_⟩:=(r.ac i x hi hx).sto;Zbl h g (by intro z;cases z)⟩
theorem Rooms.outN (r:Rooms K C H R A S m) {a:Addr} (h:H a=none):Out A a:=fun i x hi hx =>
 ⟨Ne.symm (Zaj (r.ac i x hi hx).ob h),let ⟨_,g,_⟩:=(r.ac i x hi hx).sto;Ne.symm (Zaj g h)⟩
theorem Jr.same (J:Jr cJ cS cM cN H j dx R L A es) (s:Same H H'):Jr cJ cS cM cN H' j dx R L A es:=⟨s _ _ J.ob,s _ _ J.li,fun e he=>⟨s _ _ (J.de e he).1,(J.de e he).2⟩,J.nR,J.np⟩
theorem Jr.out (J:Jr cJ cS cM cN H j dx R L A es) (r:Rooms K C H R A S m) (k:∀ b,Out A b->H' b=H b):Jr cJ cS cM cN H' j dx R L A es :=
 ⟨by rw [k _ (r.outI J.ob (by show 2<5;decide))];exact J.ob,by rw [k _ (r.outL J.li)];exact J.li,fun e he=>⟨by rw [k _ (r.outI (J.de e he).1 (ZfS _))];exact (J.de e he).1,(J.de e he).2⟩,J.nR,J.np⟩
theorem Rooms.lst (r:Rooms K C H R A S m) {L:Addr} {xs ys:List V} (hL:H L=some (.lst xs)) (nR:L≠R) (np:∀ i x,i<16->A i=some x->L≠x.pr):Rooms K C (upd H L (.lst ys)) R A S m:=by
 have im:SameI H (upd H L (.lst ys)):=SameI.upd hL Zbt
 refine ⟨by rw [Zai (Ne.symm nR)];exact r.ob,fun i x hi hx=>?_,r.da,r.ds⟩
 have h:=r.ac i x hi hx
 obtain ⟨zs,e1,e2⟩:=h.pg
 obtain ⟨kvs,e3,e4⟩:=h.sto
 exact ⟨by rw [Zai (Zbl h.ob hL (by intro z;cases z))];exact h.ob,⟨zs,by rw [Zai (Ne.symm (np i x hi hx))];exact e1,e2.keep im⟩,kvs,by rw [Zai (Zbl e3 hL (by intro z;cases z))];exact e3,e4⟩
theorem Jr.push (J:Jr cJ cS cM cN H j dx R L A es) {e:DI} (he:H e.o=some (.ins (clsD cS cM cN e.d) e.dx (fldD e.d))) (hf:fitsD A e.d):Jr cJ cS cM cN (upd H L (.lst ((es.map fun e=>V.ref e.o)++[.ref e.o]))) j dx R L A (es++[e]):=by
 refine ⟨by rw [Zai (Zbl J.ob J.li (by intro z;cases z))];exact J.ob,by rw [Zag,List.map_append];rfl,fun u hu=>?_,J.nR,J.np⟩
 rcases List.mem_append.mp hu with hu|hu
 .have h:=J.de u hu
  exact ⟨by rw [Zai (Zbl h.1 J.li (by intro z;cases z))];exact h.1,h.2⟩
 .rw [List.mem_singleton] at hu
  subst hu
  exact ⟨by rw [Zai (Zbl he J.li (by intro z;cases z))];exact he,hf⟩
theorem Jr.pop {e:DI} (J:Jr cJ cS cM cN H j dx R L A (es++[e])):Jr cJ cS cM cN (upd H L (.lst (es.map fun e=>V.ref e.o))) j dx R L A es :=
 ⟨by rw [Zai (Zbl J.ob J.li (by intro z;cases z))];exact J.ob,Zag,fun u hu=>let h:=J.de u (List.mem_append.mpr (.inl hu));⟨by rw [Zai (Zbl h.1 J.li (by intro z;cases z))];exact h.1,h.2⟩,J.nR,J.np⟩
end
theorem jb2 {m n:Nat} (h:m<n):n=(n-1)+1:=by omega
theorem jb3 {m e p:Nat} (h:m+e<=1000000):m+(e-p)<=1000000:=by omega
theorem jb5 {m e p:Nat} (h:p<e):m+(e-(p+1))+1=m+(e-p):=by omega
noncomputable def ZkM (cJ:Addr):Sp:=fun vs H Q _=>∃ (j dx R:Addr),vs=[.ref j,.ref R]/\H j=some (.ins cJ dx [])/\∀ L,H L=none->Q .non (upd (upd H L (.lst [])) j (.ins cJ dx (jF R L)))
noncomputable def spMark (cJ:Addr):Sp:=fun vs H Q _=>∃ (j dx R L:Addr) (xs:List V),vs=[.ref j]/\H j=some (.ins cJ dx (jF R L))/\H L=some (.lst xs)/\Q (.int (xs.length:Nat)) H
noncomputable def ZkN (K:PySem.W.Frag) (C cJ cS cM cN:Addr):Sp:=fun vs H Q _=>∃ (j dx R L:Addr) (A:Nat->Option AcI) (S:Nat->AcS) (m:Nat) (es:List DI) (e:DI),vs=[.ref j,.ref e.o]/\Jr cJ cS cM cN H j dx R L A es/\Rooms K C H R A S m/\H e.o=some (.ins (clsD cS cM cN e.d) e.dx (fldD e.d))/\fitsD A e.d/\m<=1000000/\es.length<1000000 /\
 ∀ H',(∀ b,Out A b->b≠L->H' b=H b)->Rooms K C H' R A (doneS S e.d) (m+1)->Jr cJ cS cM cN H' j dx R L A (es++[e])->Q .non H'
noncomputable def spBack (K:PySem.W.Frag) (C cJ cS cM cN:Addr):Sp:=fun vs H Q _=>∃ (j dx R L:Addr) (A:Nat->Option AcI) (S0:Nat->AcS) (m:Nat) (es:List DI) (mk:Int),vs=[.ref j,.int mk]/\Jr cJ cS cM cN H j dx R L A es/\Rooms K C H R A (runS S0 (es.map (·.d))) m/\Zbx S0 (es.map (·.d))/\m+es.length<=1000000 /\
 ∀ H',(∀ b,Out A b->b≠L->H' b=H b)->Rooms K C H' R A (runS S0 ((es.take mk.toNat).map (·.d))) (m+es.length)->Zbx S0 ((es.take mk.toNat).map (·.d))->Jr cJ cS cM cN H' j dx R L A (es.take mk.toNat)->Q .non H'
section
variable {P:Program} {w:World} {K:PySem.W.Frag} {mg:Str->Option Value} {base:Heap}
theorem Zc9:FnScope ["self", "rooms"] ["self", "rooms"] (Zab ZaS):=⟨rfl,rfl,rfl,by decide +kernel,rfl,by decide +kernel,by decide +kernel⟩
theorem Zda   {cJournal:Addr} (D:Zan K cJournal "__init__" "Journal.__init__" ZaS) (tJournal:T_Journal K mg cJournal):ICal P w K mg base 1 "Journal" cJournal (ZkM cJournal):=by
 refine Zet D tJournal.k Zc9 (fun vs H Q E h=>?_) (fun _ _ _ _ _ _ us hl=>bd2 (R:=fun us=>bindArgs _ ⟨us,[]⟩=pure (List.zip _ us)) (fun _ _=>rfl) us hl) (fun f cdv A outer s H vs Q E hr h=>?_)
 .obtain ⟨j,dx,R,rfl,_⟩:=h;rfl
 .obtain ⟨j,dx,R,rfl,ha,k⟩:=h
  refine ⟨_,(Zad (ZaT (pv 0) (pv 1) rfl)
   (Zaf (ZaT (pv 0) (ZaO Zac) rfl))),?_⟩
  walk_at "nx"
  repeat walk_at "rdk"
  refine Zaw ha tJournal.k.cl tJournal.n_rooms (by decide) ?_
  repeat walk_at "rdk"
  refine ⟨by decide,fun l hl=>?_⟩
  have nl:l≠j:=fun z=>by rw [z,Zag] at hl;cases hl
  have hlH:H l=none:=by rw [Zai nl] at hl;exact hl
  repeat walk_at "rdk"
  refine Zaw (by rw [Zai (Ne.symm nl)];exact Zag) tJournal.k.cl tJournal.n_deeds (by show 1<1000;decide) ?_
  have e:upd (upd (upd H j (.ins cJournal dx (putF "rooms" (.ref R) []))) l (.lst [])) j (.ins cJournal dx (putF "deeds" (.ref l) (putF "rooms" (.ref R) [])))=upd (upd H l (.lst [])) j (.ins cJournal dx (jF R l)):=by
   funext b
   unfold upd
   by_cases z:b=j
   .rw [if_pos z,if_pos z];rfl
   .rw [if_neg z,if_neg z,if_neg z]
  rw [e]
  exact k l hlH
theorem ZeF:FnScope ["self"] ["self"] (Zab Zbg):=⟨rfl,rfl,rfl,by decide +kernel,rfl,by decide +kernel,by decide +kernel⟩
theorem ZeG   {cJournal:Addr} (D:Zan K cJournal "mark" "Journal.mark" Zbg) (tJournal:T_Journal K mg cJournal) (n_len:mg "len" = none):MCal P w K mg base 1 cJournal "mark" (spMark cJournal):=by
 refine Za5 D tJournal.k.cl ZeF (fun vs H Q E h=>?_) (fun _ _ _ _ _ _ us hl=>bd1 (R:=fun us=>bindArgs _ ⟨us,[]⟩=pure (List.zip _ us)) (fun _=>rfl) us hl) (fun f cdv A outer s H vs Q E hr h=>?_)
 .obtain ⟨j,dx,R,L,xs,rfl,_⟩:=h;rfl
 .obtain ⟨j,dx,R,L,xs,rfl,ha,hl,k⟩:=h
  refine ⟨_,(Zaf (Zap (ZaM ZbO rfl n_len PySem.boot_len (Zaa (Zak (pv 0) rfl) Zac)))),?_⟩
  walk_at "nx"
  repeat walk_at "rdk"
  refine Zah ha tJournal.k.cl tJournal.n_deeds rfl ?_
  repeat walk_at "rdk"
  exact k
theorem Zd1:FnScope ["self", "deed"] ["self", "deed"] (Zab Zba):=⟨rfl,rfl,rfl,by decide +kernel,rfl,by decide +kernel,by decide +kernel⟩
theorem Zd2   {cJournal:Addr} {cSave:Addr} {cMove:Addr} {cNote:Addr} {cAccount:Addr} (D:Zan K cJournal "write" "Journal.write" Zba) (tJournal:T_Journal K mg cJournal) (tSave:T_Save K mg cSave) (tMove:T_Move K mg cMove) (tNote:T_Note K mg cNote) (tAccount:T_Account K mg cAccount) (m_Save_do:MCal P w K mg base 2 cSave "do" (spDo K cAccount cSave isSave)) (m_Move_do:MCal P w K mg base 2 cMove "do" (spDo K cAccount cMove isMove)) (m_Note_do:MCal P w K mg base 2 cNote "do" (spDo K cAccount cNote isNote)):MCal P w K mg base 3 cJournal "write" (ZkN K cAccount cJournal cSave cMove cNote):=by
 refine Za5 D tJournal.k.cl Zd1 (fun vs H Q E h=>?_) (fun _ _ _ _ _ _ us hl=>bd2 (R:=fun us=>bindArgs _ ⟨us,[]⟩=pure (List.zip _ us)) (fun _ _=>rfl) us hl) (fun f cdv A outer s H vs Q E hr h=>?_)
 .obtain ⟨j,dx,R,L,A,S,m,es,e,rfl,_⟩:=h;rfl
 .obtain ⟨j,dx,R,L,Ar,S,m,es,e,rfl,J,r,he,fit,hm,hel,k⟩:=h
  refine ⟨_,(Zad (Zax (ZiH (T:=TDo K cAccount cSave cMove cNote) (Zmo m_Save_do m_Move_do m_Note_do) (hr.mono (by decide)) (pv 1) (Zaa (Zak (pv 0) rfl) Zac)))
   (Zaf (Zax (Zel PySem.F.plainAttrs_list PySem.F.slot_list_append PySem.F.type_list_append ZbN (Zak (pv 0) rfl) (Zaa (pv 1) Zac))))),?_⟩
  walk_at "nx"
  repeat walk_at "rdk"
  refine Zeb ?_
  repeat walk_at "rdk"
  refine ⟨e.o,clsD cSave cMove cNote e.d,e.dx,fldD e.d,_,rfl,he,fld_do e.d,tdo_of K cAccount cSave cMove cNote e.d,?_⟩
  repeat walk_at "rdk"
  refine Zah J.ob tJournal.k.cl tJournal.n_rooms rfl ?_
  repeat walk_at "rdk"
  refine ⟨e.o,e.dx,R,e.d,Ar,S,m,rfl,Zdk e.d,he,r,fit,hm,fun H1 k1 r1=>?_⟩
  have J1:=J.out r k1
  have he1:H1 e.o=some (.ins (clsD cSave cMove cNote e.d) e.dx (fldD e.d)):=by rw [k1 _ (r.outI he (ZfS _))];exact he
  repeat walk_at "rdk"
  refine Zah J1.ob tJournal.k.cl tJournal.n_deeds rfl ?_
  refine ⟨ZbW (Zas J1.li),?_⟩
  repeat walk_at "rdk"
  refine ZbX J1.li (by rw [List.length_map];exact Nat.lt_of_lt_of_le hel (by decide)) ?_
  repeat walk_at "rdk"
  exact k _ (fun b h1 h2=>by rw [Zai h2];exact k1 b h1) (r1.lst J1.li J1.nR J1.np) (J1.push he1 fit)
theorem ZcB:FnScope ["self", "mark", "deed"] ["self", "mark"] (Zab Zbh):=⟨rfl,rfl,rfl,by decide +kernel,rfl,by decide +kernel,by decide +kernel⟩
theorem ZeH   {cJournal:Addr} {cSave:Addr} {cMove:Addr} {cNote:Addr} {cAccount:Addr} (D:Zan K cJournal "back" "Journal.back" Zbh) (tJournal:T_Journal K mg cJournal) (tSave:T_Save K mg cSave) (tMove:T_Move K mg cMove) (tNote:T_Note K mg cNote) (tAccount:T_Account K mg cAccount) (m_Save_undo:MCal P w K mg base 2 cSave "undo" (spUndo K cAccount cSave isSave)) (m_Move_undo:MCal P w K mg base 2 cMove "undo" (spUndo K cAccount cMove isMove)) (m_Note_undo:MCal P w K mg base 2 cNote "undo" (spUndo K cAccount cNote isNote)) (n_len:mg "len" = none) (n_max:mg "max" = none):MCal P w K mg base 3 cJournal "back" (spBack K cAccount cJournal cSave cMove cNote):=by
 refine Za5 D tJournal.k.cl ZcB (fun vs H Q E h=>?_) (fun _ _ _ _ _ _ us hl=>bd2 (R:=fun us=>bindArgs _ ⟨us,[]⟩=pure (List.zip _ us)) (fun _ _=>rfl) us hl) (fun f cdv A outer s H vs Q E hr h=>?_)
 .obtain ⟨j,dx,R,L,A,S0,m,es,mk,rfl,_⟩:=h;rfl
 .obtain ⟨j,dx,R,L,Ar,S0,m,es,mk,rfl,J,r,ri,hm,k⟩:=h
  refine ⟨_,(Zaf (Zix PassesOwn.never (Zau Zhx (ZaM ZbO rfl n_len PySem.boot_len (Zaa (Zak (pv 0) rfl) Zac)) (ZaM (Zki rfl) rfl n_max PyProof.Rows.boot_max (Zaa (pv 1) (Zaa Zae Zac))) (nomark _))
   (Zad (ZaF (i:=2) ZcB.nd rfl (by first|exact Or.inl rfl|exact Or.inr rfl) (Zm2 PySem.F.plainAttrs_list PySem.F.slot_list_pop PySem.F.type_list_pop Zm3 (Zak (pv 0) rfl)))
   (Zaf (Zax (ZiH (T:=TUn K cAccount cSave cMove cNote) (Zmo m_Save_undo m_Move_undo m_Note_undo) (hr.mono (by decide)) (pv 2) (Zaa (Zak (pv 0) rfl) Zac))))))),?_⟩
  walk_at "nx"
  refine ⟨fun n σ' H'=>∃ q v,n=q/\min mk.toNat es.length<=q/\q<=es.length/\(∀ b,Out Ar b->b≠L->H' b=H b)/\Rooms K cAccount H' R Ar (runS S0 ((es.take q).map (·.d))) (m+(es.length-q))/\Zbx S0 ((es.take q).map (·.d))/\Jr cJournal cSave cMove cNote H' j dx R L Ar (es.take q)/\σ'=[some (.ref j),some (.int mk),v],⟨es.length,es.length,none,rfl,Nat.min_le_right _ _,Nat.le_refl _,fun _ _ _=>rfl,by rw [List.take_length,Nat.sub_self];exact r,by rw [List.take_length];exact ri,by rw [List.take_length];exact J,rfl⟩,?_⟩
  rintro n σ' H' ⟨q,v,rfl,hq0,hq1,fr,r',ri',J',rfl⟩
  have hL:=J'.li
  repeat walk_at "rdk"
  refine Zah J'.ob tJournal.k.cl tJournal.n_deeds rfl ?_
  repeat walk_at "rdk"
  .rename_i hgt
   rw [List.length_map,List.length_take,Nat.min_eq_left hq1] at hgt
   have hgt2:mk.toNat<n:=by split at hgt<;>omega
   obtain ⟨p,rfl⟩:∃ p,n=p+1:=⟨n-1,jb2 hgt2⟩
   have hp:p<es.length:=hq1
   have htk:es.take (p+1)=es.take p++[es[p]]:=List.take_succ_eq_append_getElem hp
   refine ⟨fun σ' H'=>∃ m',m'<p+1/\_,fun _ _ h=>h,?_⟩
   rw [htk] at J' ri' r' hL
   rw [List.map_append] at ri' r'
   obtain ⟨de,fit⟩:=J'.de es[p] (List.mem_append.mpr (.inr (List.mem_singleton.mpr rfl)))
   generalize es[p]=e at *
   have J2:=J'.pop
   have r2:=r'.lst (ys:=(es.take p).map fun e=>V.ref e.o) hL J'.nR J'.np
   rw [List.map_append] at hL
   repeat walk_at "rdk"
   refine Zah J'.ob tJournal.k.cl tJournal.n_deeds rfl ?_
   refine ⟨ZbW (Zas hL),?_⟩
   refine Zm7 hL ?_
   have fr2:∀ b,Out Ar b->b≠L->(upd H' L (.lst ((es.take p).map fun e=>V.ref e.o))) b=H b:=fun b h1 h2=>by rw [Zai h2];exact fr b h1 h2
   have de2:(upd H' L (.lst ((es.take p).map fun e=>V.ref e.o))) e.o=some (.ins (clsD cSave cMove cNote e.d) e.dx (fldD e.d)):=by rw [Zai (Zbl de hL (by intro z;cases z))];exact de
   generalize upd H' L _=H2 at J2 r2 fr2 de2
   repeat walk_at "rdk"
   refine Zeb ?_
   repeat walk_at "rdk"
   refine ⟨e.o,clsD cSave cMove cNote e.d,e.dx,fldD e.d,_,rfl,de2,Zmp e.d,tun_of K cAccount cSave cMove cNote e.d,?_⟩
   repeat walk_at "rdk"
   refine Zah J2.ob tJournal.k.cl tJournal.n_rooms rfl ?_
   repeat walk_at "rdk"
   refine ⟨e.o,e.dx,R,e.d,Ar,_,_,rfl,Zdk e.d,de2,r2,fit,jb3 hm,fun H3 k3 r3=>?_⟩
   have J3:=J2.out r2 k3
   obtain ⟨ri2,rd2⟩:=(ZbU _ _ _).mp ri'
   have e1:ZfR (runS S0 ((es.take p).map (·.d)++[e].map (·.d))) e.d=runS S0 ((es.take p).map (·.d)):=by
    show ZfR (runS S0 ((es.take p).map (·.d)++[e.d])) e.d=_
    rw [Zdl]
    exact ZhY rd2
   rw [e1] at r3
   repeat walk_at "rdk"
   refine ⟨p,Nat.lt_succ_self p,p,_,rfl,Nat.le_trans (Nat.min_le_left ..) (Nat.le_of_lt_succ hgt2),Nat.le_of_lt hp,fun b h1 h2=>by rw [k3 b h1];exact fr2 b h1 h2,?_,ri2,J3,rfl⟩
   have em:m+(es.length-(p+1))+1=m+(es.length-p):=jb5 hp
   rw [em] at r3
   exact r3
  .rename_i hgt
   rw [List.length_map,List.length_take,Nat.min_eq_left hq1] at hgt
   have hgt2:n<=mk.toNat:=by split at hgt<;>omega
   have et:es.take n=es.take mk.toNat:=by
    by_cases z:mk.toNat<=es.length
    .rw [show n=mk.toNat by omega]
    .rw [List.take_of_length_le (by omega),List.take_of_length_le (by omega)]
   rw [et] at r' ri' J'
   exact k H' fr (r'.le (by omega)) ri' J'
end
noncomputable def tellV:Dd->List V
 | .save s p o n=>[.str "save", .int s,.int p,.int o,.int n]
 | .move s t k=>[.str "move", .int s,.int t,.int k]
 | .note s n=>[.str "note", .int s,.int n]
noncomputable def tellDs:Dd->List Dt
 | .save s p o n=>[.str "save", .int s,.int p,.int o,.int n]
 | .move s t k=>[.str "move", .int s,.int t,.int k]
 | .note s n=>[.str "note", .int s,.int n]
noncomputable def tellD (d:Dd):Dt:=.tup (tellDs d)
theorem ZiP {K:PySem.W.Frag} {H:Hp} (d:Dd):DVs K H (tellDs d) (tellV d):=by
 cases d with
 | save=>exact ZaI Zev (ZaI ZbH (ZaI ZbH (ZaI ZbH (ZaI ZbH ZbI))))
 | move=>exact ZaI Zev (ZaI ZbH (ZaI ZbH (ZaI ZbH ZbI)))
 | note=>exact ZaI Zev (ZaI ZbH (ZaI ZbH ZbI))
theorem Zg0 {K:PySem.W.Frag} {H:Hp}:∀ (ds:List Dt) (xs:List V),ds.length=xs.length->(∀ (i:Nat) (d:Dt) (x:V),ds[i]?=some d->xs[i]?=some x->DV K H d x)->DVs K H ds xs
 | [],[],_,_=>ZbI
 | d::ds,x::xs,hl,h=>ZaI (h 0 d x rfl rfl) (Zg0 ds xs (by simpa using hl) fun i d' x' h1 h2=>h (i+1) d' x' (by simpa using h1) (by simpa using h2))
 | [],x::xs,hl,_=>by simp at hl
 | d::ds,[],hl,_=>by simp at hl
theorem ZkO {K:PySem.W.Frag} {H:Hp}:∀ {ds:List Dt} {xs:List V},DVs K H ds xs->ds.length=xs.length/\∀ (i:Nat) (d:Dt) (x:V),ds[i]?=some d->xs[i]?=some x->DV K H d x
 | [],xs,h=>by
  unfold DVs at h
  subst h
  exact ⟨rfl,fun i d x h=>by simp at h⟩
 | d::ds,xs,h=>by
  unfold DVs at h
  obtain ⟨x,t,rfl,h1,h2⟩:=h
  obtain ⟨a,b⟩:=ZkO h2
  refine ⟨by simp [a],fun i d' x' e1 e2=>?_⟩
  cases i with
  | zero=>cases e1;cases e2;exact h1
  | succ i=>exact b i d' x' (by simpa using e1) (by simpa using e2)
theorem DVs.take {K:PySem.W.Frag} {H:Hp} {ds:List Dt} {xs:List V} (h:DVs K H ds xs) (n:Nat):DVs K H (ds.take n) (xs.take n):=by
 obtain ⟨a,b⟩:=ZkO h
 refine Zg0 _ _ (by rw [List.length_take,List.length_take,a]) fun i d x h1 h2=>?_
 rw [List.getElem?_take] at h1 h2
 split at h1
 .rename_i hi
  rw [if_pos hi] at h2
  exact b i d x h1 h2
 .cases h1
theorem DVs.snoc {K:PySem.W.Frag} {H:Hp} {ds:List Dt} {xs:List V} {d:Dt} {x:V} (h:DVs K H ds xs) (h1:DV K H d x):DVs K H (ds++[d]) (xs++[x]):=by
 obtain ⟨a,b⟩:=ZkO h
 refine Zg0 _ _ (by rw [List.length_append,List.length_append,a];rfl) fun i d' x' e1 e2=>?_
 by_cases hi:i<ds.length
 .rw [List.getElem?_append_left hi] at e1
  rw [List.getElem?_append_left (by rw [<- a];exact hi)] at e2
  exact b i d' x' e1 e2
 .rw [List.getElem?_append_right (by omega)] at e1
  rw [List.getElem?_append_right (by omega),<- a] at e2
  generalize i-ds.length=n at e1 e2
  cases n with
  | zero=>cases e1;cases e2;exact h1
  | succ n=>simp at e1
noncomputable def TupsAt (H:Hp) (ds:List Dd) (ts:List Addr):Prop:=ds.length=ts.length/\∀ (n:Nat) (d:Dd) (t:Addr),ds[n]?=some d->ts[n]?=some t->H t=some (.tup (tellV d))
theorem TupsAt.nil {H:Hp}:TupsAt H [] []:=⟨rfl,fun n d t h=>by simp at h⟩
theorem TupsAt.mono {H H':Hp} {ds:List Dd} {ts:List Addr} (h:TupsAt H ds ts) (k:∀ b xs,H b=some (.tup xs)->H' b=some (.tup xs)):TupsAt H' ds ts:=⟨h.1,fun n d t h1 h2=>k _ _ (h.2 n d t h1 h2)⟩
theorem TupsAt.snoc {H:Hp} {ds:List Dd} {ts:List Addr} {d:Dd} {t:Addr} (h:TupsAt H ds ts) (h1:H t=some (.tup (tellV d))):TupsAt H (ds++[d]) (ts++[t]):=by
 refine ⟨by rw [List.length_append,List.length_append,h.1];rfl,fun n d' t' e1 e2=>?_⟩
 by_cases hi:n<ds.length
 .rw [List.getElem?_append_left hi] at e1
  rw [List.getElem?_append_left (by rw [<- h.1];exact hi)] at e2
  exact h.2 n d' t' e1 e2
 .rw [List.getElem?_append_right (by omega)] at e1
  rw [List.getElem?_append_right (by have:=h.1;omega),<- h.1] at e2
  generalize n-ds.length=n at e1 e2
  cases n with
  | zero=>cases e1;cases e2;exact h1
  | succ n=>simp at e1
theorem TupsAt.take {H:Hp} {ds:List Dd} {ts:List Addr} (h:TupsAt H ds ts) (n:Nat):TupsAt H (ds.take n) (ts.take n):=by
 refine ⟨by rw [List.length_take,List.length_take,h.1],fun i d t e1 e2=>?_⟩
 rw [List.getElem?_take] at e1 e2
 split at e1
 .rename_i hi
  rw [if_pos hi] at e2
  exact h.2 i d t e1 e2
 .cases e1
theorem TupsAt.dv {K:PySem.W.Frag} {H:Hp} {ds:List Dd} {ts:List Addr} {q:Addr} (h:TupsAt H ds ts) (hq:H q=some (.lst (ts.map V.ref))):DV K H (.lst (ds.map tellD)) (.ref q):=by
 refine ZgF (Zas hq) (Zg0 _ _ (by rw [List.length_map,List.length_map,h.1]) fun i d x e1 e2=>?_)
 rw [List.getElem?_map] at e1 e2
 obtain ⟨d',h1,rfl⟩:=Option.map_eq_some_iff.mp e1
 obtain ⟨t,h2,rfl⟩:=Option.map_eq_some_iff.mp e2
 exact ZgE (ZaA (h.2 i d' t h1 h2)) (ZiP d')
noncomputable def spTold (CD:Addr) (ok:Dd->Prop):Sp:=fun vs H Q _=>∃ (a dx:Addr) (d:Dd),vs=[.ref a]/\ok d/\H a=some (.ins CD dx (fldD d))/\∀ t,H t=none->Q (.ref t) (upd H t (.tup (tellV d)))
noncomputable def TTo (cS cM cN:Addr):Addr->Sp->Prop:=T3 cS cM cN (spTold cS isSave) (spTold cM isMove) (spTold cN isNote)
theorem Znf (cS cM cN:Addr) (d:Dd):TTo cS cM cN (clsD cS cM cN d) (spTold (clsD cS cM cN d) (okOf d)):=by
 cases d with
 | save=>exact .inl ⟨rfl,rfl⟩
 | move=>exact .inr (.inl ⟨rfl,rfl⟩)
 | note=>exact .inr (.inr ⟨rfl,rfl⟩)
theorem ZiQ (d:Dd):(fldD d).lookup (Str.ofString "told")=none:=by cases d<;>rfl
noncomputable def ZkP (cJ cS cM cN:Addr):Sp:=fun vs H Q _=>∃ (j dx R L:Addr) (A:Nat->Option AcI) (es:List DI),vs=[.ref j]/\Jr cJ cS cM cN H j dx R L A es/\es.length<=1000 /\
 ∀ q ts H',Same H H'->H q=none->H' q=some (.lst (ts.map V.ref))->TupsAt H' (es.map (·.d)) ts->Q (.ref q) H'
section
variable {P:Program} {w:World} {K:PySem.W.Frag} {mg:Str->Option Value} {base:Heap}
theorem Zg1:FnScope ["self"] ["self"] (Zab ZbB):=⟨rfl,rfl,rfl,by decide +kernel,rfl,by decide +kernel,by decide +kernel⟩
theorem Zg2   {cSave:Addr} (D:Zan K cSave "told" "Save.told" ZbB) (tSave:T_Save K mg cSave):MCal P w K mg base 1 cSave "told" (spTold cSave isSave):=by
 refine Za5 D tSave.k.cl Zg1 (fun vs H Q E h=>?_) (fun _ _ _ _ _ _ us hl=>bd1 (R:=fun us=>bindArgs _ ⟨us,[]⟩=pure (List.zip _ us)) (fun _=>rfl) us hl) (fun f cdv A outer s H vs Q E hr h=>?_)
 .obtain ⟨a,dx,d,rfl,_⟩:=h;rfl
 .obtain ⟨a,dx,d,rfl,⟨s0,p,o,n,rfl⟩,ha,k⟩:=h
  refine ⟨_,(Zaf (Zap (ZaG (Zaa Zar (Zaa (Zak (pv 0) rfl) (Zaa (Zak (pv 0) rfl) (Zaa (Zak (pv 0) rfl) (Zaa (Zak (pv 0) rfl) Zac)))))))),?_⟩
  walk_at "nx"
  repeat walk_at "rdk"
  refine Zah ha tSave.k.cl tSave.n_slot rfl ?_
  repeat walk_at "rdk"
  refine Zah ha tSave.k.cl tSave.n_place rfl ?_
  repeat walk_at "rdk"
  refine Zah ha tSave.k.cl tSave.n_old rfl ?_
  repeat walk_at "rdk"
  refine Zah ha tSave.k.cl tSave.n_new rfl ?_
  repeat walk_at "rdk"
  refine ⟨show 5<=sizeLine by decide,fun t ht=>?_⟩
  exact k t ht
theorem Zg3:FnScope ["self"] ["self"] (Zab ZbD):=⟨rfl,rfl,rfl,by decide +kernel,rfl,by decide +kernel,by decide +kernel⟩
theorem Zg4   {cMove:Addr} (D:Zan K cMove "told" "Move.told" ZbD) (tMove:T_Move K mg cMove):MCal P w K mg base 1 cMove "told" (spTold cMove isMove):=by
 refine Za5 D tMove.k.cl Zg3 (fun vs H Q E h=>?_) (fun _ _ _ _ _ _ us hl=>bd1 (R:=fun us=>bindArgs _ ⟨us,[]⟩=pure (List.zip _ us)) (fun _=>rfl) us hl) (fun f cdv A outer s H vs Q E hr h=>?_)
 .obtain ⟨a,dx,d,rfl,_⟩:=h;rfl
 .obtain ⟨a,dx,d,rfl,⟨s0,t0,kk,rfl⟩,ha,k⟩:=h
  refine ⟨_,(Zaf (Zap (ZaG (Zaa Zar (Zaa (Zak (pv 0) rfl) (Zaa (Zak (pv 0) rfl) (Zaa (Zak (pv 0) rfl) Zac))))))),?_⟩
  walk_at "nx"
  repeat walk_at "rdk"
  refine Zah ha tMove.k.cl tMove.n_slot rfl ?_
  repeat walk_at "rdk"
  refine Zah ha tMove.k.cl tMove.n_taker rfl ?_
  repeat walk_at "rdk"
  refine Zah ha tMove.k.cl tMove.n_many rfl ?_
  repeat walk_at "rdk"
  refine ⟨show 4<=sizeLine by decide,fun t ht=>?_⟩
  exact k t ht
theorem Zg5:FnScope ["self"] ["self"] (Zab ZbE):=⟨rfl,rfl,rfl,by decide +kernel,rfl,by decide +kernel,by decide +kernel⟩
theorem Zg6   {cNote:Addr} (D:Zan K cNote "told" "Note.told" ZbE) (tNote:T_Note K mg cNote):MCal P w K mg base 1 cNote "told" (spTold cNote isNote):=by
 refine Za5 D tNote.k.cl Zg5 (fun vs H Q E h=>?_) (fun _ _ _ _ _ _ us hl=>bd1 (R:=fun us=>bindArgs _ ⟨us,[]⟩=pure (List.zip _ us)) (fun _=>rfl) us hl) (fun f cdv A outer s H vs Q E hr h=>?_)
 .obtain ⟨a,dx,d,rfl,_⟩:=h;rfl
 .obtain ⟨a,dx,d,rfl,⟨s0,n,rfl⟩,ha,k⟩:=h
  refine ⟨_,(Zaf (Zap (ZaG (Zaa Zar (Zaa (Zak (pv 0) rfl) (Zaa (Zak (pv 0) rfl) Zac)))))),?_⟩
  walk_at "nx"
  repeat walk_at "rdk"
  refine Zah ha tNote.k.cl tNote.n_slot rfl ?_
  repeat walk_at "rdk"
  refine Zah ha tNote.k.cl tNote.n_number rfl ?_
  repeat walk_at "rdk"
  refine ⟨show 3<=sizeLine by decide,fun t ht=>?_⟩
  exact k t ht
theorem ZeI:FnScope ["self"] ["self"] (Zab Za3):=⟨rfl,rfl,rfl,by decide +kernel,rfl,by decide +kernel,by decide +kernel⟩
theorem ZeJ   {cJournal:Addr} {cSave:Addr} {cMove:Addr} {cNote:Addr} (D:Zan K cJournal "told" "Journal.told" Za3) (tJournal:T_Journal K mg cJournal) (tSave:T_Save K mg cSave) (tMove:T_Move K mg cMove) (tNote:T_Note K mg cNote) (m_Save_told:MCal P w K mg base 1 cSave "told" (spTold cSave isSave)) (m_Move_told:MCal P w K mg base 1 cMove "told" (spTold cMove isMove)) (m_Note_told:MCal P w K mg base 1 cNote "told" (spTold cNote isNote)):MCal P w K mg base 2 cJournal "told" (ZkP cJournal cSave cMove cNote):=by
 refine Za5 D tJournal.k.cl ZeI (fun vs H Q E h=>?_) (fun _ _ _ _ _ _ us hl=>bd1 (R:=fun us=>bindArgs _ ⟨us,[]⟩=pure (List.zip _ us)) (fun _=>rfl) us hl) (fun f cdv A outer s H vs Q E hr h=>?_)
 .obtain ⟨j,dx,R,L,A,es,rfl,_⟩:=h;rfl
 .obtain ⟨j,dx,R,L,Ar,es,rfl,J,hel,k⟩:=h
  refine ⟨_,(Zaf (Zap (Zkc ["deed"] rfl (show CompScope (Zab Za3) ["self"] ["deed"] _ from ⟨rfl,by decide +kernel,by decide +kernel,by decide +kernel,by decide +kernel,by decide +kernel⟩) (Zdr (Zak (pv 0) rfl)) (fun _ _ _ _ _=>(ZbV (i:=0) (show (["deed", "self"]:List Str).Nodup by decide +kernel) rfl (Or.inl rfl) (.inr rfl))) (fun _ _ _ _ _=>Zeo) (fun _ _ _ _ _=>(ZgD (T:=TTo cSave cMove cNote) (Zmo m_Save_told m_Move_told m_Note_told) (hr.mono (by decide)) (pv 0)))))),?_⟩
  walk_at "nx"
  have big:(1001:Nat)<=sizeLine:=by decide
  repeat walk_at "rdk"
  refine Zer (ZcJ ?_)
  repeat walk_at "rdk"
  refine Zah J.ob tJournal.k.cl tJournal.n_deeds rfl ?_
  refine ⟨L,rfl,⟨_,Zas J.li⟩,fun q hq=>?_⟩
  refine Zew (fun i H'=>Same H H'/\∃ ts,H' q=some (.lst (ts.map V.ref))/\TupsAt H' ((es.take i).map (·.d)) ts) ⟨Same.new hq,[],Zag,TupsAt.nil⟩ (fun i H' ⟨s,_⟩=>Zas (s _ _ J.li)) ?_ ?_
  .rintro i x H' hx ⟨s1,ts,hts,T⟩
   rw [List.getElem?_map] at hx
   obtain ⟨e,he,rfl⟩:=Option.map_eq_some_iff.mp hx
   obtain ⟨hi,ei⟩:=List.getElem?_eq_some_iff.mp he
   have de:=s1 _ _ (J.de e (List.mem_of_getElem? he)).1
   refine ZhJ ?_
   refine iteT ?_
   refine Zeb ?_
   repeat walk_at "rdk"
   refine ⟨e.o,clsD cSave cMove cNote e.d,e.dx,fldD e.d,_,rfl,de,ZiQ e.d,Znf cSave cMove cNote e.d,?_⟩
   repeat walk_at "rdk"
   refine ⟨e.o,e.dx,e.d,rfl,Zdk e.d,de,fun t ht=>?_⟩
   have hl:ts.length<=1000:=by
    rw [<- T.1,List.length_map,List.length_take]
    omega
   have hq2:=(Same.new ht (o:=.tup (tellV e.d))) _ _ hts
   refine ⟨_,hq2,by rw [List.length_map];omega,⟨(s1.newT ht).wr hq,ts++[t],by rw [Zag,List.map_append];rfl,?_⟩,_,rfl⟩
   have im:∀ b xs,H' b=some (.tup xs)->(upd (upd H' t (.tup (tellV e.d))) q (.lst (ts.map V.ref++[.ref t]))) b=some (.tup xs):=fun b xs h=>by
    rw [Zai (Zbl h hts (by intro z;cases z))]
    exact (Same.new ht) _ _ h
   have ht2:(upd (upd H' t (.tup (tellV e.d))) q (.lst (ts.map V.ref++[.ref t]))) t=some (.tup (tellV e.d)):=by
    rw [Zai (fun z=>by rw [z] at ht;rw [ht] at hts;cases hts)];exact Zag
   rw [List.take_succ_eq_append_getElem hi,ei,List.map_append]
   exact (T.mono im).snoc ht2
  .rintro H' ⟨s1,ts,hts,T⟩
   rw [List.length_map,List.take_length] at T
   repeat walk_at "rdk"
   exact k q ts H' s1 hq hts T
end
structure FrS where
 kind:Str
 who:Int
 whose:Int
 caller:Int
 coin:Int
 word:Int
 given:Int
 depth:Int
 looking:Bool
 used:Int
 stack:List Int
 row:Int
 fin:Option Str
 answer:Int
structure FrI where
 a:Addr
 dx:Addr
 ST:Addr
 SS:Addr
noncomputable def endV:Option Str->V
 | none=>.non
 | some s=>.str s
noncomputable def fldF (f:FrI) (x:FrS):List (Str×V):=[("kind", .str x.kind),("who", .int x.who),("whose", .int x.whose),("caller", .int x.caller),("coin", .int x.coin),("word", .int x.word),("given", .int x.given),("depth", .int x.depth),("looking", .bl x.looking),("used", .int x.used),("stack", .ref f.ST),("row", .int x.row),("steps", .ref f.SS),("end", endV x.fin),("answer", .int x.answer)]
structure FrAt (cF:Addr) (H:Hp) (f:FrI) (x:FrS) (vs:List V):Prop where
 ob:H f.a=some (.ins cF f.dx (fldF f x))
 st:H f.ST=some (.lst (x.stack.map V.int))
 ss:H f.SS=some (.lst vs)
 ne:f.ST≠f.SS
section
variable {cF:Addr} {H H':Hp} {f:FrI} {x:FrS} {vs:List V}
theorem FrAt.aST (F:FrAt cF H f x vs):f.a≠f.ST:=Zbl F.ob F.st (by intro z;cases z)
theorem FrAt.aSS (F:FrAt cF H f x vs):f.a≠f.SS:=Zbl F.ob F.ss (by intro z;cases z)
theorem FrAt.setST (F:FrAt cF H f x vs) (s:List Int):FrAt cF (upd H f.ST (.lst (s.map V.int))) f { x with stack:=s } vs :=
 ⟨by rw [Zai F.aST];exact F.ob,Zag,by rw [Zai (Ne.symm F.ne)];exact F.ss,F.ne⟩
theorem FrAt.setSS (F:FrAt cF H f x vs) (ws:List V):FrAt cF (upd H f.SS (.lst ws)) f x ws :=
 ⟨by rw [Zai F.aSS];exact F.ob,by rw [Zai F.ne];exact F.st,Zag,F.ne⟩
theorem FrAt.setF (F:FrAt cF H f x vs) (y:FrS) (e:y.stack=x.stack):FrAt cF (upd H f.a (.ins cF f.dx (fldF f y))) f y vs :=
 ⟨Zag,by rw [Zai (Ne.symm F.aST),e];exact F.st,by rw [Zai (Ne.symm F.aSS)];exact F.ss,F.ne⟩
theorem FrAt.kept {X:Addr->Prop} (F:FrAt cF H f x vs) (k:KeptX X H H') (h1:¬ X f.a) (h2:¬ X f.ST) (h3:¬ X f.SS):FrAt cF H' f x vs :=
 ⟨k _ _ F.ob h1,k _ _ F.st h2,k _ _ F.ss h3,F.ne⟩
theorem FrAt.same (F:FrAt cF H f x vs) (s:Same H H'):FrAt cF H' f x vs:=⟨s _ _ F.ob,s _ _ F.st,s _ _ F.ss,F.ne⟩
theorem FrAt.put (F:FrAt cF H f x vs) {s:List Int} (k:KeptX (·=f.ST) H H') (e:H' f.ST=some (.lst (s.map V.int))):FrAt cF H' f { x with stack:=s } vs :=
 ⟨k _ _ F.ob F.aST,e,k _ _ F.ss (Ne.symm F.ne),F.ne⟩
end
noncomputable def frame0 (kind:Str) (who whose caller coin word given depth:Int) (looking:Bool):FrS:=⟨kind,who,whose,caller,coin,word,given,depth,looking,0,[],0,none,0⟩
noncomputable def ZeK (cF:Addr):Sp:=fun vs H Q _=>∃ (a dx:Addr) (kind:Str) (who whose caller coin word given depth:Int) (looking:Bool),vs=[.ref a,.str kind,.int who,.int whose,.int caller,.int coin,.int word,.int given,.int depth,.bl looking]/\H a=some (.ins cF dx []) /\
 ∀ ST SS H',H ST=none->H SS=none->FrAt cF H' ⟨a,dx,ST,SS⟩ (frame0 kind who whose caller coin word given depth looking) []->KeptX (·=a) H H'->Q .non H'
noncomputable def spLeft (cF:Addr):Sp:=fun vs H Q _=>∃ (f:FrI) (x:FrS) (ws:List V),vs=[.ref f.a]/\FrAt cF H f x ws/\Q (.int (x.given-x.used)) H
noncomputable def ZkQ (K:PySem.W.Frag) (cF:Addr):Sp:=fun vs H Q _=>∃ (f:FrI) (x:FrS) (ws:List V) (p:Addr) (w:Str) (n:Option Int) (r t l pr d:Int),vs=[.ref f.a,.ref p]/\FrAt cF H f x ws/\ZbP K H p w n/\ZbJ w n=some r/\RT.lookup w=some (t,l,pr,d)/\Q (.bl (decide ((x.stack.length:Int)<t+r))) H
noncomputable def spFull (K:PySem.W.Frag) (cF:Addr):Sp:=fun vs H Q _=>∃ (f:FrI) (x:FrS) (ws:List V) (p:Addr) (w:Str) (n:Option Int) (r t l pr d:Int),vs=[.ref f.a,.ref p]/\FrAt cF H f x ws/\ZbP K H p w n/\ZbJ w n=some r/\RT.lookup w=some (t,l,pr,d)/\Q (.bl (decide (24<(x.stack.length:Int)-(t+r)+(l+r)))) H
noncomputable def Zb1 (cF:Addr):Sp:=fun vs H Q _=>∃ (f:FrI) (x:FrS) (ws:List V) (s t:List Int),vs=[.ref f.a,.int (t.length:Nat)]/\FrAt cF H f x ws/\x.stack=s++t/\t.length<=1000 /\
 ∀ p H',H p=none->KeptX (·=f.ST) H H'->FrAt cF H' f { x with stack:=s } ws->H' p=some (.lst (t.map V.int))->Q (.ref p) H'
noncomputable def spLay (cF:Addr):Sp:=fun vs H Q _=>∃ (f:FrI) (x:FrS) (ws:List V) (k:Int),vs=[.ref f.a,.int k]/\FrAt cF H f x ws/\x.stack.length<=1000/\∀ H',KeptX (·=f.ST) H H'->FrAt cF H' f { x with stack:=x.stack++[k] } ws->Q .non H'
noncomputable def ZcN (cF:Addr):Sp:=fun vs H Q _=>∃ (f:FrI) (x:FrS) (ws:List V) (e:Str) (k:Int),vs=[.ref f.a,.str e,.int k]/\FrAt cF H f x ws/\∀ H',KeptX (·=f.a) H H'->FrAt cF H' f { x with fin:=some e,answer:=k } ws->Q .non H'
noncomputable def treeV (x:FrS) (L:Addr):List V:=[.str x.kind,.int x.who,.int x.whose,.int x.caller,.int x.coin,.int x.word,.int x.given,endV x.fin,.int x.answer,.int x.used,.ref L]
noncomputable def spTree (cF:Addr):Sp:=fun vs H Q _=>∃ (f:FrI) (x:FrS) (ws:List V),vs=[.ref f.a]/\FrAt cF H f x ws/\∀ p L H',Same H H'->H p=none->H L=none->H' L=some (.lst ws)->H' p=some (.tup (treeV x L))->Q (.ref p) H'
section
variable {P:Program} {w:World} {K:PySem.W.Frag} {mg:Str->Option Value} {base:Heap}
theorem ZfT:FnScope ["self"] ["self"] (Zab Zbo):=⟨rfl,rfl,rfl,by decide +kernel,rfl,by decide +kernel,by decide +kernel⟩
theorem ZfU   {cFrame:Addr} (D:Zan K cFrame "left" "Frame.left" Zbo) (tFrame:T_Frame K mg cFrame):MCal P w K mg base 1 cFrame "left" (spLeft cFrame):=by
 refine Za5 D tFrame.k.cl ZfT (fun vs H Q E h=>?_) (fun _ _ _ _ _ _ us hl=>bd1 (R:=fun us=>bindArgs _ ⟨us,[]⟩=pure (List.zip _ us)) (fun _=>rfl) us hl) (fun f cdv A outer s H vs Q E hr h=>?_)
 .obtain ⟨f,x,ws,rfl,_⟩:=h;rfl
 .obtain ⟨fr,x,ws,rfl,F,k⟩:=h
  refine ⟨_,(Zaf (Zap (ZaB Zee (Zak (pv 0) rfl) (Zak (pv 0) rfl)))),?_⟩
  walk_at "nx"
  repeat walk_at "rdk"
  refine Zah F.ob tFrame.k.cl tFrame.n_given rfl ?_
  repeat walk_at "rdk"
  refine Zah F.ob tFrame.k.cl tFrame.n_used rfl ?_
  repeat walk_at "rdk"
  exact k
theorem Zdm:FnScope ["self", "row"] ["self", "row"] (Zab ZaU):=⟨rfl,rfl,rfl,by decide +kernel,rfl,by decide +kernel,by decide +kernel⟩
theorem Zdn   {cFrame:Addr} (D:Zan K cFrame "short_for" "Frame.short_for" ZaU) (tFrame:T_Frame K mg cFrame) (c_takes:Cal P w K mg base 2 "takes" (ZfN K)) (n_len:mg "len" = none):MCal P w K mg base 3 cFrame "short_for" (ZkQ K cFrame):=by
 refine Za5 D tFrame.k.cl Zdm (fun vs H Q E h=>?_) (fun _ _ _ _ _ _ us hl=>bd2 (R:=fun us=>bindArgs _ ⟨us,[]⟩=pure (List.zip _ us)) (fun _ _=>rfl) us hl) (fun f cdv A outer s H vs Q E hr h=>?_)
 .obtain ⟨f,x,ws,p,w,n,r,t,l,pr,d,rfl,_⟩:=h;rfl
 .obtain ⟨fr,x,ws,p,wd,n,r,t,l,pr,d,rfl,F,hp,e1,e2,k⟩:=h
  refine ⟨_,(Zaf (Zap (ZcV Zfu (ZaM ZbO rfl n_len PySem.boot_len (Zaa (Zak (pv 0) rfl) Zac)) (ZaL c_takes (hr.mono (by decide)) rfl (Zaa (pv 1) Zac)) (nomark _)))),?_⟩
  walk_at "nx"
  have hST:=F.st
  repeat walk_at "rdk"
  refine Zah F.ob tFrame.k.cl tFrame.n_stack rfl ?_
  repeat walk_at "rdk"
  refine ⟨p,wd,n,r,t,l,pr,d,rfl,hp,e1,e2,?_⟩
  repeat walk_at "rdk"
  rw [List.length_map]
  exact k
theorem ZcQ:FnScope ["self", "row"] ["self", "row"] (Zab ZaQ):=⟨rfl,rfl,rfl,by decide +kernel,rfl,by decide +kernel,by decide +kernel⟩
theorem ZcR   {cFrame:Addr} (D:Zan K cFrame "full_behind" "Frame.full_behind" ZaQ) (tFrame:T_Frame K mg cFrame) (c_leaves:Cal P w K mg base 2 "leaves" (ZiL K)) (c_takes:Cal P w K mg base 2 "takes" (ZfN K)) (n_len:mg "len" = none) (g_MOST_ON_STACK:ZaW mg "MOST_ON_STACK" (.int 24)):MCal P w K mg base 3 cFrame "full_behind" (spFull K cFrame):=by
 refine Za5 D tFrame.k.cl ZcQ (fun vs H Q E h=>?_) (fun _ _ _ _ _ _ us hl=>bd2 (R:=fun us=>bindArgs _ ⟨us,[]⟩=pure (List.zip _ us)) (fun _ _=>rfl) us hl) (fun f cdv A outer s H vs Q E hr h=>?_)
 .obtain ⟨f,x,ws,p,w,n,r,t,l,pr,d,rfl,_⟩:=h;rfl
 .obtain ⟨fr,x,ws,p,wd,n,r,t,l,pr,d,rfl,F,hp,e1,e2,k⟩:=h
  refine ⟨_,(Zaf (Zap (ZcV Zhx (ZaB Zb8 (ZaB Zee (ZaM ZbO rfl n_len PySem.boot_len (Zaa (Zak (pv 0) rfl) Zac)) (ZaL c_takes (hr.mono (by decide)) rfl (Zaa (pv 1) Zac))) (ZaL c_leaves (hr.mono (by decide)) rfl (Zaa (pv 1) Zac))) (ZbL rfl g_MOST_ON_STACK) (nomark _)))),?_⟩
  walk_at "nx"
  have hST:=F.st
  repeat walk_at "rdk"
  refine Zah F.ob tFrame.k.cl tFrame.n_stack rfl ?_
  repeat walk_at "rdk"
  refine ⟨p,wd,n,r,t,l,pr,d,rfl,hp,e1,e2,?_⟩
  repeat walk_at "rdk"
  refine ⟨p,wd,n,r,t,l,pr,d,rfl,hp,e1,e2,?_⟩
  repeat walk_at "rdk"
  rw [List.length_map]
  exact k
theorem Zb7:FnScope ["self", "many", "numbers", "turn"] ["self", "many"] (Zab Zbm):=⟨rfl,rfl,rfl,by decide +kernel,rfl,by decide +kernel,by decide +kernel⟩
theorem Ze6   {cFrame:Addr} (D:Zan K cFrame "taken" "Frame.taken" Zbm) (tFrame:T_Frame K mg cFrame) (n_range:mg "range" = none) (n_list:mg "list" = none) (n_reversed:mg "reversed" = none):MCal P w K mg base 1 cFrame "taken" (Zb1 cFrame):=by
 refine Za5 D tFrame.k.cl Zb7 (fun vs H Q E h=>?_) (fun _ _ _ _ _ _ us hl=>bd2 (R:=fun us=>bindArgs _ ⟨us,[]⟩=pure (List.zip _ us)) (fun _ _=>rfl) us hl) (fun f cdv A outer s H vs Q E hr h=>?_)
 .obtain ⟨f,x,ws,s,t,rfl,_⟩:=h;rfl
 .obtain ⟨fr,x,ws,s1,t,rfl,F,hx,ht,k⟩:=h
  refine ⟨_,(Zad (ZaF (i:=2) Zb7.nd rfl (by first|exact Or.inl rfl|exact Or.inr rfl) (ZaO Zac))
   (Zad (Zff PassesOwn.never rfl (Zcq rfl n_range (Zaa (pv 1) Zac)) (ZbV (i:=3) Zb7.nd rfl (by first|exact Or.inl rfl|exact Or.inr rfl))
   (Zaf (Zax (Zel PySem.F.plainAttrs_list PySem.F.slot_list_append PySem.F.type_list_append ZbN (pv 2) (Zaa (Zm2 PySem.F.plainAttrs_list PySem.F.slot_list_pop PySem.F.type_list_pop Zm3 (Zak (pv 0) rfl)) Zac)))))
   (Zaf (Zap (Zjk rfl rfl n_list rfl n_reversed (Zaa (pv 2) Zac)))))),?_⟩
  walk_at "nx"
  repeat walk_at "rdk"
  refine ⟨by decide,fun nl hnl=>?_⟩
  repeat walk_at "rdk"
  refine Zfn (Zdh ?_)
  repeat walk_at "rdk"
  refine ⟨_,rfl,by omega,by omega,?_⟩
  rw [Int.toNat_natCast]
  refine Zed (fun i σ' H'=>KeptX (·=fr.ST) H H'/\H' nl=some (.lst (((t.drop (t.length-i)).reverse).map V.int))/\H' fr.ST=some (.lst ((s1++t.take (t.length-i)).map V.int))/\∃ v,σ'=[some (.ref fr.a),some (.int (t.length:Nat)),some (.ref nl),v]) ⟨KeptX.new hnl,?_,?_,_,rfl⟩ ?_ ?_
  .rw [Nat.sub_zero,List.drop_length];exact Zag
  .rw [Nat.sub_zero,List.take_length,Zai (Zaj F.st hnl),<- hx];exact F.st
  .rintro i σ' H' hi ⟨k1,h1,h2,v,rfl⟩
   obtain ⟨j,hj⟩:∃ j,t.length-i=j+1:=⟨t.length-i-1,by omega⟩
   have hjl:j<t.length:=by omega
   have e1:t.take (t.length-i)=t.take j++[t[j]]:=by rw [hj];exact List.take_succ_eq_append_getElem hjl
   have e2:t.drop j=t[j]::t.drop (t.length-i):=by rw [hj];exact List.drop_eq_getElem_cons hjl
   have e3:t.length-(i+1)=j:=by omega
   rw [e3,e2]
   rw [e1,<- List.append_assoc,List.map_append] at h2
   have hob:H' fr.a=some (.ins cFrame fr.dx (fldF fr x)):=k1 _ _ F.ob F.aST
   generalize t[j]=z at *
   have nln:nl≠fr.ST:=Ne.symm (Zaj F.st hnl)
   repeat walk_at "rdk"
   refine ⟨ZbW (Zas h1),?_⟩
   repeat walk_at "rdk"
   refine Zah hob tFrame.k.cl tFrame.n_stack rfl ?_
   refine ⟨ZbW (Zas h2),?_⟩
   refine Zm7 h2 ?_
   repeat walk_at "rdk"
   refine ZbX (xs:=((t.drop (t.length-i)).reverse).map V.int) (by rw [Zai nln];exact h1) (by rw [List.length_map,List.length_reverse,List.length_drop];exact Nat.lt_of_le_of_lt (show _<=1000 by omega) (by decide)) ?_
   repeat walk_at "rdk"
   refine ⟨fun b o e n=>by rw [Zai (Zaj e hnl),Zai n];exact k1 b o e n,?_,?_,_,rfl⟩
   .rw [Zag,List.reverse_cons,List.map_append];rfl
   .rw [Zai (Ne.symm nln),Zag]
  .rintro σ' H' ⟨k1,h1,h2,v,rfl⟩
   rw [Nat.sub_self,List.drop_zero] at h1
   rw [Nat.sub_self,List.take_zero,List.append_nil] at h2
   have F1:=F.put k1 h2
   repeat walk_at "rdk"
   refine Zjj ?_
   repeat walk_at "rdk"
   refine ⟨nl,_,rfl,Zas h1,fun l hl=>?_⟩
   rw [<- List.map_reverse,List.reverse_reverse]
   have hlH:H l=none:=by
    cases e:H l with
    | none=>rfl
    | some o =>
     by_cases q:l=fr.ST
     .rw [q,h2] at hl;cases hl
     .rw [k1 l o e q] at hl;cases hl
   exact k l _ hlH (k1.trans (KeptX.new hl)) (F1.same (Same.new hl)) Zag
theorem Zg7:FnScope ["self", "number"] ["self", "number"] (Zab ZbF):=⟨rfl,rfl,rfl,by decide +kernel,rfl,by decide +kernel,by decide +kernel⟩
theorem Zg8   {cFrame:Addr} (D:Zan K cFrame "lay" "Frame.lay" ZbF) (tFrame:T_Frame K mg cFrame):MCal P w K mg base 1 cFrame "lay" (spLay cFrame):=by
 refine Za5 D tFrame.k.cl Zg7 (fun vs H Q E h=>?_) (fun _ _ _ _ _ _ us hl=>bd2 (R:=fun us=>bindArgs _ ⟨us,[]⟩=pure (List.zip _ us)) (fun _ _=>rfl) us hl) (fun f cdv A outer s H vs Q E hr h=>?_)
 .obtain ⟨f,x,ws,k,rfl,_⟩:=h;rfl
 .obtain ⟨fr,x,ws,n,rfl,F,hl,k⟩:=h
  refine ⟨_,(Zaf (Zax (Zel PySem.F.plainAttrs_list PySem.F.slot_list_append PySem.F.type_list_append ZbN (Zak (pv 0) rfl) (Zaa (pv 1) Zac)))),?_⟩
  walk_at "nx"
  repeat walk_at "rdk"
  refine Zah F.ob tFrame.k.cl tFrame.n_stack rfl ?_
  refine ⟨ZbW (Zas F.st),?_⟩
  repeat walk_at "rdk"
  refine ZbX F.st (by rw [List.length_map];exact Nat.lt_of_le_of_lt hl (by decide)) ?_
  repeat walk_at "rdk"
  have:=F.setST (x.stack++[n])
  rw [List.map_append] at this
  exact k _ (KeptX.upd rfl) this
theorem ZeL:FnScope ["self", "end", "answer"] ["self", "end", "answer"] (Zab Zbf):=⟨rfl,rfl,rfl,by decide +kernel,rfl,by decide +kernel,by decide +kernel⟩
theorem ZeM   {cFrame:Addr} (D:Zan K cFrame "finish" "Frame.finish" Zbf) (tFrame:T_Frame K mg cFrame):MCal P w K mg base 1 cFrame "finish" (ZcN cFrame):=by
 refine Za5 D tFrame.k.cl ZeL (fun vs H Q E h=>?_) (fun _ _ _ _ _ _ us hl=>bd3 (R:=fun us=>bindArgs _ ⟨us,[]⟩=pure (List.zip _ us)) (fun _ _ _=>rfl) us hl) (fun f cdv A outer s H vs Q E hr h=>?_)
 .obtain ⟨f,x,ws,e,k,rfl,_⟩:=h;rfl
 .obtain ⟨fr,x,ws,e,n,rfl,F,k⟩:=h
  refine ⟨_,(Zad (ZaT (pv 0) (pv 1) rfl)
   (Zaf (ZaT (pv 0) (pv 2) rfl))),?_⟩
  walk_at "nx"
  repeat walk_at "rdk"
  refine Zaw F.ob tFrame.k.cl tFrame.n_end (by show 15<1000;decide) ?_
  repeat walk_at "rdk"
  refine Zaw Zag tFrame.k.cl tFrame.n_answer (by show 15<1000;decide) ?_
  rw [ZaV]
  exact k _ (KeptX.upd rfl) (F.setF { x with fin:=some e,answer:=n } rfl)
theorem ZfV:FnScope ["self"] ["self"] (Zab Zbp):=⟨rfl,rfl,rfl,by decide +kernel,rfl,by decide +kernel,by decide +kernel⟩
theorem ZfW   {cFrame:Addr} (D:Zan K cFrame "tree" "Frame.tree" Zbp) (tFrame:T_Frame K mg cFrame) (n_list:mg "list" = none):MCal P w K mg base 1 cFrame "tree" (spTree cFrame):=by
 refine Za5 D tFrame.k.cl ZfV (fun vs H Q E h=>?_) (fun _ _ _ _ _ _ us hl=>bd1 (R:=fun us=>bindArgs _ ⟨us,[]⟩=pure (List.zip _ us)) (fun _=>rfl) us hl) (fun f cdv A outer s H vs Q E hr h=>?_)
 .obtain ⟨f,x,ws,rfl,_⟩:=h;rfl
 .obtain ⟨fr,x,ws,rfl,F,k⟩:=h
  refine ⟨_,(Zaf (Zap (ZaG (Zaa (Zak (pv 0) rfl) (Zaa (Zak (pv 0) rfl) (Zaa (Zak (pv 0) rfl) (Zaa (Zak (pv 0) rfl) (Zaa (Zak (pv 0) rfl) (Zaa (Zak (pv 0) rfl) (Zaa (Zak (pv 0) rfl) (Zaa (Zak (pv 0) rfl) (Zaa (Zak (pv 0) rfl) (Zaa (Zak (pv 0) rfl) (Zaa (Zgn Zkv rfl n_list PyProof.Rows.boot_list (Zaa (Zak (pv 0) rfl) Zac)) Zac)))))))))))))),?_⟩
  walk_at "nx"
  repeat walk_at "rdk"
  refine Zah F.ob tFrame.k.cl tFrame.n_kind rfl ?_
  repeat walk_at "rdk"
  refine Zah F.ob tFrame.k.cl tFrame.n_who rfl ?_
  repeat walk_at "rdk"
  refine Zah F.ob tFrame.k.cl tFrame.n_whose rfl ?_
  repeat walk_at "rdk"
  refine Zah F.ob tFrame.k.cl tFrame.n_caller rfl ?_
  repeat walk_at "rdk"
  refine Zah F.ob tFrame.k.cl tFrame.n_coin rfl ?_
  repeat walk_at "rdk"
  refine Zah F.ob tFrame.k.cl tFrame.n_word rfl ?_
  repeat walk_at "rdk"
  refine Zah F.ob tFrame.k.cl tFrame.n_given rfl ?_
  repeat walk_at "rdk"
  refine Zah F.ob tFrame.k.cl tFrame.n_end rfl ?_
  repeat walk_at "rdk"
  refine Zah F.ob tFrame.k.cl tFrame.n_answer rfl ?_
  repeat walk_at "rdk"
  refine Zah F.ob tFrame.k.cl tFrame.n_used rfl ?_
  repeat walk_at "rdk"
  refine Zah F.ob tFrame.k.cl tFrame.n_steps rfl ?_
  repeat walk_at "rd"
  refine ZfB (Zas F.ss) fun L hL=>?_
  repeat walk_at "rdk"
  refine ⟨szl_11,fun p hp=>?_⟩
  have s1:Same H (upd H L (.lst ws)):=Same.new hL
  exact k p L _ (s1.newT hp) (s1.fresh hp) hL (by rw [Zai (Zaj Zag hp),Zag]) Zag
end
noncomputable abbrev RD:=FrS->Str->Option Int->FrS->Prop
noncomputable def rPush:RD:=fun x _ n x'=>∃ k,n=some k/\x'={ x with stack:=x.stack++[k] }
noncomputable def rDrop:RD:=fun x _ _ x'=>∃ s k,x.stack=s++[k]/\x'={ x with stack:=s }
noncomputable def rCopy:RD:=fun x _ n x'=>∃ (k:Nat) (v:Int),n=some (k:Int)/\k<x.stack.length/\x.stack[x.stack.length-1-k]?=some v/\x'={ x with stack:=x.stack++[v] }
noncomputable def rSwap:RD:=fun x _ n x'=>∃ (s m:List Int) (a b:Int),n=some ((m.length+1:Nat):Int)/\x.stack=s++a::(m++[b])/\x'={ x with stack:=s++b::(m++[a]) }
noncomputable def rReck:RD:=fun x w _ x'=>∃ (f:Int->Int->Int) (s:List Int) (a b:Int),RK.lookup w=some f/\x.stack=s++[a,b]/\ZaX a b/\x'={ x with stack:=s++[f a b] }
noncomputable def rMe:RD:=fun x _ _ x'=>x'={ x with stack:=x.stack++[x.who] }
noncomputable def rFrom:RD:=fun x _ _ x'=>x'={ x with stack:=x.stack++[x.caller] }
noncomputable def rSent:RD:=fun x _ _ x'=>x'={ x with stack:=x.stack++[x.coin] }
noncomputable def rWord:RD:=fun x _ _ x'=>x'={ x with stack:=x.stack++[x.word] }
noncomputable def rJump:RD:=fun x _ n x'=>∃ k,n=some k/\x'={ x with row:=k }
noncomputable def ZfX:RD:=fun x _ n x'=>∃ (k:Int) (s:List Int) (t:Int),n=some k/\x.stack=s++[t]/\x'={ x with stack:=s,row:=if t=0 then x.row else k }
noncomputable def rGive:RD:=fun x _ _ x'=>∃ (s:List Int) (t:Int),x.stack=s++[t]/\x'={ x with stack:=s,fin:=some ("well" : Str),answer:=t }
noncomputable def rFail:RD:=fun x _ _ x'=>∃ (s:List Int) (t:Int),x.stack=s++[t]/\x'={ x with stack:=s,fin:=some ("fail" : Str),answer:=t }
noncomputable def inF (f:FrI) (b:Addr):Prop:=b=f.a\/b=f.ST
noncomputable def spD (K:PySem.W.Frag) (cF:Addr) (R:RD):Sp:=fun vs H Q _=>∃ (vR vJ:V) (f:FrI) (x x':FrS) (ws:List V) (p:Addr) (w:Str) (n:Option Int),vs=[vR,vJ,.ref f.a,.ref p]/\FrAt cF H f x ws/\ZbP K H p w n/\R x w n x'/\x.stack.length<=900 /\
 ∀ H',KeptX (inF f) H H'->FrAt cF H' f x' ws->Q .non H'
theorem k_st {f:FrI} {H H':Hp} (k:KeptX (·=f.ST) H H'):KeptX (inF f) H H':=k.mono fun _ h=>.inr h
theorem k_a {f:FrI} {H H':Hp} (k:KeptX (·=f.a) H H'):KeptX (inF f) H H':=k.mono fun _ h=>.inl h
theorem Zci {K:PySem.W.Frag} {f:FrI} {cF:Addr} {H H':Hp} {x:FrS} {ws:List V} {p:Addr} {w:Str} {n:Option Int} (h:ZbP K H p w n) (F:FrAt cF H f x ws) (k:KeptX (inF f) H H'):ZbP K H' p w n:=by
 unfold ZbP at h |-
 refine SameI.tup (k.imm fun b o z e i=>?_) h
 rcases z with rfl|rfl
 .rw [F.ob] at e;cases e;exact ZcL i
 .rw [F.st] at e;cases e;exact Zbt i
theorem sw1 (s m:List Int) (a b c:Int):(List.map V.int (s++a::(m++[b]))).set s.length (.int c)=List.map V.int (s++c::(m++[b])):=by
 rw [List.map_append,List.set_append_right _ _ (by rw [List.length_map];exact Nat.le_refl _),List.length_map,Nat.sub_self,List.map_append];rfl
theorem sw2 (s m:List Int) (a b c:Int):(List.map V.int (s++a::(m++[b]))).set (s.length+1+m.length) (.int c)=List.map V.int (s++a::(m++[c])):=by
 rw [List.map_append,List.set_append_right _ _ (by rw [List.length_map];omega),List.length_map,List.map_append,List.map_cons,List.map_cons]
 rw [show s.length+1+m.length-s.length=m.length+1 by omega,List.set_cons_succ,List.map_append,List.set_append_right _ _ (by rw [List.length_map];omega),List.length_map,Nat.sub_self,List.map_append];rfl
theorem ZfY {xs:List Int} {k:Nat} {v:Int} (hk:k<xs.length) (e:xs[xs.length-1-k]?=some v):atI (xs.map V.int) (-1-(k:Int))=some (.int v):=by
 unfold atI
 rw [List.length_map,Zkw (j:=xs.length-1-k) (by omega) (by omega)]
 show (xs.map V.int)[xs.length-1-k]?=_
 rw [List.getElem?_map,e];rfl
section
variable {P:Program} {w:World} {K:PySem.W.Frag} {mg:Str->Option Value} {base:Heap}
theorem ZhZ:FnScope ["rooms", "journal", "frame", "row"] ["rooms", "journal", "frame", "row"] (Zab Zdw):=⟨rfl,rfl,rfl,by decide +kernel,rfl,by decide +kernel,by decide +kernel⟩
theorem Zh0   {cFrame:Addr} (D:Zao K mg "push_row" Zdw) (tFrame:T_Frame K mg cFrame) (m_Frame_lay:MCal P w K mg base 1 cFrame "lay" (spLay cFrame)):Cal P w K mg base 2 "push_row" (spD K cFrame rPush):=by
 refine Zaz D ZhZ (fun vs H Q E h=>?_) (fun _ _ _ _ _ _ us hl=>bd4 (R:=fun us=>bindArgs _ ⟨us,[]⟩=pure (List.zip _ us)) (fun _ _ _ _=>rfl) us hl) (fun f cdv A outer s H vs Q E hr h=>?_)
 .obtain ⟨vR,vJ,f,x,x',ws,p,w,n,rfl,_⟩:=h;rfl
 .obtain ⟨vR,vJ,fr,x,x',ws,p,wd,n,rfl,F,hp,hR,hl,k⟩:=h
  obtain ⟨n0,rfl,rfl⟩:=hR
  refine ⟨_,(Zaf (Zax (ZaN m_Frame_lay (hr.mono (by decide)) (pv 2) (Zaa (Zav Za0 (pv 3) Zae (fun _ _=>rfl)) Zac)))),?_⟩
  walk_at "nx"
  have hp':SqT K H p [.str wd,.int n0]:=hp
  repeat walk_at "rdk"
  refine Zam F.ob rfl ?_
  repeat walk_at "rdk"
  refine ⟨fr,_,ws,_,rfl,F,by show _<=1000;omega,fun H1 k1 F1=>?_⟩
  repeat walk_at "rdk"
  exact k _ (k_st k1) F1
theorem Zh1:FnScope ["rooms", "journal", "frame", "row"] ["rooms", "journal", "frame", "row"] (Zab Zdx):=⟨rfl,rfl,rfl,by decide +kernel,rfl,by decide +kernel,by decide +kernel⟩
theorem Zh2   {cFrame:Addr} (D:Zao K mg "drop_row" Zdx) (tFrame:T_Frame K mg cFrame) (m_Frame_taken:MCal P w K mg base 1 cFrame "taken" (Zb1 cFrame)):Cal P w K mg base 2 "drop_row" (spD K cFrame rDrop):=by
 refine Zaz D Zh1 (fun vs H Q E h=>?_) (fun _ _ _ _ _ _ us hl=>bd4 (R:=fun us=>bindArgs _ ⟨us,[]⟩=pure (List.zip _ us)) (fun _ _ _ _=>rfl) us hl) (fun f cdv A outer s H vs Q E hr h=>?_)
 .obtain ⟨vR,vJ,f,x,x',ws,p,w,n,rfl,_⟩:=h;rfl
 .obtain ⟨vR,vJ,fr,x,x',ws,p,wd,n,rfl,F,hp,hR,hl,k⟩:=h
  obtain ⟨s0,n0,e0,rfl⟩:=hR
  refine ⟨_,(Zaf (Zax (ZaN m_Frame_taken (hr.mono (by decide)) (pv 2) (Zaa Zae Zac)))),?_⟩
  walk_at "nx"
  repeat walk_at "rdk"
  refine Zam F.ob rfl ?_
  repeat walk_at "rdk"
  refine ⟨fr,x,ws,s0,[n0],rfl,F,e0,by show 1<=1000;decide,fun q H1 _ k1 F1 _=>?_⟩
  repeat walk_at "rdk"
  exact k _ (k_st k1) F1
theorem Zh3:FnScope ["rooms", "journal", "frame", "row"] ["rooms", "journal", "frame", "row"] (Zab Zdy):=⟨rfl,rfl,rfl,by decide +kernel,rfl,by decide +kernel,by decide +kernel⟩
theorem Zh4   {cFrame:Addr} (D:Zao K mg "copy_row" Zdy) (tFrame:T_Frame K mg cFrame) (m_Frame_lay:MCal P w K mg base 1 cFrame "lay" (spLay cFrame)):Cal P w K mg base 2 "copy_row" (spD K cFrame rCopy):=by
 refine Zaz D Zh3 (fun vs H Q E h=>?_) (fun _ _ _ _ _ _ us hl=>bd4 (R:=fun us=>bindArgs _ ⟨us,[]⟩=pure (List.zip _ us)) (fun _ _ _ _=>rfl) us hl) (fun f cdv A outer s H vs Q E hr h=>?_)
 .obtain ⟨vR,vJ,f,x,x',ws,p,w,n,rfl,_⟩:=h;rfl
 .obtain ⟨vR,vJ,fr,x,x',ws,p,wd,n,rfl,F,hp,hR,hl,k⟩:=h
  obtain ⟨n0,v0,rfl,hk,e0,rfl⟩:=hR
  refine ⟨_,(Zaf (Zax (ZaN m_Frame_lay (hr.mono (by decide)) (pv 2) (Zaa (Zav Zaq (Zak (pv 2) rfl) (ZaB Zee (Zgi ZdU Zae) (Zav Za0 (pv 3) Zae (fun _ _=>rfl))) (fun _ _=>rfl)) Zac)))),?_⟩
  walk_at "nx"
  have hp':SqT K H p [.str wd,.int n0]:=hp
  repeat walk_at "rdk"
  refine Zam F.ob rfl ?_
  repeat walk_at "rdk"
  refine Zah F.ob tFrame.k.cl tFrame.n_stack rfl ?_
  repeat walk_at "rdk"
  refine ZaH (Zas F.st) (ZfY hk e0) ?_
  repeat walk_at "rdk"
  refine ⟨fr,_,ws,_,rfl,F,by show _<=1000;omega,fun H1 k1 F1=>?_⟩
  repeat walk_at "rdk"
  exact k _ (k_st k1) F1
theorem Zcj:FnScope ["rooms", "journal", "frame", "row", "stack", "under", "deeper"] ["rooms", "journal", "frame", "row"] (Zab Zdz):=⟨rfl,rfl,rfl,by decide +kernel,rfl,by decide +kernel,by decide +kernel⟩
theorem Zh5   {cFrame:Addr} (D:Zao K mg "swap_row" Zdz) (tFrame:T_Frame K mg cFrame) (n_len:mg "len" = none):Cal P w K mg base 1 "swap_row" (spD K cFrame rSwap):=by
 refine Zaz D Zcj (fun vs H Q E h=>?_) (fun _ _ _ _ _ _ us hl=>bd4 (R:=fun us=>bindArgs _ ⟨us,[]⟩=pure (List.zip _ us)) (fun _ _ _ _=>rfl) us hl) (fun f cdv A outer s H vs Q E hr h=>?_)
 .obtain ⟨vR,vJ,f,x,x',ws,p,w,n,rfl,_⟩:=h;rfl
 .obtain ⟨vR,vJ,fr,x,x',ws,p,wd,n,rfl,F,hp,hR,hl,k⟩:=h
  obtain ⟨s0,m0,a0,b0,rfl,e0,rfl⟩:=hR
  refine ⟨_,(Zad (ZaF (i:=4) Zcj.nd rfl (by first|exact Or.inl rfl|exact Or.inr rfl) (Zak (pv 2) rfl))
   (Zad (ZaF (i:=5) Zcj.nd rfl (by first|exact Or.inl rfl|exact Or.inr rfl) (ZaB Zee (ZaB Zee (ZaM ZbO rfl n_len PySem.boot_len (Zaa (pv 4) Zac)) Zae) (Zav Za0 (pv 3) Zae (fun _ _=>rfl))))
   (Zad (ZaF (i:=6) Zcj.nd rfl (by first|exact Or.inl rfl|exact Or.inr rfl) (Zav Zaq (pv 4) (pv 5) (fun _ _=>rfl)))
   (Zad (Zgh (Zav Zaq (pv 4) (Zgi ZdU Zae) (fun _ _=>rfl)) (Zgg (pv 4) (pv 5) Zdf))
   (Zaf (Zgh (pv 6) (Zgg (pv 4) (Zgi ZdU Zae) Zdf))))))),?_⟩
  walk_at "nx"
  have hp':SqT K H p [.str wd,.int ((m0.length+1:Nat):Int)]:=hp
  have hST:=F.st
  rw [e0] at hST
  repeat walk_at "rdk"
  refine Zah F.ob tFrame.k.cl tFrame.n_stack rfl ?_
  repeat walk_at "rdk"
  have eu:((List.map V.int (s0++a0::(m0++[b0]))).length:Int)-1-((m0.length+1:Nat):Int)=(s0.length:Int):=by
   simp only [List.length_map,List.length_append,List.length_cons,List.length_nil];omega
  have em:List.map V.int (s0++a0::(m0++[b0]))=List.map V.int (s0++a0::m0)++[V.int b0]:=by simp
  rw [eu]
  refine ZaH (v:=.int a0) (Zas hST) (ZcW (j:=s0.length) (by rw [List.getElem?_map,List.getElem?_append_right (Nat.le_refl _),Nat.sub_self];rfl)) ?_
  repeat walk_at "rdk"
  refine ZaH (v:=.int b0) (Zas hST) (by rw [em];exact ZlJ _ _) ?_
  repeat walk_at "rdk"
  refine Zeu hST (ZfC rfl (by simp only [List.length_map,List.length_append,List.length_cons,List.length_nil];omega)) ?_
  rw [sw1]
  repeat walk_at "rdk"
  refine Zeu Zag (Zkw (j:=s0.length+1+m0.length) (by decide) (by simp only [List.length_map,List.length_append,List.length_cons,List.length_nil];omega)) ?_
  rw [sw2,ZaV]
  exact k _ (k_st (KeptX.upd rfl)) (F.setST _)
theorem Zdo:FnScope ["rooms", "journal", "frame", "row", "taken"] ["rooms", "journal", "frame", "row"] (Zab Zcy):=⟨rfl,rfl,rfl,by decide +kernel,rfl,by decide +kernel,by decide +kernel⟩
theorem ZfZ   {cFrame:Addr} (D:Zao K mg "reckon_row" Zcy) (tFrame:T_Frame K mg cFrame) (m_Frame_taken:MCal P w K mg base 1 cFrame "taken" (Zb1 cFrame)) (m_Frame_lay:MCal P w K mg base 1 cFrame "lay" (spLay cFrame)) (c_reckon:Cal P w K mg base 2 "reckon" ZiK):Cal P w K mg base 3 "reckon_row" (spD K cFrame rReck):=by
 refine Zaz D Zdo (fun vs H Q E h=>?_) (fun _ _ _ _ _ _ us hl=>bd4 (R:=fun us=>bindArgs _ ⟨us,[]⟩=pure (List.zip _ us)) (fun _ _ _ _=>rfl) us hl) (fun f cdv A outer s H vs Q E hr h=>?_)
 .obtain ⟨vR,vJ,f,x,x',ws,p,w,n,rfl,_⟩:=h;rfl
 .obtain ⟨vR,vJ,fr,x,x',ws,p,wd,n,rfl,F,hp,hR,hl,k⟩:=h
  obtain ⟨f0,s0,a0,b0,hf,e0,hi,rfl⟩:=hR
  refine ⟨_,(Zad (ZaF (i:=4) Zdo.nd rfl (by first|exact Or.inl rfl|exact Or.inr rfl) (ZaN m_Frame_taken (hr.mono (by decide)) (pv 2) (Zaa Zae Zac)))
   (Zaf (Zax (ZaN m_Frame_lay (hr.mono (by decide)) (pv 2) (Zaa (ZaL c_reckon (hr.mono (by decide)) rfl (Zaa (Zav Za0 (pv 3) Zae (fun _ _=>rfl)) (Zaa (Zav Zaq (pv 4) Zae (fun _ _=>rfl)) (Zaa (Zav Zaq (pv 4) Zae (fun _ _=>rfl)) Zac)))) Zac))))),?_⟩
  walk_at "nx"
  repeat walk_at "rdk"
  refine Zam F.ob rfl ?_
  repeat walk_at "rdk"
  refine ⟨fr,x,ws,s0,[a0,b0],rfl,F,e0,by show 2<=1000;decide,fun q H1 _ k1 F1 e1=>?_⟩
  have hp1:=Zci hp F (k_st k1)
  have e1':H1 q=some (.lst [.int a0,.int b0]):=e1
  repeat walk_at "rdk"
  refine Zam F1.ob rfl ?_
  repeat walk_at "rw"
  refine ⟨wd,a0,b0,f0,rfl,hf,hi,?_⟩
  repeat walk_at "rdk"
  have hl1:s0.length<=900:=by rw [e0,List.length_append] at hl;omega
  refine ⟨fr,_,ws,_,rfl,F1,Nat.le_trans hl1 (by decide),fun H2 k2 F2=>?_⟩
  repeat walk_at "rdk"
  exact k _ (k_st (k1.trans k2)) F2
theorem Zh6:FnScope ["rooms", "journal", "frame", "row"] ["rooms", "journal", "frame", "row"] (Zab ZdA):=⟨rfl,rfl,rfl,by decide +kernel,rfl,by decide +kernel,by decide +kernel⟩
theorem Zh7   {cFrame:Addr} (D:Zao K mg "jump_row" ZdA) (tFrame:T_Frame K mg cFrame):Cal P w K mg base 1 "jump_row" (spD K cFrame rJump):=by
 refine Zaz D Zh6 (fun vs H Q E h=>?_) (fun _ _ _ _ _ _ us hl=>bd4 (R:=fun us=>bindArgs _ ⟨us,[]⟩=pure (List.zip _ us)) (fun _ _ _ _=>rfl) us hl) (fun f cdv A outer s H vs Q E hr h=>?_)
 .obtain ⟨vR,vJ,f,x,x',ws,p,w,n,rfl,_⟩:=h;rfl
 .obtain ⟨vR,vJ,fr,x,x',ws,p,wd,n,rfl,F,hp,hR,hl,k⟩:=h
  obtain ⟨n0,rfl,rfl⟩:=hR
  refine ⟨_,(Zaf (ZaT (pv 2) (Zav Za0 (pv 3) Zae (fun _ _=>rfl)) rfl)),?_⟩
  walk_at "nx"
  have hp':SqT K H p [.str wd,.int n0]:=hp
  repeat walk_at "rdk"
  refine Zaw F.ob tFrame.k.cl tFrame.n_row (by show 15<1000;decide) ?_
  exact k _ (k_a (KeptX.upd rfl)) (F.setF { x with row:=n0 } rfl)
theorem Zdp:FnScope ["rooms", "journal", "frame", "row", "taken"] ["rooms", "journal", "frame", "row"] (Zab Zcz):=⟨rfl,rfl,rfl,by decide +kernel,rfl,by decide +kernel,by decide +kernel⟩
theorem Zf0   {cFrame:Addr} (D:Zao K mg "jumpif_row" Zcz) (tFrame:T_Frame K mg cFrame) (m_Frame_taken:MCal P w K mg base 1 cFrame "taken" (Zb1 cFrame)):Cal P w K mg base 2 "jumpif_row" (spD K cFrame ZfX):=by
 refine Zaz D Zdp (fun vs H Q E h=>?_) (fun _ _ _ _ _ _ us hl=>bd4 (R:=fun us=>bindArgs _ ⟨us,[]⟩=pure (List.zip _ us)) (fun _ _ _ _=>rfl) us hl) (fun f cdv A outer s H vs Q E hr h=>?_)
 .obtain ⟨vR,vJ,f,x,x',ws,p,w,n,rfl,_⟩:=h;rfl
 .obtain ⟨vR,vJ,fr,x,x',ws,p,wd,n,rfl,F,hp,hR,hl,k⟩:=h
  obtain ⟨n0,s0,t0,rfl,e0,rfl⟩:=hR
  refine ⟨_,(Zad (ZaF (i:=4) Zdp.nd rfl (by first|exact Or.inl rfl|exact Or.inr rfl) (ZaN m_Frame_taken (hr.mono (by decide)) (pv 2) (Zaa Zae Zac)))
   (Zaf (Zbd (Zau Zhw (Zav Zaq (pv 4) Zae (fun _ _=>rfl)) Zae (nomark _)) (Zaf (ZaT (pv 2) (Zav Za0 (pv 3) Zae (fun _ _=>rfl)) rfl)) ZaJ))),?_⟩
  walk_at "nx"
  repeat walk_at "rdk"
  refine Zam F.ob rfl ?_
  repeat walk_at "rdk"
  refine ⟨fr,x,ws,s0,[t0],rfl,F,e0,by show 1<=1000;decide,fun q H1 _ k1 F1 e1=>?_⟩
  have hp1:SqT K H1 p [.str wd,.int n0]:=Zci hp F (k_st k1)
  have e1':H1 q=some (.lst [.int t0]):=e1
  repeat walk_at "rdk"
  .rename_i ht
   refine Zaw F1.ob tFrame.k.cl tFrame.n_row (by show 15<1000;decide) ?_
   have:=F1.setF { x with stack:=s0,row:=n0 } rfl
   rw [if_neg ht] at k
   exact k _ ((k_st k1).trans (k_a (KeptX.upd rfl))) this
  .rename_i ht
   rw [if_pos ht] at k
   exact k _ (k_st k1) F1
theorem ZkR:FnScope ["rooms", "journal", "frame", "row"] ["rooms", "journal", "frame", "row"] (Zab ZfH):=⟨rfl,rfl,rfl,by decide +kernel,rfl,by decide +kernel,by decide +kernel⟩
theorem ZkS   {cFrame:Addr} (D:Zao K mg "me_row" ZfH) (tFrame:T_Frame K mg cFrame) (m_Frame_lay:MCal P w K mg base 1 cFrame "lay" (spLay cFrame)):Cal P w K mg base 2 "me_row" (spD K cFrame rMe):=by
 refine Zaz D ZkR (fun vs H Q E h=>?_) (fun _ _ _ _ _ _ us hl=>bd4 (R:=fun us=>bindArgs _ ⟨us,[]⟩=pure (List.zip _ us)) (fun _ _ _ _=>rfl) us hl) (fun f cdv A outer s H vs Q E hr h=>?_)
 .obtain ⟨vR,vJ,f,x,x',ws,p,w,n,rfl,_⟩:=h;rfl
 .obtain ⟨vR,vJ,fr,x,x',ws,p,wd,n,rfl,F,hp,hR,hl,k⟩:=h
  obtain rfl:=hR
  refine ⟨_,(Zaf (Zax (ZaN m_Frame_lay (hr.mono (by decide)) (pv 2) (Zaa (Zak (pv 2) rfl) Zac)))),?_⟩
  walk_at "nx"
  repeat walk_at "rdk"
  refine Zam F.ob rfl ?_
  repeat walk_at "rdk"
  refine Zah F.ob tFrame.k.cl tFrame.n_who rfl ?_
  repeat walk_at "rdk"
  refine ⟨fr,_,ws,_,rfl,F,by show _<=1000;omega,fun H1 k1 F1=>?_⟩
  repeat walk_at "rdk"
  exact k _ (k_st k1) F1
theorem Zh8:FnScope ["rooms", "journal", "frame", "row"] ["rooms", "journal", "frame", "row"] (Zab ZdD):=⟨rfl,rfl,rfl,by decide +kernel,rfl,by decide +kernel,by decide +kernel⟩
theorem Zh9   {cFrame:Addr} (D:Zao K mg "from_row" ZdD) (tFrame:T_Frame K mg cFrame) (m_Frame_lay:MCal P w K mg base 1 cFrame "lay" (spLay cFrame)):Cal P w K mg base 2 "from_row" (spD K cFrame rFrom):=by
 refine Zaz D Zh8 (fun vs H Q E h=>?_) (fun _ _ _ _ _ _ us hl=>bd4 (R:=fun us=>bindArgs _ ⟨us,[]⟩=pure (List.zip _ us)) (fun _ _ _ _=>rfl) us hl) (fun f cdv A outer s H vs Q E hr h=>?_)
 .obtain ⟨vR,vJ,f,x,x',ws,p,w,n,rfl,_⟩:=h;rfl
 .obtain ⟨vR,vJ,fr,x,x',ws,p,wd,n,rfl,F,hp,hR,hl,k⟩:=h
  obtain rfl:=hR
  refine ⟨_,(Zaf (Zax (ZaN m_Frame_lay (hr.mono (by decide)) (pv 2) (Zaa (Zak (pv 2) rfl) Zac)))),?_⟩
  walk_at "nx"
  repeat walk_at "rdk"
  refine Zam F.ob rfl ?_
  repeat walk_at "rdk"
  refine Zah F.ob tFrame.k.cl tFrame.n_caller rfl ?_
  repeat walk_at "rdk"
  refine ⟨fr,_,ws,_,rfl,F,by show _<=1000;omega,fun H1 k1 F1=>?_⟩
  repeat walk_at "rdk"
  exact k _ (k_st k1) F1
theorem Zia:FnScope ["rooms", "journal", "frame", "row"] ["rooms", "journal", "frame", "row"] (Zab ZdE):=⟨rfl,rfl,rfl,by decide +kernel,rfl,by decide +kernel,by decide +kernel⟩
theorem Zib   {cFrame:Addr} (D:Zao K mg "sent_row" ZdE) (tFrame:T_Frame K mg cFrame) (m_Frame_lay:MCal P w K mg base 1 cFrame "lay" (spLay cFrame)):Cal P w K mg base 2 "sent_row" (spD K cFrame rSent):=by
 refine Zaz D Zia (fun vs H Q E h=>?_) (fun _ _ _ _ _ _ us hl=>bd4 (R:=fun us=>bindArgs _ ⟨us,[]⟩=pure (List.zip _ us)) (fun _ _ _ _=>rfl) us hl) (fun f cdv A outer s H vs Q E hr h=>?_)
 .obtain ⟨vR,vJ,f,x,x',ws,p,w,n,rfl,_⟩:=h;rfl
 .obtain ⟨vR,vJ,fr,x,x',ws,p,wd,n,rfl,F,hp,hR,hl,k⟩:=h
  obtain rfl:=hR
  refine ⟨_,(Zaf (Zax (ZaN m_Frame_lay (hr.mono (by decide)) (pv 2) (Zaa (Zak (pv 2) rfl) Zac)))),?_⟩
  walk_at "nx"
  repeat walk_at "rdk"
  refine Zam F.ob rfl ?_
  repeat walk_at "rdk"
  refine Zah F.ob tFrame.k.cl tFrame.n_coin rfl ?_
  repeat walk_at "rdk"
  refine ⟨fr,_,ws,_,rfl,F,by show _<=1000;omega,fun H1 k1 F1=>?_⟩
  repeat walk_at "rdk"
  exact k _ (k_st k1) F1
theorem Zic:FnScope ["rooms", "journal", "frame", "row"] ["rooms", "journal", "frame", "row"] (Zab ZdF):=⟨rfl,rfl,rfl,by decide +kernel,rfl,by decide +kernel,by decide +kernel⟩
theorem Zid   {cFrame:Addr} (D:Zao K mg "word_row" ZdF) (tFrame:T_Frame K mg cFrame) (m_Frame_lay:MCal P w K mg base 1 cFrame "lay" (spLay cFrame)):Cal P w K mg base 2 "word_row" (spD K cFrame rWord):=by
 refine Zaz D Zic (fun vs H Q E h=>?_) (fun _ _ _ _ _ _ us hl=>bd4 (R:=fun us=>bindArgs _ ⟨us,[]⟩=pure (List.zip _ us)) (fun _ _ _ _=>rfl) us hl) (fun f cdv A outer s H vs Q E hr h=>?_)
 .obtain ⟨vR,vJ,f,x,x',ws,p,w,n,rfl,_⟩:=h;rfl
 .obtain ⟨vR,vJ,fr,x,x',ws,p,wd,n,rfl,F,hp,hR,hl,k⟩:=h
  obtain rfl:=hR
  refine ⟨_,(Zaf (Zax (ZaN m_Frame_lay (hr.mono (by decide)) (pv 2) (Zaa (Zak (pv 2) rfl) Zac)))),?_⟩
  walk_at "nx"
  repeat walk_at "rdk"
  refine Zam F.ob rfl ?_
  repeat walk_at "rdk"
  refine Zah F.ob tFrame.k.cl tFrame.n_word rfl ?_
  repeat walk_at "rdk"
  refine ⟨fr,_,ws,_,rfl,F,by show _<=1000;omega,fun H1 k1 F1=>?_⟩
  repeat walk_at "rdk"
  exact k _ (k_st k1) F1
theorem ZeN:FnScope ["rooms", "journal", "frame", "row", "taken"] ["rooms", "journal", "frame", "row"] (Zab ZdI):=⟨rfl,rfl,rfl,by decide +kernel,rfl,by decide +kernel,by decide +kernel⟩
theorem Zie   {cFrame:Addr} (D:Zao K mg "give_row" ZdI) (tFrame:T_Frame K mg cFrame) (m_Frame_taken:MCal P w K mg base 1 cFrame "taken" (Zb1 cFrame)) (m_Frame_finish:MCal P w K mg base 1 cFrame "finish" (ZcN cFrame)):Cal P w K mg base 2 "give_row" (spD K cFrame rGive):=by
 refine Zaz D ZeN (fun vs H Q E h=>?_) (fun _ _ _ _ _ _ us hl=>bd4 (R:=fun us=>bindArgs _ ⟨us,[]⟩=pure (List.zip _ us)) (fun _ _ _ _=>rfl) us hl) (fun f cdv A outer s H vs Q E hr h=>?_)
 .obtain ⟨vR,vJ,f,x,x',ws,p,w,n,rfl,_⟩:=h;rfl
 .obtain ⟨vR,vJ,fr,x,x',ws,p,wd,n,rfl,F,hp,hR,hl,k⟩:=h
  obtain ⟨s0,t0,e0,rfl⟩:=hR
  refine ⟨_,(Zad (ZaF (i:=4) ZeN.nd rfl (by first|exact Or.inl rfl|exact Or.inr rfl) (ZaN m_Frame_taken (hr.mono (by decide)) (pv 2) (Zaa Zae Zac)))
   (Zaf (Zax (ZaN m_Frame_finish (hr.mono (by decide)) (pv 2) (Zaa Zar (Zaa (Zav Zaq (pv 4) Zae (fun _ _=>rfl)) Zac)))))),?_⟩
  walk_at "nx"
  repeat walk_at "rdk"
  refine Zam F.ob rfl ?_
  repeat walk_at "rdk"
  refine ⟨fr,x,ws,s0,[t0],rfl,F,e0,by show 1<=1000;decide,fun q H1 _ k1 F1 e1=>?_⟩
  have e1':H1 q=some (.lst [.int t0]):=e1
  repeat walk_at "rdk"
  refine Zam F1.ob rfl ?_
  repeat walk_at "rdk"
  refine ⟨fr,_,ws, "well", t0,rfl,F1,fun H2 k2 F2=>?_⟩
  repeat walk_at "rdk"
  exact k _ ((k_st k1).trans (k_a k2)) F2
theorem ZeO:FnScope ["rooms", "journal", "frame", "row", "taken"] ["rooms", "journal", "frame", "row"] (Zab ZdJ):=⟨rfl,rfl,rfl,by decide +kernel,rfl,by decide +kernel,by decide +kernel⟩
theorem Zif   {cFrame:Addr} (D:Zao K mg "fail_row" ZdJ) (tFrame:T_Frame K mg cFrame) (m_Frame_taken:MCal P w K mg base 1 cFrame "taken" (Zb1 cFrame)) (m_Frame_finish:MCal P w K mg base 1 cFrame "finish" (ZcN cFrame)):Cal P w K mg base 2 "fail_row" (spD K cFrame rFail):=by
 refine Zaz D ZeO (fun vs H Q E h=>?_) (fun _ _ _ _ _ _ us hl=>bd4 (R:=fun us=>bindArgs _ ⟨us,[]⟩=pure (List.zip _ us)) (fun _ _ _ _=>rfl) us hl) (fun f cdv A outer s H vs Q E hr h=>?_)
 .obtain ⟨vR,vJ,f,x,x',ws,p,w,n,rfl,_⟩:=h;rfl
 .obtain ⟨vR,vJ,fr,x,x',ws,p,wd,n,rfl,F,hp,hR,hl,k⟩:=h
  obtain ⟨s0,t0,e0,rfl⟩:=hR
  refine ⟨_,(Zad (ZaF (i:=4) ZeO.nd rfl (by first|exact Or.inl rfl|exact Or.inr rfl) (ZaN m_Frame_taken (hr.mono (by decide)) (pv 2) (Zaa Zae Zac)))
   (Zaf (Zax (ZaN m_Frame_finish (hr.mono (by decide)) (pv 2) (Zaa Zar (Zaa (Zav Zaq (pv 4) Zae (fun _ _=>rfl)) Zac)))))),?_⟩
  walk_at "nx"
  repeat walk_at "rdk"
  refine Zam F.ob rfl ?_
  repeat walk_at "rdk"
  refine ⟨fr,x,ws,s0,[t0],rfl,F,e0,by show 1<=1000;decide,fun q H1 _ k1 F1 e1=>?_⟩
  have e1':H1 q=some (.lst [.int t0]):=e1
  repeat walk_at "rdk"
  refine Zam F1.ob rfl ?_
  repeat walk_at "rdk"
  refine ⟨fr,_,ws, "fail", t0,rfl,F1,fun H2 k2 F2=>?_⟩
  repeat walk_at "rdk"
  exact k _ ((k_st k1).trans (k_a k2)) F2
end
noncomputable def Zb2 (x:FrS) (w:Str) (b:Bool):Prop:=(w ≠ "call" /\ b=false)\/(w = "call" /\ ∃ s c u v,x.stack=s++[c,u,v]/\b=decide (0<c))
noncomputable def fillsR (A:Nat->Option AcI) (S:Nat->AcS) (x:FrS) (w:Str) (b:Bool):Prop:=(w ≠ "save" /\ b=false)\/(w = "save" /\ ∃ s p v,x.stack=s++[p,v]/\((v=0/\b=false)\/(v≠0/\∃ i y,x.who=((i:Nat):Int)/\i<16/\A i=some y/\b=decide ((S i).store p=0))))
noncomputable def Zf1 (K:PySem.W.Frag) (cF:Addr):Sp:=fun vs H Q _=>∃ (f:FrI) (x:FrS) (ws:List V) (p:Addr) (w:Str) (n:Option Int) (b:Bool),vs=[.ref f.a,.ref p]/\FrAt cF H f x ws/\ZbP K H p w n/\Zb2 x w b/\Q (.bl b) H
noncomputable def ZkT (K:PySem.W.Frag) (C cF:Addr):Sp:=fun vs H Q _=>∃ (R:Addr) (A:Nat->Option AcI) (S:Nat->AcS) (m:Nat) (f:FrI) (x:FrS) (ws:List V) (p:Addr) (w:Str) (n:Option Int) (b:Bool),vs=[.ref R,.ref f.a,.ref p]/\Rooms K C H R A S m/\FrAt cF H f x ws/\ZbP K H p w n/\fillsR A S x w b/\Q (.bl b) H
noncomputable def ZcO (K:PySem.W.Frag) (C cF:Addr):Sp:=fun vs H Q _=>∃ (R:Addr) (A:Nat->Option AcI) (S:Nat->AcS) (m:Nat) (f:FrI) (x:FrS) (ws:List V) (p:Addr) (w:Str) (n:Option Int) (b1 b2:Bool) (t l pr d:Int),vs=[.ref R,.ref f.a,.ref p]/\Rooms K C H R A S m/\FrAt cF H f x ws/\ZbP K H p w n/\Zb2 x w b1/\fillsR A S x w b2/\RT.lookup w=some (t,l,pr,d)/\Q (.int (if (b1||b2)=true then d else pr)) H
noncomputable def barB (x:FrS) (w:Str) (b1:Bool):Bool:=x.looking&&(inS w ["save", "note"]||b1)
noncomputable def ZiR (K:PySem.W.Frag) (cF:Addr):Sp:=fun vs H Q _=>∃ (f:FrI) (x:FrS) (ws:List V) (p:Addr) (w:Str) (n:Option Int) (b1:Bool),vs=[.ref f.a,.ref p]/\FrAt cF H f x ws/\ZbP K H p w n/\Zb2 x w b1/\∀ H',Same H H'->Q (.bl (barB x w b1)) H'
noncomputable def aheadR (A:Nat->Option AcI) (S:Nat->AcS) (x:FrS) (w:Str) (n:Option Int) (e:Option Str):Prop:=∃ r t l pr d,ZbJ w n=some r/\RT.lookup w=some (t,l,pr,d) /\
 (((x.stack.length:Int)<t+r/\e=some ("short" : Str))\/(¬ (x.stack.length:Int)<t+r/\24<(x.stack.length:Int)-(t+r)+(l+r)/\e=some ("full" : Str))\/(¬ (x.stack.length:Int)<t+r/\¬ 24<(x.stack.length:Int)-(t+r)+(l+r) /\
  ∃ b1 b2,Zb2 x w b1/\fillsR A S x w b2/\((barB x w b1=true/\e=some ("barred" : Str))\/(barB x w b1=false/\x.given-x.used<(if (b1||b2)=true then d else pr)/\e=some ("dry" : Str))\/(barB x w b1=false/\¬ x.given-x.used<(if (b1||b2)=true then d else pr)/\e=none))))
noncomputable def Zig (K:PySem.W.Frag) (C cF:Addr):Sp:=fun vs H Q _=>∃ (R:Addr) (A:Nat->Option AcI) (S:Nat->AcS) (m:Nat) (f:FrI) (x:FrS) (ws:List V) (p:Addr) (w:Str) (n:Option Int) (e:Option Str),vs=[.ref R,.ref f.a,.ref p]/\Rooms K C H R A S m/\FrAt cF H f x ws/\ZbP K H p w n/\aheadR A S x w n e/\∀ H',Same H H'->Q (endV e) H'
theorem at_m3 {xs s:List Int} {c u v:Int} (e:xs=s++[c,u,v]):atI (xs.map V.int) (-3)=some (.int c):=by
 have h:atI (xs.map V.int) (-1-((2:Nat):Int))=some (.int c):=ZfY (by rw [e];simp) (by rw [e];simp)
 exact h
theorem at_m2 {xs s:List Int} {u v:Int} (e:xs=s++[u,v]):atI (xs.map V.int) (-2)=some (.int u):=by
 have h:atI (xs.map V.int) (-1-((1:Nat):Int))=some (.int u):=ZfY (by rw [e];simp) (by rw [e];simp)
 exact h
theorem at_m1 {xs s:List Int} {v:Int} (e:xs=s++[v]):atI (xs.map V.int) (-1)=some (.int v):=by
 have h:atI (xs.map V.int) (-1-((0:Nat):Int))=some (.int v):=ZfY (by rw [e];simp) (by rw [e];simp)
 exact h
section
variable {P:Program} {w:World} {K:PySem.W.Frag} {mg:Str->Option Value} {base:Heap}
theorem Ze7:FnScope ["frame", "row"] ["frame", "row"] (Zab Zcg):=⟨rfl,rfl,rfl,by decide +kernel,rfl,by decide +kernel,by decide +kernel⟩
theorem Ze8   {cFrame:Addr} (D:Zao K mg "brings_coin" Zcg) (tFrame:T_Frame K mg cFrame):Cal P w K mg base 1 "brings_coin" (Zf1 K cFrame):=by
 refine Zaz D Ze7 (fun vs H Q E h=>?_) (fun _ _ _ _ _ _ us hl=>bd2 (R:=fun us=>bindArgs _ ⟨us,[]⟩=pure (List.zip _ us)) (fun _ _=>rfl) us hl) (fun f cdv A outer s H vs Q E hr h=>?_)
 .obtain ⟨f,x,ws,p,w,n,b,rfl,_⟩:=h;rfl
 .obtain ⟨fr,x,ws,p,wd,n,b,rfl,F,hp,hb,k⟩:=h
  refine ⟨_,(Zaf (Zap (ZjJ (ZcV Zco (Zav Za0 (pv 1) Zae (fun _ _=>rfl)) Zar (nomark _)) (Zgf (ZcV Zhx (Zav Zaq (Zak (pv 0) rfl) (Zgi ZdU Zae) (fun _ _=>rfl)) Zae (nomark _)))))),?_⟩
  walk_at "nx"
  rcases hb with ⟨hw,rfl⟩|⟨rfl,s0,c,u,v,e0,rfl⟩
  .repeat' walk_at "rw"
   .exact absurd (by assumption) hw
   .exact k
  .repeat' walk_at "rw"
   .refine Zah F.ob tFrame.k.cl tFrame.n_stack rfl ?_
    repeat walk_at "rw"
    refine ZaH (Zas F.st) (at_m3 e0) ?_
    repeat walk_at "rw"
    exact k
   .rename_i z;exact absurd rfl z
theorem Ze9:FnScope ["rooms", "frame", "row"] ["rooms", "frame", "row"] (Zab Zch):=⟨rfl,rfl,rfl,by decide +kernel,rfl,by decide +kernel,by decide +kernel⟩
theorem Zfa   {cFrame:Addr} {cAccount:Addr} (D:Zao K mg "fills_place" Zch) (tFrame:T_Frame K mg cFrame) (tAccount:T_Account K mg cAccount) (m_Account_loaded:MCal P w K mg base 1 cAccount "loaded" (Zea K cAccount)):Cal P w K mg base 2 "fills_place" (ZkT K cAccount cFrame):=by
 refine Zaz D Ze9 (fun vs H Q E h=>?_) (fun _ _ _ _ _ _ us hl=>bd3 (R:=fun us=>bindArgs _ ⟨us,[]⟩=pure (List.zip _ us)) (fun _ _ _=>rfl) us hl) (fun f cdv A outer s H vs Q E hr h=>?_)
 .obtain ⟨R,A,S,m,f,x,ws,p,w,n,b,rfl,_⟩:=h;rfl
 .obtain ⟨R,Ar,S,m,fr,x,ws,p,wd,n,b,rfl,r,F,hp,hb,k⟩:=h
  refine ⟨_,(Zad (Zbd (PW.pt (Ze3 (Zau Zhw (Zav Za0 (pv 2) Zae (fun _ _=>rfl)) Zar (nomark _)) (Zfe (Zau Zco (Zav Zaq (Zak (pv 1) rfl) (Zgi ZdU Zae) (fun _ _=>rfl)) Zae (nomark _))))) (Zaf (Zap Zfs)) ZaJ)
   (Zaf (Zap (ZcV Zco (ZaN m_Account_loaded (hr.mono (by decide)) (Zav Zaq (pv 0) (Zak (pv 1) rfl) (fun _ _=>rfl)) (Zaa (Zav Zaq (Zak (pv 1) rfl) (Zgi ZdU Zae) (fun _ _=>rfl)) Zac)) Zae (nomark _))))),?_⟩
  walk_at "nx"
  rcases hb with ⟨hw,rfl⟩|⟨rfl,s0,pl,v,e0,hb⟩
  .repeat' walk_at "rw"
   .exact k
   .exact absurd (by assumption) hw
  .have e1:x.stack=(s0++[pl])++[v]:=by rw [e0];simp
   repeat' walk_at "rw"
   .rename_i z;exact absurd rfl z
   .refine Zah F.ob tFrame.k.cl tFrame.n_stack rfl ?_
    repeat walk_at "rw"
    refine ZaH (Zas F.st) (at_m1 e1) ?_
    repeat' walk_at "rw"
    .rename_i z
     rcases hb with ⟨_,rfl⟩|⟨hv,_⟩
     .exact k
     .exact absurd z hv
    .rename_i z
     rcases hb with ⟨hv,_⟩|⟨_,i,y,ew,hi,hy,rfl⟩
     .exact absurd hv z
     .refine Zah F.ob tFrame.k.cl tFrame.n_who rfl ?_
      rw [ew]
      refine ZaH (Zas r.ob) (r.at hi hy) ?_
      have ay:=r.ac i y hi hy
      refine Zam ay.ob rfl ?_
      repeat walk_at "rw"
      refine Zah F.ob tFrame.k.cl tFrame.n_stack rfl ?_
      repeat walk_at "rw"
      refine ZaH (Zas F.st) (at_m2 e0) ?_
      repeat walk_at "rw"
      refine ⟨y.a,y.dx,y.pr,y.st,_,_,_,_,_,m,pl,rfl,ay,?_⟩
      repeat walk_at "rw"
      exact k
theorem Zg9:FnScope ["rooms", "frame", "row"] ["rooms", "frame", "row"] (Zab Zc2):=⟨rfl,rfl,rfl,by decide +kernel,rfl,by decide +kernel,by decide +kernel⟩
theorem Zha    (D:Zao K mg "row_price" Zc2) (cd2_price:CalD P w K mg base 1 "price" (ZkI K) []) (c_brings_coin:Cal P w K mg base 1 "brings_coin" (Zf1 K cFrame)) (c_fills_place:Cal P w K mg base 2 "fills_place" (ZkT K cAccount cFrame)):Cal P w K mg base 3 "row_price" (ZcO K cAccount cFrame):=by
 refine Zaz D Zg9 (fun vs H Q E h=>?_) (fun _ _ _ _ _ _ us hl=>bd3 (R:=fun us=>bindArgs _ ⟨us,[]⟩=pure (List.zip _ us)) (fun _ _ _=>rfl) us hl) (fun f cdv A outer s H vs Q E hr h=>?_)
 .obtain ⟨R,A,S,m,f,x,ws,p,w,n,b1,b2,t,l,pr,d,rfl,_⟩:=h;rfl
 .obtain ⟨R,Ar,S,m,fr,x,ws,p,wd,n,b1,b2,t,l,pr,d,rfl,r,F,hp,hb1,hb2,ht,k⟩:=h
  refine ⟨_,(Zaf (Zap (ZnO cd2_price (hr.mono (by decide)) rfl (Zaa (pv 2) (Zaa (pe_or (ZaL c_brings_coin (hr.mono (by decide)) rfl (Zaa (pv 1) (Zaa (pv 2) Zac))) (Zgf (ZaL c_fills_place (hr.mono (by decide)) rfl (Zaa (pv 0) (Zaa (pv 1) (Zaa (pv 2) Zac)))))) Zac))))),?_⟩
  walk_at "nx"
  repeat walk_at "rw"
  refine ⟨fr,x,ws,p,wd,n,b1,rfl,F,hp,hb1,?_⟩
  cases b1 with
  | true =>
   repeat walk_at "rw"
   exact ⟨p,wd,n,t,l,pr,d,true,rfl,hp,ht,k⟩
  | false =>
   repeat walk_at "rw"
   refine ⟨R,Ar,S,m,fr,x,ws,p,wd,n,b2,rfl,r,F,hp,hb2,?_⟩
   repeat walk_at "rw"
   exact ⟨p,wd,n,t,l,pr,d,b2,rfl,hp,ht,k⟩
theorem Zhb:FnScope ["frame", "row"] ["frame", "row"] (Zab Zc3):=⟨rfl,rfl,rfl,by decide +kernel,rfl,by decide +kernel,by decide +kernel⟩
theorem Zhc   {cFrame:Addr} (D:Zao K mg "is_barred" Zc3) (tFrame:T_Frame K mg cFrame) (c_brings_coin:Cal P w K mg base 1 "brings_coin" (Zf1 K cFrame)):Cal P w K mg base 2 "is_barred" (ZiR K cFrame):=by
 refine Zaz D Zhb (fun vs H Q E h=>?_) (fun _ _ _ _ _ _ us hl=>bd2 (R:=fun us=>bindArgs _ ⟨us,[]⟩=pure (List.zip _ us)) (fun _ _=>rfl) us hl) (fun f cdv A outer s H vs Q E hr h=>?_)
 .obtain ⟨f,x,ws,p,w,n,b,rfl,_⟩:=h;rfl
 .obtain ⟨fr,x,ws,p,wd,n,b,rfl,F,hp,hb,k⟩:=h
  refine ⟨_,(Zaf (Zap (ZjJ (Zak (pv 0) rfl) (Zgf (pe_or (ZcV Zek (Zav Za0 (pv 1) Zae (fun _ _=>rfl)) (ZaG (Zaa Zar (Zaa Zar Zac))) rfl) (Zgf (ZaL c_brings_coin (hr.mono (by decide)) rfl (Zaa (pv 0) (Zaa (pv 1) Zac))))))))),?_⟩
  walk_at "nx"
  repeat walk_at "rw"
  refine Zah F.ob tFrame.k.cl tFrame.n_looking rfl ?_
  unfold barB at k
  cases e:x.looking with
  | false =>
   rw [e] at k
   repeat walk_at "rw"
   exact k H (Same.refl H)
  | true =>
   rw [e] at k
   repeat walk_at "rw"
   refine ⟨by decide,fun q hq=>?_⟩
   have s1:Same H (upd H q (.tup [.str "save", .str "note"])):=Same.new hq
   refine Zkl (xs:=["save", "note"]) Zkf ?_
   have F1:=F.same s1
   have hp1:ZbP K _ p wd n:=s1.tup hp
   generalize upd H q _=H1 at s1 F1 hp1
   cases e2:inS wd ["save", "note"] with
   | true =>
    rw [e2] at k
    repeat walk_at "rw"
    exact k H1 s1
   | false =>
    rw [e2] at k
    repeat walk_at "rw"
    exact ⟨fr,x,ws,p,wd,n,b,rfl,F1,hp1,hb,k H1 s1⟩
theorem ZeP:FnScope ["rooms", "frame", "row"] ["rooms", "frame", "row"] (Zab Zb6):=⟨rfl,rfl,rfl,by decide +kernel,rfl,by decide +kernel,by decide +kernel⟩
theorem ZeQ   {cFrame:Addr} (D:Zao K mg "end_ahead_of" Zb6) (tFrame:T_Frame K mg cFrame) (m_Frame_short_for:MCal P w K mg base 3 cFrame "short_for" (ZkQ K cFrame)) (m_Frame_full_behind:MCal P w K mg base 3 cFrame "full_behind" (spFull K cFrame)) (m_Frame_left:MCal P w K mg base 1 cFrame "left" (spLeft cFrame)) (c_is_barred:Cal P w K mg base 2 "is_barred" (ZiR K cFrame)) (c_row_price:Cal P w K mg base 3 "row_price" (ZcO K cAccount cFrame)):Cal P w K mg base 4 "end_ahead_of" (Zig K cAccount cFrame):=by
 refine Zaz D ZeP (fun vs H Q E h=>?_) (fun _ _ _ _ _ _ us hl=>bd3 (R:=fun us=>bindArgs _ ⟨us,[]⟩=pure (List.zip _ us)) (fun _ _ _=>rfl) us hl) (fun f cdv A outer s H vs Q E hr h=>?_)
 .obtain ⟨R,A,S,m,f,x,ws,p,w,n,e,rfl,_⟩:=h;rfl
 .obtain ⟨R,Ar,S,m,fr,x,ws,p,wd,n,e,rfl,r,F,hp,⟨rr,t,l,pr,d,hr1,hr2,ha⟩,k⟩:=h
  refine ⟨_,(Zad (Zbd (Zcm (ZaN m_Frame_short_for (hr.mono (by decide)) (pv 1) (Zaa (pv 2) Zac))) (Zaf (Zap Zar)) ZaJ)
   (Zad (Zbd (Zcm (ZaN m_Frame_full_behind (hr.mono (by decide)) (pv 1) (Zaa (pv 2) Zac))) (Zaf (Zap Zar)) ZaJ)
   (Zad (Zbd (Zcm (ZaL c_is_barred (hr.mono (by decide)) rfl (Zaa (pv 1) (Zaa (pv 2) Zac)))) (Zaf (Zap Zar)) ZaJ)
   (Zad (Zbd (Zau Zhx (ZaL c_row_price (hr.mono (by decide)) rfl (Zaa (pv 0) (Zaa (pv 1) (Zaa (pv 2) Zac)))) (ZbT m_Frame_left (hr.mono (by decide)) (pv 1)) (nomark _)) (Zaf (Zap Zar)) ZaJ)
   (Zaf (Zap Zcp)))))),?_⟩
  walk_at "nx"
  rcases ha with ⟨h1,rfl⟩|⟨h1,h2,rfl⟩|⟨h1,h2,b1,b2,hb1,hb2,ha⟩
  .skip
   repeat walk_at "rz"
   refine Zam F.ob rfl ?_
   repeat walk_at "rz"
   refine ⟨fr,x,ws,p,wd,n,rr,t,l,pr,d,rfl,F,hp,hr1,hr2,?_⟩
   repeat walk_at "rz"
   exact k H (Same.refl H)
  .skip
   repeat walk_at "rz"
   refine Zam F.ob rfl ?_
   repeat walk_at "rz"
   refine ⟨fr,x,ws,p,wd,n,rr,t,l,pr,d,rfl,F,hp,hr1,hr2,?_⟩
   repeat walk_at "rz"
   refine Zam F.ob rfl ?_
   repeat walk_at "rz"
   refine ⟨fr,x,ws,p,wd,n,rr,t,l,pr,d,rfl,F,hp,hr1,hr2,?_⟩
   repeat walk_at "rz"
   exact k H (Same.refl H)
  .skip
   repeat walk_at "rz"
   refine Zam F.ob rfl ?_
   repeat walk_at "rz"
   refine ⟨fr,x,ws,p,wd,n,rr,t,l,pr,d,rfl,F,hp,hr1,hr2,?_⟩
   repeat walk_at "rz"
   refine Zam F.ob rfl ?_
   repeat walk_at "rz"
   refine ⟨fr,x,ws,p,wd,n,rr,t,l,pr,d,rfl,F,hp,hr1,hr2,?_⟩
   repeat walk_at "rz"
   refine ⟨fr,x,ws,p,wd,n,b1,rfl,F,hp,hb1,fun H1 s1=>?_⟩
   have F1:=F.same s1
   have r1:=r.same s1
   have hp1:ZbP K H1 p wd n:=s1.tup hp
   rcases ha with ⟨hbar,rfl⟩|⟨hbar,hdr,rfl⟩|⟨hbar,hdr,rfl⟩
   .rw [hbar]
    repeat walk_at "rz"
    exact k H1 s1
   .skip
    rw [hbar]
    repeat walk_at "rz"
    refine ⟨R,Ar,S,m,fr,x,ws,p,wd,n,b1,b2,t,l,pr,d,rfl,r1,F1,hp1,hb1,hb2,hr2,?_⟩
    generalize (if (b1||b2)=true then d else pr)=z at hdr |-
    repeat walk_at "rz"
    refine Zam F1.ob rfl ?_
    refine ⟨fr,x,ws,rfl,F1,?_⟩
    repeat walk_at "rz"
    exact k H1 s1
   .skip
    rw [hbar]
    repeat walk_at "rz"
    refine ⟨R,Ar,S,m,fr,x,ws,p,wd,n,b1,b2,t,l,pr,d,rfl,r1,F1,hp1,hb1,hb2,hr2,?_⟩
    generalize (if (b1||b2)=true then d else pr)=z at hdr |-
    repeat walk_at "rz"
    refine Zam F1.ob rfl ?_
    refine ⟨fr,x,ws,rfl,F1,?_⟩
    repeat walk_at "rz"
    exact k H1 s1
end
noncomputable def inF3 (f:FrI) (b:Addr):Prop:=b=f.a\/b=f.ST\/b=f.SS
theorem k_F3 {f:FrI} {H H':Hp} (k:KeptX (inF f) H H'):KeptX (inF3 f) H H':=k.mono fun _ h=>h.elim .inl fun z=>.inr (.inl z)
noncomputable def ZcC (x:FrS) (c:Int):FrS:={ x with used:=x.used+c,row:=x.row+1 }
structure Ap (R L:Addr) (A:Nat->Option AcI) (f:FrI):Prop where
 tR:f.ST≠R
 sR:f.SS≠R
 tL:f.ST≠L
 sL:f.SS≠L
 p:∀ i y,i<16->A i=some y->f.ST≠y.pr/\f.SS≠y.pr
noncomputable def goX (A:Nat->Option AcI) (L:Addr) (f:FrI) (b:Addr):Prop:=¬ Out A b\/b=L\/inF3 f b
section
variable {K:PySem.W.Frag} {C cJ cS cM cN cF:Addr} {H H':Hp} {j dx R L:Addr} {A:Nat->Option AcI} {S:Nat->AcS} {m:Nat} {es:List DI} {f:FrI} {x:FrS} {ws:List V}
theorem Zdq (k:KeptX (inF3 f) H H'):KeptX (goX A L f) H H':=k.mono fun _ h=>.inr (.inr h)
theorem ZkU (k:∀ b,Out A b->b≠L->H' b=H b):KeptX (goX A L f) H H':=fun b o e n=>by
 have h1:Out A b:=Classical.byContradiction fun z=>n (.inl z)
 have h2:b≠L:=fun z=>n (.inr (.inl z))
 rw [k b h1 h2];exact e
theorem imm_F3 (F:FrAt cF H f x ws) (k:KeptX (inF3 f) H H'):SameI H H':=k.imm fun b o z e i=>by
 rcases z with rfl|rfl|rfl
 .rw [F.ob] at e;cases e;exact ZcL i
 .rw [F.st] at e;cases e;exact Zbt i
 .rw [F.ss] at e;cases e;exact Zbt i
theorem ZdO (F:FrAt cF H f x ws) {b C' dx':Addr} {fs:List (Str×V)} (h:H b=some (.ins C' dx' fs)) (n:fs.length≠15):¬ inF3 f b:=by
 rintro (z|z|z)
 .exact ZiO h F.ob n z
 .exact Zbl h F.st (by intro z;cases z) z
 .exact Zbl h F.ss (by intro z;cases z) z
theorem ZkV (F:FrAt cF H f x ws) {b:Addr} {kvs:List (Key×V)} (h:H b=some (.dK kvs)):¬ inF3 f b:=by
 rintro (z|z|z)
 .exact Zbl h F.ob (by intro z;cases z) z
 .exact Zbl h F.st (by intro z;cases z) z
 .exact Zbl h F.ss (by intro z;cases z) z
theorem ZdP (F:FrAt cF H f x ws) {b:Addr} {xs:List V} (h:H b=some (.lst xs)) (n1:f.ST≠b) (n2:f.SS≠b):¬ inF3 f b:=by
 rintro (z|z|z)
 .exact Zbl h F.ob (by intro z;cases z) z
 .exact n1 z.symm
 .exact n2 z.symm
theorem Rooms.frame (r:Rooms K C H R A S m) (F:FrAt cF H f x ws) (a:Ap R L A f) (k:KeptX (inF3 f) H H'):Rooms K C H' R A S m:=by
 have im:=imm_F3 F k
 refine ⟨k _ _ r.ob (ZdP F r.ob a.tR a.sR),fun i y hi hy=>?_,r.da,r.ds⟩
 have h:=r.ac i y hi hy
 obtain ⟨zs,e1,e2⟩:=h.pg
 obtain ⟨kvs,e3,e4⟩:=h.sto
 exact ⟨k _ _ h.ob (ZdO F h.ob (by show 5≠15;decide)),⟨zs,k _ _ e1 (ZdP F e1 (a.p i y hi hy).1 (a.p i y hi hy).2),e2.keep im⟩,kvs,k _ _ e3 (ZkV F e3),e4⟩
theorem Jr.frame (J:Jr cJ cS cM cN H j dx R L A es) (F:FrAt cF H f x ws) (a:Ap R L A f) (k:KeptX (inF3 f) H H'):Jr cJ cS cM cN H' j dx R L A es :=
 ⟨k _ _ J.ob (ZdO F J.ob (by show 2≠15;decide)),k _ _ J.li (ZdP F J.li a.tL a.sL),fun e he=>⟨k _ _ (J.de e he).1 (ZdO F (J.de e he).1 (by have:=ZfS e.d;omega)),(J.de e he).2⟩,J.nR,J.np⟩
theorem FrAt.out (F:FrAt cF H f x ws) (r:Rooms K C H R A S m) (a:Ap R L A f) (lL:H L=some (.lst (es.map fun e=>V.ref e.o))) (k:∀ b,Out A b->b≠L->H' b=H b):FrAt cF H' f x ws:=by
 have oa:Out A f.a:=fun i y hi hy=>⟨ZiO F.ob (r.ac i y hi hy).ob (by show 15≠5;decide),let ⟨_,g,_⟩:=(r.ac i y hi hy).sto;Zbl F.ob g (by intro z;cases z)⟩
 exact ⟨by rw [k _ oa (Zbl F.ob lL (by intro z;cases z))];exact F.ob,by rw [k _ (r.outL F.st) a.tL];exact F.st,by rw [k _ (r.outL F.ss) a.sL];exact F.ss,F.ne⟩
end
noncomputable def Zb3 (K:PySem.W.Frag) (C cJ cS cM cN cF:Addr):Sp:=fun vs H Q _=>∃ (j dx R L:Addr) (A:Nat->Option AcI) (S:Nat->AcS) (m:Nat) (es:List DI) (e:DI) (f:FrI) (x:FrS) (ws:List V),vs=[.ref j,.ref f.a,.ref e.o]/\Jr cJ cS cM cN H j dx R L A es/\Rooms K C H R A S m/\H e.o=some (.ins (clsD cS cM cN e.d) e.dx (fldD e.d))/\fitsD A e.d/\m<=1000000/\es.length<1000000/\FrAt cF H f x ws/\Ap R L A f/\ws.length<=100000 /\
 ∀ t H',H t=none->KeptX (goX A L f) H H'->Rooms K C H' R A (doneS S e.d) (m+1)->Jr cJ cS cM cN H' j dx R L A (es++[e])->FrAt cF H' f x (ws++[.ref t])->H' t=some (.tup (tellV e.d))->Q .non H'
section
variable {P:Program} {w:World} {K:PySem.W.Frag} {mg:Str->Option Value} {base:Heap}
theorem Zf2:FnScope ["journal", "frame", "deed"] ["journal", "frame", "deed"] (Zab Zcx):=⟨rfl,rfl,rfl,by decide +kernel,rfl,by decide +kernel,by decide +kernel⟩
theorem Zf3   {cJournal:Addr} {cFrame:Addr} {cSave:Addr} {cMove:Addr} {cNote:Addr} (D:Zao K mg "write_step" Zcx) (tJournal:T_Journal K mg cJournal) (tFrame:T_Frame K mg cFrame) (tSave:T_Save K mg cSave) (tMove:T_Move K mg cMove) (tNote:T_Note K mg cNote) (m_Journal_write:MCal P w K mg base 3 cJournal "write" (ZkN K cAccount cJournal cSave cMove cNote)) (m_Save_told:MCal P w K mg base 1 cSave "told" (spTold cSave isSave)) (m_Move_told:MCal P w K mg base 1 cMove "told" (spTold cMove isMove)) (m_Note_told:MCal P w K mg base 1 cNote "told" (spTold cNote isNote)):Cal P w K mg base 4 "write_step" (Zb3 K cAccount cJournal cSave cMove cNote cFrame):=by
 refine Zaz D Zf2 (fun vs H Q E h=>?_) (fun _ _ _ _ _ _ us hl=>bd3 (R:=fun us=>bindArgs _ ⟨us,[]⟩=pure (List.zip _ us)) (fun _ _ _=>rfl) us hl) (fun f cdv A outer s H vs Q E hr h=>?_)
 .obtain ⟨j,dx,R,L,A,S,m,es,e,f,x,ws,rfl,_⟩:=h;rfl
 .obtain ⟨j,dx,R,L,Ar,S,m,es,e,fr,x,ws,rfl,J,r,he,fit,hm,hel,F,ap,hw,k⟩:=h
  refine ⟨_,(Zad (Zax (ZaN m_Journal_write (hr.mono (by decide)) (pv 0) (Zaa (pv 2) Zac)))
   (Zaf (Zax (Zel PySem.F.plainAttrs_list PySem.F.slot_list_append PySem.F.type_list_append ZbN (Zak (pv 1) rfl) (Zaa (ZgD (T:=TTo cSave cMove cNote) (Zmo m_Save_told m_Move_told m_Note_told) (hr.mono (by decide)) (pv 2)) Zac))))),?_⟩
  walk_at "nx"
  repeat walk_at "rdk"
  refine Zam J.ob rfl ?_
  repeat walk_at "rdk"
  refine ⟨j,dx,R,L,Ar,S,m,es,e,rfl,J,r,he,fit,hm,hel,fun H1 k1 r1 J1=>?_⟩
  have F1:=F.out r ap J.li k1
  have he1:=(J1.de e (List.mem_append.mpr (.inr (List.mem_singleton.mpr rfl)))).1
  repeat walk_at "rdk"
  refine Zah F1.ob tFrame.k.cl tFrame.n_steps rfl ?_
  refine ⟨ZbW (Zas F1.ss),?_⟩
  repeat walk_at "rdk"
  refine Zeb ?_
  repeat walk_at "rdk"
  refine ⟨e.o,clsD cSave cMove cNote e.d,e.dx,fldD e.d,_,rfl,he1,ZiQ e.d,Znf cSave cMove cNote e.d,?_⟩
  repeat walk_at "rdk"
  refine ⟨e.o,e.dx,e.d,rfl,Zdk e.d,he1,fun t ht=>?_⟩
  have s1:Same H1 (upd H1 t (.tup (tellV e.d))):=Same.new ht
  have r2:=r1.same s1
  have J2:=J1.same s1
  have F2:=F1.same s1
  have k2:KeptX (goX Ar L fr) H (upd H1 t (.tup (tellV e.d))):=(ZkU k1).trans s1.keptX
  have et:(upd H1 t (.tup (tellV e.d))) t=some (.tup (tellV e.d)):=Zag
  have htH:H t=none:=by
   cases z:H t with
   | none=>rfl
   | some o =>
    exfalso
    by_cases q:Out Ar t/\t≠L
    .rw [k1 t q.1 q.2,z] at ht;cases ht
    .by_cases q2:t=L
     .rw [q2,J1.li] at ht;cases ht
     .refine q ⟨fun i y hi hy=>⟨?_,?_⟩,q2⟩
      .intro z2;rw [z2,(r1.ac i y hi hy).ob] at ht;cases ht
      .intro z2;obtain ⟨kv,g1,_⟩:=(r1.ac i y hi hy).sto;rw [z2,g1] at ht;cases ht
  generalize upd H1 t _=H2 at s1 r2 J2 F2 k2 et
  repeat walk_at "rdk"
  refine ZbX F2.ss (Nat.lt_of_le_of_lt hw (by decide)) ?_
  repeat walk_at "rdk"
  have k3:KeptX (inF3 fr) H2 (upd H2 fr.SS (.lst (ws++[.ref t]))):=KeptX.upd (.inr (.inr rfl))
  exact k t _ htH (k2.trans (Zdq k3)) (r2.frame F2 ap k3) (J2.frame F2 ap k3) (F2.setSS _) (by rw [Zai (Zbl et F2.ss (by intro z;cases z))];exact et)
end
noncomputable def spAt (K:PySem.W.Frag) (C:Addr):Sp:=fun vs H Q _=>∃ (R:Addr) (A:Nat->Option AcI) (S:Nat->AcS) (m:Nat) (s:Int),vs=[.ref R,.int s]/\Rooms K C H R A S m/\Q (if 0<=s/\s<16 then roomV (A s.toNat) else .non) H
noncomputable def ZeR (K:PySem.W.Frag) (C cF:Addr):Sp:=fun vs H Q _=>∃ (R L:Addr) (vJ:V) (A:Nat->Option AcI) (S:Nat->AcS) (m:Nat) (f:FrI) (x:FrS) (ws:List V) (vp:V) (i:Nat) (y:AcI) (s:List Int) (pl:Int),vs=[.ref R,vJ,.ref f.a,vp]/\Rooms K C H R A S m/\FrAt cF H f x ws/\Ap R L A f/\x.who=(i:Int)/\i<16/\A i=some y/\x.stack=s++[pl]/\x.stack.length<=900 /\
 ∀ H',KeptX (inF3 f) H H'->FrAt cF H' f { x with stack:=s++[(S i).store pl] } ws->Q .non H'
noncomputable def ZeS (A:Nat->Option AcI) (S:Nat->AcS) (s:Int):Int:=if 0<=s/\s<16 then (match A s.toNat with|some _=>(S s.toNat).coin|none=>0) else 0
noncomputable def ZeT (K:PySem.W.Frag) (C cF:Addr):Sp:=fun vs H Q _=>∃ (R L:Addr) (vJ:V) (A:Nat->Option AcI) (S:Nat->AcS) (m:Nat) (f:FrI) (x:FrS) (ws:List V) (vp:V) (s:List Int) (sl:Int),vs=[.ref R,vJ,.ref f.a,vp]/\Rooms K C H R A S m/\FrAt cF H f x ws/\Ap R L A f/\x.stack=s++[sl]/\x.stack.length<=900 /\
 ∀ H',KeptX (inF3 f) H H'->FrAt cF H' f { x with stack:=s++[ZeS A S sl] } ws->Q .non H'
noncomputable def Zng (K:PySem.W.Frag) (C cJ cS cM cN cF:Addr) (H:Hp) (j dx R L:Addr) (A:Nat->Option AcI) (S:Nat->AcS) (m:Nat) (es:List DI) (f:FrI) (x:FrS) (ws:List V) (d:Dd) (Q:VK):Prop :=
 ∀ t e H',e.d=d->H t=none->KeptX (goX A L f) H H'->Rooms K C H' R A (doneS S d) (m+1)->Jr cJ cS cM cN H' j dx R L A (es++[e])->FrAt cF H' f x (ws++[.ref t])->H' t=some (.tup (tellV d))->Q .non H'
noncomputable def ZeU (K:PySem.W.Frag) (C cJ cS cM cN cF:Addr):Sp:=fun vs H Q _=>∃ (j dx R L:Addr) (A:Nat->Option AcI) (S:Nat->AcS) (m:Nat) (es:List DI) (f:FrI) (x:FrS) (ws:List V) (vp:V) (i:Nat) (y:AcI) (s:List Int) (pl v:Int),vs=[.ref R,.ref j,.ref f.a,vp]/\Jr cJ cS cM cN H j dx R L A es/\Rooms K C H R A S m/\m<=1000000/\es.length<1000000/\FrAt cF H f x ws/\Ap R L A f/\ws.length<=100000/\x.who=(i:Int)/\i<16/\A i=some y/\x.stack=s++[pl,v] /\
 Zng K C cJ cS cM cN cF H j dx R L A S m es f { x with stack:=s } ws (.save (i:Int) pl ((S i).store pl) v) Q
noncomputable def ZeV (K:PySem.W.Frag) (C cJ cS cM cN cF:Addr):Sp:=fun vs H Q _=>∃ (j dx R L:Addr) (A:Nat->Option AcI) (S:Nat->AcS) (m:Nat) (es:List DI) (f:FrI) (x:FrS) (ws:List V) (vp:V) (s:List Int) (v:Int),vs=[.ref R,.ref j,.ref f.a,vp]/\Jr cJ cS cM cN H j dx R L A es/\Rooms K C H R A S m/\m<=1000000/\es.length<1000000/\FrAt cF H f x ws/\Ap R L A f/\ws.length<=100000/\x.stack=s++[v] /\
 Zng K C cJ cS cM cN cF H j dx R L A S m es f { x with stack:=s } ws (.note x.who v) Q
section
variable {P:Program} {w:World} {K:PySem.W.Frag} {mg:Str->Option Value} {base:Heap}
theorem Zf4:FnScope ["rooms", "slot"] ["rooms", "slot"] (Zab Zcu):=⟨rfl,rfl,rfl,by decide +kernel,rfl,by decide +kernel,by decide +kernel⟩
theorem Zf5    (D:Zao K mg "account_at" Zcu) (n_len:mg "len" = none):Cal P w K mg base 1 "account_at" (spAt K cAccount):=by
 refine Zaz D Zf4 (fun vs H Q E h=>?_) (fun _ _ _ _ _ _ us hl=>bd2 (R:=fun us=>bindArgs _ ⟨us,[]⟩=pure (List.zip _ us)) (fun _ _=>rfl) us hl) (fun f cdv A outer s H vs Q E hr h=>?_)
 .obtain ⟨R,A,S,m,s,rfl,_⟩:=h;rfl
 .obtain ⟨R,Ar,S,m,s0,rfl,r,k⟩:=h
  refine ⟨_,(Zad (Zbd (ZlE op_le Zfu Zae (pv 1) (ZaM ZbO rfl n_len PySem.boot_len (Zaa (pv 0) Zac))) (Zaf (Zap (Zav Zaq (pv 0) (pv 1) (fun _ _=>rfl)))) ZaJ)
   (Zaf (Zap Zcp))),?_⟩
  walk_at "nx"
  have hRs:=Zas (K:=K) r.ob
  have hl16:(((List.range 16).map fun i=>roomV (Ar i)).length:Int)=16:=by rw [List.length_map,List.length_range];rfl
  repeat' walk_at "rdk"
  .rename_i h1 h2
   rw [hl16] at h2
   rw [if_pos ⟨h1,h2⟩] at k
   refine ZaH hRs (ZcI (i:=s0.toNat) (by rw [List.getElem?_map,List.getElem?_range (by omega)];rfl) (by omega)) ?_
   exact k
  .rename_i h1 h2
   rw [hl16] at h2
   rw [if_neg (fun z=>h2 z.2)] at k
   exact k
  .rename_i h1
   rw [if_neg (fun z=>h1 z.1)] at k
   exact k
theorem ZeW:FnScope ["rooms", "journal", "frame", "row", "taken"] ["rooms", "journal", "frame", "row"] (Zab ZdB):=⟨rfl,rfl,rfl,by decide +kernel,rfl,by decide +kernel,by decide +kernel⟩
theorem Zih   {cFrame:Addr} {cAccount:Addr} (D:Zao K mg "load_row" ZdB) (tFrame:T_Frame K mg cFrame) (tAccount:T_Account K mg cAccount) (m_Frame_taken:MCal P w K mg base 1 cFrame "taken" (Zb1 cFrame)) (m_Frame_lay:MCal P w K mg base 1 cFrame "lay" (spLay cFrame)) (m_Account_loaded:MCal P w K mg base 1 cAccount "loaded" (Zea K cAccount)):Cal P w K mg base 2 "load_row" (ZeR K cAccount cFrame):=by
 refine Zaz D ZeW (fun vs H Q E h=>?_) (fun _ _ _ _ _ _ us hl=>bd4 (R:=fun us=>bindArgs _ ⟨us,[]⟩=pure (List.zip _ us)) (fun _ _ _ _=>rfl) us hl) (fun f cdv A outer s H vs Q E hr h=>?_)
 .obtain ⟨R,L,vJ,A,S,m,f,x,ws,vp,i,y,s,pl,rfl,_⟩:=h;rfl
 .obtain ⟨R,L,vJ,Ar,S,m,fr,x,ws,vp,i,y,s0,pl,rfl,r,F,ap,ew,hi,hy,e0,hl,k⟩:=h
  refine ⟨_,(Zad (ZaF (i:=4) ZeW.nd rfl (by first|exact Or.inl rfl|exact Or.inr rfl) (ZaN m_Frame_taken (hr.mono (by decide)) (pv 2) (Zaa Zae Zac)))
   (Zaf (Zax (ZaN m_Frame_lay (hr.mono (by decide)) (pv 2) (Zaa (ZaN m_Account_loaded (hr.mono (by decide)) (Zav Zaq (pv 0) (Zak (pv 2) rfl) (fun _ _=>rfl)) (Zaa (Zav Zaq (pv 4) Zae (fun _ _=>rfl)) Zac)) Zac))))),?_⟩
  walk_at "nx"
  repeat walk_at "rdk"
  refine Zam F.ob rfl ?_
  repeat walk_at "rdk"
  refine ⟨fr,x,ws,s0,[pl],rfl,F,e0,by show 1<=1000;decide,fun q H1 _ k1 F1 e1=>?_⟩
  have e1':H1 q=some (.lst [.int pl]):=e1
  have k1':KeptX (inF3 fr) H H1:=k1.mono fun _ h=>.inr (.inl h)
  have r1:=r.frame F ap k1'
  have ay:=r1.ac i y hi hy
  repeat walk_at "rdk"
  refine Zam F1.ob rfl ?_
  repeat walk_at "rdk"
  refine Zah F1.ob tFrame.k.cl tFrame.n_who rfl ?_
  rw [ew]
  refine ZaH (Zas r1.ob) (r1.at hi hy) ?_
  refine Zam ay.ob rfl ?_
  repeat walk_at "rdk"
  refine ⟨y.a,y.dx,y.pr,y.st,_,_,_,_,_,m,pl,rfl,ay,?_⟩
  repeat walk_at "rdk"
  have hl1:s0.length<=1000:=by rw [e0,List.length_append] at hl;omega
  refine ⟨fr,_,ws,_,rfl,F1,hl1,fun H2 k2 F2=>?_⟩
  repeat walk_at "rdk"
  exact k H2 (k1'.trans (k2.mono fun _ h=>.inr (.inl h))) F2
theorem Zdb:FnScope ["rooms", "journal", "frame", "row", "taken", "account"] ["rooms", "journal", "frame", "row"] (Zab ZdG):=⟨rfl,rfl,rfl,by decide +kernel,rfl,by decide +kernel,by decide +kernel⟩
theorem Zii   {cFrame:Addr} {cAccount:Addr} (D:Zao K mg "coin_row" ZdG) (tFrame:T_Frame K mg cFrame) (tAccount:T_Account K mg cAccount) (m_Frame_taken:MCal P w K mg base 1 cFrame "taken" (Zb1 cFrame)) (m_Frame_lay:MCal P w K mg base 1 cFrame "lay" (spLay cFrame)) (c_account_at:Cal P w K mg base 1 "account_at" (spAt K cAccount)):Cal P w K mg base 2 "coin_row" (ZeT K cAccount cFrame):=by
 refine Zaz D Zdb (fun vs H Q E h=>?_) (fun _ _ _ _ _ _ us hl=>bd4 (R:=fun us=>bindArgs _ ⟨us,[]⟩=pure (List.zip _ us)) (fun _ _ _ _=>rfl) us hl) (fun f cdv A outer s H vs Q E hr h=>?_)
 .obtain ⟨R,L,vJ,A,S,m,f,x,ws,vp,s,sl,rfl,_⟩:=h;rfl
 .obtain ⟨R,L,vJ,Ar,S,m,fr,x,ws,vp,s0,sl,rfl,r,F,ap,e0,hl,k⟩:=h
  refine ⟨_,(Zad (ZaF (i:=4) Zdb.nd rfl (by first|exact Or.inl rfl|exact Or.inr rfl) (ZaN m_Frame_taken (hr.mono (by decide)) (pv 2) (Zaa Zae Zac)))
   (Zad (ZaF (i:=5) Zdb.nd rfl (by first|exact Or.inl rfl|exact Or.inr rfl) (ZaL c_account_at (hr.mono (by decide)) rfl (Zaa (pv 0) (Zaa (Zav Zaq (pv 4) Zae (fun _ _=>rfl)) Zac))))
   (Zaf (Zax (ZaN m_Frame_lay (hr.mono (by decide)) (pv 2) (Zaa (Zd6 (Zau Zes (pv 5) Zcp (nomark _)) Zae (Zak (pv 5) rfl)) Zac)))))),?_⟩
  walk_at "nx"
  repeat walk_at "rdk"
  refine Zam F.ob rfl ?_
  repeat walk_at "rdk"
  refine ⟨fr,x,ws,s0,[sl],rfl,F,e0,by show 1<=1000;decide,fun q H1 _ k1 F1 e1=>?_⟩
  have e1':H1 q=some (.lst [.int sl]):=e1
  have k1':KeptX (inF3 fr) H H1:=k1.mono fun _ h=>.inr (.inl h)
  have r1:=r.frame F ap k1'
  have hl1:s0.length<=1000:=by rw [e0,List.length_append] at hl;omega
  repeat walk_at "rdk"
  refine ⟨R,Ar,S,m,sl,rfl,r1,?_⟩
  unfold ZeS at k
  by_cases h0:0<=sl/\sl<16
  .rw [if_pos h0] at k |-
   cases hA:Ar sl.toNat with
   | none =>
    rw [hA] at k
    rw [show roomV none=V.non from rfl]
    repeat walk_at "rdk"
    refine Zam F1.ob rfl ?_
    repeat walk_at "rdk"
    refine ⟨fr,_,ws,_,rfl,F1,hl1,fun H2 k2 F2=>?_⟩
    repeat walk_at "rdk"
    exact k H2 (k1'.trans (k2.mono fun _ h=>.inr (.inl h))) F2
   | some y =>
    rw [hA] at k
    rw [show roomV (some y)=V.ref y.a from rfl]
    have ay:=r1.ac sl.toNat y (by omega) hA
    repeat walk_at "rdk"
    refine Zam F1.ob rfl ?_
    repeat walk_at "rdk"
    refine Zah ay.ob tAccount.k.cl tAccount.n_coin rfl ?_
    repeat walk_at "rdk"
    refine ⟨fr,_,ws,_,rfl,F1,hl1,fun H2 k2 F2=>?_⟩
    repeat walk_at "rdk"
    exact k H2 (k1'.trans (k2.mono fun _ h=>.inr (.inl h))) F2
  .rw [if_neg h0] at k |-
   repeat walk_at "rdk"
   refine Zam F1.ob rfl ?_
   repeat walk_at "rdk"
   refine ⟨fr,_,ws,_,rfl,F1,hl1,fun H2 k2 F2=>?_⟩
   repeat walk_at "rdk"
   exact k H2 (k1'.trans (k2.mono fun _ h=>.inr (.inl h))) F2
theorem Zdc:FnScope ["rooms", "journal", "frame", "row", "taken", "old"] ["rooms", "journal", "frame", "row"] (Zab ZdC):=⟨rfl,rfl,rfl,by decide +kernel,rfl,by decide +kernel,by decide +kernel⟩
theorem Zij   {cFrame:Addr} {cAccount:Addr} {cSave:Addr} (D:Zao K mg "save_row" ZdC) (tFrame:T_Frame K mg cFrame) (tAccount:T_Account K mg cAccount) (tSave:T_Save K mg cSave) (m_Frame_taken:MCal P w K mg base 1 cFrame "taken" (Zb1 cFrame)) (m_Account_loaded:MCal P w K mg base 1 cAccount "loaded" (Zea K cAccount)) (i_Save:ICal P w K mg base 1 "Save" cSave (ZiM cSave)) (c_write_step:Cal P w K mg base 4 "write_step" (Zb3 K cAccount cJournal cSave cMove cNote cFrame)):Cal P w K mg base 5 "save_row" (ZeU K cAccount cJournal cSave cMove cNote cFrame):=by
 refine Zaz D Zdc (fun vs H Q E h=>?_) (fun _ _ _ _ _ _ us hl=>bd4 (R:=fun us=>bindArgs _ ⟨us,[]⟩=pure (List.zip _ us)) (fun _ _ _ _=>rfl) us hl) (fun f cdv A outer s H vs Q E hr h=>?_)
 .obtain ⟨j,dx,R,L,A,S,m,es,f,x,ws,vp,i,y,s,pl,v,rfl,_⟩:=h;rfl
 .obtain ⟨j,dx,R,L,Ar,S,m,es,fr,x,ws,vp,i,y,s0,pl,v,rfl,J,r,hm,hel,F,ap,hw,ew,hi,hy,e0,k⟩:=h
  refine ⟨_,(Zad (ZaF (i:=4) Zdc.nd rfl (by first|exact Or.inl rfl|exact Or.inr rfl) (ZaN m_Frame_taken (hr.mono (by decide)) (pv 2) (Zaa Zae Zac)))
   (Zad (ZaF (i:=5) Zdc.nd rfl (by first|exact Or.inl rfl|exact Or.inr rfl) (ZaN m_Account_loaded (hr.mono (by decide)) (Zav Zaq (pv 0) (Zak (pv 2) rfl) (fun _ _=>rfl)) (Zaa (Zav Zaq (pv 4) Zae (fun _ _=>rfl)) Zac)))
   (Zaf (Zax (ZaL c_write_step (hr.mono (by decide)) rfl (Zaa (pv 1) (Zaa (pv 2) (Zaa (Zdt i_Save (hr.mono (by decide)) rfl (Zaa (Zak (pv 2) rfl) (Zaa (Zav Zaq (pv 4) Zae (fun _ _=>rfl)) (Zaa (pv 5) (Zaa (Zav Zaq (pv 4) Zae (fun _ _=>rfl)) Zac))))) Zac)))))))),?_⟩
  walk_at "nx"
  repeat walk_at "rdk"
  refine Zam F.ob rfl ?_
  repeat walk_at "rdk"
  refine ⟨fr,x,ws,s0,[pl,v],rfl,F,e0,by show 2<=1000;decide,fun q H1 _ k1 F1 e1=>?_⟩
  have e1':H1 q=some (.lst [.int pl,.int v]):=e1
  have k1':KeptX (inF3 fr) H H1:=k1.mono fun _ h=>.inr (.inl h)
  have r1:=r.frame F ap k1'
  have J1:=J.frame F ap k1'
  have ay:=r1.ac i y hi hy
  repeat walk_at "rdk"
  refine Zah F1.ob tFrame.k.cl tFrame.n_who rfl ?_
  rw [ew]
  refine ZaH (Zas r1.ob) (r1.at hi hy) ?_
  refine Zam ay.ob rfl ?_
  repeat walk_at "rdk"
  refine ⟨y.a,y.dx,y.pr,y.st,_,_,_,_,_,m,pl,rfl,ay,?_⟩
  repeat walk_at "rdk"
  refine Zah F1.ob tFrame.k.cl tFrame.n_who rfl ?_
  rw [ew]
  repeat walk_at "rdk"
  intro ob odx hx hdx hne
  have hx2:(upd H1 odx (.own ob)) ob=none:=by rw [Zai (Ne.symm hne)];exact hx
  refine ⟨ob,odx,(i:Int),pl,(S i).store pl,v,rfl,Zag,rfl,?_⟩
  rw [ZaV]
  have s1:Same H1 (upd (upd H1 odx (.own ob)) ob (.ins cSave odx (saveF (i:Int) pl ((S i).store pl) v))):=(Same.new hdx).newT hx2
  have eo:(upd (upd H1 odx (.own ob)) ob (.ins cSave odx (saveF (i:Int) pl ((S i).store pl) v))) ob=some (.ins cSave odx (saveF (i:Int) pl ((S i).store pl) v)):=Zag
  have J2:=J1.same s1
  have r2:=r1.same s1
  have F2:=F1.same s1
  generalize upd (upd H1 odx (.own ob)) ob (.ins cSave odx (saveF (i:Int) pl ((S i).store pl) v))=H2 at s1 eo J2 r2 F2
  repeat walk_at "rdk"
  refine ⟨j,dx,R,L,Ar,S,m,es,⟨ob,odx,.save (i:Int) pl ((S i).store pl) v⟩,fr,_,ws,rfl,J2,r2,eo,⟨i,y,rfl,hi,hy⟩,hm,hel,F2,ap,hw,fun t H3 ht k3 r3 J3 F3 et=>?_⟩
  repeat walk_at "rdk"
  have sk:KeptX (goX Ar L fr) H H2:=(Zdq k1').trans s1.keptX
  refine k t ⟨ob,odx,.save (i:Int) pl ((S i).store pl) v⟩ H3 rfl ?_ (sk.trans k3) r3 J3 F3 et
  cases z:H t with
  | none=>rfl
  | some oo =>
   exfalso
   by_cases q:t=fr.ST
   .rw [q,F2.st] at ht;cases ht
   .rw [s1 _ _ (k1 t oo z q)] at ht;cases ht
theorem ZeX:FnScope ["rooms", "journal", "frame", "row", "taken"] ["rooms", "journal", "frame", "row"] (Zab ZdH):=⟨rfl,rfl,rfl,by decide +kernel,rfl,by decide +kernel,by decide +kernel⟩
theorem Zik   {cFrame:Addr} {cNote:Addr} (D:Zao K mg "note_row" ZdH) (tFrame:T_Frame K mg cFrame) (tNote:T_Note K mg cNote) (m_Frame_taken:MCal P w K mg base 1 cFrame "taken" (Zb1 cFrame)) (i_Note:ICal P w K mg base 1 "Note" cNote (ZiN cNote)) (c_write_step:Cal P w K mg base 4 "write_step" (Zb3 K cAccount cJournal cSave cMove cNote cFrame)):Cal P w K mg base 5 "note_row" (ZeV K cAccount cJournal cSave cMove cNote cFrame):=by
 refine Zaz D ZeX (fun vs H Q E h=>?_) (fun _ _ _ _ _ _ us hl=>bd4 (R:=fun us=>bindArgs _ ⟨us,[]⟩=pure (List.zip _ us)) (fun _ _ _ _=>rfl) us hl) (fun f cdv A outer s H vs Q E hr h=>?_)
 .obtain ⟨j,dx,R,L,A,S,m,es,f,x,ws,vp,s,v,rfl,_⟩:=h;rfl
 .obtain ⟨j,dx,R,L,Ar,S,m,es,fr,x,ws,vp,s0,v,rfl,J,r,hm,hel,F,ap,hw,e0,k⟩:=h
  refine ⟨_,(Zad (ZaF (i:=4) ZeX.nd rfl (by first|exact Or.inl rfl|exact Or.inr rfl) (ZaN m_Frame_taken (hr.mono (by decide)) (pv 2) (Zaa Zae Zac)))
   (Zaf (Zax (ZaL c_write_step (hr.mono (by decide)) rfl (Zaa (pv 1) (Zaa (pv 2) (Zaa (Zdt i_Note (hr.mono (by decide)) rfl (Zaa (Zak (pv 2) rfl) (Zaa (Zav Zaq (pv 4) Zae (fun _ _=>rfl)) Zac))) Zac))))))),?_⟩
  walk_at "nx"
  repeat walk_at "rdk"
  refine Zam F.ob rfl ?_
  repeat walk_at "rdk"
  refine ⟨fr,x,ws,s0,[v],rfl,F,e0,by show 1<=1000;decide,fun q H1 _ k1 F1 e1=>?_⟩
  have e1':H1 q=some (.lst [.int v]):=e1
  have k1':KeptX (inF3 fr) H H1:=k1.mono fun _ h=>.inr (.inl h)
  have r1:=r.frame F ap k1'
  have J1:=J.frame F ap k1'
  repeat walk_at "rdk"
  refine Zah F1.ob tFrame.k.cl tFrame.n_who rfl ?_
  repeat walk_at "rdk"
  intro ob odx hx hdx hne
  have hx2:(upd H1 odx (.own ob)) ob=none:=by rw [Zai (Ne.symm hne)];exact hx
  refine ⟨ob,odx,x.who,v,rfl,Zag,rfl,?_⟩
  rw [ZaV]
  have s1:Same H1 (upd (upd H1 odx (.own ob)) ob (.ins cNote odx (noteF x.who v))):=(Same.new hdx).newT hx2
  have eo:(upd (upd H1 odx (.own ob)) ob (.ins cNote odx (noteF x.who v))) ob=some (.ins cNote odx (noteF x.who v)):=Zag
  have J2:=J1.same s1
  have r2:=r1.same s1
  have F2:=F1.same s1
  generalize upd (upd H1 odx (.own ob)) ob (.ins cNote odx (noteF x.who v))=H2 at s1 eo J2 r2 F2
  repeat walk_at "rdk"
  refine ⟨j,dx,R,L,Ar,S,m,es,⟨ob,odx,.note x.who v⟩,fr,_,ws,rfl,J2,r2,eo,trivial,hm,hel,F2,ap,hw,fun t H3 ht k3 r3 J3 F3 et=>?_⟩
  repeat walk_at "rdk"
  have sk:KeptX (goX Ar L fr) H H2:=(Zdq k1').trans s1.keptX
  refine k t ⟨ob,odx,.note x.who v⟩ H3 rfl ?_ (sk.trans k3) r3 J3 F3 et
  cases z:H t with
  | none=>rfl
  | some oo =>
   exfalso
   by_cases q:t=fr.ST
   .rw [q,F2.st] at ht;cases ht
   .rw [s1 _ _ (k1 t oo z q)] at ht;cases ht
end
noncomputable def Zhd (x:FrS) (w:Str) (s:List Int) (y:FrS):Prop :=
 (w = "call" /\ ∃ slot c asks word,x.stack=s++[slot,c,asks,word]/\y=frame0 "call" slot slot x.who c word asks (x.depth+1) x.looking) \/
 (w = "borrow" /\ ∃ slot asks word,x.stack=s++[slot,asks,word]/\y=frame0 "borrow" x.who slot x.caller x.coin word asks (x.depth+1) x.looking) \/
 (w = "look" /\ ∃ slot asks word,x.stack=s++[slot,asks,word]/\y=frame0 "look" slot slot x.who 0 word asks (x.depth+1) true)
noncomputable def Zil (K:PySem.W.Frag) (cF:Addr):Sp:=fun vs H Q _=>∃ (f:FrI) (x y:FrS) (ws:List V) (p:Addr) (w:Str) (n:Option Int) (s:List Int),vs=[.ref f.a,.ref p]/\FrAt cF H f x ws/\ZbP K H p w n/\Zhd x w s y /\
 ∀ g H',H g.a=none->H g.ST=none->H g.SS=none->KeptX (·=f.ST) H H'->FrAt cF H' f { x with stack:=s } ws->FrAt cF H' g y []->Q (.ref g.a) H'
noncomputable def ZdQ (A:Nat->Option AcI) (S:Nat->AcS) (y:FrS) (e:Option Str):Prop :=
 ((if 0<=y.whose/\y.whose<16 then roomV (A y.whose.toNat) else .non)=.non/\e=some ("nobody" : Str)) \/
 (∃ ac,0<=y.whose/\y.whose<16/\A y.whose.toNat=some ac/\((8<y.depth/\e=some ("deep" : Str))\/(¬ 8<y.depth/\y.kind ≠ "call" /\ e=none) \/
  (¬ 8<y.depth/\y.kind = "call" /\ ∃ i z,y.caller=((i:Nat):Int)/\i<16/\A i=some z/\(((S i).coin<y.coin/\e=some ("poor" : Str))\/(¬ (S i).coin<y.coin/\e=none)))))
noncomputable def Zf6 (K:PySem.W.Frag) (C cF:Addr):Sp:=fun vs H Q _=>∃ (R:Addr) (A:Nat->Option AcI) (S:Nat->AcS) (m:Nat) (f:FrI) (y:FrS) (ws:List V) (e:Option Str),vs=[.ref R,.ref f.a]/\Rooms K C H R A S m/\FrAt cF H f y ws/\ZdQ A S y e/\Q (endV e) H
section
variable {P:Program} {w:World} {K:PySem.W.Frag} {mg:Str->Option Value} {base:Heap}
local macro_rules|`(tactic| walk_at "rwx")=>`(tactic| first
 | walk_at "rdx"
 | ((with_reducible refine' L2.Zcn ?h ?e ?_);(case h=>assumption);(case e=>exact My.ZhV))
 | fail)
theorem Zbu:FnScope ["frame", "row", "taken", "slot", "asks", "word", "depth"] ["frame", "row"] (Zab ZcA):=⟨rfl,rfl,rfl,by decide +kernel,rfl,by decide +kernel,by decide +kernel⟩
theorem Zf7   {cFrame:Addr} (D:Zao K mg "other_call" ZcA) (tFrame:T_Frame K mg cFrame) (m_Frame_taken:MCal P w K mg base 1 cFrame "taken" (Zb1 cFrame)) (c_takes:Cal P w K mg base 2 "takes" (ZfN K)) (iD9_Frame:ZhL P w K mg base 1 "Frame" cFrame (ZeK cFrame) []):Cal P w K mg base 3 "other_call" (Zil K cFrame):=by
 refine Zaz D Zbu (fun vs H Q E h=>?_) (fun _ _ _ _ _ _ us hl=>bd2 (R:=fun us=>bindArgs _ ⟨us,[]⟩=pure (List.zip _ us)) (fun _ _=>rfl) us hl) (fun f cdv A outer s H vs Q E hr h=>?_)
 .obtain ⟨f,x,y,ws,p,w,n,s,rfl,_⟩:=h;rfl
 .obtain ⟨fr,x,y,ws,p,wd,n,s0,rfl,F,hp,hO,k⟩:=h
  refine ⟨_,(Zad (ZaF (i:=2) Zbu.nd rfl (by first|exact Or.inl rfl|exact Or.inr rfl) (ZaN m_Frame_taken (hr.mono (by decide)) (pv 0) (Zaa (ZaL c_takes (hr.mono (by decide)) rfl (Zaa (pv 1) Zac)) Zac)))
   (Zad (ZaF (i:=3) Zbu.nd rfl (by first|exact Or.inl rfl|exact Or.inr rfl) (Zav Zaq (pv 2) Zae (fun _ _=>rfl)))
   (Zad (ZaF (i:=4) Zbu.nd rfl (by first|exact Or.inl rfl|exact Or.inr rfl) (Zav Zaq (pv 2) (Zgi ZdU Zae) (fun _ _=>rfl)))
   (Zad (ZaF (i:=5) Zbu.nd rfl (by first|exact Or.inl rfl|exact Or.inr rfl) (Zav Zaq (pv 2) (Zgi ZdU Zae) (fun _ _=>rfl)))
   (Zad (ZaF (i:=6) Zbu.nd rfl (by first|exact Or.inl rfl|exact Or.inr rfl) (ZaB Zb8 (Zak (pv 0) rfl) Zae))
   (Zad (Zbd (Zau Zco (Zav Za0 (pv 1) Zae (fun _ _=>rfl)) Zar (nomark _)) (Zaf (Zap (Zd7 iD9_Frame (hr.mono (by decide)) rfl (Zaa Zar (Zaa (pv 3) (Zaa (pv 3) (Zaa (Zak (pv 0) rfl) (Zaa (Zav Zaq (pv 2) Zae (fun _ _=>rfl)) (Zaa (pv 5) (Zaa (pv 4) (Zaa (pv 6) (Zaa (Zak (pv 0) rfl) Zac)))))))))))) ZaJ)
   (Zad (Zbd (Zau Zco (Zav Za0 (pv 1) Zae (fun _ _=>rfl)) Zar (nomark _)) (Zaf (Zap (Zd7 iD9_Frame (hr.mono (by decide)) rfl (Zaa Zar (Zaa (Zak (pv 0) rfl) (Zaa (pv 3) (Zaa (Zak (pv 0) rfl) (Zaa (Zak (pv 0) rfl) (Zaa (pv 5) (Zaa (pv 4) (Zaa (pv 6) (Zaa (Zak (pv 0) rfl) Zac)))))))))))) ZaJ)
   (Zaf (Zap (Zd7 iD9_Frame (hr.mono (by decide)) rfl (Zaa Zar (Zaa (pv 3) (Zaa (pv 3) (Zaa (Zak (pv 0) rfl) (Zaa Zae (Zaa (pv 5) (Zaa (pv 4) (Zaa (pv 6) (Zaa Zfs Zac))))))))))))))))))),?_⟩
  walk_at "nx"
  rcases hO with ⟨rfl,slot,c,asks,word,e0,rfl⟩|⟨rfl,slot,asks,word,e0,rfl⟩|⟨rfl,slot,asks,word,e0,rfl⟩
  .skip
   have hp0:=hp
   repeat walk_at "rw"
   refine Zam F.ob rfl ?_
   repeat walk_at "rw"
   refine ⟨p,_,n,0,4,2,8,12,rfl,hp,rfl,rfl,?_⟩
   rw [show (4:Int)+0=(([slot,c,asks,word]:List Int).length:Nat) from rfl]
   repeat walk_at "rw"
   refine ⟨fr,x,ws,s0,[slot,c,asks,word],rfl,F,e0,by show 4<=1000;decide,fun q H1 _ k1 F1 e1=>?_⟩
   have e1':H1 q=some (.lst [.int slot,.int c,.int asks,.int word]):=e1
   have hp1:=Zci hp F (k_st k1)
   repeat' walk_at "rw"
   refine Zah F1.ob tFrame.k.cl tFrame.n_depth rfl ?_
   repeat walk_at "rwx"
   refine Zah F1.ob tFrame.k.cl tFrame.n_who rfl ?_
   repeat walk_at "rwx"
   refine Zah F1.ob tFrame.k.cl tFrame.n_looking rfl ?_
   repeat walk_at "rwx"
   intro ga gdx hga hgdx hgne
   have hga2:(upd H1 gdx (.own ga)) ga=none:=by rw [Zai (Ne.symm hgne)];exact hga
   have s1:Same H1 (upd (upd H1 gdx (.own ga)) ga (.ins cFrame gdx [])):=(Same.new hgdx).newT hga2
   refine ⟨ga,gdx, "call", slot,slot,x.who,c,word,asks,x.depth+1,x.looking,rfl,Zag,fun ST SS H2 hST hSS G2 kk=>⟨rfl,?_⟩⟩
   have sa:Same H1 H2:=fun b o e=>kk b o (s1 b o e) (Zaj e hga)
   have fr1:∀ b,H1 b=none->H b=none:=fun b hb=>by
    cases z:H b with
    | none=>rfl
    | some oo =>
     exfalso
     by_cases q:b=fr.ST
     .rw [q,F1.st] at hb;cases hb
     .rw [k1 b oo z q] at hb;cases hb
   exact k ⟨ga,gdx,ST,SS⟩ H2 (fr1 _ hga) (fr1 _ (s1.fresh hST)) (fr1 _ (s1.fresh hSS)) (k1.trans sa.keptX) (F1.same sa) G2
  .skip
   have hp0:=hp
   repeat walk_at "rw"
   refine Zam F.ob rfl ?_
   repeat walk_at "rw"
   refine ⟨p,_,n,0,3,2,6,6,rfl,hp,rfl,rfl,?_⟩
   rw [show (3:Int)+0=(([slot,asks,word]:List Int).length:Nat) from rfl]
   repeat walk_at "rw"
   refine ⟨fr,x,ws,s0,[slot,asks,word],rfl,F,e0,by show 3<=1000;decide,fun q H1 _ k1 F1 e1=>?_⟩
   have e1':H1 q=some (.lst [.int slot,.int asks,.int word]):=e1
   have hp1:=Zci hp F (k_st k1)
   repeat' walk_at "rw"
   refine Zah F1.ob tFrame.k.cl tFrame.n_depth rfl ?_
   repeat walk_at "rwx"
   refine Zah F1.ob tFrame.k.cl tFrame.n_who rfl ?_
   repeat walk_at "rwx"
   refine Zah F1.ob tFrame.k.cl tFrame.n_caller rfl ?_
   repeat walk_at "rwx"
   refine Zah F1.ob tFrame.k.cl tFrame.n_coin rfl ?_
   repeat walk_at "rwx"
   refine Zah F1.ob tFrame.k.cl tFrame.n_looking rfl ?_
   repeat walk_at "rwx"
   intro ga gdx hga hgdx hgne
   have hga2:(upd H1 gdx (.own ga)) ga=none:=by rw [Zai (Ne.symm hgne)];exact hga
   have s1:Same H1 (upd (upd H1 gdx (.own ga)) ga (.ins cFrame gdx [])):=(Same.new hgdx).newT hga2
   refine ⟨ga,gdx, "borrow", x.who,slot,x.caller,x.coin,word,asks,x.depth+1,x.looking,rfl,Zag,fun ST SS H2 hST hSS G2 kk=>⟨rfl,?_⟩⟩
   have sa:Same H1 H2:=fun b o e=>kk b o (s1 b o e) (Zaj e hga)
   have fr1:∀ b,H1 b=none->H b=none:=fun b hb=>by
    cases z:H b with
    | none=>rfl
    | some oo =>
     exfalso
     by_cases q:b=fr.ST
     .rw [q,F1.st] at hb;cases hb
     .rw [k1 b oo z q] at hb;cases hb
   exact k ⟨ga,gdx,ST,SS⟩ H2 (fr1 _ hga) (fr1 _ (s1.fresh hST)) (fr1 _ (s1.fresh hSS)) (k1.trans sa.keptX) (F1.same sa) G2
  .skip
   have hp0:=hp
   repeat walk_at "rw"
   refine Zam F.ob rfl ?_
   repeat walk_at "rw"
   refine ⟨p,_,n,0,3,2,6,6,rfl,hp,rfl,rfl,?_⟩
   rw [show (3:Int)+0=(([slot,asks,word]:List Int).length:Nat) from rfl]
   repeat walk_at "rw"
   refine ⟨fr,x,ws,s0,[slot,asks,word],rfl,F,e0,by show 3<=1000;decide,fun q H1 _ k1 F1 e1=>?_⟩
   have e1':H1 q=some (.lst [.int slot,.int asks,.int word]):=e1
   have hp1:=Zci hp F (k_st k1)
   repeat' walk_at "rw"
   refine Zah F1.ob tFrame.k.cl tFrame.n_depth rfl ?_
   repeat walk_at "rwx"
   refine Zah F1.ob tFrame.k.cl tFrame.n_who rfl ?_
   repeat walk_at "rwx"
   intro ga gdx hga hgdx hgne
   have hga2:(upd H1 gdx (.own ga)) ga=none:=by rw [Zai (Ne.symm hgne)];exact hga
   have s1:Same H1 (upd (upd H1 gdx (.own ga)) ga (.ins cFrame gdx [])):=(Same.new hgdx).newT hga2
   refine ⟨ga,gdx, "look", slot,slot,x.who,0,word,asks,x.depth+1,true,rfl,Zag,fun ST SS H2 hST hSS G2 kk=>⟨rfl,?_⟩⟩
   have sa:Same H1 H2:=fun b o e=>kk b o (s1 b o e) (Zaj e hga)
   have fr1:∀ b,H1 b=none->H b=none:=fun b hb=>by
    cases z:H b with
    | none=>rfl
    | some oo =>
     exfalso
     by_cases q:b=fr.ST
     .rw [q,F1.st] at hb;cases hb
     .rw [k1 b oo z q] at hb;cases hb
   exact k ⟨ga,gdx,ST,SS⟩ H2 (fr1 _ hga) (fr1 _ (s1.fresh hST)) (fr1 _ (s1.fresh hSS)) (k1.trans sa.keptX) (F1.same sa) G2
theorem ZcS:FnScope ["rooms", "other"] ["rooms", "other"] (Zab Zbz):=⟨rfl,rfl,rfl,by decide +kernel,rfl,by decide +kernel,by decide +kernel⟩
theorem ZcT   {cFrame:Addr} {cAccount:Addr} (D:Zao K mg "end_ahead_of_call" Zbz) (tFrame:T_Frame K mg cFrame) (tAccount:T_Account K mg cAccount) (c_account_at:Cal P w K mg base 1 "account_at" (spAt K cAccount)) (g_MOST_CALLS:ZaW mg "MOST_CALLS" (.int 8)):Cal P w K mg base 2 "end_ahead_of_call" (Zf6 K cAccount cFrame):=by
 refine Zaz D ZcS (fun vs H Q E h=>?_) (fun _ _ _ _ _ _ us hl=>bd2 (R:=fun us=>bindArgs _ ⟨us,[]⟩=pure (List.zip _ us)) (fun _ _=>rfl) us hl) (fun f cdv A outer s H vs Q E hr h=>?_)
 .obtain ⟨R,A,S,m,f,y,ws,e,rfl,_⟩:=h;rfl
 .obtain ⟨R,Ar,S,m,fr,y,ws,e,rfl,r,F,ha,k⟩:=h
  refine ⟨_,(Zad (Zbd (Zau Zes (ZaL c_account_at (hr.mono (by decide)) rfl (Zaa (pv 0) (Zaa (Zak (pv 1) rfl) Zac))) Zcp (nomark _)) (Zaf (Zap Zar)) ZaJ)
   (Zad (Zbd (Zau Zhx (Zak (pv 1) rfl) (ZbL rfl g_MOST_CALLS) (nomark _)) (Zaf (Zap Zar)) ZaJ)
   (Zad (Zbd (PW.pt (ZmY (Zau Zco (Zak (pv 1) rfl) Zar (nomark _)) (ZjI (Zau Zhx (Zak (pv 1) rfl) (Zak (Zav Zaq (pv 0) (Zak (pv 1) rfl) (fun _ _=>rfl)) rfl) (nomark _))))) (Zaf (Zap Zar)) ZaJ)
   (Zaf (Zap Zcp))))),?_⟩
  walk_at "nx"
  repeat walk_at "rz"
  refine Zah F.ob tFrame.k.cl tFrame.n_whose rfl ?_
  repeat walk_at "rz"
  refine ⟨R,Ar,S,m,y.whose,rfl,r,?_⟩
  rcases ha with ⟨h1,rfl⟩|⟨ac,w0,w1,hA,ha⟩
  .rw [h1]
   repeat walk_at "rz"
   exact k
  .rw [if_pos ⟨w0,w1⟩,hA,show roomV (some ac)=V.ref ac.a from rfl]
   repeat walk_at "rz"
   refine Zah F.ob tFrame.k.cl tFrame.n_depth rfl ?_
   rcases ha with ⟨h2,rfl⟩|⟨h2,h3,rfl⟩|⟨h2,h3,i,z,ei,hi,hz,ha⟩
   .repeat walk_at "rz"
    exact k
   .repeat walk_at "rz"
    refine Zah F.ob tFrame.k.cl tFrame.n_kind rfl ?_
    repeat' walk_at "rz"
    .exact absurd (by assumption) h3
    .exact k
   .have az:=r.ac i z hi hz
    repeat walk_at "rz"
    refine Zah F.ob tFrame.k.cl tFrame.n_kind rfl ?_
    repeat' walk_at "rz"
    .refine Zah F.ob tFrame.k.cl tFrame.n_coin rfl ?_
     repeat walk_at "rz"
     refine Zah F.ob tFrame.k.cl tFrame.n_caller rfl ?_
     rw [ei]
     refine ZaH (Zas r.ob) (r.at hi hz) ?_
     refine Zah az.ob tAccount.k.cl tAccount.n_coin rfl ?_
     rcases ha with ⟨h4,rfl⟩|⟨h4,rfl⟩
     .repeat walk_at "rz"
      exact k
     .repeat walk_at "rz"
      exact k
    .rename_i hq;exact absurd h3 hq
end
noncomputable def RDL:List (Str×RD):=[("push", rPush),("drop", rDrop),("copy", rCopy),("swap", rSwap),("add", rReck),("minus", rReck),("times", rReck),("over", rReck),("rest", rReck),("below", rReck),("same", rReck),("both", rReck),("either", rReck),("unlike", rReck),("up", rReck),("down", rReck),("jump", rJump),("jumpif", ZfX),("me", rMe),("from", rFrom),("sent", rSent),("word", rWord),("give", rGive),("fail", rFail)]
noncomputable def DoSp (K:PySem.W.Frag) (C cJ cS cM cN cF:Addr) (w:Str) (sp:Sp):Prop:=(∃ R,RDL.lookup w=some R/\sp=spD K cF R)\/(w = "load" /\ sp=ZeR K C cF)\/(w = "coin" /\ sp=ZeT K C cF)\/(w = "save" /\ sp=ZeU K C cJ cS cM cN cF)\/(w = "note" /\ sp=ZeV K C cJ cS cM cN cF)
noncomputable def DoOk (P:Program) (w:World) (K:PySem.W.Frag) (C cJ cS cM cN cF:Addr) (mg:Str->Option Value) (base:Heap) (aD:Addr):Prop :=
 ∃ vs,Zdg P w K aD vs/\∀ x sp,DoSp K C cJ cS cM cN cF x sp->∃ fa,valueAt vs (.inr x)=some (.ref fa)/\CalF P w K mg base 5 fa sp
noncomputable def Zim (K:PySem.W.Frag) (C cJ cS cM cN cF:Addr):Sp:=fun vs H Q _=>∃ (vR vJ:V) (a p:Addr) (w:Str) (n:Option Int) (sp:Sp),vs=[vR,vJ,.ref a,.ref p]/\ZbP K H p w n/\DoSp K C cJ cS cM cN cF w sp/\sp vs H (fun _ H'=>Q .non H') E0
theorem Zbj {P:Program} {w:World} {K:PySem.W.Frag} {mg:Str->Option Value} {base:Heap} {x f:Str} {u:Value} {vs:List (Key×Value)} {sp:Sp} {k:Nat} (m:mg f=some u) (c:Cal P w K mg base k f sp) (hk:k<=5) (e:valueAt vs (.inr x)=some u):∃ fa,valueAt vs (.inr x)=some (.ref fa)/\CalF P w K mg base 5 fa sp:=by
 obtain ⟨fa,m',c'⟩:=Cal.mono c (k:=5) hk
 rw [m] at m'
 cases m'
 exact ⟨fa,e,c'⟩
section
variable {P:Program} {w:World} {K:PySem.W.Frag} {mg:Str->Option Value} {base:Heap}
theorem do_ok {cAccount cJournal cSave cMove cNote cFrame aD:Addr} {u1 u2 u3 u4 u5 u6 u7 u8 u9 u10 u11 u12 u13 u14 u15 u16 u17:Value} (dk:Zdg P w K aD [(Sum.inr "push", u1),(Sum.inr "drop", u2),(Sum.inr "copy", u3),(Sum.inr "swap", u4),(Sum.inr "add", u5),(Sum.inr "minus", u5),(Sum.inr "times", u5),(Sum.inr "over", u5),(Sum.inr "rest", u5),(Sum.inr "below", u5),(Sum.inr "same", u5),(Sum.inr "both", u5),(Sum.inr "either", u5),(Sum.inr "unlike", u5),(Sum.inr "up", u5),(Sum.inr "down", u5),(Sum.inr "jump", u6),(Sum.inr "jumpif", u7),(Sum.inr "load", u8),(Sum.inr "save", u9),(Sum.inr "me", u10),(Sum.inr "from", u11),(Sum.inr "sent", u12),(Sum.inr "word", u13),(Sum.inr "coin", u14),(Sum.inr "note", u15),(Sum.inr "give", u16),(Sum.inr "fail", u17)])
  (m_push_row:mg "push_row" = some u1) (m_drop_row:mg "drop_row" = some u2) (m_copy_row:mg "copy_row" = some u3) (m_swap_row:mg "swap_row" = some u4) (m_reckon_row:mg "reckon_row" = some u5) (m_jump_row:mg "jump_row" = some u6) (m_jumpif_row:mg "jumpif_row" = some u7) (m_load_row:mg "load_row" = some u8) (m_save_row:mg "save_row" = some u9) (m_me_row:mg "me_row" = some u10) (m_from_row:mg "from_row" = some u11) (m_sent_row:mg "sent_row" = some u12) (m_word_row:mg "word_row" = some u13) (m_coin_row:mg "coin_row" = some u14) (m_note_row:mg "note_row" = some u15) (m_give_row:mg "give_row" = some u16) (m_fail_row:mg "fail_row" = some u17)
  (c_push_row:Cal P w K mg base 2 "push_row" (spD K cFrame rPush)) (c_drop_row:Cal P w K mg base 2 "drop_row" (spD K cFrame rDrop)) (c_copy_row:Cal P w K mg base 2 "copy_row" (spD K cFrame rCopy)) (c_swap_row:Cal P w K mg base 1 "swap_row" (spD K cFrame rSwap)) (c_reckon_row:Cal P w K mg base 3 "reckon_row" (spD K cFrame rReck)) (c_jump_row:Cal P w K mg base 1 "jump_row" (spD K cFrame rJump)) (c_jumpif_row:Cal P w K mg base 2 "jumpif_row" (spD K cFrame ZfX)) (c_load_row:Cal P w K mg base 2 "load_row" (ZeR K cAccount cFrame)) (c_save_row:Cal P w K mg base 5 "save_row" (ZeU K cAccount cJournal cSave cMove cNote cFrame)) (c_me_row:Cal P w K mg base 2 "me_row" (spD K cFrame rMe)) (c_from_row:Cal P w K mg base 2 "from_row" (spD K cFrame rFrom)) (c_sent_row:Cal P w K mg base 2 "sent_row" (spD K cFrame rSent)) (c_word_row:Cal P w K mg base 2 "word_row" (spD K cFrame rWord)) (c_coin_row:Cal P w K mg base 2 "coin_row" (ZeT K cAccount cFrame)) (c_note_row:Cal P w K mg base 5 "note_row" (ZeV K cAccount cJournal cSave cMove cNote cFrame)) (c_give_row:Cal P w K mg base 2 "give_row" (spD K cFrame rGive)) (c_fail_row:Cal P w K mg base 2 "fail_row" (spD K cFrame rFail)):DoOk P w K cAccount cJournal cSave cMove cNote cFrame mg base aD:=by
 refine ⟨_,dk,fun x sp h=>?_⟩
 rcases h with ⟨R,h,rfl⟩|⟨rfl,rfl⟩|⟨rfl,rfl⟩|⟨rfl,rfl⟩|⟨rfl,rfl⟩
 .have hm:=Zbw h
  simp only [RDL,List.mem_cons,Prod.mk.injEq,List.not_mem_nil,or_false] at hm
  rcases hm with ⟨rfl,rfl⟩|⟨rfl,rfl⟩|⟨rfl,rfl⟩|⟨rfl,rfl⟩|⟨rfl,rfl⟩|⟨rfl,rfl⟩|⟨rfl,rfl⟩|⟨rfl,rfl⟩|⟨rfl,rfl⟩|⟨rfl,rfl⟩|⟨rfl,rfl⟩|⟨rfl,rfl⟩|⟨rfl,rfl⟩|⟨rfl,rfl⟩|⟨rfl,rfl⟩|⟨rfl,rfl⟩|⟨rfl,rfl⟩|⟨rfl,rfl⟩|⟨rfl,rfl⟩|⟨rfl,rfl⟩|⟨rfl,rfl⟩|⟨rfl,rfl⟩|⟨rfl,rfl⟩|⟨rfl,rfl⟩
  .exact Zbj m_push_row c_push_row (by decide) rfl
  .exact Zbj m_drop_row c_drop_row (by decide) rfl
  .exact Zbj m_copy_row c_copy_row (by decide) rfl
  .exact Zbj m_swap_row c_swap_row (by decide) rfl
  .exact Zbj m_reckon_row c_reckon_row (by decide) rfl
  .exact Zbj m_reckon_row c_reckon_row (by decide) rfl
  .exact Zbj m_reckon_row c_reckon_row (by decide) rfl
  .exact Zbj m_reckon_row c_reckon_row (by decide) rfl
  .exact Zbj m_reckon_row c_reckon_row (by decide) rfl
  .exact Zbj m_reckon_row c_reckon_row (by decide) rfl
  .exact Zbj m_reckon_row c_reckon_row (by decide) rfl
  .exact Zbj m_reckon_row c_reckon_row (by decide) rfl
  .exact Zbj m_reckon_row c_reckon_row (by decide) rfl
  .exact Zbj m_reckon_row c_reckon_row (by decide) rfl
  .exact Zbj m_reckon_row c_reckon_row (by decide) rfl
  .exact Zbj m_reckon_row c_reckon_row (by decide) rfl
  .exact Zbj m_jump_row c_jump_row (by decide) rfl
  .exact Zbj m_jumpif_row c_jumpif_row (by decide) rfl
  .exact Zbj m_me_row c_me_row (by decide) rfl
  .exact Zbj m_from_row c_from_row (by decide) rfl
  .exact Zbj m_sent_row c_sent_row (by decide) rfl
  .exact Zbj m_word_row c_word_row (by decide) rfl
  .exact Zbj m_give_row c_give_row (by decide) rfl
  .exact Zbj m_fail_row c_fail_row (by decide) rfl
 .exact Zbj m_load_row c_load_row (by decide) rfl
 .exact Zbj m_coin_row c_coin_row (by decide) rfl
 .exact Zbj m_save_row c_save_row (by decide) rfl
 .exact Zbj m_note_row c_note_row (by decide) rfl
theorem ZkW:FnScope ["rooms", "journal", "frame", "row"] ["rooms", "journal", "frame", "row"] (Zab ZfI):=⟨rfl,rfl,rfl,by decide +kernel,rfl,by decide +kernel,by decide +kernel⟩
theorem ZkX  {cAccount cJournal cSave cMove cNote cFrame aD:Addr} (DO:DoOk P w K cAccount cJournal cSave cMove cNote cFrame mg base aD)  (D:Zao K mg "do_row" ZfI) (g_DOINGS:ZaW mg "DOINGS" (.ref aD)):Cal P w K mg base 6 "do_row" (Zim K cAccount cJournal cSave cMove cNote cFrame):=by
 refine Zaz D ZkW (fun vs H Q E h=>?_) (fun _ _ _ _ _ _ us hl=>bd4 (R:=fun us=>bindArgs _ ⟨us,[]⟩=pure (List.zip _ us)) (fun _ _ _ _=>rfl) us hl) (fun f cdv A outer s H vs Q E hr h=>?_)
 .obtain ⟨vR,vJ,a,p,w,n,sp,rfl,_⟩:=h;rfl
 .obtain ⟨vR,vJ,a,p,wd,n,sp,rfl,hp,hS,k⟩:=h
  refine ⟨_,(Zaf (Zax (ZiF (k:=5) (hr.mono (by decide)) (Zfp (ZbL rfl g_DOINGS) (Zav Za0 (pv 3) Zae (fun _ _=>rfl)) (fun _ _=>rfl)) (Zaa (pv 0) (Zaa (pv 1) (Zaa (pv 2) (Zaa (pv 3) Zac))))))),?_⟩
  walk_at "nx"
  obtain ⟨ts,dk,al⟩:=DO
  obtain ⟨fa,hv,cf⟩:=al wd sp hS
  refine Zke ?_
  unfold tCallV
  repeat walk_at "rw"
  refine Zkn (v:=.ref fa) dk hv rfl ?_
  refine ⟨fa,_,rfl,cf,?_⟩
  repeat walk_at "rdk"
  exact k
end
theorem Zf8:∀ (kvs:List (Key×V)),(∀ p∈kvs,∃ i n:Int,p=(Sum.inl i,.int n)/\n≠0)->∃ ks:List Int,kvs.map (·.1)=ks.map Sum.inl
 | [],_=>⟨[],rfl⟩
 | p::r,h=>by
  obtain ⟨i,n,rfl,_⟩:=h p (by simp)
  obtain ⟨ks,e⟩:=Zf8 r fun q hq=>h q (by simp [hq])
  exact ⟨i::ks,by rw [List.map_cons,e];rfl⟩
theorem ZiS {kvs:List (Key×V)} {k:Key} {v:V} (h:valV kvs k=some v):(k,v)∈kvs:=by
 unfold valV at h
 obtain ⟨p,hp,rfl⟩:=Option.map_eq_some_iff.mp h
 have h1:=List.find?_some hp
 have h2:=List.mem_of_find?_eq_some hp
 simp only [decide_eq_true_eq] at h1
 rw [<- h1]
 exact h2
noncomputable def placeD:Dd->Option Int
 | .save _ p _ _=>some p
 | _=>none
theorem ZkY (S:Nat->AcS) (d:Dd) (i:Nat) (p:Int) (h:(doneS S d i).store p≠0):(S i).store p≠0\/placeD d=some p:=by
 cases d with
 | save s q o n =>
  by_cases e:q=p
  .exact .inr (by rw [<- e];rfl)
  .refine .inl fun z=>h ?_
   show (setS S s.toNat _ i).store p=0
   unfold setS
   by_cases w:i=s.toNat
   .rw [if_pos w]
    show putFn _ q n p=0
    unfold putFn
    rw [if_neg (Ne.symm e),<- w]
    exact z
   .rw [if_neg w]
    exact z
 | move s t k =>
  refine .inl fun z=>h ?_
  show (moved S _ _ k i).store p=0
  rw [ZbM]
  exact z
 | note s n=>exact .inl h
theorem ZiT:∀ (ds:List Dd) (S:Nat->AcS) (i:Nat) (p:Int),(runS S ds i).store p≠0->(S i).store p≠0\/p∈ds.filterMap placeD
 | [],S,i,p,h=>.inl h
 | d::ds,S,i,p,h=>by
  rcases ZiT ds (doneS S d) i p h with h|h
  .rcases ZkY S d i p h with h|h
   .exact .inl h
   .exact .inr (List.mem_filterMap.mpr ⟨d,by simp,h⟩)
  .obtain ⟨e,he,ep⟩:=List.mem_filterMap.mp h
   exact .inr (List.mem_filterMap.mpr ⟨e,by simp [he],ep⟩)
theorem Zhe:∀ (ks ps:List Int),ks.Nodup->(∀ k∈ks,k∈ps)->ks.length<=ps.length
 | [],ps,_,_=>Nat.zero_le _
 | k::ks,ps,hn,h=>by
  obtain ⟨n1,n2⟩:=List.nodup_cons.mp hn
  have hk:=h k (by simp)
  have:=Zhe ks (ps.erase k) n2 fun x hx=>(List.mem_erase_of_ne (fun z=>n1 (by rw [<- z];exact hx))).mpr (h x (by simp [hx]))
  rw [List.length_erase_of_mem hk] at this
  have:0<ps.length:=List.length_pos_of_mem hk
  simp only [List.length_cons]
  omega
theorem StoreAt.tight {H:Hp} {d:Addr} {f:Int->Int} {m:Nat} (h:StoreAt H d f m) {ps:List Int} (hp:∀ p,f p≠0->p∈ps):StoreAt H d f ps.length:=by
 obtain ⟨kvs,e1,e2,e3,e4,e5⟩:=h
 refine ⟨kvs,e1,?_,e3,e4,e5⟩
 obtain ⟨ks,hk⟩:=Zf8 kvs e4
 have hkn:ks.Nodup:=by
  rw [hk] at e3
  exact (List.pairwise_map.mp e3).imp fun h e=>h (by rw [e])
 have hl:kvs.length=ks.length:=by
  have:=congrArg List.length hk
  rw [List.length_map,List.length_map] at this
  exact this
 rw [hl]
 refine Zhe ks ps hkn fun k hk'=>hp k ?_
 have hm:(Sum.inl k:Key)∈kvs.map (·.1):=by rw [hk];exact List.mem_map.mpr ⟨k,hk',rfl⟩
 cases e:valV kvs (Sum.inl k:Key) with
 | none=>exact absurd hm (Zfz e)
 | some v =>
  obtain ⟨j,n,z,hn0⟩:=e4 _ (ZiS e)
  cases z
  have:=e5 k
  rw [e] at this
  rw [<- V.int.inj (show V.int n=V.int (f k) from this)]
  exact hn0
noncomputable def SupB (S0:Nat->AcS) (m0:Nat):Prop:=∀ i,∃ ps:List Int,ps.length<=m0/\∀ p,(S0 i).store p≠0->p∈ps
theorem Rooms.tight2 {K:PySem.W.Frag} {C:Addr} {H:Hp} {R:Addr} {A:Nat->Option AcI} {S0:Nat->AcS} {ds:List Dd} {m m0:Nat} (r:Rooms K C H R A (runS S0 ds) m) (z:SupB S0 m0):Rooms K C H R A (runS S0 ds) (m0+ds.length) :=
 ⟨r.ob,fun i x hi hx=>let h:=r.ac i x hi hx;let ⟨ps,e0,e9⟩:=z i;⟨h.ob,h.pg,let ⟨kvs,e1,e2,e3⟩:=StoreAt.tight h.sto (ps:=ps++ds.filterMap placeD) (fun p hp=>List.mem_append.mpr ((ZiT ds S0 i p hp).imp (e9 p) id));⟨kvs,e1,Nat.le_trans e2 (by rw [List.length_append];exact Nat.add_le_add e0 (List.length_filterMap_le _ _)),e3⟩⟩,r.da,r.ds⟩
structure Wd (K:PySem.W.Frag) (C cJ cS cM cN:Addr) (H:Hp) (j dx R L:Addr) (A:Nat->Option AcI) (S0:Nat->AcS) (m0:Nat) (ds:List Dd):Prop where
 J:∃ es,es.map (·.d)=ds/\Jr cJ cS cM cN H j dx R L A es
 r:Rooms K C H R A (runS S0 ds) (m0+ds.length)
 ri:Zbx S0 ds
 ti:SupB S0 m0
 b:m0<=100000
noncomputable def newP (H0 H:Hp):Hp:=fun b=>match H0 b with
 | none=>H b
 | some _=>none
noncomputable def Stp (K:PySem.W.Frag) (H0 H:Hp) (st:List Dt) (vs:List V):Prop:=DVs K (newP H0 H) st vs
theorem ZeY {H0 H:Hp} {b:Addr} {o:HO} (h0:H0 b=none) (h:H b=some o):newP H0 H b=some o:=by unfold newP;rw [h0];exact h
theorem Zf9 {H0 H:Hp} {b:Addr} {o:HO} (h:newP H0 H b=some o):H0 b=none/\H b=some o:=by
 unfold newP at h
 split at h
 .rename_i e;exact ⟨e,h⟩
 .cases h
theorem ZkZ {K:PySem.W.Frag} {H:Hp}:∀ {ds es:List Dt} {xs ys:List V},DVs K H ds xs->DVs K H es ys->DVs K H (ds++es) (xs++ys)
 | [],es,xs,ys,h,q=>by unfold DVs at h;subst h;exact q
 | d::ds,es,xs,ys,h,q=>by
  unfold DVs at h
  obtain ⟨x,t,rfl,h1,h2⟩:=h
  exact ZaI h1 (ZkZ h2 q)
section
variable {K:PySem.W.Frag} {C cJ cS cM cN cF:Addr} {H H0 H1 H':Hp} {j dx R L:Addr} {A:Nat->Option AcI} {S0:Nat->AcS} {m0:Nat} {ds:List Dd} {f g:FrI} {x y:FrS} {ws vs:List V} {st:List Dt}
theorem Stp.nil:Stp K H0 H [] []:=ZbI
theorem Stp.int (i:Int):Stp K H0 H [.int i] [.int i]:=ZaI ZbH ZbI
theorem Stp.app {s2:List Dt} {v2:List V} (a:Stp K H0 H st vs) (b:Stp K H0 H s2 v2):Stp K H0 H (st++s2) (vs++v2):=ZkZ a b
theorem Stp.kept {Y:Addr->Prop} (a:Stp K H0 H st vs) (k:KeptX Y H H') (d:∀ b,Y b->H0 b≠none):Stp K H0 H' st vs :=
 DVs.keep (fun b o e=>let ⟨e1,e2⟩:=Zf9 e;ZeY e1 (k b o e2 fun z=>d b z e1)) a
theorem Stp.same (a:Stp K H0 H st vs) (s:Same H H'):Stp K H0 H' st vs:=a.kept (Y:=fun _=>False) s.keptX fun _ z=>z.elim
theorem Stp.base (a:Stp K H1 H st vs) (d:∀ b,H1 b=none->H0 b=none):Stp K H0 H st vs:=DVs.keep (fun b o e=>let ⟨e1,e2⟩:=Zf9 e;ZeY (d b e1) e2) a
theorem Stp.tell {t:Addr} {d:Dd} (h0:H0 t=none) (h:H t=some (.tup (tellV d))):Stp K H0 H [tellD d] [.ref t]:=ZaI (ZgE (ZaA (ZeY h0 h)) (ZiP d)) ZbI
theorem Stp.dv {d:Dt} {v:V} (a:Stp K H0 H [d] [v]):DV K H d v:=by
 have h:DVs K H [d] [v]:=DVs.keep (fun b o e=>(Zf9 e).2) a
 unfold DVs at h
 obtain ⟨x,t,e,h,_⟩:=h
 cases e
 exact h
theorem Wd.same (W:Wd K C cJ cS cM cN H j dx R L A S0 m0 ds) (s:Same H H'):Wd K C cJ cS cM cN H' j dx R L A S0 m0 ds:=⟨let ⟨es,e,J⟩:=W.J;⟨es,e,J.same s⟩,W.r.same s,W.ri,W.ti,W.b⟩
theorem Wd.frame (W:Wd K C cJ cS cM cN H j dx R L A S0 m0 ds) (F:FrAt cF H f x ws) (a:Ap R L A f) (k:KeptX (inF3 f) H H'):Wd K C cJ cS cM cN H' j dx R L A S0 m0 ds:=⟨let ⟨es,e,J⟩:=W.J;⟨es,e,J.frame F a k⟩,W.r.frame F a k,W.ri,W.ti,W.b⟩
theorem Wd.wrote {e:DI} {es:List DI} {m:Nat} (W:Wd K C cJ cS cM cN H j dx R L A S0 m0 ds) (he:es.map (·.d)=ds) (r:Rooms K C H' R A (doneS (runS S0 ds) e.d) m) (J:Jr cJ cS cM cN H' j dx R L A (es++[e])) (h:rightD (runS S0 ds) e.d):Wd K C cJ cS cM cN H' j dx R L A S0 m0 (ds++[e.d]) :=
 ⟨⟨_,by rw [List.map_append,he];rfl,J⟩,Rooms.tight2 (by rw [Zdl];exact r) W.ti,(ZbU _ _ _).mpr ⟨W.ri,h⟩,W.ti,W.b⟩
theorem Zd3 (F:FrAt cF H f x ws) {b:Addr} (h:inF3 f b):H b≠none:=by
 rcases h with rfl|rfl|rfl
 .rw [F.ob];intro z;cases z
 .rw [F.st];intro z;cases z
 .rw [F.ss];intro z;cases z
theorem Znh (W:Wd K C cJ cS cM cN H j dx R L A S0 m0 ds) {b:Addr} (h:¬ Out A b\/b=L):H b≠none:=fun z=>by
 rcases h with h|rfl
 .exact h (W.r.outN z)
 .obtain ⟨es,_,J⟩:=W.J
  rw [J.li] at z;cases z
theorem Zfq (W:Wd K C cJ cS cM cN H j dx R L A S0 m0 ds) (F:FrAt cF H f x ws) {b:Addr} (h:goX A L f b):H b≠none:=by
 rcases h with h|h|h
 .exact Znh W (.inl h)
 .exact Znh W (.inr h)
 .exact Zd3 F h
theorem ZeZ {Y:Addr->Prop} (k:KeptX Y H0 H) (d:∀ b,Y b->H b≠none) (b:Addr) (h:H b=none):H0 b=none:=by
 cases z:H0 b with
 | none=>rfl
 | some o =>
  exfalso
  by_cases q:Y b
  .exact d b q h
  .rw [k b o z q] at h;cases h
structure NewF (H:Hp) (g:FrI):Prop where
 a:H g.a=none
 t:H g.ST=none
 s:H g.SS=none
theorem NewF.not (n:NewF H g) {b:Addr} (h:H b≠none):¬ inF3 g b:=by
 rintro (rfl|rfl|rfl)
 .exact h n.a
 .exact h n.t
 .exact h n.s
theorem NewF.ap (n:NewF H g) (W:Wd K C cJ cS cM cN H j dx R L A S0 m0 ds):Ap R L A g:=by
 obtain ⟨es,_,J⟩:=W.J
 exact ⟨Ne.symm (Zaj W.r.ob n.t),Ne.symm (Zaj W.r.ob n.s),Ne.symm (Zaj J.li n.t),Ne.symm (Zaj J.li n.s),fun i y hi hy=>by
   obtain ⟨xs,e1,_⟩:=(W.r.ac i y hi hy).pg
   exact ⟨Ne.symm (Zaj e1 n.t),Ne.symm (Zaj e1 n.s)⟩⟩
theorem FrAt.callee (F:FrAt cF H f x ws) (W:Wd K C cJ cS cM cN H j dx R L A S0 m0 ds) (a:Ap R L A f) (n:NewF H g) {x1:FrS} {ws1:List V} (F1:FrAt cF H1 f x1 ws1) (k:KeptX (goX A L g) H1 H'):FrAt cF H' f x1 ws1:=by
 obtain ⟨es,_,J⟩:=W.J
 have oa:Out A f.a:=fun i y hi hy=>⟨ZiO F.ob (W.r.ac i y hi hy).ob (by show 15≠5;decide),let ⟨_,g,_⟩:=(W.r.ac i y hi hy).sto;Zbl F.ob g (by intro z;cases z)⟩
 refine F1.kept k ?_ ?_ ?_
 .rintro (z|z|z)
  .exact z oa
  .exact Zbl F.ob J.li (by intro z;cases z) z
  .exact n.not (Zd3 F (.inl rfl)) z
 .rintro (z|z|z)
  .exact z (W.r.outL F.st)
  .exact a.tL z
  .exact n.not (Zd3 F (.inr (.inl rfl))) z
 .rintro (z|z|z)
  .exact z (W.r.outL F.ss)
  .exact a.sL z
  .exact n.not (Zd3 F (.inr (.inr rfl))) z
theorem Zhf (k1:KeptX (inF3 f) H H1) (n:NewF H g) (k:KeptX (goX A L g) H1 H'):KeptX (goX A L f) H H':=fun b o e nb=>k b o (k1 b o e fun z=>nb (.inr (.inr z))) fun z=>by
 rcases z with z|z|z
 .exact nb (.inl z)
 .exact nb (.inr (.inl z))
 .exact n.not (by rw [e];intro q;cases q) z
end
noncomputable def endD:Option Str->Dt
 | none=>.non
 | some s=>.str s
noncomputable def treeD (x:FrS) (st:List Dt):Dt:=.tup [.str x.kind,.int x.who,.int x.whose,.int x.caller,.int x.coin,.int x.word,.int x.given,endD x.fin,.int x.answer,.int x.used,.lst st]
theorem Stp.tree {K:PySem.W.Frag} {H0 H:Hp} {x:FrS} {st:List Dt} {vs:List V} {p T:Addr} (a:Stp K H0 H st vs) (hT:H0 T=none) (h1:H T=some (.lst vs)) (hp:H0 p=none) (h2:H p=some (.tup (treeV x T))):Stp K H0 H [treeD x st] [.ref p]:=by
 refine ZaI (ZgE (ZaA (ZeY hp h2)) (ZaI Zev (ZaI ZbH (ZaI ZbH (ZaI ZbH (ZaI ZbH (ZaI ZbH (ZaI ZbH (ZaI ?_ (ZaI ZbH (ZaI ZbH (ZaI (ZgF (Zas (ZeY hT h1)) a) ZbI)))))))))))) ZbI
 cases e:x.fin with
 | none=>unfold endD DV;rfl
 | some s=>exact Zev
noncomputable def wellI (e:Option Str):Int:=if e=some ("well" : Str) then 1 else 0
noncomputable abbrev GR:=List Dd->FrS->List Dd->FrS->List Dt->Prop
noncomputable def Zk0 (A:Nat->Option AcI) (S0:Nat->AcS) (G:GR) (w:Str) (ds:List Dd) (x:FrS) (ds':List Dd) (x':FrS) (d:Dt):Prop:=∃ (s:List Int) (y y':FrS) (st:List Dt) (e:Option Str),Zhd x w s y/\x'={ x with stack:=s++[y'.answer,wellI y'.fin],used:=x.used+y'.used }/\d=treeD y' st/\s.length<=900/\ZdQ A (runS S0 ds) y e /\
 ((∃ e1,e=some e1/\ds'=ds/\y'={ y with given:=0,fin:=some e1,answer:=0 }/\st=[])\/(e=none/\G ds { y with given:=if x.given-x.used<y.given then x.given-x.used else y.given } ds' y' st))
inductive DoW (A:Nat->Option AcI) (S0:Nat->AcS) (G:GR):Str->Option Int->List Dd->FrS->List Dd->FrS->List Dt->Prop
 | pure {w:Str} {n:Option Int} {ds:List Dd} {x x':FrS} {D:RD} (hC:inS w ["call", "borrow", "look"]=false) (h:RDL.lookup w=some D) (hD:D x w n x'):DoW A S0 G w n ds x ds x' []
 | load {n:Option Int} {ds:List Dd} {x:FrS} {s:List Int} {pl:Int} {i:Nat} {y:AcI} (ew:x.who=(i:Int)) (hi:i<16) (hy:A i=some y) (e:x.stack=s++[pl]):DoW A S0 G "load" n ds x ds { x with stack:=s++[(runS S0 ds i).store pl] } []
 | coin {n:Option Int} {ds:List Dd} {x:FrS} {s:List Int} {sl:Int} (e:x.stack=s++[sl]):DoW A S0 G "coin" n ds x ds { x with stack:=s++[ZeS A (runS S0 ds) sl] } []
 | save {n:Option Int} {ds:List Dd} {x:FrS} {s:List Int} {pl v:Int} {i:Nat} {y:AcI} (ew:x.who=(i:Int)) (hi:i<16) (hy:A i=some y) (e:x.stack=s++[pl,v]):DoW A S0 G "save" n ds x (ds++[.save (i:Int) pl ((runS S0 ds i).store pl) v]) { x with stack:=s } [tellD (.save (i:Int) pl ((runS S0 ds i).store pl) v)]
 | note {n:Option Int} {ds:List Dd} {x:FrS} {s:List Int} {v:Int} (e:x.stack=s++[v]):DoW A S0 G "note" n ds x (ds++[.note x.who v]) { x with stack:=s } [tellD (.note x.who v)]
 | call {w:Str} {n:Option Int} {ds ds':List Dd} {x x':FrS} {d:Dt} (hC:inS w ["call", "borrow", "look"]=true) (h:Zk0 A S0 G w ds x ds' x' d):DoW A S0 G w n ds x ds' x' [d]
noncomputable def OnW (A:Nat->Option AcI) (S0:Nat->AcS) (G:GR) (rows:List Row) (ds:List Dd) (x:FrS) (ds':List Dd) (x':FrS) (add:List Dt):Prop :=
 ((rows.length:Int)<=x.row/\ds'=ds/\x'={ x with fin:=some ("well" : Str),answer:=0 }/\add=[])\/∃ (i:Nat) (w:Str) (n:Option Int),x.row=(i:Int)/\rows[i]?=some (w,n) /\
  ((∃ e,aheadR A (runS S0 ds) x w n (some e)/\ds'=ds/\x'={ x with fin:=some e,answer:=0 }/\add=[]) \/
   (aheadR A (runS S0 ds) x w n none/\∃ (b1 b2:Bool) (t l pr d:Int) (ad:List Dt),Zb2 x w b1/\fillsR A (runS S0 ds) x w b2/\RT.lookup w=some (t,l,pr,d)/\DoW A S0 G w n ds (ZcC x (if (b1||b2)=true then d else pr)) ds' x' ad/\add=.int x.row::ad))
inductive RunW (A:Nat->Option AcI) (S0:Nat->AcS) (G:GR) (rows:List Row):Nat->List Dd->FrS->List Dd->FrS->List Dt->Prop
 | done {ds:List Dd} {x:FrS} (h:x.fin≠none):RunW A S0 G rows 0 ds x ds x []
 | step {n:Nat} {ds ds1 ds2:List Dd} {x x' y:FrS} {add st:List Dt} (h:x.fin=none) (o:OnW A S0 G rows ds x ds1 x' add) (l:x.stack.length<=900) (e:x'.whose=x.whose) (q:RunW A S0 G rows n ds1 x' ds2 y st):RunW A S0 G rows (n+1) ds x ds2 y (add++st)
noncomputable def mvD (x:FrS):Option Dd:=if x.kind = "call" /\ 0<x.coin then some (.move x.caller x.who x.coin) else none
noncomputable def GoW (A:Nat->Option AcI) (S0:Nat->AcS):Nat->GR
 | 0=>fun _ _ _ _ _=>False
 | n+1=>fun ds x ds' y st=>∃ (i:Nat) (ac:AcI) (k:Nat) (ds1:List Dd) (st1:List Dt),x.fin=none/\x.whose=(i:Int)/\i<16/\A i=some ac/\(∀ d,mvD x=some d->fitsD A d)/\RunW A S0 (GoW A S0 n) (S0 i).rows k (ds++(mvD x).toList) x ds1 y st1/\k<=40000/\ds1.length<=100000/\ds'=(if y.fin=some ("well" : Str) then ds1 else ds)/\st=(mvD x).toList.map tellD++st1
noncomputable def PreG (G:GR):Prop:=∀ ds x ds' y st,G ds x ds' y st->ds <+: ds'/\∃ e,y.fin=some e
theorem DoW.pre {A:Nat->Option AcI} {S0:Nat->AcS} {G:GR} (hG:PreG G) {w:Str} {n:Option Int} {ds ds':List Dd} {x x':FrS} {ad:List Dt} (h:DoW A S0 G w n ds x ds' x' ad):ds <+: ds'/\ad.length<=1:=by
 cases h with
 | pure=>exact ⟨List.prefix_rfl,Nat.zero_le _⟩
 | load=>exact ⟨List.prefix_rfl,Nat.zero_le _⟩
 | coin=>exact ⟨List.prefix_rfl,Nat.zero_le _⟩
 | save=>exact ⟨List.prefix_append _ _,Nat.le_refl _⟩
 | note=>exact ⟨List.prefix_append _ _,Nat.le_refl _⟩
 | call hC h =>
  obtain ⟨s,y,y',st,e,_,_,_,_,_,h⟩:=h
  rcases h with ⟨_,_,rfl,_⟩|⟨_,h⟩
  .exact ⟨List.prefix_rfl,Nat.le_refl _⟩
  .exact ⟨(hG _ _ _ _ _ h).1,Nat.le_refl _⟩
theorem OnW.pre {A:Nat->Option AcI} {S0:Nat->AcS} {G:GR} (hG:PreG G) {rows:List Row} {ds ds':List Dd} {x x':FrS} {ad:List Dt} (h:OnW A S0 G rows ds x ds' x' ad):ds <+: ds'/\ad.length<=2:=by
 rcases h with ⟨_,rfl,_,rfl⟩|⟨_,_,_,_,_,⟨_,_,rfl,_,rfl⟩|⟨_,_,_,_,_,_,_,_,_,_,_,h,rfl⟩⟩
 .exact ⟨List.prefix_rfl,Nat.zero_le _⟩
 .exact ⟨List.prefix_rfl,Nat.zero_le _⟩
 .exact ⟨(h.pre hG).1,Nat.succ_le_succ (h.pre hG).2⟩
theorem RunW.pre {A:Nat->Option AcI} {S0:Nat->AcS} {G:GR} (hG:PreG G) {rows:List Row}:∀ {n:Nat} {ds ds':List Dd} {x y:FrS} {st:List Dt},RunW A S0 G rows n ds x ds' y st->ds <+: ds'/\∃ e,y.fin=some e
 | _,_,_,_,_,_,.done h=>by
  rename_i x
  refine ⟨List.prefix_rfl,?_⟩
  cases e:x.fin with
  | none=>exact absurd e h
  | some e'=>exact ⟨e',rfl⟩
 | _,_,_,_,_,_,.step _ o _ _ q=>⟨(o.pre hG).1.trans (q.pre hG).1,(q.pre hG).2⟩
theorem GoW.pre {A:Nat->Option AcI} {S0:Nat->AcS}:∀ n,PreG (GoW A S0 n)
 | 0=>fun _ _ _ _ _ h=>h.elim
 | n+1=>fun ds x ds' y st h=>by
  obtain ⟨i,ac,k,ds1,st1,_,_,_,_,_,h,_,_,rfl,_⟩:=h
  have:=h.pre (GoW.pre n)
  refine ⟨?_,this.2⟩
  split
  .exact (List.prefix_append _ _).trans this.1
  .exact List.prefix_rfl
theorem Zk1 (S:Nat->AcS) (d:Dd) (i:Nat):(doneS S d i).rows=(S i).rows:=by
 cases d with
 | save s p o n =>
  show (setS S s.toNat _ i).rows=_
  unfold setS
  by_cases w:i=s.toNat
  .rw [if_pos w,<- w]
  .rw [if_neg w]
 | move s t k=>show (moved S _ _ k i).rows=_;rw [ZbM]
 | note s n=>rfl
theorem ZiU:∀ (ds:List Dd) (S:Nat->AcS) (i:Nat),(runS S ds i).rows=(S i).rows
 | [],_,_=>rfl
 | d::ds,S,i=>(ZiU ds (doneS S d) i).trans (Zk1 S d i)
noncomputable def Post (K:PySem.W.Frag) (C cJ cS cM cN cF:Addr) (H:Hp) (j dx R L:Addr) (A:Nat->Option AcI) (S0:Nat->AcS) (m0:Nat) (f:FrI) (ws:List V) (ds':List Dd) (x':FrS) (add:List Dt) (Q:VK):Prop :=
 ∀ vs H',Wd K C cJ cS cM cN H' j dx R L A S0 m0 ds'->FrAt cF H' f x' (ws++vs)->Stp K H H' add vs->KeptX (goX A L f) H H'->Q .non H'
noncomputable def spGoW (K:PySem.W.Frag) (C cJ cS cM cN cF:Addr) (n:Nat):Sp:=fun vs H Q _=>∃ (j dx R L:Addr) (A:Nat->Option AcI) (S0:Nat->AcS) (m0:Nat) (ds:List Dd) (f:FrI) (x:FrS) (ds':List Dd) (y:FrS) (st:List Dt),vs=[.ref R,.ref j,.ref f.a]/\Wd K C cJ cS cM cN H j dx R L A S0 m0 ds/\FrAt cF H f x []/\Ap R L A f/\GoW A S0 n ds x ds' y st/\Post K C cJ cS cM cN cF H j dx R L A S0 m0 f [] ds' y st Q
noncomputable def Zhg (K:PySem.W.Frag) (C cJ cS cM cN cF:Addr) (n:Nat):Sp:=fun vs H Q _=>∃ (j dx R L:Addr) (A:Nat->Option AcI) (S0:Nat->AcS) (m0:Nat) (ds:List Dd) (f:FrI) (x:FrS) (ws:List V) (p:Addr) (w:Str) (nn:Option Int) (ds':List Dd) (x':FrS) (d:Dt),vs=[.ref R,.ref j,.ref f.a,.ref p]/\Wd K C cJ cS cM cN H j dx R L A S0 m0 ds/\FrAt cF H f x ws/\Ap R L A f/\ZbP K H p w nn/\Zk0 A S0 (GoW A S0 n) w ds x ds' x' d/\ws.length<=99000/\Post K C cJ cS cM cN cF H j dx R L A S0 m0 f ws ds' x' [d] Q
noncomputable def ZiV (K:PySem.W.Frag) (C cJ cS cM cN cF:Addr) (n:Nat):Sp:=fun vs H Q _=>∃ (j dx R L:Addr) (A:Nat->Option AcI) (S0:Nat->AcS) (m0:Nat) (ds:List Dd) (f:FrI) (x:FrS) (ws:List V) (p:Addr) (w:Str) (nn:Option Int) (ds':List Dd) (x':FrS) (ad:List Dt) (b1 b2:Bool) (t l pr d:Int),vs=[.ref R,.ref j,.ref f.a,.ref p]/\Wd K C cJ cS cM cN H j dx R L A S0 m0 ds/\FrAt cF H f x ws/\Ap R L A f/\ZbP K H p w nn/\Zb2 x w b1/\fillsR A (runS S0 ds) x w b2/\RT.lookup w=some (t,l,pr,d)/\DoW A S0 (GoW A S0 n) w nn ds (ZcC x (if (b1||b2)=true then d else pr)) ds' x' ad/\x.stack.length<=900/\ws.length<=90000/\ds.length<=100000/\Post K C cJ cS cM cN cF H j dx R L A S0 m0 f ws ds' x' (.int x.row::ad) Q
noncomputable def Zk2 (K:PySem.W.Frag) (C cJ cS cM cN cF:Addr) (n:Nat):Sp:=fun vs H Q _=>∃ (j dx R L:Addr) (A:Nat->Option AcI) (S0:Nat->AcS) (m0:Nat) (ds:List Dd) (f:FrI) (x:FrS) (ws:List V) (ds':List Dd) (x':FrS) (add:List Dt) (i:Nat) (y:AcI),vs=[.ref R,.ref j,.ref f.a]/\Wd K C cJ cS cM cN H j dx R L A S0 m0 ds/\FrAt cF H f x ws/\Ap R L A f/\x.whose=(i:Int)/\i<16/\A i=some y/\OnW A S0 (GoW A S0 n) (S0 i).rows ds x ds' x' add/\x.stack.length<=900/\ws.length<=90000/\ds.length<=100000/\Post K C cJ cS cM cN cF H j dx R L A S0 m0 f ws ds' x' add Q
section
end
section
variable {P:Program} {w:World} {K:PySem.W.Frag} {mg:Str->Option Value} {base:Heap}
theorem Zdd:FnScope ["rooms", "journal", "frame", "row", "other", "end"] ["rooms", "journal", "frame", "row"] (Zab ZcM):=⟨rfl,rfl,rfl,by decide +kernel,rfl,by decide +kernel,by decide +kernel⟩
theorem Zin  {k n:Nat} {cAccount cJournal cSave cMove cNote:Addr} {cFrame:Addr} (D:Zao K mg "call_row" ZcM) (tFrame:T_Frame K mg cFrame) (m_Frame_left:MCal P w K mg base 1 cFrame "left" (spLeft cFrame)) (m_Frame_finish:MCal P w K mg base 1 cFrame "finish" (ZcN cFrame)) (m_Frame_tree:MCal P w K mg base 1 cFrame "tree" (spTree cFrame)) (m_Frame_lay:MCal P w K mg base 1 cFrame "lay" (spLay cFrame)) (c_other_call:Cal P w K mg base 3 "other_call" (Zil K cFrame)) (c_end_ahead_of_call:Cal P w K mg base 2 "end_ahead_of_call" (Zf6 K cAccount cFrame)) (c_go:Cal P w K mg base (k+8) "go" (spGoW K cAccount cJournal cSave cMove cNote cFrame n)) (n_min:mg "min" = none):Cal P w K mg base (k+9) "call_row" (Zhg K cAccount cJournal cSave cMove cNote cFrame n):=by
 refine Zaz D Zdd (fun vs H Q E h=>?_) (fun _ _ _ _ _ _ us hl=>bd4 (R:=fun us=>bindArgs _ ⟨us,[]⟩=pure (List.zip _ us)) (fun _ _ _ _=>rfl) us hl) (fun f cdv A outer s H vs Q E hr h=>?_)
 .obtain ⟨j,dx,R,L,A,S0,m0,ds,f,x,ws,p,w,nn,ds',x',d,rfl,_⟩:=h;rfl
 .obtain ⟨j,dx,R,L,Ar,S0,m0,ds,fr,x,ws,p,wd,nn,ds',x',d,rfl,W,F,ap,hp,⟨s0,y,y',st,e,hO,rfl,rfl,hs,ha,hC⟩,hw,kk⟩:=h
  refine ⟨_,(Zad (ZaF (i:=4) Zdd.nd rfl (by first|exact Or.inl rfl|exact Or.inr rfl) (ZaL c_other_call (hr.mono (by omega)) rfl (Zaa (pv 2) (Zaa (pv 3) Zac))))
   (Zad (ZaF (i:=5) Zdd.nd rfl (by first|exact Or.inl rfl|exact Or.inr rfl) (ZaL c_end_ahead_of_call (hr.mono (by omega)) rfl (Zaa (pv 0) (Zaa (pv 4) Zac))))
   (Zad (Znd (Zbd (Zau Zes (pv 5) Zcp (nomark _)) (Zad (ZaT (pv 4) (ZaM (cn_min rfl) rfl n_min PyProof.Rows.boot_min (Zaa (Zak (pv 4) rfl) (Zaa (ZbT m_Frame_left (hr.mono (by omega)) (pv 2)) Zac))) rfl)
   (Zaf (Zax (ZaL c_go (hr.mono (by omega)) rfl (Zaa (pv 0) (Zaa (pv 1) (Zaa (pv 4) Zac))))))) (Zad (ZaT (pv 4) Zae rfl)
   (Zaf (Zax (ZaN m_Frame_finish (hr.mono (by omega)) (pv 4) (Zaa (pv 5) (Zaa Zae Zac))))))))
   (Zad (Zcr (pv 2) (Zak (pv 4) rfl) Ziz)
   (Zad (Zax (Zel PySem.F.plainAttrs_list PySem.F.slot_list_append PySem.F.type_list_append ZbN (Zak (pv 2) rfl) (Zaa (ZbT m_Frame_tree (hr.mono (by omega)) (pv 4)) Zac)))
   (Zad (Zax (ZaN m_Frame_lay (hr.mono (by omega)) (pv 2) (Zaa (Zak (pv 4) rfl) Zac)))
   (Zaf (Zax (ZaN m_Frame_lay (hr.mono (by omega)) (pv 2) (Zaa (Zd6 (Zau Zco (Zak (pv 4) rfl) Zar (nomark _)) Zae Zae) Zac)))))))))),?_⟩
  walk_at "nx"
  obtain ⟨e0,he0⟩:∃ e0,y'.fin=some e0:=by
   rcases hC with ⟨e1,_,_,rfl,_⟩|⟨_,h⟩
   .exact ⟨e1,rfl⟩
   .exact (GoW.pre n _ _ _ _ _ h).2
  repeat walk_at "rw"
  refine ⟨fr,x,y,ws,p,wd,nn,s0,rfl,F,hp,hO,fun gf H1 ga gt gs k1 F1 G1=>?_⟩
  have nf:NewF H gf:=⟨ga,gt,gs⟩
  have k1':KeptX (inF3 fr) H H1:=k1.mono fun _ h=>.inr (.inl h)
  have W1:=W.frame F ap k1'
  have apg:=nf.ap W
  have d1:=ZeZ k1' fun b z=>Zd3 F1 z
  repeat walk_at "rw"
  refine ⟨R,Ar,_,_,gf,y,[],e,rfl,W1.r,G1,ha,?_⟩
  repeat walk_at "rw"
  refine Znc (fun σ' H'=>∃ vs v,Wd K cAccount cJournal cSave cMove cNote H' j dx R L Ar S0 m0 ds'/\FrAt cFrame H' fr { x with stack:=s0 } ws/\FrAt cFrame H' gf y' vs/\Stp K H H' st vs/\KeptX (goX Ar L fr) H H'/\σ'=[some (.ref R),some (.ref j),some (.ref fr.a),some (.ref p),some (.ref gf.a),v]) ?_ ?_
  .rcases hC with ⟨e1,rfl,rfl,rfl,rfl⟩|⟨rfl,hG⟩
   .rw [show endV (some e1)=V.str e1 from rfl]
    repeat walk_at "rw"
    refine ⟨rfl,?_⟩
    rw [decide_eq_false (show ¬ V.str e1=V.non by intro z;cases z)]
    repeat walk_at "rw"
    refine Zaw G1.ob tFrame.k.cl tFrame.n_given (by show 15<1000;decide) ?_
    have G2:=G1.setF { y with given:=0 } rfl
    have e2:putF "given" (.int 0) (fldF gf y)=fldF gf { y with given:=0 }:=rfl
    rw [e2]
    have k2:KeptX (inF3 gf) H1 (upd H1 gf.a (.ins cFrame gf.dx (fldF gf { y with given:=0 }))):=KeptX.upd (.inl rfl)
    generalize upd H1 gf.a _=H2 at G2 k2
    repeat walk_at "rw"
    refine Zam G2.ob rfl ?_
    repeat walk_at "rw"
    refine ⟨gf,_,[],e1,0,rfl,G2,fun H3 k3 G3=>?_⟩
    have k3':KeptX (inF3 gf) H1 H3:=k2.trans (k3.mono fun _ h=>.inl h)
    repeat walk_at "rw"
    exact ⟨[],_,W1.frame G1 apg k3',F.callee W ap nf F1 (Zdq k3'),G3,Stp.nil,Zhf k1' nf (Zdq k3'),rfl⟩
   .rw [show endV none=V.non from rfl]
    repeat walk_at "rw"
    refine Zah G1.ob tFrame.k.cl tFrame.n_given rfl ?_
    repeat walk_at "rw"
    refine Zam F1.ob rfl ?_
    refine ⟨fr,_,ws,rfl,F1,?_⟩
    generalize hgv:(if x.given-x.used<y.given then x.given-x.used else y.given)=gv at hG
    repeat walk_at "rw"
    try (refine Zkj ?_;repeat walk_at "rw")
    refine Zaw G1.ob tFrame.k.cl tFrame.n_given (by show 15<1000;decide) ?_
    have G2:=G1.setF { y with given:=gv } rfl
    have e2:putF "given" (.int (if x.given-x.used<y.given then x.given-x.used else y.given)) (fldF gf y)=fldF gf { y with given:=gv }:=by rw [hgv];rfl
    rw [e2]
    have k2:KeptX (inF3 gf) H1 (upd H1 gf.a (.ins cFrame gf.dx (fldF gf { y with given:=gv }))):=KeptX.upd (.inl rfl)
    generalize upd H1 gf.a _=H2 at G2 k2
    have W2:=W1.frame G1 apg k2
    have d2:∀ b,H2 b=none->H b=none:=fun b h=>d1 b (ZeZ k2 (fun b z=>Zd3 G2 z) b h)
    repeat walk_at "rw"
    refine ⟨j,dx,R,L,Ar,S0,m0,ds,gf,_,ds',y',st,rfl,W2,G2,apg,hG,fun vs H3 W3 G3 S3 k3=>?_⟩
    have k3':=(Zdq (A:=Ar) (L:=L) k2).trans k3
    repeat walk_at "rw"
    exact ⟨vs,_,W3,F.callee W ap nf F1 k3',G3,S3.base d2,Zhf k1' nf k3',rfl⟩
  rintro σ3 H3 ⟨vs,v,W3,F3,G3,S3,k3,rfl⟩
  have fl:∀ fs,fs=fldF gf y'->fs.lookup (Str.ofString "end")=some (V.str e0):=fun fs q=>by rw [q];show some (endV y'.fin)=_;rw [he0];rfl
  have d3:=ZeZ k3 fun b z=>Zfq W3 F3 z
  repeat walk_at "rw"
  refine Zdi F3.ob tFrame.k.cl tFrame.n_used rfl ?_
  repeat walk_at "rw"
  refine Zah G3.ob tFrame.k.cl tFrame.n_used rfl ?_
  repeat walk_at "rw"
  refine ⟨fr.dx,_,F3.ob,by show 15<1000;decide,?_⟩
  have F4:=F3.setF { x with stack:=s0,used:=x.used+y'.used } rfl
  have e4:putF "used" (.int (x.used+y'.used)) (fldF fr { x with stack:=s0 })=fldF fr { x with stack:=s0,used:=x.used+y'.used }:=rfl
  rw [e4]
  have k4:KeptX (inF3 fr) H3 (upd H3 fr.a (.ins cFrame fr.dx (fldF fr { x with stack:=s0,used:=x.used+y'.used }))):=KeptX.upd (.inl rfl)
  generalize upd H3 fr.a _=H4 at F4 k4
  have gk:∀ {Ha Hb:Hp} {xs:List V},FrAt cFrame Ha gf y' xs->KeptX (inF3 fr) Ha Hb->FrAt cFrame Hb gf y' xs:=fun q kq=>q.kept kq (fun z=>nf.not (Zd3 F z) (.inl rfl)) (fun z=>nf.not (Zd3 F z) (.inr (.inl rfl))) (fun z=>nf.not (Zd3 F z) (.inr (.inr rfl)))
  have G4:=gk G3 k4
  have W4:=W3.frame F3 ap k4
  have S4:=S3.kept k4 fun b z=>Zd3 F z
  have kk4:=k3.trans (Zdq k4)
  have d4:=ZeZ kk4 fun b z=>Zfq W4 F4 z
  repeat walk_at "rw"
  refine Zah F4.ob tFrame.k.cl tFrame.n_steps rfl ?_
  refine ⟨ZbW (Zas F4.ss),?_⟩
  repeat walk_at "rw"
  refine Zam G4.ob rfl ?_
  refine ⟨gf,y',vs,rfl,G4,fun q T H5 s5 hq hT h1 h2=>?_⟩
  have F5:=F4.same s5
  have G5:=G4.same s5
  have W5:=W4.same s5
  have S5:=(S4.same s5).tree (d4 _ hT) h1 (d4 _ hq) h2
  repeat walk_at "rw"
  refine ZbX F5.ss (Nat.lt_of_le_of_lt hw (by decide)) ?_
  have F6:=F5.setSS (ws++[.ref q])
  have k6:KeptX (inF3 fr) H5 (upd H5 fr.SS (.lst (ws++[.ref q]))):=KeptX.upd (.inr (.inr rfl))
  have G6:=gk G5 k6
  generalize upd H5 fr.SS _=H6 at F6 k6 G6
  repeat walk_at "rw"
  refine Zam F6.ob rfl ?_
  repeat walk_at "rw"
  refine Zah G6.ob tFrame.k.cl tFrame.n_answer rfl ?_
  repeat walk_at "rw"
  refine ⟨fr,_,_,_,rfl,F6,Nat.le_trans hs (by decide),fun H7 k7 F7=>?_⟩
  have k7':KeptX (inF3 fr) H5 H7:=k6.trans (k7.mono fun _ h=>.inr (.inl h))
  have G7:=gk G5 k7'
  have fin:∀ z H8,z=wellI y'.fin->KeptX (·=fr.ST) H7 H8->FrAt cFrame H8 fr { x with stack:=s0++[y'.answer]++[z],used:=x.used+y'.used } (ws++[.ref q])->Q .non H8:=fun z H8 ez k8 F8=>by
   have k8':=k7'.trans (k8.mono fun _ h=>.inr (.inl h))
   rw [List.append_assoc,ez] at F8
   exact kk [.ref q] H8 (W5.frame F5 ap k8') F8 (S5.kept k8' fun b z=>Zd3 F z) (kk4.trans (s5.keptX.trans (Zdq k8')))
  have hl7:(s0++[y'.answer]).length<=1000:=by rw [List.length_append];exact Nat.add_le_add hs (by show 1<=100;decide)
  repeat walk_at "rw"
  refine Zam F7.ob rfl ?_
  repeat walk_at "rw"
  refine Zah G7.ob tFrame.k.cl tFrame.n_end (fl _ rfl) ?_
  repeat' walk_at "rw"
  .rename_i hz
   refine ⟨fr,_,_,_,rfl,F7,hl7,fun H8 k8 F8=>?_⟩
   repeat walk_at "rw"
   exact fin 1 H8 (by unfold wellI;rw [he0,hz,if_pos rfl]) k8 F8
  .rename_i hz
   refine ⟨fr,_,_,_,rfl,F7,hl7,fun H8 k8 F8=>?_⟩
   repeat walk_at "rw"
   exact fin 0 H8 (by unfold wellI;rw [he0,if_neg (fun q=>hz (Option.some.inj q))]) k8 F8
end
section
variable {P:Program} {w:World} {K:PySem.W.Frag} {mg:Str->Option Value} {base:Heap}
theorem Zk3:FnScope ["rooms", "journal", "frame", "row"] ["rooms", "journal", "frame", "row"] (Zab Zd8):=⟨rfl,rfl,rfl,by decide +kernel,rfl,by decide +kernel,by decide +kernel⟩
theorem Zk4  {k n:Nat} {cAccount cJournal cSave cMove cNote:Addr} {aC:Addr} (tC3:TupK K aC ((["call", "borrow", "look"]:List Str).map V.str)) {cFrame:Addr} (D:Zao K mg "go_row" Zd8) (tFrame:T_Frame K mg cFrame) (c_row_price:Cal P w K mg base 3 "row_price" (ZcO K cAccount cFrame)) (c_call_row:Cal P w K mg base (k+9) "call_row" (Zhg K cAccount cJournal cSave cMove cNote cFrame n)) (c_do_row:Cal P w K mg base 6 "do_row" (Zim K cAccount cJournal cSave cMove cNote cFrame)) (g_CALLING:ZaW mg "CALLING" (.ref aC)):Cal P w K mg base (k+10) "go_row" (ZiV K cAccount cJournal cSave cMove cNote cFrame n):=by
 refine Zaz D Zk3 (fun vs H Q E h=>?_) (fun _ _ _ _ _ _ us hl=>bd4 (R:=fun us=>bindArgs _ ⟨us,[]⟩=pure (List.zip _ us)) (fun _ _ _ _=>rfl) us hl) (fun f cdv A outer s H vs Q E hr h=>?_)
 .obtain ⟨j,dx,R,L,A,S0,m0,ds,f,x,ws,p,w,nn,ds',x',ad,b1,b2,t,l,pr,d,rfl,_⟩:=h;rfl
 .obtain ⟨j,dx,R,L,Ar,S0,m0,ds,fr,x,ws,p,wd,nn,ds',x',ad,b1,b2,t,l,pr,d,rfl,W,F,ap,hp,hb1,hb2,hT,hD,hl,hw,hdl,kk⟩:=h
  refine ⟨_,(Zad (Zcr (pv 2) (ZaL c_row_price (hr.mono (by omega)) rfl (Zaa (pv 0) (Zaa (pv 2) (Zaa (pv 3) Zac)))) Ziz)
   (Zad (Zax (Zel PySem.F.plainAttrs_list PySem.F.slot_list_append PySem.F.type_list_append ZbN (Zak (pv 2) rfl) (Zaa (Zak (pv 2) rfl) Zac)))
   (Zad (Zcr (pv 2) Zae Ziz)
   (Zaf (Zbd (Zau Zek (Zav Za0 (pv 3) Zae (fun _ _=>rfl)) (ZbL rfl g_CALLING) rfl) (Zaf (Zax (ZaL c_call_row (hr.mono (by omega)) rfl (Zaa (pv 0) (Zaa (pv 1) (Zaa (pv 2) (Zaa (pv 3) Zac))))))) (Zaf (Zax (ZaL c_do_row (hr.mono (by omega)) rfl (Zaa (pv 0) (Zaa (pv 1) (Zaa (pv 2) (Zaa (pv 3) Zac)))))))))))),?_⟩
  walk_at "nx"
  repeat walk_at "rw"
  refine Zdi F.ob tFrame.k.cl tFrame.n_used rfl ?_
  repeat walk_at "rw"
  refine ⟨R,Ar,_,_,fr,x,ws,p,wd,nn,b1,b2,t,l,pr,d,rfl,W.r,F,hp,hb1,hb2,hT,?_⟩
  generalize (if (b1||b2)=true then d else pr)=c at hD |-
  repeat walk_at "rw"
  refine ⟨fr.dx,_,F.ob,by show 15<1000;decide,?_⟩
  have F1:=F.setF { x with used:=x.used+c } rfl
  have e1:putF "used" (.int (x.used+c)) (fldF fr x)=fldF fr { x with used:=x.used+c }:=rfl
  rw [e1]
  have k1:KeptX (inF3 fr) H (upd H fr.a (.ins cFrame fr.dx (fldF fr { x with used:=x.used+c }))):=KeptX.upd (.inl rfl)
  have hp1:ZbP K (upd H fr.a (.ins cFrame fr.dx (fldF fr { x with used:=x.used+c }))) p wd nn:=Zci hp F (KeptX.upd (.inl rfl))
  generalize upd H fr.a _=H1 at F1 k1 hp1
  repeat walk_at "rw"
  refine Zah F1.ob tFrame.k.cl tFrame.n_steps rfl ?_
  refine ⟨ZbW (Zas F1.ss),?_⟩
  repeat walk_at "rw"
  refine Zah F1.ob tFrame.k.cl tFrame.n_row rfl ?_
  repeat walk_at "rw"
  refine ZbX F1.ss (Nat.lt_of_le_of_lt hw (by decide)) ?_
  have F2:=F1.setSS (ws++[.int x.row])
  have k2:KeptX (inF3 fr) H (upd H1 fr.SS (.lst (ws++[.int x.row]))):=k1.trans (KeptX.upd (.inr (.inr rfl)))
  have hp2:ZbP K (upd H1 fr.SS (.lst (ws++[.int x.row]))) p wd nn:=(SameI.upd F1.ss Zbt).tup hp1
  generalize upd H1 fr.SS _=H2 at F2 k2 hp2
  repeat walk_at "rw"
  refine Zdi F2.ob tFrame.k.cl tFrame.n_row rfl ?_
  repeat walk_at "rw"
  refine ⟨fr.dx,_,F2.ob,by show 15<1000;decide,?_⟩
  have F3:=F2.setF (ZcC x c) rfl
  have e3:putF "row" (.int (x.row+1)) (fldF fr { x with used:=x.used+c })=fldF fr (ZcC x c):=rfl
  rw [e3]
  have k3:KeptX (inF3 fr) H (upd H2 fr.a (.ins cFrame fr.dx (fldF fr (ZcC x c)))):=k2.trans (KeptX.upd (.inl rfl))
  have hp3:ZbP K (upd H2 fr.a (.ins cFrame fr.dx (fldF fr (ZcC x c)))) p wd nn:=Zci hp2 F2 (KeptX.upd (.inl rfl))
  generalize upd H2 fr.a _=H3 at F3 k3 hp3
  have W3:=W.frame F ap k3
  have d3:=ZeZ k3 fun b z=>Zd3 F3 z
  obtain ⟨es,hes,J3⟩:=W3.J
  have pure:∀ H4,KeptX (inF3 fr) H3 H4->ds'=ds->ad=[]->FrAt cFrame H4 fr x' (ws++[.int x.row])->Q .non H4:=fun H4 k4 e1 e2 F4=>by
   subst e1 e2
   exact kk _ H4 (W3.frame F3 ap k4) F4 (Stp.int x.row) (Zdq (k3.trans k4))
  repeat walk_at "rw"
  refine Zkl (tC3.sqt H3) ?_
  cases hD with
  | pure hC hR hDx =>
   rw [hC]
   repeat walk_at "rw"
   refine ⟨.ref R,.ref j,fr.a,p,_,nn,_,rfl,hp3,.inl ⟨_,hR,rfl⟩,?_⟩
   exact ⟨.ref R,.ref j,fr,_,x',_,p,wd,nn,rfl,F3,hp3,hDx,hl,fun H4 k4 F4=>pure H4 (k_F3 k4) rfl rfl F4⟩
  | load ew hi hy e =>
   rw [show inS "load" ["call", "borrow", "look"]=false from rfl]
   repeat walk_at "rw"
   refine ⟨.ref R,.ref j,fr.a,p,_,nn,_,rfl,hp3,.inr (.inl ⟨rfl,rfl⟩),?_⟩
   exact ⟨R,L,.ref j,Ar,_,_,fr,_,_,.ref p,_,_,_,_,rfl,W3.r,F3,ap,ew,hi,hy,e,hl,fun H4 k4 F4=>pure H4 k4 rfl rfl F4⟩
  | coin e =>
   rw [show inS "coin" ["call", "borrow", "look"]=false from rfl]
   repeat walk_at "rw"
   refine ⟨.ref R,.ref j,fr.a,p,_,nn,_,rfl,hp3,.inr (.inr (.inl ⟨rfl,rfl⟩)),?_⟩
   exact ⟨R,L,.ref j,Ar,_,_,fr,_,_,.ref p,_,_,rfl,W3.r,F3,ap,e,hl,fun H4 k4 F4=>pure H4 k4 rfl rfl F4⟩
  | save ew hi hy e =>
   rename_i s0 pl v i yy
   rw [show inS "save" ["call", "borrow", "look"]=false from rfl]
   repeat walk_at "rw"
   refine ⟨.ref R,.ref j,fr.a,p,_,nn,_,rfl,hp3,.inr (.inr (.inr (.inl ⟨rfl,rfl⟩))),?_⟩
   refine ⟨j,dx,R,L,Ar,_,_,es,fr,_,_,.ref p,i,yy,s0,pl,v,rfl,J3,W3.r,by have:=W.b;omega,by rw [<- hes,List.length_map] at hdl;omega,F3,ap,by rw [List.length_append];show ws.length+1<=_;omega,ew,hi,hy,e,fun t e H4 he ht k4 r4 J4 F4 et=>?_⟩
   have W4:=W3.wrote hes (e:=e) (by rw [he];exact r4) J4 (by rw [he];show (runS S0 ds (i:Int).toNat).store pl=_;rw [Int.toNat_natCast])
   rw [he] at W4
   rw [List.append_assoc] at F4
   exact kk _ H4 W4 F4 ((Stp.int x.row).app (Stp.tell (d3 _ ht) et)) ((Zdq k3).trans k4)
  | note e =>
   rename_i s0 v
   rw [show inS "note" ["call", "borrow", "look"]=false from rfl]
   repeat walk_at "rw"
   refine ⟨.ref R,.ref j,fr.a,p,_,nn,_,rfl,hp3,.inr (.inr (.inr (.inr ⟨rfl,rfl⟩))),?_⟩
   refine ⟨j,dx,R,L,Ar,_,_,es,fr,_,_,.ref p,s0,v,rfl,J3,W3.r,by have:=W.b;omega,by rw [<- hes,List.length_map] at hdl;omega,F3,ap,by rw [List.length_append];show ws.length+1<=_;omega,e,fun t e H4 he ht k4 r4 J4 F4 et=>?_⟩
   have W4:=W3.wrote hes (e:=e) (by rw [he];exact r4) J4 (by rw [he];trivial)
   rw [he] at W4
   rw [List.append_assoc] at F4
   exact kk _ H4 W4 F4 ((Stp.int x.row).app (Stp.tell (d3 _ ht) et)) ((Zdq k3).trans k4)
  | call hC hX =>
   rw [hC]
   repeat walk_at "rw"
   refine ⟨j,dx,R,L,Ar,S0,m0,ds,fr,_,_,p,wd,nn,ds',x',_,rfl,W3,F3,ap,hp3,hX,by rw [List.length_append];show ws.length+1<=_;omega,fun vs H4 W4 F4 S4 k4=>?_⟩
   repeat walk_at "rw"
   rw [List.append_assoc] at F4
   exact kk _ H4 W4 F4 ((Stp.int x.row).app (S4.base d3)) ((Zdq k3).trans k4)
end
section
variable {P:Program} {w:World} {K:PySem.W.Frag} {mg:Str->Option Value} {base:Heap}
theorem Zec:FnScope ["rooms", "journal", "frame", "program", "row", "end"] ["rooms", "journal", "frame"] (Zab ZfJ):=⟨rfl,rfl,rfl,by decide +kernel,rfl,by decide +kernel,by decide +kernel⟩
theorem Zmq  {k n:Nat} {cJournal cSave cMove cNote:Addr} {cAccount:Addr} {cFrame:Addr} (D:Zao K mg "go_on" ZfJ) (tAccount:T_Account K mg cAccount) (tFrame:T_Frame K mg cFrame) (m_Frame_finish:MCal P w K mg base 1 cFrame "finish" (ZcN cFrame)) (c_end_ahead_of:Cal P w K mg base 4 "end_ahead_of" (Zig K cAccount cFrame)) (c_go_row:Cal P w K mg base (k+10) "go_row" (ZiV K cAccount cJournal cSave cMove cNote cFrame n)) (n_len:mg "len" = none):Cal P w K mg base (k+11) "go_on" (Zk2 K cAccount cJournal cSave cMove cNote cFrame n):=by
 refine Zaz D Zec (fun vs H Q E h=>?_) (fun _ _ _ _ _ _ us hl=>bd3 (R:=fun us=>bindArgs _ ⟨us,[]⟩=pure (List.zip _ us)) (fun _ _ _=>rfl) us hl) (fun f cdv A outer s H vs Q E hr h=>?_)
 .obtain ⟨j,dx,R,L,A,S0,m0,ds,f,x,ws,ds',x',add,i,y,rfl,_⟩:=h;rfl
 .obtain ⟨j,dx,R,L,Ar,S0,m0,ds,fr,x,ws,ds',x',add,iw,y,rfl,W,F,ap,ew,hi,hy,ho,hl,hw,hdl,kk⟩:=h
  refine ⟨_,(Zad (ZaF (i:=3) Zec.nd rfl (by first|exact Or.inl rfl|exact Or.inr rfl) (Zak (Zav Zaq (pv 0) (Zak (pv 2) rfl) (fun _ _=>rfl)) rfl))
   (Zad (Zbd (Zau Znq (Zak (pv 2) rfl) (ZaM ZbO rfl n_len PySem.boot_len (Zaa (pv 3) Zac)) (nomark _)) (Zad (Zax (ZaN m_Frame_finish (hr.mono (by omega)) (pv 2) (Zaa Zar (Zaa Zae Zac))))
   (Zaf Znp)) ZaJ)
   (Zad (ZaF (i:=4) Zec.nd rfl (by first|exact Or.inl rfl|exact Or.inr rfl) (Zav Zaq (pv 3) (Zak (pv 2) rfl) (fun _ _=>rfl)))
   (Zad (ZaF (i:=5) Zec.nd rfl (by first|exact Or.inl rfl|exact Or.inr rfl) (ZaL c_end_ahead_of (hr.mono (by omega)) rfl (Zaa (pv 0) (Zaa (pv 2) (Zaa (pv 4) Zac)))))
   (Zaf (Zbd (Zau Zes (pv 5) Zcp (nomark _)) (Zaf (Zax (ZaL c_go_row (hr.mono (by omega)) rfl (Zaa (pv 0) (Zaa (pv 1) (Zaa (pv 2) (Zaa (pv 4) Zac))))))) (Zaf (Zax (ZaN m_Frame_finish (hr.mono (by omega)) (pv 2) (Zaa (pv 5) (Zaa Zae Zac))))))))))),?_⟩
  walk_at "nx"
  have ay:=W.r.ac iw y hi hy
  obtain ⟨xs,hx1,hx2⟩:=ay.pg
  rw [ZiU] at hx2
  have hlen:=hx2.1
  repeat walk_at "rw"
  refine Zah F.ob tFrame.k.cl tFrame.n_whose rfl ?_
  rw [ew]
  refine ZaH (Zas W.r.ob) (W.r.at hi hy) ?_
  refine Zah ay.ob tAccount.k.cl tAccount.n_program rfl ?_
  repeat walk_at "rw"
  refine Zah F.ob tFrame.k.cl tFrame.n_row rfl ?_
  rcases ho with ⟨h1,rfl,rfl,rfl⟩|⟨i,wd,nn,er,hrow,ho⟩
  .repeat walk_at "rz"
   refine Zam F.ob rfl ?_
   repeat walk_at "rw"
   refine ⟨fr,x,ws, "well", 0,rfl,F,fun H1 k1 F1=>?_⟩
   repeat walk_at "rw"
   have k1':KeptX (inF3 fr) H H1:=k1.mono fun _ h=>.inl h
   exact kk [] H1 (W.frame F ap k1') (by rw [List.append_nil];exact F1) Stp.nil (Zdq k1')
  .have hil:i<(S0 iw).rows.length:=(List.getElem?_eq_some_iff.mp hrow).1
   obtain ⟨pt,ep,hpt⟩:=hx2.2 i _ _ hrow (List.getElem?_eq_getElem (by rw [<- hlen];exact hil))
   have exi:atI xs x.row=some (.ref pt):=ZcI (i:=i) (by rw [List.getElem?_eq_getElem (by rw [<- hlen];exact hil),ep]) er
   have hp:ZbP K H pt wd nn:=hpt
   repeat walk_at "rz"
   refine Zah F.ob tFrame.k.cl tFrame.n_row rfl ?_
   refine ZaH (Zas hx1) exi ?_
   repeat walk_at "rw"
   rcases ho with ⟨e,ha,rfl,rfl,rfl⟩|⟨ha,b1,b2,t,l,pr,d,ad,hb1,hb2,hT,hD,rfl⟩
   .refine ⟨R,Ar,_,_,fr,x,ws,pt,wd,nn,some e,rfl,W.r,F,hp,ha,fun H1 s1=>?_⟩
    have F1:=F.same s1
    rw [show endV (some e)=V.str e from rfl]
    repeat walk_at "rw"
    refine ⟨rfl,?_⟩
    rw [decide_eq_false (show ¬ V.str e=V.non by intro z;cases z)]
    repeat walk_at "rw"
    refine Zam F1.ob rfl ?_
    repeat walk_at "rw"
    refine ⟨fr,x,ws,e,0,rfl,F1,fun H2 k2 F2=>?_⟩
    repeat walk_at "rw"
    have k2':KeptX (inF3 fr) H1 H2:=k2.mono fun _ h=>.inl h
    exact kk [] H2 ((W.same s1).frame F1 ap k2') (by rw [List.append_nil];exact F2) Stp.nil (s1.keptX.trans (Zdq k2'))
   .refine ⟨R,Ar,_,_,fr,x,ws,pt,wd,nn,none,rfl,W.r,F,hp,ha,fun H1 s1=>?_⟩
    have F1:=F.same s1
    have hp1:ZbP K H1 pt wd nn:=s1.tup hp
    rw [show endV none=V.non from rfl]
    repeat walk_at "rw"
    refine ⟨j,dx,R,L,Ar,S0,m0,ds,fr,x,ws,pt,wd,nn,ds',x',ad,b1,b2,t,l,pr,d,rfl,W.same s1,F1,ap,hp1,hb1,hb2,hT,hD,hl,hw,hdl,fun vs H2 W2 F2 S2 k2=>?_⟩
    repeat walk_at "rw"
    exact kk vs H2 W2 F2 (S2.base fun b h=>s1.fresh h) (s1.keptX.trans k2)
end
section
variable {P:Program} {w:World} {K:PySem.W.Frag} {mg:Str->Option Value} {base:Heap}
theorem Zoc:FnScope ["rooms", "journal", "frame", "mark"] ["rooms", "journal", "frame"] (Zab s_go):=⟨rfl,rfl,rfl,by decide +kernel,rfl,by decide +kernel,by decide +kernel⟩
theorem Zod  {k n:Nat} {cAccount cSave cNote:Addr} {cJournal:Addr} {cFrame:Addr} {cMove:Addr} (D:Zao K mg "go" s_go) (tJournal:T_Journal K mg cJournal) (tFrame:T_Frame K mg cFrame) (tMove:T_Move K mg cMove) (m_Journal_mark:MCal P w K mg base 1 cJournal "mark" (spMark cJournal)) (i_Move:ICal P w K mg base 1 "Move" cMove (ZfQ cMove)) (m_Journal_back:MCal P w K mg base 3 cJournal "back" (spBack K cAccount cJournal cSave cMove cNote)) (c_write_step:Cal P w K mg base 4 "write_step" (Zb3 K cAccount cJournal cSave cMove cNote cFrame)) (c_go_on:Cal P w K mg base (k+11) "go_on" (Zk2 K cAccount cJournal cSave cMove cNote cFrame n)):Cal P w K mg base (k+12) "go" (spGoW K cAccount cJournal cSave cMove cNote cFrame (n+1)):=by
 refine Zaz D Zoc (fun vs H Q E h=>?_) (fun _ _ _ _ _ _ us hl=>bd3 (R:=fun us=>bindArgs _ ⟨us,[]⟩=pure (List.zip _ us)) (fun _ _ _=>rfl) us hl) (fun f cdv A outer s H vs Q E hr h=>?_)
 .obtain ⟨j,dx,R,L,A,S0,m0,ds,f,x,ds',y,st,rfl,_⟩:=h;rfl
 .obtain ⟨j,dx,R,L,Ar,S0,m0,ds,fr,x,ds',y,st,rfl,W,F,ap,⟨iw,ac,kt,ds1,st1,hfin,ew,hi,hac,hfit,hrun,hkt,hd1,rfl,rfl⟩,kk⟩:=h
  refine ⟨_,(Zad (ZaF (i:=3) Zoc.nd rfl (by first|exact Or.inl rfl|exact Or.inr rfl) (ZbT m_Journal_mark (hr.mono (by omega)) (pv 1)))
   (Zad (Znd (Zbd (PW.pt (ZmY (Zau Zco (Zak (pv 2) rfl) Zar (nomark _)) (ZjI (Zau Zhx (Zak (pv 2) rfl) Zae (nomark _))))) (Zaf (Zax (ZaL c_write_step (hr.mono (by omega)) rfl (Zaa (pv 1) (Zaa (pv 2) (Zaa (Zdt i_Move (hr.mono (by omega)) rfl (Zaa (Zak (pv 2) rfl) (Zaa (Zak (pv 2) rfl) (Zaa (Zak (pv 2) rfl) Zac)))) Zac)))))) ZaJ))
   (Zad (Zix PassesOwn.never (Zau Zes (Zak (pv 2) rfl) Zcp (nomark _))
   (Zaf (Zax (ZaL c_go_on (hr.mono (by omega)) rfl (Zaa (pv 0) (Zaa (pv 1) (Zaa (pv 2) Zac)))))))
   (Zaf (Zbd (Zau Zhw (Zak (pv 2) rfl) Zar (nomark _)) (Zaf (Zax (ZaN m_Journal_back (hr.mono (by omega)) (pv 1) (Zaa (pv 3) Zac)))) ZaJ))))),?_⟩
  walk_at "nx"
  obtain ⟨es,hes,J⟩:=W.J
  have hpr:=(hrun.pre (GoW.pre n)).1
  have hdl:ds.length<=100000:=Nat.le_trans (((List.prefix_append _ _).trans hpr).length_le) hd1
  have hel:es.length=ds.length:=by rw [<- hes,List.length_map]
  have hb:=W.b
  repeat walk_at "rw"
  refine Zam J.ob rfl ?_
  repeat walk_at "rw"
  refine ⟨j,dx,R,L,_,rfl,J.ob,J.li,?_⟩
  rw [List.length_map]
  repeat walk_at "rw"
  refine Znc (fun σ' H'=>∃ pre,Wd K cAccount cJournal cSave cMove cNote H' j dx R L Ar S0 m0 (ds++(mvD x).toList)/\FrAt cFrame H' fr x pre/\Stp K H H' ((mvD x).toList.map tellD) pre/\KeptX (goX Ar L fr) H H'/\σ'=[some (.ref R),some (.ref j),some (.ref fr.a),some (.int (es.length:Nat))]) ?_ ?_
  .have nomv:mvD x=none->(∃ pre,Wd K cAccount cJournal cSave cMove cNote H j dx R L Ar S0 m0 (ds++(mvD x).toList)/\FrAt cFrame H fr x pre/\Stp K H H ((mvD x).toList.map tellD) pre/\KeptX (goX Ar L fr) H H/\[some (V.ref R),some (V.ref j),some (V.ref fr.a),some (V.int (es.length:Nat))]=[some (.ref R),some (.ref j),some (.ref fr.a),some (.int (es.length:Nat))]):=fun e=>by
    rw [e]
    exact ⟨[],by rw [show (none:Option Dd).toList=[] from rfl,List.append_nil];exact W,F,Stp.nil,KeptX.refl,rfl⟩
   repeat walk_at "rw"
   refine Zah F.ob tFrame.k.cl tFrame.n_kind rfl ?_
   repeat' walk_at "rw"
   .rename_i hk
    refine Zah F.ob tFrame.k.cl tFrame.n_coin rfl ?_
    repeat' walk_at "rw"
    .rename_i hc
     have hmv:mvD x=some (.move x.caller x.who x.coin):=by unfold mvD;rw [if_pos ⟨hk,hc⟩]
     refine Zah F.ob tFrame.k.cl tFrame.n_caller rfl ?_
     repeat walk_at "rw"
     refine Zah F.ob tFrame.k.cl tFrame.n_who rfl ?_
     repeat walk_at "rw"
     refine Zah F.ob tFrame.k.cl tFrame.n_coin rfl ?_
     repeat walk_at "rw"
     intro o odx hx hdx hne
     have hx2:(upd H odx (.own o)) o=none:=by rw [Zai (Ne.symm hne)];exact hx
     refine ⟨o,odx,x.caller,x.who,x.coin,rfl,Zag,rfl,?_⟩
     rw [ZaV]
     have s1:Same H (upd (upd H odx (.own o)) o (.ins cMove odx (moveF x.caller x.who x.coin))):=(Same.new hdx).newT hx2
     have eo:(upd (upd H odx (.own o)) o (.ins cMove odx (moveF x.caller x.who x.coin))) o=some (.ins cMove odx (moveF x.caller x.who x.coin)):=Zag
     have J1:=J.same s1
     have W1:=W.same s1
     have F1:=F.same s1
     generalize upd (upd H odx (.own o)) o (.ins cMove odx (moveF x.caller x.who x.coin))=H1 at s1 eo J1 W1 F1
     repeat walk_at "rw"
     refine ⟨j,dx,R,L,Ar,_,_,es,⟨o,odx,.move x.caller x.who x.coin⟩,fr,x,[],rfl,J1,W1.r,eo,hfit _ hmv,by omega,by omega,F1,ap,Nat.zero_le _,fun t H2 ht k2 r2 J2 F2 et=>?_⟩
     repeat walk_at "rw"
     rw [hmv]
     exact ⟨[.ref t],W1.wrote hes r2 J2 trivial,F2,Stp.tell (s1.fresh ht) et,s1.keptX.trans k2,rfl⟩
    .rename_i hc
     exact nomv (by unfold mvD;rw [if_neg (fun z=>hc z.2)])
   .rename_i hk
    exact nomv (by unfold mvD;rw [if_neg (fun z=>hk z.1)])
  rintro σ1 H1 ⟨pre,W1,F1,S1,k1,rfl⟩
  have hpl:pre.length<=1:=by
   have:=DVs.length S1
   rw [List.length_map] at this
   cases e:mvD x with
   | none=>rw [e] at this;rw [<- this];exact Nat.zero_le _
   | some d=>rw [e] at this;rw [<- this];exact Nat.le_refl _
  generalize (mvD x).toList.map tellD=st0 at S1 kk
  repeat walk_at "rw"
  refine ⟨fun nn σ' H'=>∃ dx1 xx wz sa sb,RunW Ar S0 (GoW Ar S0 n) (S0 iw).rows nn dx1 xx ds1 y sb/\ds <+: dx1/\sa++sb=st0++st1/\Stp K H H' sa wz/\xx.whose=(iw:Int)/\2*nn+wz.length<=80001/\Wd K cAccount cJournal cSave cMove cNote H' j dx R L Ar S0 m0 dx1/\FrAt cFrame H' fr xx wz/\KeptX (goX Ar L fr) H H'/\σ'=[some (.ref R),some (.ref j),some (.ref fr.a),some (.int (es.length:Nat))],⟨kt,_,x,pre,st0,st1,hrun,List.prefix_append _ _,rfl,S1,ew,by omega,W1,F1,k1,rfl⟩,?_⟩
  rintro nn σ' H2 ⟨dx1,xx,wz,sa,sb,hrun2,hp2,esb,S2,ew2,hl2,W2,F2,k2,rfl⟩
  have hob:=F2.ob
  cases hrun2 with
  | done hf =>
   obtain ⟨ee,hee⟩:∃ e,y.fin=some e:=by
    cases e:y.fin with
    | none=>exact absurd e hf
    | some e'=>exact ⟨e',rfl⟩
   rw [List.append_nil] at esb
   subst esb
   have fl:(fldF fr y).lookup (Str.ofString "end")=some (V.str ee):=by show some (endV y.fin)=_;rw [hee];rfl
   repeat walk_at "rw"
   refine Zah F2.ob tFrame.k.cl tFrame.n_end fl ?_
   repeat walk_at "rw"
   refine ⟨rfl,?_⟩
   rw [decide_eq_false (show ¬ V.str ee=V.non by intro z;cases z)]
   repeat walk_at "rw"
   refine Zah F2.ob tFrame.k.cl tFrame.n_end fl ?_
   repeat' walk_at "rw"
   .rename_i hne
    have hw:¬ y.fin=some ("well" : Str):=by rw [hee];intro z;exact hne (Option.some.inj z)
    rw [if_neg hw] at kk
    obtain ⟨es2,hes2,J2⟩:=W2.J
    have hel2:es2.length=ds1.length:=by rw [<- hes2,List.length_map]
    refine Zam J2.ob rfl ?_
    repeat walk_at "rw"
    have r2:=W2.r
    have ri2:=W2.ri
    rw [<- hes2] at r2 ri2
    refine ⟨j,dx,R,L,Ar,S0,_,es2,(es.length:Nat),rfl,J2,r2,ri2,by rw [List.length_map];omega,fun H3 k3 r3 ri3 J3=>?_⟩
    have etk:(es2.take es.length).map (·.d)=ds:=by rw [List.map_take,hes2,hel];exact (List.prefix_iff_eq_take.mp hp2).symm
    rw [Int.toNat_natCast] at r3 ri3 J3
    rw [etk] at r3 ri3
    repeat walk_at "rw"
    have F3:=F2.out W2.r ap J2.li k3
    exact kk wz H3 ⟨⟨_,etk,J3⟩,r3.tight2 W.ti,ri3,W.ti,W.b⟩ F3 (S2.kept (ZkU (f:=fr) k3) fun b z=>Zfq W F z) (k2.trans (ZkU k3))
   .rename_i he
    subst he
    rw [if_pos hee] at kk
    exact kk wz H2 W2 F2 S2 k2
  | step hf o hl e q =>
   rename_i n1 dsn x' add sn
   have fl:(fldF fr xx).lookup (Str.ofString "end")=some V.non:=by show some (endV xx.fin)=_;rw [hf];rfl
   have op:=o.pre (GoW.pre n)
   have hdn:dx1.length<=100000:=Nat.le_trans ((op.1.trans (q.pre (GoW.pre n)).1).length_le) hd1
   repeat walk_at "rw"
   refine Zah F2.ob tFrame.k.cl tFrame.n_end fl ?_
   repeat walk_at "rw"
   refine ⟨fun σ' H'=>∃ m',m'<n1+1/\_,fun _ _ h=>h,?_⟩
   repeat walk_at "rw"
   refine ⟨j,dx,R,L,Ar,S0,m0,dx1,fr,xx,wz,dsn,x',add,iw,ac,rfl,W2,F2,ap,ew2,hi,hac,o,hl,by omega,hdn,fun vs H3 W3 F3 S3 k3=>?_⟩
   have d2:=ZeZ k2 fun b z=>Zfq W2 F2 z
   have ln:=DVs.length S3
   have ol:=op.2
   repeat walk_at "rw"
   exact ⟨n1,Nat.lt_succ_self _,dsn,x',wz++vs,sa++add,sn,q,hp2.trans op.1,by rw [List.append_assoc];exact esb,(S2.kept k3 fun b z=>Zfq W F z).app (S3.base d2),by rw [e];exact ew2,by rw [List.length_append];omega,W3,F3,k2.trans k3,rfl⟩
theorem go_no {cAccount cJournal cSave cMove cNote cFrame:Addr} (D:Zao K mg "go" s_go):Cal P w K mg base 8 "go" (spGoW K cAccount cJournal cSave cMove cNote cFrame 0) :=
 Zaz D Zoc (fun vs H Q E h=>by obtain ⟨j,dx,R,L,A,S0,m0,ds,f,x,ds',y,st,rfl,_⟩:=h;rfl) (fun _ _ _ _ _ _ us hl=>bd3 (R:=fun us=>bindArgs _ ⟨us,[]⟩=pure (List.zip _ us)) (fun _ _ _=>rfl) us hl) (fun _ _ _ _ _ _ _ _ _ _ h=>by obtain ⟨_,_,_,_,_,_,_,_,_,_,_,_,_,_,_,_,_,h,_⟩:=h;exact h.elim)
theorem Zni {cAccount cJournal cSave cMove cNote cFrame aC:Addr} (tC3:TupK K aC ((["call", "borrow", "look"]:List Str).map V.str)) (D_call_row:Zao K mg "call_row" ZcM) (tFrame:T_Frame K mg cFrame) (m_Frame_left:MCal P w K mg base 1 cFrame "left" (spLeft cFrame)) (m_Frame_finish:MCal P w K mg base 1 cFrame "finish" (ZcN cFrame)) (m_Frame_tree:MCal P w K mg base 1 cFrame "tree" (spTree cFrame)) (m_Frame_lay:MCal P w K mg base 1 cFrame "lay" (spLay cFrame)) (c_other_call:Cal P w K mg base 3 "other_call" (Zil K cFrame)) (c_end_ahead_of_call:Cal P w K mg base 2 "end_ahead_of_call" (Zf6 K cAccount cFrame)) (n_min:mg "min" = none) (D_go_row:Zao K mg "go_row" Zd8) (c_row_price:Cal P w K mg base 3 "row_price" (ZcO K cAccount cFrame)) (c_do_row:Cal P w K mg base 6 "do_row" (Zim K cAccount cJournal cSave cMove cNote cFrame)) (g_CALLING:ZaW mg "CALLING" (.ref aC)) (D_go_on:Zao K mg "go_on" ZfJ) (tAccount:T_Account K mg cAccount) (c_end_ahead_of:Cal P w K mg base 4 "end_ahead_of" (Zig K cAccount cFrame)) (n_len:mg "len" = none) (D_go:Zao K mg "go" s_go) (tJournal:T_Journal K mg cJournal) (tMove:T_Move K mg cMove) (m_Journal_mark:MCal P w K mg base 1 cJournal "mark" (spMark cJournal)) (i_Move:ICal P w K mg base 1 "Move" cMove (ZfQ cMove)) (m_Journal_back:MCal P w K mg base 3 cJournal "back" (spBack K cAccount cJournal cSave cMove cNote)) (c_write_step:Cal P w K mg base 4 "write_step" (Zb3 K cAccount cJournal cSave cMove cNote cFrame)):∀ n,Cal P w K mg base (4*n+8) "go" (spGoW K cAccount cJournal cSave cMove cNote cFrame n)
 | 0=>go_no D_go
 | n+1 =>
  have c:=Zni tC3 D_call_row tFrame m_Frame_left m_Frame_finish m_Frame_tree m_Frame_lay c_other_call c_end_ahead_of_call n_min D_go_row c_row_price c_do_row g_CALLING D_go_on tAccount c_end_ahead_of n_len D_go tJournal tMove m_Journal_mark i_Move m_Journal_back c_write_step n
  have c1:=Zin (k:=4*n) (n:=n) D_call_row tFrame m_Frame_left m_Frame_finish m_Frame_tree m_Frame_lay c_other_call c_end_ahead_of_call (c) n_min
  have c2:=Zk4 (k:=4*n) (n:=n) tC3 D_go_row tFrame c_row_price (c1) c_do_row g_CALLING
  have c3:=Zmq (k:=4*n) (n:=n) D_go_on tAccount tFrame m_Frame_finish c_end_ahead_of (c2) n_len
  Zod (k:=4*n) (n:=n) D_go tJournal tFrame tMove m_Journal_mark i_Move m_Journal_back c_write_step (c3)
end
noncomputable def ZiW (K:PySem.W.Frag) (C cJ cS cM cN:Addr):Sp:=fun vs H Q _=>∃ (j dx R L:Addr) (A:Nat->Option AcI) (S0:Nat->AcS) (m0:Nat) (ds:List Dd) (caller who coin word given:Int) (ds':List Dd) (y:FrS) (st:List Dt),vs=[.ref R,.ref j,.int caller,.int who,.int coin,.int word,.int given]/\Wd K C cJ cS cM cN H j dx R L A S0 m0 ds/\GoW A S0 10 ds (frame0 "call" who who caller coin word given 1 false) ds' y st /\
 ∀ p H',Wd K C cJ cS cM cN H' j dx R L A S0 m0 ds'->Stp K H H' [treeD y st] [.ref p]->KeptX (fun b=>¬ Out A b\/b=L) H H'->Q (.ref p) H'
section
variable {P:Program} {w:World} {K:PySem.W.Frag} {mg:Str->Option Value} {base:Heap}
theorem ZiX:FnScope ["rooms", "journal", "caller", "who", "coin", "word", "given", "frame"] ["rooms", "journal", "caller", "who", "coin", "word", "given"] (Zab ZhQ):=⟨rfl,rfl,rfl,by decide +kernel,rfl,by decide +kernel,by decide +kernel⟩
theorem Zmr   {cFrame:Addr} (D:Zao K mg "enter" ZhQ) (tFrame:T_Frame K mg cFrame) (m_Frame_tree:MCal P w K mg base 1 cFrame "tree" (spTree cFrame)) (c_go:Cal P w K mg base 48 "go" (spGoW K cAccount cJournal cSave cMove cNote cFrame 10)) (iD7_Frame:ZhL P w K mg base 1 "Frame" cFrame (ZeK cFrame) [.int 1,.bl false]):Cal P w K mg base 49 "enter" (ZiW K cAccount cJournal cSave cMove cNote):=by
 refine Zaz D ZiX (fun vs H Q E h=>?_) (fun _ _ _ _ _ _ us hl=>bd7 (R:=fun us=>bindArgs _ ⟨us,[]⟩=pure (List.zip _ us)) (fun _ _ _ _ _ _ _=>rfl) us hl) (fun f cdv A outer s H vs Q E hr h=>?_)
 .obtain ⟨j,dx,R,L,A,S0,m0,ds,caller,who,coin,word,given,ds',y,st,rfl,_⟩:=h;rfl
 .obtain ⟨j,dx,R,L,Ar,S0,m0,ds,caller,who,coin,word,given,ds',y,st,rfl,W,hG,k⟩:=h
  refine ⟨_,(Zad (ZaF (i:=7) ZiX.nd rfl (by first|exact Or.inl rfl|exact Or.inr rfl) (Zd7 iD7_Frame (hr.mono (by decide)) rfl (Zaa Zar (Zaa (pv 3) (Zaa (pv 3) (Zaa (pv 2) (Zaa (pv 4) (Zaa (pv 5) (Zaa (pv 6) Zac)))))))))
   (Zad (Zax (ZaL c_go (hr.mono (by decide)) rfl (Zaa (pv 0) (Zaa (pv 1) (Zaa (pv 7) Zac)))))
   (Zaf (Zap (ZbT m_Frame_tree (hr.mono (by decide)) (pv 7)))))),?_⟩
  walk_at "nx"
  repeat walk_at "rw"
  refine Zmf ?_
  repeat walk_at "rw"
  intro a adx ha hadx hne
  have ha2:(upd H adx (.own a)) a=none:=by rw [Zai (Ne.symm hne)];exact ha
  have s1:Same H (upd (upd H adx (.own a)) a (.ins cFrame adx [])):=(Same.new hadx).newT ha2
  refine ⟨a,adx, "call", who,who,caller,coin,word,given,1,false,rfl,Zag,fun ST SS H1 hST hSS F1 k1=>?_⟩
  have nf:NewF H ⟨a,adx,ST,SS⟩:=⟨ha,s1.fresh hST,s1.fresh hSS⟩
  have sa:Same H H1:=fun b o e=>k1 b o (s1 b o e) (Zaj e ha)
  have W1:=W.same sa
  refine ⟨rfl,?_⟩
  repeat walk_at "rw"
  refine ⟨j,dx,R,L,Ar,S0,m0,ds,⟨a,adx,ST,SS⟩,_,ds',y,st,rfl,W1,F1,nf.ap W,hG,fun vs H2 W2 F2 S2 k2=>?_⟩
  rw [List.nil_append] at F2
  have d2:∀ b,H2 b=none->H b=none:=fun b h=>sa.fresh (ZeZ k2 (fun b z=>Zfq W2 F2 z) b h)
  have kX:KeptX (fun b=>¬ Out Ar b\/b=L) H H2:=fun b o e nb=>k2 b o (sa b o e) fun z=>by
   rcases z with z|z|z
   .exact nb (.inl z)
   .exact nb (.inr z)
   .exact nf.not (by rw [e];intro q;cases q) z
  repeat walk_at "rw"
  refine Zam F2.ob rfl ?_
  refine ⟨⟨a,adx,ST,SS⟩,y,_,rfl,F2,fun p T H3 s3 hp hT e1 e2=>?_⟩
  exact k p H3 (W2.same s3) (((S2.base fun b h=>sa.fresh h).same s3).tree (d2 _ hT) e1 (d2 _ hp) e2) (kX.trans s3.keptX)
end
noncomputable def atS (x:FrS) (st:List Int) (row used:Int):FrS:={ x with stack:=st,row:=row,used:=used }
noncomputable def endS (x:FrS) (st:List Int) (row used:Int) (e:Str) (a:Int):FrS:={ x with stack:=st,row:=row,used:=used,fin:=some e,answer:=a }
section
variable {A:Nat->Option AcI} {S0:Nat->AcS} {G:GR} {rows:List Row} {n i i':Nat} {ds ds' ds1 ds2:List Dd} {x x' y:FrS} {s:List Dt} {st st':List Int} {w:Str} {nn:Option Int} {u u' r t l c:Int}
theorem st_do {ad:List Dt} {pr d:Int} {b1 b2:Bool} (hf:x.fin=none) (hw:rows[i]?=some (w,nn)) (e1:ZbJ w nn=some r) (e2:RT.lookup w=some (t,l,pr,d)) (h1:t+r<=(st.length:Int)) (h2:(st.length:Int)-t+l<=24) (hl:st.length<=24)
  (hb1:Zb2 (atS x st i u) w b1) (hb2:fillsR A (runS S0 ds) (atS x st i u) w b2) (hb:barB (atS x st i u) w b1=false) (hc:(if (b1||b2)=true then d else pr)=c) (hu:u+c=u') (hg:u'<=x.given) (hD:DoW A S0 G w nn ds (atS x st ((i:Int)+1) u') ds' x' ad) (hx:x'.whose=x.whose) (q:RunW A S0 G rows n ds' x' ds2 y s) :
  RunW A S0 G rows (n+1) ds (atS x st i u) ds2 y (.int (i:Int)::(ad++s)):=by
 refine RunW.step (add:=.int (i:Int)::ad) hf (.inr ⟨i,w,nn,rfl,hw,.inr ⟨⟨r,t,l,pr,d,e1,e2,.inr (.inr ⟨?_,?_,b1,b2,hb1,hb2,.inr (.inr ⟨hb,?_,rfl⟩)⟩)⟩,b1,b2,t,l,pr,d,ad,hb1,hb2,e2,?_,rfl⟩⟩) (Nat.le_trans hl (by decide)) hx q
 .show ¬ (st.length:Int)<_;omega
 .show ¬ 24<(st.length:Int)-_+_;omega
 .rw [hc];show ¬ x.given-u<c;omega
 .rw [hc,<- hu] at *;exact hD
theorem ZcD {D:RD} (hf:x.fin=none) (hw:rows[i]?=some (w,nn)) (e1:ZbJ w nn=some r) (e2:RT.lookup w=some (t,l,c,c)) (h1:t+r<=(st.length:Int)) (h2:(st.length:Int)-t+l<=24) (hl:st.length<=24) (nc:w ≠ "call" /\ w ≠ "save" /\ inS w ["save", "note"]=false/\inS w ["call", "borrow", "look"]=false) (hR:RDL.lookup w=some D) (hu:u+c=u') (hg:u'<=x.given)
  (hD:D (atS x st ((i:Int)+1) u') w nn x') (hx:x'.whose=x.whose) (q:RunW A S0 G rows n ds x' ds2 y s):RunW A S0 G rows (n+1) ds (atS x st i u) ds2 y (.int (i:Int)::s) :=
 st_do (b1:=false) (b2:=false) (ad:=[]) hf hw e1 e2 h1 h2 hl (.inl ⟨nc.1,rfl⟩) (.inl ⟨nc.2.1,rfl⟩) (by unfold barB;rw [nc.2.2.1];cases (atS x st i u).looking<;>rfl) rfl hu hg (.pure nc.2.2.2 hR hD) hx q
theorem Zk5 {k:Int} (hf:x.fin=none) (hw:rows[i]?=some (("push" : Str),some k)) (hl:st.length<24) (hu:u+1=u') (hg:u'<=x.given) (q:RunW A S0 G rows n ds (atS x (st++[k]) ((i+1:Nat):Int) u') ds2 y s):RunW A S0 G rows (n+1) ds (atS x st i u) ds2 y (.int (i:Int)::s) :=
 ZcD hf hw rfl rfl (by omega) (by omega) (by omega) ⟨by decide,by decide,rfl,rfl⟩ rfl hu hg ⟨k,rfl,rfl⟩ rfl q
theorem Zoe {v:Int} (hf:x.fin=none) (hw:rows[i]?=some (w,none)) (hv:(w = "word" /\ v=x.word)\/(w = "me" /\ v=x.who)\/(w = "from" /\ v=x.caller)\/(w = "sent" /\ v=x.coin)) (hl:st.length<24) (hu:u+1=u') (hg:u'<=x.given) (q:RunW A S0 G rows n ds (atS x (st++[v]) ((i+1:Nat):Int) u') ds2 y s):RunW A S0 G rows (n+1) ds (atS x st i u) ds2 y (.int (i:Int)::s):=by
 rcases hv with ⟨rfl,rfl⟩|⟨rfl,rfl⟩|⟨rfl,rfl⟩|⟨rfl,rfl⟩
 .exact ZcD (D:=rWord) hf hw rfl rfl (by omega) (by omega) (by omega) ⟨by decide,by decide,rfl,rfl⟩ rfl hu hg rfl rfl q
 .exact ZcD (D:=rMe) hf hw rfl rfl (by omega) (by omega) (by omega) ⟨by decide,by decide,rfl,rfl⟩ rfl hu hg rfl rfl q
 .exact ZcD (D:=rFrom) hf hw rfl rfl (by omega) (by omega) (by omega) ⟨by decide,by decide,rfl,rfl⟩ rfl hu hg rfl rfl q
 .exact ZcD (D:=rSent) hf hw rfl rfl (by omega) (by omega) (by omega) ⟨by decide,by decide,rfl,rfl⟩ rfl hu hg rfl rfl q
theorem Zbv (a:List Int) (b:Int):(a++[b]).length=a.length+1:=by rw [List.length_append];rfl
theorem st_drop {v:Int} (hf:x.fin=none) (hw:rows[i]?=some (("drop" : Str),none)) (hl:st.length<24) (hu:u+1=u') (hg:u'<=x.given) (q:RunW A S0 G rows n ds (atS x st ((i+1:Nat):Int) u') ds2 y s):RunW A S0 G rows (n+1) ds (atS x (st++[v]) i u) ds2 y (.int (i:Int)::s) :=
 ZcD (D:=rDrop) hf hw rfl rfl (by rw [Zbv];omega) (by rw [Zbv];omega) (by rw [Zbv];omega) ⟨by decide,by decide,rfl,rfl⟩ rfl hu hg ⟨st,v,rfl,rfl⟩ rfl q
theorem Zof {d:Dt} {pr dd:Int} {b1:Bool} {u2:Int} (hf:x.fin=none) (hw:rows[i]?=some (w,none)) (e2:RT.lookup w=some (t,2,pr,dd)) (e1:ZbJ w none=some 0) (h1:t<=(st.length:Int)) (h3:2<=t) (hl:st.length<=24) (hb1:Zb2 (atS x st i u) w b1) (n2:w ≠ "save") (hb:barB (atS x st i u) w b1=false) (hc:(if b1=true then dd else pr)=c) (hu:u+c=u') (hg:u'<=x.given) (hC:inS w ["call", "borrow", "look"]=true)
  (h:Zk0 A S0 G w ds (atS x st ((i+1:Nat):Int) u') ds1 (atS x st' ((i+1:Nat):Int) u2) d) (q:RunW A S0 G rows n ds1 (atS x st' ((i+1:Nat):Int) u2) ds2 y s):RunW A S0 G rows (n+1) ds (atS x st i u) ds2 y (.int (i:Int)::d::s) :=
 st_do (b1:=b1) (b2:=false) (ad:=[d]) hf hw e1 e2 (by omega) (by omega) hl hb1 (.inl ⟨n2,rfl⟩) hb (by rw [Bool.or_false];exact hc) hu hg (.call hC h) rfl q
theorem Zog {v:Int} {e:Str} (hf:x.fin=none) (hw:rows[i]?=some (w,none)) (hv:w = "give" /\ e = "well" \/ w = "fail" /\ e = "fail") (hl:st.length<24) (hu:u+1=u') (hg:u'<=x.given):RunW A S0 G rows 1 ds (atS x (st++[v]) i u) ds (endS x st ((i:Int)+1) u' e v) [.int (i:Int)]:=by
 rcases hv with ⟨rfl,rfl⟩|⟨rfl,rfl⟩
 .exact ZcD (D:=rGive) hf hw rfl rfl (by rw [Zbv];omega) (by rw [Zbv];omega) (by rw [Zbv];omega) ⟨by decide,by decide,rfl,rfl⟩ rfl hu hg ⟨st,v,rfl,rfl⟩ rfl (.done (by intro z;cases z))
 .exact ZcD (D:=rFail) hf hw rfl rfl (by rw [Zbv];omega) (by rw [Zbv];omega) (by rw [Zbv];omega) ⟨by decide,by decide,rfl,rfl⟩ rfl hu hg ⟨st,v,rfl,rfl⟩ rfl (.done (by intro z;cases z))
theorem en_dry {pr d:Int} {b1 b2:Bool} (hf:x.fin=none) (hw:rows[i]?=some (w,nn)) (e1:ZbJ w nn=some r) (e2:RT.lookup w=some (t,l,pr,d)) (h1:t+r<=(st.length:Int)) (h2:(st.length:Int)-t+l<=24) (hl:st.length<=24)
  (hb1:Zb2 (atS x st i u) w b1) (hb2:fillsR A (runS S0 ds) (atS x st i u) w b2) (hb:barB (atS x st i u) w b1=false) (hc:(if (b1||b2)=true then d else pr)=c) (hg:x.given<u+c):RunW A S0 G rows 1 ds (atS x st i u) ds (endS x st i u "dry" 0) []:=by
 refine RunW.step (add:=[]) (st:=[]) hf (.inr ⟨i,w,nn,rfl,hw,.inl ⟨"dry", ⟨r,t,l,pr,d,e1,e2,.inr (.inr ⟨?_,?_,b1,b2,hb1,hb2,.inr (.inl ⟨hb,?_,rfl⟩)⟩)⟩,rfl,rfl,rfl⟩⟩) (Nat.le_trans hl (by decide)) rfl (.done (by intro z;cases z))
 .show ¬ (st.length:Int)<_;omega
 .show ¬ 24<(st.length:Int)-_+_;omega
 .rw [hc];show x.given-u<c;omega
end
theorem Zio (S:Nat->AcS) (a b:List Dd):runS S (a++b)=runS (runS S a) b:=by unfold runS;rw [List.foldl_append]
theorem Zk6 (S:Nat->AcS) (a b:Nat) (k:Int) (j:Nat):(doneS S (.move (a:Int) (b:Int) k) j).coin=(S j).coin-(if j=a then k else 0)+(if j=b then k else 0)/\(doneS S (.move (a:Int) (b:Int) k) j).store=(S j).store:=by
 show (moved S _ _ k j).coin=_/\(moved S _ _ k j).store=_
 rw [ZbM,Int.toNat_natCast,Int.toNat_natCast];exact ⟨rfl,rfl⟩
theorem Zk7 (S:Nat->AcS) (a:Nat) (p o v:Int) (j:Nat):(doneS S (.save (a:Int) p o v) j).coin=(S j).coin/\∀ q,(doneS S (.save (a:Int) p o v) j).store q=if j=a/\q=p then v else (S j).store q:=by
 show (setS S _ _ j).coin=_/\∀ q,(setS S _ _ j).store q=_
 rw [Int.toNat_natCast]
 unfold setS
 by_cases e:j=a
 .rw [if_pos e,<- e]
  refine ⟨rfl,fun q=>?_⟩
  show putFn (S j).store p v q=_
  unfold putFn
  by_cases e2:q=p
  .rw [if_pos e2,if_pos ⟨rfl,e2⟩]
  .rw [if_neg e2,if_neg (fun z=>e2 z.2)]
 .rw [if_neg e];exact ⟨rfl,fun q=>by rw [if_neg (fun z=>e z.1)]⟩
section
end
theorem ZiY {A:Nat->Option AcI} {S0:Nat->AcS} {G:GR} {w:Str} {ds ds':List Dd} {x y y':FrS} {s:List Int} {st:List Dt} (gv:Int) (hO:Zhd x w s y) (hl:s.length<=900) (ha:ZdQ A (runS S0 ds) y none) (hgv:(if x.given-x.used<y.given then x.given-x.used else y.given)=gv) (hG:G ds { y with given:=gv } ds' y' st):Zk0 A S0 G w ds x ds' { x with stack:=s++[y'.answer,wellI y'.fin],used:=x.used+y'.used } (treeD y' st) :=
 ⟨s,y,y',st,none,hO,rfl,rfl,hl,ha,.inr ⟨rfl,by rw [hgv];exact hG⟩⟩
theorem Zms {A:Nat->Option AcI} {S0:Nat->AcS} {G:GR} {w:Str} {ds:List Dd} {x y:FrS} {s:List Int} {e:Str} (hO:Zhd x w s y) (hl:s.length<=900) (ha:ZdQ A (runS S0 ds) y (some e)):Zk0 A S0 G w ds x ds { x with stack:=s++[0,wellI (some e)],used:=x.used+y.used } (treeD { y with given:=0,fin:=some e,answer:=0 } []) :=
 ⟨s,y,_,[],some e,hO,rfl,rfl,hl,ha,.inl ⟨e,rfl,rfl,rfl,rfl⟩⟩
noncomputable def totalC (ss:List Nat) (S:Nat->AcS):Int:=(ss.map fun i=>(S i).coin).sum
theorem Ze0 (f g h:Nat->Int):∀ ss:List Nat,(ss.map fun n=>f n-g n+h n).sum=(ss.map f).sum-(ss.map g).sum+(ss.map h).sum
 | []=>by simp
 | s::ss=>by
  have:=Ze0 f g h ss
  simp only [List.map_cons,List.sum_cons]
  omega
theorem Zk8 (i:Nat) (k:Int):∀ ss:List Nat,i∉ss->(ss.map fun n=>if n=i then k else 0).sum=0
 | [],_=>by simp
 | s::ss,h=>by
  have h1:s≠i:=fun z=>h (by simp [z])
  have:=Zk8 i k ss fun z=>h (by simp [z])
  rw [List.map_cons,List.sum_cons,if_neg h1,this]
  rfl
theorem Zhh (i:Nat) (k:Int):∀ ss:List Nat,ss.Nodup->i∈ss->(ss.map fun n=>if n=i then k else 0).sum=k
 | [],_,h=>by simp at h
 | s::ss,hn,h=>by
  obtain ⟨n1,n2⟩:=List.nodup_cons.mp hn
  rw [List.map_cons,List.sum_cons]
  rcases List.mem_cons.mp h with rfl|h
  .rw [if_pos rfl,Zk8 _ k ss n1];omega
  .rw [if_neg (fun z=>n1 (by rw [z];exact h)),Zhh i k ss n2 h];omega
theorem ZjB {A:Nat->Option AcI} {ss:List Nat} (hn:ss.Nodup) (hA:∀ i x,i<16->A i=some x->i∈ss) {S:Nat->AcS} {d:Dd} (hf:fitsD A d):totalC ss (doneS S d)=totalC ss S:=by
 unfold totalC
 cases d with
 | save s p o n =>
  have:(fun i=>(doneS S (.save s p o n) i).coin)=fun i=>(S i).coin:=by
   funext i
   show (setS S s.toNat _ i).coin=_
   unfold setS
   by_cases z:i=s.toNat
   .rw [if_pos z,z]
   .rw [if_neg z]
  rw [this]
 | move s t k =>
  obtain ⟨⟨i,x,rfl,hi,hx⟩,j,y,rfl,hj,hy⟩:=hf
  have:(fun n=>(doneS S (.move i j k) n).coin)=fun n=>(S n).coin-(if n=i then k else 0)+(if n=j then k else 0):=by
   funext n
   show (moved S _ _ k n).coin=_
   rw [ZbM,Int.toNat_natCast,Int.toNat_natCast]
  rw [this,Ze0,Zhh i k ss hn (hA i x hi hx),Zhh j k ss hn (hA j y hj hy)]
  omega
 | note s n=>rfl
theorem Zoh {S0:Nat->AcS} {ds:List Dd} {d:Dd} (h:∀ q i,0<=(runS S0 (ds.take q) i).coin) (h2:∀ i,0<=(doneS (runS S0 ds) d i).coin) (q i:Nat):0<=(runS S0 ((ds++[d]).take q) i).coin:=by
 by_cases z:q<=ds.length
 .rw [List.take_append_of_le_length z];exact h q i
 .rw [List.take_of_length_le (by rw [List.length_append];show ds.length+1<=q;omega),Zdl];exact h2 i
structure Wk (K:PySem.W.Frag) (C cJ cS cM cN:Addr) (H0 H:Hp) (j dx R L:Addr) (A:Nat->Option AcI) (S0:Nat->AcS) (es:List DI) (m:Nat):Prop where
 jr:Jr cJ cS cM cN H j dx R L A es
 ro:Rooms K C H R A (runS S0 (es.map (·.d))) m
 ri:Zbx S0 (es.map (·.d))
 nn:∀ q i,0<=(runS S0 ((es.map (·.d)).take q) i).coin
 fr:∀ b o,Out A b->b≠L->H0 b=some o->H b=some o
section
variable {K:PySem.W.Frag} {C cJ cS cM cN:Addr} {H0 H H':Hp} {j dx R L:Addr} {A:Nat->Option AcI} {S0:Nat->AcS} {es:List DI} {m:Nat}
theorem Wk.same (W:Wk K C cJ cS cM cN H0 H j dx R L A S0 es m) (s:Same H H'):Wk K C cJ cS cM cN H0 H' j dx R L A S0 es m:=⟨W.jr.same s,W.ro.same s,W.ri,W.nn,fun b o h1 h2 h3=>s _ _ (W.fr b o h1 h2 h3)⟩
theorem Wk.write (W:Wk K C cJ cS cM cN H0 H j dx R L A S0 es m) {e:DI} (k:∀ b,Out A b->b≠L->H' b=H b) (r:Rooms K C H' R A (doneS (runS S0 (es.map (·.d))) e.d) (m+1)) (J:Jr cJ cS cM cN H' j dx R L A (es++[e])) (hr:rightD (runS S0 (es.map (·.d))) e.d) (hn:∀ i,0<=(doneS (runS S0 (es.map (·.d))) e.d i).coin):Wk K C cJ cS cM cN H0 H' j dx R L A S0 (es++[e]) (m+1):=by
 have em:(es++[e]).map (·.d)=es.map (·.d)++[e.d]:=by rw [List.map_append];rfl
 refine ⟨J,by rw [em,Zdl];exact r,by rw [em];exact (ZbU _ _ _).mpr ⟨W.ri,hr⟩,by rw [em];exact Zoh W.nn hn,fun b o h1 h2 h3=>?_⟩
 rw [k b h1 h2]
 exact W.fr b o h1 h2 h3
theorem Wk.back {m':Nat} (W:Wk K C cJ cS cM cN H0 H j dx R L A S0 es m) {n:Nat} (k:∀ b,Out A b->b≠L->H' b=H b) (r:Rooms K C H' R A (runS S0 ((es.take n).map (·.d))) m') (ri:Zbx S0 ((es.take n).map (·.d))) (J:Jr cJ cS cM cN H' j dx R L A (es.take n)):Wk K C cJ cS cM cN H0 H' j dx R L A S0 (es.take n) m':=by
 refine ⟨J,r,ri,fun q i=>?_,fun b o h1 h2 h3=>?_⟩
 .rw [List.map_take,List.take_take];exact W.nn _ i
 .rw [k b h1 h2];exact W.fr b o h1 h2 h3
end
theorem coin_move {S:Nat->AcS} {i j:Nat} {k:Int} (h:∀ n,0<=(S n).coin) (h0:0<=k) (h1:k<=(S i).coin) (n:Nat):0<=(doneS S (.move i j k) n).coin:=by
 show 0<=(moved S _ _ k n).coin
 rw [ZbM,Int.toNat_natCast,Int.toNat_natCast]
 have:=h n
 dsimp only
 by_cases z:n=i
 .subst z
  rw [if_pos rfl]
  split<;>omega
 .rw [if_neg z]
  split<;>omega
theorem Zhi (f:Nat->Int):∀ l:List Nat,(∀ i∈l,0<=f i)->0<=(l.map f).sum/\∀ i∈l,f i<=(l.map f).sum
 | [],_=>⟨by simp,fun _ h=>nomatch h⟩
 | j::l,h=>by
  obtain ⟨a,b⟩:=Zhi f l fun i hi=>h i (List.mem_cons_of_mem _ hi)
  have hj:=h j (List.mem_cons_self ..)
  rw [List.map_cons,List.sum_cons]
  refine ⟨by omega,fun i hi=>?_⟩
  rcases List.mem_cons.1 hi with rfl|hi
  .omega
  .have:=b i hi;omega
structure SOk (S:Nat->AcS):Prop where
 st:∀ i q,In64 ((S i).store q)
 co:∀ i,i<16->0<=(S i).coin
 to:totalC (List.range 16) S<18446744073709551616
theorem SOk.coin {S:Nat->AcS} (h:SOk S) {i:Nat} (hi:i<16):In64 ((S i).coin):=by
 have g:=(Zhi (fun i=>(S i).coin) (List.range 16) fun i hi=>h.co i (List.mem_range.1 hi)).2 i (List.mem_range.2 hi)
 have:=h.co i hi
 have ht:=h.to
 unfold totalC at ht
 exact ⟨this,by show _<_;omega⟩
theorem SOk.note {S:Nat->AcS} (h:SOk S) (a b:Int):SOk (doneS S (.note a b)):=h
theorem SOk.save {S:Nat->AcS} (h:SOk S) (i:Nat) (p o v:Int) (hv:In64 v):SOk (doneS S (.save (i:Int) p o v)):=by
 have e:=Zk7 S i p o v
 refine ⟨fun j q=>?_,fun j hj=>?_,?_⟩
 .rw [(e j).2];split
  .exact hv
  .exact h.st j q
 .rw [(e j).1];exact h.co j hj
 .have:totalC (List.range 16) (doneS S (.save (i:Int) p o v))=totalC (List.range 16) S:=by
   unfold totalC
   rw [show (fun j=>(doneS S (.save (i:Int) p o v) j).coin)=fun j=>(S j).coin from funext fun j=>(e j).1]
  rw [this];exact h.to
theorem SOk.move {S:Nat->AcS} {A:Nat->Option AcI} (h:SOk S) {i j:Nat} {x y:AcI} (hi:i<16) (hj:j<16) (hx:A i=some x) (hy:A j=some y) {c:Int} (c0:0<=c) (hc:c<=(S i).coin):SOk (doneS S (.move (i:Int) (j:Int) c)):=by
 have e:=Zk6 S i j c
 refine ⟨fun n q=>?_,fun n hn=>?_,?_⟩
 .rw [(e n).2];exact h.st n q
 .rw [(e n).1]
  have:=h.co n hn
  by_cases z:n=i
  .rw [if_pos z,z];split<;>omega
  .rw [if_neg z];split<;>omega
 .rw [ZjB (A:=A) (d:=.move (i:Int) (j:Int) c) (List.nodup_range) (fun n _ hn _=>List.mem_range.2 hn) ⟨⟨i,x,rfl,hi,hx⟩,j,y,rfl,hj,hy⟩];exact h.to
noncomputable def Zbq (r:Row):Prop:=(∃ q,RT.lookup r.1=some q)/\(r.1 = "push" -> ∃ k,r.2=some k/\In64 k)/\(inS r.1 ["copy", "swap"]=true->∃ k,r.2=some k/\0<=k/\(r.1 = "swap" -> 1<=k))/\(inS r.1 ["jump", "jumpif"]=true->∃ k,r.2=some k/\0<=k)
structure FOk (A:Nat->Option AcI) (x:FrS):Prop where
 fin:x.fin=none
 who:∃ i y,x.who=((i:Nat):Int)/\i<16/\A i=some y
 cal:In64 x.caller
 coi:In64 x.coin
 wor:In64 x.word
 stk:∀ k∈x.stack,In64 k
 len:x.stack.length<=24
 row:0<=x.row
 use:0<=x.used/\x.used<=x.given
 dep:1<=x.depth/\x.depth<=8
structure InOk (A:Nat->Option AcI) (S:Nat->AcS) (y:FrS):Prop where
 ok:FOk A y
 wh:∃ i z,y.whose=((i:Nat):Int)/\i<16/\A i=some z
 z:y.used=0
 mv:y.kind = "call" -> 0<y.coin->(∃ i z,y.caller=((i:Nat):Int)/\i<16/\A i=some z/\y.coin<=(S i).coin)
structure Outc (S0:Nat->AcS) (ds:List Dd) (x:FrS) (ds':List Dd) (y:FrS):Prop where
 fin:∃ e,y.fin=some e
 ans:In64 y.answer
 use:x.used<=y.used/\y.used<=x.given
 giv:y.given=x.given
 so:SOk (runS S0 ds')
 len:ds'.length<=ds.length+1+(y.used-x.used).toNat
noncomputable def GOk (A:Nat->Option AcI) (S0:Nat->AcS) (G:GR) (dd:Int):Prop:=∀ ds y,SOk (runS S0 ds)->InOk A (runS S0 ds) y->y.depth=dd+1->(ds.length:Int)+y.given<=89999->y.given<=30000->∃ ds' y' st,G ds y ds' y' st/\Outc S0 ds y ds' y'
theorem ZiZ (e:Option Str):In64 (wellI e):=by unfold wellI;split<;>exact ⟨by decide,by decide⟩
noncomputable def Did (A:Nat->Option AcI) (S0:Nat->AcS) (G:GR) (ds:List Dd) (x:FrS) (w:Str) (n:Option Int):Prop:=∃ ds' x' ad,DoW A S0 G w n ds x ds' x' ad/\x'.whose=x.whose/\x'.given=x.given/\x'.depth=x.depth/\(x.used<=x'.used/\x'.used<=x.given)/\SOk (runS S0 ds')/\ds'.length<=ds.length+1+(x'.used-x.used).toNat/\((∃ e,x'.fin=some e/\In64 x'.answer)\/FOk A x')
section
variable {A:Nat->Option AcI} {S0:Nat->AcS} {G:GR} {ds:List Dd} {x:FrS}
theorem t_sn {s:List Int} {v:Int} {l:List Int} (h:x.stack=s++l) (X:FOk A x):(∀ k∈s,In64 k)/\(∀ k∈l,In64 k)/\s.length+l.length=x.stack.length:=⟨fun k hk=>X.stk k (by rw [h];exact List.mem_append.2 (.inl hk)),fun k hk=>X.stk k (by rw [h];exact List.mem_append.2 (.inr hk)),by rw [h,List.length_append]⟩
theorem sn1' {st:List Int} (h:1<=st.length):∃ s v,st=s++[v]:=⟨st.dropLast,st.getLast (by intro z;rw [z] at h;simp at h),(List.dropLast_concat_getLast _).symm⟩
theorem sn2' {st:List Int} (h:2<=st.length):∃ s a b,st=s++[a,b]:=by
 obtain ⟨s,v,rfl⟩:=sn1' (st:=st) (by omega)
 obtain ⟨s2,v2,rfl⟩:=sn1' (st:=s) (by rw [Zbv] at h;omega)
 exact ⟨s2,v2,v,by rw [List.append_assoc];rfl⟩
theorem sn3' {st:List Int} (h:3<=st.length):∃ s a b c,st=s++[a,b,c]:=by
 obtain ⟨s,v,rfl⟩:=sn1' (st:=st) (by omega)
 obtain ⟨s2,a,b,rfl⟩:=sn2' (st:=s) (by rw [Zbv] at h;omega)
 exact ⟨s2,a,b,v,by rw [List.append_assoc];rfl⟩
theorem sn4' {st:List Int} (h:4<=st.length):∃ s a b c d,st=s++[a,b,c,d]:=by
 obtain ⟨s,v,rfl⟩:=sn1' (st:=st) (by omega)
 obtain ⟨s2,a,b,c,rfl⟩:=sn3' (st:=s) (by rw [Zbv] at h;omega)
 exact ⟨s2,a,b,c,v,by rw [List.append_assoc];rfl⟩
theorem FOk.put (X:FOk A x) {s:List Int} {r:Int} (h:∀ k∈s,In64 k) (hl:s.length<=24) (hr:0<=r):FOk A { x with stack:=s,row:=r }:=⟨X.fin,X.who,X.cal,X.coi,X.wor,h,hl,hr,X.use,X.dep⟩
theorem tin {s:List Int} {l:List Int} (h:∀ k∈s,In64 k) (h2:∀ k∈l,In64 k):∀ k∈s++l,In64 k:=fun k hk=>(List.mem_append.1 hk).elim (h k) (h2 k)
theorem tin1 {v:Int} (h:In64 v):∀ k∈[v],In64 k:=fun k hk=>by rw [List.mem_singleton.1 hk];exact h
theorem ZdR {w:Str} {n:Option Int} {D:RD} {x':FrS} (X:FOk A x) (S:SOk (runS S0 ds)) (hC:inS w ["call", "borrow", "look"]=false) (hR:RDL.lookup w=some D) (hD:D x w n x') (h1:x'.whose=x.whose/\x'.given=x.given/\x'.depth=x.depth/\x'.used=x.used) (hz:(∃ e,x'.fin=some e/\In64 x'.answer)\/FOk A x'):Did A S0 G ds x w n :=
 ⟨ds,x',[],.pure hC hR hD,h1.1,h1.2.1,h1.2.2.1,by rw [h1.2.2.2];exact ⟨Int.le_refl _,X.use.2⟩,S,by omega,hz⟩
theorem did_me (X:FOk A x) (S:SOk (runS S0 ds)) {n:Option Int} (hl:x.stack.length+1<=24):Did A S0 G ds x "me" n:=by
 exact ZdR (D:=rMe) X S rfl rfl rfl ⟨rfl,rfl,rfl,rfl⟩ (.inr (X.put (r:=x.row) (tin X.stk (tin1 (by obtain ⟨i,_,e,h,_⟩:=X.who;rw [e];exact ⟨by omega,by show _<_;omega⟩))) (by rw [Zbv];exact hl) X.row))
theorem Zmt (X:FOk A x) (S:SOk (runS S0 ds)) {n:Option Int} (hl:x.stack.length+1<=24):Did A S0 G ds x "from" n:=by
 exact ZdR (D:=rFrom) X S rfl rfl rfl ⟨rfl,rfl,rfl,rfl⟩ (.inr (X.put (r:=x.row) (tin X.stk (tin1 X.cal)) (by rw [Zbv];exact hl) X.row))
theorem Zmu (X:FOk A x) (S:SOk (runS S0 ds)) {n:Option Int} (hl:x.stack.length+1<=24):Did A S0 G ds x "sent" n:=by
 exact ZdR (D:=rSent) X S rfl rfl rfl ⟨rfl,rfl,rfl,rfl⟩ (.inr (X.put (r:=x.row) (tin X.stk (tin1 X.coi)) (by rw [Zbv];exact hl) X.row))
theorem Zmv (X:FOk A x) (S:SOk (runS S0 ds)) {n:Option Int} (hl:x.stack.length+1<=24):Did A S0 G ds x "word" n:=by
 exact ZdR (D:=rWord) X S rfl rfl rfl ⟨rfl,rfl,rfl,rfl⟩ (.inr (X.put (r:=x.row) (tin X.stk (tin1 X.wor)) (by rw [Zbv];exact hl) X.row))
theorem Zmw (X:FOk A x) (S:SOk (runS S0 ds)) {k:Int} (hk:In64 k) (hl:x.stack.length+1<=24):Did A S0 G ds x "push" (some k):=by
 exact ZdR (D:=rPush) X S rfl rfl ⟨k,rfl,rfl⟩ ⟨rfl,rfl,rfl,rfl⟩ (.inr (X.put (r:=x.row) (tin X.stk (tin1 hk)) (by rw [Zbv];exact hl) X.row))
theorem Zmx (X:FOk A x) (S:SOk (runS S0 ds)) {k:Int} (hk:0<=k):Did A S0 G ds x "jump" (some k):=by
 exact ZdR (D:=rJump) X S rfl rfl ⟨k,rfl,rfl⟩ ⟨rfl,rfl,rfl,rfl⟩ (.inr (X.put (s:=x.stack) X.stk X.len hk))
theorem Zmy (X:FOk A x) (S:SOk (runS S0 ds)) {n:Option Int} (hl:1<=x.stack.length):Did A S0 G ds x "drop" n:=by
 obtain ⟨s,v,e⟩:=sn1' hl
 have t:=t_sn (v:=v) e X
 have hx:=X.len
 exact ZdR (D:=rDrop) X S rfl rfl ⟨s,v,e,rfl⟩ ⟨rfl,rfl,rfl,rfl⟩ (.inr (X.put (r:=x.row) t.1 (by have:=t.2.2;omega) X.row))
theorem ZjC (X:FOk A x) (S:SOk (runS S0 ds)) {k:Int} (hk:0<=k) (hl:1<=x.stack.length):Did A S0 G ds x "jumpif" (some k):=by
 obtain ⟨s,v,e⟩:=sn1' hl
 have t:=t_sn (v:=v) e X
 have hx:=X.len
 exact ZdR (D:=ZfX) X S rfl rfl ⟨k,s,v,rfl,e,rfl⟩ ⟨rfl,rfl,rfl,rfl⟩ (.inr (X.put (r:=if v=0 then x.row else k) t.1 (by have:=t.2.2;omega) (by have h1:=X.row;split<;>assumption)))
theorem Zmz (X:FOk A x) (S:SOk (runS S0 ds)) {n:Option Int} (hl:1<=x.stack.length):Did A S0 G ds x "give" n:=by
 obtain ⟨s,v,e⟩:=sn1' hl
 have t:=t_sn (v:=v) e X
 exact ZdR (D:=rGive) X S rfl rfl ⟨s,v,e,rfl⟩ ⟨rfl,rfl,rfl,rfl⟩ (.inl ⟨_,rfl,t.2.1 v (List.mem_singleton.2 rfl)⟩)
theorem ZmA (X:FOk A x) (S:SOk (runS S0 ds)) {n:Option Int} (hl:1<=x.stack.length):Did A S0 G ds x "fail" n:=by
 obtain ⟨s,v,e⟩:=sn1' hl
 have t:=t_sn (v:=v) e X
 exact ZdR (D:=rFail) X S rfl rfl ⟨s,v,e,rfl⟩ ⟨rfl,rfl,rfl,rfl⟩ (.inl ⟨_,rfl,t.2.1 v (List.mem_singleton.2 rfl)⟩)
theorem ZmB (X:FOk A x) (S:SOk (runS S0 ds)) {k:Int} (hk:0<=k) (hl:1+k<=(x.stack.length:Int)) (h2:x.stack.length+1<=24):Did A S0 G ds x "copy" (some k):=by
 obtain ⟨k,rfl⟩:∃ m:Nat,k=(m:Int):=⟨k.toNat,by omega⟩
 obtain ⟨v,hv⟩:∃ v,x.stack[x.stack.length-1-k]?=some v:=⟨_,List.getElem?_eq_getElem (by omega)⟩
 exact ZdR (D:=rCopy) X S rfl rfl ⟨k,v,rfl,by omega,hv,rfl⟩ ⟨rfl,rfl,rfl,rfl⟩ (.inr (X.put (r:=x.row) (tin X.stk (tin1 (X.stk v (List.mem_of_getElem? hv)))) (by rw [Zbv];exact h2) X.row))
theorem Zk9 {st:List Int} {k:Nat} (h:k+1<st.length):∃ s m a b,m.length=k/\st=s++a::(m++[b]):=by
 obtain ⟨s0,b,rfl⟩:=sn1' (st:=st) (by omega)
 rw [Zbv] at h
 refine ⟨s0.take (s0.length-1-k),s0.drop (s0.length-k),s0[s0.length-1-k]'(by omega),b,by rw [List.length_drop];omega,?_⟩
 have e:=List.take_append_drop (s0.length-1-k) s0
 rw [List.drop_eq_getElem_cons (by omega),show s0.length-1-k+1=s0.length-k by omega] at e
 exact (congrArg (·++[b]) e).symm.trans (by rw [List.append_assoc];rfl)
theorem ZmC (X:FOk A x) (S:SOk (runS S0 ds)) {k:Int} (hk:1<=k) (hl:1+k<=(x.stack.length:Int)):Did A S0 G ds x "swap" (some k):=by
 obtain ⟨k,rfl⟩:∃ m:Nat,k=((m+1:Nat):Int):=⟨(k-1).toNat,by omega⟩
 obtain ⟨s,m,a,b,hml,e⟩:=Zk9 (st:=x.stack) (k:=k) (by omega)
 subst hml
 have hs:=X.stk
 have hx:=X.len
 rw [e] at hs hx
 refine ZdR (D:=rSwap) (x':={ x with stack:=s++b::(m++[a]) }) X S rfl rfl ⟨s,m,a,b,rfl,e,rfl⟩ ⟨rfl,rfl,rfl,rfl⟩ (.inr (X.put (r:=x.row) (fun k hk=>hs k ?_) ?_ X.row))
 .simp only [List.mem_append,List.mem_cons,List.not_mem_nil,or_false] at hk |-
  rcases hk with h|h|h|h
  .exact .inl h
  .exact .inr (.inr (.inr h))
  .exact .inr (.inr (.inl h))
  .exact .inr (.inl h)
 .simp at hx |-;omega
theorem ZbR {w:Str} {n:Option Int} {f:Int->Int->Int} (X:FOk A x) (S:SOk (runS S0 ds)) (hk:RK.lookup w=some f) (hR:RDL.lookup w=some rReck) (hC:inS w ["call", "borrow", "look"]=false) (hf:∀ a b,ZaX a b->In64 (f a b)) (hl:2<=x.stack.length):Did A S0 G ds x w n:=by
 obtain ⟨s,a,b,e⟩:=sn2' hl
 have t:=t_sn (v:=a) e X
 have hx:=X.len
 have hab:ZaX a b:=⟨t.2.1 a (by simp),t.2.1 b (by simp)⟩
 exact ZdR (D:=rReck) X S hC hR ⟨f,s,a,b,hk,e,hab,rfl⟩ ⟨rfl,rfl,rfl,rfl⟩ (.inr (X.put (r:=x.row) (tin t.1 (tin1 (hf a b hab))) (by have:=t.2.2;rw [Zbv];simp at this;omega) X.row))
theorem ZmD (X:FOk A x) (S:SOk (runS S0 ds)) {n:Option Int} (hl:1<=x.stack.length):Did A S0 G ds x "load" n:=by
 obtain ⟨s,v,e⟩:=sn1' hl
 have t:=t_sn (v:=v) e X
 have hx:=X.len
 obtain ⟨i,y,ew,hi,hy⟩:=X.who
 exact ⟨ds,_,[],.load ew hi hy e,rfl,rfl,rfl,⟨Int.le_refl _,X.use.2⟩,S,by omega,.inr (X.put (r:=x.row) (tin t.1 (tin1 (S.st i v))) (by have:=t.2.2;rw [Zbv];simp at this;omega) X.row)⟩
theorem Zoi (S:SOk (runS S0 ds)) (A:Nat->Option AcI) (v:Int):In64 (ZeS A (runS S0 ds) v):=by
 unfold ZeS
 split
 .rename_i h
  split
  .exact S.coin (by omega)
  .exact ⟨by decide,by decide⟩
 .exact ⟨by decide,by decide⟩
theorem ZmE (X:FOk A x) (S:SOk (runS S0 ds)) {n:Option Int} (hl:1<=x.stack.length):Did A S0 G ds x "coin" n:=by
 obtain ⟨s,v,e⟩:=sn1' hl
 have t:=t_sn (v:=v) e X
 have hx:=X.len
 exact ⟨ds,_,[],.coin e,rfl,rfl,rfl,⟨Int.le_refl _,X.use.2⟩,S,by omega,.inr (X.put (r:=x.row) (tin t.1 (tin1 (Zoi S A v))) (by have:=t.2.2;rw [Zbv];simp at this;omega) X.row)⟩
theorem ZmF (X:FOk A x) (S:SOk (runS S0 ds)) {n:Option Int} (hl:1<=x.stack.length):Did A S0 G ds x "note" n:=by
 obtain ⟨s,v,e⟩:=sn1' hl
 have t:=t_sn (v:=v) e X
 have hx:=X.len
 exact ⟨ds++[_],_,[_],.note e,rfl,rfl,rfl,⟨Int.le_refl _,X.use.2⟩,by rw [Zio];exact S.note x.who v,by rw [List.length_append];show ds.length+1<=_;omega,.inr (X.put (r:=x.row) t.1 (by have:=t.2.2;omega) X.row)⟩
theorem ZmG (X:FOk A x) (S:SOk (runS S0 ds)) {n:Option Int} (hl:2<=x.stack.length):Did A S0 G ds x "save" n:=by
 obtain ⟨s,p,v,e⟩:=sn2' hl
 have t:=t_sn (v:=v) e X
 have hx:=X.len
 obtain ⟨i,y,ew,hi,hy⟩:=X.who
 exact ⟨ds++[_],_,[_],.save ew hi hy e,rfl,rfl,rfl,⟨Int.le_refl _,X.use.2⟩,by rw [Zio];exact S.save i p ((runS S0 ds i).store p) v (t.2.1 v (by simp)),by rw [List.length_append];show ds.length+1<=_;omega,.inr (X.put (r:=x.row) t.1 (by have:=t.2.2;simp at this;omega) X.row)⟩
theorem Ze1 {w:Str} {n:Option Int} {s:List Int} {y:FrS} (X:FOk A x) (S:SOk (runS S0 ds)) (hG:GOk A S0 G x.depth) (hB:(ds.length:Int)+(x.given-x.used)<=89999/\x.given-x.used<=30000) (hC:inS w ["call", "borrow", "look"]=true) (hO:Zhd x w s y) (hs:∀ k∈s,In64 k) (hl:s.length+2<=24) (y0:y.fin=none/\y.used=0/\y.stack=[]/\y.row=0/\y.depth=x.depth+1/\In64 y.whose/\In64 y.given/\In64 y.caller/\In64 y.coin/\In64 y.word)
  (hw:(y.who=y.whose/\(y.kind = "call" -> y.caller=x.who))\/(y.who=x.who/\y.kind ≠ "call")):Did A S0 G ds x w n:=by
 obtain ⟨f0,u0,st0,r0,d0,w0,g0,c0,k0,o0⟩:=y0
 have hl9:s.length<=900:=by omega
 obtain ⟨iw,aw,ew,hiw,haw⟩:=X.who
 have ux:=X.use
 have hd:=X.dep.1
 have no:∀ e,ZdQ A (runS S0 ds) y (some e)->Did A S0 G ds x w n:=fun e ha=>by
  have h:=Zms (A:=A) (S0:=S0) (G:=G) (w:=w) hO hl9 ha
  refine ⟨ds,_,[_],.call hC h,rfl,rfl,rfl,?_,S,by omega,.inr ?_⟩
  .show x.used<=x.used+y.used/\x.used+y.used<=x.given;rw [u0];omega
  .exact ⟨X.fin,X.who,X.cal,X.coi,X.wor,tin hs (fun k hk=>by
    rcases List.mem_cons.1 hk with rfl|hk
    .exact ⟨by decide,by decide⟩
    .rw [List.mem_singleton.1 hk];exact ZiZ _),by rw [List.length_append];exact hl,X.row,by show 0<=x.used+y.used/\x.used+y.used<=x.given;rw [u0];omega,X.dep⟩
 by_cases hn:(if 0<=y.whose/\y.whose<16 then roomV (A y.whose.toNat) else .non)=.non
 .exact no "nobody" (.inl ⟨hn,rfl⟩)
 obtain ⟨ac,h0,h16,hA⟩:∃ ac,0<=y.whose/\y.whose<16/\A y.whose.toNat=some ac:=by
  by_cases q:0<=y.whose/\y.whose<16
  .rw [if_pos q] at hn
   cases e:A y.whose.toNat with
   | none=>rw [e] at hn;exact absurd rfl hn
   | some ac=>exact ⟨ac,q.1,q.2,rfl⟩
  .rw [if_neg q] at hn;exact absurd rfl hn
 by_cases hdp:8<y.depth
 .exact no "deep" (.inr ⟨ac,h0,h16,hA,.inl ⟨hdp,rfl⟩⟩)
 have go:ZdQ A (runS S0 ds) y none->(y.kind = "call" -> 0<y.coin->∃ i z,y.caller=((i:Nat):Int)/\i<16/\A i=some z/\y.coin<=(runS S0 ds i).coin)->Did A S0 G ds x w n:=fun ha hm=>by
  obtain ⟨gv,hgv⟩:∃ g:Int,(if x.given-x.used<y.given then x.given-x.used else y.given)=g:=⟨_,rfl⟩
  have gb:0<=gv/\gv<=x.given-x.used:=by
   have:=g0.1
   rw [<- hgv];split<;>omega
  have wh:∃ i z,y.whose=((i:Nat):Int)/\i<16/\A i=some z:=⟨y.whose.toNat,ac,by omega,by omega,hA⟩
  have I:InOk A (runS S0 ds) { y with given:=gv }:=⟨⟨f0,by
   rcases hw with ⟨h,_⟩|⟨h,_⟩
   .obtain ⟨i,z,e1,e2,e3⟩:=wh
    exact ⟨i,z,by show y.who=_;rw [h];exact e1,e2,e3⟩
   .exact ⟨iw,aw,by show y.who=_;rw [h];exact ew,hiw,haw⟩,c0,k0,o0,(by show ∀ k∈y.stack,In64 k;rw [st0];exact (fun _ h=>nomatch h)),by show y.stack.length<=24;rw [st0];decide,by show 0<=y.row;rw [r0];exact Int.le_refl 0,by show 0<=y.used/\y.used<=gv;rw [u0];exact ⟨Int.le_refl 0,gb.1⟩,by show 1<=y.depth/\y.depth<=8;omega⟩,wh,u0,hm⟩
  obtain ⟨ds',y',st,hg,O⟩:=hG ds _ S I d0 (by show (ds.length:Int)+gv<=89999;omega) (by show gv<=30000;omega)
  have h:=ZiY (A:=A) (S0:=S0) (G:=G) (w:=w) gv hO hl9 ha hgv hg
  have uy:0<=y'.used/\y'.used<=gv:=⟨by have:=O.use.1;rw [show ({ y with given:=gv }:FrS).used=y.used from rfl,u0] at this;exact this,O.use.2⟩
  have hlen:=O.len
  rw [show ({ y with given:=gv }:FrS).used=y.used from rfl,u0] at hlen
  refine ⟨ds',_,[_],.call hC h,rfl,rfl,rfl,?_,O.so,?_,.inr ?_⟩
  .show x.used<=x.used+y'.used/\x.used+y'.used<=x.given;omega
  .show ds'.length<=ds.length+1+(x.used+y'.used-x.used).toNat;omega
  .exact ⟨X.fin,X.who,X.cal,X.coi,X.wor,tin hs (fun k hk=>by
    rcases List.mem_cons.1 hk with rfl|hk
    .exact O.ans
    .rw [List.mem_singleton.1 hk];exact ZiZ _),by rw [List.length_append];exact hl,X.row,by show 0<=x.used+y'.used/\x.used+y'.used<=x.given;omega,X.dep⟩
 by_cases hk:y.kind = "call"
 .have hcal:y.caller=(iw:Int):=by
   rcases hw with ⟨_,h⟩|⟨_,h⟩
   .rw [h hk,ew]
   .exact absurd hk h
  by_cases hp:(runS S0 ds iw).coin<y.coin
  .exact no "poor" (.inr ⟨ac,h0,h16,hA,.inr (.inr ⟨hdp,hk,iw,aw,hcal,hiw,haw,.inl ⟨hp,rfl⟩⟩)⟩)
  .exact go (.inr ⟨ac,h0,h16,hA,.inr (.inr ⟨hdp,hk,iw,aw,hcal,hiw,haw,.inr ⟨hp,rfl⟩⟩)⟩) fun _ _=>⟨iw,aw,hcal,hiw,haw,Int.not_lt.mp hp⟩
 .exact go (.inr ⟨ac,h0,h16,hA,.inr (.inl ⟨hdp,hk,rfl⟩)⟩) fun h=>absurd h hk
end
section
end
theorem Zi0 {a b:Int} (ha:0<=a) (hb:0<=b):Builtin.bitAnd a b=((a.toNat &&& b.toNat:Nat):Int):=by
 unfold Builtin.bitAnd
 rw [decide_eq_true ha,decide_eq_true hb]
theorem Zla {a b:Int} (ha:0<=a) (hb:0<=b):Builtin.bitOr a b=((a.toNat ||| b.toNat:Nat):Int):=by
 have n1:Builtin.bitNot (Builtin.bitNot a)=a:=by unfold Builtin.bitNot;omega
 have n2:Builtin.bitNot (Builtin.bitNot b)=b:=by unfold Builtin.bitNot;omega
 unfold Builtin.bitOr Builtin.bitAnd
 rw [decide_eq_false (show ¬ 0<=Builtin.bitNot a by unfold Builtin.bitNot;omega),decide_eq_false (show ¬ 0<=Builtin.bitNot b by unfold Builtin.bitNot;omega)]
 show Builtin.bitNot (Builtin.bitNot _)=_
 rw [n1,n2]
 unfold Builtin.bitNot
 omega
theorem Zlb (A B:Nat):(A &&& B)=(A % 2)*(B % 2)+2*(A / 2 &&& B / 2):=by
 have h:=Nat.div_add_mod (A &&& B) 2
 rw [Nat.and_div_two] at h
 have m:(A &&& B) % 2=A % 2*(B % 2):=by
  have e:(A &&& B) % 2=(A % 2) &&& (B % 2):=by simpa using Nat.and_mod_two_pow (a:=A) (b:=B) (n:=1)
  rw [e]
  rcases Nat.mod_two_eq_zero_or_one A with p|p<;>rcases Nat.mod_two_eq_zero_or_one B with q|q<;>rw [p,q]<;>rfl
 omega
theorem ZmH (A B:Nat):(A ||| B)=max (A % 2) (B % 2)+2*(A / 2 ||| B / 2):=by
 have h:=Nat.div_add_mod (A ||| B) 2
 rw [Nat.or_div_two] at h
 have m:(A ||| B) % 2=max (A % 2) (B % 2):=by
  have e:(A ||| B) % 2=(A % 2) ||| (B % 2):=by simpa using Nat.or_mod_two_pow (a:=A) (b:=B) (n:=1)
  rw [e]
  rcases Nat.mod_two_eq_zero_or_one A with p|p<;>rcases Nat.mod_two_eq_zero_or_one B with q|q<;>rw [p,q]<;>rfl
 omega
theorem Zlc (A B:Nat):(A ^^^ B)=(A % 2+B % 2) % 2+2*(A / 2 ^^^ B / 2):=by
 have h:=Nat.div_add_mod (A ^^^ B) 2
 rw [Nat.xor_div_two] at h
 have m:(A ^^^ B) % 2=(A % 2+B % 2) % 2:=by
  have e:(A ^^^ B) % 2=(A % 2) ^^^ (B % 2):=by simpa using Nat.xor_mod_two_pow (a:=A) (b:=B) (n:=1)
  rw [e]
  rcases Nat.mod_two_eq_zero_or_one A with p|p<;>rcases Nat.mod_two_eq_zero_or_one B with q|q<;>rw [p,q]<;>rfl
 omega
theorem Zld:∀ (n A B:Nat),A+B<=n->(A &&& B)+(A ||| B)=A+B/\(A &&& B)+(A ^^^ B)=(A ||| B):=by
 intro n
 induction n with
 | zero =>
  intro A B h
  have hA:A=0:=by omega
  have hB:B=0:=by omega
  subst hA hB
  decide
 | succ n ih =>
  intro A B h
  by_cases z:A+B=0
  .have hA:A=0:=by omega
   have hB:B=0:=by omega
   subst hA hB
   decide
  .obtain ⟨i1,i2⟩:=ih (A / 2) (B / 2) (by omega)
   have e1:=Zlb A B
   have e2:=ZmH A B
   have e3:=Zlc A B
   have m:A % 2*(B % 2)=min (A % 2) (B % 2):=by
    rcases Nat.mod_two_eq_zero_or_one A with p|p<;>rcases Nat.mod_two_eq_zero_or_one B with q|q<;>rw [p,q]<;>rfl
   rw [m] at e1
   constructor<;>omega
theorem ZmI {a b:Int} (ha:0<=a) (hb:0<=b):Builtin.bitXor a b=((a.toNat ^^^ b.toNat:Nat):Int):=by
 unfold Builtin.bitXor
 rw [Zi0 ha hb,Zla ha hb]
 have:=(Zld _ a.toNat b.toNat (Nat.le_refl _)).2
 omega
theorem lt64 {a:Int} (h:In64 a):a.toNat<2 ^ 64:=by
 obtain ⟨h0,h1⟩:=h
 omega
theorem in_and {a b:Int} (h:ZaX a b):In64 (rkAnd a b):=by
 have:=Nat.and_lt_two_pow a.toNat (lt64 h.2)
 unfold rkAnd
 rw [Zi0 h.1.1 h.2.1]
 exact ⟨by omega,by omega⟩
theorem in_or {a b:Int} (h:ZaX a b):In64 (rkOr a b):=by
 have:=Nat.or_lt_two_pow (lt64 h.1) (lt64 h.2)
 unfold rkOr
 rw [Zla h.1.1 h.2.1]
 exact ⟨by omega,by omega⟩
theorem in_xor {a b:Int} (h:ZaX a b):In64 (rkXor a b):=by
 have:=Nat.xor_lt_two_pow (lt64 h.1) (lt64 h.2)
 unfold rkXor
 rw [ZmI h.1.1 h.2.1]
 exact ⟨by omega,by omega⟩
theorem ZbK (c:Int):In64 (c % 18446744073709551616):=⟨by omega,by omega⟩
theorem Zhj {a b:Int} (h:ZaX a b) (hb:¬ b=0):In64 (rkDiv a b)/\In64 (rkMod a b)/\rkAdd (rkMul (rkDiv a b) b) (rkMod a b)=a:=by
 obtain ⟨⟨a0,a1⟩,b0,b1⟩:=h
 have p:0<b:=by omega
 have d1:=Int.ediv_nonneg a0 b0
 have d2:=Int.ediv_le_self b a0
 have m1:=Int.emod_nonneg a hb
 have m2:=Int.emod_lt_of_pos a p
 have e:=Int.mul_ediv_add_emod a b
 rw [Int.mul_comm] at e
 unfold rkDiv rkMod rkMul rkAdd
 rw [if_neg hb,if_neg hb]
 have q:0<=a / b*b:=Int.mul_nonneg d1 b0
 generalize a / b*b=c at e q |-
 exact ⟨⟨d1,by omega⟩,⟨m1,by omega⟩,by omega⟩
theorem Zd4 {w:Str} {f:Int->Int->Int} (h:RK.lookup w=some f) (a b:Int) (hab:ZaX a b):In64 (f a b):=by
 have hm:=Zbw h
 simp only [RK,List.mem_cons,Prod.mk.injEq,List.not_mem_nil,or_false] at hm
 have z01:∀ p:Prop,[Decidable p]->In64 (if p then (1:Int) else 0):=fun p _=>by split<;>exact ⟨by decide,by decide⟩
 rcases hm with ⟨_,rfl⟩|⟨_,rfl⟩|⟨_,rfl⟩|⟨_,rfl⟩|⟨_,rfl⟩|⟨_,rfl⟩|⟨_,rfl⟩|⟨_,rfl⟩|⟨_,rfl⟩|⟨_,rfl⟩|⟨_,rfl⟩|⟨_,rfl⟩
 .exact ZbK _
 .exact ZbK _
 .exact ZbK _
 .by_cases hb:b=0
  .unfold rkDiv;rw [if_pos hb];exact ⟨by decide,by decide⟩
  .exact (Zhj hab hb).1
 .by_cases hb:b=0
  .unfold rkMod;rw [if_pos hb];exact ⟨by decide,by decide⟩
  .exact (Zhj hab hb).2.1
 .exact z01 _
 .exact z01 _
 .exact in_and hab
 .exact in_or hab
 .exact in_xor hab
 .unfold rkUp
  split
  .exact ⟨by decide,by decide⟩
  .exact ZbK _
 .unfold rkDown
  split
  .exact ⟨by decide,by decide⟩
  .obtain ⟨⟨a0,a1⟩,_⟩:=hab
   have p:(0:Int)<=2 ^ b.toNat:=Int.le_of_lt (Int.pow_pos (by decide))
   exact ⟨Int.ediv_nonneg a0 p,Int.lt_of_le_of_lt (Int.ediv_le_self _ a0) a1⟩
section
variable {A:Nat->Option AcI} {S0:Nat->AcS} {G:GR} {ds:List Dd} {x:FrS}
theorem Znj (X:FOk A x):In64 x.who:=by obtain ⟨i,_,e,h,_⟩:=X.who;rw [e];exact ⟨by omega,by show _<_;omega⟩
theorem ZmJ (X:FOk A x) (S:SOk (runS S0 ds)) (hG:GOk A S0 G x.depth) (hB:(ds.length:Int)+(x.given-x.used)<=89999/\x.given-x.used<=30000) {n:Option Int} (hl:4<=x.stack.length):Did A S0 G ds x "call" n:=by
 obtain ⟨s,a,c,g,v,e⟩:=sn4' hl
 have t:=t_sn (v:=v) e X
 have hx:=X.len
 exact Ze1 X S hG hB rfl (.inl ⟨rfl,a,c,g,v,e,rfl⟩) t.1 (by have:=t.2.2;simp at this;omega) ⟨rfl,rfl,rfl,rfl,rfl,t.2.1 a (by simp),t.2.1 g (by simp),Znj X,t.2.1 c (by simp),t.2.1 v (by simp)⟩ (.inl ⟨rfl,fun _=>rfl⟩)
theorem ZjD (X:FOk A x) (S:SOk (runS S0 ds)) (hG:GOk A S0 G x.depth) (hB:(ds.length:Int)+(x.given-x.used)<=89999/\x.given-x.used<=30000) {n:Option Int} (hl:3<=x.stack.length):Did A S0 G ds x "borrow" n:=by
 obtain ⟨s,a,g,v,e⟩:=sn3' hl
 have t:=t_sn (v:=v) e X
 have hx:=X.len
 exact Ze1 X S hG hB rfl (.inr (.inl ⟨rfl,a,g,v,e,rfl⟩)) t.1 (by have:=t.2.2;simp at this;omega) ⟨rfl,rfl,rfl,rfl,rfl,t.2.1 a (by simp),t.2.1 g (by simp),X.cal,X.coi,t.2.1 v (by simp)⟩ (.inr ⟨rfl,by show ("borrow" : Str) ≠ "call";decide⟩)
theorem ZmK (X:FOk A x) (S:SOk (runS S0 ds)) (hG:GOk A S0 G x.depth) (hB:(ds.length:Int)+(x.given-x.used)<=89999/\x.given-x.used<=30000) {n:Option Int} (hl:3<=x.stack.length):Did A S0 G ds x "look" n:=by
 obtain ⟨s,a,g,v,e⟩:=sn3' hl
 have t:=t_sn (v:=v) e X
 have hx:=X.len
 exact Ze1 X S hG hB rfl (.inr (.inr ⟨rfl,a,g,v,e,rfl⟩)) t.1 (by have:=t.2.2;simp at this;omega) ⟨rfl,rfl,rfl,rfl,rfl,t.2.1 a (by simp),t.2.1 g (by simp),Znj X,⟨show (0:Int)<=0 by decide,show (0:Int)<18446744073709551616 by decide⟩,t.2.1 v (by simp)⟩ (.inl ⟨rfl,fun h=>absurd h (by show ¬ ("look" : Str) = "call";decide)⟩)
theorem ZmL (X:FOk A x) (S:SOk (runS S0 ds)) (hG:GOk A S0 G x.depth) (hB:(ds.length:Int)+(x.given-x.used)<=89999/\x.given-x.used<=30000) {w:Str} {n:Option Int} {t l pr d r:Int} (hf:Zbq (w,n)) (e2:RT.lookup w=some (t,l,pr,d)) (e1:ZbJ w n=some r) (h1:t+r<=(x.stack.length:Int)) (h2:(x.stack.length:Int)-t+l<=24):Did A S0 G ds x w n:=by
 have hm:=Zbw e2
 simp only [RT,List.mem_cons,Prod.mk.injEq,List.not_mem_nil,or_false] at hm
 have hxl:=X.len
 rcases hm with ⟨rfl,rfl,rfl,rfl,rfl⟩|⟨rfl,rfl,rfl,rfl,rfl⟩|⟨rfl,rfl,rfl,rfl,rfl⟩|⟨rfl,rfl,rfl,rfl,rfl⟩|⟨rfl,rfl,rfl,rfl,rfl⟩|⟨rfl,rfl,rfl,rfl,rfl⟩|⟨rfl,rfl,rfl,rfl,rfl⟩|⟨rfl,rfl,rfl,rfl,rfl⟩|⟨rfl,rfl,rfl,rfl,rfl⟩|⟨rfl,rfl,rfl,rfl,rfl⟩|⟨rfl,rfl,rfl,rfl,rfl⟩|⟨rfl,rfl,rfl,rfl,rfl⟩|⟨rfl,rfl,rfl,rfl,rfl⟩|⟨rfl,rfl,rfl,rfl,rfl⟩|⟨rfl,rfl,rfl,rfl,rfl⟩|⟨rfl,rfl,rfl,rfl,rfl⟩|⟨rfl,rfl,rfl,rfl,rfl⟩|⟨rfl,rfl,rfl,rfl,rfl⟩|⟨rfl,rfl,rfl,rfl,rfl⟩|⟨rfl,rfl,rfl,rfl,rfl⟩|⟨rfl,rfl,rfl,rfl,rfl⟩|⟨rfl,rfl,rfl,rfl,rfl⟩|⟨rfl,rfl,rfl,rfl,rfl⟩|⟨rfl,rfl,rfl,rfl,rfl⟩|⟨rfl,rfl,rfl,rfl,rfl⟩|⟨rfl,rfl,rfl,rfl,rfl⟩|⟨rfl,rfl,rfl,rfl,rfl⟩|⟨rfl,rfl,rfl,rfl,rfl⟩|⟨rfl,rfl,rfl,rfl,rfl⟩|⟨rfl,rfl,rfl,rfl,rfl⟩|⟨rfl,rfl,rfl,rfl,rfl⟩
 .obtain ⟨k,rfl,hk⟩:=hf.2.1 rfl;have hr:r=0:=(Option.some.inj e1).symm;exact Zmw X S hk (by omega)
 .have hr:r=0:=(Option.some.inj e1).symm;exact Zmy X S (by omega)
 .obtain ⟨k,rfl,h0,_⟩:=hf.2.2.1 rfl;have hr:k=r:=Option.some.inj e1;exact ZmB X S h0 (by omega) (by omega)
 .obtain ⟨k,rfl,h0,hs⟩:=hf.2.2.1 rfl;have hr:k=r:=Option.some.inj e1;exact ZmC X S (hs rfl) (by omega)
 .have hr:r=0:=(Option.some.inj e1).symm;exact ZbR X S rfl rfl rfl (Zd4 (w := "add") rfl) (by omega)
 .have hr:r=0:=(Option.some.inj e1).symm;exact ZbR X S rfl rfl rfl (Zd4 (w := "minus") rfl) (by omega)
 .have hr:r=0:=(Option.some.inj e1).symm;exact ZbR X S rfl rfl rfl (Zd4 (w := "times") rfl) (by omega)
 .have hr:r=0:=(Option.some.inj e1).symm;exact ZbR X S rfl rfl rfl (Zd4 (w := "over") rfl) (by omega)
 .have hr:r=0:=(Option.some.inj e1).symm;exact ZbR X S rfl rfl rfl (Zd4 (w := "rest") rfl) (by omega)
 .have hr:r=0:=(Option.some.inj e1).symm;exact ZbR X S rfl rfl rfl (Zd4 (w := "below") rfl) (by omega)
 .have hr:r=0:=(Option.some.inj e1).symm;exact ZbR X S rfl rfl rfl (Zd4 (w := "same") rfl) (by omega)
 .have hr:r=0:=(Option.some.inj e1).symm;exact ZbR X S rfl rfl rfl (Zd4 (w := "both") rfl) (by omega)
 .have hr:r=0:=(Option.some.inj e1).symm;exact ZbR X S rfl rfl rfl (Zd4 (w := "either") rfl) (by omega)
 .have hr:r=0:=(Option.some.inj e1).symm;exact ZbR X S rfl rfl rfl (Zd4 (w := "unlike") rfl) (by omega)
 .have hr:r=0:=(Option.some.inj e1).symm;exact ZbR X S rfl rfl rfl (Zd4 (w := "up") rfl) (by omega)
 .have hr:r=0:=(Option.some.inj e1).symm;exact ZbR X S rfl rfl rfl (Zd4 (w := "down") rfl) (by omega)
 .obtain ⟨k,rfl,h0⟩:=hf.2.2.2 rfl;exact Zmx X S h0
 .obtain ⟨k,rfl,h0⟩:=hf.2.2.2 rfl;have hr:r=0:=(Option.some.inj e1).symm;exact ZjC X S h0 (by omega)
 .have hr:r=0:=(Option.some.inj e1).symm;exact ZmD X S (by omega)
 .have hr:r=0:=(Option.some.inj e1).symm;exact ZmG X S (by omega)
 .have hr:r=0:=(Option.some.inj e1).symm;exact did_me X S (by omega)
 .have hr:r=0:=(Option.some.inj e1).symm;exact Zmt X S (by omega)
 .have hr:r=0:=(Option.some.inj e1).symm;exact Zmu X S (by omega)
 .have hr:r=0:=(Option.some.inj e1).symm;exact Zmv X S (by omega)
 .have hr:r=0:=(Option.some.inj e1).symm;exact ZmE X S (by omega)
 .have hr:r=0:=(Option.some.inj e1).symm;exact ZmF X S (by omega)
 .have hr:r=0:=(Option.some.inj e1).symm;exact ZmJ X S hG hB (by omega)
 .have hr:r=0:=(Option.some.inj e1).symm;exact ZjD X S hG hB (by omega)
 .have hr:r=0:=(Option.some.inj e1).symm;exact ZmK X S hG hB (by omega)
 .have hr:r=0:=(Option.some.inj e1).symm;exact Zmz X S (by omega)
 .have hr:r=0:=(Option.some.inj e1).symm;exact ZmA X S (by omega)
theorem Zle {w:Str} {t l pr d:Int} (e2:RT.lookup w=some (t,l,pr,d)):1<=pr/\1<=d:=by
 have hm:=Zbw e2
 simp only [RT,List.mem_cons,Prod.mk.injEq,List.not_mem_nil,or_false] at hm
 rcases hm with ⟨rfl,rfl,rfl,rfl,rfl⟩|⟨rfl,rfl,rfl,rfl,rfl⟩|⟨rfl,rfl,rfl,rfl,rfl⟩|⟨rfl,rfl,rfl,rfl,rfl⟩|⟨rfl,rfl,rfl,rfl,rfl⟩|⟨rfl,rfl,rfl,rfl,rfl⟩|⟨rfl,rfl,rfl,rfl,rfl⟩|⟨rfl,rfl,rfl,rfl,rfl⟩|⟨rfl,rfl,rfl,rfl,rfl⟩|⟨rfl,rfl,rfl,rfl,rfl⟩|⟨rfl,rfl,rfl,rfl,rfl⟩|⟨rfl,rfl,rfl,rfl,rfl⟩|⟨rfl,rfl,rfl,rfl,rfl⟩|⟨rfl,rfl,rfl,rfl,rfl⟩|⟨rfl,rfl,rfl,rfl,rfl⟩|⟨rfl,rfl,rfl,rfl,rfl⟩|⟨rfl,rfl,rfl,rfl,rfl⟩|⟨rfl,rfl,rfl,rfl,rfl⟩|⟨rfl,rfl,rfl,rfl,rfl⟩|⟨rfl,rfl,rfl,rfl,rfl⟩|⟨rfl,rfl,rfl,rfl,rfl⟩|⟨rfl,rfl,rfl,rfl,rfl⟩|⟨rfl,rfl,rfl,rfl,rfl⟩|⟨rfl,rfl,rfl,rfl,rfl⟩|⟨rfl,rfl,rfl,rfl,rfl⟩|⟨rfl,rfl,rfl,rfl,rfl⟩|⟨rfl,rfl,rfl,rfl,rfl⟩|⟨rfl,rfl,rfl,rfl,rfl⟩|⟨rfl,rfl,rfl,rfl,rfl⟩|⟨rfl,rfl,rfl,rfl,rfl⟩|⟨rfl,rfl,rfl,rfl,rfl⟩
 all_goals exact ⟨by decide,by decide⟩
theorem ZmM {w:Str} {n:Option Int} (hf:Zbq (w,n)):∃ r,ZbJ w n=some r/\0<=r:=by
 unfold ZbJ
 cases h:inS w ["copy", "swap"] with
 | true =>
  obtain ⟨k,hk,h0,_⟩:=hf.2.2.1 h
  exact ⟨k,by rw [if_pos rfl];exact hk,h0⟩
 | false=>exact ⟨0,by rw [if_neg (by decide)],Int.le_refl 0⟩
end
section
end
section
variable {A:Nat->Option AcI} {S0:Nat->AcS} {G:GR} {rows:List Row}
theorem Zlf {A:Nat->Option AcI} {x:FrS} {w:Str} {t l pr d:Int} (e2:RT.lookup w=some (t,l,pr,d)) (h:t<=(x.stack.length:Int)):∃ b,Zb2 x w b:=by
 by_cases q:w = "call"
 .subst q
  have e:((4:Int),(2:Int),(8:Int),(12:Int))=(t,l,pr,d):=Option.some.inj e2
  cases e
  obtain ⟨s,a,c,g,v,e⟩:=sn4' (st:=x.stack) (by omega)
  exact ⟨_,.inr ⟨rfl,s++[a],c,g,v,by rw [e,List.append_assoc];rfl,rfl⟩⟩
 .exact ⟨false,.inl ⟨q,rfl⟩⟩
theorem ZmN {x:FrS} {S:Nat->AcS} {w:Str} {t l pr d:Int} (X:FOk A x) (e2:RT.lookup w=some (t,l,pr,d)) (h:t<=(x.stack.length:Int)):∃ b,fillsR A S x w b:=by
 by_cases q:w = "save"
 .subst q
  have e:((2:Int),(0:Int),(5:Int),(12:Int))=(t,l,pr,d):=Option.some.inj e2
  cases e
  obtain ⟨s,p,v,e⟩:=sn2' (st:=x.stack) (by omega)
  obtain ⟨i,y,ew,hi,hy⟩:=X.who
  by_cases hv:v=0
  .exact ⟨false,.inr ⟨rfl,s,p,v,e,.inl ⟨hv,rfl⟩⟩⟩
  .exact ⟨_,.inr ⟨rfl,s,p,v,e,.inr ⟨hv,i,y,ew,hi,hy,rfl⟩⟩⟩
 .exact ⟨false,.inl ⟨q,rfl⟩⟩
theorem turn (hr:∀ r∈rows,Zbq r) {ds:List Dd} {x:FrS} (hG:GOk A S0 G x.depth) (X:FOk A x) (S:SOk (runS S0 ds)) (hB:(ds.length:Int)+(x.given-x.used)<=90000/\x.given-x.used<=30000):∃ ds1 x' add,OnW A S0 G rows ds x ds1 x' add/\x'.whose=x.whose/\x'.given=x.given/\x'.depth=x.depth/\SOk (runS S0 ds1)/\(x.used<=x'.used/\x'.used<=x.given)/\ds1.length<=ds.length+(x'.used-x.used).toNat/\((∃ e,x'.fin=some e/\In64 x'.answer)\/(FOk A x'/\x.used<x'.used)):=by
 have ux:=X.use
 have z0:In64 0:=⟨by decide,by decide⟩
 by_cases h:(rows.length:Int)<=x.row
 .exact ⟨ds,{ x with fin:=some ("well" : Str),answer:=0 },[],.inl ⟨h,rfl,rfl,rfl⟩,rfl,rfl,rfl,S,⟨Int.le_refl _,ux.2⟩,Nat.le_add_right _ _,.inl ⟨_,rfl,z0⟩⟩
 obtain ⟨i,hi⟩:∃ i:Nat,x.row=(i:Int):=⟨x.row.toNat,by have:=X.row;omega⟩
 obtain ⟨⟨w,n⟩,hw⟩:∃ r,rows[i]?=some r:=⟨_,List.getElem?_eq_getElem (by omega)⟩
 have hf:=hr (w,n) (List.mem_of_getElem? hw)
 obtain ⟨⟨t,l,pr,d⟩,e2⟩:=hf.1
 have e2:RT.lookup w=some (t,l,pr,d):=e2
 obtain ⟨r,e1,r0⟩:=ZmM hf
 have en:∀ e,aheadR A (runS S0 ds) x w n (some e)->∃ ds1 x' add,OnW A S0 G rows ds x ds1 x' add/\x'.whose=x.whose/\x'.given=x.given/\x'.depth=x.depth/\SOk (runS S0 ds1)/\(x.used<=x'.used/\x'.used<=x.given)/\ds1.length<=ds.length+(x'.used-x.used).toNat/\((∃ e,x'.fin=some e/\In64 x'.answer)\/(FOk A x'/\x.used<x'.used)):=fun e ha =>
  ⟨ds,{ x with fin:=some e,answer:=0 },[],.inr ⟨i,w,n,hi,hw,.inl ⟨e,ha,rfl,rfl,rfl⟩⟩,rfl,rfl,rfl,S,⟨Int.le_refl _,ux.2⟩,Nat.le_add_right _ _,.inl ⟨_,rfl,z0⟩⟩
 by_cases c1:(x.stack.length:Int)<t+r
 .exact en "short" ⟨r,t,l,pr,d,e1,e2,.inl ⟨c1,rfl⟩⟩
 by_cases c2:24<(x.stack.length:Int)-(t+r)+(l+r)
 .exact en "full" ⟨r,t,l,pr,d,e1,e2,.inr (.inl ⟨c1,c2,rfl⟩)⟩
 obtain ⟨b1,hb1⟩:=Zlf (A:=A) (x:=x) e2 (by omega)
 obtain ⟨b2,hb2⟩:=ZmN (S:=runS S0 ds) X e2 (by omega)
 cases hb:barB x w b1 with
 | true=>exact en "barred" ⟨r,t,l,pr,d,e1,e2,.inr (.inr ⟨c1,c2,b1,b2,hb1,hb2,.inl ⟨hb,rfl⟩⟩)⟩
 | false =>
  have pp:=Zle e2
  by_cases c3:x.given-x.used<(if (b1||b2)=true then d else pr)
  .exact en "dry" ⟨r,t,l,pr,d,e1,e2,.inr (.inr ⟨c1,c2,b1,b2,hb1,hb2,.inr (.inl ⟨hb,c3,rfl⟩)⟩)⟩
  have ahead:aheadR A (runS S0 ds) x w n none:=⟨r,t,l,pr,d,e1,e2,.inr (.inr ⟨c1,c2,b1,b2,hb1,hb2,.inr (.inr ⟨hb,c3,rfl⟩)⟩)⟩
  obtain ⟨c,hc⟩:∃ c:Int,(if (b1||b2)=true then d else pr)=c:=⟨_,rfl⟩
  have c0:1<=c:=by rw [<- hc];split;exact pp.2;exact pp.1
  rw [hc] at c3
  have X1:FOk A (ZcC x c):=⟨X.fin,X.who,X.cal,X.coi,X.wor,X.stk,X.len,by have:=X.row;show 0<=x.row+1;omega,by show 0<=x.used+c/\x.used+c<=x.given;omega,X.dep⟩
  obtain ⟨ds',x',ad,hD,a1,a2,a3,a4,a5,a6,a7⟩:=ZmL X1 S hG (by show (ds.length:Int)+(x.given-(x.used+c))<=89999/\x.given-(x.used+c)<=30000;omega) hf e2 e1 (by show t+r<=(x.stack.length:Int);omega) (by show (x.stack.length:Int)-t+l<=24;omega)
  have a4:x.used+c<=x'.used/\x'.used<=x.given:=a4
  have a6:ds'.length<=ds.length+1+(x'.used-(x.used+c)).toNat:=a6
  refine ⟨ds',x',.int x.row::ad,.inr ⟨i,w,n,hi,hw,.inr ⟨ahead,b1,b2,t,l,pr,d,ad,hb1,hb2,e2,by rw [hc];exact hD,rfl⟩⟩,a1,a2,a3,a5,by omega,by omega,?_⟩
  rcases a7 with h|h
  .exact .inl h
  .exact .inr ⟨h,by omega⟩
theorem Zlg {dd:Int} (hG:GOk A S0 G dd) (hr:∀ r∈rows,Zbq r):∀ (m:Nat) (ds:List Dd) (x:FrS),x.depth=dd->FOk A x->SOk (runS S0 ds)->((ds.length:Int)+(x.given-x.used)<=90000/\x.given-x.used<=30000)->(x.given-x.used).toNat<=m->∃ k ds2 y s,RunW A S0 G rows k ds x ds2 y s/\k<=m+1/\(∃ e,y.fin=some e)/\In64 y.answer/\(x.used<=y.used/\y.used<=x.given)/\y.given=x.given/\SOk (runS S0 ds2)/\ds2.length<=ds.length+(y.used-x.used).toNat:=by
 intro m
 induction m with
 | zero =>
  intro ds x ed X S hB hm
  obtain ⟨ds1,x',add,o,w,g,dp,s1,u,l,h⟩:=turn hr (by rw [ed];exact hG) X S hB
  rcases h with ⟨e,he,ha⟩|⟨_,h⟩
  .exact ⟨1,ds1,x',add++[],.step X.fin o (Nat.le_trans X.len (by decide)) w (.done (by rw [he];intro z;cases z)),by omega,⟨e,he⟩,ha,u,g,s1,l⟩
  .exfalso;omega
 | succ m ih =>
  intro ds x ed X S hB hm
  obtain ⟨ds1,x',add,o,w,g,dp,s1,u,l,h⟩:=turn hr (by rw [ed];exact hG) X S hB
  rcases h with ⟨e,he,ha⟩|⟨X',h⟩
  .exact ⟨1,ds1,x',add++[],.step X.fin o (Nat.le_trans X.len (by decide)) w (.done (by rw [he];intro z;cases z)),by omega,⟨e,he⟩,ha,u,g,s1,l⟩
  .obtain ⟨k,ds2,y,s,hr2,hk,hf,ha,hu,hg,hs,hl⟩:=ih ds1 x' (dp.trans ed) X' s1 (by rw [g];omega) (by rw [g];omega)
   exact ⟨k+1,ds2,y,add++s,.step X.fin o (Nat.le_trans X.len (by decide)) w hr2,by omega,hf,ha,by omega,hg.trans g,hs,by omega⟩
theorem go_of (hr:∀ i y,i<16->A i=some y->∀ r∈(S0 i).rows,Zbq r) {n:Nat} {ds:List Dd} {x:FrS} (hG:GOk A S0 (GoW A S0 n) x.depth) (S:SOk (runS S0 ds)) (I:InOk A (runS S0 ds) x) (hb1:(ds.length:Int)+x.given<=89999) (hb2:x.given<=30000):∃ ds' y st,GoW A S0 (n+1) ds x ds' y st/\Outc S0 ds x ds' y:=by
 obtain ⟨i,ac,ewh,hi,hA⟩:=I.wh
 have X:=I.ok
 have ux:=X.use
 have uz:=I.z
 have key:(∀ d,mvD x=some d->fitsD A d)->SOk (runS S0 (ds++(mvD x).toList))->(ds++(mvD x).toList).length<=ds.length+1->∃ ds' y st,GoW A S0 (n+1) ds x ds' y st/\Outc S0 ds x ds' y:=fun hfit S1 hl1=>by
  obtain ⟨k,ds2,y,s,hrun,hk,hf,ha,hu,hg,hs,hl⟩:=Zlg hG (hr i ac hi hA) (x.given-x.used).toNat (ds++(mvD x).toList) x rfl X S1 (by omega) (Nat.le_refl _)
  refine ⟨(if y.fin=some ("well" : Str) then ds2 else ds),y,_,⟨i,ac,k,ds2,s,X.fin,ewh,hi,hA,hfit,hrun,by omega,by omega,rfl,rfl⟩,hf,ha,hu,hg,?_,?_⟩
  .split
   .exact hs
   .exact S
  .split
   .omega
   .omega
 by_cases hm:x.kind = "call" /\ 0<x.coin
 .have e:mvD x=some (.move x.caller x.who x.coin):=if_pos hm
  obtain ⟨ic,zc,ec,hic,hac,hle⟩:=I.mv hm.1 hm.2
  obtain ⟨iw,aw,ew,hiw,haw⟩:=X.who
  refine key (fun d hd=>?_) ?_ ?_
  .rw [e] at hd;cases hd
   rw [ec,ew]
   exact ⟨⟨ic,zc,rfl,hic,hac⟩,iw,aw,rfl,hiw,haw⟩
  .rw [e,ec,ew,Zio]
   exact S.move (A:=A) hic hiw hac haw (by omega) hle
  .rw [e,List.length_append];exact Nat.le_refl _
 .have e:mvD x=none:=if_neg hm
  refine key (fun d hd=>by rw [e] at hd;(cases hd)) ?_ ?_
  .rw [e,show ds++(none:Option Dd).toList=ds from List.append_nil _];exact S
  .rw [e,show ds++(none:Option Dd).toList=ds from List.append_nil _];omega
theorem ZmO (hr:∀ i y,i<16->A i=some y->∀ r∈(S0 i).rows,Zbq r):∀ (n:Nat) (ds:List Dd) (x:FrS),SOk (runS S0 ds)->InOk A (runS S0 ds) x->8<=x.depth+(n:Int)->(ds.length:Int)+x.given<=89999->x.given<=30000->∃ ds' y st,GoW A S0 (n+1) ds x ds' y st/\Outc S0 ds x ds' y:=by
 intro n
 induction n with
 | zero =>
  intro ds x S I hd hb1 hb2
  exact go_of hr (fun ds y _ I2 h _ _=>by have:=I2.ok.dep.2;exfalso;omega) S I hb1 hb2
 | succ n ih =>
  intro ds x S I hd hb1 hb2
  exact go_of hr (fun ds y S2 I2 h h1 h2=>ih ds y S2 I2 (by omega) h1 h2) S I hb1 hb2
end
noncomputable def Zcb:Nat->Dt->Prop
 | 0=>fun _=>False
 | n+1=>fun d=>∃ y st e,d=treeD y st/\y.fin=some e/\st.length<=200000/\∀ c∈st,(∃ i,c=.int i)\/Zcb n c
noncomputable def StG (n:Nat) (G:GR):Prop:=∀ ds x ds' y st,G ds x ds' y st->x.looking=true->mvD x=none->ds'=ds/\y.looking=true/\(∃ e,y.fin=some e)/\st.length<=200000/\∀ c∈st,(∃ i,c=.int i)\/Zcb n c
theorem Zoj {w:Str} {D:RD} (h:RDL.lookup w=some D) {x x':FrS} {n:Option Int} (hD:D x w n x'):x'.looking=x.looking:=by
 have hm:=Zbw h
 simp only [RDL,List.mem_cons,Prod.mk.injEq,List.not_mem_nil,or_false] at hm
 rcases hm with ⟨rfl,rfl⟩|⟨rfl,rfl⟩|⟨rfl,rfl⟩|⟨rfl,rfl⟩|⟨rfl,rfl⟩|⟨rfl,rfl⟩|⟨rfl,rfl⟩|⟨rfl,rfl⟩|⟨rfl,rfl⟩|⟨rfl,rfl⟩|⟨rfl,rfl⟩|⟨rfl,rfl⟩|⟨rfl,rfl⟩|⟨rfl,rfl⟩|⟨rfl,rfl⟩|⟨rfl,rfl⟩|⟨rfl,rfl⟩|⟨rfl,rfl⟩|⟨rfl,rfl⟩|⟨rfl,rfl⟩|⟨rfl,rfl⟩|⟨rfl,rfl⟩|⟨rfl,rfl⟩|⟨rfl,rfl⟩
 .obtain ⟨_,_,rfl⟩:=hD;rfl
 .obtain ⟨_,_,_,rfl⟩:=hD;rfl
 .obtain ⟨_,_,_,_,_,rfl⟩:=hD;rfl
 .obtain ⟨_,_,_,_,_,_,rfl⟩:=hD;rfl
 .obtain ⟨_,_,_,_,_,_,_,rfl⟩:=hD;rfl
 .obtain ⟨_,_,_,_,_,_,_,rfl⟩:=hD;rfl
 .obtain ⟨_,_,_,_,_,_,_,rfl⟩:=hD;rfl
 .obtain ⟨_,_,_,_,_,_,_,rfl⟩:=hD;rfl
 .obtain ⟨_,_,_,_,_,_,_,rfl⟩:=hD;rfl
 .obtain ⟨_,_,_,_,_,_,_,rfl⟩:=hD;rfl
 .obtain ⟨_,_,_,_,_,_,_,rfl⟩:=hD;rfl
 .obtain ⟨_,_,_,_,_,_,_,rfl⟩:=hD;rfl
 .obtain ⟨_,_,_,_,_,_,_,rfl⟩:=hD;rfl
 .obtain ⟨_,_,_,_,_,_,_,rfl⟩:=hD;rfl
 .obtain ⟨_,_,_,_,_,_,_,rfl⟩:=hD;rfl
 .obtain ⟨_,_,_,_,_,_,_,rfl⟩:=hD;rfl
 .obtain ⟨_,_,rfl⟩:=hD;rfl
 .obtain ⟨_,_,_,_,_,rfl⟩:=hD;rfl
 .rw [show x'=_ from hD]
 .rw [show x'=_ from hD]
 .rw [show x'=_ from hD]
 .rw [show x'=_ from hD]
 .obtain ⟨_,_,_,rfl⟩:=hD;rfl
 .obtain ⟨_,_,_,rfl⟩:=hD;rfl
section
variable {A:Nat->Option AcI} {S0:Nat->AcS} {G:GR} {rows:List Row} {n:Nat}
theorem ZmP (hG:StG n G) {ds ds1:List Dd} {x x':FrS} {add:List Dt} (o:OnW A S0 G rows ds x ds1 x' add) (hl:x.looking=true):ds1=ds/\x'.looking=true/\add.length<=2/\∀ c∈add,(∃ i,c=.int i)\/Zcb (n+1) c:=by
 rcases o with ⟨_,rfl,rfl,rfl⟩|⟨i,w,nn,_,_,h⟩
 .exact ⟨rfl,hl,by decide,fun _ h=>nomatch h⟩
 rcases h with ⟨e,_,rfl,rfl,rfl⟩|⟨ha,b1,b2,t,l,pr,d,ad,hb1,hb2,e2,hD,rfl⟩
 .exact ⟨rfl,hl,by decide,fun _ h=>nomatch h⟩
 obtain ⟨r,t',l',pr',d',_,_,ha⟩:=ha
 have hb:∃ b,Zb2 x w b/\barB x w b=false:=by
  rcases ha with ⟨_,z⟩|⟨_,_,z⟩|⟨_,_,c1,c2,k1,_,z⟩
  .cases z
  .cases z
  .rcases z with ⟨_,z⟩|⟨_,_,z⟩|⟨z,_,_⟩
   .cases z
   .cases z
   .exact ⟨c1,k1,z⟩
 obtain ⟨b,kb,hbar⟩:=hb
 unfold barB at hbar
 rw [hl,Bool.true_and,Bool.or_eq_false_iff] at hbar
 have int1:∀ c∈([.int x.row]:List Dt),(∃ i,c=.int i)\/Zcb (n+1) c:=fun c hc=>.inl ⟨_,List.mem_singleton.1 hc⟩
 cases hD with
 | pure _ h hD=>exact ⟨rfl,(Zoj h hD).trans hl,show 1<=2 by decide,int1⟩
 | load=>exact ⟨rfl,hl,show 1<=2 by decide,int1⟩
 | coin=>exact ⟨rfl,hl,show 1<=2 by decide,int1⟩
 | save=>exact absurd hbar.1 (by decide)
 | note=>exact absurd hbar.1 (by decide)
 | call hC h =>
  obtain ⟨s,y,y',st,e,hO,rfl,rfl,_,_,h⟩:=h
  have hy:y.looking=true/\mvD y=none/\y.fin=none:=by
   rcases hO with ⟨rfl,slot,c,asks,word,es,rfl⟩|⟨rfl,slot,asks,word,es,rfl⟩|⟨rfl,slot,asks,word,es,rfl⟩
   .refine ⟨hl,if_neg fun z=>?_,rfl⟩
    rcases kb with ⟨q,_⟩|⟨_,s2,c2,u2,v2,e3,hc2⟩
    .exact q rfl
    .have es:x.stack=s++[slot,c,asks,word]:=es
     rw [es] at e3
     have:s++[slot]++[c,asks,word]=s2++[c2,u2,v2]:=by rw [List.append_assoc];exact e3
     have q:=(List.append_inj' this rfl).2
     cases q
     rw [hc2] at hbar
     exact absurd z.2 (of_decide_eq_false hbar.2)
   .exact ⟨hl,if_neg fun z=>absurd z.1 (by show ¬ ("borrow" : Str) = "call";decide),rfl⟩
   .exact ⟨rfl,if_neg fun z=>absurd z.1 (by show ¬ ("look" : Str) = "call";decide),rfl⟩
  have fin:∀ st':List Dt,(∃ e,y'.fin=some e)->st'.length<=200000->(∀ c∈st',(∃ i,c=.int i)\/Zcb n c)->∀ c∈([.int x.row,treeD y' st']:List Dt),(∃ i,c=.int i)\/Zcb (n+1) c:=fun st' hf hl hs c hc=>by
   rcases List.mem_cons.1 hc with rfl|hc
   .exact .inl ⟨_,rfl⟩
   .obtain ⟨e,he⟩:=hf
    exact .inr ⟨y',st',e,List.mem_singleton.1 hc,he,hl,hs⟩
  rcases h with ⟨e1,_,rfl,rfl,rfl⟩|⟨_,h⟩
  .exact ⟨rfl,hl,Nat.le_refl 2,fin [] ⟨e1,rfl⟩ (by decide) (fun _ h=>nomatch h)⟩
  .obtain ⟨q1,_,q3,q4,q5⟩:=hG _ _ _ _ _ h hy.1 hy.2.1
   exact ⟨q1,hl,Nat.le_refl 2,fin st q3 q4 q5⟩
theorem Zlh (hG:StG n G):∀ {k:Nat} {ds ds2:List Dd} {x y:FrS} {s:List Dt},RunW A S0 G rows k ds x ds2 y s->x.looking=true->ds2=ds/\y.looking=true/\(∃ e,y.fin=some e)/\s.length<=2*k/\∀ c∈s,(∃ i,c=.int i)\/Zcb (n+1) c:=by
 intro k ds ds2 x y s h
 induction h with
 | done h =>
  intro hl
  refine ⟨rfl,hl,?_,Nat.zero_le _,fun _ h=>nomatch h⟩
  rename_i x
  cases e:x.fin with
  | none=>exact absurd e h
  | some z=>first|exact ⟨z,rfl⟩|exact ⟨z,e⟩
 | step h o l e q ih =>
  intro hl
  obtain ⟨rfl,h2,h3,h4⟩:=ZmP hG o hl
  obtain ⟨i1,i2,i3,i4,i5⟩:=ih h2
  exact ⟨i1,i2,i3,by rw [List.length_append];omega,fun c hc=>(List.mem_append.1 hc).elim (h4 c) (i5 c)⟩
theorem Zi1:∀ n,StG n (GoW A S0 n)
 | 0=>fun _ _ _ _ _ h=>h.elim
 | n+1=>fun ds x ds' y st h hl hm=>by
  obtain ⟨i,ac,k,ds1,st1,_,_,_,_,_,hr,hk,_,rfl,rfl⟩:=h
  rw [hm,show ds++(none:Option Dd).toList=ds from List.append_nil _] at hr
  obtain ⟨rfl,h2,h3,h4,h5⟩:=Zlh (Zi1 n) hr hl
  rw [hm]
  refine ⟨by split<;>rfl,h2,h3,by show ([]++st1).length<=_;rw [List.nil_append];omega,fun c hc=>h5 c hc⟩
end
theorem Zip {m:Nat}:∀ {st:List Dt},(∀ c∈st,c.dep<=m)->Dt.deps st<=m
 | [],_=>Nat.zero_le _
 | d::r,h=>by
  unfold Dt.deps
  exact Nat.max_le.2 ⟨h d (List.mem_cons_self ..),Zip fun c hc=>h c (List.mem_cons_of_mem _ hc)⟩
theorem Zi2 {y:FrS} {st:List Dt} {e:Str} {m:Nat} (hf:y.fin=some e) (h:∀ c∈st,c.dep<=m):(treeD y st).dep<=m+2:=by
 unfold treeD
 rw [hf]
 have:=Zip h
 simp only [Dt.dep,Dt.deps,endD]
 omega
theorem Zhk:∀ (n:Nat) (d:Dt),Zcb n d->d.dep<=2*n
 | 0,_,h=>h.elim
 | n+1,d,h=>by
  obtain ⟨y,st,e,rfl,hf,_,hs⟩:=h
  refine Nat.le_trans (Zi2 (m:=2*n) hf fun c hc=>?_) (by omega)
  rcases hs c hc with ⟨i,rfl⟩|h
  .exact Nat.zero_le _
  .exact Zhk n c h
theorem Zok {w:Str} {D:RD} (h:RDL.lookup w=some D) {x x':FrS} {n:Option Int} (hD:D x w n x'):x'.kind=x.kind:=by
 have hm:=Zbw h
 simp only [RDL,List.mem_cons,Prod.mk.injEq,List.not_mem_nil,or_false] at hm
 rcases hm with ⟨rfl,rfl⟩|⟨rfl,rfl⟩|⟨rfl,rfl⟩|⟨rfl,rfl⟩|⟨rfl,rfl⟩|⟨rfl,rfl⟩|⟨rfl,rfl⟩|⟨rfl,rfl⟩|⟨rfl,rfl⟩|⟨rfl,rfl⟩|⟨rfl,rfl⟩|⟨rfl,rfl⟩|⟨rfl,rfl⟩|⟨rfl,rfl⟩|⟨rfl,rfl⟩|⟨rfl,rfl⟩|⟨rfl,rfl⟩|⟨rfl,rfl⟩|⟨rfl,rfl⟩|⟨rfl,rfl⟩|⟨rfl,rfl⟩|⟨rfl,rfl⟩|⟨rfl,rfl⟩|⟨rfl,rfl⟩
 .obtain ⟨_,_,rfl⟩:=hD;rfl
 .obtain ⟨_,_,_,rfl⟩:=hD;rfl
 .obtain ⟨_,_,_,_,_,rfl⟩:=hD;rfl
 .obtain ⟨_,_,_,_,_,_,rfl⟩:=hD;rfl
 .obtain ⟨_,_,_,_,_,_,_,rfl⟩:=hD;rfl
 .obtain ⟨_,_,_,_,_,_,_,rfl⟩:=hD;rfl
 .obtain ⟨_,_,_,_,_,_,_,rfl⟩:=hD;rfl
 .obtain ⟨_,_,_,_,_,_,_,rfl⟩:=hD;rfl
 .obtain ⟨_,_,_,_,_,_,_,rfl⟩:=hD;rfl
 .obtain ⟨_,_,_,_,_,_,_,rfl⟩:=hD;rfl
 .obtain ⟨_,_,_,_,_,_,_,rfl⟩:=hD;rfl
 .obtain ⟨_,_,_,_,_,_,_,rfl⟩:=hD;rfl
 .obtain ⟨_,_,_,_,_,_,_,rfl⟩:=hD;rfl
 .obtain ⟨_,_,_,_,_,_,_,rfl⟩:=hD;rfl
 .obtain ⟨_,_,_,_,_,_,_,rfl⟩:=hD;rfl
 .obtain ⟨_,_,_,_,_,_,_,rfl⟩:=hD;rfl
 .obtain ⟨_,_,rfl⟩:=hD;rfl
 .obtain ⟨_,_,_,_,_,rfl⟩:=hD;rfl
 .rw [show x'=_ from hD]
 .rw [show x'=_ from hD]
 .rw [show x'=_ from hD]
 .rw [show x'=_ from hD]
 .obtain ⟨_,_,_,rfl⟩:=hD;rfl
 .obtain ⟨_,_,_,rfl⟩:=hD;rfl
section
variable {A:Nat->Option AcI} {S0:Nat->AcS} {G:GR} {rows:List Row}
theorem Zol {ds ds1:List Dd} {x x':FrS} {add:List Dt} (o:OnW A S0 G rows ds x ds1 x' add):x'.kind=x.kind:=by
 rcases o with ⟨_,_,rfl,_⟩|⟨i,w,nn,_,_,h⟩
 .rfl
 rcases h with ⟨e,_,_,rfl,_⟩|⟨_,b1,b2,t,l,pr,d,ad,_,_,_,hD,_⟩
 .rfl
 cases hD with
 | pure _ h hD=>exact (Zok (x:=ZcC x _) h hD)
 | load=>rfl
 | coin=>rfl
 | save=>rfl
 | note=>rfl
 | call hC h =>
  obtain ⟨s,y,y',st,e,_,rfl,_⟩:=h
  rfl
theorem ZmQ:∀ {k:Nat} {ds ds2:List Dd} {x y:FrS} {s:List Dt},RunW A S0 G rows k ds x ds2 y s->y.kind=x.kind:=by
 intro k ds ds2 x y s h
 induction h with
 | done h=>rfl
 | step h o l e q ih=>exact ih.trans (Zol o)
theorem Zli {n:Nat} {ds ds':List Dd} {x y:FrS} {st:List Dt} (h:GoW A S0 n ds x ds' y st):y.kind=x.kind:=by
 cases n with
 | zero=>exact h.elim
 | succ n =>
  obtain ⟨i,ac,k,ds1,st1,_,_,_,_,_,hr,_⟩:=h
  exact ZmQ hr
theorem Zom {o0 o3 t:Nat} {x3 xt:AcI} {word given asked:Int} (hr:∀ i y,i<16->A i=some y->∀ r∈(S0 i).rows,Zbq r) (S:SOk S0) (h3:A o3=some x3) (b3:o3<16) (ht:A t=some xt) (bt:t<16) (r3:(S0 o3).rows=[(("push" : Str),some (t:Int)),(("push" : Str),some asked),(("word" : Str),none),(("look" : Str),none),(("give" : Str),none)]) (ha:In64 asked) (hw:In64 word) (g0:10<=given) (g1:given<=1000) :
  ∃ y st y1 s1 rest,GoW A S0 10 [] (frame0 "call" (o3:Int) (o3:Int) (o0:Int) 0 word given 1 false) [] y st/\(∃ e,y.fin=some e)/\st=[.int 0,.int 1,.int 2,.int 3,treeD y1 s1]++rest/\(rest=[]\/rest=[.int 4])/\Zcb 10 (treeD y1 s1)/\y1.kind = "look" := by
 obtain ⟨gv,hgv⟩:∃ g:Int,(if given-9<asked then given-9 else asked)=g:=⟨_,rfl⟩
 have gb:0<=gv/\gv<=given-9:=by
  have:=ha.1
  rw [<- hgv];split<;>omega
 have I:InOk A (runS S0 []) (frame0 "look" (t:Int) (t:Int) (o3:Int) 0 word gv 2 true):=⟨⟨rfl,⟨t,xt,rfl,bt,ht⟩,⟨by show (0:Int)<=(o3:Int);omega,by show (o3:Int)<18446744073709551616;omega⟩,⟨by show (0:Int)<=0;decide,by show (0:Int)<18446744073709551616;decide⟩,hw,(fun _ h=>nomatch h),Nat.zero_le _,Int.le_refl 0,⟨Int.le_refl 0,gb.1⟩,by show (1:Int)<=2/\(2:Int)<=8;decide⟩,⟨t,xt,rfl,bt,ht⟩,rfl,fun h=>absurd h (by show ¬ ("look" : Str) = "call";decide)⟩
 obtain ⟨ds',y1,s1,hG,O⟩:=ZmO hr 8 [] _ S I (by show 8<=(2:Int)+8;decide) (by show ((0:Nat):Int)+gv<=89999;omega) (by show gv<=30000;omega)
 have hmv:mvD (frame0 "look" (t:Int) (t:Int) (o3:Int) 0 word gv 2 true)=none:=if_neg fun z=>absurd z.1 (by show ¬ ("look" : Str) = "call";decide)
 obtain ⟨rfl,_,⟨e1,he1⟩,hsl,hst⟩:=Zi1 9 _ _ _ _ _ hG rfl hmv
 have hs:Zcb 10 (treeD y1 s1):=⟨y1,s1,e1,rfl,he1,hsl,hst⟩
 have u0:0<=y1.used:=O.use.1
 have u1:y1.used<=gv:=O.use.2
 have hm3:mvD (frame0 "call" (o3:Int) (o3:Int) (o0:Int) 0 word given 1 false)=none:=if_neg fun z=>absurd z.2 (by show ¬ (0:Int)<0;decide)
 have hC:=ZiY (A:=A) (S0:=S0) (G:=GoW A S0 9) (ds:=[]) (w := "look") (x:=atS (frame0 "call" (o3:Int) (o3:Int) (o0:Int) 0 word given 1 false) [(t:Int),asked,word] ((4:Nat):Int) 9) (s:=[]) gv (.inr (.inr ⟨rfl,(t:Int),asked,word,rfl,rfl⟩)) (by decide) (.inr ⟨xt,by show (0:Int)<=(t:Int);omega,by show (t:Int)<16;omega,by show A ((t:Int)).toNat=some xt;rw [Int.toNat_natCast];exact ht,.inr (.inl ⟨by show ¬ (8:Int)<2;decide,by show ("look" : Str) ≠ "call";decide,rfl⟩)⟩) (by show (if given-9<asked then given-9 else asked)=gv;exact hgv) hG
 have go:∀ {k:Nat} {y:FrS} {rest:List Dt},RunW A S0 (GoW A S0 9) (S0 o3).rows k [] (atS (frame0 "call" (o3:Int) (o3:Int) (o0:Int) 0 word given 1 false) [y1.answer,wellI y1.fin] ((4:Nat):Int) (9+y1.used)) [] y rest->k<=10->∃ st,GoW A S0 10 [] (frame0 "call" (o3:Int) (o3:Int) (o0:Int) 0 word given 1 false) [] y st/\st=[.int 0,.int 1,.int 2,.int 3,treeD y1 s1]++rest:=fun {k y rest} q hk=>by
  refine ⟨_,⟨o3,x3,k+4,[],[.int 0,.int 1,.int 2,.int 3,treeD y1 s1]++rest,rfl,rfl,b3,h3,fun d hd=>by rw [hm3] at hd;(cases hd),?_,by omega,by decide,by split<;>rfl,by rw [hm3];rfl⟩,rfl⟩
  rw [hm3]
  show RunW A S0 (GoW A S0 9) (S0 o3).rows (k+4) [] (atS (frame0 "call" (o3:Int) (o3:Int) (o0:Int) 0 word given 1 false) [] ((0:Nat):Int) 0) _ _ _
  refine Zk5 (k:=(t:Int)) (u':=1) rfl (by rw [r3];rfl) (by show 0<24;decide) rfl (by show 1<=given;omega) ?_
  refine Zk5 (k:=asked) (u':=2) rfl (by rw [r3];rfl) (by show 1<24;decide) rfl (by show 2<=given;omega) ?_
  refine Zoe (w := "word") (v:=word) (u':=3) rfl (by rw [r3];rfl) (.inl ⟨rfl,rfl⟩) (by show 2<24;decide) rfl (by show 3<=given;omega) ?_
  exact Zof (w := "look") (st':=[y1.answer,wellI y1.fin]) (u':=9) (u2:=9+y1.used) (c:=6) rfl (by rw [r3];rfl) rfl rfl (by show (3:Int)<=((3:Nat):Int);decide) (by decide) (by show 3<=24;decide) (.inl ⟨by decide,rfl⟩) (by decide) rfl rfl rfl (by show 9<=given;omega) rfl hC q
 by_cases h10:9+y1.used+1<=given
 .obtain ⟨st,q1,q2⟩:=go (Zog (w := "give") (e := "well") (st:=[y1.answer]) (v:=wellI y1.fin) (u':=9+y1.used+1) rfl (by rw [r3];rfl) (.inl ⟨rfl,rfl⟩) (by show 1<24;decide) rfl (by show 9+y1.used+1<=given;omega)) (by decide)
  exact ⟨_,st,y1,s1,_,q1,⟨_,rfl⟩,q2,.inr rfl,hs,Zli hG⟩
 .obtain ⟨st,q1,q2⟩:=go (en_dry (w := "give") (nn:=none) (r:=0) (t:=1) (l:=0) (pr:=1) (d:=1) (c:=1) (b1:=false) (b2:=false) rfl (by rw [r3];rfl) rfl rfl (by show (1:Int)+0<=2;decide) (by show (2:Int)-1+0<=24;decide) (by show 2<=24;decide) (.inl ⟨by decide,rfl⟩) (.inl ⟨by decide,rfl⟩) rfl rfl (by show given<9+y1.used+1;omega)) (by decide)
  exact ⟨_,st,y1,s1,_,q1,⟨_,rfl⟩,q2,.inl rfl,hs,Zli hG⟩
end
theorem Zlj (S:Nat->AcS) {i:Nat} (hi:i<16) (v:AcS):totalC (List.range 16) (setS S i v)=totalC (List.range 16) S-(S i).coin+v.coin:=by
 unfold totalC
 have:(fun n=>(setS S i v n).coin)=fun n=>(S n).coin-(if n=i then (S i).coin else 0)+(if n=i then v.coin else 0):=by
  funext n
  unfold setS
  by_cases h:n=i
  .rw [if_pos h,if_pos h,if_pos h,h];omega
  .rw [if_neg h,if_neg h,if_neg h];omega
 rw [this,Ze0,Zhh i _ _ List.nodup_range (List.mem_range.2 hi),Zhh i _ _ List.nodup_range (List.mem_range.2 hi)]
structure SUpTo (S:Nat->AcS) (m:Int):Prop where
 st:∀ i q,In64 ((S i).store q)
 co:∀ i,i<16->0<=(S i).coin
 to:totalC (List.range 16) S<=m
theorem SUpTo.ok {S:Nat->AcS} {m:Int} (h:SUpTo S m) (hm:m<18446744073709551616):SOk S:=⟨h.st,h.co,Int.lt_of_le_of_lt h.to hm⟩
theorem SUpTo.none:SUpTo (fun _=>⟨0,0,0,[],fun _=>0⟩) 0:=⟨fun _ _=>⟨show (0:Int)<=0 by decide,show (0:Int)<18446744073709551616 by decide⟩,fun _ _=>Int.le_refl 0,by decide⟩
theorem SUpTo.put {S:Nat->AcS} {m c:Int} (h:SUpTo S m) {i:Nat} (hi:i<16) {v:AcS} (hv:∀ q,In64 (v.store q)) (h0:0<=v.coin) (hc:v.coin<=c):SUpTo (setS S i v) (m+c):=by
 refine ⟨fun j q=>?_,fun j hj=>?_,?_⟩
 .unfold setS
  split
  .exact hv q
  .exact h.st j q
 .unfold setS
  split
  .exact h0
  .exact h.co j hj
 .rw [Zlj S hi]
  have:=h.co i hi
  have:=h.to
  omega
section
end
noncomputable def Has (H:Hp):List (Addr×HO)->Prop
 | []=>True
 | p::r=>H p.1=some p.2/\Has H r
theorem Has.same {H H':Hp} (s:Same H H'):∀ {fs:List (Addr×HO)},Has H fs->Has H' fs
 | [],_=>trivial
 | _::_,h=>⟨s _ _ h.1,Has.same s h.2⟩
structure Gw (H0 H:Hp) (fs:List (Addr×HO)):Prop where
 s:Same H0 H
 h:Has H fs
section
variable {H0 H H':Hp} {fs:List (Addr×HO)} {p:Addr} {o:HO}
theorem Gw.start:Gw H H []:=⟨Same.refl _,trivial⟩
theorem Gw.new (g:Gw H0 H fs) (n:H p=none):Gw H0 (upd H p o) ((p,o)::fs):=⟨g.s.newT n,Zag,g.h.same (Same.new n)⟩
theorem Gw.newE (g:Gw H0 H fs) (n:H p=none) (e:upd H p o=H'):Gw H0 H' ((p,o)::fs):=by rw [<- e];exact g.new n
theorem Gw.same (g:Gw H0 H fs) (s:Same H H'):Gw H0 H' fs:=⟨g.s.trans s,g.h.same s⟩
theorem Gw.add (g:Gw H0 H fs) (e:H p=some o):Gw H0 H ((p,o)::fs):=⟨g.s,e,g.h⟩
theorem Gw.fresh (g:Gw H0 H fs) (n:H p=none):H0 p=none:=g.s.fresh n
end
theorem ZaD {w:Str} (h:(RT.lookup w).isSome=true) (h2:inS w ["push", "copy", "swap", "jump", "jumpif"]=false):Zbq (w,none):=by
 unfold inS at h2
 simp only [List.any_cons,List.any_nil,Bool.or_false,Bool.or_eq_false_iff] at h2
 refine ⟨Option.isSome_iff_exists.mp h,fun z=>?_,fun z=>?_,fun z=>?_⟩
 .have z:w = "push" := z
  rw [z] at h2;exact absurd h2.1 (by decide)
 .have z:inS w ["copy", "swap"]=true:=z
  unfold inS at z
  simp only [List.any_cons,List.any_nil,Bool.or_false,Bool.or_eq_true] at z
  rcases z with z|z
  .rw [h2.2.1] at z;cases z
  .rw [h2.2.2.1] at z;cases z
 .have z:inS w ["jump", "jumpif"]=true:=z
  unfold inS at z
  simp only [List.any_cons,List.any_nil,Bool.or_false,Bool.or_eq_true] at z
  rcases z with z|z
  .rw [h2.2.2.2.1] at z;cases z
  .rw [h2.2.2.2.2] at z;cases z
theorem ZaY {k:Int} (h:In64 k):Zbq ("push", some k):=⟨⟨_,rfl⟩,fun _=>⟨k,rfl,h⟩,fun z=>absurd z (by show ¬ inS ("push" : Str) ["copy", "swap"]=true;decide),fun z=>absurd z (by show ¬ inS ("push" : Str) ["jump", "jumpif"]=true;decide)⟩
theorem Zi3 {k:Int} (h:0<=k):Zbq ("copy", some k):=⟨⟨_,rfl⟩,fun z=>absurd z (by show ¬ ("copy" : Str) = "push";decide),fun _=>⟨k,rfl,h,fun z=>absurd z (by show ¬ ("copy" : Str) = "swap";decide)⟩,fun z=>absurd z (by show ¬ inS ("copy" : Str) ["jump", "jumpif"]=true;decide)⟩
theorem ZmR {k:Int} (h:1<=k):Zbq ("swap", some k):=⟨⟨_,rfl⟩,fun z=>absurd z (by show ¬ ("swap" : Str) = "push";decide),fun _=>⟨k,rfl,by omega,fun _=>h⟩,fun z=>absurd z (by show ¬ inS ("swap" : Str) ["jump", "jumpif"]=true;decide)⟩
theorem Zga {w:Str} {k:Int} (hw:w = "jump" \/ w = "jumpif") (h:0<=k):Zbq (w,some k):=by
 rcases hw with rfl|rfl
 .exact ⟨⟨_,rfl⟩,fun z=>absurd z (by show ¬ ("jump" : Str) = "push";decide),fun z=>absurd z (by show ¬ inS ("jump" : Str) ["copy", "swap"]=true;decide),fun _=>⟨k,rfl,h⟩⟩
 .exact ⟨⟨_,rfl⟩,fun z=>absurd z (by show ¬ ("jumpif" : Str) = "push";decide),fun z=>absurd z (by show ¬ inS ("jumpif" : Str) ["copy", "swap"]=true;decide),fun _=>⟨k,rfl,h⟩⟩
noncomputable def SW37:List Str:=["add", "minus", "times", "over", "rest", "below", "same", "both", "either", "unlike", "up", "down"]
noncomputable def Zhl (K:PySem.W.Frag):Sp:=fun vs H Q _=>∃ c:Int,vs=[.int c]/\∀ w H',Same H H'->w∈SW37->Q (.str w) H'
theorem sw_fit {w:Str} (h:w∈SW37):Zbq (w,none):=by
 have:∀ w∈SW37,(RT.lookup w).isSome=true/\inS w ["push", "copy", "swap", "jump", "jumpif"]=false:=by decide +kernel
 exact ZaD (this w h).1 (this w h).2
theorem sw_at (c:Int):∃ w∈SW37,atI (SW37.map V.str) (c % 12)=some (.str w):=by
 obtain ⟨i,hi,e⟩:∃ i:Nat,i<12/\c % 12=(i:Int):=⟨(c % 12).toNat,by omega,by omega⟩
 have hl:SW37.length=12:=rfl
 refine ⟨SW37[i]'(by rw [hl];exact hi),List.getElem_mem _,?_⟩
 rw [e]
 exact ZcW (by rw [List.getElem?_map,List.getElem?_eq_getElem (by rw [hl];exact hi)];rfl)
noncomputable def Ziq (K:PySem.W.Frag) (H:Hp) (m:Nat) (Q:VK):Prop:=∀ q xs rs H',Same H H'->H' q=some (.lst xs)->RowsAt K H' rs xs->(∀ r∈rs,Zbq r)->rs.length<=m->Q (.ref q) H'
noncomputable def spOdd (K:PySem.W.Frag):Sp:=fun vs H Q _=>∃ c:Int,vs=[.int c]/\Ziq K H 7 Q
theorem ten (c:Int):c % 10=0\/c % 10=1\/c % 10=2\/c % 10=3\/c % 10=4\/c % 10=5\/c % 10=6\/c % 10=7\/c % 10=8\/c % 10=9:=by omega
theorem Zbi:∀ r∈([]:List Row),Zbq r:=fun _ h=>nomatch h
theorem all_cons {r:Row} {rs:List Row} (h:Zbq r) (h2:∀ r∈rs,Zbq r):∀ q∈r::rs,Zbq q:=fun q hq=>(List.mem_cons.1 hq).elim (fun e=>by rw [e];exact h) (h2 q)
section
variable {P:Program} {w:World} {K:PySem.W.Frag} {mg:Str->Option Value} {base:Heap}
theorem ZcE:FnScope ["_law_cell", "_law_some"] ["_law_cell"] (Zab Zc4):=⟨rfl,rfl,rfl,by decide +kernel,rfl,by decide +kernel,by decide +kernel⟩
theorem Zhm    (D:Zao K mg "_law_sum_word" Zc4):Cal P w K mg base 1 "_law_sum_word" (Zhl K):=by
 refine Zaz D ZcE (fun vs H Q E h=>?_) (fun _ _ _ _ _ _ us hl=>bd1 (R:=fun us=>bindArgs _ ⟨us,[]⟩=pure (List.zip _ us)) (fun _=>rfl) us hl) (fun f cdv A outer s H vs Q E hr h=>?_)
 .obtain ⟨c,rfl,_⟩:=h;rfl
 .obtain ⟨c,rfl,k⟩:=h
  refine' ⟨_,?der,?_⟩
  case der=>refine' Zad ?h18 ?h19;(case h18=>refine' ZaF (i:=1) ?h3 ?h4 ?h5 ?h6;(case h3=>exact ZcE.nd);(case h4=>rfl);(case h5=>(first|exact Or.inl rfl|exact Or.inr rfl));case h6=>refine' ZaO ?h2;case h2=>refine' ZlY (vs:=[.str "add", .str "minus", .str "times", .str "over", .str "rest", .str "below"]) ?h1;case h1=>rfl);case h19=>refine' Zad ?h16 ?h17;(case h16=>refine' ZaF (i:=1) ?h12 ?h13 ?h14 ?h15;(case h12=>exact ZcE.nd);(case h13=>rfl);(case h14=>(first|exact Or.inl rfl|exact Or.inr rfl));case h15=>refine' ZaB ?h9 ?h10 ?h11;(case h9=>exact Zfj);(case h10=>exact (pv 1));case h11=>refine' ZaO ?h8;case h8=>refine' ZlY (vs:=[.str "same", .str "both", .str "either", .str "unlike", .str "up", .str "down"]) ?h7;case h7=>rfl);case h17=>exact (Zaf (Zap (Zav Zaq (pv 1) (ZaB Za2 (pv 0) Zae) (fun _ _=>rfl))))
  walk_at "nx"
  have h0:Gw H H []:=Gw.start
  repeat walk_at "rdk"
  refine ⟨szl_6,fun A1 q_A1=>?_⟩
  generalize e_:upd _ A1 _=H1;have h1:=h0.newE q_A1 e_;clear e_;repeat walk_at "rdk"
  refine ⟨szl_6,fun A2 q_A2=>?_⟩
  generalize e_:upd _ A2 _=H2;have h2:=h1.newE q_A2 e_;clear e_;repeat walk_at "rdk"
  refine Zfm h2.h.2.1 h2.h.1 (by simp only [List.length_append,List.length_cons,List.length_nil];decide) fun C1 q_C1=>?_
  generalize e_:upd _ C1 _=H3;have h3:=h2.newE q_C1 e_;clear e_;repeat walk_at "rdk"
  obtain ⟨wd,hw,ew⟩:=sw_at c
  refine ZaH (Zas h3.h.1) ew ?_
  repeat walk_at "rdk"
  exact k wd _ h3.s hw
theorem ZcF:FnScope ["_law_cell", "_law_some"] ["_law_cell"] (Zab Zc5):=⟨rfl,rfl,rfl,by decide +kernel,rfl,by decide +kernel,by decide +kernel⟩
theorem Zhn    (D:Zao K mg "_law_odd_rows" Zc5):Cal P w K mg base 1 "_law_odd_rows" (spOdd K):=by
 refine Zaz D ZcF (fun vs H Q E h=>?_) (fun _ _ _ _ _ _ us hl=>bd1 (R:=fun us=>bindArgs _ ⟨us,[]⟩=pure (List.zip _ us)) (fun _=>rfl) us hl) (fun f cdv A outer s H vs Q E hr h=>?_)
 .obtain ⟨c,rfl,_⟩:=h;rfl
 .obtain ⟨c,rfl,k⟩:=h
  refine' ⟨_,?der,?_⟩
  case der=>refine' Zad ?h128 ?h129;(case h128=>refine' ZaF (i:=1) ?h81 ?h82 ?h83 ?h84;(case h81=>exact ZcF.nd);(case h82=>rfl);(case h83=>(first|exact Or.inl rfl|exact Or.inr rfl));case h84=>refine' ZaO ?h80;case h80=>refine' Zaa ?h78 ?h79;(case h78=>refine' ZaO ?h25;case h25=>refine' Zaa ?h23 ?h24;(case h23=>refine' ZaG ?h22;case h22=>refine' Zaa ?h20 ?h21;(case h20=>exact Zar);case h21=>exact Zac);case h24=>exact Zac);case h79=>refine' Zaa ?h76 ?h77;(case h76=>refine' ZaO ?h31;case h31=>refine' Zaa ?h29 ?h30;(case h29=>refine' ZaG ?h28;case h28=>refine' Zaa ?h26 ?h27;(case h26=>exact Zar);case h27=>exact Zac);case h30=>exact Zac);case h77=>refine' Zaa ?h74 ?h75;(case h74=>refine' ZaO ?h37;case h37=>refine' Zaa ?h35 ?h36;(case h35=>refine' ZaG ?h34;case h34=>refine' Zaa ?h32 ?h33;(case h32=>exact Zar);case h33=>exact Zac);case h36=>exact Zac);case h75=>refine' Zaa ?h72 ?h73;(case h72=>refine' ZaO ?h43;case h43=>refine' Zaa ?h41 ?h42;(case h41=>refine' ZaG ?h40;case h40=>refine' Zaa ?h38 ?h39;(case h38=>exact Zar);case h39=>exact Zac);case h42=>exact Zac);case h73=>refine' Zaa ?h70 ?h71;(case h70=>refine' ZaO ?h49;case h49=>refine' Zaa ?h47 ?h48;(case h47=>refine' ZaG ?h46;case h46=>refine' Zaa ?h44 ?h45;(case h44=>exact Zar);case h45=>exact Zac);case h48=>exact Zac);case h71=>refine' Zaa ?h68 ?h69;(case h68=>refine' ZaO ?h57;case h57=>refine' Zaa ?h55 ?h56;(case h55=>refine' ZaG ?h54;case h54=>refine' Zaa ?h52 ?h53;(case h52=>exact Zar);case h53=>refine' Zaa ?h50 ?h51;(case h50=>exact Zae);case h51=>exact Zac);case h56=>exact Zac);case h69=>refine' Zaa ?h66 ?h67;(case h66=>refine' ZaO ?h65;case h65=>refine' Zaa ?h63 ?h64;(case h63=>refine' ZaG ?h62;case h62=>refine' Zaa ?h60 ?h61;(case h60=>exact Zar);case h61=>refine' Zaa ?h58 ?h59;(case h58=>exact Zae);case h59=>exact Zac);case h64=>exact Zac);case h67=>exact Zac);case h129=>refine' Zad ?h126 ?h127;(case h126=>refine' ZaF (i:=1) ?h122 ?h123 ?h124 ?h125;(case h122=>exact ZcF.nd);(case h123=>rfl);(case h124=>(first|exact Or.inl rfl|exact Or.inr rfl));case h125=>refine' ZaB ?h119 ?h120 ?h121;(case h119=>exact Zfj);(case h120=>exact (pv 1));case h121=>refine' ZaO ?h118;case h118=>refine' Zaa ?h116 ?h117;(case h116=>refine' ZaO ?h97;case h97=>refine' Zaa ?h95 ?h96;(case h95=>refine' ZaG ?h87;case h87=>refine' Zaa ?h85 ?h86;(case h85=>exact Zar);case h86=>exact Zac);case h96=>refine' Zaa ?h93 ?h94;(case h93=>refine' ZaG ?h92;case h92=>refine' Zaa ?h90 ?h91;(case h90=>exact Zar);case h91=>refine' Zaa ?h88 ?h89;(case h88=>exact Zae);case h89=>exact Zac);case h94=>exact Zac);case h117=>refine' Zaa ?h114 ?h115;(case h114=>refine' ZaO ?h103;case h103=>refine' Zaa ?h101 ?h102;(case h101=>refine' ZaG ?h100;case h100=>refine' Zaa ?h98 ?h99;(case h98=>exact Zar);case h99=>exact Zac);case h102=>exact Zac);case h115=>refine' Zaa ?h112 ?h113;(case h112=>refine' ZaO ?h111;case h111=>refine' Zaa ?h109 ?h110;(case h109=>refine' ZaG ?h108;case h108=>refine' Zaa ?h106 ?h107;(case h106=>exact Zar);case h107=>refine' Zaa ?h104 ?h105;(case h104=>exact Zae);case h105=>exact Zac);case h110=>exact Zac);case h113=>exact Zac);case h127=>exact (Zaf (Zap (Zav Zaq (pv 1) (ZaB Za2 (pv 0) Zae) (fun _ _=>rfl))))
  walk_at "nx"
  have h0:Gw H H []:=Gw.start
  repeat walk_at "rdk"
  refine ⟨szl_1,fun t0_0 q_t0_0=>?_⟩
  generalize e_:upd _ t0_0 _=H1;have h1:=h0.newE q_t0_0 e_;clear e_;repeat walk_at "rdk"
  refine ⟨szl_1,fun l0 q_l0=>?_⟩
  generalize e_:upd _ l0 _=H2;have h2:=h1.newE q_l0 e_;clear e_;repeat walk_at "rdk"
  refine ⟨szl_1,fun t1_0 q_t1_0=>?_⟩
  generalize e_:upd _ t1_0 _=H3;have h3:=h2.newE q_t1_0 e_;clear e_;repeat walk_at "rdk"
  refine ⟨szl_1,fun l1 q_l1=>?_⟩
  generalize e_:upd _ l1 _=H4;have h4:=h3.newE q_l1 e_;clear e_;repeat walk_at "rdk"
  refine ⟨szl_1,fun t2_0 q_t2_0=>?_⟩
  generalize e_:upd _ t2_0 _=H5;have h5:=h4.newE q_t2_0 e_;clear e_;repeat walk_at "rdk"
  refine ⟨szl_1,fun l2 q_l2=>?_⟩
  generalize e_:upd _ l2 _=H6;have h6:=h5.newE q_l2 e_;clear e_;repeat walk_at "rdk"
  refine ⟨szl_1,fun t3_0 q_t3_0=>?_⟩
  generalize e_:upd _ t3_0 _=H7;have h7:=h6.newE q_t3_0 e_;clear e_;repeat walk_at "rdk"
  refine ⟨szl_1,fun l3 q_l3=>?_⟩
  generalize e_:upd _ l3 _=H8;have h8:=h7.newE q_l3 e_;clear e_;repeat walk_at "rdk"
  refine ⟨szl_1,fun t4_0 q_t4_0=>?_⟩
  generalize e_:upd _ t4_0 _=H9;have h9:=h8.newE q_t4_0 e_;clear e_;repeat walk_at "rdk"
  refine ⟨szl_1,fun l4 q_l4=>?_⟩
  generalize e_:upd _ l4 _=H10;have h10:=h9.newE q_l4 e_;clear e_;repeat walk_at "rdk"
  refine ⟨szl_2,fun t5_0 q_t5_0=>?_⟩
  generalize e_:upd _ t5_0 _=H11;have h11:=h10.newE q_t5_0 e_;clear e_;repeat walk_at "rdk"
  refine ⟨szl_1,fun l5 q_l5=>?_⟩
  generalize e_:upd _ l5 _=H12;have h12:=h11.newE q_l5 e_;clear e_;repeat walk_at "rdk"
  refine ⟨szl_2,fun t6_0 q_t6_0=>?_⟩
  generalize e_:upd _ t6_0 _=H13;have h13:=h12.newE q_t6_0 e_;clear e_;repeat walk_at "rdk"
  refine ⟨szl_1,fun l6 q_l6=>?_⟩
  generalize e_:upd _ l6 _=H14;have h14:=h13.newE q_l6 e_;clear e_;repeat walk_at "rdk"
  refine ⟨szl_7,fun S1 q_S1=>?_⟩
  generalize e_:upd _ S1 _=H15;have h15:=h14.newE q_S1 e_;clear e_;repeat walk_at "rdk"
  refine ⟨szl_1,fun t7_0 q_t7_0=>?_⟩
  generalize e_:upd _ t7_0 _=H16;have h16:=h15.newE q_t7_0 e_;clear e_;repeat walk_at "rdk"
  refine ⟨szl_2,fun t7_1 q_t7_1=>?_⟩
  generalize e_:upd _ t7_1 _=H17;have h17:=h16.newE q_t7_1 e_;clear e_;repeat walk_at "rdk"
  refine ⟨szl_2,fun l7 q_l7=>?_⟩
  generalize e_:upd _ l7 _=H18;have h18:=h17.newE q_l7 e_;clear e_;repeat walk_at "rdk"
  refine ⟨szl_1,fun t8_0 q_t8_0=>?_⟩
  generalize e_:upd _ t8_0 _=H19;have h19:=h18.newE q_t8_0 e_;clear e_;repeat walk_at "rdk"
  refine ⟨szl_1,fun l8 q_l8=>?_⟩
  generalize e_:upd _ l8 _=H20;have h20:=h19.newE q_l8 e_;clear e_;repeat walk_at "rdk"
  refine ⟨szl_2,fun t9_0 q_t9_0=>?_⟩
  generalize e_:upd _ t9_0 _=H21;have h21:=h20.newE q_t9_0 e_;clear e_;repeat walk_at "rdk"
  refine ⟨szl_1,fun l9 q_l9=>?_⟩
  generalize e_:upd _ l9 _=H22;have h22:=h21.newE q_l9 e_;clear e_;repeat walk_at "rdk"
  refine ⟨szl_3,fun S2 q_S2=>?_⟩
  generalize e_:upd _ S2 _=H23;have h23:=h22.newE q_S2 e_;clear e_;repeat walk_at "rdk"
  refine Zfm h23.h.2.2.2.2.2.2.2.2.1 h23.h.1 (by simp only [List.length_append,List.length_cons,List.length_nil];decide) fun S3 q_S3=>?_
  generalize e_:upd _ S3 _=H24;have h24:=h23.newE q_S3 e_;clear e_;repeat walk_at "rdk"
  rcases ten c with e|e|e|e|e|e|e|e|e|e
  .refine ZaH (Zas h24.h.1) (v:=.ref l0) (by rw [e];rfl) ?_
   repeat walk_at "rdk"
   exact k l0 _ [("drop", none)] _ h24.s h24.h.2.2.2.2.2.2.2.2.2.2.2.2.2.2.2.2.2.2.2.2.2.2.1 (RowsAt.cons ⟨_,rfl,ZaA h24.h.2.2.2.2.2.2.2.2.2.2.2.2.2.2.2.2.2.2.2.2.2.2.2.1⟩ RowsAt.nil) (all_cons (ZaD rfl rfl) Zbi) (by decide)
  .refine ZaH (Zas h24.h.1) (v:=.ref l1) (by rw [e];rfl) ?_
   repeat walk_at "rdk"
   exact k l1 _ [("add", none)] _ h24.s h24.h.2.2.2.2.2.2.2.2.2.2.2.2.2.2.2.2.2.2.2.2.1 (RowsAt.cons ⟨_,rfl,ZaA h24.h.2.2.2.2.2.2.2.2.2.2.2.2.2.2.2.2.2.2.2.2.2.1⟩ RowsAt.nil) (all_cons (ZaD rfl rfl) Zbi) (by decide)
  .refine ZaH (Zas h24.h.1) (v:=.ref l2) (by rw [e];rfl) ?_
   repeat walk_at "rdk"
   exact k l2 _ [("save", none)] _ h24.s h24.h.2.2.2.2.2.2.2.2.2.2.2.2.2.2.2.2.2.2.1 (RowsAt.cons ⟨_,rfl,ZaA h24.h.2.2.2.2.2.2.2.2.2.2.2.2.2.2.2.2.2.2.2.1⟩ RowsAt.nil) (all_cons (ZaD rfl rfl) Zbi) (by decide)
  .refine ZaH (Zas h24.h.1) (v:=.ref l3) (by rw [e];rfl) ?_
   repeat walk_at "rdk"
   exact k l3 _ [("give", none)] _ h24.s h24.h.2.2.2.2.2.2.2.2.2.2.2.2.2.2.2.2.1 (RowsAt.cons ⟨_,rfl,ZaA h24.h.2.2.2.2.2.2.2.2.2.2.2.2.2.2.2.2.2.1⟩ RowsAt.nil) (all_cons (ZaD rfl rfl) Zbi) (by decide)
  .refine ZaH (Zas h24.h.1) (v:=.ref l4) (by rw [e];rfl) ?_
   repeat walk_at "rdk"
   exact k l4 _ [("fail", none)] _ h24.s h24.h.2.2.2.2.2.2.2.2.2.2.2.2.2.2.1 (RowsAt.cons ⟨_,rfl,ZaA h24.h.2.2.2.2.2.2.2.2.2.2.2.2.2.2.2.1⟩ RowsAt.nil) (all_cons (ZaD rfl rfl) Zbi) (by decide)
  .refine ZaH (Zas h24.h.1) (v:=.ref l5) (by rw [e];rfl) ?_
   repeat walk_at "rdk"
   exact k l5 _ [("copy", some 3)] _ h24.s h24.h.2.2.2.2.2.2.2.2.2.2.2.2.1 (RowsAt.cons ⟨_,rfl,ZaA h24.h.2.2.2.2.2.2.2.2.2.2.2.2.2.1⟩ RowsAt.nil) (all_cons (Zi3 (by decide)) Zbi) (by decide)
  .refine ZaH (Zas h24.h.1) (v:=.ref l6) (by rw [e];rfl) ?_
   repeat walk_at "rdk"
   exact k l6 _ [("jump", some 0)] _ h24.s h24.h.2.2.2.2.2.2.2.2.2.2.1 (RowsAt.cons ⟨_,rfl,ZaA h24.h.2.2.2.2.2.2.2.2.2.2.2.1⟩ RowsAt.nil) (all_cons (Zga (.inl rfl) (by decide)) Zbi) (by decide)
  .refine ZaH (Zas h24.h.1) (v:=.ref l7) (by rw [e];rfl) ?_
   repeat walk_at "rdk"
   exact k l7 _ [("me", none),("jump", some 0)] _ h24.s h24.h.2.2.2.2.2.2.1 (RowsAt.cons ⟨_,rfl,ZaA h24.h.2.2.2.2.2.2.2.2.1⟩ (RowsAt.cons ⟨_,rfl,ZaA h24.h.2.2.2.2.2.2.2.1⟩ RowsAt.nil)) (all_cons (ZaD rfl rfl) (all_cons (Zga (.inl rfl) (by decide)) Zbi)) (by decide)
  .refine ZaH (Zas h24.h.1) (v:=.ref l8) (by rw [e];rfl) ?_
   repeat walk_at "rdk"
   exact k l8 _ [("sent", none)] _ h24.s h24.h.2.2.2.2.1 (RowsAt.cons ⟨_,rfl,ZaA h24.h.2.2.2.2.2.1⟩ RowsAt.nil) (all_cons (ZaD rfl rfl) Zbi) (by decide)
  .refine ZaH (Zas h24.h.1) (v:=.ref l9) (by rw [e];rfl) ?_
   repeat walk_at "rdk"
   exact k l9 _ [("swap", some 1)] _ h24.s h24.h.2.2.1 (RowsAt.cons ⟨_,rfl,ZaA h24.h.2.2.2.1⟩ RowsAt.nil) (all_cons (ZmR (by decide)) Zbi) (by decide)
end
theorem pick3 (a b c m:Int):∃ v,atI [V.int a,.int b,.int c] (m % 3)=some (.int v)/\(v=a\/v=b\/v=c):=by
 rcases (by omega:m % 3=0\/m % 3=1\/m % 3=2) with h|h|h
 .exact ⟨a,by rw [h];rfl,.inl rfl⟩
 .exact ⟨b,by rw [h];rfl,.inr (.inl rfl)⟩
 .exact ⟨c,by rw [h];rfl,.inr (.inr rfl)⟩
theorem pick4 (a b c d m:Int):∃ v,atI [V.int a,.int b,.int c,.int d] (m % 4)=some (.int v)/\(v=a\/v=b\/v=c\/v=d):=by
 rcases (by omega:m % 4=0\/m % 4=1\/m % 4=2\/m % 4=3) with h|h|h|h
 .exact ⟨a,by rw [h];rfl,.inl rfl⟩
 .exact ⟨b,by rw [h];rfl,.inr (.inl rfl)⟩
 .exact ⟨c,by rw [h];rfl,.inr (.inr (.inl rfl))⟩
 .exact ⟨d,by rw [h];rfl,.inr (.inr (.inr rfl))⟩
theorem pick6 (a b c d e f m:Int):∃ v,atI [V.int a,.int b,.int c,.int d,.int e,.int f] (m % 6)=some (.int v)/\(v=a\/v=b\/v=c\/v=d\/v=e\/v=f):=by
 rcases (by omega:m % 6=0\/m % 6=1\/m % 6=2\/m % 6=3\/m % 6=4\/m % 6=5) with h|h|h|h|h|h
 .exact ⟨a,by rw [h];rfl,.inl rfl⟩
 .exact ⟨b,by rw [h];rfl,.inr (.inl rfl)⟩
 .exact ⟨c,by rw [h];rfl,.inr (.inr (.inl rfl))⟩
 .exact ⟨d,by rw [h];rfl,.inr (.inr (.inr (.inl rfl)))⟩
 .exact ⟨e,by rw [h];rfl,.inr (.inr (.inr (.inr (.inl rfl))))⟩
 .exact ⟨f,by rw [h];rfl,.inr (.inr (.inr (.inr (.inr rfl))))⟩
theorem tell4 (m:Int):∃ w:Str,atI [V.str "me", .str "from", .str "sent", .str "word"] (m % 4)=some (.str w)/\Zbq (w,none):=by
 rcases (by omega:m % 4=0\/m % 4=1\/m % 4=2\/m % 4=3) with h|h|h|h
 .exact ⟨"me", by rw [h];rfl,ZaD rfl rfl⟩
 .exact ⟨"from", by rw [h];rfl,ZaD rfl rfl⟩
 .exact ⟨"sent", by rw [h];rfl,ZaD rfl rfl⟩
 .exact ⟨"word", by rw [h];rfl,ZaD rfl rfl⟩
theorem p64N:(2:Int) ^ Int.toNat 64=18446744073709551616:=by decide
theorem Zbb {v:Int} (h:0<=v) (h2:v<1000000):In64 v:=⟨h,by show _<_;omega⟩
noncomputable def Zi4 (K:PySem.W.Frag):Sp:=fun vs H Q _=>∃ way mixed number slot asked:Int,vs=[.int way,.int mixed,.int number,.int slot,.int asked]/\4<=way/\way<=8/\In64 number/\In64 slot/\In64 asked/\Ziq K H 7 Q
noncomputable def spSnip (K:PySem.W.Frag):Sp:=fun vs H Q _=>∃ (cell:Int) (SL PA:Addr) (s0 s1 s2 s3 p0 p1 p2 at':Int),vs=[.int cell,.ref SL,.ref PA,.int at']/\SqL K H SL [.int s0,.int s1,.int s2,.int s3]/\SqL K H PA [.int p0,.int p1,.int p2]/\In64 s0/\In64 s1/\In64 s2/\In64 s3/\In64 p0/\In64 p1/\In64 p2/\0<=at'/\Ziq K H 7 Q
section
variable {P:Program} {w:World} {K:PySem.W.Frag} {mg:Str->Option Value} {base:Heap}
theorem ZcP:FnScope ["_law_way", "_law_mixed", "_law_number", "_law_slot", "_law_asked", "_law_coin", "_law_rows", "_law_word"] ["_law_way", "_law_mixed", "_law_number", "_law_slot", "_law_asked"] (Zab ZeC):=⟨rfl,rfl,rfl,by decide +kernel,rfl,by decide +kernel,by decide +kernel⟩
theorem ZjE    (D:Zao K mg "_law_asking" ZeC):Cal P w K mg base 1 "_law_asking" (Zi4 K):=by
 refine Zaz D ZcP (fun vs H Q E h=>?_) (fun _ _ _ _ _ _ us hl=>bd5 (R:=fun us=>bindArgs _ ⟨us,[]⟩=pure (List.zip _ us)) (fun _ _ _ _ _=>rfl) us hl) (fun f cdv A outer s H vs Q E hr h=>?_)
 .obtain ⟨way,mixed,number,slot,asked,rfl,_⟩:=h;rfl
 .obtain ⟨way,mixed,number,slot,asked,rfl,w4,w8,i1,i2,i3,k⟩:=h
  refine' ⟨_,?der,?_⟩
  case der=>refine' Zad ?h262 ?h263;(case h262=>refine' Zbd ?h205 ?h206 ?h207;(case h205=>exact (Zau Zfu (pv 0) Zae (nomark _)));(case h206=>refine' Zad ?h203 ?h204;(case h203=>refine' ZaF (i:=5) ?h143 ?h144 ?h145 ?h146;(case h143=>exact ZcP.nd);(case h144=>rfl);(case h145=>(first|exact Or.inl rfl|exact Or.inr rfl));case h146=>refine' Zav ?h139 ?h140 ?h141 ?h142;(case h139=>exact Zaq);(case h140=>refine' ZaO ?h138;case h138=>refine' Zaa ?h136 ?h137;(case h136=>exact Zae);case h137=>refine' Zaa ?h134 ?h135;(case h134=>exact Zae);case h135=>refine' Zaa ?h132 ?h133;(case h132=>exact (ZaB Za2 (ZaB Zbk (pv 1) Zae) Zae));case h133=>refine' Zaa ?h130 ?h131;(case h130=>exact (pv 2));case h131=>exact Zac);(case h141=>exact (ZaB Za2 (ZaB Zbk (pv 1) Zae) Zae));case h142=>exact fun _ _=>rfl);case h204=>refine' Zad ?h201 ?h202;(case h201=>refine' ZaF (i:=6) ?h181 ?h182 ?h183 ?h184;(case h181=>exact ZcP.nd);(case h182=>rfl);(case h183=>(first|exact Or.inl rfl|exact Or.inr rfl));case h184=>refine' ZaO ?h180;case h180=>refine' Zaa ?h178 ?h179;(case h178=>refine' ZaG ?h151;case h151=>refine' Zaa ?h149 ?h150;(case h149=>exact Zar);case h150=>refine' Zaa ?h147 ?h148;(case h147=>exact (pv 3));case h148=>exact Zac);case h179=>refine' Zaa ?h176 ?h177;(case h176=>refine' ZaG ?h156;case h156=>refine' Zaa ?h154 ?h155;(case h154=>exact Zar);case h155=>refine' Zaa ?h152 ?h153;(case h152=>exact (pv 5));case h153=>exact Zac);case h177=>refine' Zaa ?h174 ?h175;(case h174=>refine' ZaG ?h161;case h161=>refine' Zaa ?h159 ?h160;(case h159=>exact Zar);case h160=>refine' Zaa ?h157 ?h158;(case h157=>exact (pv 4));case h158=>exact Zac);case h175=>refine' Zaa ?h172 ?h173;(case h172=>refine' ZaG ?h166;case h166=>refine' Zaa ?h164 ?h165;(case h164=>exact Zar);case h165=>refine' Zaa ?h162 ?h163;(case h162=>exact (pv 2));case h163=>exact Zac);case h173=>refine' Zaa ?h170 ?h171;(case h170=>refine' ZaG ?h169;case h169=>refine' Zaa ?h167 ?h168;(case h167=>exact Zar);case h168=>exact Zac);case h171=>exact Zac);case h202=>refine' Zaf ?h200;case h200=>refine' Zap ?h199;case h199=>refine' ZaB ?h196 ?h197 ?h198;(case h196=>exact Zfj);(case h197=>exact (pv 6));case h198=>refine' ZaO ?h195;case h195=>refine' Zaa ?h193 ?h194;(case h193=>refine' ZaG ?h187;case h187=>refine' Zaa ?h185 ?h186;(case h185=>exact Zar);case h186=>exact Zac);case h194=>refine' Zaa ?h191 ?h192;(case h191=>refine' ZaG ?h190;case h190=>refine' Zaa ?h188 ?h189;(case h188=>exact Zar);case h189=>exact Zac);case h192=>exact Zac);case h207=>exact ZaJ);case h263=>refine' Zad ?h260 ?h261;(case h260=>refine' ZaF (i:=7) ?h217 ?h218 ?h219 ?h220;(case h217=>exact ZcP.nd);(case h218=>rfl);(case h219=>(first|exact Or.inl rfl|exact Or.inr rfl));case h220=>refine' Zav ?h213 ?h214 ?h215 ?h216;(case h213=>exact Zaq);(case h214=>refine' ZaO ?h212;case h212=>refine' Zaa ?h210 ?h211;(case h210=>exact Zar);case h211=>refine' Zaa ?h208 ?h209;(case h208=>exact Zar);case h209=>exact Zac);(case h215=>exact (ZaB Zee (pv 0) Zae));case h216=>exact fun _ _=>rfl);case h261=>refine' Zaf ?h259;case h259=>refine' Zap ?h258;case h258=>refine' ZaO ?h257;case h257=>refine' Zaa ?h255 ?h256;(case h255=>refine' ZaG ?h225;case h225=>refine' Zaa ?h223 ?h224;(case h223=>exact Zar);case h224=>refine' Zaa ?h221 ?h222;(case h221=>exact (pv 3));case h222=>exact Zac);case h256=>refine' Zaa ?h253 ?h254;(case h253=>refine' ZaG ?h230;case h230=>refine' Zaa ?h228 ?h229;(case h228=>exact Zar);case h229=>refine' Zaa ?h226 ?h227;(case h226=>exact (pv 4));case h227=>exact Zac);case h254=>refine' Zaa ?h251 ?h252;(case h251=>refine' ZaG ?h235;case h235=>refine' Zaa ?h233 ?h234;(case h233=>exact Zar);case h234=>refine' Zaa ?h231 ?h232;(case h231=>exact (pv 2));case h232=>exact Zac);case h252=>refine' Zaa ?h249 ?h250;(case h249=>refine' ZaG ?h238;case h238=>refine' Zaa ?h236 ?h237;(case h236=>exact (pv 7));case h237=>exact Zac);case h250=>refine' Zaa ?h247 ?h248;(case h247=>refine' ZaG ?h241;case h241=>refine' Zaa ?h239 ?h240;(case h239=>exact Zar);case h240=>exact Zac);case h248=>refine' Zaa ?h245 ?h246;(case h245=>refine' ZaG ?h244;case h244=>refine' Zaa ?h242 ?h243;(case h242=>exact Zar);case h243=>exact Zac);case h246=>exact Zac
  walk_at "nx"
  by_cases h7:way<7
  .have h0:Gw H H []:=Gw.start
   repeat walk_at "rdz"
   refine ⟨szl_4,fun CL q_CL=>?_⟩
   generalize e_:upd _ CL _=H1;have h1:=h0.newE q_CL e_;clear e_;repeat walk_at "rdk"
   obtain ⟨coin,ec,hc⟩:=pick4 0 1 (mixed / 7 % 40) number (mixed / 6000)
   have ic:In64 coin:=by
    rcases hc with rfl|rfl|rfl|rfl
    .exact Zbb (by decide) (by decide)
    .exact Zbb (by decide) (by decide)
    .exact Zbb (by omega) (by omega)
    .exact i1
   refine ZaH (Zas h1.h.1) ec ?_
   repeat walk_at "rdk"
   refine ⟨szl_2,fun a0 q_a0=>?_⟩
   generalize e_:upd _ a0 _=H2;have h2:=h1.newE q_a0 e_;clear e_;repeat walk_at "rdk"
   refine ⟨szl_2,fun a1 q_a1=>?_⟩
   generalize e_:upd _ a1 _=H3;have h3:=h2.newE q_a1 e_;clear e_;repeat walk_at "rdk"
   refine ⟨szl_2,fun a2 q_a2=>?_⟩
   generalize e_:upd _ a2 _=H4;have h4:=h3.newE q_a2 e_;clear e_;repeat walk_at "rdk"
   refine ⟨szl_2,fun a3 q_a3=>?_⟩
   generalize e_:upd _ a3 _=H5;have h5:=h4.newE q_a3 e_;clear e_;repeat walk_at "rdk"
   refine ⟨szl_1,fun a4 q_a4=>?_⟩
   generalize e_:upd _ a4 _=H6;have h6:=h5.newE q_a4 e_;clear e_;repeat walk_at "rdk"
   refine ⟨szl_5,fun la q_la=>?_⟩
   generalize e_:upd _ la _=H7;have h7:=h6.newE q_la e_;clear e_;repeat walk_at "rdk"
   refine ⟨szl_1,fun b0 q_b0=>?_⟩
   generalize e_:upd _ b0 _=H8;have h8:=h7.newE q_b0 e_;clear e_;repeat walk_at "rdk"
   refine ⟨szl_1,fun b1 q_b1=>?_⟩
   generalize e_:upd _ b1 _=H9;have h9:=h8.newE q_b1 e_;clear e_;repeat walk_at "rdk"
   refine ⟨szl_2,fun lb q_lb=>?_⟩
   generalize e_:upd _ lb _=H10;have h10:=h9.newE q_lb e_;clear e_;repeat walk_at "rdk"
   refine Zfm h10.h.2.2.2.1 h10.h.1 (by simp only [List.length_append,List.length_cons,List.length_nil];decide) fun lc q_lc=>?_
   generalize e_:upd _ lc _=H11;have h11:=h10.newE q_lc e_;clear e_;repeat walk_at "rdk"
   exact k lc _ [("push", some (slot)),("push", some (coin)),("push", some (asked)),("push", some (number)),("call", none),("note", none),("drop", none)] _ h11.s h11.h.1 (RowsAt.cons ⟨_,rfl,ZaA h11.h.2.2.2.2.2.2.2.2.2.1⟩ (RowsAt.cons ⟨_,rfl,ZaA h11.h.2.2.2.2.2.2.2.2.1⟩ (RowsAt.cons ⟨_,rfl,ZaA h11.h.2.2.2.2.2.2.2.1⟩ (RowsAt.cons ⟨_,rfl,ZaA h11.h.2.2.2.2.2.2.1⟩ (RowsAt.cons ⟨_,rfl,ZaA h11.h.2.2.2.2.2.1⟩ (RowsAt.cons ⟨_,rfl,ZaA h11.h.2.2.2.1⟩ (RowsAt.cons ⟨_,rfl,ZaA h11.h.2.2.1⟩ RowsAt.nil))))))) (all_cons (ZaY i2) (all_cons (ZaY ic) (all_cons (ZaY i3) (all_cons (ZaY i1) (all_cons (ZaD rfl rfl) (all_cons (ZaD rfl rfl) (all_cons (ZaD rfl rfl) Zbi))))))) (by show 7<=7;decide)
  rcases (by omega:way=7\/way=8) with rfl|rfl
  .have h0:Gw H H []:=Gw.start
   repeat walk_at "rdz"
   refine ⟨szl_2,fun WL q_WL=>?_⟩
   generalize e_:upd _ WL _=H1;have h1:=h0.newE q_WL e_;clear e_;repeat walk_at "rdk"
   refine ZaH (Zas h1.h.1) (v:=.str "borrow") rfl ?_
   repeat walk_at "rdk"
   refine ⟨szl_2,fun a0 q_a0=>?_⟩
   generalize e_:upd _ a0 _=H2;have h2:=h1.newE q_a0 e_;clear e_;repeat walk_at "rdk"
   refine ⟨szl_2,fun a1 q_a1=>?_⟩
   generalize e_:upd _ a1 _=H3;have h3:=h2.newE q_a1 e_;clear e_;repeat walk_at "rdk"
   refine ⟨szl_2,fun a2 q_a2=>?_⟩
   generalize e_:upd _ a2 _=H4;have h4:=h3.newE q_a2 e_;clear e_;repeat walk_at "rdk"
   refine ⟨szl_1,fun a3 q_a3=>?_⟩
   generalize e_:upd _ a3 _=H5;have h5:=h4.newE q_a3 e_;clear e_;repeat walk_at "rdk"
   refine ⟨szl_1,fun a4 q_a4=>?_⟩
   generalize e_:upd _ a4 _=H6;have h6:=h5.newE q_a4 e_;clear e_;repeat walk_at "rdk"
   refine ⟨szl_1,fun a5 q_a5=>?_⟩
   generalize e_:upd _ a5 _=H7;have h7:=h6.newE q_a5 e_;clear e_;repeat walk_at "rdk"
   refine ⟨szl_6,fun la q_la=>?_⟩
   generalize e_:upd _ la _=H8;have h8:=h7.newE q_la e_;clear e_;repeat walk_at "rdk"
   exact k la _ [("push", some (slot)),("push", some (asked)),("push", some (number)),("borrow", none),("drop", none),("note", none)] _ h8.s h8.h.1 (RowsAt.cons ⟨_,rfl,ZaA h8.h.2.2.2.2.2.2.1⟩ (RowsAt.cons ⟨_,rfl,ZaA h8.h.2.2.2.2.2.1⟩ (RowsAt.cons ⟨_,rfl,ZaA h8.h.2.2.2.2.1⟩ (RowsAt.cons ⟨_,rfl,ZaA h8.h.2.2.2.1⟩ (RowsAt.cons ⟨_,rfl,ZaA h8.h.2.2.1⟩ (RowsAt.cons ⟨_,rfl,ZaA h8.h.2.1⟩ RowsAt.nil)))))) (all_cons (ZaY i2) (all_cons (ZaY i3) (all_cons (ZaY i1) (all_cons (ZaD rfl rfl) (all_cons (ZaD rfl rfl) (all_cons (ZaD rfl rfl) Zbi)))))) (by show 6<=7;decide)
  .have h0:Gw H H []:=Gw.start
   repeat walk_at "rdz"
   refine ⟨szl_2,fun WL q_WL=>?_⟩
   generalize e_:upd _ WL _=H1;have h1:=h0.newE q_WL e_;clear e_;repeat walk_at "rdk"
   refine ZaH (Zas h1.h.1) (v:=.str "look") rfl ?_
   repeat walk_at "rdk"
   refine ⟨szl_2,fun a0 q_a0=>?_⟩
   generalize e_:upd _ a0 _=H2;have h2:=h1.newE q_a0 e_;clear e_;repeat walk_at "rdk"
   refine ⟨szl_2,fun a1 q_a1=>?_⟩
   generalize e_:upd _ a1 _=H3;have h3:=h2.newE q_a1 e_;clear e_;repeat walk_at "rdk"
   refine ⟨szl_2,fun a2 q_a2=>?_⟩
   generalize e_:upd _ a2 _=H4;have h4:=h3.newE q_a2 e_;clear e_;repeat walk_at "rdk"
   refine ⟨szl_1,fun a3 q_a3=>?_⟩
   generalize e_:upd _ a3 _=H5;have h5:=h4.newE q_a3 e_;clear e_;repeat walk_at "rdk"
   refine ⟨szl_1,fun a4 q_a4=>?_⟩
   generalize e_:upd _ a4 _=H6;have h6:=h5.newE q_a4 e_;clear e_;repeat walk_at "rdk"
   refine ⟨szl_1,fun a5 q_a5=>?_⟩
   generalize e_:upd _ a5 _=H7;have h7:=h6.newE q_a5 e_;clear e_;repeat walk_at "rdk"
   refine ⟨szl_6,fun la q_la=>?_⟩
   generalize e_:upd _ la _=H8;have h8:=h7.newE q_la e_;clear e_;repeat walk_at "rdk"
   exact k la _ [("push", some (slot)),("push", some (asked)),("push", some (number)),("look", none),("drop", none),("note", none)] _ h8.s h8.h.1 (RowsAt.cons ⟨_,rfl,ZaA h8.h.2.2.2.2.2.2.1⟩ (RowsAt.cons ⟨_,rfl,ZaA h8.h.2.2.2.2.2.1⟩ (RowsAt.cons ⟨_,rfl,ZaA h8.h.2.2.2.2.1⟩ (RowsAt.cons ⟨_,rfl,ZaA h8.h.2.2.2.1⟩ (RowsAt.cons ⟨_,rfl,ZaA h8.h.2.2.1⟩ (RowsAt.cons ⟨_,rfl,ZaA h8.h.2.1⟩ RowsAt.nil)))))) (all_cons (ZaY i2) (all_cons (ZaY i3) (all_cons (ZaY i1) (all_cons (ZaD rfl rfl) (all_cons (ZaD rfl rfl) (all_cons (ZaD rfl rfl) Zbi)))))) (by show 6<=7;decide)
theorem Zbr:FnScope ["_law_cell", "_law_slots", "_law_places", "_law_at", "_law_mixed", "_law_way", "_law_place", "_law_slot", "_law_asked", "_law_number", "_law_rows"] ["_law_cell", "_law_slots", "_law_places", "_law_at"] (Zab ZdL):=⟨rfl,rfl,rfl,by decide +kernel,rfl,by decide +kernel,by decide +kernel⟩
theorem Zir    (D:Zao K mg "_law_snippet" ZdL) (c_Lodd_rows:Cal P w K mg base 1 "_law_odd_rows" (spOdd K)) (c_Lasking:Cal P w K mg base 1 "_law_asking" (Zi4 K)) (c_Lsum_word:Cal P w K mg base 1 "_law_sum_word" (Zhl K)):Cal P w K mg base 2 "_law_snippet" (spSnip K):=by
 refine Zaz D Zbr (fun vs H Q E h=>?_) (fun _ _ _ _ _ _ us hl=>bd4 (R:=fun us=>bindArgs _ ⟨us,[]⟩=pure (List.zip _ us)) (fun _ _ _ _=>rfl) us hl) (fun f cdv A outer s H vs Q E hr h=>?_)
 .obtain ⟨cell,SL,PA,s0,s1,s2,s3,p0,p1,p2,at',rfl,_⟩:=h;rfl
 .obtain ⟨cell,SL,PA,s0,s1,s2,s3,p0,p1,p2,at',rfl,hSL,hPA,j0,j1,j2,j3,q0,q1,q2,hat,k⟩:=h
  refine' ⟨_,?der,?_⟩
  case der=>refine' Zad ?h508 ?h509;(case h508=>exact (ZaF (i:=4) Zbr.nd rfl (by first|exact Or.inl rfl|exact Or.inr rfl) (ZaB Za2 (ZaB Ziy (pv 0) Zae) Zae)));case h509=>refine' Zad ?h506 ?h507;(case h506=>exact (ZaF (i:=5) Zbr.nd rfl (by first|exact Or.inl rfl|exact Or.inr rfl) (ZaB Za2 (pv 4) Zae)));case h507=>refine' Zad ?h504 ?h505;(case h504=>exact (ZaF (i:=6) Zbr.nd rfl (by first|exact Or.inl rfl|exact Or.inr rfl) (Zav Zaq (pv 2) (ZaB Za2 (ZaB Zbk (pv 4) Zae) Zae) (fun _ _=>rfl))));case h505=>refine' Zad ?h502 ?h503;(case h502=>exact (ZaF (i:=7) Zbr.nd rfl (by first|exact Or.inl rfl|exact Or.inr rfl) (Zav Zaq (pv 1) (ZaB Za2 (ZaB Zbk (pv 4) Zae) Zae) (fun _ _=>rfl))));case h503=>refine' Zad ?h500 ?h501;(case h500=>refine' ZaF (i:=8) ?h281 ?h282 ?h283 ?h284;(case h281=>exact Zbr.nd);(case h282=>rfl);(case h283=>(first|exact Or.inl rfl|exact Or.inr rfl));case h284=>refine' Zav ?h277 ?h278 ?h279 ?h280;(case h277=>exact Zaq);(case h278=>refine' ZaO ?h276;case h276=>refine' Zaa ?h274 ?h275;(case h274=>exact Zae);case h275=>refine' Zaa ?h272 ?h273;(case h272=>exact Zae);case h273=>refine' Zaa ?h270 ?h271;(case h270=>exact Zae);case h271=>refine' Zaa ?h268 ?h269;(case h268=>exact Zae);case h269=>refine' Zaa ?h266 ?h267;(case h266=>exact Zae);case h267=>refine' Zaa ?h264 ?h265;(case h264=>exact (ZaB Za2 (pv 0) (ZaB Zef Zae Zae)));case h265=>exact Zac);(case h279=>exact (ZaB Za2 (ZaB Zbk (pv 4) Zae) Zae));case h280=>exact fun _ _=>rfl);case h501=>refine' Zad ?h498 ?h499;(case h498=>refine' ZaF (i:=9) ?h298 ?h299 ?h300 ?h301;(case h298=>exact Zbr.nd);(case h299=>rfl);(case h300=>(first|exact Or.inl rfl|exact Or.inr rfl));case h301=>refine' Zav ?h294 ?h295 ?h296 ?h297;(case h294=>exact Zaq);(case h295=>refine' ZaO ?h293;case h293=>refine' Zaa ?h291 ?h292;(case h291=>exact Zae);case h292=>refine' Zaa ?h289 ?h290;(case h289=>exact Zae);case h290=>refine' Zaa ?h287 ?h288;(case h287=>exact (ZaB Za2 (ZaB Zbk (pv 4) Zae) Zae));case h288=>refine' Zaa ?h285 ?h286;(case h285=>exact (ZaB Za2 (pv 0) (ZaB Zef Zae Zae)));case h286=>exact Zac);(case h296=>exact (ZaB Za2 (ZaB Zbk (pv 4) Zae) Zae));case h297=>exact fun _ _=>rfl);case h499=>refine' Zad ?h496 ?h497;(case h496=>refine' Zbd ?h324 ?h325 ?h326;(case h324=>exact (Zau Zfu (pv 5) Zae (nomark _)));(case h325=>refine' Zaf ?h323;case h323=>refine' Zap ?h322;case h322=>refine' ZaO ?h321;case h321=>refine' Zaa ?h319 ?h320;(case h319=>refine' ZaG ?h306;case h306=>refine' Zaa ?h304 ?h305;(case h304=>exact Zar);case h305=>refine' Zaa ?h302 ?h303;(case h302=>exact (pv 6));case h303=>exact Zac);case h320=>refine' Zaa ?h317 ?h318;(case h317=>refine' ZaG ?h311;case h311=>refine' Zaa ?h309 ?h310;(case h309=>exact Zar);case h310=>refine' Zaa ?h307 ?h308;(case h307=>exact (pv 9));case h308=>exact Zac);case h318=>refine' Zaa ?h315 ?h316;(case h315=>refine' ZaG ?h314;case h314=>refine' Zaa ?h312 ?h313;(case h312=>exact Zar);case h313=>exact Zac);case h316=>exact Zac);case h326=>exact ZaJ);case h497=>refine' Zad ?h494 ?h495;(case h494=>refine' Zbd ?h347 ?h348 ?h349;(case h347=>exact (Zau Zco (pv 5) Zae (nomark _)));(case h348=>refine' Zaf ?h346;case h346=>refine' Zap ?h345;case h345=>refine' ZaO ?h344;case h344=>refine' Zaa ?h342 ?h343;(case h342=>refine' ZaG ?h331;case h331=>refine' Zaa ?h329 ?h330;(case h329=>exact Zar);case h330=>refine' Zaa ?h327 ?h328;(case h327=>exact (pv 6));case h328=>exact Zac);case h343=>refine' Zaa ?h340 ?h341;(case h340=>refine' ZaG ?h334;case h334=>refine' Zaa ?h332 ?h333;(case h332=>exact Zar);case h333=>exact Zac);case h341=>refine' Zaa ?h338 ?h339;(case h338=>refine' ZaG ?h337;case h337=>refine' Zaa ?h335 ?h336;(case h335=>exact Zar);case h336=>exact Zac);case h339=>exact Zac);case h349=>exact ZaJ);case h495=>refine' Zad ?h492 ?h493;(case h492=>exact (Zbd (Zau Zfu (pv 5) Zae (nomark _)) (Zaf (Zap (ZaL c_Lasking (hr.mono (by decide)) rfl (Zaa (pv 5) (Zaa (pv 4) (Zaa (pv 9) (Zaa (pv 7) (Zaa (pv 8) Zac)))))))) ZaJ));case h493=>refine' Zad ?h490 ?h491;(case h490=>refine' Zbd ?h377 ?h378 ?h379;(case h377=>exact (Zau Zco (pv 5) Zae (nomark _)));(case h378=>refine' Zaf ?h376;case h376=>refine' Zap ?h375;case h375=>refine' ZaO ?h374;case h374=>refine' Zaa ?h372 ?h373;(case h372=>refine' ZaG ?h354;case h354=>refine' Zaa ?h352 ?h353;(case h352=>exact Zar);case h353=>refine' Zaa ?h350 ?h351;(case h350=>exact (pv 6));case h351=>exact Zac);case h373=>refine' Zaa ?h370 ?h371;(case h370=>refine' ZaG ?h359;case h359=>refine' Zaa ?h357 ?h358;(case h357=>exact Zar);case h358=>refine' Zaa ?h355 ?h356;(case h355=>exact (pv 7));case h356=>exact Zac);case h371=>refine' Zaa ?h368 ?h369;(case h368=>refine' ZaG ?h362;case h362=>refine' Zaa ?h360 ?h361;(case h360=>exact Zar);case h361=>exact Zac);case h369=>refine' Zaa ?h366 ?h367;(case h366=>refine' ZaG ?h365;case h365=>refine' Zaa ?h363 ?h364;(case h363=>exact Zar);case h364=>exact Zac);case h367=>exact Zac);case h379=>exact ZaJ);case h491=>refine' Zad ?h488 ?h489;(case h488=>refine' Zbd ?h407 ?h408 ?h409;(case h407=>exact (Zau Zco (pv 5) Zae (nomark _)));(case h408=>refine' Zaf ?h406;case h406=>refine' Zap ?h405;case h405=>refine' ZaO ?h404;case h404=>refine' Zaa ?h402 ?h403;(case h402=>refine' ZaG ?h382;case h382=>refine' Zaa ?h380 ?h381;(case h380=>exact Zar);case h381=>exact Zac);case h403=>refine' Zaa ?h400 ?h401;(case h400=>refine' ZaG ?h387;case h387=>refine' Zaa ?h385 ?h386;(case h385=>exact Zar);case h386=>refine' Zaa ?h383 ?h384;(case h383=>exact (ZaB Zb8 (pv 3) Zae));case h384=>exact Zac);case h401=>refine' Zaa ?h398 ?h399;(case h398=>refine' ZaG ?h392;case h392=>refine' Zaa ?h390 ?h391;(case h390=>exact Zar);case h391=>refine' Zaa ?h388 ?h389;(case h388=>exact (pv 9));case h389=>exact Zac);case h399=>refine' Zaa ?h396 ?h397;(case h396=>refine' ZaG ?h395;case h395=>refine' Zaa ?h393 ?h394;(case h393=>exact Zar);case h394=>exact Zac);case h397=>exact Zac);case h409=>exact ZaJ);case h489=>refine' Zad ?h486 ?h487;(case h486=>refine' Zbd ?h429 ?h430 ?h431;(case h429=>exact (Zau Zco (pv 5) Zae (nomark _)));(case h430=>refine' Zaf ?h428;case h428=>refine' Zap ?h427;case h427=>refine' ZaO ?h426;case h426=>refine' Zaa ?h424 ?h425;(case h424=>refine' ZaG ?h418;case h418=>refine' Zaa ?h416 ?h417;(case h416=>refine' Zav ?h412 ?h413 ?h414 ?h415;(case h412=>exact Zaq);(case h413=>refine' ZaO ?h411;case h411=>refine' ZlY (vs:=[.str "me", .str "from", .str "sent", .str "word"]) ?h410;case h410=>rfl);(case h414=>exact (ZaB Za2 (ZaB Zbk (pv 4) Zae) Zae));case h415=>exact fun _ _=>rfl);case h417=>exact Zac);case h425=>refine' Zaa ?h422 ?h423;(case h422=>refine' ZaG ?h421;case h421=>refine' Zaa ?h419 ?h420;(case h419=>exact Zar);case h420=>exact Zac);case h423=>exact Zac);case h431=>exact ZaJ);case h487=>refine' Zad ?h484 ?h485;(case h484=>refine' Zbd ?h481 ?h482 ?h483;(case h481=>exact (Zau Zco (pv 5) Zae (nomark _)));(case h482=>refine' Zad ?h479 ?h480;(case h479=>refine' ZaF (i:=10) ?h459 ?h460 ?h461 ?h462;(case h459=>exact Zbr.nd);(case h460=>rfl);(case h461=>(first|exact Or.inl rfl|exact Or.inr rfl));case h462=>refine' ZaO ?h458;case h458=>refine' Zaa ?h456 ?h457;(case h456=>refine' ZaG ?h436;case h436=>refine' Zaa ?h434 ?h435;(case h434=>exact Zar);case h435=>refine' Zaa ?h432 ?h433;(case h432=>exact (pv 6));case h433=>exact Zac);case h457=>refine' Zaa ?h454 ?h455;(case h454=>refine' ZaG ?h441;case h441=>refine' Zaa ?h439 ?h440;(case h439=>exact Zar);case h440=>refine' Zaa ?h437 ?h438;(case h437=>exact Zae);case h438=>exact Zac);case h455=>refine' Zaa ?h452 ?h453;(case h452=>refine' ZaG ?h444;case h444=>refine' Zaa ?h442 ?h443;(case h442=>exact Zar);case h443=>exact Zac);case h453=>refine' Zaa ?h450 ?h451;(case h450=>refine' ZaG ?h449;case h449=>refine' Zaa ?h447 ?h448;(case h447=>exact Zar);case h448=>refine' Zaa ?h445 ?h446;(case h445=>exact (pv 9));case h446=>exact Zac);case h451=>exact Zac);case h480=>refine' Zaf ?h478;case h478=>refine' Zap ?h477;case h477=>refine' ZaB ?h474 ?h475 ?h476;(case h474=>exact Zfj);(case h475=>exact (pv 10));case h476=>refine' ZaO ?h473;case h473=>refine' Zaa ?h471 ?h472;(case h471=>refine' ZaG ?h465;case h465=>refine' Zaa ?h463 ?h464;(case h463=>exact (ZaL c_Lsum_word (hr.mono (by decide)) rfl (Zaa (ZaB Zbk (pv 4) Zae) Zac)));case h464=>exact Zac);case h472=>refine' Zaa ?h469 ?h470;(case h469=>refine' ZaG ?h468;case h468=>refine' Zaa ?h466 ?h467;(case h466=>exact Zar);case h467=>exact Zac);case h470=>exact Zac);case h483=>exact ZaJ);case h485=>exact (Zaf (Zap (ZaL c_Lodd_rows (hr.mono (by decide)) rfl (Zaa (ZaB Zbk (pv 4) Zae) Zac))))
  walk_at "nx"
  have h0:Gw H H []:=Gw.start
  repeat walk_at "rdk"
  obtain ⟨mx,emx,mx0⟩:∃ z,cell*48271 % 2147483647=z/\0<=z:=⟨_,rfl,by omega⟩
  rw [emx]
  obtain ⟨wy,ewy,wy0,wy1⟩:∃ z,mx % 14=z/\0<=z/\z<14:=⟨_,rfl,by omega,by omega⟩
  rw [ewy]
  clear emx ewy
  obtain ⟨place,epl,hpl⟩:=pick3 p0 p1 p2 (mx / 14)
  have ipl:In64 place:=by rcases hpl with rfl|rfl|rfl<;>assumption
  refine ZaH hPA epl ?_
  repeat walk_at "rdk"
  obtain ⟨slot,esl,hsl⟩:=pick4 s0 s1 s2 s3 (mx / 42)
  have isl:In64 slot:=by rcases hsl with rfl|rfl|rfl|rfl<;>assumption
  refine ZaH hSL esl ?_
  repeat walk_at "rdk"
  rw [p64N]
  repeat walk_at "rdk"
  have i64:In64 (cell % 18446744073709551616):=ZbK _
  refine ⟨szl_6,fun AL q_AL=>?_⟩
  generalize e_:upd _ AL _=H1;have h1:=h0.newE q_AL e_;clear e_;repeat walk_at "rdk"
  obtain ⟨asked,eas,has⟩:=pick6 0 9 30 70 150 (cell % 18446744073709551616) (mx / 168)
  have ias:In64 asked:=by
   rcases has with rfl|rfl|rfl|rfl|rfl|rfl
   .exact Zbb (by decide) (by decide)
   .exact Zbb (by decide) (by decide)
   .exact Zbb (by decide) (by decide)
   .exact Zbb (by decide) (by decide)
   .exact Zbb (by decide) (by decide)
   .exact i64
  refine ZaH (Zas h1.h.1) eas ?_
  repeat walk_at "rdk"
  try (rw [p64N];repeat walk_at "rdk")
  refine ⟨szl_4,fun NL q_NL=>?_⟩
  generalize e_:upd _ NL _=H2;have h2:=h1.newE q_NL e_;clear e_;repeat walk_at "rdk"
  obtain ⟨number,enu,hnu⟩:=pick4 0 1 (mx / 1008 % 9) (cell % 18446744073709551616) (mx / 1008)
  have inu:In64 number:=by
   rcases hnu with rfl|rfl|rfl|rfl
   .exact Zbb (by decide) (by decide)
   .exact Zbb (by decide) (by decide)
   .exact Zbb (by omega) (by omega)
   .exact i64
  refine ZaH (Zas h2.h.1) enu ?_
  clear hnu enu eas has epl hpl esl hsl
  repeat walk_at "rdk"
  .have w1h0:Gw H2 H2 []:=Gw.start
   refine ⟨szl_2,fun r1_0 q_r1_0=>?_⟩
   generalize e_:upd _ r1_0 _=w1H1;have w1h1:=w1h0.newE q_r1_0 e_;clear e_;repeat walk_at "rdk"
   refine ⟨szl_2,fun r1_1 q_r1_1=>?_⟩
   generalize e_:upd _ r1_1 _=w1H2;have w1h2:=w1h1.newE q_r1_1 e_;clear e_;repeat walk_at "rdk"
   refine ⟨szl_1,fun r1_2 q_r1_2=>?_⟩
   generalize e_:upd _ r1_2 _=w1H3;have w1h3:=w1h2.newE q_r1_2 e_;clear e_;repeat walk_at "rdk"
   refine ⟨szl_3,fun L1 q_L1=>?_⟩
   generalize e_:upd _ L1 _=w1H4;have w1h4:=w1h3.newE q_L1 e_;clear e_;repeat walk_at "rdk"
   exact k L1 _ [("push", some (place)),("push", some (number)),("save", none)] _ (h2.s.trans w1h4.s) w1h4.h.1 (RowsAt.cons ⟨_,rfl,ZaA w1h4.h.2.2.2.1⟩ (RowsAt.cons ⟨_,rfl,ZaA w1h4.h.2.2.1⟩ (RowsAt.cons ⟨_,rfl,ZaA w1h4.h.2.1⟩ RowsAt.nil))) (all_cons (ZaY ipl) (all_cons (ZaY inu) (all_cons (ZaD rfl rfl) Zbi))) (by show 3<=7;decide)
  repeat walk_at "rdk"
  .have w2h0:Gw H2 H2 []:=Gw.start
   refine ⟨szl_2,fun r2_0 q_r2_0=>?_⟩
   generalize e_:upd _ r2_0 _=w2H1;have w2h1:=w2h0.newE q_r2_0 e_;clear e_;repeat walk_at "rdk"
   refine ⟨szl_1,fun r2_1 q_r2_1=>?_⟩
   generalize e_:upd _ r2_1 _=w2H2;have w2h2:=w2h1.newE q_r2_1 e_;clear e_;repeat walk_at "rdk"
   refine ⟨szl_1,fun r2_2 q_r2_2=>?_⟩
   generalize e_:upd _ r2_2 _=w2H3;have w2h3:=w2h2.newE q_r2_2 e_;clear e_;repeat walk_at "rdk"
   refine ⟨szl_3,fun L2 q_L2=>?_⟩
   generalize e_:upd _ L2 _=w2H4;have w2h4:=w2h3.newE q_L2 e_;clear e_;repeat walk_at "rdk"
   exact k L2 _ [("push", some (place)),("load", none),("note", none)] _ (h2.s.trans w2h4.s) w2h4.h.1 (RowsAt.cons ⟨_,rfl,ZaA w2h4.h.2.2.2.1⟩ (RowsAt.cons ⟨_,rfl,ZaA w2h4.h.2.2.1⟩ (RowsAt.cons ⟨_,rfl,ZaA w2h4.h.2.1⟩ RowsAt.nil))) (all_cons (ZaY ipl) (all_cons (ZaD rfl rfl) (all_cons (ZaD rfl rfl) Zbi))) (by show 3<=7;decide)
  repeat walk_at "rdk"
  .refine ⟨wy,mx,number,slot,asked,rfl,by omega,by omega,inu,isl,ias,fun q xs rs H' s1 e1 r1 f1 l1=>?_⟩
   repeat walk_at "rdk"
   exact k q xs rs H' (h2.s.trans s1) e1 r1 f1 l1
  repeat walk_at "rdk"
  .have w3h0:Gw H2 H2 []:=Gw.start
   refine ⟨szl_2,fun r3_0 q_r3_0=>?_⟩
   generalize e_:upd _ r3_0 _=w3H1;have w3h1:=w3h0.newE q_r3_0 e_;clear e_;repeat walk_at "rdk"
   refine ⟨szl_2,fun r3_1 q_r3_1=>?_⟩
   generalize e_:upd _ r3_1 _=w3H2;have w3h2:=w3h1.newE q_r3_1 e_;clear e_;repeat walk_at "rdk"
   refine ⟨szl_1,fun r3_2 q_r3_2=>?_⟩
   generalize e_:upd _ r3_2 _=w3H3;have w3h3:=w3h2.newE q_r3_2 e_;clear e_;repeat walk_at "rdk"
   refine ⟨szl_1,fun r3_3 q_r3_3=>?_⟩
   generalize e_:upd _ r3_3 _=w3H4;have w3h4:=w3h3.newE q_r3_3 e_;clear e_;repeat walk_at "rdk"
   refine ⟨szl_4,fun L3 q_L3=>?_⟩
   generalize e_:upd _ L3 _=w3H5;have w3h5:=w3h4.newE q_L3 e_;clear e_;repeat walk_at "rdk"
   exact k L3 _ [("push", some (place)),("push", some (slot)),("coin", none),("save", none)] _ (h2.s.trans w3h5.s) w3h5.h.1 (RowsAt.cons ⟨_,rfl,ZaA w3h5.h.2.2.2.2.1⟩ (RowsAt.cons ⟨_,rfl,ZaA w3h5.h.2.2.2.1⟩ (RowsAt.cons ⟨_,rfl,ZaA w3h5.h.2.2.1⟩ (RowsAt.cons ⟨_,rfl,ZaA w3h5.h.2.1⟩ RowsAt.nil)))) (all_cons (ZaY ipl) (all_cons (ZaY isl) (all_cons (ZaD rfl rfl) (all_cons (ZaD rfl rfl) Zbi)))) (by show 4<=7;decide)
  repeat walk_at "rdk"
  .have w4h0:Gw H2 H2 []:=Gw.start
   refine ⟨szl_1,fun r4_0 q_r4_0=>?_⟩
   generalize e_:upd _ r4_0 _=w4H1;have w4h1:=w4h0.newE q_r4_0 e_;clear e_;repeat walk_at "rdk"
   refine ⟨szl_2,fun r4_1 q_r4_1=>?_⟩
   generalize e_:upd _ r4_1 _=w4H2;have w4h2:=w4h1.newE q_r4_1 e_;clear e_;repeat walk_at "rdk"
   refine ⟨szl_2,fun r4_2 q_r4_2=>?_⟩
   generalize e_:upd _ r4_2 _=w4H3;have w4h3:=w4h2.newE q_r4_2 e_;clear e_;repeat walk_at "rdk"
   refine ⟨szl_1,fun r4_3 q_r4_3=>?_⟩
   generalize e_:upd _ r4_3 _=w4H4;have w4h4:=w4h3.newE q_r4_3 e_;clear e_;repeat walk_at "rdk"
   refine ⟨szl_4,fun L4 q_L4=>?_⟩
   generalize e_:upd _ L4 _=w4H5;have w4h5:=w4h4.newE q_L4 e_;clear e_;repeat walk_at "rdk"
   exact k L4 _ [("word", none),("jumpif", some (at'+4)),("push", some (number)),("fail", none)] _ (h2.s.trans w4h5.s) w4h5.h.1 (RowsAt.cons ⟨_,rfl,ZaA w4h5.h.2.2.2.2.1⟩ (RowsAt.cons ⟨_,rfl,ZaA w4h5.h.2.2.2.1⟩ (RowsAt.cons ⟨_,rfl,ZaA w4h5.h.2.2.1⟩ (RowsAt.cons ⟨_,rfl,ZaA w4h5.h.2.1⟩ RowsAt.nil)))) (all_cons (ZaD rfl rfl) (all_cons (Zga (.inr rfl) (by omega)) (all_cons (ZaY inu) (all_cons (ZaD rfl rfl) Zbi)))) (by show 4<=7;decide)
  repeat walk_at "rdk"
  .have xh0:Gw H2 H2 []:=Gw.start
   refine ⟨szl_4,fun TL q_TL=>?_⟩
   generalize e_:upd _ TL _=xH1;have xh1:=xh0.newE q_TL e_;clear e_;repeat walk_at "rdk"
   obtain ⟨tw,etw,ftw⟩:=tell4 (mx / 42)
   refine ZaH (Zas xh1.h.1) etw ?_
   repeat walk_at "rdk"
   refine ⟨szl_1,fun rx0 q_rx0=>?_⟩
   generalize e_:upd _ rx0 _=xH2;have xh2:=xh1.newE q_rx0 e_;clear e_;repeat walk_at "rdk"
   refine ⟨szl_1,fun rx1 q_rx1=>?_⟩
   generalize e_:upd _ rx1 _=xH3;have xh3:=xh2.newE q_rx1 e_;clear e_;repeat walk_at "rdk"
   refine ⟨szl_2,fun LX q_LX=>?_⟩
   generalize e_:upd _ LX _=xH4;have xh4:=xh3.newE q_LX e_;clear e_;repeat walk_at "rdk"
   exact k LX _ [(tw,none),("note", none)] _ (h2.s.trans xh4.s) xh4.h.1 (RowsAt.cons ⟨_,rfl,ZaA xh4.h.2.2.1⟩ (RowsAt.cons ⟨_,rfl,ZaA xh4.h.2.1⟩ RowsAt.nil)) (all_cons ftw (all_cons (ZaD rfl rfl) Zbi)) (by show 2<=7;decide)
  repeat walk_at "rdk"
  .have yh0:Gw H2 H2 []:=Gw.start
   refine ⟨szl_2,fun ry0 q_ry0=>?_⟩
   generalize e_:upd _ ry0 _=yH1;have yh1:=yh0.newE q_ry0 e_;clear e_;repeat walk_at "rdk"
   refine ⟨szl_2,fun ry1 q_ry1=>?_⟩
   generalize e_:upd _ ry1 _=yH2;have yh2:=yh1.newE q_ry1 e_;clear e_;repeat walk_at "rdk"
   refine ⟨szl_1,fun ry2 q_ry2=>?_⟩
   generalize e_:upd _ ry2 _=yH3;have yh3:=yh2.newE q_ry2 e_;clear e_;repeat walk_at "rdk"
   refine ⟨szl_2,fun ry3 q_ry3=>?_⟩
   generalize e_:upd _ ry3 _=yH4;have yh4:=yh3.newE q_ry3 e_;clear e_;repeat walk_at "rdk"
   refine ⟨szl_4,fun LY q_LY=>?_⟩
   generalize e_:upd _ LY _=yH5;have yh5:=yh4.newE q_LY e_;clear e_;repeat walk_at "rdk"
   refine ⟨_,rfl,fun sw HS sS hsw=>?_⟩
   have yy:=yh5.same sS
   have zh0:=yy
   repeat walk_at "rdk"
   refine ⟨szl_1,fun rz0 q_rz0=>?_⟩
   generalize e_:upd _ rz0 _=zH1;have zh1:=zh0.newE q_rz0 e_;clear e_;repeat walk_at "rdk"
   refine ⟨szl_1,fun rz1 q_rz1=>?_⟩
   generalize e_:upd _ rz1 _=zH2;have zh2:=zh1.newE q_rz1 e_;clear e_;repeat walk_at "rdk"
   refine ⟨szl_2,fun LZ q_LZ=>?_⟩
   generalize e_:upd _ LZ _=zH3;have zh3:=zh2.newE q_LZ e_;clear e_;repeat walk_at "rdk"
   refine Zfm zh3.h.2.2.2.1 zh3.h.1 (by simp only [List.length_append,List.length_cons,List.length_nil];decide) fun LW q_LW=>?_
   generalize e_:upd _ LW _=zH4;have zh4:=zh3.newE q_LW e_;clear e_;repeat walk_at "rdk"
   exact k LW _ [("push", some (place)),("copy", some (0)),("load", none),("push", some (number)),(sw,none),("save", none)] _ (h2.s.trans zh4.s) zh4.h.1 (RowsAt.cons ⟨_,rfl,ZaA zh4.h.2.2.2.2.2.2.2.2.1⟩ (RowsAt.cons ⟨_,rfl,ZaA zh4.h.2.2.2.2.2.2.2.1⟩ (RowsAt.cons ⟨_,rfl,ZaA zh4.h.2.2.2.2.2.2.1⟩ (RowsAt.cons ⟨_,rfl,ZaA zh4.h.2.2.2.2.2.1⟩ (RowsAt.cons ⟨_,rfl,ZaA zh4.h.2.2.2.1⟩ (RowsAt.cons ⟨_,rfl,ZaA zh4.h.2.2.1⟩ RowsAt.nil)))))) (all_cons (ZaY ipl) (all_cons (Zi3 (by decide)) (all_cons (ZaD rfl rfl) (all_cons (ZaY inu) (all_cons (sw_fit hsw) (all_cons (ZaD rfl rfl) Zbi)))))) (by show 6<=7;decide)
  repeat walk_at "rdk"
  refine ⟨_,rfl,fun q xs rs H' s1 e1 r1 f1 l1=>?_⟩
  repeat walk_at "rdk"
  exact k q xs rs H' (h2.s.trans s1) e1 r1 f1 l1
end
noncomputable def Zgb (K:PySem.W.Frag):Sp:=fun vs H Q _=>∃ (d:Dt) (v:V),vs=[v]/\d≠.non/\(∀ b,d≠.bl b)/\DV K H d v/\Q (.bl (match d with|.int _=>true|_=>false)) H
noncomputable def Zgc (K:PySem.W.Frag) (n:Nat):Sp:=fun vs H Q _=>∃ (d:Dt) (v:V),vs=[v]/\Zcb (n+1) d/\DV K H d v/\Q (.bl true) H
noncomputable def spNo37:Sp:=fun _ _ _ _=>False
noncomputable def ZmS (K:PySem.W.Frag):Nat->Sp
 | 0=>spNo37
 | n+1=>Zgc K n
theorem ZdS {K:PySem.W.Frag} {H:Hp} {y:FrS} {st:List Dt} {en:Str} {v:V} (h:DV K H (treeD y st) v) (hf:y.fin=some en):∃ T xs L ws,v=.ref T/\SqT K H T xs/\xs.length=11/\atI xs 7=some (.str en)/\atI xs 8=some (.int y.answer)/\atI xs 9=some (.int y.used)/\atI xs 10=some (.ref L)/\SqL K H L ws/\DVs K H st ws:=by
 unfold treeD DV at h
 rw [hf] at h
 obtain ⟨T,xs,rfl,h1,d1⟩:=h
 simp only [DVs,endD] at d1
 obtain ⟨x0,t0,rfl,e0,x1,t1,rfl,e1,x2,t2,rfl,e2,x3,t3,rfl,e3,x4,t4,rfl,e4,x5,t5,rfl,e5,x6,t6,rfl,e6,x7,t7,rfl,e7,x8,t8,rfl,e8,x9,t9,rfl,e9,x10,t10,rfl,e10,rfl⟩:=d1
 unfold DV at e0 e1 e2 e3 e4 e5 e6 e7 e8 e9 e10
 subst e0 e1 e2 e3 e4 e5 e6 e7 e8 e9
 obtain ⟨L,ws,rfl,hL,dL⟩:=e10
 exact ⟨T,_,L,ws,rfl,h1,rfl,rfl,rfl,rfl,rfl,hL,dL⟩
section
variable {P:Program} {w:World} {K:PySem.W.Frag} {mg:Str->Option Value} {base:Heap}
theorem Zlk:FnScope ["_law_found"] ["_law_found"] (Zab ZfK):=⟨rfl,rfl,rfl,by decide +kernel,rfl,by decide +kernel,by decide +kernel⟩
theorem Zll    (D:Zao K mg "_law_whole" ZfK) (n_isinstance:mg "isinstance" = none) (n_int:mg "int" = none) (n_bool:mg "bool" = none):Cal P w K mg base 1 "_law_whole" (Zgb K):=by
 refine Zaz D Zlk (fun vs H Q E h=>?_) (fun _ _ _ _ _ _ us hl=>bd1 (R:=fun us=>bindArgs _ ⟨us,[]⟩=pure (List.zip _ us)) (fun _=>rfl) us hl) (fun f cdv A outer s H vs Q E hr h=>?_)
 .obtain ⟨d,v,rfl,_⟩:=h;rfl
 .obtain ⟨d,v,rfl,hn,hb,hv,k⟩:=h
  refine ⟨_,(Zaf (Zap (ZjJ (ZaM ZcY rfl n_isinstance PyProof.Rows.boot_isinstance (Zaa (pv 0) (Zaa (Zep rfl n_int PyProof.Rows.boot_int) Zac))) (Zgf (pe_not (ZaM ZcY rfl n_isinstance PyProof.Rows.boot_isinstance (Zaa (pv 0) (Zaa (Zep rfl n_bool PyProof.Rows.boot_bool) Zac)))))))),?_⟩
  walk_at "nx"
  cases d with
  | non=>exact absurd rfl hn
  | bl b=>exact absurd rfl (hb b)
  | int i =>
   unfold DV at hv
   subst hv
   repeat walk_at "rdz"
   all_goals first|exact k|exact ZbS (by simp) k
  | str z =>
   unfold DV at hv
   subst hv
   repeat walk_at "rdz"
   all_goals first|exact k|exact ZbS (by simp) k
  | lst ds =>
   unfold DV at hv
   obtain ⟨a1,xs,rfl,h1,d1⟩:=hv
   repeat walk_at "rdz"
   all_goals first|exact k|exact ZbS (by simp) k
  | tup ds =>
   unfold DV at hv
   obtain ⟨a1,xs,rfl,h1,d1⟩:=hv
   repeat walk_at "rdz"
   all_goals first|exact k|exact ZbS (by simp) k
theorem Ze2:FnScope ["_law_tree", "_law_step"] ["_law_tree"] (Zab Zdj):=⟨rfl,rfl,rfl,by decide +kernel,rfl,by decide +kernel,by decide +kernel⟩
theorem Zfr  {n k:Nat}  (D:Zao K mg "_law_still" Zdj) (c_Lwhole:Cal P w K mg base 1 "_law_whole" (Zgb K)) (c_Lstill:Cal P w K mg base (k+1) "_law_still" (ZmS K n)) (n_isinstance:mg "isinstance" = none) (n_tuple:mg "tuple" = none) (n_len:mg "len" = none) (n_list:mg "list" = none):Cal P w K mg base (k+2) "_law_still" (Zgc K n):=by
 refine Zaz D Ze2 (fun vs H Q E h=>?_) (fun _ _ _ _ _ _ us hl=>bd1 (R:=fun us=>bindArgs _ ⟨us,[]⟩=pure (List.zip _ us)) (fun _=>rfl) us hl) (fun f cdv A outer s H vs Q E hr h=>?_)
 .obtain ⟨d,v,rfl,_⟩:=h;rfl
 .obtain ⟨d,v,rfl,hst,hv,k⟩:=h
  refine ⟨_,(Zad (Zbd (PW.pt (Ze3 (ZdT (Zcm (ZaM ZcY rfl n_isinstance PyProof.Rows.boot_isinstance (Zaa (pv 0) (Zaa (Zep rfl n_tuple PyProof.Rows.boot_tuple) Zac))))) (Ze3 (Zau Zhw (ZaM ZbO rfl n_len PySem.boot_len (Zaa (pv 0) Zac)) Zae (nomark _)) (Zfe (ZdT (Zcm (ZaM ZcY rfl n_isinstance PyProof.Rows.boot_isinstance (Zaa (Zav Za0 (pv 0) Zae (fun _ _=>rfl)) (Zaa (Zep rfl n_list PyProof.Rows.boot_list) Zac))))))))) (Zaf (Zap Zfs)) ZaJ)
   (Zad (Zff PassesOwn.never rfl (Zdr (Zav Za0 (pv 0) Zae (fun _ _=>rfl))) (ZbV (i:=1) Ze2.nd rfl (by first|exact Or.inl rfl|exact Or.inr rfl))
   (Zaf (Zbd (ZdT (Zcm (ZaL c_Lwhole (hr.mono (by omega)) rfl (Zaa (pv 1) Zac)))) (Zaf (Zbd (PW.pt (Ze3 (ZdT (Zcm (ZaM ZcY rfl n_isinstance PyProof.Rows.boot_isinstance (Zaa (pv 1) (Zaa (Zep rfl n_tuple PyProof.Rows.boot_tuple) Zac))))) (Ze3 (Zau Zhw (ZaM ZbO rfl n_len PySem.boot_len (Zaa (pv 1) Zac)) Zae (nomark _)) (Zfe (ZdT (Zcm (ZaL c_Lstill (hr.mono (by omega)) rfl (Zaa (pv 1) Zac)))))))) (Zaf (Zap Zfs)) ZaJ)) ZaJ)))
   (Zaf (Zap Zfs)))),?_⟩
  walk_at "nx"
  obtain ⟨y,st,en,rfl,hf,hsl,hst⟩:=hst
  obtain ⟨T,xs,L,ws,rfl,hT,l11,a7,a8,a9,a10,hL,dL⟩:=ZdS hv hf
  have lws:=dL.length
  repeat walk_at "rdz"
  all_goals try (exfalso;omega)
  refine Zcn hT a10 ?_
  repeat walk_at "rdz"
  refine Zfn (ZcJ ?_)
  repeat walk_at "rdz"
  refine Zcn hT a10 ?_
  refine ⟨L,rfl,⟨_,hL⟩,Zft (xs:=ws) (fun i σ' H'=>H'=H/\∃ v3,σ'=[some (.ref T),v3]) ⟨rfl,_,rfl⟩ (fun i σ' H' _ hz=>by rw [hz.1];exact hL) ?_ ?_⟩
  .rintro i xx σ' H' hxx ⟨rfl,v3,rfl⟩
   have hi5:i<ws.length:=(List.getElem?_eq_some_iff.mp hxx).1
   obtain ⟨d,hd⟩:∃ d,st[i]?=some d:=⟨_,List.getElem?_eq_getElem (by omega)⟩
   have dd:=dL.get hd hxx
   rcases hst d (List.mem_of_getElem? hd) with ⟨j,rfl⟩|hs
   .unfold DV at dd
    subst dd
    repeat walk_at "rdz"
    refine ⟨.int j,_,rfl,by simp,by simp,ZbH,?_⟩
    repeat walk_at "rdz"
    exact ⟨rfl,_,rfl⟩
   .cases n with
    | zero=>exact hs.elim
    | succ m =>
     have hs':Zcb (m+1) d:=hs
     obtain ⟨y2,st2,en2,rfl,hf2,_,_⟩:=hs
     have dd0:=dd
     obtain ⟨T2,xs2,L2',ws2,rfl,hT2,l112,_,_,_,_,_,_⟩:=ZdS dd hf2
     repeat walk_at "rdz"
     refine ⟨treeD y2 st2,_,rfl,by unfold treeD;simp,by unfold treeD;simp,dd0,?_⟩
     repeat walk_at "rdz"
     refine iteT ?_
     repeat walk_at "rdz"
     all_goals try (exfalso;omega)
     refine ⟨_,_,rfl,hs',dd0,?_⟩
     repeat walk_at "rdz"
     exact ⟨rfl,_,rfl⟩
  .rintro σ' H' ⟨rfl,v3,rfl⟩
   repeat walk_at "rdz"
   exact k
theorem ZmT (D:Zao K mg "_law_still" Zdj):Cal P w K mg base 1 "_law_still" spNo37 :=
 Zaz D Ze2 (fun _ _ _ _ h=>h.elim) (fun _ _ _ _ _ _ us hl=>bd1 (R:=fun us=>bindArgs _ ⟨us,[]⟩=pure (List.zip _ us)) (fun _=>rfl) us hl) (fun _ _ _ _ _ _ _ _ _ _ h=>h.elim)
theorem Zho (D:Zao K mg "_law_still" Zdj) (c_Lwhole:Cal P w K mg base 1 "_law_whole" (Zgb K)) (n_isinstance:mg "isinstance" = none) (n_tuple:mg "tuple" = none) (n_len:mg "len" = none) (n_list:mg "list" = none):∀ n,Cal P w K mg base (n+2) "_law_still" (Zgc K n)
 | 0=>Zfr (n:=0) (k:=0) D c_Lwhole (ZmT D) n_isinstance n_tuple n_len n_list
 | n+1=>Zfr (n:=n+1) (k:=n+1) D c_Lwhole (Zho D c_Lwhole n_isinstance n_tuple n_len n_list n) n_isinstance n_tuple n_len n_list
end
noncomputable def PgAt (K:PySem.W.Frag) (H:Hp) (a:Addr):Prop:=∃ xs rs,H a=some (.lst xs)/\RowsAt K H rs xs/\(∀ r∈rs,Zbq r)/\rs.length<=60
theorem PgAt.same {K:PySem.W.Frag} {H H':Hp} {a:Addr} (h:PgAt K H a) (s:Same H H'):PgAt K H' a:=let ⟨xs,rs,e,r,f,l⟩:=h;⟨xs,rs,s _ _ e,r.keep s.imm,f,l⟩
theorem PgAt.but {K:PySem.W.Frag} {H:Hp} {a q:Addr} {xs:List V} {o:HO} (h:PgAt K H a) (hq:H q=some (.lst xs)) (n:a≠q):PgAt K (upd H q o) a:=let ⟨xs,rs,e,r,f,l⟩:=h;⟨xs,rs,by rw [Zai n];exact e,r.keep (SameI.upd hq Zbt),f,l⟩
theorem RowsAt.appF {K:PySem.W.Frag} {H:Hp} {rs2:List Row} {ys:List V} (h2:RowsAt K H rs2 ys):∀ {rs:List Row} {xs:List V},RowsAt K H rs xs->RowsAt K H (rs++rs2) (xs++ys)
 | [],[],_=>h2
 | _::_,_::_,h=>RowsAt.cons h.tail.1 (RowsAt.appF h2 h.tail.2)
 | [],_::_,h=>by have:=h.1;simp at this
 | _::_,[],h=>by have:=h.1;simp at this
noncomputable def Zlm (K:PySem.W.Frag):Sp:=fun vs H Q _=>∃ (CL SL PA:Addr) (cs:List Int) (s0 s1 s2 s3 p0 p1 p2:Int),vs=[.ref CL,.ref SL,.ref PA]/\SqL K H CL (cs.map V.int)/\cs.length<=60/\SqL K H SL [.int s0,.int s1,.int s2,.int s3]/\SqL K H PA [.int p0,.int p1,.int p2]/\In64 s0/\In64 s1/\In64 s2/\In64 s3/\In64 p0/\In64 p1/\In64 p2 /\
 ∀ (q:Addr) (as:List Addr) (H':Hp),Same H H'->H' q=some (.lst (as.map V.ref))->as.length=3->(∀ a∈as,PgAt K H' a)->Q (.ref q) H'
section
variable {P:Program} {w:World} {K:PySem.W.Frag} {mg:Str->Option Value} {base:Heap}
theorem Zb5:FnScope ["_law_cells", "_law_slots", "_law_places", "_law_programs_here", "_law_k", "_law_rows"] ["_law_cells", "_law_slots", "_law_places"] (Zab Zc6):=⟨rfl,rfl,rfl,by decide +kernel,rfl,by decide +kernel,by decide +kernel⟩
theorem Zhp    (D:Zao K mg "_law_programs" Zc6) (c_Lsnippet:Cal P w K mg base 2 "_law_snippet" (spSnip K)) (n_range:mg "range" = none) (n_len:mg "len" = none):Cal P w K mg base 3 "_law_programs" (Zlm K):=by
 refine Zaz D Zb5 (fun vs H Q E h=>?_) (fun _ _ _ _ _ _ us hl=>bd3 (R:=fun us=>bindArgs _ ⟨us,[]⟩=pure (List.zip _ us)) (fun _ _ _=>rfl) us hl) (fun f cdv A outer s H vs Q E hr h=>?_)
 .obtain ⟨CL,SL,PA,cs,s0,s1,s2,s3,p0,p1,p2,rfl,_⟩:=h;rfl
 .obtain ⟨CL,SL,PA,cs,s0,s1,s2,s3,p0,p1,p2,rfl,hC,hcl,hSL,hPA,j0,j1,j2,j3,q0,q1,q2,k⟩:=h
  refine ⟨_,(Zad (ZaF (i:=3) Zb5.nd rfl (by first|exact Or.inl rfl|exact Or.inr rfl) (ZaO (Zaa (ZaO Zac) (Zaa (ZaO Zac) (Zaa (ZaO Zac) Zac)))))
   (Zad (Zff PassesOwn.never rfl (Zcq rfl n_range (Zaa (ZaM ZbO rfl n_len PySem.boot_len (Zaa (pv 0) Zac)) Zac)) (ZbV (i:=4) Zb5.nd rfl (by first|exact Or.inl rfl|exact Or.inr rfl))
   (Zad (ZaF (i:=5) Zb5.nd rfl (by first|exact Or.inl rfl|exact Or.inr rfl) (Zav Zaq (pv 3) (ZaB Za2 (pv 4) Zae) (fun _ _=>rfl)))
   (Zaf (Zbd (Zau Zfu (ZaM ZbO rfl n_len PySem.boot_len (Zaa (pv 5) Zac)) Zae (nomark _)) (Zaf (Zgh (ZaB Zfj (pv 5) (ZaL c_Lsnippet (hr.mono (by decide)) rfl (Zaa (Zav Zaq (pv 0) (pv 4) (fun _ _=>rfl)) (Zaa (pv 1) (Zaa (pv 2) (Zaa (ZaM ZbO rfl n_len PySem.boot_len (Zaa (pv 5) Zac)) Zac)))))) (Zgg (pv 3) (ZaB Za2 (pv 4) Zae) Zdf))) ZaJ))))
   (Zaf (Zap (pv 3))))),?_⟩
  walk_at "nx"
  have uh0:Gw H H []:=Gw.start
  repeat walk_at "rdk"
  refine ⟨szl_0,fun a0 q_a0=>?_⟩
  generalize e_:upd _ a0 _=uH1;have uh1:=uh0.newE q_a0 e_;clear e_;repeat walk_at "rdk"
  refine ⟨szl_0,fun a1 q_a1=>?_⟩
  generalize e_:upd _ a1 _=uH2;have uh2:=uh1.newE q_a1 e_;clear e_;repeat walk_at "rdk"
  refine ⟨szl_0,fun a2 q_a2=>?_⟩
  generalize e_:upd _ a2 _=uH3;have uh3:=uh2.newE q_a2 e_;clear e_;repeat walk_at "rdk"
  refine ⟨szl_3,fun q q_q=>?_⟩
  generalize e_:upd _ q _=uH4;have uh4:=uh3.newE q_q e_;clear e_;repeat walk_at "rdk"
  have nq:H q=none:=uh3.fresh q_q
  have lcs:(cs.map V.int).length=cs.length:=List.length_map _
  have hC4:=uh4.s.seq hC
  refine Zfn (Zdh ?_)
  repeat walk_at "rdk"
  refine ⟨_,rfl,by omega,by omega,?_⟩
  rw [lcs,Int.toNat_natCast]
  refine Zed (fun i σ' H'=>Same H H'/\∃ (as:List Addr) (v1 v2:Option V),H' q=some (.lst (as.map V.ref))/\as.length=3/\(∀ a∈as,a≠q/\PgAt K H' a)/\σ'=[some (.ref CL),some (.ref SL),some (.ref PA),some (.ref q),v1,v2]) ⟨uh4.s,[a0,a1,a2],none,none,uh4.h.1,rfl,?_,rfl⟩ ?_ ?_
  .have z:∀ a,(∃ xs,uH3 a=some (.lst xs))->uH4 a=some (.lst [])->a≠q/\PgAt K uH4 a:=fun a ⟨xs,h⟩ h2=>⟨Zaj h q_q,[],[],h2,RowsAt.nil,Zbi,Nat.zero_le _⟩
   intro a ha
   simp only [List.mem_cons,List.not_mem_nil,or_false] at ha
   rcases ha with rfl|rfl|rfl
   .exact z _ ⟨_,uh3.h.2.2.1⟩ uh4.h.2.2.2.1
   .exact z _ ⟨_,uh3.h.2.1⟩ uh4.h.2.2.1
   .exact z _ ⟨_,uh3.h.1⟩ uh4.h.2.1
  .rintro i σ' HA hi ⟨sA,as,v1,v2,eq,las,hP,rfl⟩
   obtain ⟨jn,ej,hj⟩:∃ z:Nat,(0+(i:Int)) % 3=(z:Int)/\z<3:=⟨((0+(i:Int)) % 3).toNat,by omega,by omega⟩
   obtain ⟨a,ha⟩:∃ a,as[jn]?=some a:=⟨_,List.getElem?_eq_getElem (by omega)⟩
   obtain ⟨na,xs,rs,eA,hR,hF,hl⟩:=hP a (List.mem_of_getElem? ha)
   have hxl:xs.length=rs.length:=hR.1.symm
   have hAs:=Zas (K:=K) eA
   obtain ⟨c,hc⟩:∃ c,cs[i]?=some c:=⟨_,List.getElem?_eq_getElem hi⟩
   have hat:atI (cs.map V.int) (0+(i:Int))=some (.int c):=by rw [Int.zero_add];exact ZcW (by rw [List.getElem?_map,hc];rfl)
   have haj:atI (as.map V.ref) (jn:Int)=some (.ref a):=ZcW (by rw [List.getElem?_map,ha];rfl)
   repeat walk_at "rdk"
   rw [ej]
   refine ZaH (Zas eq) haj ?_
   by_cases h54:xs.length<54
   .repeat walk_at "rdz"
    all_goals try (exfalso;omega)
    refine ZaH (sA.seq hC) hat ?_
    repeat walk_at "rdk"
    refine ⟨c,SL,PA,s0,s1,s2,s3,p0,p1,p2,_,rfl,sA.seq hSL,sA.seq hPA,j0,j1,j2,j3,q0,q1,q2,by omega,fun q2' ys rs2 HB sB eB rB fB lB=>?_⟩
    have hyl:ys.length=rs2.length:=rB.1.symm
    repeat walk_at "rdk"
    refine Zfm (sB _ _ eA) eB (Nat.le_trans (show _<=100 by omega) (by decide)) fun n1 q_n1=>?_
    have z0:Gw HB HB []:=Gw.start
    generalize e_:upd _ n1 _=Z1;have z1:=z0.newE q_n1 e_;clear e_;repeat walk_at "rdk"
    try rw [ej]
    have eq1:=z1.s _ _ (sB _ _ eq)
    refine Zeu eq1 (ZfC (j:=jn) rfl (by rw [List.length_map,las];exact hj)) ?_
    have nn:n1≠q:=Ne.symm (Zaj (sB _ _ eq) q_n1)
    refine ⟨((sA.trans sB).trans z1.s).wr nq,as.set jn n1,_,_,by rw [Zag,List.map_set],by rw [List.length_set,las],fun b hb=>?_,rfl⟩
    rcases List.mem_or_eq_of_mem_set hb with hb|rfl
    .obtain ⟨nb,pb⟩:=hP b hb
     exact ⟨nb,((pb.same sB).same z1.s).but eq1 nb⟩
    .exact ⟨nn,PgAt.but ⟨xs++ys,rs++rs2,z1.h.1,RowsAt.appF (rB.keep z1.s.imm) (hR.keep (sB.trans z1.s).imm),fun r hr=>(List.mem_append.1 hr).elim (hF r) (fB r),by rw [List.length_append];omega⟩ eq1 nn⟩
   .repeat walk_at "rdz"
    all_goals try (exfalso;omega)
    exact ⟨sA,as,_,_,eq,las,hP,rfl⟩
  .rintro σ' H9 ⟨s9,as,v1,v2,eq,las,hP,rfl⟩
   repeat walk_at "rdk"
   exact k q as H9 s9 eq las fun a ha=>(hP a ha).2
end
noncomputable def cellF (ns:List Int) (k:Int):Int:=(ns[k.toNat]?).getD 0
noncomputable def Zis (K:PySem.W.Frag):Sp:=fun vs H Q _=>∃ (p:Addr) (ns:List Int) (k:Int),vs=[.ref p,.int k]/\0<=k/\SqL K H p (ns.map V.int)/\Q (.int (cellF ns k)) H
noncomputable def WS:List Str:=["push", "drop", "copy", "swap", "add", "minus", "times", "over", "rest", "below", "same", "both", "either", "unlike", "up", "down", "jump", "jumpif", "load", "save", "me", "from", "sent", "word", "coin", "note", "call", "borrow", "look", "give", "fail"]
noncomputable def Zck (r:Row):List Int:=[(Zex WS r.1:Int),r.2.getD 0]
noncomputable def Zln (n c p:Int) (rs:List Row) (f:Int->Int) (L:List Int):List Int:=[n,c,p,(rs.length:Int)]++rs.flatMap Zck++[(L.length:Int)]++L.flatMap fun i=>[i,f i]
noncomputable def spRowN (K:PySem.W.Frag):Sp:=fun vs H Q _=>∃ (v:V) (r:Row),vs=[v]/\RowAt K H r v/\r.1∈WS/\∀ p,H p=none->Q (.ref p) (upd H p (.lst ((Zck r).map V.int)))
noncomputable def Supp (f:Int->Int) (L:List Int):Prop:=L.Pairwise (·<·)/\∀ i,i∈L ↔ f i≠0
noncomputable def Zlo (K:PySem.W.Frag) (C:Addr):Sp:=fun vs H Q _=>∃ (a dx pr st:Addr) (c p n:Int) (rs:List Row) (f:Int->Int) (m:Nat),vs=[.ref a]/\AcAt K C H a dx pr st c p n rs f m/\m<64/\rs.length<=1000/\(∀ r∈rs,r.1∈WS) /\
 ∀ l L H',Same H H'->H l=none->Supp f L->L.length<64->H' l=some (.lst ((Zln n c p rs f L).map V.int))->Q (.ref l) H'
theorem Zon {kvs:List (Key×V)} {f:Int->Int} {ks ms:List Int} (hn:(kvs.map (·.1)).Nodup) (hz:∀ p∈kvs,∃ i n:Int,p=(Sum.inl i,.int n)/\n≠0) (hf:∀ i:Int,(valV kvs (Sum.inl i:Key)).getD (.int 0)=.int (f i)) (hk:kvs.map (·.1)=ks.map Sum.inl) (hp:ms.Perm ks) (hs:ms.Pairwise (·<=·)):Supp f ms:=by
 have hkn:ks.Nodup:=by
  rw [hk] at hn
  exact (List.pairwise_map.mp hn).imp fun h e=>h (by rw [e])
 refine ⟨Zmc hs (hp.nodup_iff.mpr hkn),fun i=>?_⟩
 rw [hp.mem_iff]
 constructor
 .intro hi
  have hm:(Sum.inl i:Key)∈kvs.map (·.1):=by rw [hk];exact List.mem_map.mpr ⟨i,hi,rfl⟩
  cases e:valV kvs (Sum.inl i:Key) with
  | none=>exact absurd hm (Zfz e)
  | some v =>
   obtain ⟨j,n,e2,hn0⟩:=hz _ (ZiS e)
   cases e2
   have:=hf i
   rw [e] at this
   have e3:V.int n=V.int (f i):=this
   cases e3
   exact hn0
 .intro hi
  cases e:valV kvs (Sum.inl i:Key) with
  | none =>
   have:=hf i
   rw [e] at this
   have e3:V.int 0=V.int (f i):=this
   exact absurd (V.int.inj e3).symm hi
  | some v =>
   have hm:=ZnD e
   rw [hk] at hm
   obtain ⟨j,hj,e4⟩:=List.mem_map.mp hm
   cases e4
   exact hj
noncomputable def suppL (f:Int->Int):List Int:=open Classical in if h:∃ L,Supp f L then h.choose else []
theorem Zi5 {f:Int->Int} {L:List Int} (h:Supp f L):suppL f=L:=by
 unfold suppL
 rw [dif_pos ⟨L,h⟩]
 have h2:=Exists.choose_spec (p:=fun L=>Supp f L) ⟨L,h⟩
 exact ZiI h2.1 h.1 fun i=>(h2.2 i).trans (h.2 i).symm
noncomputable def plainS (s:AcS):List Int:=Zln s.count s.coin s.purse s.rows s.store (suppL s.store)
theorem ZmU (ns:List Int):Dt.deps (Dt.ints ns)=0:=by
 induction ns with
 | nil=>simp [Dt.ints,Dt.deps]
 | cons n ns ih=>simp [Dt.ints,Dt.deps,Dt.dep] at *;exact ih
noncomputable def hasAll (A:Nat->Option AcI) (ss:List Nat):Prop:=∀ i∈ss,i<16/\∃ x,A i=some x
noncomputable def setO (A:Nat->Option AcI) (i:Nat) (x:AcI):Nat->Option AcI:=fun j=>if j=i then some x else A j
theorem Zlp {A:Nat->Option AcI} {i:Nat} {x:AcI} (hi:i<16):((List.range 16).map fun j=>roomV (A j)).set i (.ref x.a)=(List.range 16).map fun j=>roomV (setO A i x j):=by
 apply List.ext_getElem?
 intro n
 rw [List.getElem?_set]
 by_cases e:i=n
 .subst e
  rw [if_pos rfl,if_pos (by simpa using hi),List.getElem?_map,List.getElem?_range hi]
  show _=some (roomV (setO A i x i))
  unfold setO
  rw [if_pos rfl]
  rfl
 .rw [if_neg e,List.getElem?_map,List.getElem?_map]
  by_cases hn:n<16
  .rw [List.getElem?_range hn]
   show some _=some (roomV (setO A i x n))
   unfold setO
   rw [if_neg (Ne.symm e)]
  .rw [List.getElem?_eq_none (by simpa using hn)]
   rfl
theorem Zcl {A:Nat->Option AcI} {i:Nat} {x:AcI}:∀ j y,setO A i x j=some y->(j=i/\y=x)\/(j≠i/\A j=some y):=fun j y h=>by
 unfold setO at h
 by_cases z:j=i
 .rw [if_pos z] at h;cases h;exact .inl ⟨z,rfl⟩
 .rw [if_neg z] at h;exact .inr ⟨z,h⟩
theorem Rooms.add {K:PySem.W.Frag} {C:Addr} {H H':Hp} {R:Addr} {A:Nat->Option AcI} {S:Nat->AcS} {m:Nat} (r:Rooms K C H R A S m) {i:Nat} (hi:i<16) {x:AcI} {s:AcS} (e5:H' R=some (.lst (((List.range 16).map fun j=>roomV (A j)).set i (.ref x.a)))) (e6:Acc K C H' x s m)
  (fr:∀ b o,H b=some o->b≠R->(∀ kvs,o≠.dK kvs)->H' b=some o) (fs:∀ j y,j<16->A j=some y->H' y.st=H y.st) (np:∀ j y,j<16->A j=some y->y.pr≠R) (n3:H x.a=none) (n4:H x.st=none):Rooms K C H' R (setO A i x) (setS S i s) m:=by
 have hR:=r.ob
 have sne:∀ j y,j<16->A j=some y->∃ kvs,H y.st=some (.dK kvs):=fun j y hj hy=>let ⟨kvs,a,_⟩:=(r.ac j y hj hy).sto;⟨kvs,a⟩
 have im:SameI H H':=fun b u e i=>by
  refine fr b u e (fun z=>?_) (fun kvs z=>?_)
  .rw [z,hR] at e;cases e;exact Zbt i
  .rw [z] at i;exact ZgG i
 refine ⟨by rw [e5,Zlp hi],fun j y hj hy=>?_,fun j j' y y' hj hj' hy hy' e=>?_,fun j j' y y' hj hj' hy hy' e=>?_⟩
 .rcases Zcl j y hy with ⟨rfl,rfl⟩|⟨z,gy⟩
  .unfold setS;rw [if_pos rfl];exact e6
  .unfold setS;rw [if_neg z]
   have h:=r.ac j y hj gy
   obtain ⟨xs,g1,g2⟩:=h.pg
   obtain ⟨kvs,g3,g4⟩:=h.sto
   exact ⟨fr _ _ h.ob (Zbl h.ob hR (by intro z;cases z)) (by intro _ z;cases z),⟨xs,fr _ _ g1 (np j y hj gy) (by intro _ z;cases z),g2.keep im⟩,kvs,(fs j y hj gy).trans g3,g4⟩
 .rcases Zcl j y hy with ⟨rfl,rfl⟩|⟨z,gy⟩<;>rcases Zcl j' y' hy' with ⟨rfl,rfl⟩|⟨z',gy'⟩
  .rfl
  .have h:=(r.ac j' y' hj' gy').ob;rw [<- e,n3] at h;cases h
  .have h:=(r.ac j y hj gy).ob;rw [e,n3] at h;cases h
  .exact r.da j j' y y' hj hj' gy gy' e
 .rcases Zcl j y hy with ⟨rfl,rfl⟩|⟨z,gy⟩<;>rcases Zcl j' y' hy' with ⟨rfl,rfl⟩|⟨z',gy'⟩
  .rfl
  .obtain ⟨_,h⟩:=sne j' y' hj' gy';rw [<- e,n4] at h;cases h
  .obtain ⟨_,h⟩:=sne j y hj gy;rw [e,n4] at h;cases h
  .exact r.ds j j' y y' hj hj' gy gy' e
theorem Rooms.empty {K:PySem.W.Frag} {C:Addr} {H:Hp} {R:Addr} {m:Nat} (f:H R=some (.lst ((List.range 16).map fun i=>roomV ((fun _=>none:Nat->Option AcI) i)))) (S:Nat->AcS):Rooms K C H R (fun _=>none) S m :=
 ⟨f,fun _ _ _ h=>(nomatch h),fun _ _ _ _ _ _ h=>(nomatch h),fun _ _ _ _ _ _ h=>(nomatch h)⟩
theorem Rooms.made {K:PySem.W.Frag} {C:Addr} {H H2:Hp} {R:Addr} {A:Nat->Option AcI} {S:Nat->AcS} {m:Nat} (r:Rooms K C H R A S m) {i:Nat} (hi:i<16) (np:∀ j y,j<16->A j=some y->y.pr≠R) {a dx pr st:Addr} {c p:Int} {rs:List Row} (s:Same H H2) (ha:H a=none) (hpr:H pr=none) (hst:H st=none) (ac:AcAt K C H2 a dx pr st c p 0 rs (fun _=>0) 0) :
  Rooms K C (upd H2 R (.lst (((List.range 16).map fun j=>roomV (A j)).set i (.ref a)))) R (setO A i ⟨a,dx,pr,st⟩) (setS S i ⟨c,p,0,rs,fun _=>0⟩) m/\∀ j y,j<16->setO A i ⟨a,dx,pr,st⟩ j=some y->y.pr≠R:=by
 have nR:pr≠R:=Ne.symm (Zaj r.ob hpr)
 have im:SameI H2 (upd H2 R (.lst (((List.range 16).map fun j=>roomV (A j)).set i (.ref a)))):=SameI.upd (s _ _ r.ob) Zbt
 obtain ⟨xs,g1,g2⟩:=ac.pg
 obtain ⟨kvs,g3,g4,g5⟩:=ac.sto
 refine ⟨r.add (x:=⟨a,dx,pr,st⟩) hi Zag ⟨by rw [Zai (Zbl ac.ob (s _ _ r.ob) (by intro z;cases z))];exact ac.ob,⟨xs,by rw [Zai nR];exact g1,g2.keep im⟩,kvs,by rw [Zai (Zbl g3 (s _ _ r.ob) (by intro z;cases z))];exact g3,Nat.le_trans g4 (Nat.zero_le _),g5⟩ (fun b o h h1 _=>by rw [Zai h1];exact s _ _ h) (fun j y hj hy=>?_) np ha hst,fun j y hj hy=>?_⟩
 .obtain ⟨kv,q,_⟩:=(r.ac j y hj hy).sto
  rw [Zai (Zbl q r.ob (by intro z;cases z)),q]
  exact s _ _ q
 .rcases Zcl j y hy with ⟨rfl,rfl⟩|⟨_,gy⟩
  .exact nR
  .exact np j y hj gy
theorem Zhq (A:Nat->Option AcI) (i:Nat) (v:AcI):setO A i v i=some v:=by unfold setO;rw [if_pos rfl]
theorem Zlq (A:Nat->Option AcI) {i j:Nat} (v:AcI) (h:j≠i):setO A i v j=A j:=by unfold setO;rw [if_neg h]
theorem Rooms.madeF {K:PySem.W.Frag} {C:Addr} {H0 H H2:Hp} {R:Addr} {A:Nat->Option AcI} {S:Nat->AcS} {m:Nat} (r:Rooms K C H R A S m) (n0:H0 R=none) (s0:Same H0 H) {i:Nat} (hi:i<16) (np:∀ j y,j<16->A j=some y->y.pr≠R) {a dx pr st:Addr} {c p:Int} {rs:List Row} {f:Int->Int} {m0:Nat} (hm:m0<=m) (s:Same H H2) (ha:H a=none) (hpr:H pr=none) (hst:H st=none) (ac:AcAt K C H2 a dx pr st c p 0 rs f m0) :
  ∃ H',upd H2 R (.lst (((List.range 16).map fun j=>roomV (A j)).set i (.ref a)))=H'/\Rooms K C H' R (setO A i ⟨a,dx,pr,st⟩) (setS S i ⟨c,p,0,rs,f⟩) m/\(∀ j y,j<16->setO A i ⟨a,dx,pr,st⟩ j=some y->y.pr≠R)/\Same H0 H':=by
 have nR:pr≠R:=Ne.symm (Zaj r.ob hpr)
 have im:SameI H2 (upd H2 R (.lst (((List.range 16).map fun j=>roomV (A j)).set i (.ref a)))):=SameI.upd (s _ _ r.ob) Zbt
 obtain ⟨xs,g1,g2⟩:=ac.pg
 obtain ⟨kvs,g3,g4,g5⟩:=ac.sto
 refine ⟨_,rfl,r.add (x:=⟨a,dx,pr,st⟩) hi Zag ⟨by rw [Zai (Zbl ac.ob (s _ _ r.ob) (by intro z;cases z))];exact ac.ob,⟨xs,by rw [Zai nR];exact g1,g2.keep im⟩,kvs,by rw [Zai (Zbl g3 (s _ _ r.ob) (by intro z;cases z))];exact g3,Nat.le_trans g4 hm,g5⟩ (fun b o h h1 _=>by rw [Zai h1];exact s _ _ h) (fun j y hj hy=>?_) np ha hst,fun j y hj hy=>?_,(s0.trans s).wr n0⟩
 .obtain ⟨kv,q,_⟩:=(r.ac j y hj hy).sto
  rw [Zai (Zbl q r.ob (by intro z;cases z)),q]
  exact s _ _ q
 .rcases Zcl j y hy with ⟨rfl,rfl⟩|⟨_,gy⟩
  .exact nR
  .exact np j y hj gy
noncomputable def Zoo (o:HO):Prop:=(∀ xs,o≠.lst xs)/\(∀ xs,o≠.tup xs)/\∀ q u,o≠.frz q u
structure KeptD (H H':Hp):Prop where
 k:∀ b o,H b=some o->H' b=some o\/Zoo o
section
variable {K:PySem.W.Frag} {H H':Hp}
theorem KeptD.at (s:KeptD H H') {b:Addr} {o:HO} (h:H b=some o) (n:¬ Zoo o):H' b=some o:=(s.k b o h).resolve_right n
theorem KeptD.l (s:KeptD H H') {b:Addr} {xs:List V} (h:H b=some (.lst xs)):H' b=some (.lst xs):=s.at h fun z=>z.1 _ rfl
theorem KeptD.t (s:KeptD H H') {b:Addr} {xs:List V} (h:H b=some (.tup xs)):H' b=some (.tup xs):=s.at h fun z=>z.2.1 _ rfl
theorem KeptD.sl (s:KeptD H H') {a:Addr} {xs:List V} (h:SqL K H a xs):SqL K H' a xs:=by
 rcases h with (h|⟨o,h⟩)|h
 .exact .inl (.inl (s.l h))
 .exact .inl (.inr ⟨o,s.at h fun z=>z.2.2 _ _ rfl⟩)
 .exact .inr h
theorem KeptD.st (s:KeptD H H') {a:Addr} {xs:List V} (h:SqT K H a xs):SqT K H' a xs:=by
 rcases h with (h|⟨o,h⟩)|h
 .exact .inl (.inl (s.t h))
 .exact .inl (.inr ⟨o,s.at h fun z=>z.2.2 _ _ rfl⟩)
 .exact .inr h
mutual
theorem DV.keptD (s:KeptD H H'):∀ {d:Dt} {v:V},DV K H d v->DV K H' d v
 | .non,v,h=>by unfold DV at h |-;exact h
 | .bl b,v,h=>by unfold DV at h |-;exact h
 | .int i,v,h=>by unfold DV at h |-;exact h
 | .str x,v,h=>by unfold DV at h |-;exact h
 | .lst ds,v,h=>by
  unfold DV at h |-
  obtain ⟨a,xs,e,q,r⟩:=h
  exact ⟨a,xs,e,s.sl q,DVs.keptD s r⟩
 | .tup ds,v,h=>by
  unfold DV at h |-
  obtain ⟨a,xs,e,q,r⟩:=h
  exact ⟨a,xs,e,s.st q,DVs.keptD s r⟩
theorem DVs.keptD (s:KeptD H H'):∀ {ds:List Dt} {xs:List V},DVs K H ds xs->DVs K H' ds xs
 | [],xs,h=>by unfold DVs at h |-;exact h
 | d::r,xs,h=>by
  unfold DVs at h |-
  obtain ⟨x,t,e,h1,h2⟩:=h
  exact ⟨x,t,e,DV.keptD s h1,DVs.keptD s h2⟩
end
theorem ZmV {C:Addr} {H1:Hp} {R L:Addr} {A:Nat->Option AcI} {S:Nat->AcS} {m:Nat} (r:Rooms K C H R A S m) (s:Same H H1) (n:H L=none) (k:KeptX (fun b=>¬ Out A b\/b=L) H1 H'):KeptD H H':=⟨fun b o e=>by
 by_cases q:Zoo o
 .exact .inr q
 .refine .inl (k b o (s _ _ e) fun z=>?_)
  rcases z with z|rfl
  .refine z fun i x hi hx=>⟨fun w=>q ?_,fun w=>q ?_⟩
   .rw [w,(r.ac i x hi hx).ob] at e;cases e
    exact ⟨fun _ w=>(nomatch w),fun _ w=>(nomatch w),fun _ _ w=>(nomatch w)⟩
   .obtain ⟨kv,g1,_⟩:=(r.ac i x hi hx).sto
    rw [w,g1] at e;cases e
    exact ⟨fun _ w=>(nomatch w),fun _ w=>(nomatch w),fun _ _ w=>(nomatch w)⟩
  .rw [n] at e;cases e⟩
end
theorem Znk {r:Row} (h:Zbq r):r.1∈WS:=by
 obtain ⟨⟨z,hz⟩,_⟩:=h
 have q:∀ p∈RT,p.1∈WS:=by decide
 exact q _ (Zbw hz)
structure Set37 (S:Nat->AcS) (m:Int):Prop where
 fit:∀ i,∀ r∈(S i).rows,Zbq r
 len:∀ i,(S i).rows.length<=60
 sup:SupB S 1
 up:SUpTo S m
theorem Set37.none {m:Int} (hm:0<=m):Set37 (fun _=>⟨0,0,0,[],fun _=>0⟩) m:=⟨fun _ _ h=>(nomatch h),fun _=>Nat.zero_le _,fun _=>⟨[],Nat.zero_le _,fun _ h=>absurd rfl h⟩,SUpTo.none.st,SUpTo.none.co,Int.le_trans SUpTo.none.to hm⟩
theorem Set37.put {S:Nat->AcS} {m c:Int} (h:Set37 S m) {i:Nat} (hi:i<16) {v:AcS} (hr:∀ r∈v.rows,Zbq r) (hl:v.rows.length<=60) {p:Int} (hs:∀ q,v.store q≠0->q=p) (hv:∀ q,In64 (v.store q)) (h0:0<=v.coin) (hc:v.coin<=c):Set37 (setS S i v) (m+c):=by
 refine ⟨fun j r=>?_,fun j=>?_,fun j=>?_,h.up.put hi hv h0 hc⟩
 .unfold setS
  split
  .exact hr r
  .exact h.fit j r
 .unfold setS
  split
  .exact hl
  .exact h.len j
 .unfold setS
  split
  .exact ⟨[p],Nat.le_refl _,fun q hq=>List.mem_singleton.2 (hs q hq)⟩
  .exact h.sup j
noncomputable def rows37 (t asked:Int):List Row:=[("push", some t),("push", some asked),("word", none),("look", none),("give", none)]
theorem put0 {p v:Int} (hv:In64 v):(∀ q,putFn (fun _=>0) p v q≠0->q=p)/\∀ q,In64 (putFn (fun _=>0) p v q):=by
 refine ⟨fun q h=>?_,fun q=>?_⟩
 .unfold putFn at h
  by_cases e:q=p
  .exact e
  .rw [if_neg e] at h;exact absurd rfl h
 .unfold putFn
  split
  .exact hv
  .exact ⟨show (0:Int)<=0 by decide,show (0:Int)<18446744073709551616 by decide⟩
theorem cut37 (ns:List Int):∃ ms:List Int,cutV (ns.map V.int) (some 8) (some 60)=ms.map V.int/\ms.length<=60 :=
 ⟨(ns.drop 8).take 52,by rw [show (8:Int)=((8:Nat):Int) from rfl,show (60:Int)=((60:Nat):Int) from rfl,Zjh,List.map_take,List.map_drop],by rw [List.length_take];omega⟩
theorem p60N:(2:Int) ^ Int.toNat 60=1152921504606846976:=by decide
theorem coin37 (c:Int) {k:Int} (hk:0<k):0<=c % 1152921504606846976 / k/\c % 1152921504606846976 / k<=1152921504606846976:=by
 have h0:0<=c % 1152921504606846976:=by omega
 exact ⟨Int.ediv_nonneg h0 (Int.le_of_lt hk),Int.le_trans (Int.ediv_le_self _ h0) (by omega)⟩
theorem pick2 (c:Int):∃ v,atI [V.int (c % 18446744073709551616),.int 400] (c % 2)=some (.int v)/\In64 v:=by
 rcases (by omega:c % 2=0\/c % 2=1) with h|h
 .exact ⟨_,by rw [h];rfl,ZbK _⟩
 .exact ⟨400,by rw [h];rfl,Zbb (by decide) (by decide)⟩
theorem pickO (o0 o1 o2 o3:Nat) (c:Int):∃ t:Nat,atI [V.int (o0:Int),.int (o1:Int),.int (o2:Int),.int (o3:Int)] (c % 3)=some (.int (t:Int))/\(t=o0\/t=o1\/t=o2):=by
 rcases (by omega:c % 3=0\/c % 3=1\/c % 3=2) with h|h|h
 .exact ⟨o0,by rw [h];rfl,.inl rfl⟩
 .exact ⟨o1,by rw [h];rfl,.inr (.inl rfl)⟩
 .exact ⟨o2,by rw [h];rfl,.inr (.inr rfl)⟩
noncomputable def Zhr (K:PySem.W.Frag) (C:Addr):Sp:=fun vs H Q _=>∃ (a SL:Addr) (ns:List Int) (o0 o1 o2 o3:Nat),vs=[.ref a,.ref SL]/\SqL K H a (ns.map V.int)/\SqL K H SL [.int (o0:Int),.int (o1:Int),.int (o2:Int),.int (o3:Int)]/\o0<16/\o1<16/\o2<16/\o3<16 /\
 ∀ (R:Addr) (A:Nat->Option AcI) (S:Nat->AcS) (t:Nat) (asked:Int) (H':Hp),Same H H'->Rooms K C H' R A S 1->Set37 S 4611686018427387904->(∀ o,o=o0\/o=o1\/o=o2\/o=o3->∃ y,A o=some y)->(t=o0\/t=o1\/t=o2)->(S o3).rows=rows37 (t:Int) asked->In64 asked->Q (.ref R) H'
section
variable {P:Program} {w:World} {K:PySem.W.Frag} {mg:Str->Option Value} {base:Heap}
theorem Zit:FnScope ["_law_script", "_law_k"] ["_law_script", "_law_k"] (Zab ZdK):=⟨rfl,rfl,rfl,by decide +kernel,rfl,by decide +kernel,by decide +kernel⟩
theorem Ziu    (D:Zao K mg "_law_cell_at" ZdK) (n_len:mg "len" = none):Cal P w K mg base 1 "_law_cell_at" (Zis K):=by
 refine Zaz D Zit (fun vs H Q E h=>?_) (fun _ _ _ _ _ _ us hl=>bd2 (R:=fun us=>bindArgs _ ⟨us,[]⟩=pure (List.zip _ us)) (fun _ _=>rfl) us hl) (fun f cdv A outer s H vs Q E hr h=>?_)
 .obtain ⟨p,ns,j,rfl,_⟩:=h;rfl
 .obtain ⟨p,ns,j,rfl,hj,hl,k⟩:=h
  refine ⟨_,(Zad (Zbd (Zau Zfu (pv 1) (ZaM ZbO rfl n_len PySem.boot_len (Zaa (pv 0) Zac)) (nomark _)) (Zaf (Zap (Zav Zaq (pv 0) (pv 1) (fun _ _=>rfl)))) ZaJ)
   (Zaf (Zap Zae))),?_⟩
  walk_at "nx"
  repeat' walk_at "rdt"
  .rename_i hlt
   rw [List.length_map] at hlt
   obtain ⟨c,e1,e2⟩:=Zl3 (xs:=ns) hj hlt
   have e3:(ns.map V.int)[j.toNat]?=some (.int c):=by rw [List.getElem?_map,e2];rfl
   refine ZaH hl (ZcI e3 (by omega)) ?_
   unfold cellF at k
   rw [e2] at k
   exact k
  .rename_i hlt
   rw [List.length_map] at hlt
   unfold cellF at k
   rw [List.getElem?_eq_none (by omega)] at k
   exact k
theorem Zfb:FnScope ["row"] ["row"] (Zab Zce):=⟨rfl,rfl,rfl,by decide +kernel,rfl,by decide +kernel,by decide +kernel⟩
theorem Zfc  {aW:Addr} (tW:TupK K aW (WS.map V.str)) (uW:Tup0 K aW)  (D:Zao K mg "row_numbers" Zce) (n_len:mg "len" = none) (g_WORDS:ZaW mg "WORDS" (.ref aW)):Cal P w K mg base 1 "row_numbers" (spRowN K):=by
 refine Zaz D Zfb (fun vs H Q E h=>?_) (fun _ _ _ _ _ _ us hl=>bd1 (R:=fun us=>bindArgs _ ⟨us,[]⟩=pure (List.zip _ us)) (fun _=>rfl) us hl) (fun f cdv A outer s H vs Q E hr h=>?_)
 .obtain ⟨v,r,rfl,_⟩:=h;rfl
 .obtain ⟨v,r,rfl,⟨t,rfl,hT⟩,hw,k⟩:=h
  refine ⟨_,(Zad (Zbd (Zau Zco (ZaM ZbO rfl n_len PySem.boot_len (Zaa (pv 0) Zac)) Zae (nomark _)) (Zaf (Zap (ZaO (Zaa (Zel PySem.F.plainAttrs_tuple PySem.F.slot_tuple_index PySem.F.type_tuple_index ZgJ (ZbL rfl g_WORDS) (Zaa (Zav Za0 (pv 0) Zae (fun _ _=>rfl)) Zac)) (Zaa Zae Zac))))) ZaJ)
   (Zaf (Zap (ZaO (Zaa (Zel PySem.F.plainAttrs_tuple PySem.F.slot_tuple_index PySem.F.type_tuple_index ZgJ (ZbL rfl g_WORDS) (Zaa (Zav Za0 (pv 0) Zae (fun _ _=>rfl)) Zac)) (Zaa (Zav Za0 (pv 0) Zae (fun _ _=>rfl)) Zac)))))),?_⟩
  walk_at "nx"
  obtain ⟨wd,o⟩:=r
  obtain ⟨i1,i2⟩:=Zey (show wd∈WS from hw)
  cases o with
  | none =>
   have hT:SqT K H t [.str wd]:=hT
   repeat' walk_at "rdk"
   .refine ⟨Zm9 uW,?_⟩
    repeat walk_at "rdk"
    refine ZgK (tW.sqt H) i1 i2 ?_
    repeat walk_at "rdk"
    exact ⟨show 2<=sizeLine by decide,k⟩
   .rename_i h0
    exact absurd (show ((1:Int)=1) from rfl) h0
  | some n =>
   have hT:SqT K H t [.str wd,.int n]:=hT
   repeat' walk_at "rdk"
   .rename_i h0
    exact absurd h0 (by show ¬ ((2:Int)=1);decide)
   .refine ⟨Zm9 uW,?_⟩
    repeat walk_at "rdk"
    refine ZgK (tW.sqt H) i1 i2 ?_
    repeat walk_at "rdk"
    exact ⟨show 2<=sizeLine by decide,k⟩
theorem Zby:FnScope ["self", "numbers", "row", "place"] ["self"] (Zab Za6):=⟨rfl,rfl,rfl,by decide +kernel,rfl,by decide +kernel,by decide +kernel⟩
theorem Zd5   {cAccount:Addr} (D:Zan K cAccount "plain" "Account.plain" Za6) (tAccount:T_Account K mg cAccount) (c_row_numbers:Cal P w K mg base 1 "row_numbers" (spRowN K)) (n_sorted:mg "sorted" = none) (n_len:mg "len" = none):MCal P w K mg base 2 cAccount "plain" (Zlo K cAccount):=by
 refine Za5 D tAccount.k.cl Zby (fun vs H Q E h=>?_) (fun _ _ _ _ _ _ us hl=>bd1 (R:=fun us=>bindArgs _ ⟨us,[]⟩=pure (List.zip _ us)) (fun _=>rfl) us hl) (fun f cdv A outer s H vs Q E hr h=>?_)
 .obtain ⟨a,dx,pr,st,c,p,n,rs,f,m,rfl,_⟩:=h;rfl
 .obtain ⟨a,dx,pr,st,c,p,n,rs,fn,m,rfl,A,hm,hrl,hrw,k⟩:=h
  refine ⟨_,(Zad (ZaF (i:=1) Zby.nd rfl (by first|exact Or.inl rfl|exact Or.inr rfl) (ZaO (Zaa (Zak (pv 0) rfl) (Zaa (Zak (pv 0) rfl) (Zaa (Zak (pv 0) rfl) (Zaa (ZaM ZbO rfl n_len PySem.boot_len (Zaa (Zak (pv 0) rfl) Zac)) Zac))))))
   (Zad (Zff PassesOwn.never rfl (Zdr (Zak (pv 0) rfl)) (ZbV (i:=2) Zby.nd rfl (by first|exact Or.inl rfl|exact Or.inr rfl))
   (Zaf (Zax (Zel PySem.F.plainAttrs_list PySem.F.slot_list_extend PySem.F.type_list_extend Zgs (pv 1) (Zaa (ZaL c_row_numbers (hr.mono (by decide)) rfl (Zaa (pv 2) Zac)) Zac)))))
   (Zad (Zax (Zel PySem.F.plainAttrs_list PySem.F.slot_list_append PySem.F.type_list_append ZbN (pv 1) (Zaa (ZaM Zka rfl n_len PySem.boot_len (Zaa (Zak (pv 0) rfl) Zac)) Zac)))
   (Zad (Zff PassesOwn.never rfl (Zdr (ZaM (ZkA rfl) rfl n_sorted PyProof.Rows.boot_sorted (Zaa (Zak (pv 0) rfl) Zac))) (ZbV (i:=3) Zby.nd rfl (by first|exact Or.inl rfl|exact Or.inr rfl))
   (Zaf (Zax (Zel PySem.F.plainAttrs_list PySem.F.slot_list_extend PySem.F.type_list_extend Zgs (pv 1) (Zaa (ZaO (Zaa (pv 3) (Zaa (Znz (ZnC hr) (Zak (pv 0) rfl) (pv 3) (fun _ _=>rfl)) Zac))) Zac)))))
   (Zaf (Zap (pv 1))))))),?_⟩
  walk_at "nx"
  obtain ⟨xs,hpr,hR⟩:=A.pg
  obtain ⟨kvs,hst,hkl,hkn,hkz,hkf⟩:=A.sto
  obtain ⟨ks,hks⟩:=Zf8 kvs hkz
  have hkl2:ks.length=kvs.length:=by
   have:=congrArg List.length hks
   rw [List.length_map,List.length_map] at this
   exact this.symm
  have hxl:xs.length=rs.length:=hR.1.symm
  repeat walk_at "rdk"
  refine Zah A.ob tAccount.k.cl tAccount.n_count rfl ?_
  repeat walk_at "rdk"
  refine Zah A.ob tAccount.k.cl tAccount.n_coin rfl ?_
  repeat walk_at "rdk"
  refine Zah A.ob tAccount.k.cl tAccount.n_purse rfl ?_
  repeat walk_at "rdk"
  refine Zah A.ob tAccount.k.cl tAccount.n_program rfl ?_
  refine Zfk ?_
  refine Zn2 (Zas hpr) hxl ?_
  refine Zfk ?_
  refine ⟨show 4<=sizeLine by decide,fun l hl=>?_⟩
  have sz:=PySem.sizeLine_eq
  have s1:=Same.new hl (o:=.lst [.int n,.int c,.int p,.int rs.length])
  have hl1:(upd H l (.lst [.int n,.int c,.int p,.int rs.length])) l=some (.lst (([n,c,p,(rs.length:Int)]++(rs.take 0).flatMap Zck).map V.int)):=Zag
  generalize upd H l _=H1 at s1 hl1
  repeat walk_at "rdk"
  refine Zfn (ZcJ ?_)
  repeat walk_at "rdk"
  refine Zah (s1 _ _ A.ob) tAccount.k.cl tAccount.n_program rfl ?_
  have fl:∀ i:Nat,i<=rs.length->((rs.take i).flatMap Zck).length=2*i:=fun i hi=>by
   rw [List.length_flatMap]
   have:(rs.take i).map (fun x=>(Zck x).length)=List.replicate i 2:=by
    apply List.eq_replicate_iff.mpr
    exact ⟨by rw [List.length_map,List.length_take];omega,fun b hb=>by obtain ⟨x,_,rfl⟩:=List.mem_map.mp hb;rfl⟩
   rw [this,List.sum_replicate_nat]
   omega
  refine ⟨pr,rfl,⟨_,Zas (s1 _ _ hpr)⟩,Zft (xs:=xs) (fun i σ' H'=>Same H H'/\H' l=some (.lst (([n,c,p,(rs.length:Int)]++(rs.take i).flatMap Zck).map V.int))/\∃ v2 v3,σ'=[some (.ref a),some (.ref l),v2,v3]) ⟨s1,hl1,_,_,rfl⟩ (fun i σ' H' _ ⟨e,_⟩=>Zas (e _ _ hpr)) ?_ ?_⟩
  .rintro i x σ' H' hx ⟨s2,hl2,v2,v3,rfl⟩
   have hi:i<rs.length:=by rw [<- hxl];exact (List.getElem?_eq_some_iff.mp hx).1
   have hri:rs[i]?=some rs[i]:=List.getElem?_eq_getElem hi
   repeat walk_at "rdk"
   refine ⟨ZbW (Zas hl2),?_⟩
   repeat walk_at "rdk"
   refine ⟨x,rs[i],rfl,(hR.2 i _ x hri hx).keep s2.imm,hrw _ (List.getElem_mem hi),fun q hq=>?_⟩
   repeat walk_at "rdk"
   have hlq:l≠q:=Zaj hl2 hq
   refine ZgL (xs:=(([n,c,p,(rs.length:Int)]++(rs.take i).flatMap Zck).map V.int)) (zs:=(Zck rs[i]).map V.int) (by rw [Zai hlq];exact hl2) Zag (by rw [List.length_map,List.length_map,List.length_append,fl i (by omega)];show 4+2*i+2<=_;omega) ?_
   refine ⟨(s2.newT hq).wr hl,?_,_,_,rfl⟩
   rw [Zag,List.take_succ_eq_append_getElem hi,List.flatMap_append,<- List.map_append,List.append_assoc]
   simp [List.flatMap_cons]
  .rintro σ' H' ⟨s2,hl2,v2,v3,rfl⟩
   rw [hxl,List.take_length] at hl2
   have fl':=fl rs.length (Nat.le_refl _)
   rw [List.take_length] at fl'
   generalize hB:[n,c,p,(rs.length:Int)]++rs.flatMap Zck=B at hl2
   have hBl:B.length<=2004:=by rw [<- hB,List.length_append,fl'];show 4+2*rs.length<=_;omega
   repeat walk_at "rdk"
   refine ⟨ZbW (Zas hl2),?_⟩
   repeat walk_at "rdk"
   refine Zah (s2 _ _ A.ob) tAccount.k.cl tAccount.n_store rfl ?_
   refine Zfk ?_
   refine ⟨st,kvs,rfl,s2 _ _ hst,?_⟩
   refine Zfk ?_
   refine ZbX hl2 (by rw [List.length_map];omega) ?_
   have e1:B.map V.int++[V.int kvs.length]=(B++[(kvs.length:Int)]).map V.int:=by rw [List.map_append];rfl
   rw [e1]
   have s3:=s2.wr hl (o:=.lst ((B++[(kvs.length:Int)]).map V.int))
   have hl3:(upd H' l (.lst ((B++[(kvs.length:Int)]).map V.int))) l=some (.lst ((B++[(kvs.length:Int)]).map V.int)):=Zag
   generalize upd H' l _=H3 at s3 hl3
   dsimp only
   repeat walk_at "rdk"
   refine Zfn (ZcJ ?_)
   repeat walk_at "rdk"
   refine Zah (s3 _ _ A.ob) tAccount.k.cl tAccount.n_store rfl ?_
   refine Zfk ?_
   refine Zji (s3 _ _ hst) hks (by omega) fun ms hpm hsm q hq=>?_
   have SU:=Zon hkn hkz hkf hks hpm hsm
   have hml:ms.length=kvs.length:=by rw [hpm.length_eq,hkl2]
   have hlq:l≠q:=Zaj hl3 hq
   have hq0:H q=none:=s3.fresh hq
   have s4:=s3.newT hq (o:=.lst (ms.map V.int))
   have hq4:(upd H3 q (.lst (ms.map V.int))) q=some (.lst (ms.map V.int)):=Zag
   have hl4:(upd H3 q (.lst (ms.map V.int))) l=some (.lst ((B++[(kvs.length:Int)]++(ms.take 0).flatMap fun i=>[i,fn i]).map V.int)):=by rw [Zai hlq,List.take_zero,List.flatMap_nil,List.append_nil];exact hl3
   generalize upd H3 q _=H4 at s4 hq4 hl4
   have fm:∀ i:Nat,i<=ms.length->((ms.take i).flatMap fun i=>[i,fn i]).length=2*i:=fun i hi=>by
    rw [List.length_flatMap]
    have:(ms.take i).map (fun x=>([x,fn x]:List Int).length)=List.replicate i 2:=by
     apply List.eq_replicate_iff.mpr
     exact ⟨by rw [List.length_map,List.length_take];omega,fun b hb=>by obtain ⟨x,_,rfl⟩:=List.mem_map.mp hb;rfl⟩
    rw [this,List.sum_replicate_nat]
    omega
   refine ⟨q,rfl,⟨_,Zas hq4⟩,Zft (xs:=ms.map V.int) (fun i σ' H'=>Same H H'/\H' q=some (.lst (ms.map V.int))/\H' l=some (.lst ((B++[(kvs.length:Int)]++(ms.take i).flatMap fun i=>[i,fn i]).map V.int))/\∃ v2 v3,σ'=[some (.ref a),some (.ref l),v2,v3]) ⟨s4,hq4,hl4,_,_,rfl⟩ (fun i σ' H' _ ⟨_,e,_⟩=>Zas e) ?_ ?_⟩
   .rintro i x σ' H' hx ⟨s5,hq5,hl5,v2,v3,rfl⟩
    rw [List.getElem?_map] at hx
    obtain ⟨pl,hpl,rfl⟩:=Option.map_eq_some_iff.mp hx
    obtain ⟨hi,ei⟩:=List.getElem?_eq_some_iff.mp hpl
    have hf0:=(SU.2 pl).mp (List.mem_of_getElem? hpl)
    have hv:valV kvs (Sum.inl pl:Key)=some (.int (fn pl)):=by
     have:=hkf pl
     cases e:valV kvs (Sum.inl pl:Key) with
     | none =>
      rw [e] at this
      exact absurd (V.int.inj (show V.int 0=V.int (fn pl) from this)).symm hf0
     | some v =>
      rw [e] at this
      exact congrArg some this
    repeat walk_at "rdk"
    refine ⟨ZbW (Zas hl5),?_⟩
    repeat walk_at "rdk"
    refine Zah (s5 _ _ A.ob) tAccount.k.cl tAccount.n_store rfl ?_
    repeat walk_at "rdk"
    refine ⟨st,.int (fn pl),rfl,?_,?_⟩
    .have:=DGet.k (k:=Sum.inl pl) (s5 _ _ hst)
     rw [hv] at this
     exact this
    repeat walk_at "rdk"
    refine ⟨show 2<=sizeLine by decide,fun z hz=>?_⟩
    repeat walk_at "rdk"
    have hlz:l≠z:=Zaj hl5 hz
    have hqz:q≠z:=Zaj hq5 hz
    refine ZgL (xs:=((B++[(kvs.length:Int)]++(ms.take i).flatMap fun i=>[i,fn i]).map V.int)) (zs:=[.int pl,.int (fn pl)]) (by rw [Zai hlz];exact hl5) Zag (by rw [List.length_map,List.length_append,List.length_append,fm i (by omega)];show B.length+1+2*i+2<=_;omega) ?_
    refine ⟨(s5.newT hz).wr hl,by rw [Zai (Ne.symm hlq),Zai hqz];exact hq5,?_,_,_,rfl⟩
    rw [Zag,List.take_succ_eq_append_getElem hi,ei,List.flatMap_append,<- List.append_assoc,List.map_append (l₂:=[pl].flatMap _)]
    rfl
   .rintro σ' H' ⟨s5,hq5,hl5,v2,v3,rfl⟩
    rw [List.length_map,List.take_length] at hl5
    repeat walk_at "rdk"
    refine k l ms H' s5 hl SU (by omega) ?_
    rw [hl5,<- hB,<- hml]
    rfl
end
section
variable {P:Program} {w:World} {K:PySem.W.Frag} {mg:Str->Option Value} {base:Heap}
theorem ZbQ:FnScope ["_law_script", "_law_slots", "_law_places", "_law_programs_here", "_law_rooms_here", "_law_k", "_law_account", "_law_asked", "_law_rows"] ["_law_script", "_law_slots"] (Zab Zd9):=⟨rfl,rfl,rfl,by decide +kernel,rfl,by decide +kernel,by decide +kernel⟩
theorem Zlr   {cAccount:Addr} (D:Zao K mg "_law_rooms" Zd9) (tAccount:T_Account K mg cAccount) (i_Account:ICal P w K mg base 1 "Account" cAccount (spInit K cAccount)) (m_Account_keep:MCal P w K mg base 1 cAccount "keep" (spKeep K cAccount)) (c_Lprograms:Cal P w K mg base 3 "_law_programs" (Zlm K)) (c_Lcell_at:Cal P w K mg base 1 "_law_cell_at" (Zis K)) (n_range:mg "range" = none):Cal P w K mg base 4 "_law_rooms" (Zhr K cAccount):=by
 refine Zaz D ZbQ (fun vs H Q E h=>?_) (fun _ _ _ _ _ _ us hl=>bd2 (R:=fun us=>bindArgs _ ⟨us,[]⟩=pure (List.zip _ us)) (fun _ _=>rfl) us hl) (fun f cdv A outer s H vs Q E hr h=>?_)
 .obtain ⟨a,SL,ns,o0,o1,o2,o3,rfl,_⟩:=h;rfl
 .obtain ⟨a,SL,ns,o0,o1,o2,o3,rfl,hS,hSL,b0,b1,b2,b3,k⟩:=h
  refine' ⟨_,?der,?_⟩
  case der=>refine' Zad ?h535 ?h536;(case h535=>exact (ZhG (i:=2) ["_law_k"] ZbQ.nd rfl rfl rfl (show CompScope (Zab Zd9) ["_law_script", "_law_slots", "_law_places", "_law_programs_here", "_law_rooms_here", "_law_k", "_law_account", "_law_asked", "_law_rows"] ["_law_k"] _ from ⟨rfl,by decide +kernel,by decide +kernel,by decide +kernel,by decide +kernel,by decide +kernel⟩) (Zcq rfl n_range (Zaa Zae Zac)) (fun _ _ _ _ _=>(ZbV (i:=0) (show (["_law_k", "_law_script", "_law_slots", "_law_places", "_law_programs_here", "_law_rooms_here", "", "_law_account", "_law_asked", "_law_rows"]:List Str).Nodup by decide +kernel) rfl (Or.inl rfl) (.inr rfl))) (fun _ _ _ _ _=>Zeo) (fun _ _ _ _ _=>(ZaB Za2 (ZaL c_Lcell_at (hr.mono (by decide)) rfl (Zaa (pv 1) (Zaa (ZaB Zb8 Zae (pv 0)) Zac))) (ZaB Zef Zae Zae)))));case h536=>refine' Zad ?h533 ?h534;(case h533=>exact (ZaF (i:=3) ZbQ.nd rfl (by first|exact Or.inl rfl|exact Or.inr rfl) (ZaL c_Lprograms (hr.mono (by decide)) rfl (Zaa (ZiB Zj1 (pv 0) (Zhz Zae) (Zhz Zae)) (Zaa (ZaB Zfj (ZiB Zj1 (pv 1) Znw (Zhz Zae)) (ZaO (Zaa (ZaB Zb8 Zae (Zav Zaq (pv 1) Zae (fun _ _=>rfl))) Zac))) (Zaa (pv 2) Zac))))));case h534=>refine' Zad ?h531 ?h532;(case h531=>exact (ZaF (i:=4) ZbQ.nd rfl (by first|exact Or.inl rfl|exact Or.inr rfl) (ZaB op_rep (ZaO (Zaa Zcp Zac)) Zae)));case h532=>refine' Zad ?h529 ?h530;(case h529=>exact (Zff PassesOwn.never rfl (Zcq rfl n_range (Zaa Zae Zac)) (ZbV (i:=5) ZbQ.nd rfl (by first|exact Or.inl rfl|exact Or.inr rfl)) (Zad (ZaF (i:=6) ZbQ.nd rfl (by first|exact Or.inl rfl|exact Or.inr rfl) (Zdt i_Account (hr.mono (by decide)) rfl (Zaa (ZaB Zbk (ZaB Za2 (ZaL c_Lcell_at (hr.mono (by decide)) rfl (Zaa (pv 0) (Zaa Zae Zac))) (ZaB Zef Zae Zae)) (ZaB Zb8 (pv 5) Zae)) (Zaa (pv 5) (Zaa (Zav Zaq (pv 3) (pv 5) (fun _ _=>rfl)) Zac))))) (Zad (Zax (ZaN m_Account_keep (hr.mono (by decide)) (pv 6) (Zaa (Zav Zaq (pv 2) (pv 5) (fun _ _=>rfl)) (Zaa (ZaB Za2 (ZaB Zbk (ZaL c_Lcell_at (hr.mono (by decide)) rfl (Zaa (pv 0) (Zaa Zae Zac))) (ZaB Zb8 (pv 5) Zae)) (ZaB Zef Zae Zae)) Zac)))) (Zaf (Zgh (pv 6) (Zgg (pv 4) (Zav Zaq (pv 1) (pv 5) (fun _ _=>rfl)) Zdf)))))));case h530=>refine' Zad ?h527 ?h528;(case h527=>exact (ZaF (i:=7) ZbQ.nd rfl (by first|exact Or.inl rfl|exact Or.inr rfl) (Zav Zaq (ZaO (Zaa (ZaB Za2 (ZaL c_Lcell_at (hr.mono (by decide)) rfl (Zaa (pv 0) (Zaa Zae Zac))) (ZaB Zef Zae Zae)) (Zaa Zae Zac))) (ZaB Za2 (ZaL c_Lcell_at (hr.mono (by decide)) rfl (Zaa (pv 0) (Zaa Zae Zac))) Zae) (fun _ _=>rfl))));case h528=>refine' Zad ?h525 ?h526;(case h525=>refine' ZaF (i:=8) ?h521 ?h522 ?h523 ?h524;(case h521=>exact ZbQ.nd);(case h522=>rfl);(case h523=>(first|exact Or.inl rfl|exact Or.inr rfl));case h524=>refine' ZaO ?h520;case h520=>refine' Zaa ?h518 ?h519;(case h518=>exact (ZaG (Zaa Zar (Zaa (Zav Zaq (pv 1) (ZaB Za2 (ZaL c_Lcell_at (hr.mono (by decide)) rfl (Zaa (pv 0) (Zaa Zae Zac))) Zae) (fun _ _=>rfl)) Zac))));case h519=>refine' Zaa ?h516 ?h517;(case h516=>exact (ZaG (Zaa Zar (Zaa (pv 7) Zac))));case h517=>refine' Zaa ?h514 ?h515;(case h514=>exact (ZaG (Zaa Zar Zac)));case h515=>refine' Zaa ?h512 ?h513;(case h512=>exact (ZaG (Zaa Zar Zac)));case h513=>refine' Zaa ?h510 ?h511;(case h510=>exact (ZaG (Zaa Zar Zac)));case h511=>exact Zac);case h526=>exact (Zad (Zgh (Zdt i_Account (hr.mono (by decide)) rfl (Zaa Zae (Zaa Zae (Zaa (pv 8) Zac)))) (Zgg (pv 4) (Zav Zaq (pv 1) Zae (fun _ _=>rfl)) Zdf)) (Zaf (Zap (pv 4))))
  walk_at "nx"
  repeat walk_at "rdk"
  refine Zer (Zdh ?_)
  repeat walk_at "rdk"
  refine ⟨_,rfl,by decide,by decide,fun PA q_PA=>?_⟩
  refine Zfo (ys:=(List.range 3).map fun j:Nat=>V.int (cellF ns (1+(0+(j:Int))) % 18446744073709551616)) q_PA (by rw [List.length_map,List.length_range];rfl) (by decide) ?_ ?_
  .intro i y H' Q' hi hy sm q'
   rw [List.getElem?_map,List.getElem?_range (show i<3 from hi)] at hy
   cases hy
   repeat walk_at "rdk"
   refine ⟨a,ns,_,rfl,by omega,sm.seq hS,?_⟩
   repeat walk_at "rdk"
   rw [p64N]
   repeat walk_at "rdk"
   exact q'
  obtain ⟨p0,p1,p2,eps,ip0,ip1,ip2⟩:∃ p0 p1 p2:Int,((List.range 3).map fun j:Nat=>V.int (cellF ns (1+(0+(j:Int))) % 18446744073709551616))=[.int p0,.int p1,.int p2]/\In64 p0/\In64 p1/\In64 p2:=⟨_,_,_,rfl,ZbK _,ZbK _,ZbK _⟩
  rw [eps]
  clear eps
  have bh0:Gw H H []:=Gw.start
  generalize e_:upd _ PA _=bH1;have bh1:=bh0.newE q_PA e_;clear e_;repeat walk_at "rdk"
  obtain ⟨cs,ecs,hcs⟩:=cut37 ns
  refine Zkg (bh1.s.seq hS) fun CL q_CL=>?_
  rw [ecs]
  generalize e_:upd _ CL _=bH2;have bh2:=bh1.newE q_CL e_;clear e_;repeat walk_at "rdk"
  refine Zkg (bh2.s.seq hSL) fun S3 q_S3=>?_
  generalize e_:upd _ S3 _=bH3;have bh3:=bh2.newE q_S3 e_;clear e_;repeat walk_at "rdk"
  refine ZaH (bh3.s.seq hSL) (v:=.int (o3:Int)) rfl ?_
  repeat walk_at "rdk"
  refine ⟨szl_1,fun T3 q_T3=>?_⟩
  generalize e_:upd _ T3 _=bH4;have bh4:=bh3.newE q_T3 e_;clear e_;repeat walk_at "rdk"
  refine Zfm bh4.h.2.1 bh4.h.1 (show 4<=sizeLine by decide) fun SX q_SX=>?_
  generalize e_:upd _ SX _=bH5;have bh5:=bh4.newE q_SX e_;clear e_;repeat walk_at "rdk"
  have eSX:SqL K bH5 SX [.int (o0:Int),.int (o1:Int),.int (o2:Int),.int (16+(o3:Int))]:=Zas bh5.h.1
  refine ⟨CL,SX,PA,cs,(o0:Int),(o1:Int),(o2:Int),16+(o3:Int),p0,p1,p2,rfl,Zas bh5.h.2.2.2.1,hcs,eSX,Zas bh5.h.2.2.2.2.1,Zbb (by omega) (by omega),Zbb (by omega) (by omega),Zbb (by omega) (by omega),Zbb (by omega) (by omega),ip0,ip1,ip2,fun PG as H1 s1 ePG las hPG=>?_⟩
  have sH1:=bh5.s.trans s1
  have fPA:=s1 _ _ bh5.h.2.2.2.2.1
  obtain ⟨a0,a1,a2,rfl⟩:∃ a0 a1 a2,as=[a0,a1,a2]:=by
   match as,las with
   | [x,y,z],_=>exact ⟨x,y,z,rfl⟩
  clear eSX
  have fh0:Gw H1 H1 []:=Gw.start
  repeat walk_at "rdk"
  refine ⟨szl_1,fun z q_z=>?_⟩
  generalize e_:upd _ z _=fH1;have fh1:=fh0.newE q_z e_;clear e_;repeat walk_at "rdk"
  refine ⟨z,16,[.non],rfl,rfl,fh1.h.1,by decide,by decide,by decide,fun R q_R=>?_⟩
  have nR:=fh1.fresh q_R
  generalize e_:upd _ R _=fH2;have fh2:=fh1.newE q_R e_;clear e_;repeat walk_at "rdk"
  have r0:Rooms K cAccount fH2 R (fun _=>none) (fun _=>⟨0,0,0,[],fun _=>0⟩) 1:=Rooms.empty fh2.h.1 _
  have np0:∀ j y,j<16->(fun _=>none:Nat->Option AcI) j=some y->y.pr≠R:=fun _ _ _ h=>(nomatch h)
  have sB0:=fh2.s
  refine Zfn (Zdh ?_)
  repeat walk_at "rdk"
  refine ⟨_,rfl,by decide,by decide,?_⟩
  refine Zed (n:=3) (fun i σ' H'=>Same H1 H'/\∃ (A:Nat->Option AcI) (S:Nat->AcS) (v1 v2:Option V),Rooms K cAccount H' R A S 1/\(∀ j y,j<16->A j=some y->y.pr≠R)/\Set37 S ((i:Int)*1152921504606846976)/\(∀ j,j<i->∀ o,[o0,o1,o2][j]?=some o->∃ y,A o=some y)/\σ'=[some (.ref a),some (.ref SL),some (.ref PA),some (.ref PG),some (.ref R),v1,v2,none,none]) ⟨sB0,_,_,none,none,r0,np0,Set37.none (by decide),(fun _ h=>absurd h (Nat.not_lt_zero _)),rfl⟩ ?_ ?_
  .rintro i σ' HA hi ⟨sA,A,S,v1,v2,rA,npA,stA,hAj,rfl⟩
   obtain ⟨pi,hpi,ipi⟩:∃ p,atI [V.int p0,.int p1,.int p2] (0+(i:Int))=some (.int p)/\In64 p:=by
    rcases (by omega:i=0\/i=1\/i=2) with rfl|rfl|rfl
    .exact ⟨p0,rfl,ip0⟩
    .exact ⟨p1,rfl,ip1⟩
    .exact ⟨p2,rfl,ip2⟩
   obtain ⟨ai,hai,mai⟩:∃ x,atI ([a0,a1,a2].map V.ref) (0+(i:Int))=some (.ref x)/\x∈[a0,a1,a2]:=by
    rcases (by omega:i=0\/i=1\/i=2) with rfl|rfl|rfl
    .exact ⟨a0,rfl,by simp⟩
    .exact ⟨a1,rfl,by simp⟩
    .exact ⟨a2,rfl,by simp⟩
   obtain ⟨oi,hoi,moi,boi⟩:∃ x:Nat,atI [V.int (o0:Int),.int (o1:Int),.int (o2:Int),.int (o3:Int)] (0+(i:Int))=some (.int (x:Int))/\[o0,o1,o2][i]?=some x/\x<16:=by
    rcases (by omega:i=0\/i=1\/i=2) with rfl|rfl|rfl
    .exact ⟨o0,rfl,rfl,b0⟩
    .exact ⟨o1,rfl,rfl,b1⟩
    .exact ⟨o2,rfl,rfl,b2⟩
   obtain ⟨xs,rs,eP,hR,hF,hl⟩:=(hPG ai mai).same sA
   have sHA:=sH1.trans sA
   repeat walk_at "rdk"
   refine ⟨a,ns,4,rfl,by decide,sHA.seq hS,?_⟩
   repeat walk_at "rdk"
   rw [p60N]
   repeat walk_at "rdk"
   refine ZaH (Zas (sA _ _ ePG)) hai ?_
   repeat walk_at "rdk"
   intro x dx hx hdx hnx
   have tx:(upd HA dx (.own x)) x=none:=by rw [Zai (Ne.symm hnx)];exact hx
   have mx:Same HA (upd (upd HA dx (.own x)) x (.ins cAccount dx [])):=(Same.new hdx).newT tx
   refine ⟨x,dx,ai,_,_,xs,rs,rfl,Zag,mx.seq (Zas eP),hR.keep mx.imm,fun px sx Ix hpx hsx nps ax kx=>⟨rfl,?_⟩⟩
   have nx:Same HA Ix:=fun b o e=>kx b o (mx _ _ e) (Zaj e hx)
   have npx:=mx.fresh hpx
   have nsx:=mx.fresh hsx
   repeat walk_at "rdk"
   refine Zam ax.ob rfl ?_
   repeat walk_at "rdk"
   refine ZaH (Zas (nx _ _ (sA _ _ fPA))) hpi ?_
   repeat walk_at "rdk"
   refine ⟨a,ns,5,rfl,by decide,(sHA.trans nx).seq hS,?_⟩
   repeat walk_at "rdk"
   rw [p64N]
   repeat walk_at "rdk"
   refine ⟨_,_,_,_,_,_,_,_,_,0,pi,_,rfl,ax,by decide,fun H2 k2 st2=>?_⟩
   obtain ⟨kvs,ekv,_⟩:=ax.sto
   have ax2:=ax.nd (SameND.but ekv k2) st2
   have n2:Same HA H2:=fun b o e=>by rw [k2 b (Zaj e nsx)];exact nx b o e
   repeat walk_at "rdk"
   refine ZaH ((sHA.trans n2).seq hSL) hoi ?_
   repeat walk_at "rdk"
   refine Zeu (n2 _ _ rA.ob) (ZfC (j:=oi) rfl (by rw [List.length_map,List.length_range];exact boi)) ?_
   obtain ⟨J,eJ,rJ,npJ,sJ⟩:=rA.madeF nR sA (a:=x) boi npA (Nat.le_refl 1) n2 hx npx nsx ax2
   rw [eJ]
   have cb:=coin37 (cellF ns 4) (k:=0+(i:Int)+1) (by omega)
   have pz:=put0 (p:=pi) (ZbK (cellF ns 5 / (0+(i:Int)+1)))
   refine ⟨sJ,_,_,_,_,rJ,npJ,?_,fun j hj o ho=>?_,rfl⟩
   .rw [show ((i+1:Nat):Int)*1152921504606846976=(i:Int)*1152921504606846976+1152921504606846976 by omega]
    exact stA.put boi hF hl pz.1 pz.2 cb.1 cb.2
   .by_cases e:o=oi
    .rw [e];exact ⟨_,Zhq ..⟩
    .rw [Zlq _ _ e]
     by_cases hji:j=i
     .rw [hji,moi] at ho;cases ho;exact absurd rfl e
     .exact hAj j (by omega) o ho
  rintro σ1 H2 ⟨s2,A,S,v1,v2,r2,np2,st2,hA2,rfl⟩
  have sH2:=sH1.trans s2
  repeat walk_at "rdk"
  refine ⟨a,ns,7,rfl,by decide,sH2.seq hS,?_⟩
  repeat walk_at "rdk"
  rw [p64N]
  repeat walk_at "rdk"
  have gh0:Gw H2 H2 []:=Gw.start
  refine ⟨szl_2,fun AK q_AK=>?_⟩
  generalize e_:upd _ AK _=gH1;have gh1:=gh0.newE q_AK e_;clear e_;repeat walk_at "rdk"
  refine ⟨a,ns,7,rfl,by decide,(sH2.trans gh1.s).seq hS,?_⟩
  repeat walk_at "rdk"
  obtain ⟨asked,eas,ias⟩:=pick2 (cellF ns 7)
  refine ZaH (Zas gh1.h.1) eas ?_
  repeat walk_at "rdk"
  refine ⟨a,ns,6,rfl,by decide,(sH2.trans gh1.s).seq hS,?_⟩
  repeat walk_at "rdk"
  obtain ⟨t,et,ht⟩:=pickO o0 o1 o2 o3 (cellF ns 6)
  refine ZaH ((sH2.trans gh1.s).seq hSL) et ?_
  repeat walk_at "rdk"
  refine ⟨szl_2,fun w0 q_w0=>?_⟩
  generalize e_:upd _ w0 _=gH2;have gh2:=gh1.newE q_w0 e_;clear e_;repeat walk_at "rdk"
  refine ⟨szl_2,fun w1 q_w1=>?_⟩
  generalize e_:upd _ w1 _=gH3;have gh3:=gh2.newE q_w1 e_;clear e_;repeat walk_at "rdk"
  refine ⟨szl_1,fun w2 q_w2=>?_⟩
  generalize e_:upd _ w2 _=gH4;have gh4:=gh3.newE q_w2 e_;clear e_;repeat walk_at "rdk"
  refine ⟨szl_1,fun w3 q_w3=>?_⟩
  generalize e_:upd _ w3 _=gH5;have gh5:=gh4.newE q_w3 e_;clear e_;repeat walk_at "rdk"
  refine ⟨szl_1,fun w4 q_w4=>?_⟩
  generalize e_:upd _ w4 _=gH6;have gh6:=gh5.newE q_w4 e_;clear e_;repeat walk_at "rdk"
  refine ⟨szl_5,fun RL q_RL=>?_⟩
  generalize e_:upd _ RL _=gH7;have gh7:=gh6.newE q_RL e_;clear e_;repeat walk_at "rdk"
  intro x dx hx hdx hnx
  have tx:(upd gH7 dx (.own x)) x=none:=by rw [Zai (Ne.symm hnx)];exact hx
  have mx:Same gH7 (upd (upd gH7 dx (.own x)) x (.ins cAccount dx [])):=(Same.new hdx).newT tx
  refine ⟨x,dx,RL,50,6,_,rows37 (t:Int) asked,rfl,Zag,mx.seq (Zas gh7.h.1),RowsAt.keep (RowsAt.cons ⟨_,rfl,ZaA gh7.h.2.2.2.2.2.1⟩ (RowsAt.cons ⟨_,rfl,ZaA gh7.h.2.2.2.2.1⟩ (RowsAt.cons ⟨_,rfl,ZaA gh7.h.2.2.2.1⟩ (RowsAt.cons ⟨_,rfl,ZaA gh7.h.2.2.1⟩ (RowsAt.cons ⟨_,rfl,ZaA gh7.h.2.1⟩ RowsAt.nil))))) mx.imm,fun px sx Ix hpx hsx nps ax kx=>⟨rfl,?_⟩⟩
  have nx:Same gH7 Ix:=fun b o e=>kx b o (mx _ _ e) (Zaj e hx)
  have npx:=mx.fresh hpx
  have nsx:=mx.fresh hsx
  have sG:=s2.trans gh7.s
  repeat walk_at "rdk"
  refine ZaH (((sH1.trans sG).trans nx).seq hSL) (v:=.int (o3:Int)) rfl ?_
  repeat walk_at "rdk"
  refine Zeu (nx _ _ (gh7.s _ _ r2.ob)) (ZfC (j:=o3) rfl (by rw [List.length_map,List.length_range];exact b3)) ?_
  obtain ⟨J,eJ,rJ,npJ,sJ⟩:=(r2.same gh7.s).madeF nR sG (a:=x) b3 np2 (Nat.zero_le 1) nx hx npx nsx ax
  rw [eJ]
  repeat walk_at "rdk"
  have bt:t<16:=by rcases ht with rfl|rfl|rfl<;>assumption
  have q:=st2.put b3 (c:=50) (v:=⟨50,6,0,rows37 (t:Int) asked,fun _=>0⟩) (p:=0) (all_cons (ZaY (Zbb (by omega) (by omega))) (all_cons (ZaY ias) (all_cons (ZaD rfl rfl) (all_cons (ZaD rfl rfl) (all_cons (ZaD rfl rfl) Zbi))))) (by show 5<=60;decide) (fun _ h=>absurd rfl h) (fun _=>⟨show (0:Int)<=0 by decide,show (0:Int)<18446744073709551616 by decide⟩) (show (0:Int)<=50 by decide) (Int.le_refl 50)
  have q2:Set37 (setS S o3 ⟨50,6,0,rows37 (t:Int) asked,fun _=>0⟩) 4611686018427387904:=⟨q.fit,q.len,q.sup,q.up.st,q.up.co,Int.le_trans q.up.to (by decide)⟩
  refine k R _ _ t asked J (sH1.trans sJ) rJ q2 (fun o ho=>?_) ht (by rw [ZgT]) ias
  by_cases e:o=o3
  .rw [e];exact ⟨_,Zhq ..⟩
  .rw [Zlq _ _ e]
   rcases ho with rfl|rfl|rfl|rfl
   .exact hA2 0 (by decide) _ rfl
   .exact hA2 1 (by decide) _ rfl
   .exact hA2 2 (by decide) _ rfl
   .exact absurd rfl e
end
noncomputable def plD (S:Nat->AcS) (os:List Nat):Dt:=.lst (os.map fun o=>.lst (Dt.ints (plainS (S o))))
theorem Zop (S:Nat->AcS) (os:List Nat):(plD S os).dep<=64:=by
 have:Dt.deps (os.map fun o=>Dt.lst (Dt.ints (plainS (S o))))<=1:=Zip fun c hc=>by
  obtain ⟨o,_,rfl⟩:=List.mem_map.mp hc
  simp [Dt.dep,ZmU]
 unfold plD
 simp only [Dt.dep]
 omega
noncomputable def PlAt (S:Nat->AcS) (H:Hp) (q:Addr) (o:Nat) (v:V):Prop:=∃ l,v=.ref l/\l≠q/\H l=some (.lst ((plainS (S o)).map V.int))
theorem PlAt.same {S:Nat->AcS} {H H':Hp} {q:Addr} {o:Nat} {v:V} (h:PlAt S H q o v) (s:Same H H'):PlAt S H' q o v:=let ⟨l,a,b,c⟩:=h;⟨l,a,b,s _ _ c⟩
theorem PlAt.but {S:Nat->AcS} {H:Hp} {q:Addr} {o:Nat} {v:V} {u:HO} (h:PlAt S H q o v):PlAt S (upd H q u) q o v:=let ⟨l,a,b,c⟩:=h;⟨l,a,b,by rw [Zai b];exact c⟩
theorem pl_dv {K:PySem.W.Frag} {S:Nat->AcS} {H:Hp} {q:Addr} {os:List Nat} {vs:List V} (hq:H q=some (.lst vs)) (hl:vs.length=os.length) (h:∀ (n:Nat) v o,vs[n]?=some v->os[n]?=some o->PlAt S H q o v):DV K H (plD S os) (.ref q):=by
 refine ZgF (Zas hq) (Zg0 _ _ (by rw [List.length_map,hl]) fun i d x e1 e2=>?_)
 rw [List.getElem?_map] at e1
 obtain ⟨o,ho,rfl⟩:=Option.map_eq_some_iff.mp e1
 obtain ⟨l,rfl,_,e⟩:=h i x o e2 ho
 exact Zl2 (Zas e)
theorem Zls {S:Nat->AcS} {H:Hp} {q l:Addr} {os:List Nat} {vs:List V} {i o:Nat} (hl:vs.length=i) (h:∀ (n:Nat) v o,vs[n]?=some v->os[n]?=some o->PlAt S H q o v) (ho:os[i]?=some o) (hn:l≠q) (he:H l=some (.lst ((plainS (S o)).map V.int))):∀ (n:Nat) v o,(vs++[.ref l])[n]?=some v->os[n]?=some o->PlAt S (upd H q (.lst (vs++[.ref l]))) q o v:=fun n v o' hv ho'=>by
 by_cases hlt:n<vs.length
 .rw [List.getElem?_append_left hlt] at hv
  exact (h n v o' hv ho').but
 .rw [List.getElem?_append_right (by omega)] at hv
  have hn2:n-vs.length=0:=by
   cases e:n-vs.length with
   | zero=>rfl
   | succ w=>rw [e] at hv;simp at hv
  rw [hn2] at hv
  cases hv
  have:n=i:=by omega
  rw [this,ho] at ho'
  cases ho'
  exact ⟨l,rfl,hn,by rw [Zai hn];exact he⟩
theorem Zoq (f:Nat->Int):∃ o0 o1 o2 o3:Nat,((List.range 4).map fun j:Nat=>V.int (f j % 16))=[.int (o0:Int),.int (o1:Int),.int (o2:Int),.int (o3:Int)]/\o0<16/\o1<16/\o2<16/\o3<16:=by
 have z:∀ c:Int,∃ o:Nat,c % 16=(o:Int)/\o<16:=fun c=>⟨(c % 16).toNat,by omega,by omega⟩
 obtain ⟨o0,e0,b0⟩:=z (f 0)
 obtain ⟨o1,e1,b1⟩:=z (f 1)
 obtain ⟨o2,e2,b2⟩:=z (f 2)
 obtain ⟨o3,e3,b3⟩:=z (f 3)
 refine ⟨o0,o1,o2,o3,?_,b0,b1,b2,b3⟩
 show [V.int (f 0 % 16),.int (f 1 % 16),.int (f 2 % 16),.int (f 3 % 16)]=_
 rw [e0,e1,e2,e3]
theorem Zlt {K:PySem.W.Frag} {H:Hp} {y:FrS} {st:List Dt} {v:V} (h:DV K H (treeD y st) v):∃ T xs,v=.ref T/\SqT K H T xs/\atI xs 0=some (.str y.kind):=by
 unfold treeD DV at h
 obtain ⟨T,xs,rfl,h1,d1⟩:=h
 unfold DVs at d1
 obtain ⟨x0,t0,rfl,e0,_⟩:=d1
 unfold DV at e0
 subst e0
 exact ⟨T,_,rfl,h1,ZcI (i:=0) rfl rfl⟩
theorem Zlu {y y1:FrS} {s1 rest:List Dt} {e:Str} (hf:y.fin=some e) (hs:Zcb 10 (treeD y1 s1)) (hr:rest=[]\/rest=[.int 4]):(treeD y ([.int 0,.int 1,.int 2,.int 3,treeD y1 s1]++rest)).dep<=64:=by
 refine Nat.le_trans (Zi2 (m:=20) hf fun c hc=>?_) (by decide)
 rcases List.mem_append.1 hc with hc|hc
 .simp only [List.mem_cons,List.not_mem_nil,or_false] at hc
  rcases hc with rfl|rfl|rfl|rfl|rfl
  .exact Nat.zero_le _
  .exact Nat.zero_le _
  .exact Nat.zero_le _
  .exact Nat.zero_le _
  .exact Zhk 10 _ hs
 .rcases hr with rfl|rfl
  .cases hc
  .cases List.mem_singleton.1 hc;exact Nat.zero_le _
noncomputable def spLaw (K:PySem.W.Frag):Sp:=fun vs H Q _=>∃ (a:Addr) (ns:List Int),vs=[.ref a]/\SqL K H a (ns.map V.int)/\ns.length<=63/\∀ H',Q (.bl true) H'
section
variable {P:Program} {w:World} {K:PySem.W.Frag} {mg:Str->Option Value} {base:Heap}
theorem ZcU:FnScope ["_law_script", "_law_one", "_law_step", "_law_slots", "_law_rooms_here", "_law_ahead", "_law_given", "_law_word", "_law_journal", "_law_found"] ["_law_script"] (Zab Zjm):=⟨rfl,rfl,rfl,by decide +kernel,rfl,by decide +kernel,by decide +kernel⟩
theorem ok_law   {cAccount:Addr} {cJournal:Addr} {f:Addr} {fd:FuncData} (F:Fun K "law" "law" Zjm f fd) (tAccount:T_Account K mg cAccount) (tJournal:T_Journal K mg cJournal) (m_Account_plain:MCal P w K mg base 2 cAccount "plain" (Zlo K cAccount)) (i_Journal:ICal P w K mg base 1 "Journal" cJournal (ZkM cJournal)) (m_Journal_told:MCal P w K mg base 2 cJournal "told" (ZkP cJournal cSave cMove cNote)) (c_Lrooms:Cal P w K mg base 4 "_law_rooms" (Zhr K cAccount)) (c_enter:Cal P w K mg base 49 "enter" (ZiW K cAccount cJournal cSave cMove cNote)) (c_Lcell_at:Cal P w K mg base 1 "_law_cell_at" (Zis K)) (c_Lstill:Cal P w K mg base 11 "_law_still" (Zgc K 9)) (n_range:mg "range" = none) (n_isinstance:mg "isinstance" = none) (n_tuple:mg "tuple" = none) (n_len:mg "len" = none) (n_list:mg "list" = none):FnOk P w K mg base CX0 50 f fd ["_law_script"] (spLaw K):=by
 refine F.ok (N:=["_law_script", "_law_one", "_law_step", "_law_slots", "_law_rooms_here", "_law_ahead", "_law_given", "_law_word", "_law_journal", "_law_found"]) ZcU (fun vs H Q E h=>?_) (fun cdv A outer s H vs Q E hr h=>?_)
 .obtain ⟨a,ns,rfl,_⟩:=h;rfl
 .obtain ⟨a,ns,rfl,hS,hlen,k⟩:=h
  refine ⟨_,(Zad (ZaF (i:=1) ZcU.nd rfl (by first|exact Or.inl rfl|exact Or.inr rfl) (ZaB Za2 (ZaL c_Lcell_at (hr.mono (by decide)) rfl (Zaa (pv 0) (Zaa Zae Zac))) Zae))
   (Zad (ZaF (i:=2) ZcU.nd rfl (by first|exact Or.inl rfl|exact Or.inr rfl) (ZaB Zb8 Zae (ZaB Ziy Zae (ZaB Za2 (ZaB Zbk (ZaL c_Lcell_at (hr.mono (by decide)) rfl (Zaa (pv 0) (Zaa Zae Zac))) Zae) Zae))))
   (Zad (ZhG (i:=3) ["_law_k"] ZcU.nd rfl rfl rfl (show CompScope (Zab Zjm) ["_law_script", "_law_one", "_law_step", "_law_slots", "_law_rooms_here", "_law_ahead", "_law_given", "_law_word", "_law_journal", "_law_found"] ["_law_k"] _ from ⟨rfl,by decide +kernel,by decide +kernel,by decide +kernel,by decide +kernel,by decide +kernel⟩) (Zcq rfl n_range (Zaa Zae Zac)) (fun _ _ _ _ _=>(ZbV (i:=0) (show (["_law_k", "_law_script", "_law_one", "_law_step", "_law_slots", "_law_rooms_here", "_law_ahead", "_law_given", "_law_word", "_law_journal", "_law_found"]:List Str).Nodup by decide +kernel) rfl (Or.inl rfl) (.inr rfl))) (fun _ _ _ _ _=>Zeo) (fun _ _ _ _ _=>(ZaB Za2 (ZaB Zb8 (pv 2) (ZaB Ziy (pv 3) (pv 0))) Zae)))
   (Zad (ZaF (i:=4) ZcU.nd rfl (by first|exact Or.inl rfl|exact Or.inr rfl) (ZaL c_Lrooms (hr.mono (by decide)) rfl (Zaa (pv 0) (Zaa (pv 3) Zac))))
   (Zad (ZhG (i:=5) ["_law_slot"] ZcU.nd rfl rfl rfl (show CompScope (Zab Zjm) ["_law_script", "_law_one", "_law_step", "_law_slots", "_law_rooms_here", "_law_ahead", "_law_given", "_law_word", "_law_journal", "_law_found"] ["_law_slot"] _ from ⟨rfl,by decide +kernel,by decide +kernel,by decide +kernel,by decide +kernel,by decide +kernel⟩) (Zdr (pv 3)) (fun _ _ _ _ _=>(ZbV (i:=0) (show (["_law_slot", "_law_script", "_law_one", "_law_step", "_law_slots", "_law_rooms_here", "_law_ahead", "_law_given", "_law_word", "_law_journal", "_law_found"]:List Str).Nodup by decide +kernel) rfl (Or.inl rfl) (.inr rfl))) (fun _ _ _ _ _=>Zeo) (fun _ _ _ _ _=>(ZbT m_Account_plain (hr.mono (by decide)) (Zav (show IxR _ (rIxL K) from Zaq) (pv 5) (pv 0) (fun _ _=>rfl)))))
   (Zad (ZaF (i:=6) ZcU.nd rfl (by first|exact Or.inl rfl|exact Or.inr rfl) (ZaB Zb8 Zae (ZaB Za2 (ZaB Zbk (ZaL c_Lcell_at (hr.mono (by decide)) rfl (Zaa (pv 0) (Zaa Zae Zac))) Zae) Zae)))
   (Zad (ZaF (i:=7) ZcU.nd rfl (by first|exact Or.inl rfl|exact Or.inr rfl) (ZaB Za2 (ZaB Zbk (ZaL c_Lcell_at (hr.mono (by decide)) rfl (Zaa (pv 0) (Zaa Zae Zac))) Zae) (ZaB Zef Zae Zae)))
   (Zad (ZaF (i:=8) ZcU.nd rfl (by first|exact Or.inl rfl|exact Or.inr rfl) (Zdt i_Journal (hr.mono (by decide)) rfl (Zaa (pv 4) Zac)))
   (Zad (ZaF (i:=9) ZcU.nd rfl (by first|exact Or.inl rfl|exact Or.inr rfl) (ZaL c_enter (hr.mono (by decide)) rfl (Zaa (pv 4) (Zaa (pv 8) (Zaa (Zav Zaq (pv 3) Zae (fun _ _=>rfl)) (Zaa (Zav Zaq (pv 3) Zae (fun _ _=>rfl)) (Zaa Zae (Zaa (pv 7) (Zaa (pv 6) Zac)))))))))
   (Zad (Zbd (PW.pt (Ze3 (ZdT (Zcm (ZaM ZcY rfl n_isinstance PyProof.Rows.boot_isinstance (Zaa (pv 9) (Zaa (Zep rfl n_tuple PyProof.Rows.boot_tuple) Zac))))) (Ze3 (Zau Zhw (ZaM ZbO rfl n_len PySem.boot_len (Zaa (pv 9) Zac)) Zae (nomark _)) (Zfe (ZdT (Zcm (ZaM ZcY rfl n_isinstance PyProof.Rows.boot_isinstance (Zaa (Zav Za0 (pv 9) Zae (fun _ _=>rfl)) (Zaa (Zep rfl n_list PyProof.Rows.boot_list) Zac))))))))) (Zaf (Zap Zfs)) ZaJ)
   (Zad (Zbd (PW.pt (Ze3 (Zau Zfu (ZaM ZbO rfl n_len PySem.boot_len (Zaa (Zav Za0 (pv 9) Zae (fun _ _=>rfl)) Zac)) Zae (nomark _)) (Ze3 (ZdT (Zcm (ZaL c_Lstill (hr.mono (by decide)) rfl (Zaa (Zav Zj0 (Zav Za0 (pv 9) Zae (fun _ _=>rfl)) Zae (fun _ _=>rfl)) Zac)))) (Zfe (Zau Zhw (Zav Zj0 (Zav Zj0 (Zav Za0 (pv 9) Zae (fun _ _=>rfl)) Zae (fun _ _=>rfl)) Zae (fun _ _=>rfl)) Zar (nomark _)))))) (Zaf (Zap Zfs)) ZaJ)
   (Zad (Zbd (PW.pt (Ze3 (Zau (Zkt hr.units) (Zkc ["_law_slot"] rfl (show CompScope (Zab Zjm) ["_law_script", "_law_one", "_law_step", "_law_slots", "_law_rooms_here", "_law_ahead", "_law_given", "_law_word", "_law_journal", "_law_found"] ["_law_slot"] _ from ⟨rfl,by decide +kernel,by decide +kernel,by decide +kernel,by decide +kernel,by decide +kernel⟩) (Zdr (pv 3)) (fun _ _ _ _ _=>(ZbV (i:=0) (show (["_law_slot", "_law_script", "_law_one", "_law_step", "_law_slots", "_law_rooms_here", "_law_ahead", "_law_given", "_law_word", "_law_journal", "_law_found"]:List Str).Nodup by decide +kernel) rfl (Or.inl rfl) (.inr rfl))) (fun _ _ _ _ _=>Zeo) (fun _ _ _ _ _=>(ZbT m_Account_plain (hr.mono (by decide)) (Zav (show IxR _ (rIxL K) from Zaq) (pv 5) (pv 0) (fun _ _=>rfl))))) (pv 5) (nomark _)) (Zfe (Zau (Zkt hr.units) (ZbT m_Journal_told (hr.mono (by decide)) (pv 8)) (ZaO Zac) (nomark _))))) (Zaf (Zap Zfs)) ZaJ)
   (Zad (Zbd (Zau (Zkt hr.units) (ZaL c_enter (hr.mono (by decide)) rfl (Zaa (pv 4) (Zaa (pv 8) (Zaa (Zav Zaq (pv 3) Zae (fun _ _=>rfl)) (Zaa (Zav Zaq (pv 3) Zae (fun _ _=>rfl)) (Zaa Zae (Zaa (pv 7) (Zaa (pv 6) Zac)))))))) (pv 9) (nomark _)) (Zaf (Zap Zfs)) ZaJ)
   (Zaf (Zap (ZcV (op_eqD hr.units) (ZbT m_Journal_told (hr.mono (by decide)) (pv 8)) (ZaO Zac) (nomark _))))))))))))))))),?_⟩
  walk_at "nx"
  repeat walk_at "rdk"
  refine ⟨a,ns,0,rfl,by decide,hS,?_⟩
  repeat walk_at "rdk"
  refine ⟨a,ns,0,rfl,by decide,hS,?_⟩
  repeat walk_at "rdk"
  generalize cellF ns 0 % 16=one
  generalize 1+2*(cellF ns 0 / 16 % 8)=step
  refine Zer (Zdh ?_)
  repeat walk_at "rdk"
  refine ⟨_,rfl,by decide,by decide,fun SL q_SL=>?_⟩
  refine Zfo (ys:=(List.range 4).map fun j:Nat=>V.int ((one+step*(0+(j:Int))) % 16)) q_SL (by rw [List.length_map,List.length_range];rfl) (by decide) ?_ ?_
  .intro i y H' Q' hi hy sm q'
   rw [List.getElem?_map,List.getElem?_range (show i<4 from hi)] at hy
   cases hy
   repeat walk_at "rdk"
   exact q'
  obtain ⟨o0,o1,o2,o3,eos,b0,b1,b2,b3⟩:=Zoq fun j=>one+step*(0+(j:Int))
  rw [eos]
  clear eos
  have bh0:Gw H H []:=Gw.start
  generalize e_:upd _ SL _=bH1;have bh1:=bh0.newE q_SL e_;clear e_;repeat walk_at "rdk"
  refine ⟨a,SL,ns,o0,o1,o2,o3,rfl,bh1.s.seq hS,Zas bh1.h.1,b0,b1,b2,b3,fun R Ar S0 t asked H1 s1 rr st37 hA ht hro ia=>?_⟩
  have sH1:=bh1.s.trans s1
  have hSL1:=Zas (K:=K) (s1 _ _ bh1.h.1)
  repeat walk_at "rdk"
  refine Zer (ZcJ ?_)
  repeat walk_at "rdk"
  refine ⟨SL,rfl,⟨_,hSL1⟩,fun AH q_AH=>?_⟩
  refine Zew (xs:=[.int (o0:Int),.int (o1:Int),.int (o2:Int),.int (o3:Int)]) (fun i H'=>Same H1 H'/\∃ vs',H' AH=some (.lst vs')/\vs'.length=i/\i<=4/\∀ (n:Nat) v o,vs'[n]?=some v->[o0,o1,o2,o3][n]?=some o->PlAt S0 H' AH o v) ⟨Same.new q_AH,[],Zag,rfl,Nat.zero_le _,fun n v o h=>by simp at h⟩ (fun i H' ⟨s,_⟩=>s.seq hSL1) ?_ ?_
  .rintro i x H' hx ⟨s_1,vs',hv,hl,hi4,hE⟩
   obtain ⟨oi,hoi,rfl,boi,yi,hyi⟩:∃ o:Nat,[o0,o1,o2,o3][i]?=some o/\x=.int (o:Int)/\o<16/\∃ y,Ar o=some y:=by
    have hi:i<4:=(List.getElem?_eq_some_iff.mp hx).1
    rcases (by omega:i=0\/i=1\/i=2\/i=3) with rfl|rfl|rfl|rfl
    .cases hx;exact ⟨o0,rfl,rfl,b0,hA _ (.inl rfl)⟩
    .cases hx;exact ⟨o1,rfl,rfl,b1,hA _ (.inr (.inl rfl))⟩
    .cases hx;exact ⟨o2,rfl,rfl,b2,hA _ (.inr (.inr (.inl rfl)))⟩
    .cases hx;exact ⟨o3,rfl,rfl,b3,hA _ (.inr (.inr (.inr rfl)))⟩
   have hi:i<4:=(List.getElem?_eq_some_iff.mp hx).1
   have rI:=Rooms.same rr s_1
   have ax:=rI.ac oi yi boi hyi
   refine ZhJ ?_
   refine iteT ?_
   repeat walk_at "rdk"
   refine ZaH (Zas rI.ob) (rI.at boi hyi) ?_
   refine Zam ax.ob rfl ?_
   repeat walk_at "rdk"
   refine ⟨yi.a,yi.dx,yi.pr,yi.st,_,_,_,_,_,1,rfl,ax,by decide,Nat.le_trans (st37.len oi) (by decide),fun r hr=>Znk (st37.fit oi r hr),fun l L1 H2 s_2 hl0 su hL1 hl1=>?_⟩
   have hlq:l≠AH:=fun z=>by rw [z,hv] at hl0;cases hl0
   have hl2:H2 l=some (.lst ((plainS (S0 oi)).map V.int)):=by unfold plainS;rw [Zi5 su];exact hl1
   refine ⟨vs',s_2 _ _ hv,Nat.lt_of_lt_of_le (show vs'.length<10 by omega) (by decide),⟨(s_1.trans s_2).wr q_AH,vs'++[.ref l],Zag,by rw [List.length_append,hl];rfl,by omega,Zls hl (fun n v o h1 h2=>(hE n v o h1 h2).same s_2) hoi hlq hl2⟩,_,rfl⟩
  rintro J2 ⟨sAH,vsAH,eAH,lAH,_,hAH⟩
  have dAH:DV K J2 (plD S0 [o0,o1,o2,o3]) (.ref AH):=pl_dv eAH lAH hAH
  repeat walk_at "rdk"
  have rr2:=rr.same sAH
  have hSL2:=sAH.seq hSL1
  have hS2:=(sH1.trans sAH).seq hS
  refine ⟨a,ns,6,rfl,by decide,hS2,?_⟩
  repeat walk_at "rdk"
  refine ⟨a,ns,6,rfl,by decide,hS2,?_⟩
  repeat walk_at "rdk"
  rw [p64N]
  repeat walk_at "rdk"
  obtain ⟨given,eg,g0,g1⟩:∃ z:Int,10+cellF ns 6 / 3 % 390=z/\10<=z/\z<=1000:=⟨_,rfl,by omega,by omega⟩
  rw [eg]
  clear eg
  have iw:=ZbK (cellF ns 6 / 3)
  generalize cellF ns 6 / 3 % 18446744073709551616=word at iw
  clear hAH eAH
  intro j jdx hj hjdx hnej
  have hj2:(upd J2 jdx (.own j)) j=none:=by rw [Zai (Ne.symm hnej)];exact hj
  have sj:Same J2 (upd (upd J2 jdx (.own j)) j (.ins cJournal jdx [])):=(Same.new hjdx).newT hj2
  refine ⟨j,jdx,R,rfl,Zag,fun L hL=>⟨rfl,?_⟩⟩
  have hL12:=sj.fresh hL
  have nLj:L≠j:=fun q=>by rw [q,Zag] at hL;cases hL
  have s13:Same J2 (upd (upd (upd (upd J2 jdx (.own j)) j (.ins cJournal jdx [])) L (.lst [])) j (.ins cJournal jdx (jF R L))):=fun b o e=>by
   rw [Zai (Zaj e hj),Zai (Zaj e hL12)];exact sj b o e
  have J13:Jr cJournal cSave cMove cNote (upd (upd (upd (upd J2 jdx (.own j)) j (.ins cJournal jdx [])) L (.lst [])) j (.ins cJournal jdx (jF R L))) j jdx R L Ar []:=⟨Zag,by rw [Zai nLj,Zag];rfl,fun _ h=>(nomatch h),Ne.symm (Zaj rr2.ob hL12),fun i y hi hy=>by obtain ⟨xs,e1,_⟩:=(rr2.ac i y hi hy).pg;exact Ne.symm (Zaj e1 hL12)⟩
  generalize upd (upd (upd (upd J2 jdx (.own j)) j (.ins cJournal jdx [])) L (.lst [])) j _=H13 at s13 J13
  have W13:Wd K cAccount cJournal cSave cMove cNote H13 j jdx R L Ar S0 1 []:=⟨⟨[],rfl,J13⟩,rr2.same s13,trivial,st37.sup,by decide⟩
  obtain ⟨x3,h3⟩:=hA o3 (.inr (.inr (.inr rfl)))
  obtain ⟨xt,hxt⟩:=hA t (ht.elim .inl fun h=>.inr (h.elim .inl fun h=>.inr (.inl h)))
  have bt:t<16:=by rcases ht with rfl|rfl|rfl<;>assumption
  obtain ⟨yF,sF,y1,s1',rest,hG,⟨eF,hf⟩,hsF,hrest,hst,hkind⟩:=Zom (o0:=o0) (fun i y _ _ r hr=>st37.fit i r hr) (st37.up.ok (by decide)) h3 b3 hxt bt hro ia iw g0 g1
  have hdep:(treeD yF sF).dep<=64:=by rw [hsF];exact Zlu hf hst hrest
  repeat walk_at "rdk"
  refine ZaH (s13.seq hSL2) (v:=.int (o0:Int)) rfl ?_
  repeat walk_at "rdk"
  refine ZaH (s13.seq hSL2) (v:=.int (o3:Int)) rfl ?_
  repeat walk_at "rdk"
  refine ⟨j,jdx,R,L,Ar,S0,1,[],(o0:Int),(o3:Int),0,word,given,[],yF,sF,rfl,W13,hG,fun pF HF WF SF2 kF=>?_⟩
  have kD:=ZmV rr2 s13 hL12 kF
  have dA:=DV.keptD kD dAH
  have hSLF:=kD.sl hSL2
  have dF:=SF2.dv
  clear dAH kD hSL2 hSL1 hS2 s13
  obtain ⟨T,ys,LL,ws,hvT,hT,l11,_,_,_,a10,hLL,dLL⟩:=ZdS dF hf
  cases hvT
  have lws:sF.length=ws.length:=dLL.length
  have l5:5<=sF.length:=by rw [hsF,List.length_append];exact Nat.le_add_right 5 _
  obtain ⟨v4,e4⟩:∃ v4,ws[4]?=some v4:=⟨_,List.getElem?_eq_getElem (by omega)⟩
  have d4:DV K HF (treeD y1 s1') v4:=dLL.get (i:=4) (by rw [hsF];rfl) e4
  repeat walk_at "rdz"
  all_goals try (exfalso;omega)
  refine Zcn hT a10 ?_
  repeat walk_at "rdz"
  all_goals try (exfalso;omega)
  refine Zcn hT a10 ?_
  repeat walk_at "rdz"
  all_goals try (exfalso;omega)
  refine Zcn hT a10 ?_
  repeat walk_at "rdz"
  refine .inl (ZaH hLL (ZcW e4) ?_)
  repeat walk_at "rdz"
  refine ⟨_,_,rfl,hst,d4,?_⟩
  repeat walk_at "rdz"
  refine Zcn hT a10 ?_
  repeat walk_at "rdz"
  refine .inl (ZaH hLL (ZcW e4) ?_)
  repeat walk_at "rdz"
  obtain ⟨TK,xsK,rfl,hTK,aK⟩:=Zlt d4
  rw [hkind] at aK
  refine .inr (.inl (Zcn hTK aK ?_))
  repeat' walk_at "rdz"
  all_goals first|exact absurd rfl (by assumption)|skip
  dsimp only
  repeat walk_at "rdz"
  have rF:Rooms K cAccount HF R Ar S0 1:=WF.r
  refine Zer (ZcJ ?_)
  repeat walk_at "rdk"
  refine ⟨SL,rfl,⟨_,hSLF⟩,fun A2 q_A2=>?_⟩
  refine Zew (xs:=[.int (o0:Int),.int (o1:Int),.int (o2:Int),.int (o3:Int)]) (fun i H'=>Same HF H'/\∃ vs',H' A2=some (.lst vs')/\vs'.length=i/\i<=4/\∀ (n:Nat) v o,vs'[n]?=some v->[o0,o1,o2,o3][n]?=some o->PlAt S0 H' A2 o v) ⟨Same.new q_A2,[],Zag,rfl,Nat.zero_le _,fun n v o h=>by simp at h⟩ (fun i H' ⟨s,_⟩=>s.seq hSLF) ?_ ?_
  .rintro i x H' hx ⟨s_1,vs',hv,hl,hi4,hE⟩
   obtain ⟨oi,hoi,rfl,boi,yi,hyi⟩:∃ o:Nat,[o0,o1,o2,o3][i]?=some o/\x=.int (o:Int)/\o<16/\∃ y,Ar o=some y:=by
    have hi:i<4:=(List.getElem?_eq_some_iff.mp hx).1
    rcases (by omega:i=0\/i=1\/i=2\/i=3) with rfl|rfl|rfl|rfl
    .cases hx;exact ⟨o0,rfl,rfl,b0,hA _ (.inl rfl)⟩
    .cases hx;exact ⟨o1,rfl,rfl,b1,hA _ (.inr (.inl rfl))⟩
    .cases hx;exact ⟨o2,rfl,rfl,b2,hA _ (.inr (.inr (.inl rfl)))⟩
    .cases hx;exact ⟨o3,rfl,rfl,b3,hA _ (.inr (.inr (.inr rfl)))⟩
   have hi:i<4:=(List.getElem?_eq_some_iff.mp hx).1
   have rI:=Rooms.same rF s_1
   have ax:=rI.ac oi yi boi hyi
   refine ZhJ ?_
   refine iteT ?_
   repeat walk_at "rdk"
   refine ZaH (Zas rI.ob) (rI.at boi hyi) ?_
   refine Zam ax.ob rfl ?_
   repeat walk_at "rdk"
   refine ⟨yi.a,yi.dx,yi.pr,yi.st,_,_,_,_,_,1,rfl,ax,by decide,Nat.le_trans (st37.len oi) (by decide),fun r hr=>Znk (st37.fit oi r hr),fun l L1 H2 s_2 hl0 su hL1 hl1=>?_⟩
   have hlq:l≠A2:=fun z=>by rw [z,hv] at hl0;cases hl0
   have hl2:H2 l=some (.lst ((plainS (S0 oi)).map V.int)):=by unfold plainS;rw [Zi5 su];exact hl1
   refine ⟨vs',s_2 _ _ hv,Nat.lt_of_lt_of_le (show vs'.length<10 by omega) (by decide),⟨(s_1.trans s_2).wr q_A2,vs'++[.ref l],Zag,by rw [List.length_append,hl];rfl,by omega,Zls hl (fun n v o h1 h2=>(hE n v o h1 h2).same s_2) hoi hlq hl2⟩,_,rfl⟩
  rintro H2 ⟨sA2,vsA2,eA2,lA2,_,hA2⟩
  have dA2:DV K H2 (plD S0 [o0,o1,o2,o3]) (.ref A2):=pl_dv eA2 lA2 hA2
  repeat walk_at "rdk"
  have dA2':=dA.keep sA2
  refine ZhI dA2 dA2' (Zop _ _) ?_
  repeat walk_at "rdk"
  have W2:=WF.same sA2
  obtain ⟨es,hes,J2'⟩:=W2.J
  have es0:es=[]:=List.map_eq_nil_iff.mp hes
  subst es0
  refine Zam J2'.ob rfl ?_
  repeat walk_at "rdk"
  refine ⟨j,jdx,R,L,Ar,[],rfl,J2',by decide,fun tq ts HQ sQ htq etq tp=>?_⟩
  have dtq:=tp.dv (K:=K) etq
  repeat walk_at "rdk"
  have z0:Gw HQ HQ []:=Gw.start
  refine ⟨szl_0,fun E0 q_E0=>?_⟩
  generalize e_:upd _ E0 _=Z1;have z1:=z0.newE q_E0 e_;clear e_;repeat walk_at "rdk"
  refine ZhI (d:=.lst []) (DV.keep z1.s dtq) (ZgF (Zas z1.h.1) ZbI) (by decide) ?_
  repeat walk_at "rdk"
  have sE:=sA2.trans (sQ.trans z1.s)
  have WE:=WF.same sE
  have hSLE:=sE.seq hSLF
  refine ZaH hSLE (v:=.int (o0:Int)) rfl ?_
  repeat walk_at "rdk"
  refine ⟨j,jdx,R,L,Ar,S0,1,[],(o0:Int),(o3:Int),0,word,given,[],yF,sF,rfl,WE,hG,fun p2 HG WG SG kG=>?_⟩
  have sNP:Same (newP H13 HF) HG:=fun b o e=>by
   obtain ⟨e1,e2⟩:=Zf9 e
   exact kG b o (sE _ _ e2) fun z=>z.elim (fun q=>q (W13.r.outN e1)) (fun q=>by rw [q,J13.li] at e1;cases e1)
  have dF2:DV K HG (treeD yF sF) (.ref pF):=DVs.get (DVs.keep sNP SF2) (i:=0) rfl rfl
  repeat walk_at "rdk"
  refine ZhI SG.dv dF2 hdep ?_
  repeat walk_at "rdk"
  obtain ⟨es,hes,J3⟩:=WG.J
  have es0:es=[]:=List.map_eq_nil_iff.mp hes
  subst es0
  refine Zam J3.ob rfl ?_
  repeat walk_at "rdk"
  refine ⟨j,jdx,R,L,Ar,[],rfl,J3,by decide,fun tq2 ts2 HR sR htq2 etq2 tp2=>?_⟩
  have dtq2:=tp2.dv (K:=K) etq2
  repeat walk_at "rdk"
  have y0:Gw HR HR []:=Gw.start
  refine ⟨szl_0,fun E2 q_E2=>?_⟩
  generalize e_:upd _ E2 _=Y1;have y1':=y0.newE q_E2 e_;clear e_;repeat walk_at "rdk"
  refine Zn1 (d:=.lst []) (DV.keep y1'.s dtq2) (ZgF (Zas y1'.h.1) ZbI) (by decide) ?_
  repeat walk_at "rdk"
  exact k _
end
section
variable {P:Program} {w:World} {K:PySem.W.Frag} {mg:Str->Option Value} {base:Heap}
theorem Zor {h:Heap} {aT:Addr} {es:Array DictEntry} {ep:Nat} {l:List (Str×Tok×Value)} {a1 a2 a3 a4 a5 a6 a7 a8 a9 a10 a11 a12 a13 a14 a15 a16 a17 a18 a19 a20 a21 a22 a23 a24 a25 a26 a27 a28 a29 a30 a31:Addr} (X:K.In h) (G:h.Ns mainGlobals mg) (a:PySem.W.nsIn K mainGlobals "ROWS" = some (some (.ref aT))) (lk:K.lookup aT=some ⟨.type "dict", none,.dict es ep,#[]⟩)
  (he:entsOf es=l) (h2:es=(l.map (sEnt w)).toArray) (h3:l.map (fun p=>(p.1,p.2.2))=[(("push" : Str),Value.ref a1),(("drop" : Str),Value.ref a2),(("copy" : Str),Value.ref a3),(("swap" : Str),Value.ref a4),(("add" : Str),Value.ref a5),(("minus" : Str),Value.ref a6),(("times" : Str),Value.ref a7),(("over" : Str),Value.ref a8),(("rest" : Str),Value.ref a9),(("below" : Str),Value.ref a10),(("same" : Str),Value.ref a11),(("both" : Str),Value.ref a12),(("either" : Str),Value.ref a13),(("unlike" : Str),Value.ref a14),(("up" : Str),Value.ref a15),(("down" : Str),Value.ref a16),(("jump" : Str),Value.ref a17),(("jumpif" : Str),Value.ref a18),(("load" : Str),Value.ref a19),(("save" : Str),Value.ref a20),(("me" : Str),Value.ref a21),(("from" : Str),Value.ref a22),(("sent" : Str),Value.ref a23),(("word" : Str),Value.ref a24),(("coin" : Str),Value.ref a25),(("note" : Str),Value.ref a26),(("call" : Str),Value.ref a27),(("borrow" : Str),Value.ref a28),(("look" : Str),Value.ref a29),(("give" : Str),Value.ref a30),(("fail" : Str),Value.ref a31)])
  (t1:TupK K a1 [.int 0,.int 1,.int 1,.int 1]) (t2:TupK K a2 [.int 1,.int 0,.int 1,.int 1]) (t3:TupK K a3 [.int 1,.int 2,.int 1,.int 1]) (t4:TupK K a4 [.int 1,.int 1,.int 1,.int 1]) (t5:TupK K a5 [.int 2,.int 1,.int 1,.int 1]) (t6:TupK K a6 [.int 2,.int 1,.int 1,.int 1]) (t7:TupK K a7 [.int 2,.int 1,.int 2,.int 2]) (t8:TupK K a8 [.int 2,.int 1,.int 2,.int 2]) (t9:TupK K a9 [.int 2,.int 1,.int 2,.int 2]) (t10:TupK K a10 [.int 2,.int 1,.int 1,.int 1]) (t11:TupK K a11 [.int 2,.int 1,.int 1,.int 1]) (t12:TupK K a12 [.int 2,.int 1,.int 1,.int 1]) (t13:TupK K a13 [.int 2,.int 1,.int 1,.int 1]) (t14:TupK K a14 [.int 2,.int 1,.int 1,.int 1]) (t15:TupK K a15 [.int 2,.int 1,.int 1,.int 1]) (t16:TupK K a16 [.int 2,.int 1,.int 1,.int 1]) (t17:TupK K a17 [.int 0,.int 0,.int 1,.int 1]) (t18:TupK K a18 [.int 1,.int 0,.int 1,.int 1]) (t19:TupK K a19 [.int 1,.int 1,.int 3,.int 3]) (t20:TupK K a20 [.int 2,.int 0,.int 5,.int 12]) (t21:TupK K a21 [.int 0,.int 1,.int 1,.int 1]) (t22:TupK K a22 [.int 0,.int 1,.int 1,.int 1]) (t23:TupK K a23 [.int 0,.int 1,.int 1,.int 1]) (t24:TupK K a24 [.int 0,.int 1,.int 1,.int 1]) (t25:TupK K a25 [.int 1,.int 1,.int 3,.int 3]) (t26:TupK K a26 [.int 1,.int 0,.int 4,.int 4]) (t27:TupK K a27 [.int 4,.int 2,.int 8,.int 12]) (t28:TupK K a28 [.int 3,.int 2,.int 6,.int 6]) (t29:TupK K a29 [.int 3,.int 2,.int 6,.int 6]) (t30:TupK K a30 [.int 1,.int 0,.int 1,.int 1]) (t31:TupK K a31 [.int 1,.int 0,.int 1,.int 1]):∃ aT:Addr,ZaW mg "ROWS" (.ref aT)/\ZgS P w K aT:=by
 subst he
 have d:=Zeq (P:=P) (w:=w) lk h2 (by
  have e:(entsOf es).map (·.1)=((entsOf es).map (fun p=>(p.1,p.2.2))).map (·.1):=by rw [List.map_map];rfl
  rw [e,h3]
  show (["push", "drop", "copy", "swap", "add", "minus", "times", "over", "rest", "below", "same", "both", "either", "unlike", "up", "down", "jump", "jumpif", "load", "save", "me", "from", "sent", "word", "coin", "note", "call", "borrow", "look", "give", "fail"]:List Str).Nodup
  decide +kernel)
 have e:((entsOf es).map fun p=>((Sum.inr p.1:Key),p.2.2))=((entsOf es).map (fun p=>(p.1,p.2.2))).map fun q=>((Sum.inr q.1:Key),q.2):=by rw [List.map_map];rfl
 rw [e,h3] at d
 refine ⟨aT,Zca X G a,_,d,fun x t l p dd hx=>?_⟩
 have hm:=Zbw hx
 simp only [RT,List.mem_cons,Prod.mk.injEq,List.not_mem_nil,or_false] at hm
 rcases hm with ⟨rfl,rfl,rfl,rfl,rfl⟩|⟨rfl,rfl,rfl,rfl,rfl⟩|⟨rfl,rfl,rfl,rfl,rfl⟩|⟨rfl,rfl,rfl,rfl,rfl⟩|⟨rfl,rfl,rfl,rfl,rfl⟩|⟨rfl,rfl,rfl,rfl,rfl⟩|⟨rfl,rfl,rfl,rfl,rfl⟩|⟨rfl,rfl,rfl,rfl,rfl⟩|⟨rfl,rfl,rfl,rfl,rfl⟩|⟨rfl,rfl,rfl,rfl,rfl⟩|⟨rfl,rfl,rfl,rfl,rfl⟩|⟨rfl,rfl,rfl,rfl,rfl⟩|⟨rfl,rfl,rfl,rfl,rfl⟩|⟨rfl,rfl,rfl,rfl,rfl⟩|⟨rfl,rfl,rfl,rfl,rfl⟩|⟨rfl,rfl,rfl,rfl,rfl⟩|⟨rfl,rfl,rfl,rfl,rfl⟩|⟨rfl,rfl,rfl,rfl,rfl⟩|⟨rfl,rfl,rfl,rfl,rfl⟩|⟨rfl,rfl,rfl,rfl,rfl⟩|⟨rfl,rfl,rfl,rfl,rfl⟩|⟨rfl,rfl,rfl,rfl,rfl⟩|⟨rfl,rfl,rfl,rfl,rfl⟩|⟨rfl,rfl,rfl,rfl,rfl⟩|⟨rfl,rfl,rfl,rfl,rfl⟩|⟨rfl,rfl,rfl,rfl,rfl⟩|⟨rfl,rfl,rfl,rfl,rfl⟩|⟨rfl,rfl,rfl,rfl,rfl⟩|⟨rfl,rfl,rfl,rfl,rfl⟩|⟨rfl,rfl,rfl,rfl,rfl⟩|⟨rfl,rfl,rfl,rfl,rfl⟩
 .exact ⟨_,rfl,t1⟩
 .exact ⟨_,rfl,t2⟩
 .exact ⟨_,rfl,t3⟩
 .exact ⟨_,rfl,t4⟩
 .exact ⟨_,rfl,t5⟩
 .exact ⟨_,rfl,t6⟩
 .exact ⟨_,rfl,t7⟩
 .exact ⟨_,rfl,t8⟩
 .exact ⟨_,rfl,t9⟩
 .exact ⟨_,rfl,t10⟩
 .exact ⟨_,rfl,t11⟩
 .exact ⟨_,rfl,t12⟩
 .exact ⟨_,rfl,t13⟩
 .exact ⟨_,rfl,t14⟩
 .exact ⟨_,rfl,t15⟩
 .exact ⟨_,rfl,t16⟩
 .exact ⟨_,rfl,t17⟩
 .exact ⟨_,rfl,t18⟩
 .exact ⟨_,rfl,t19⟩
 .exact ⟨_,rfl,t20⟩
 .exact ⟨_,rfl,t21⟩
 .exact ⟨_,rfl,t22⟩
 .exact ⟨_,rfl,t23⟩
 .exact ⟨_,rfl,t24⟩
 .exact ⟨_,rfl,t25⟩
 .exact ⟨_,rfl,t26⟩
 .exact ⟨_,rfl,t27⟩
 .exact ⟨_,rfl,t28⟩
 .exact ⟨_,rfl,t29⟩
 .exact ⟨_,rfl,t30⟩
 .exact ⟨_,rfl,t31⟩
theorem Zos {h:Heap} {aS:Addr} {es:Array DictEntry} {ep:Nat} {l:List (Str×Tok×Value)} {u1 u2 u3 u4 u5 u6 u7 u8 u9 u10 u11 u12:Value} (X:K.In h) (G:h.Ns mainGlobals mg) (a:PySem.W.nsIn K mainGlobals "SUMS" = some (some (.ref aS))) (lk:K.lookup aS=some ⟨.type "dict", none,.dict es ep,#[]⟩)
  (he:entsOf es=l) (h2:es=(l.map (sEnt w)).toArray) (h3:l.map (fun p=>(p.1,p.2.2))=[(("add" : Str),u1),(("minus" : Str),u2),(("times" : Str),u3),(("over" : Str),u4),(("rest" : Str),u5),(("below" : Str),u6),(("same" : Str),u7),(("both" : Str),u8),(("either" : Str),u9),(("unlike" : Str),u10),(("up" : Str),u11),(("down" : Str),u12)])
  (a1:PySem.W.nsIn K mainGlobals "added" = some (some u1)) (a2:PySem.W.nsIn K mainGlobals "lessened" = some (some u2)) (a3:PySem.W.nsIn K mainGlobals "multiplied" = some (some u3)) (a4:PySem.W.nsIn K mainGlobals "contained" = some (some u4)) (a5:PySem.W.nsIn K mainGlobals "left_over" = some (some u5)) (a6:PySem.W.nsIn K mainGlobals "is_below" = some (some u6)) (a7:PySem.W.nsIn K mainGlobals "is_same" = some (some u7)) (a8:PySem.W.nsIn K mainGlobals "in_both" = some (some u8)) (a9:PySem.W.nsIn K mainGlobals "in_either" = some (some u9)) (a10:PySem.W.nsIn K mainGlobals "in_just_one" = some (some u10)) (a11:PySem.W.nsIn K mainGlobals "doubled" = some (some u11)) (a12:PySem.W.nsIn K mainGlobals "halved" = some (some u12)):∃ (aS:Addr) (u1 u2 u3 u4 u5 u6 u7 u8 u9 u10 u11 u12:Value),ZaW mg "SUMS" (.ref aS)/\Zdg P w K aS [(Sum.inr "add", u1),(Sum.inr "minus", u2),(Sum.inr "times", u3),(Sum.inr "over", u4),(Sum.inr "rest", u5),(Sum.inr "below", u6),(Sum.inr "same", u7),(Sum.inr "both", u8),(Sum.inr "either", u9),(Sum.inr "unlike", u10),(Sum.inr "up", u11),(Sum.inr "down", u12)]/\mg "added" = some u1/\mg "lessened" = some u2/\mg "multiplied" = some u3/\mg "contained" = some u4/\mg "left_over" = some u5/\mg "is_below" = some u6/\mg "is_same" = some u7/\mg "in_both" = some u8/\mg "in_either" = some u9/\mg "in_just_one" = some u10/\mg "doubled" = some u11/\mg "halved" = some u12:=by
 subst he
 refine ⟨aS,u1,u2,u3,u4,u5,u6,u7,u8,u9,u10,u11,u12,Zca X G a,?_,PySem.W.mg_of X G a1,PySem.W.mg_of X G a2,PySem.W.mg_of X G a3,PySem.W.mg_of X G a4,PySem.W.mg_of X G a5,PySem.W.mg_of X G a6,PySem.W.mg_of X G a7,PySem.W.mg_of X G a8,PySem.W.mg_of X G a9,PySem.W.mg_of X G a10,PySem.W.mg_of X G a11,PySem.W.mg_of X G a12⟩
 have d:=Zeq (P:=P) (w:=w) lk h2 (by
  have e:(entsOf es).map (·.1)=((entsOf es).map (fun p=>(p.1,p.2.2))).map (·.1):=by rw [List.map_map];rfl
  rw [e,h3]
  show (["add", "minus", "times", "over", "rest", "below", "same", "both", "either", "unlike", "up", "down"]:List Str).Nodup
  decide +kernel)
 have e:((entsOf es).map fun p=>((Sum.inr p.1:Key),p.2.2))=((entsOf es).map (fun p=>(p.1,p.2.2))).map fun q=>((Sum.inr q.1:Key),q.2):=by rw [List.map_map];rfl
 rw [e,h3] at d
 exact d
theorem do_at {h:Heap} {aD:Addr} {es:Array DictEntry} {ep:Nat} {l:List (Str×Tok×Value)} {u1 u2 u3 u4 u5 u6 u7 u8 u9 u10 u11 u12 u13 u14 u15 u16 u17:Value} (X:K.In h) (G:h.Ns mainGlobals mg) (a:PySem.W.nsIn K mainGlobals "DOINGS" = some (some (.ref aD))) (lk:K.lookup aD=some ⟨.type "dict", none,.dict es ep,#[]⟩)
  (he:entsOf es=l) (h2:es=(l.map (sEnt w)).toArray) (h3:l.map (fun p=>(p.1,p.2.2))=[(("push" : Str),u1),(("drop" : Str),u2),(("copy" : Str),u3),(("swap" : Str),u4),(("add" : Str),u5),(("minus" : Str),u5),(("times" : Str),u5),(("over" : Str),u5),(("rest" : Str),u5),(("below" : Str),u5),(("same" : Str),u5),(("both" : Str),u5),(("either" : Str),u5),(("unlike" : Str),u5),(("up" : Str),u5),(("down" : Str),u5),(("jump" : Str),u6),(("jumpif" : Str),u7),(("load" : Str),u8),(("save" : Str),u9),(("me" : Str),u10),(("from" : Str),u11),(("sent" : Str),u12),(("word" : Str),u13),(("coin" : Str),u14),(("note" : Str),u15),(("give" : Str),u16),(("fail" : Str),u17)])
  (a_push_row:PySem.W.nsIn K mainGlobals "push_row" = some (some u1)) (a_drop_row:PySem.W.nsIn K mainGlobals "drop_row" = some (some u2)) (a_copy_row:PySem.W.nsIn K mainGlobals "copy_row" = some (some u3)) (a_swap_row:PySem.W.nsIn K mainGlobals "swap_row" = some (some u4)) (a_reckon_row:PySem.W.nsIn K mainGlobals "reckon_row" = some (some u5)) (a_jump_row:PySem.W.nsIn K mainGlobals "jump_row" = some (some u6)) (a_jumpif_row:PySem.W.nsIn K mainGlobals "jumpif_row" = some (some u7)) (a_load_row:PySem.W.nsIn K mainGlobals "load_row" = some (some u8)) (a_save_row:PySem.W.nsIn K mainGlobals "save_row" = some (some u9)) (a_me_row:PySem.W.nsIn K mainGlobals "me_row" = some (some u10)) (a_from_row:PySem.W.nsIn K mainGlobals "from_row" = some (some u11)) (a_sent_row:PySem.W.nsIn K mainGlobals "sent_row" = some (some u12)) (a_word_row:PySem.W.nsIn K mainGlobals "word_row" = some (some u13)) (a_coin_row:PySem.W.nsIn K mainGlobals "coin_row" = some (some u14)) (a_note_row:PySem.W.nsIn K mainGlobals "note_row" = some (some u15)) (a_give_row:PySem.W.nsIn K mainGlobals "give_row" = some (some u16)) (a_fail_row:PySem.W.nsIn K mainGlobals "fail_row" = some (some u17)):∃ (aD:Addr) (u1 u2 u3 u4 u5 u6 u7 u8 u9 u10 u11 u12 u13 u14 u15 u16 u17:Value),ZaW mg "DOINGS" (.ref aD)/\Zdg P w K aD [(Sum.inr "push", u1),(Sum.inr "drop", u2),(Sum.inr "copy", u3),(Sum.inr "swap", u4),(Sum.inr "add", u5),(Sum.inr "minus", u5),(Sum.inr "times", u5),(Sum.inr "over", u5),(Sum.inr "rest", u5),(Sum.inr "below", u5),(Sum.inr "same", u5),(Sum.inr "both", u5),(Sum.inr "either", u5),(Sum.inr "unlike", u5),(Sum.inr "up", u5),(Sum.inr "down", u5),(Sum.inr "jump", u6),(Sum.inr "jumpif", u7),(Sum.inr "load", u8),(Sum.inr "save", u9),(Sum.inr "me", u10),(Sum.inr "from", u11),(Sum.inr "sent", u12),(Sum.inr "word", u13),(Sum.inr "coin", u14),(Sum.inr "note", u15),(Sum.inr "give", u16),(Sum.inr "fail", u17)]/\mg "push_row" = some u1/\mg "drop_row" = some u2/\mg "copy_row" = some u3/\mg "swap_row" = some u4/\mg "reckon_row" = some u5/\mg "jump_row" = some u6/\mg "jumpif_row" = some u7/\mg "load_row" = some u8/\mg "save_row" = some u9/\mg "me_row" = some u10/\mg "from_row" = some u11/\mg "sent_row" = some u12/\mg "word_row" = some u13/\mg "coin_row" = some u14/\mg "note_row" = some u15/\mg "give_row" = some u16/\mg "fail_row" = some u17:=by
 subst he
 refine ⟨aD,u1,u2,u3,u4,u5,u6,u7,u8,u9,u10,u11,u12,u13,u14,u15,u16,u17,Zca X G a,?_,PySem.W.mg_of X G a_push_row,PySem.W.mg_of X G a_drop_row,PySem.W.mg_of X G a_copy_row,PySem.W.mg_of X G a_swap_row,PySem.W.mg_of X G a_reckon_row,PySem.W.mg_of X G a_jump_row,PySem.W.mg_of X G a_jumpif_row,PySem.W.mg_of X G a_load_row,PySem.W.mg_of X G a_save_row,PySem.W.mg_of X G a_me_row,PySem.W.mg_of X G a_from_row,PySem.W.mg_of X G a_sent_row,PySem.W.mg_of X G a_word_row,PySem.W.mg_of X G a_coin_row,PySem.W.mg_of X G a_note_row,PySem.W.mg_of X G a_give_row,PySem.W.mg_of X G a_fail_row⟩
 have d:=Zeq (P:=P) (w:=w) lk h2 (by
  have e:(entsOf es).map (·.1)=((entsOf es).map (fun p=>(p.1,p.2.2))).map (·.1):=by rw [List.map_map];rfl
  rw [e,h3]
  show (["push", "drop", "copy", "swap", "add", "minus", "times", "over", "rest", "below", "same", "both", "either", "unlike", "up", "down", "jump", "jumpif", "load", "save", "me", "from", "sent", "word", "coin", "note", "give", "fail"]:List Str).Nodup
  decide +kernel)
 have e:((entsOf es).map fun p=>((Sum.inr p.1:Key),p.2.2))=((entsOf es).map (fun p=>(p.1,p.2.2))).map fun q=>((Sum.inr q.1:Key),q.2):=by rw [List.map_map];rfl
 rw [e,h3] at d
 exact d
theorem Zlv:FnScope ["self", "kind", "who", "whose", "caller", "coin", "word", "given", "depth", "looking"] ["self", "kind", "who", "whose", "caller", "coin", "word", "given", "depth", "looking"] (Zab ZaC):=⟨rfl,rfl,rfl,by decide +kernel,rfl,by decide +kernel,by decide +kernel⟩
theorem Zhs {cFrame:Addr} {tok:Tok} (D:Zct K cFrame "__init__" "Frame.__init__" ZaC #[.int 1 tok,.bool false]) (tFrame:T_Frame K mg cFrame) (ds:List Value) {dvs:List V} (v:Vals dvs ds)
  (hb:∀ (T:Addr) (kV doc pm:Value) (an:Option Addr) (cdv ct:Value) (us:List Value),(us++ds).length=10->∃ k:Option (Array Value)->Sem (List (Str×Value)),bindArgs (PySem.W.fnOf "__init__" "Frame.__init__" (Zay ZaC) (Zat ZaC) (Zab ZaC) (.ref T) kV doc pm an cdv ct) ⟨us,[]⟩=seqItems? (.ref T) >>= k/\k (some #[.int 1 tok,.bool false])=pure ((["self", "kind", "who", "whose", "caller", "coin", "word", "given", "depth", "looking"]:List Str).zip (us++ds))):ZhL P w K mg base 1 "Frame" cFrame (ZeK cFrame) dvs:=by
 refine Zme D tFrame.k Zlv (fun vs H Q E h=>?_) (fun f cdv A outer s H vs Q E hr h=>?_) ds v hb
 .obtain ⟨a,dx,kind,who,whose,caller,coin,word,given,depth,looking,rfl,_⟩:=h;rfl
 .obtain ⟨a,dx,kind,who,whose,caller,coin,word,given,depth,looking,rfl,ha,k⟩:=h
  refine ⟨_,(Zad (ZaT (pv 0) (pv 1) rfl)
   (Zad (ZaT (pv 0) (pv 2) rfl)
   (Zad (ZaT (pv 0) (pv 3) rfl)
   (Zad (ZaT (pv 0) (pv 4) rfl)
   (Zad (ZaT (pv 0) (pv 5) rfl)
   (Zad (ZaT (pv 0) (pv 6) rfl)
   (Zad (ZaT (pv 0) (pv 7) rfl)
   (Zad (ZaT (pv 0) (pv 8) rfl)
   (Zad (ZaT (pv 0) (pv 9) rfl)
   (Zad (ZaT (pv 0) Zae rfl)
   (Zad (ZaT (pv 0) (ZaO Zac) rfl)
   (Zad (ZaT (pv 0) Zae rfl)
   (Zad (ZaT (pv 0) (ZaO Zac) rfl)
   (Zad (ZaT (pv 0) Zcp rfl)
   (Zaf (ZaT (pv 0) Zae rfl)))))))))))))))),?_⟩
  walk_at "nx"
  repeat walk_at "rdk"
  refine Zaw ha tFrame.k.cl tFrame.n_kind (by decide) ?_
  repeat walk_at "rdk"
  refine Zaw Zag tFrame.k.cl tFrame.n_who (by show 1<1000;decide) ?_
  rw [ZaV]
  repeat walk_at "rdk"
  refine Zaw Zag tFrame.k.cl tFrame.n_whose (by show 2<1000;decide) ?_
  rw [ZaV]
  repeat walk_at "rdk"
  refine Zaw Zag tFrame.k.cl tFrame.n_caller (by show 3<1000;decide) ?_
  rw [ZaV]
  repeat walk_at "rdk"
  refine Zaw Zag tFrame.k.cl tFrame.n_coin (by show 4<1000;decide) ?_
  rw [ZaV]
  repeat walk_at "rdk"
  refine Zaw Zag tFrame.k.cl tFrame.n_word (by show 5<1000;decide) ?_
  rw [ZaV]
  repeat walk_at "rdk"
  refine Zaw Zag tFrame.k.cl tFrame.n_given (by show 6<1000;decide) ?_
  rw [ZaV]
  repeat walk_at "rdk"
  refine Zaw Zag tFrame.k.cl tFrame.n_depth (by show 7<1000;decide) ?_
  rw [ZaV]
  repeat walk_at "rdk"
  refine Zaw Zag tFrame.k.cl tFrame.n_looking (by show 8<1000;decide) ?_
  rw [ZaV]
  repeat walk_at "rdk"
  refine Zaw Zag tFrame.k.cl tFrame.n_used (by show 9<1000;decide) ?_
  rw [ZaV]
  repeat walk_at "rdk"
  refine ⟨by decide,fun l hl=>?_⟩
  have nl:l≠a:=fun z=>by rw [z,Zag] at hl;cases hl
  have hlH:H l=none:=by rw [Zai nl] at hl;exact hl
  repeat walk_at "rdk"
  refine Zaw (by rw [Zai (Ne.symm nl)];exact Zag) tFrame.k.cl tFrame.n_stack (by show 10<1000;decide) ?_
  repeat walk_at "rdk"
  refine Zaw Zag tFrame.k.cl tFrame.n_row (by show 11<1000;decide) ?_
  rw [ZaV]
  repeat walk_at "rdk"
  refine ⟨by decide,fun q hq=>?_⟩
  have nq:q≠a:=fun z=>by rw [z,Zag] at hq;cases hq
  have nql:q≠l:=fun z=>by rw [Zai nq,z,Zag] at hq;cases hq
  have hqH:H q=none:=by rw [Zai nq,Zai nql,Zai nq] at hq;exact hq
  repeat walk_at "rdk"
  refine Zaw (by rw [Zai (Ne.symm nq)];exact Zag) tFrame.k.cl tFrame.n_steps (by show 12<1000;decide) ?_
  repeat walk_at "rdk"
  refine Zaw Zag tFrame.k.cl tFrame.n_end (by show 13<1000;decide) ?_
  rw [ZaV]
  repeat walk_at "rdk"
  refine Zaw Zag tFrame.k.cl tFrame.n_answer (by show 14<1000;decide) ?_
  rw [ZaV]
  refine k l q _ hlH hqH ⟨?_,?_,?_,Ne.symm nql⟩ ?_
  .show upd _ a _ a=_
   rw [Zag];rfl
  .show upd _ a _ l=_
   rw [Zai nl,Zai (Ne.symm nql),Zai nl,Zag];rfl
  .show upd _ a _ q=_
   rw [Zai nq,Zag]
  .intro b o e n
   rw [Zai n,Zai (Zaj e hqH),Zai n,Zai (Zaj e hlH),Zai n]
   exact e
theorem mkFI {K:PySem.W.Frag} {h:Heap} {mg:Str->Option Value} {C f T:Addr} {oc c2:Value} {od an d2:Option Addr} {osl s2:Array (Option Value)} {kV doc pm cdv ct:Value} {tok:Tok} {n:Nat} (X:K.In h) (G:h.Ns mainGlobals mg) (aC:PySem.W.nsIn K mainGlobals "Frame" = some (some (.ref C)))
  (a:PySem.W.findIn K (.ref C) "__init__" = some (some (.ref f))) (i:PySem.W.isFn K (.ref f)=true) (l:K.lookup f=some ⟨oc,od,.func (PySem.W.fnOf "__init__" "Frame.__init__" (Zay ZaC) (Zat ZaC) (Zab ZaC) (.ref T) kV doc pm an cdv ct),osl⟩)
  (c:PySem.W.codeIn K cdv "Frame.__init__" = true) (k:PySem.W.keepIn K (.ref f)=true) (d:K.lookup T=some ⟨c2,d2,.seq #[.int 1 tok,.bool false] n,s2⟩):∃ C tok,mg "Frame" = some (.ref C)/\Zct K C "__init__" "Frame.__init__" ZaC #[.int 1 tok,.bool false] :=
 ⟨C,tok,PySem.W.mg_of X G aC,Zjl a i l c k d⟩
theorem Zlw {P:Program} {w:World} {K:PySem.W.Frag} {mg:Str->Option Value} {base:Heap} {cFrame:Addr} {tok:Tok} (D:Zct K cFrame "__init__" "Frame.__init__" ZaC #[.int 1 tok,.bool false]) (tFrame:T_Frame K mg cFrame):ZhL P w K mg base 1 "Frame" cFrame (ZeK cFrame) [.int 1,.bl false] :=
 Zhs D tFrame [.int 1 tok,.bool false] (.cons ⟨_,rfl⟩ (.cons rfl .nil)) (fun T kV doc pm an cdv ct us hl=>bd8 (R:=fun us=>∃ k:Option (Array Value)->Sem (List (Str×Value)),bindArgs _ ⟨us,[]⟩=seqItems? (.ref T) >>= k/\k (some _)=pure (List.zip _ (us++[.int 1 tok,.bool false]))) (fun _ _ _ _ _ _ _ _=>⟨_,rfl,rfl⟩) us (by rw [List.length_append] at hl;exact Nat.add_right_cancel hl))
theorem Zlx {P:Program} {w:World} {K:PySem.W.Frag} {mg:Str->Option Value} {base:Heap} {cFrame:Addr} {tok:Tok} (D:Zct K cFrame "__init__" "Frame.__init__" ZaC #[.int 1 tok,.bool false]) (tFrame:T_Frame K mg cFrame):ZhL P w K mg base 1 "Frame" cFrame (ZeK cFrame) [] :=
 Zhs D tFrame [] .nil (fun T kV doc pm an cdv ct us hl=>bd10 (R:=fun us=>∃ k:Option (Array Value)->Sem (List (Str×Value)),bindArgs _ ⟨us,[]⟩=seqItems? (.ref T) >>= k/\k (some _)=pure (List.zip _ (us++[]))) (fun _ _ _ _ _ _ _ _ _ _=>⟨_,rfl,rfl⟩) us (by rw [List.length_append] at hl;exact hl))
theorem ZjF {K:PySem.W.Frag} {h:Heap} {mg:Str->Option Value} {C:Addr} {f0:Addr} {oc0 kV0 dc0 pm0 cd0 ct0:Value} {od0 an0:Option Addr} {sl0:Array (Option Value)} {f1:Addr} {oc1 kV1 dc1 pm1 cd1 ct1:Value} {od1 an1:Option Addr} {sl1:Array (Option Value)} {f2:Addr} {oc2 kV2 dc2 pm2 cd2 ct2:Value} {od2 an2:Option Addr} {sl2:Array (Option Value)} {f3:Addr} {oc3 kV3 dc3 pm3 cd3 ct3:Value} {od3 an3:Option Addr} {sl3:Array (Option Value)} (X:K.In h) (G:h.Ns mainGlobals mg) (aC:PySem.W.nsIn K mainGlobals "Account" = some (some (.ref C))) (pg:PySem.W.plainGet K C Str.empty=true) (hd:PySem.W.hasDictIn K C=true) (po:PySem.W.plainOver K C=true) (sa:PySem.W.findIn K (.ref C) "__setattr__" = some (some (.builtin "object.__setattr__"))) (mk:PySem.W.makesIn K C=true) (kc:PySem.W.keepIn K (.ref C)=true) (ncoin:PySem.W.findIn K (.ref C) "coin" = some none) (npurse:PySem.W.findIn K (.ref C) "purse" = some none) (ncount:PySem.W.findIn K (.ref C) "count" = some none) (nprogram:PySem.W.findIn K (.ref C) "program" = some none) (nstore:PySem.W.findIn K (.ref C) "store" = some none) (a__init__:PySem.W.findIn K (.ref C) "__init__" = some (some (.ref f0))) (i__init__:PySem.W.isFn K (.ref f0)=true) (l__init__:K.lookup f0=some ⟨oc0,od0,.func (PySem.W.fnOf "__init__" "Account.__init__" (Zay ZaR) (Zat ZaR) (Zab ZaR) .none kV0 dc0 pm0 an0 cd0 ct0),sl0⟩) (c__init__:PySem.W.codeIn K cd0 "Account.__init__" = true) (k__init__:PySem.W.keepIn K (.ref f0)=true) (aloaded:PySem.W.findIn K (.ref C) "loaded" = some (some (.ref f1))) (iloaded:PySem.W.isFn K (.ref f1)=true) (lloaded:K.lookup f1=some ⟨oc1,od1,.func (PySem.W.fnOf "loaded" "Account.loaded" (Zay ZaZ) (Zat ZaZ) (Zab ZaZ) .none kV1 dc1 pm1 an1 cd1 ct1),sl1⟩) (cloaded:PySem.W.codeIn K cd1 "Account.loaded" = true) (kloaded:PySem.W.keepIn K (.ref f1)=true) (akeep:PySem.W.findIn K (.ref C) "keep" = some (some (.ref f2))) (ikeep:PySem.W.isFn K (.ref f2)=true) (lkeep:K.lookup f2=some ⟨oc2,od2,.func (PySem.W.fnOf "keep" "Account.keep" (Zay Zbe) (Zat Zbe) (Zab Zbe) .none kV2 dc2 pm2 an2 cd2 ct2),sl2⟩) (ckeep:PySem.W.codeIn K cd2 "Account.keep" = true) (kkeep:PySem.W.keepIn K (.ref f2)=true) (aplain:PySem.W.findIn K (.ref C) "plain" = some (some (.ref f3))) (iplain:PySem.W.isFn K (.ref f3)=true) (lplain:K.lookup f3=some ⟨oc3,od3,.func (PySem.W.fnOf "plain" "Account.plain" (Zay Za6) (Zat Za6) (Zab Za6) .none kV3 dc3 pm3 an3 cd3 ct3),sl3⟩) (cplain:PySem.W.codeIn K cd3 "Account.plain" = true) (kplain:PySem.W.keepIn K (.ref f3)=true):∃ C,T_Account K mg C/\Zan K C "__init__" "Account.__init__" ZaR/\Zan K C "loaded" "Account.loaded" ZaZ/\Zan K C "keep" "Account.keep" Zbe/\Zan K C "plain" "Account.plain" Za6 :=
 ⟨C,⟨⟨⟨pg,hd,po,sa⟩,mk,kc,PySem.W.mg_of X G aC⟩,ncoin,npurse,ncount,nprogram,nstore⟩,ZaE a__init__ i__init__ l__init__ c__init__ k__init__,ZaE aloaded iloaded lloaded cloaded kloaded,ZaE akeep ikeep lkeep ckeep kkeep,ZaE aplain iplain lplain cplain kplain⟩
theorem Zot {K:PySem.W.Frag} {h:Heap} {mg:Str->Option Value} {C:Addr} {f0:Addr} {oc0 kV0 dc0 pm0 cd0 ct0:Value} {od0 an0:Option Addr} {sl0:Array (Option Value)} {f1:Addr} {oc1 kV1 dc1 pm1 cd1 ct1:Value} {od1 an1:Option Addr} {sl1:Array (Option Value)} {f2:Addr} {oc2 kV2 dc2 pm2 cd2 ct2:Value} {od2 an2:Option Addr} {sl2:Array (Option Value)} {f3:Addr} {oc3 kV3 dc3 pm3 cd3 ct3:Value} {od3 an3:Option Addr} {sl3:Array (Option Value)} (X:K.In h) (G:h.Ns mainGlobals mg) (aC:PySem.W.nsIn K mainGlobals "Save" = some (some (.ref C))) (pg:PySem.W.plainGet K C Str.empty=true) (hd:PySem.W.hasDictIn K C=true) (po:PySem.W.plainOver K C=true) (sa:PySem.W.findIn K (.ref C) "__setattr__" = some (some (.builtin "object.__setattr__"))) (mk:PySem.W.makesIn K C=true) (kc:PySem.W.keepIn K (.ref C)=true) (nslot:PySem.W.findIn K (.ref C) "slot" = some none) (nplace:PySem.W.findIn K (.ref C) "place" = some none) (nold:PySem.W.findIn K (.ref C) "old" = some none) (nnew:PySem.W.findIn K (.ref C) "new" = some none) (a__init__:PySem.W.findIn K (.ref C) "__init__" = some (some (.ref f0))) (i__init__:PySem.W.isFn K (.ref f0)=true) (l__init__:K.lookup f0=some ⟨oc0,od0,.func (PySem.W.fnOf "__init__" "Save.__init__" (Zay Za7) (Zat Za7) (Zab Za7) .none kV0 dc0 pm0 an0 cd0 ct0),sl0⟩) (c__init__:PySem.W.codeIn K cd0 "Save.__init__" = true) (k__init__:PySem.W.keepIn K (.ref f0)=true) (ado:PySem.W.findIn K (.ref C) "do" = some (some (.ref f1))) (ido:PySem.W.isFn K (.ref f1)=true) (ldo:K.lookup f1=some ⟨oc1,od1,.func (PySem.W.fnOf "do" "Save.do" (Zay ZbY) (Zat ZbY) (Zab ZbY) .none kV1 dc1 pm1 an1 cd1 ct1),sl1⟩) (cdo:PySem.W.codeIn K cd1 "Save.do" = true) (kdo:PySem.W.keepIn K (.ref f1)=true) (aundo:PySem.W.findIn K (.ref C) "undo" = some (some (.ref f2))) (iundo:PySem.W.isFn K (.ref f2)=true) (lundo:K.lookup f2=some ⟨oc2,od2,.func (PySem.W.fnOf "undo" "Save.undo" (Zay ZbA) (Zat ZbA) (Zab ZbA) .none kV2 dc2 pm2 an2 cd2 ct2),sl2⟩) (cundo:PySem.W.codeIn K cd2 "Save.undo" = true) (kundo:PySem.W.keepIn K (.ref f2)=true) (atold:PySem.W.findIn K (.ref C) "told" = some (some (.ref f3))) (itold:PySem.W.isFn K (.ref f3)=true) (ltold:K.lookup f3=some ⟨oc3,od3,.func (PySem.W.fnOf "told" "Save.told" (Zay ZbB) (Zat ZbB) (Zab ZbB) .none kV3 dc3 pm3 an3 cd3 ct3),sl3⟩) (ctold:PySem.W.codeIn K cd3 "Save.told" = true) (ktold:PySem.W.keepIn K (.ref f3)=true):∃ C,T_Save K mg C/\Zan K C "__init__" "Save.__init__" Za7/\Zan K C "do" "Save.do" ZbY/\Zan K C "undo" "Save.undo" ZbA/\Zan K C "told" "Save.told" ZbB :=
 ⟨C,⟨⟨⟨pg,hd,po,sa⟩,mk,kc,PySem.W.mg_of X G aC⟩,nslot,nplace,nold,nnew⟩,ZaE a__init__ i__init__ l__init__ c__init__ k__init__,ZaE ado ido ldo cdo kdo,ZaE aundo iundo lundo cundo kundo,ZaE atold itold ltold ctold ktold⟩
theorem Zou {K:PySem.W.Frag} {h:Heap} {mg:Str->Option Value} {C:Addr} {f0:Addr} {oc0 kV0 dc0 pm0 cd0 ct0:Value} {od0 an0:Option Addr} {sl0:Array (Option Value)} {f1:Addr} {oc1 kV1 dc1 pm1 cd1 ct1:Value} {od1 an1:Option Addr} {sl1:Array (Option Value)} {f2:Addr} {oc2 kV2 dc2 pm2 cd2 ct2:Value} {od2 an2:Option Addr} {sl2:Array (Option Value)} {f3:Addr} {oc3 kV3 dc3 pm3 cd3 ct3:Value} {od3 an3:Option Addr} {sl3:Array (Option Value)} (X:K.In h) (G:h.Ns mainGlobals mg) (aC:PySem.W.nsIn K mainGlobals "Move" = some (some (.ref C))) (pg:PySem.W.plainGet K C Str.empty=true) (hd:PySem.W.hasDictIn K C=true) (po:PySem.W.plainOver K C=true) (sa:PySem.W.findIn K (.ref C) "__setattr__" = some (some (.builtin "object.__setattr__"))) (mk:PySem.W.makesIn K C=true) (kc:PySem.W.keepIn K (.ref C)=true) (nslot:PySem.W.findIn K (.ref C) "slot" = some none) (ntaker:PySem.W.findIn K (.ref C) "taker" = some none) (nmany:PySem.W.findIn K (.ref C) "many" = some none) (a__init__:PySem.W.findIn K (.ref C) "__init__" = some (some (.ref f0))) (i__init__:PySem.W.isFn K (.ref f0)=true) (l__init__:K.lookup f0=some ⟨oc0,od0,.func (PySem.W.fnOf "__init__" "Move.__init__" (Zay Za8) (Zat Za8) (Zab Za8) .none kV0 dc0 pm0 an0 cd0 ct0),sl0⟩) (c__init__:PySem.W.codeIn K cd0 "Move.__init__" = true) (k__init__:PySem.W.keepIn K (.ref f0)=true) (ado:PySem.W.findIn K (.ref C) "do" = some (some (.ref f1))) (ido:PySem.W.isFn K (.ref f1)=true) (ldo:K.lookup f1=some ⟨oc1,od1,.func (PySem.W.fnOf "do" "Move.do" (Zay ZbZ) (Zat ZbZ) (Zab ZbZ) .none kV1 dc1 pm1 an1 cd1 ct1),sl1⟩) (cdo:PySem.W.codeIn K cd1 "Move.do" = true) (kdo:PySem.W.keepIn K (.ref f1)=true) (aundo:PySem.W.findIn K (.ref C) "undo" = some (some (.ref f2))) (iundo:PySem.W.isFn K (.ref f2)=true) (lundo:K.lookup f2=some ⟨oc2,od2,.func (PySem.W.fnOf "undo" "Move.undo" (Zay ZbC) (Zat ZbC) (Zab ZbC) .none kV2 dc2 pm2 an2 cd2 ct2),sl2⟩) (cundo:PySem.W.codeIn K cd2 "Move.undo" = true) (kundo:PySem.W.keepIn K (.ref f2)=true) (atold:PySem.W.findIn K (.ref C) "told" = some (some (.ref f3))) (itold:PySem.W.isFn K (.ref f3)=true) (ltold:K.lookup f3=some ⟨oc3,od3,.func (PySem.W.fnOf "told" "Move.told" (Zay ZbD) (Zat ZbD) (Zab ZbD) .none kV3 dc3 pm3 an3 cd3 ct3),sl3⟩) (ctold:PySem.W.codeIn K cd3 "Move.told" = true) (ktold:PySem.W.keepIn K (.ref f3)=true):∃ C,T_Move K mg C/\Zan K C "__init__" "Move.__init__" Za8/\Zan K C "do" "Move.do" ZbZ/\Zan K C "undo" "Move.undo" ZbC/\Zan K C "told" "Move.told" ZbD :=
 ⟨C,⟨⟨⟨pg,hd,po,sa⟩,mk,kc,PySem.W.mg_of X G aC⟩,nslot,ntaker,nmany⟩,ZaE a__init__ i__init__ l__init__ c__init__ k__init__,ZaE ado ido ldo cdo kdo,ZaE aundo iundo lundo cundo kundo,ZaE atold itold ltold ctold ktold⟩
theorem Zov {K:PySem.W.Frag} {h:Heap} {mg:Str->Option Value} {C:Addr} {f0:Addr} {oc0 kV0 dc0 pm0 cd0 ct0:Value} {od0 an0:Option Addr} {sl0:Array (Option Value)} {f1:Addr} {oc1 kV1 dc1 pm1 cd1 ct1:Value} {od1 an1:Option Addr} {sl1:Array (Option Value)} {f2:Addr} {oc2 kV2 dc2 pm2 cd2 ct2:Value} {od2 an2:Option Addr} {sl2:Array (Option Value)} {f3:Addr} {oc3 kV3 dc3 pm3 cd3 ct3:Value} {od3 an3:Option Addr} {sl3:Array (Option Value)} (X:K.In h) (G:h.Ns mainGlobals mg) (aC:PySem.W.nsIn K mainGlobals "Note" = some (some (.ref C))) (pg:PySem.W.plainGet K C Str.empty=true) (hd:PySem.W.hasDictIn K C=true) (po:PySem.W.plainOver K C=true) (sa:PySem.W.findIn K (.ref C) "__setattr__" = some (some (.builtin "object.__setattr__"))) (mk:PySem.W.makesIn K C=true) (kc:PySem.W.keepIn K (.ref C)=true) (nslot:PySem.W.findIn K (.ref C) "slot" = some none) (nnumber:PySem.W.findIn K (.ref C) "number" = some none) (a__init__:PySem.W.findIn K (.ref C) "__init__" = some (some (.ref f0))) (i__init__:PySem.W.isFn K (.ref f0)=true) (l__init__:K.lookup f0=some ⟨oc0,od0,.func (PySem.W.fnOf "__init__" "Note.__init__" (Zay Za9) (Zat Za9) (Zab Za9) .none kV0 dc0 pm0 an0 cd0 ct0),sl0⟩) (c__init__:PySem.W.codeIn K cd0 "Note.__init__" = true) (k__init__:PySem.W.keepIn K (.ref f0)=true) (atold:PySem.W.findIn K (.ref C) "told" = some (some (.ref f1))) (itold:PySem.W.isFn K (.ref f1)=true) (ltold:K.lookup f1=some ⟨oc1,od1,.func (PySem.W.fnOf "told" "Note.told" (Zay ZbE) (Zat ZbE) (Zab ZbE) .none kV1 dc1 pm1 an1 cd1 ct1),sl1⟩) (ctold:PySem.W.codeIn K cd1 "Note.told" = true) (ktold:PySem.W.keepIn K (.ref f1)=true) (ado:PySem.W.findIn K (.ref C) "do" = some (some (.ref f2))) (ido:PySem.W.isFn K (.ref f2)=true) (ldo:K.lookup f2=some ⟨oc2,od2,.func (PySem.W.fnOf "do" "Deed.do" (Zay Zb0) (Zat Zb0) (Zab Zb0) .none kV2 dc2 pm2 an2 cd2 ct2),sl2⟩) (cdo:PySem.W.codeIn K cd2 "Deed.do" = true) (kdo:PySem.W.keepIn K (.ref f2)=true) (aundo:PySem.W.findIn K (.ref C) "undo" = some (some (.ref f3))) (iundo:PySem.W.isFn K (.ref f3)=true) (lundo:K.lookup f3=some ⟨oc3,od3,.func (PySem.W.fnOf "undo" "Deed.undo" (Zay ZbG) (Zat ZbG) (Zab ZbG) .none kV3 dc3 pm3 an3 cd3 ct3),sl3⟩) (cundo:PySem.W.codeIn K cd3 "Deed.undo" = true) (kundo:PySem.W.keepIn K (.ref f3)=true):∃ C,T_Note K mg C/\Zan K C "__init__" "Note.__init__" Za9/\Zan K C "told" "Note.told" ZbE/\Zan K C "do" "Deed.do" Zb0/\Zan K C "undo" "Deed.undo" ZbG :=
 ⟨C,⟨⟨⟨pg,hd,po,sa⟩,mk,kc,PySem.W.mg_of X G aC⟩,nslot,nnumber⟩,ZaE a__init__ i__init__ l__init__ c__init__ k__init__,ZaE atold itold ltold ctold ktold,ZaE ado ido ldo cdo kdo,ZaE aundo iundo lundo cundo kundo⟩
theorem ZjG {K:PySem.W.Frag} {h:Heap} {mg:Str->Option Value} {C:Addr} {f0:Addr} {oc0 kV0 dc0 pm0 cd0 ct0:Value} {od0 an0:Option Addr} {sl0:Array (Option Value)} {f1:Addr} {oc1 kV1 dc1 pm1 cd1 ct1:Value} {od1 an1:Option Addr} {sl1:Array (Option Value)} {f2:Addr} {oc2 kV2 dc2 pm2 cd2 ct2:Value} {od2 an2:Option Addr} {sl2:Array (Option Value)} {f3:Addr} {oc3 kV3 dc3 pm3 cd3 ct3:Value} {od3 an3:Option Addr} {sl3:Array (Option Value)} {f4:Addr} {oc4 kV4 dc4 pm4 cd4 ct4:Value} {od4 an4:Option Addr} {sl4:Array (Option Value)} (X:K.In h) (G:h.Ns mainGlobals mg) (aC:PySem.W.nsIn K mainGlobals "Journal" = some (some (.ref C))) (pg:PySem.W.plainGet K C Str.empty=true) (hd:PySem.W.hasDictIn K C=true) (po:PySem.W.plainOver K C=true) (sa:PySem.W.findIn K (.ref C) "__setattr__" = some (some (.builtin "object.__setattr__"))) (mk:PySem.W.makesIn K C=true) (kc:PySem.W.keepIn K (.ref C)=true) (nrooms:PySem.W.findIn K (.ref C) "rooms" = some none) (ndeeds:PySem.W.findIn K (.ref C) "deeds" = some none) (a__init__:PySem.W.findIn K (.ref C) "__init__" = some (some (.ref f0))) (i__init__:PySem.W.isFn K (.ref f0)=true) (l__init__:K.lookup f0=some ⟨oc0,od0,.func (PySem.W.fnOf "__init__" "Journal.__init__" (Zay ZaS) (Zat ZaS) (Zab ZaS) .none kV0 dc0 pm0 an0 cd0 ct0),sl0⟩) (c__init__:PySem.W.codeIn K cd0 "Journal.__init__" = true) (k__init__:PySem.W.keepIn K (.ref f0)=true) (awrite:PySem.W.findIn K (.ref C) "write" = some (some (.ref f1))) (iwrite:PySem.W.isFn K (.ref f1)=true) (lwrite:K.lookup f1=some ⟨oc1,od1,.func (PySem.W.fnOf "write" "Journal.write" (Zay Zba) (Zat Zba) (Zab Zba) .none kV1 dc1 pm1 an1 cd1 ct1),sl1⟩) (cwrite:PySem.W.codeIn K cd1 "Journal.write" = true) (kwrite:PySem.W.keepIn K (.ref f1)=true) (amark:PySem.W.findIn K (.ref C) "mark" = some (some (.ref f2))) (imark:PySem.W.isFn K (.ref f2)=true) (lmark:K.lookup f2=some ⟨oc2,od2,.func (PySem.W.fnOf "mark" "Journal.mark" (Zay Zbg) (Zat Zbg) (Zab Zbg) .none kV2 dc2 pm2 an2 cd2 ct2),sl2⟩) (cmark:PySem.W.codeIn K cd2 "Journal.mark" = true) (kmark:PySem.W.keepIn K (.ref f2)=true) (aback:PySem.W.findIn K (.ref C) "back" = some (some (.ref f3))) (iback:PySem.W.isFn K (.ref f3)=true) (lback:K.lookup f3=some ⟨oc3,od3,.func (PySem.W.fnOf "back" "Journal.back" (Zay Zbh) (Zat Zbh) (Zab Zbh) .none kV3 dc3 pm3 an3 cd3 ct3),sl3⟩) (cback:PySem.W.codeIn K cd3 "Journal.back" = true) (kback:PySem.W.keepIn K (.ref f3)=true) (atold:PySem.W.findIn K (.ref C) "told" = some (some (.ref f4))) (itold:PySem.W.isFn K (.ref f4)=true) (ltold:K.lookup f4=some ⟨oc4,od4,.func (PySem.W.fnOf "told" "Journal.told" (Zay Za3) (Zat Za3) (Zab Za3) .none kV4 dc4 pm4 an4 cd4 ct4),sl4⟩) (ctold:PySem.W.codeIn K cd4 "Journal.told" = true) (ktold:PySem.W.keepIn K (.ref f4)=true):∃ C,T_Journal K mg C/\Zan K C "__init__" "Journal.__init__" ZaS/\Zan K C "write" "Journal.write" Zba/\Zan K C "mark" "Journal.mark" Zbg/\Zan K C "back" "Journal.back" Zbh/\Zan K C "told" "Journal.told" Za3 :=
 ⟨C,⟨⟨⟨pg,hd,po,sa⟩,mk,kc,PySem.W.mg_of X G aC⟩,nrooms,ndeeds⟩,ZaE a__init__ i__init__ l__init__ c__init__ k__init__,ZaE awrite iwrite lwrite cwrite kwrite,ZaE amark imark lmark cmark kmark,ZaE aback iback lback cback kback,ZaE atold itold ltold ctold ktold⟩
theorem ZmW {K:PySem.W.Frag} {h:Heap} {mg:Str->Option Value} {C:Addr} {f0:Addr} {oc0 kV0 dc0 pm0 cd0 ct0:Value} {od0 an0:Option Addr} {sl0:Array (Option Value)} {f1:Addr} {oc1 kV1 dc1 pm1 cd1 ct1:Value} {od1 an1:Option Addr} {sl1:Array (Option Value)} {f2:Addr} {oc2 kV2 dc2 pm2 cd2 ct2:Value} {od2 an2:Option Addr} {sl2:Array (Option Value)} {f3:Addr} {oc3 kV3 dc3 pm3 cd3 ct3:Value} {od3 an3:Option Addr} {sl3:Array (Option Value)} {f4:Addr} {oc4 kV4 dc4 pm4 cd4 ct4:Value} {od4 an4:Option Addr} {sl4:Array (Option Value)} {f5:Addr} {oc5 kV5 dc5 pm5 cd5 ct5:Value} {od5 an5:Option Addr} {sl5:Array (Option Value)} {f6:Addr} {oc6 kV6 dc6 pm6 cd6 ct6:Value} {od6 an6:Option Addr} {sl6:Array (Option Value)} (X:K.In h) (G:h.Ns mainGlobals mg) (aC:PySem.W.nsIn K mainGlobals "Frame" = some (some (.ref C))) (pg:PySem.W.plainGet K C Str.empty=true) (hd:PySem.W.hasDictIn K C=true) (po:PySem.W.plainOver K C=true) (sa:PySem.W.findIn K (.ref C) "__setattr__" = some (some (.builtin "object.__setattr__"))) (mk:PySem.W.makesIn K C=true) (kc:PySem.W.keepIn K (.ref C)=true) (nkind:PySem.W.findIn K (.ref C) "kind" = some none) (nwho:PySem.W.findIn K (.ref C) "who" = some none) (nwhose:PySem.W.findIn K (.ref C) "whose" = some none) (ncaller:PySem.W.findIn K (.ref C) "caller" = some none) (ncoin:PySem.W.findIn K (.ref C) "coin" = some none) (nword:PySem.W.findIn K (.ref C) "word" = some none) (ngiven:PySem.W.findIn K (.ref C) "given" = some none) (ndepth:PySem.W.findIn K (.ref C) "depth" = some none) (nlooking:PySem.W.findIn K (.ref C) "looking" = some none) (nused:PySem.W.findIn K (.ref C) "used" = some none) (nstack:PySem.W.findIn K (.ref C) "stack" = some none) (nrow:PySem.W.findIn K (.ref C) "row" = some none) (nsteps:PySem.W.findIn K (.ref C) "steps" = some none) (nend:PySem.W.findIn K (.ref C) "end" = some none) (nanswer:PySem.W.findIn K (.ref C) "answer" = some none) (aleft:PySem.W.findIn K (.ref C) "left" = some (some (.ref f0))) (ileft:PySem.W.isFn K (.ref f0)=true) (lleft:K.lookup f0=some ⟨oc0,od0,.func (PySem.W.fnOf "left" "Frame.left" (Zay Zbo) (Zat Zbo) (Zab Zbo) .none kV0 dc0 pm0 an0 cd0 ct0),sl0⟩) (cleft:PySem.W.codeIn K cd0 "Frame.left" = true) (kleft:PySem.W.keepIn K (.ref f0)=true) (ashort_for:PySem.W.findIn K (.ref C) "short_for" = some (some (.ref f1))) (ishort_for:PySem.W.isFn K (.ref f1)=true) (lshort_for:K.lookup f1=some ⟨oc1,od1,.func (PySem.W.fnOf "short_for" "Frame.short_for" (Zay ZaU) (Zat ZaU) (Zab ZaU) .none kV1 dc1 pm1 an1 cd1 ct1),sl1⟩) (cshort_for:PySem.W.codeIn K cd1 "Frame.short_for" = true) (kshort_for:PySem.W.keepIn K (.ref f1)=true) (afull_behind:PySem.W.findIn K (.ref C) "full_behind" = some (some (.ref f2))) (ifull_behind:PySem.W.isFn K (.ref f2)=true) (lfull_behind:K.lookup f2=some ⟨oc2,od2,.func (PySem.W.fnOf "full_behind" "Frame.full_behind" (Zay ZaQ) (Zat ZaQ) (Zab ZaQ) .none kV2 dc2 pm2 an2 cd2 ct2),sl2⟩) (cfull_behind:PySem.W.codeIn K cd2 "Frame.full_behind" = true) (kfull_behind:PySem.W.keepIn K (.ref f2)=true) (ataken:PySem.W.findIn K (.ref C) "taken" = some (some (.ref f3))) (itaken:PySem.W.isFn K (.ref f3)=true) (ltaken:K.lookup f3=some ⟨oc3,od3,.func (PySem.W.fnOf "taken" "Frame.taken" (Zay Zbm) (Zat Zbm) (Zab Zbm) .none kV3 dc3 pm3 an3 cd3 ct3),sl3⟩) (ctaken:PySem.W.codeIn K cd3 "Frame.taken" = true) (ktaken:PySem.W.keepIn K (.ref f3)=true) (alay:PySem.W.findIn K (.ref C) "lay" = some (some (.ref f4))) (ilay:PySem.W.isFn K (.ref f4)=true) (llay:K.lookup f4=some ⟨oc4,od4,.func (PySem.W.fnOf "lay" "Frame.lay" (Zay ZbF) (Zat ZbF) (Zab ZbF) .none kV4 dc4 pm4 an4 cd4 ct4),sl4⟩) (clay:PySem.W.codeIn K cd4 "Frame.lay" = true) (klay:PySem.W.keepIn K (.ref f4)=true) (afinish:PySem.W.findIn K (.ref C) "finish" = some (some (.ref f5))) (ifinish:PySem.W.isFn K (.ref f5)=true) (lfinish:K.lookup f5=some ⟨oc5,od5,.func (PySem.W.fnOf "finish" "Frame.finish" (Zay Zbf) (Zat Zbf) (Zab Zbf) .none kV5 dc5 pm5 an5 cd5 ct5),sl5⟩) (cfinish:PySem.W.codeIn K cd5 "Frame.finish" = true) (kfinish:PySem.W.keepIn K (.ref f5)=true) (atree:PySem.W.findIn K (.ref C) "tree" = some (some (.ref f6))) (itree:PySem.W.isFn K (.ref f6)=true) (ltree:K.lookup f6=some ⟨oc6,od6,.func (PySem.W.fnOf "tree" "Frame.tree" (Zay Zbp) (Zat Zbp) (Zab Zbp) .none kV6 dc6 pm6 an6 cd6 ct6),sl6⟩) (ctree:PySem.W.codeIn K cd6 "Frame.tree" = true) (ktree:PySem.W.keepIn K (.ref f6)=true):∃ C,T_Frame K mg C/\Zan K C "left" "Frame.left" Zbo/\Zan K C "short_for" "Frame.short_for" ZaU/\Zan K C "full_behind" "Frame.full_behind" ZaQ/\Zan K C "taken" "Frame.taken" Zbm/\Zan K C "lay" "Frame.lay" ZbF/\Zan K C "finish" "Frame.finish" Zbf/\Zan K C "tree" "Frame.tree" Zbp :=
 ⟨C,⟨⟨⟨pg,hd,po,sa⟩,mk,kc,PySem.W.mg_of X G aC⟩,nkind,nwho,nwhose,ncaller,ncoin,nword,ngiven,ndepth,nlooking,nused,nstack,nrow,nsteps,nend,nanswer⟩,ZaE aleft ileft lleft cleft kleft,ZaE ashort_for ishort_for lshort_for cshort_for kshort_for,ZaE afull_behind ifull_behind lfull_behind cfull_behind kfull_behind,ZaE ataken itaken ltaken ctaken ktaken,ZaE alay ilay llay clay klay,ZaE afinish ifinish lfinish cfinish kfinish,ZaE atree itree ltree ctree ktree⟩
end
end My
namespace L2
open PySem PySem.W
theorem ZmX {q:Program} {loose:List Str} {XP:(Str->Option Value)->Heap->Prop} {r:RowW} {d:DefRec} {kwd:List (Str×PySem.Expr)} {run:Value->List Value->Sem Value} {K:Params->Frag} {as:List Addr} {n t:Nat} (e:∀ P,as=(K P).map (·.1))
  (h:WalkO q loose XP (fun w h=>(K w.params).In h) r d kwd run):WalkX q loose XP (X.obsZ as) (X.valZ K n t) r d kwd run :=
 fun w s₀ s₁ mg mb G y a o pm cd doc dV kV h1 h2 h3 h4 h5 h6 args vals as' L=>h w s₀ s₁ mg mb G (InK.keeps w s₀.heap s₁.heap (X.z_facts e y).2.1 (Laid.keeps L)) a o pm cd doc dV kV h1 h2 h3 h4 h5 h6 args vals as'
end L2
open PySem PySem.W PyProof.Rows
local macro_rules|`(tactic| walk_at "vals")=>`(tactic| first
 | exact L2.ZlZ
 | (refine L2.Zl0 ?_;walk_at "vals")
 | (refine L2.Zl1 ?_;walk_at "vals")
 | fail)
namespace PySem.W.Fast
def tw4480129770903749313:=0
def tw6777965776957536175:=0
def tw16879729238580966400:=0
def tw17161418316450522176:=0
def tw1929926394119077984:=0
def tw2478279065294633056:=0
def tw13304303873919125664:=0
def tw1767246596404428960:=0
def tw9752364527847464096:=0
def tw7273323563734168736:=0
def tw15601907842259240128:=0
def tw15470701062680254688:=0
def tw9139611955356584192:=0
def tw10339404270008400288:=0
def tw12927078676848293312:=0
def tw17743196985832628736:=0
def tw5816503748778661472:=0
def tw13713158200429780608:=0
def tw18270928177167574752:=0
def tw11013251084296738528:=0
def tw7797058695622483680:=0
def tw15408457826696610560:=0
def tw18246975164714885888:=0
def tw7184978166790362944:=0
def tw1142539931924271008:=0
def tw16354581250195070912:=0
def tw8255662217701708736:=0
def tw5129170132601164768:=0
def tw1957186728270068704:=0
def tw4644685603358950401:=0
def tw8611711232540870689:=0
def tw2363641900889716865:=0
def tw7570763133716873409:=0
def tw14457481543263313089:=0
def tw16666296687574862049:=0
def tw3862964493659336001:=0
def tw14280825600469454177:=0
def tw4351365996428799361:=0
def tw7045124489797707265:=0
def tw3767836130449062433:=0
def tw12023609527188932161:=0
def tw15285713782526499393:=0
def tw9689796021540139617:=0
def tw3204077677674776161:=0
def tw14859350444058365537:=0
def tw6352872018832448161:=0
def tw15831063737849996961:=0
def tw9064354410832753377:=0
def tw2214216544370753249:=0
def tw16490780024471450369:=0
def tw2418701163774253825:=0
def tw3054881635382803265:=0
def tw15403818741855827873:=0
def tw8654802635704510401:=0
def tw15379524867336498145:=0
def tw17617476670536741890:=0
def tw6945288556269677634:=0
def tw10452322372058315874:=0
def tw10730633207465317506:=0
def tw5330555334300543202:=0
def tw13123846056885356802:=0
def tw8572006928072970530:=0
def tw13159745809766302018:=0
def tw16251977585257390466:=0
def tw13233851190115280290:=0
def tw9799312180545001922:=0
def tw2629471945311250882:=0
def tw7781136369819570690:=0
def tw17452868853621654114:=0
def tw17670936396151588482:=0
def tw18371664432039130818:=0
def tw12291245564238311138:=0
def tw3833394904350033666:=0
def tw17210736872813124354:=0
def tw3322844344589350722:=0
def tw8465323227343087490:=0
def tw10495445154721733538:=0
def tw17874926062506057634:=0
def tw18130130898777825186:=0
def tw5589983037861958594:=0
def tw3252432081726341058:=0
def tw8240516481915895843:=0
def tw9752323460146682915:=0
def tw5826080160617603139:=0
def tw1685614309245823043:=0
def tw10713009043481573443:=0
def tw11458574642221821027:=0
def tw1709838397314115715:=0
def tw3858950045858593955:=0
def tw14643015963061556387:=0
def tw1651517632881323203:=0
def tw16046863889200672035:=0
def tw17239436936825965955:=0
def tw5817164102492444067:=0
def tw10859727114888491459:=0
def tw14930825002518381027:=0
def tw7096650750925719011:=0
def tw1331242209754470915:=0
def tw1088371848468363779:=0
def tw11067394177173213731:=0
def tw2337535108877624899:=0
def tw7144454364041719427:=0
def tw979866785470008995:=0
def tw169760955954181891:=0
def tw16357251886261912355:=0
def tw6303165229701058339:=0
def tw7497469412810347299:=0
def tw12195757084294903587:=0
def tw4183996906290847748:=0
def tw3667163296490223684:=0
def tw3868316466446579812:=0
def tw3329981957385608324:=0
def tw16008832053451511972:=0
def tw8097949836204724452:=0
def tw6075651638827963620:=0
def tw16930563770097268964:=0
def tw9844796917498333476:=0
def tw3547956319910149476:=0
def tw11867282996780910948:=0
def tw11698120050624023940:=0
def tw4717979393191029220:=0
def tw10314486288475013604:=0
def tw10101429615955073572:=0
def tw15558836613904143940:=0
def tw3412759235275304548:=0
def tw12023261735830138468:=0
def tw1808773715831466628:=0
def tw7704000539359186628:=0
def tw10208614742349089476:=0
def tw2803962881337637604:=0
def tw4447352361560356612:=0
def tw9606578683755124484:=0
def tw11264016591285454628:=0
def tw4501357367509136164:=0
def tw15347467163057235780:=0
def tw14711536661632491460:=0
def tw11149118564598244292:=0
def tw12380506337896226788:=0
def tw13952465492760881285:=0
def tw839490589400201381:=0
def tw12448266487416819941:=0
def tw17989208008369698021:=0
def tw1173209922091422981:=0
def tw15327089836956382501:=0
def tw7935857879170484517:=0
def tw11006828210169034053:=0
def tw6110273500781079909:=0
def tw2551379448504141157:=0
def tw3508438688547700101:=0
def tw442399836031588773:=0
def tw9217422153807514021:=0
def tw12421453058496456101:=0
def tw3902056512265483685:=0
def tw14258456966209144325:=0
def tw7048271296716608005:=0
def tw6628513973600684581:=0
def tw7270012749005348389:=0
def tw9135162293629416997:=0
def tw5025081099766656581:=0
def tw2236939388183026309:=0
def tw2413986688170823333:=0
def tw13971890494902112997:=0
def tw17630406628112764709:=0
def tw13342871753387001701:=0
def tw16880580834406809477:=0
def tw11962273523693638533:=0
def tw8126197624030829445:=0
def tw12014416578903665702:=0
def tw17522840908663913510:=0
def tw18189121192344134758:=0
def tw11384557923312661702:=0
def tw16008394688494664902:=0
def tw8838573419703896326:=0
def tw13524173312783138054:=0
def tw17139995782287058182:=0
def tw1795488213563570438:=0
def tw5734394020093426982:=0
def tw12815640369051053414:=0
def tw6563001230104261990:=0
def tw10753593645317912934:=0
def tw4846555715585637734:=0
def tw8485473438180157830:=0
def tw11023888357357904294:=0
def tw9696488381032161766:=0
def tw17101642241598135782:=0
def tw186666548055360998:=0
def tw11208817317166488134:=0
def tw6698407700885219910:=0
def tw13179044699684206150:=0
def tw17258755908638176838:=0
def tw15634770703416616582:=0
def tw17159618899349667462:=0
def tw1297155434175756966:=0
def tw1769631014735130374:=0
def tw9107254430776596326:=0
def tw15334942713248504678:=0
def tw2466112995769747366:=0
def tw15978100528650261478:=0
def tw8982149446650614791:=0
def tw922578613524923463:=0
def tw3314834185795676231:=0
def tw1857770729985289287:=0
def tw17859844153658093671:=0
def tw13297434724646725767:=0
def tw18418592333495384199:=0
def tw7485041535451334823:=0
def tw9928567669988720871:=0
def tw12451762933726017799:=0
def tw7711076129675961639:=0
def tw8058256073315956039:=0
def tw13830501193799649607:=0
def tw11087297885177863527:=0
def tw3104908095118421415:=0
def tw1711030513939198375:=0
def tw9982330335062908327:=0
def tw12546061678051669511:=0
def tw6878034046025215623:=0
def tw6456905409940386471:=0
def tw16585548043422609095:=0
def tw18017395238240012999:=0
def tw3455366082720090919:=0
def tw15491813888899526567:=0
def tw13029286733799020552:=0
def tw17705853378693993512:=0
def tw5214915271631250472:=0
def tw11592889420407983144:=0
def tw17303949648864998472:=0
def tw10197625807871072360:=0
def tw7596519419474593928:=0
def tw10783119940420898024:=0
def tw9606078734779737384:=0
def tw129165068529825064:=0
def tw15731118121968480648:=0
def tw1601672929381008776:=0
def tw13271573441576096136:=0
def tw12903410497306453384:=0
def tw13854414274508395080:=0
def tw4494088925035132520:=0
def tw12142827775421375144:=0
def tw4540466946865226504:=0
def tw10965143532143906568:=0
def tw6014705042056648488:=0
def tw3280116577352461096:=0
def tw7225339240203303720:=0
def tw1022512853009450792:=0
def tw2224971666873993000:=0
def tw15796036919957086024:=0
def tw7729197206219542408:=0
def tw8064113134212446120:=0
def tw11458425177465700328:=0
def tw4628734924289106920:=0
def tw4199412126700367848:=0
def tw2290453043185849417:=0
def tw15549961068098761833:=0
def tw8601236713329509481:=0
def tw12353163676386908297:=0
def tw7303866238727807113:=0
def tw7595450440817253545:=0
def tw5786429552986440937:=0
def tw9894626902682283273:=0
def tw4614560312740358441:=0
def tw16432919333354228009:=0
def tw15910935799920404809:=0
def tw9828269546604117353:=0
def tw6192916387547657609:=0
def tw6371806864457396617:=0
def tw7820451304953896361:=0
def tw1380348371389819337:=0
def tw15966280606040116681:=0
def tw16261070655405023849:=0
def tw11941525805585391241:=0
def tw11494762930479165065:=0
def tw598891610692862633:=0
def tw12178160382497474217:=0
def tw10286631334203905705:=0
def tw7429441853617629865:=0
def tw4517810993719373481:=0
def tw9526812187421229769:=0
def tw8564737073202260681:=0
def tw2604268535595946761:=0
def tw17376595010590711625:=0
def tw712681340324399977:=0
def tw14017665982810102665:=0
def tw7515933899578848169:=0
def tw12391332303662542761:=0
def tw1857027486494523337:=0
def tw5229377551387581385:=0
def tw6063391522446281705:=0
def tw938488549536444393:=0
def tw316216460967999465:=0
def tw2934704331426429002:=0
def tw8003288692054508650:=0
def tw10559096923875260522:=0
def tw9858895276979474570:=0
def tw15562153154681501866:=0
def tw11442711749871333578:=0
def tw14906789800704859370:=0
def tw14295176488985297130:=0
def tw14047905044806591786:=0
def tw17240709093128238378:=0
def tw2859624749075536202:=0
def tw13696852137342447978:=0
def tw6082969412591438218:=0
def tw2161879999306259850:=0
def tw12608370457057461674:=0
def tw13438226645376404906:=0
def tw6245571620467876362:=0
def tw17487822430486774378:=0
def tw964070927079286410:=0
def tw15883139318551126762:=0
def tw7020798296985391914:=0
def tw3808746380874896170:=0
def tw16759238298185901898:=0
def tw558645615042088778:=0
def tw3744135572673089450:=0
def tw1225466334965064682:=0
def tw5407093130447087627:=0
def tw9780293512352747531:=0
def tw14830133351237224491:=0
def tw3401211030778160203:=0
def tw9765308296704165995:=0
def tw7899777415852844171:=0
def tw11528648484940841131:=0
def tw4707349881806431403:=0
def tw10293214670082231499:=0
def tw15725503857321324747:=0
def tw5619448095704982795:=0
def tw18088654184155761931:=0
def tw5662108895640556811:=0
def tw12850859426197248491:=0
def tw2630472507153019371:=0
def tw13521980961641621003:=0
def tw8392279747911007755:=0
def tw2653753745961961035:=0
def tw5498267229339197003:=0
def tw50624154996401771:=0
def tw17832707961419058859:=0
def tw15058198285014363819:=0
def tw12028520996494250699:=0
def tw17454299220618687179:=0
def tw8291368634325382955:=0
def tw8773355600696540971:=0
def tw10689950130852111211:=0
def tw3545295231582174059:=0
def tw1604132688235900811:=0
def tw6843882433263299467:=0
def tw14766511260740438955:=0
def tw4449484432200762380:=0
def tw6836317298381819980:=0
def tw14681442982130483308:=0
def tw6597948400097299660:=0
def tw15363631252543017164:=0
def tw13569100351146325196:=0
def tw7806384517817075948:=0
def tw18249175487883070732:=0
def tw15249122807769911756:=0
def tw16505313365461154284:=0
def tw18063765506531782124:=0
def tw3541810437218770508:=0
def tw6972631498355258988:=0
def tw6459796700961781388:=0
def tw9776954219022827180:=0
def tw799832137153185548:=0
def tw5044370630641157964:=0
def tw17297008475979609996:=0
def tw17133186014315877292:=0
def tw1074859208258230188:=0
def tw15955837915306584012:=0
def tw2025320500293054412:=0
def tw7369346251950768205:=0
def tw5200688472931836013:=0
def tw17667826275475886221:=0
def tw7853156697223190669:=0
def tw1553718043164969197:=0
def tw16754221633258659085:=0
def tw3995357388386641165:=0
def tw6039468093633141069:=0
def tw1065207790908899693:=0
def tw14071752918282960237:=0
def tw17901000241274184077:=0
def tw17972377898948816269:=0
def tw5102856570581124525:=0
def tw15024372383648875949:=0
def tw5150008978546692557:=0
def tw6433673418568816077:=0
def tw15210100872242082317:=0
def tw10030246690306473485:=0
def tw15636392101448433197:=0
def tw11481902789975552621:=0
def tw3745472473737383533:=0
def tw11897644982147312237:=0
def tw15269220437775895373:=0
def tw8240154923892312941:=0
def tw17438813360277756781:=0
def tw9285451292179185517:=0
def tw7079229872804715437:=0
def tw15866666995881318381:=0
def tw5191197186752233486:=0
def tw12473044061624814638:=0
def tw6618743736851711054:=0
def tw9226282188010809422:=0
def tw262561200858654830:=0
def tw16215253365796725934:=0
def tw6238813050757284078:=0
def tw15131367294658122990:=0
def tw3712891086640553230:=0
def tw15711310232933115342:=0
def tw13697943083155324398:=0
def tw15487180313018184206:=0
def tw14066621341718753806:=0
def tw15244299594689844782:=0
def tw264540241969851950:=0
def tw13215841201982435918:=0
def tw10584413892217011790:=0
def tw7019511445342688878:=0
def tw3066974400317782702:=0
def tw11371463704183586542:=0
def tw5410290604604089070:=0
def tw6496359667120250638:=0
def tw331846019428505390:=0
def tw4325155357680116558:=0
def tw11780864246949549934:=0
def tw13534801518620969870:=0
def tw10977955066462065550:=0
def tw12583416110049657871:=0
def tw17465567949849033775:=0
def tw9906301185992342607:=0
def tw8343415396122332271:=0
def tw8885362524622599311:=0
def tw11784369773498744079:=0
def tw9955463691805775279:=0
def tw10179876693736605135:=0
def tw9344045126640783823:=0
def tw9969889440667530767:=0
def tw9348958938043747887:=0
def tw9464054689053418095:=0
def tw13052620554844157551:=0
def tw11915529334106771055:=0
def tw14305726828635262607:=0
def tw1958189389701453455:=0
def tw6471131966930966191:=0
def tw262156043587285679:=0
def tw4902537009974012623:=0
def tw834236587222968047:=0
def tw1190089627254202159:=0
def tw17785760377708323631:=0
def tw10423262615731528495:=0
def tw8282089121146895151:=0
def tw7974667933093028687:=0
def tw8880920569024414575:=0
def tw5371069078872673135:=0
def tw12433760251077922703:=0
def tw8243402970093515663:=0
def tw3995448592225872879:=0
def tw2220689527314161647:=0
def tw18158138486463612944:=0
def tw8598554593088870448:=0
def tw1896524074365173872:=0
def tw10361710988979422320:=0
def tw8127368159819109520:=0
def tw14246046131697681552:=0
def tw13228231227893935280:=0
def tw4811147796851274928:=0
def tw15910463056980402384:=0
def tw6345366534714729712:=0
def tw7299538882418483472:=0
def tw7471516808589265200:=0
def tw10721655748164101520:=0
def tw11811603364339137936:=0
def tw3437890035395620240:=0
def tw6655433325365113264:=0
def tw17241820629116075472:=0
def tw1038890808666861200:=0
def tw3012026371246422704:=0
def tw1190983713238916816:=0
def tw7632981308269663024:=0
def tw1602175585675999024:=0
def tw12608688012337058640:=0
def tw9307004010193145712:=0
def tw12304894459677580176:=0
def tw11045630808275445680:=0
def tw4413845389049732048:=0
def tw12199278609632214000:=0
def tw11452013823372049585:=0
def tw6282955288434983089:=0
def tw6879764527690621105:=0
def tw17476572153147118865:=0
def tw2254063076344382737:=0
def tw14260483780076501297:=0
def tw12283370810253855025:=0
def tw5715597507313547601:=0
def tw6405798941835855217:=0
def tw14298836674965620113:=0
def tw10926357774132488593:=0
def tw16514330552257165745:=0
def tw4598360577881340465:=0
def tw10022973702075136593:=0
def tw4475853763922419281:=0
def tw8423524092918602385:=0
def tw2928813866520620721:=0
def tw1883851839503343313:=0
def tw9955271056024871633:=0
def tw11137899996286372625:=0
def tw17943057350569428817:=0
def tw12033204311473324913:=0
def tw10935770414592824177:=0
def tw5467946477699437457:=0
def tw10538714002924341169:=0
def tw2740885196912566225:=0
def tw9067413639437358065:=0
def tw12565038299424924690:=0
def tw7298324743070220338:=0
def tw3187681802127204402:=0
def tw11637409281945341010:=0
def tw11771753341317687378:=0
def tw18290778103350675538:=0
def tw17695391274870109330:=0
def tw3065961008815392946:=0
def tw13376335964391015602:=0
def tw11942253144867507442:=0
def tw7988327595796435186:=0
def tw3489597201235619058:=0
def tw1209766884698808562:=0
def tw15910937571962260786:=0
def tw8866921947679824178:=0
def tw4457972343420827954:=0
def tw6769760202577106226:=0
def tw10724296083011607954:=0
def tw9184791031143248306:=0
def tw1578952382692893138:=0
def tw7050255362156960242:=0
def tw5325660369389687314:=0
def tw5690099073603275314:=0
def tw9022624915173715506:=0
def tw11248152318104649298:=0
def tw6732078079304172178:=0
def tw12076980801300619922:=0
def tw3324349557761395378:=0
def tw8973679630667132658:=0
def tw15195999908134462290:=0
def tw10386997083972384690:=0
def tw12024859848321686579:=0
def tw4815412710876136531:=0
def tw12162431311516404947:=0
def tw13034499950985765139:=0
def tw2589383393755599155:=0
def tw4754805544027407795:=0
def tw11866914757443175859:=0
def tw6772594849930691027:=0
def tw650327616149035507:=0
def tw2232796809686622739:=0
def tw18197081821141380627:=0
def tw13824226018010801715:=0
def tw13603582005621823027:=0
def tw10443487213619885651:=0
def tw5032122410812423763:=0
def tw13297432544407537395:=0
def tw5392429641789710067:=0
def tw11086098342743065363:=0
def tw11178266396988917587:=0
def tw2723769741822457715:=0
def tw6474511598456735699:=0
def tw5790974718099173331:=0
def tw15526336725060020211:=0
def tw9496591203212315732:=0
def tw4424379314298642516:=0
def tw10742122350745965716:=0
def tw9471718202627243188:=0
def tw15726693138939149588:=0
def tw521352412493629812:=0
def tw12105962133212444052:=0
def tw5090754304548584852:=0
def tw17321504371478740404:=0
def tw1206488417526890964:=0
def tw18327571737116405204:=0
def tw374692038859331060:=0
def tw9394795466975535604:=0
def tw17233730656446636532:=0
def tw12064905127043853844:=0
def tw11260960056869434900:=0
def tw15288853327622015540:=0
def tw85147162421399156:=0
def tw11774884732115109492:=0
def tw3809341353968918164:=0
def tw16129796367745325780:=0
def tw9567599690611304212:=0
def tw13371470662223357876:=0
def tw4465453544545681461:=0
def tw3713748543451463765:=0
def tw2677011271247926357:=0
def tw5587624297007071317:=0
def tw18210415922872828021:=0
def tw2821916203778697365:=0
def tw544377755331414197:=0
def tw15978997143625776373:=0
def tw2431908970240277:=0
def tw16873827208893446421:=0
def tw9761737646776510773:=0
def tw3852744203498996053:=0
def tw6690602779244152181:=0
def tw16504067460293007765:=0
def tw10318254924387111317:=0
def tw8809602893433009557:=0
def tw3375856569079665077:=0
def tw14344335427130826197:=0
def tw349399277926126069:=0
def tw4816416845136601589:=0
def tw1978856494200013333:=0
def tw15024525893464078965:=0
def tw12363246566481560213:=0
def tw15248332515117506197:=0
def tw183531486588786389:=0
def tw3601153361780329173:=0
def tw11027323764198048501:=0
def tw11769277560844629749:=0
def tw14971576202363889429:=0
def tw5272884816502967061:=0
def tw16502835466453145365:=0
def tw9851403504928692021:=0
def tw5366298901650426741:=0
def tw8486631198514610037:=0
def tw2950976139990144981:=0
def tw10428855891773223893:=0
def tw17048784834528666678:=0
def tw142469650488539190:=0
def tw10174269221666886742:=0
def tw1267273728898572374:=0
def tw9924193450632595574:=0
def tw13091488149127455926:=0
def tw14807426800357531830:=0
def tw2149229046557653206:=0
def tw12814287996772240630:=0
def tw686530282742096150:=0
def tw16135197523444082998:=0
def tw11657789252221191478:=0
def tw510489519017490774:=0
def tw1385684897104373110:=0
def tw2292508855544835446:=0
def tw14646949905874769302:=0
def tw2903518249570251286:=0
def tw15961176278146066070:=0
def tw15734927201684462230:=0
def tw18210893612510595766:=0
def tw14505910382369685174:=0
def tw10896509331634904822:=0
def tw5997033320736474870:=0
def tw7851658913683493718:=0
def tw6387084704720895830:=0
def tw243977654182681494:=0
def tw14427060405787122614:=0
def tw14111909507429624822:=0
def tw17168618093465055222:=0
def tw12476491352512989207:=0
def tw15405412623220258903:=0
def tw17055853496221079671:=0
def tw5777815024091603095:=0
def tw5369839785404367031:=0
def tw9165999516778155191:=0
def tw113257029161456887:=0
def tw1340982589530641655:=0
def tw16578899419034539319:=0
def tw11624628918090993015:=0
def tw8100790573256969719:=0
def tw7254057363039343127:=0
def tw14773404870345311831:=0
def tw4342299093577685591:=0
def tw2382359456689630871:=0
def tw7442352312154806935:=0
def tw8205030345818942135:=0
def tw8602990983517821719:=0
def tw8881486299031137047:=0
def tw9241955195718107927:=0
def tw916085775672690487:=0
def tw5632601472349395767:=0
def tw16899728760288128855:=0
def tw5594946716922940279:=0
def tw16392206697088962455:=0
def tw680967009556662167:=0
def tw12564046413432782775:=0
def tw3606877862446494679:=0
def tw9031507526675169239:=0
def tw15728775404791518199:=0
def tw13032372655743410200:=0
def tw15910003691550172312:=0
def tw9234720898875581624:=0
def tw7200485452189756600:=0
def tw6939112222961749208:=0
def tw12048281076789933272:=0
def tw15813274296049343736:=0
def tw7588201452131836152:=0
def tw5840391864702490968:=0
def tw15111327378481738168:=0
def tw2206806449275555416:=0
def tw9899837572993415800:=0
def tw17531997762747203192:=0
def tw14726551760851184280:=0
def tw13946883956410418872:=0
def tw7413389619936219896:=0
def tw12288700013787122456:=0
def tw107316520273126200:=0
def tw18104515049741218616:=0
def tw2436495802120277848:=0
def tw12313917696672799608:=0
def tw16332956428862270328:=0
def tw9019130752280279960:=0
def tw1753771504806480824:=0
def tw7648503964742909944:=0
def tw11256514448038607864:=0
def tw13441564368515249177:=0
def tw11269853216167772185:=0
def tw18194245596423456857:=0
def tw3719754439267136697:=0
def tw10115510140065874265:=0
def tw12550433270724176281:=0
def tw5253483283087366585:=0
def tw7443192532524112345:=0
def tw5175766113692777945:=0
def tw613484157922458105:=0
def tw529846376447560185:=0
def tw1560892063425848857:=0
def tw6526953794141258361:=0
def tw16617045130421799545:=0
def tw14805242525421642393:=0
def tw818396720589261625:=0
def tw16502104962215803769:=0
def tw13917845942280900505:=0
def tw16483577479940444089:=0
def tw17086786526318183385:=0
def tw12456918967795141593:=0
def tw4352225258032899130:=0
def tw17853523540956467258:=0
def tw11620418399944048762:=0
def tw11215338568780571770:=0
def tw4204472394441837754:=0
def tw11750202140399755450:=0
def tw11559926813827607770:=0
def tw1994492574412549370:=0
def tw11021765138941894010:=0
def tw11271936787940276634:=0
def tw257509492964051354:=0
def tw10981615236546831930:=0
def tw10633344829685086778:=0
def tw14585678927369914938:=0
def tw17819642612861691450:=0
def tw3381755326550552154:=0
def tw261744274385717882:=0
def tw4336463346747532922:=0
def tw2127718197276016282:=0
def tw5025575072149594810:=0
def tw5085691088367007450:=0
def tw16171591659746834138:=0
def tw6825722590616604410:=0
def tw8898879963075769082:=0
def tw1352116904737803034:=0
def tw15287167584755477274:=0
def tw3670638122370308922:=0
def tw6171031561272125242:=0
def tw18365610423822863226:=0
def tw17774743131819479962:=0
def tw6015493169860354970:=0
def tw17067284318690035610:=0
def tw16723926326588601242:=0
def tw10098680402982453242:=0
def tw15152843892327571547:=0
def tw15088964381644730555:=0
def tw7459124791246376155:=0
def tw10454848835915696347:=0
def tw6892599778305941755:=0
def tw2652609202941435163:=0
def tw16171146129988844859:=0
def tw576596371432118715:=0
def tw9627338560850606523:=0
def tw17039748915665483291:=0
def tw4492648719691855387:=0
def tw14819766146776991291:=0
def tw1679604196115327547:=0
def tw13200534670043250299:=0
def tw10835809067366001339:=0
def tw14172547298873646843:=0
def tw10391193714795983611:=0
def tw872098537267254011:=0
def tw10651491367845433115:=0
def tw17148766164237970331:=0
def tw18034165909248092091:=0
def tw9673568641429914587:=0
def tw4366008230507795484:=0
def tw11122065730993683516:=0
def tw6725673519062132828:=0
def tw16737697558309441692:=0
def tw4771838630053801244:=0
def tw9042131630937294172:=0
def tw17260632373815701948:=0
def tw10168529037335809564:=0
def tw8521611584833327708:=0
def tw653214283128588924:=0
def tw14631669772516963964:=0
def tw10630385072002911964:=0
def tw1226862140171476700:=0
def tw9895613112092062428:=0
def tw14818718759624788732:=0
def tw4088281543731975964:=0
def tw2038153908662332188:=0
def tw10907113756646221692:=0
def tw6623018504576912252:=0
def tw17019131278692858876:=0
def tw677935612503305277:=0
def tw3134299517209047101:=0
def tw77986350462961757:=0
def tw9166872489157969021:=0
def tw2850985116066988189:=0
def tw127089626953903261:=0
def tw5401457016765250717:=0
def tw17996358603019402461:=0
def tw8799414316248372477:=0
def tw11738015039011961085:=0
def tw3502153900538325277:=0
def tw10102727545730692381:=0
def tw9871340891484728733:=0
def tw5353408712780378525:=0
def tw348855937177020861:=0
def tw8505583433205838269:=0
def tw17652744597704654301:=0
def tw5884642094199743997:=0
def tw3767028092497671677:=0
def tw16385648317172849245:=0
def tw10910166541180303997:=0
def tw2540196474456972925:=0
def tw9396680621814805149:=0
def tw13162483709967642301:=0
def tw6030861866104638173:=0
def tw3348185002935038717:=0
def tw3025877221645283101:=0
def tw5844909344969484125:=0
def tw10320302813644874621:=0
def tw398935529487171517:=0
def tw517115320938863581:=0
def tw8514402988679617501:=0
def tw14344854255840425949:=0
def tw11106732619195211806:=0
def tw14164450456878195774:=0
def tw4160926288725715006:=0
def tw15069248875900483646:=0
def tw7339588481831488574:=0
def tw5735466691775541342:=0
def tw15523461938891592798:=0
def tw2740067896066854046:=0
def tw15739239079679152382:=0
def tw12953444111325246718:=0
def tw3661576665171441982:=0
def tw17106828326441757086:=0
def tw5262009766696505758:=0
def tw8525220353100545470:=0
def tw3319174940488487454:=0
def tw13816629995038992926:=0
def tw2111726588818555486:=0
def tw15170541345479160478:=0
def tw16770448618310743710:=0
def tw11723903905468813982:=0
def tw11769198732546190014:=0
def tw15593603076907846334:=0
def tw9421008825676823230:=0
def tw15634545135595000542:=0
def tw5529280246391476958:=0
def tw16775958835559498558:=0
def tw16598697442395094846:=0
def tw18287219605611980638:=0
def tw10434103622840631166:=0
def tw938888789468062:=0
def tw3752635111104194462:=0
def tw12601704742073298846:=0
def tw18112842860756173758:=0
def tw1218476131276790750:=0
def tw15673801503950116862:=0
def tw6366176375976814623:=0
def tw9616417374176721983:=0
def tw5977449384879995007:=0
def tw5435657535421141119:=0
def tw3837720237567539359:=0
def tw8706180935743933631:=0
def tw15725526895408129215:=0
def tw17311216875186699455:=0
def tw14025446523240227039:=0
def tw15997687970279563519:=0
def tw5194935203133843711:=0
def tw8381250762162308383:=0
def tw2011165375308491071:=0
def tw13837426633516953951:=0
def tw11213100184455791103:=0
def tw11495281603176581663:=0
def tw4463022682855833119:=0
def tw4722463787484482111:=0
def tw1510625707532293695:=0
def tw17662214469133719135:=0
def tw3249875799029867103:=0
def tw9831667536581821055:=0
def tw16813367391198912127:=0
def tw8276879523090777727:=0
def tw13879895536973102751:=0
def tw300110515157753535:=0
def tw17731244829486188255:=0
def tw13456147121027102495:=0
def tw17267791624070346623:=0
def tw14917493919035732895:=0
def tw10111690587433476095:=0
def tw14925997706562684927:=0
end PySem.W.Fast
set_option maxRecDepth 100000 in
set_option maxHeartbeats 0 in
theorem PySem.Challenge.cw_meterhouse_k37_whole_look_changes_nothin_holds : PySem.Challenge.rw_meterhouse_k37_whole_look_changes_nothin.Holds := by
 w_on;o_law;z_head;(case hw=>w_witness2)
 k_fill
 refine L2.ZmX (fun _=>by kernel_rfl) ?_
 refine L2.ZlS (l:=PySem.Challenge.rw_meterhouse_k37_whole_look_changes_nothin) (n:=63) (k:=50) (x := "_law_script") (CX:=L2.CX0) (sp:=My.spLaw) rfl (by decide) rfl ⟨rfl,by decide,by decide⟩ (fun w h Y=>Y) ?F ?S ?C
 case F =>
  intro w mg fa h KX G hmg
  have D_added:L2.Zao (L2.KOf KX) mg "added" My.ZhP:=by
   dsimp only [L2.KOf]
   refine' L2.Zal KX G ?a ?l ?c ?k
   (case a=>k_is);(case l=>k_is);(case c=>k_is);(case k=>k_is)
  have D_lessened:L2.Zao (L2.KOf KX) mg "lessened" My.Zdu:=by
   dsimp only [L2.KOf]
   refine' L2.Zal KX G ?a ?l ?c ?k
   (case a=>k_is);(case l=>k_is);(case c=>k_is);(case k=>k_is)
  have D_multiplied:L2.Zao (L2.KOf KX) mg "multiplied" My.Zcw:=by
   dsimp only [L2.KOf]
   refine' L2.Zal KX G ?a ?l ?c ?k
   (case a=>k_is);(case l=>k_is);(case c=>k_is);(case k=>k_is)
  have D_contained:L2.Zao (L2.KOf KX) mg "contained" My.ZcZ:=by
   dsimp only [L2.KOf]
   refine' L2.Zal KX G ?a ?l ?c ?k
   (case a=>k_is);(case l=>k_is);(case c=>k_is);(case k=>k_is)
  have D_left_over:L2.Zao (L2.KOf KX) mg "left_over" My.Zc0:=by
   dsimp only [L2.KOf]
   refine' L2.Zal KX G ?a ?l ?c ?k
   (case a=>k_is);(case l=>k_is);(case c=>k_is);(case k=>k_is)
  have D_is_below:L2.Zao (L2.KOf KX) mg "is_below" My.Zdv:=by
   dsimp only [L2.KOf]
   refine' L2.Zal KX G ?a ?l ?c ?k
   (case a=>k_is);(case l=>k_is);(case c=>k_is);(case k=>k_is)
  have D_is_same:L2.Zao (L2.KOf KX) mg "is_same" My.Zez:=by
   dsimp only [L2.KOf]
   refine' L2.Zal KX G ?a ?l ?c ?k
   (case a=>k_is);(case l=>k_is);(case c=>k_is);(case k=>k_is)
  have D_in_both:L2.Zao (L2.KOf KX) mg "in_both" My.ZeA:=by
   dsimp only [L2.KOf]
   refine' L2.Zal KX G ?a ?l ?c ?k
   (case a=>k_is);(case l=>k_is);(case c=>k_is);(case k=>k_is)
  have D_in_either:L2.Zao (L2.KOf KX) mg "in_either" My.Zc1:=by
   dsimp only [L2.KOf]
   refine' L2.Zal KX G ?a ?l ?c ?k
   (case a=>k_is);(case l=>k_is);(case c=>k_is);(case k=>k_is)
  have D_in_just_one:L2.Zao (L2.KOf KX) mg "in_just_one" My.Zcf:=by
   dsimp only [L2.KOf]
   refine' L2.Zal KX G ?a ?l ?c ?k
   (case a=>k_is);(case l=>k_is);(case c=>k_is);(case k=>k_is)
  have D_doubled:L2.Zao (L2.KOf KX) mg "doubled" My.ZeB:=by
   dsimp only [L2.KOf]
   refine' L2.Zal KX G ?a ?l ?c ?k
   (case a=>k_is);(case l=>k_is);(case c=>k_is);(case k=>k_is)
  have D_halved:L2.Zao (L2.KOf KX) mg "halved" My.ZfF:=by
   dsimp only [L2.KOf]
   refine' L2.Zal KX G ?a ?l ?c ?k
   (case a=>k_is);(case l=>k_is);(case c=>k_is);(case k=>k_is)
  have D_reckon:L2.Zao (L2.KOf KX) mg "reckon" My.ZfG:=by
   dsimp only [L2.KOf]
   refine' L2.Zal KX G ?a ?l ?c ?k
   (case a=>k_is);(case l=>k_is);(case c=>k_is);(case k=>k_is)
  have D_reach:L2.Zao (L2.KOf KX) mg "reach" My.ZhM:=by
   dsimp only [L2.KOf]
   refine' L2.Zal KX G ?a ?l ?c ?k
   (case a=>k_is);(case l=>k_is);(case c=>k_is);(case k=>k_is)
  have D_takes:L2.Zao (L2.KOf KX) mg "takes" My.ZhN:=by
   dsimp only [L2.KOf]
   refine' L2.Zal KX G ?a ?l ?c ?k
   (case a=>k_is);(case l=>k_is);(case c=>k_is);(case k=>k_is)
  have D_leaves:L2.Zao (L2.KOf KX) mg "leaves" My.ZfE:=by
   dsimp only [L2.KOf]
   refine' L2.Zal KX G ?a ?l ?c ?k
   (case a=>k_is);(case l=>k_is);(case c=>k_is);(case k=>k_is)
  have D_row_numbers:L2.Zao (L2.KOf KX) mg "row_numbers" My.Zce:=by
   dsimp only [L2.KOf]
   refine' L2.Zal KX G ?a ?l ?c ?k
   (case a=>k_is);(case l=>k_is);(case c=>k_is);(case k=>k_is)
  have D_shift_coin:L2.Zao (L2.KOf KX) mg "shift_coin" My.Zcv:=by
   dsimp only [L2.KOf]
   refine' L2.Zal KX G ?a ?l ?c ?k
   (case a=>k_is);(case l=>k_is);(case c=>k_is);(case k=>k_is)
  have D_push_row:L2.Zao (L2.KOf KX) mg "push_row" My.Zdw:=by
   dsimp only [L2.KOf]
   refine' L2.Zal KX G ?a ?l ?c ?k
   (case a=>k_is);(case l=>k_is);(case c=>k_is);(case k=>k_is)
  have D_drop_row:L2.Zao (L2.KOf KX) mg "drop_row" My.Zdx:=by
   dsimp only [L2.KOf]
   refine' L2.Zal KX G ?a ?l ?c ?k
   (case a=>k_is);(case l=>k_is);(case c=>k_is);(case k=>k_is)
  have D_copy_row:L2.Zao (L2.KOf KX) mg "copy_row" My.Zdy:=by
   dsimp only [L2.KOf]
   refine' L2.Zal KX G ?a ?l ?c ?k
   (case a=>k_is);(case l=>k_is);(case c=>k_is);(case k=>k_is)
  have D_swap_row:L2.Zao (L2.KOf KX) mg "swap_row" My.Zdz:=by
   dsimp only [L2.KOf]
   refine' L2.Zal KX G ?a ?l ?c ?k
   (case a=>k_is);(case l=>k_is);(case c=>k_is);(case k=>k_is)
  have D_reckon_row:L2.Zao (L2.KOf KX) mg "reckon_row" My.Zcy:=by
   dsimp only [L2.KOf]
   refine' L2.Zal KX G ?a ?l ?c ?k
   (case a=>k_is);(case l=>k_is);(case c=>k_is);(case k=>k_is)
  have D_jump_row:L2.Zao (L2.KOf KX) mg "jump_row" My.ZdA:=by
   dsimp only [L2.KOf]
   refine' L2.Zal KX G ?a ?l ?c ?k
   (case a=>k_is);(case l=>k_is);(case c=>k_is);(case k=>k_is)
  have D_jumpif_row:L2.Zao (L2.KOf KX) mg "jumpif_row" My.Zcz:=by
   dsimp only [L2.KOf]
   refine' L2.Zal KX G ?a ?l ?c ?k
   (case a=>k_is);(case l=>k_is);(case c=>k_is);(case k=>k_is)
  have D_me_row:L2.Zao (L2.KOf KX) mg "me_row" My.ZfH:=by
   dsimp only [L2.KOf]
   refine' L2.Zal KX G ?a ?l ?c ?k
   (case a=>k_is);(case l=>k_is);(case c=>k_is);(case k=>k_is)
  have D_from_row:L2.Zao (L2.KOf KX) mg "from_row" My.ZdD:=by
   dsimp only [L2.KOf]
   refine' L2.Zal KX G ?a ?l ?c ?k
   (case a=>k_is);(case l=>k_is);(case c=>k_is);(case k=>k_is)
  have D_sent_row:L2.Zao (L2.KOf KX) mg "sent_row" My.ZdE:=by
   dsimp only [L2.KOf]
   refine' L2.Zal KX G ?a ?l ?c ?k
   (case a=>k_is);(case l=>k_is);(case c=>k_is);(case k=>k_is)
  have D_word_row:L2.Zao (L2.KOf KX) mg "word_row" My.ZdF:=by
   dsimp only [L2.KOf]
   refine' L2.Zal KX G ?a ?l ?c ?k
   (case a=>k_is);(case l=>k_is);(case c=>k_is);(case k=>k_is)
  have D_give_row:L2.Zao (L2.KOf KX) mg "give_row" My.ZdI:=by
   dsimp only [L2.KOf]
   refine' L2.Zal KX G ?a ?l ?c ?k
   (case a=>k_is);(case l=>k_is);(case c=>k_is);(case k=>k_is)
  have D_fail_row:L2.Zao (L2.KOf KX) mg "fail_row" My.ZdJ:=by
   dsimp only [L2.KOf]
   refine' L2.Zal KX G ?a ?l ?c ?k
   (case a=>k_is);(case l=>k_is);(case c=>k_is);(case k=>k_is)
  have D_brings_coin:L2.Zao (L2.KOf KX) mg "brings_coin" My.Zcg:=by
   dsimp only [L2.KOf]
   refine' L2.Zal KX G ?a ?l ?c ?k
   (case a=>k_is);(case l=>k_is);(case c=>k_is);(case k=>k_is)
  have D_fills_place:L2.Zao (L2.KOf KX) mg "fills_place" My.Zch:=by
   dsimp only [L2.KOf]
   refine' L2.Zal KX G ?a ?l ?c ?k
   (case a=>k_is);(case l=>k_is);(case c=>k_is);(case k=>k_is)
  have D_row_price:L2.Zao (L2.KOf KX) mg "row_price" My.Zc2:=by
   dsimp only [L2.KOf]
   refine' L2.Zal KX G ?a ?l ?c ?k
   (case a=>k_is);(case l=>k_is);(case c=>k_is);(case k=>k_is)
  have D_is_barred:L2.Zao (L2.KOf KX) mg "is_barred" My.Zc3:=by
   dsimp only [L2.KOf]
   refine' L2.Zal KX G ?a ?l ?c ?k
   (case a=>k_is);(case l=>k_is);(case c=>k_is);(case k=>k_is)
  have D_end_ahead_of:L2.Zao (L2.KOf KX) mg "end_ahead_of" My.Zb6:=by
   dsimp only [L2.KOf]
   refine' L2.Zal KX G ?a ?l ?c ?k
   (case a=>k_is);(case l=>k_is);(case c=>k_is);(case k=>k_is)
  have D_write_step:L2.Zao (L2.KOf KX) mg "write_step" My.Zcx:=by
   dsimp only [L2.KOf]
   refine' L2.Zal KX G ?a ?l ?c ?k
   (case a=>k_is);(case l=>k_is);(case c=>k_is);(case k=>k_is)
  have D_account_at:L2.Zao (L2.KOf KX) mg "account_at" My.Zcu:=by
   dsimp only [L2.KOf]
   refine' L2.Zal KX G ?a ?l ?c ?k
   (case a=>k_is);(case l=>k_is);(case c=>k_is);(case k=>k_is)
  have D_load_row:L2.Zao (L2.KOf KX) mg "load_row" My.ZdB:=by
   dsimp only [L2.KOf]
   refine' L2.Zal KX G ?a ?l ?c ?k
   (case a=>k_is);(case l=>k_is);(case c=>k_is);(case k=>k_is)
  have D_coin_row:L2.Zao (L2.KOf KX) mg "coin_row" My.ZdG:=by
   dsimp only [L2.KOf]
   refine' L2.Zal KX G ?a ?l ?c ?k
   (case a=>k_is);(case l=>k_is);(case c=>k_is);(case k=>k_is)
  have D_save_row:L2.Zao (L2.KOf KX) mg "save_row" My.ZdC:=by
   dsimp only [L2.KOf]
   refine' L2.Zal KX G ?a ?l ?c ?k
   (case a=>k_is);(case l=>k_is);(case c=>k_is);(case k=>k_is)
  have D_note_row:L2.Zao (L2.KOf KX) mg "note_row" My.ZdH:=by
   dsimp only [L2.KOf]
   refine' L2.Zal KX G ?a ?l ?c ?k
   (case a=>k_is);(case l=>k_is);(case c=>k_is);(case k=>k_is)
  have D_do_row:L2.Zao (L2.KOf KX) mg "do_row" My.ZfI:=by
   dsimp only [L2.KOf]
   refine' L2.Zal KX G ?a ?l ?c ?k
   (case a=>k_is);(case l=>k_is);(case c=>k_is);(case k=>k_is)
  have D_other_call:L2.Zao (L2.KOf KX) mg "other_call" My.ZcA:=by
   dsimp only [L2.KOf]
   refine' L2.Zal KX G ?a ?l ?c ?k
   (case a=>k_is);(case l=>k_is);(case c=>k_is);(case k=>k_is)
  have D_end_ahead_of_call:L2.Zao (L2.KOf KX) mg "end_ahead_of_call" My.Zbz:=by
   dsimp only [L2.KOf]
   refine' L2.Zal KX G ?a ?l ?c ?k
   (case a=>k_is);(case l=>k_is);(case c=>k_is);(case k=>k_is)
  have D_call_row:L2.Zao (L2.KOf KX) mg "call_row" My.ZcM:=by
   dsimp only [L2.KOf]
   refine' L2.Zal KX G ?a ?l ?c ?k
   (case a=>k_is);(case l=>k_is);(case c=>k_is);(case k=>k_is)
  have D_go_row:L2.Zao (L2.KOf KX) mg "go_row" My.Zd8:=by
   dsimp only [L2.KOf]
   refine' L2.Zal KX G ?a ?l ?c ?k
   (case a=>k_is);(case l=>k_is);(case c=>k_is);(case k=>k_is)
  have D_go_on:L2.Zao (L2.KOf KX) mg "go_on" My.ZfJ:=by
   dsimp only [L2.KOf]
   refine' L2.Zal KX G ?a ?l ?c ?k
   (case a=>k_is);(case l=>k_is);(case c=>k_is);(case k=>k_is)
  have D_go:L2.Zao (L2.KOf KX) mg "go" My.s_go:=by
   dsimp only [L2.KOf]
   refine' L2.Zal KX G ?a ?l ?c ?k
   (case a=>k_is);(case l=>k_is);(case c=>k_is);(case k=>k_is)
  have D_enter:L2.Zao (L2.KOf KX) mg "enter" My.ZhQ:=by
   dsimp only [L2.KOf]
   refine' L2.Zal KX G ?a ?l ?c ?k
   (case a=>k_is);(case l=>k_is);(case c=>k_is);(case k=>k_is)
  have D_Lcell_at:L2.Zao (L2.KOf KX) mg "_law_cell_at" My.ZdK:=by
   dsimp only [L2.KOf]
   refine' L2.Zal KX G ?a ?l ?c ?k
   (case a=>k_is);(case l=>k_is);(case c=>k_is);(case k=>k_is)
  have D_Lsum_word:L2.Zao (L2.KOf KX) mg "_law_sum_word" My.Zc4:=by
   dsimp only [L2.KOf]
   refine' L2.Zal KX G ?a ?l ?c ?k
   (case a=>k_is);(case l=>k_is);(case c=>k_is);(case k=>k_is)
  have D_Lodd_rows:L2.Zao (L2.KOf KX) mg "_law_odd_rows" My.Zc5:=by
   dsimp only [L2.KOf]
   refine' L2.Zal KX G ?a ?l ?c ?k
   (case a=>k_is);(case l=>k_is);(case c=>k_is);(case k=>k_is)
  have D_Lasking:L2.Zao (L2.KOf KX) mg "_law_asking" My.ZeC:=by
   dsimp only [L2.KOf]
   refine' L2.Zal KX G ?a ?l ?c ?k
   (case a=>k_is);(case l=>k_is);(case c=>k_is);(case k=>k_is)
  have D_Lsnippet:L2.Zao (L2.KOf KX) mg "_law_snippet" My.ZdL:=by
   dsimp only [L2.KOf]
   refine' L2.Zal KX G ?a ?l ?c ?k
   (case a=>k_is);(case l=>k_is);(case c=>k_is);(case k=>k_is)
  have D_Lprograms:L2.Zao (L2.KOf KX) mg "_law_programs" My.Zc6:=by
   dsimp only [L2.KOf]
   refine' L2.Zal KX G ?a ?l ?c ?k
   (case a=>k_is);(case l=>k_is);(case c=>k_is);(case k=>k_is)
  have D_Lwhole:L2.Zao (L2.KOf KX) mg "_law_whole" My.ZfK:=by
   dsimp only [L2.KOf]
   refine' L2.Zal KX G ?a ?l ?c ?k
   (case a=>k_is);(case l=>k_is);(case c=>k_is);(case k=>k_is)
  have D_Lstill:L2.Zao (L2.KOf KX) mg "_law_still" My.Zdj:=by
   dsimp only [L2.KOf]
   refine' L2.Zal KX G ?a ?l ?c ?k
   (case a=>k_is);(case l=>k_is);(case c=>k_is);(case k=>k_is)
  have D_Lrooms:L2.Zao (L2.KOf KX) mg "_law_rooms" My.Zd9:=by
   dsimp only [L2.KOf]
   refine' L2.Zal KX G ?a ?l ?c ?k
   (case a=>k_is);(case l=>k_is);(case c=>k_is);(case k=>k_is)
  have D_law:L2.Zao (L2.KOf KX) mg "law" My.Zjm:=by
   dsimp only [L2.KOf]
   refine' L2.Zal KX G ?a ?l ?c ?k
   (case a=>k_is);(case l=>k_is);(case c=>k_is);(case k=>k_is)
  have x_Account:∃ C,My.T_Account (L2.KOf KX) mg C/\L2.Zan (L2.KOf KX) C "__init__" "Account.__init__" My.ZaR/\L2.Zan (L2.KOf KX) C "loaded" "Account.loaded" My.ZaZ/\L2.Zan (L2.KOf KX) C "keep" "Account.keep" My.Zbe/\L2.Zan (L2.KOf KX) C "plain" "Account.plain" My.Za6:=by
   dsimp only [L2.KOf]
   refine' My.ZjF KX G ?aC ?pg ?hd ?po ?sa ?mk ?kc ?ncoin ?npurse ?ncount ?nprogram ?nstore ?a__init__ ?i__init__ ?l__init__ ?c__init__ ?k__init__ ?aloaded ?iloaded ?lloaded ?cloaded ?kloaded ?akeep ?ikeep ?lkeep ?ckeep ?kkeep ?aplain ?iplain ?lplain ?cplain ?kplain
   (case aC=>k_is);(case pg=>k_is);(case hd=>k_is);(case po=>k_is);(case sa=>k_is);(case mk=>k_is);(case kc=>k_is);(case ncoin=>k_is);(case npurse=>k_is);(case ncount=>k_is);(case nprogram=>k_is);(case nstore=>k_is);(case a__init__=>k_is);(case i__init__=>k_is);(case l__init__=>k_is);(case c__init__=>k_is);(case k__init__=>k_is);(case aloaded=>k_is);(case iloaded=>k_is);(case lloaded=>k_is);(case cloaded=>k_is);(case kloaded=>k_is);(case akeep=>k_is);(case ikeep=>k_is);(case lkeep=>k_is);(case ckeep=>k_is);(case kkeep=>k_is);(case aplain=>k_is);(case iplain=>k_is);(case lplain=>k_is);(case cplain=>k_is);(case kplain=>k_is)
  obtain ⟨cAccount,tAccount,D_Account___init__,D_Account_loaded,D_Account_keep,D_Account_plain⟩:=x_Account
  have x_Save:∃ C,My.T_Save (L2.KOf KX) mg C/\L2.Zan (L2.KOf KX) C "__init__" "Save.__init__" My.Za7/\L2.Zan (L2.KOf KX) C "do" "Save.do" My.ZbY/\L2.Zan (L2.KOf KX) C "undo" "Save.undo" My.ZbA/\L2.Zan (L2.KOf KX) C "told" "Save.told" My.ZbB:=by
   dsimp only [L2.KOf]
   refine' My.Zot KX G ?aC ?pg ?hd ?po ?sa ?mk ?kc ?nslot ?nplace ?nold ?nnew ?a__init__ ?i__init__ ?l__init__ ?c__init__ ?k__init__ ?ado ?ido ?ldo ?cdo ?kdo ?aundo ?iundo ?lundo ?cundo ?kundo ?atold ?itold ?ltold ?ctold ?ktold
   (case aC=>k_is);(case pg=>k_is);(case hd=>k_is);(case po=>k_is);(case sa=>k_is);(case mk=>k_is);(case kc=>k_is);(case nslot=>k_is);(case nplace=>k_is);(case nold=>k_is);(case nnew=>k_is);(case a__init__=>k_is);(case i__init__=>k_is);(case l__init__=>k_is);(case c__init__=>k_is);(case k__init__=>k_is);(case ado=>k_is);(case ido=>k_is);(case ldo=>k_is);(case cdo=>k_is);(case kdo=>k_is);(case aundo=>k_is);(case iundo=>k_is);(case lundo=>k_is);(case cundo=>k_is);(case kundo=>k_is);(case atold=>k_is);(case itold=>k_is);(case ltold=>k_is);(case ctold=>k_is);(case ktold=>k_is)
  obtain ⟨cSave,tSave,D_Save___init__,D_Save_do,D_Save_undo,D_Save_told⟩:=x_Save
  have x_Move:∃ C,My.T_Move (L2.KOf KX) mg C/\L2.Zan (L2.KOf KX) C "__init__" "Move.__init__" My.Za8/\L2.Zan (L2.KOf KX) C "do" "Move.do" My.ZbZ/\L2.Zan (L2.KOf KX) C "undo" "Move.undo" My.ZbC/\L2.Zan (L2.KOf KX) C "told" "Move.told" My.ZbD:=by
   dsimp only [L2.KOf]
   refine' My.Zou KX G ?aC ?pg ?hd ?po ?sa ?mk ?kc ?nslot ?ntaker ?nmany ?a__init__ ?i__init__ ?l__init__ ?c__init__ ?k__init__ ?ado ?ido ?ldo ?cdo ?kdo ?aundo ?iundo ?lundo ?cundo ?kundo ?atold ?itold ?ltold ?ctold ?ktold
   (case aC=>k_is);(case pg=>k_is);(case hd=>k_is);(case po=>k_is);(case sa=>k_is);(case mk=>k_is);(case kc=>k_is);(case nslot=>k_is);(case ntaker=>k_is);(case nmany=>k_is);(case a__init__=>k_is);(case i__init__=>k_is);(case l__init__=>k_is);(case c__init__=>k_is);(case k__init__=>k_is);(case ado=>k_is);(case ido=>k_is);(case ldo=>k_is);(case cdo=>k_is);(case kdo=>k_is);(case aundo=>k_is);(case iundo=>k_is);(case lundo=>k_is);(case cundo=>k_is);(case kundo=>k_is);(case atold=>k_is);(case itold=>k_is);(case ltold=>k_is);(case ctold=>k_is);(case ktold=>k_is)
  obtain ⟨cMove,tMove,D_Move___init__,D_Move_do,D_Move_undo,D_Move_told⟩:=x_Move
  have x_Note:∃ C,My.T_Note (L2.KOf KX) mg C/\L2.Zan (L2.KOf KX) C "__init__" "Note.__init__" My.Za9/\L2.Zan (L2.KOf KX) C "told" "Note.told" My.ZbE/\L2.Zan (L2.KOf KX) C "do" "Deed.do" My.Zb0/\L2.Zan (L2.KOf KX) C "undo" "Deed.undo" My.ZbG:=by
   dsimp only [L2.KOf]
   refine' My.Zov KX G ?aC ?pg ?hd ?po ?sa ?mk ?kc ?nslot ?nnumber ?a__init__ ?i__init__ ?l__init__ ?c__init__ ?k__init__ ?atold ?itold ?ltold ?ctold ?ktold ?ado ?ido ?ldo ?cdo ?kdo ?aundo ?iundo ?lundo ?cundo ?kundo
   (case aC=>k_is);(case pg=>k_is);(case hd=>k_is);(case po=>k_is);(case sa=>k_is);(case mk=>k_is);(case kc=>k_is);(case nslot=>k_is);(case nnumber=>k_is);(case a__init__=>k_is);(case i__init__=>k_is);(case l__init__=>k_is);(case c__init__=>k_is);(case k__init__=>k_is);(case atold=>k_is);(case itold=>k_is);(case ltold=>k_is);(case ctold=>k_is);(case ktold=>k_is);(case ado=>k_is);(case ido=>k_is);(case ldo=>k_is);(case cdo=>k_is);(case kdo=>k_is);(case aundo=>k_is);(case iundo=>k_is);(case lundo=>k_is);(case cundo=>k_is);(case kundo=>k_is)
  obtain ⟨cNote,tNote,D_Note___init__,D_Note_told,D_Note_do,D_Note_undo⟩:=x_Note
  have x_Journal:∃ C,My.T_Journal (L2.KOf KX) mg C/\L2.Zan (L2.KOf KX) C "__init__" "Journal.__init__" My.ZaS/\L2.Zan (L2.KOf KX) C "write" "Journal.write" My.Zba/\L2.Zan (L2.KOf KX) C "mark" "Journal.mark" My.Zbg/\L2.Zan (L2.KOf KX) C "back" "Journal.back" My.Zbh/\L2.Zan (L2.KOf KX) C "told" "Journal.told" My.Za3:=by
   dsimp only [L2.KOf]
   refine' My.ZjG KX G ?aC ?pg ?hd ?po ?sa ?mk ?kc ?nrooms ?ndeeds ?a__init__ ?i__init__ ?l__init__ ?c__init__ ?k__init__ ?awrite ?iwrite ?lwrite ?cwrite ?kwrite ?amark ?imark ?lmark ?cmark ?kmark ?aback ?iback ?lback ?cback ?kback ?atold ?itold ?ltold ?ctold ?ktold
   (case aC=>k_is);(case pg=>k_is);(case hd=>k_is);(case po=>k_is);(case sa=>k_is);(case mk=>k_is);(case kc=>k_is);(case nrooms=>k_is);(case ndeeds=>k_is);(case a__init__=>k_is);(case i__init__=>k_is);(case l__init__=>k_is);(case c__init__=>k_is);(case k__init__=>k_is);(case awrite=>k_is);(case iwrite=>k_is);(case lwrite=>k_is);(case cwrite=>k_is);(case kwrite=>k_is);(case amark=>k_is);(case imark=>k_is);(case lmark=>k_is);(case cmark=>k_is);(case kmark=>k_is);(case aback=>k_is);(case iback=>k_is);(case lback=>k_is);(case cback=>k_is);(case kback=>k_is);(case atold=>k_is);(case itold=>k_is);(case ltold=>k_is);(case ctold=>k_is);(case ktold=>k_is)
  obtain ⟨cJournal,tJournal,D_Journal___init__,D_Journal_write,D_Journal_mark,D_Journal_back,D_Journal_told⟩:=x_Journal
  have x_Frame:∃ C,My.T_Frame (L2.KOf KX) mg C/\L2.Zan (L2.KOf KX) C "left" "Frame.left" My.Zbo/\L2.Zan (L2.KOf KX) C "short_for" "Frame.short_for" My.ZaU/\L2.Zan (L2.KOf KX) C "full_behind" "Frame.full_behind" My.ZaQ/\L2.Zan (L2.KOf KX) C "taken" "Frame.taken" My.Zbm/\L2.Zan (L2.KOf KX) C "lay" "Frame.lay" My.ZbF/\L2.Zan (L2.KOf KX) C "finish" "Frame.finish" My.Zbf/\L2.Zan (L2.KOf KX) C "tree" "Frame.tree" My.Zbp:=by
   dsimp only [L2.KOf]
   refine' My.ZmW KX G ?aC ?pg ?hd ?po ?sa ?mk ?kc ?nkind ?nwho ?nwhose ?ncaller ?ncoin ?nword ?ngiven ?ndepth ?nlooking ?nused ?nstack ?nrow ?nsteps ?nend ?nanswer ?aleft ?ileft ?lleft ?cleft ?kleft ?ashort_for ?ishort_for ?lshort_for ?cshort_for ?kshort_for ?afull_behind ?ifull_behind ?lfull_behind ?cfull_behind ?kfull_behind ?ataken ?itaken ?ltaken ?ctaken ?ktaken ?alay ?ilay ?llay ?clay ?klay ?afinish ?ifinish ?lfinish ?cfinish ?kfinish ?atree ?itree ?ltree ?ctree ?ktree
   (case aC=>k_is);(case pg=>k_is);(case hd=>k_is);(case po=>k_is);(case sa=>k_is);(case mk=>k_is);(case kc=>k_is);(case nkind=>k_is);(case nwho=>k_is);(case nwhose=>k_is);(case ncaller=>k_is);(case ncoin=>k_is);(case nword=>k_is);(case ngiven=>k_is);(case ndepth=>k_is);(case nlooking=>k_is);(case nused=>k_is);(case nstack=>k_is);(case nrow=>k_is);(case nsteps=>k_is);(case nend=>k_is);(case nanswer=>k_is);(case aleft=>k_is);(case ileft=>k_is);(case lleft=>k_is);(case cleft=>k_is);(case kleft=>k_is);(case ashort_for=>k_is);(case ishort_for=>k_is);(case lshort_for=>k_is);(case cshort_for=>k_is);(case kshort_for=>k_is);(case afull_behind=>k_is);(case ifull_behind=>k_is);(case lfull_behind=>k_is);(case cfull_behind=>k_is);(case kfull_behind=>k_is);(case ataken=>k_is);(case itaken=>k_is);(case ltaken=>k_is);(case ctaken=>k_is);(case ktaken=>k_is);(case alay=>k_is);(case ilay=>k_is);(case llay=>k_is);(case clay=>k_is);(case klay=>k_is);(case afinish=>k_is);(case ifinish=>k_is);(case lfinish=>k_is);(case cfinish=>k_is);(case kfinish=>k_is);(case atree=>k_is);(case itree=>k_is);(case ltree=>k_is);(case ctree=>k_is);(case ktree=>k_is)
  obtain ⟨cFrame,tFrame,D_Frame_left,D_Frame_short_for,D_Frame_full_behind,D_Frame_taken,D_Frame_lay,D_Frame_finish,D_Frame_tree⟩:=x_Frame
  have n_max:mg "max" = none:=by
   refine' PySem.W.mg_none_of KX G ?a
   (case a=>k_is)
  have n_len:mg "len" = none:=by
   refine' PySem.W.mg_none_of KX G ?a
   (case a=>k_is)
  have n_list:mg "list" = none:=by
   refine' PySem.W.mg_none_of KX G ?a
   (case a=>k_is)
  have n_sorted:mg "sorted" = none:=by
   refine' PySem.W.mg_none_of KX G ?a
   (case a=>k_is)
  have n_range:mg "range" = none:=by
   refine' PySem.W.mg_none_of KX G ?a
   (case a=>k_is)
  have n_reversed:mg "reversed" = none:=by
   refine' PySem.W.mg_none_of KX G ?a
   (case a=>k_is)
  have n_min:mg "min" = none:=by
   refine' PySem.W.mg_none_of KX G ?a
   (case a=>k_is)
  have n_isinstance:mg "isinstance" = none:=by
   refine' PySem.W.mg_none_of KX G ?a
   (case a=>k_is)
  have n_int:mg "int" = none:=by
   refine' PySem.W.mg_none_of KX G ?a
   (case a=>k_is)
  have n_bool:mg "bool" = none:=by
   refine' PySem.W.mg_none_of KX G ?a
   (case a=>k_is)
  have n_tuple:mg "tuple" = none:=by
   refine' PySem.W.mg_none_of KX G ?a
   (case a=>k_is)
  have g_WIDE:L2.ZaW mg "WIDE" (.int 18446744073709551616):=by
   refine' L2.ZcK KX G ?a
   (case a=>k_is)
  have g_FIGURES:L2.ZaW mg "FIGURES" (.int 64):=by
   refine' L2.ZcK KX G ?a
   (case a=>k_is)
  have g_MOST_ON_STACK:L2.ZaW mg "MOST_ON_STACK" (.int 24):=by
   refine' L2.ZcK KX G ?a
   (case a=>k_is)
  have g_MOST_CALLS:L2.ZaW mg "MOST_CALLS" (.int 8):=by
   refine' L2.ZcK KX G ?a
   (case a=>k_is)
  have D_price:L2.Zkq (L2.KOf KX) mg "price" My.ZhO #[.bool false]:=by
   dsimp only [L2.KOf]
   refine' L2.Zkr KX G ?a ?l ?c ?k ?d
   (case a=>k_is);(case l=>k_is);(case c=>k_is);(case k=>k_is);(case d=>k_is)
  have RR:∃ aT:Addr,L2.ZaW mg "ROWS" (.ref aT)/\My.ZgS PySem.Challenge.rw_meterhouse_k37_whole_look_changes_nothin.prog w (L2.KOf KX) aT:=by
   dsimp only [L2.KOf]
   refine' My.Zor KX G ?a ?l ?e1 ?e2 ?e3 ?t1 ?t2 ?t3 ?t4 ?t5 ?t6 ?t7 ?t8 ?t9 ?t10 ?t11 ?t12 ?t13 ?t14 ?t15 ?t16 ?t17 ?t18 ?t19 ?t20 ?t21 ?t22 ?t23 ?t24 ?t25 ?t26 ?t27 ?t28 ?t29 ?t30 ?t31
   (case a=>k_is);(case l=>k_is);(case e1=>rfl);(case e2=>rfl);(case e3=>rfl)
   case t1 =>
    refine' L2.ZaP ?l ?v ?z
    (case l=>k_is);(case v=>walk_at "vals");(case z=>decide)
   case t2 =>
    refine' L2.ZaP ?l ?v ?z
    (case l=>k_is);(case v=>walk_at "vals");(case z=>decide)
   case t3 =>
    refine' L2.ZaP ?l ?v ?z
    (case l=>k_is);(case v=>walk_at "vals");(case z=>decide)
   case t4 =>
    refine' L2.ZaP ?l ?v ?z
    (case l=>k_is);(case v=>walk_at "vals");(case z=>decide)
   case t5 =>
    refine' L2.ZaP ?l ?v ?z
    (case l=>k_is);(case v=>walk_at "vals");(case z=>decide)
   case t6 =>
    refine' L2.ZaP ?l ?v ?z
    (case l=>k_is);(case v=>walk_at "vals");(case z=>decide)
   case t7 =>
    refine' L2.ZaP ?l ?v ?z
    (case l=>k_is);(case v=>walk_at "vals");(case z=>decide)
   case t8 =>
    refine' L2.ZaP ?l ?v ?z
    (case l=>k_is);(case v=>walk_at "vals");(case z=>decide)
   case t9 =>
    refine' L2.ZaP ?l ?v ?z
    (case l=>k_is);(case v=>walk_at "vals");(case z=>decide)
   case t10 =>
    refine' L2.ZaP ?l ?v ?z
    (case l=>k_is);(case v=>walk_at "vals");(case z=>decide)
   case t11 =>
    refine' L2.ZaP ?l ?v ?z
    (case l=>k_is);(case v=>walk_at "vals");(case z=>decide)
   case t12 =>
    refine' L2.ZaP ?l ?v ?z
    (case l=>k_is);(case v=>walk_at "vals");(case z=>decide)
   case t13 =>
    refine' L2.ZaP ?l ?v ?z
    (case l=>k_is);(case v=>walk_at "vals");(case z=>decide)
   case t14 =>
    refine' L2.ZaP ?l ?v ?z
    (case l=>k_is);(case v=>walk_at "vals");(case z=>decide)
   case t15 =>
    refine' L2.ZaP ?l ?v ?z
    (case l=>k_is);(case v=>walk_at "vals");(case z=>decide)
   case t16 =>
    refine' L2.ZaP ?l ?v ?z
    (case l=>k_is);(case v=>walk_at "vals");(case z=>decide)
   case t17 =>
    refine' L2.ZaP ?l ?v ?z
    (case l=>k_is);(case v=>walk_at "vals");(case z=>decide)
   case t18 =>
    refine' L2.ZaP ?l ?v ?z
    (case l=>k_is);(case v=>walk_at "vals");(case z=>decide)
   case t19 =>
    refine' L2.ZaP ?l ?v ?z
    (case l=>k_is);(case v=>walk_at "vals");(case z=>decide)
   case t20 =>
    refine' L2.ZaP ?l ?v ?z
    (case l=>k_is);(case v=>walk_at "vals");(case z=>decide)
   case t21 =>
    refine' L2.ZaP ?l ?v ?z
    (case l=>k_is);(case v=>walk_at "vals");(case z=>decide)
   case t22 =>
    refine' L2.ZaP ?l ?v ?z
    (case l=>k_is);(case v=>walk_at "vals");(case z=>decide)
   case t23 =>
    refine' L2.ZaP ?l ?v ?z
    (case l=>k_is);(case v=>walk_at "vals");(case z=>decide)
   case t24 =>
    refine' L2.ZaP ?l ?v ?z
    (case l=>k_is);(case v=>walk_at "vals");(case z=>decide)
   case t25 =>
    refine' L2.ZaP ?l ?v ?z
    (case l=>k_is);(case v=>walk_at "vals");(case z=>decide)
   case t26 =>
    refine' L2.ZaP ?l ?v ?z
    (case l=>k_is);(case v=>walk_at "vals");(case z=>decide)
   case t27 =>
    refine' L2.ZaP ?l ?v ?z
    (case l=>k_is);(case v=>walk_at "vals");(case z=>decide)
   case t28 =>
    refine' L2.ZaP ?l ?v ?z
    (case l=>k_is);(case v=>walk_at "vals");(case z=>decide)
   case t29 =>
    refine' L2.ZaP ?l ?v ?z
    (case l=>k_is);(case v=>walk_at "vals");(case z=>decide)
   case t30 =>
    refine' L2.ZaP ?l ?v ?z
    (case l=>k_is);(case v=>walk_at "vals");(case z=>decide)
   case t31 =>
    refine' L2.ZaP ?l ?v ?z
    (case l=>k_is);(case v=>walk_at "vals");(case z=>decide)
  obtain ⟨aT,g_ROWS,rok⟩:=RR
  have S1:∃ (aS:Addr) (u1 u2 u3 u4 u5 u6 u7 u8 u9 u10 u11 u12:Value),L2.ZaW mg "SUMS" (.ref aS)/\L2.Zdg PySem.Challenge.rw_meterhouse_k37_whole_look_changes_nothin.prog w (L2.KOf KX) aS [(Sum.inr "add", u1),(Sum.inr "minus", u2),(Sum.inr "times", u3),(Sum.inr "over", u4),(Sum.inr "rest", u5),(Sum.inr "below", u6),(Sum.inr "same", u7),(Sum.inr "both", u8),(Sum.inr "either", u9),(Sum.inr "unlike", u10),(Sum.inr "up", u11),(Sum.inr "down", u12)]/\mg "added" = some u1/\mg "lessened" = some u2/\mg "multiplied" = some u3/\mg "contained" = some u4/\mg "left_over" = some u5/\mg "is_below" = some u6/\mg "is_same" = some u7/\mg "in_both" = some u8/\mg "in_either" = some u9/\mg "in_just_one" = some u10/\mg "doubled" = some u11/\mg "halved" = some u12:=by
   dsimp only [L2.KOf]
   refine' My.Zos KX G ?a ?l ?e1 ?e2 ?e3 ?m1 ?m2 ?m3 ?m4 ?m5 ?m6 ?m7 ?m8 ?m9 ?m10 ?m11 ?m12
   (case a=>k_is);(case l=>k_is);(case e1=>rfl);(case e2=>rfl);(case e3=>rfl)
   (case m1=>k_is);(case m2=>k_is);(case m3=>k_is);(case m4=>k_is);(case m5=>k_is);(case m6=>k_is);(case m7=>k_is);(case m8=>k_is);(case m9=>k_is);(case m10=>k_is);(case m11=>k_is);(case m12=>k_is)
  obtain ⟨aS,u1,u2,u3,u4,u5,u6,u7,u8,u9,u10,u11,u12,g_SUMS,dk,m1,m2,m3,m4,m5,m6,m7,m8,m9,m10,m11,m12⟩:=S1
  have DO1:∃ (aD:Addr) (u1 u2 u3 u4 u5 u6 u7 u8 u9 u10 u11 u12 u13 u14 u15 u16 u17:Value),L2.ZaW mg "DOINGS" (.ref aD)/\L2.Zdg PySem.Challenge.rw_meterhouse_k37_whole_look_changes_nothin.prog w (L2.KOf KX) aD [(Sum.inr "push", u1),(Sum.inr "drop", u2),(Sum.inr "copy", u3),(Sum.inr "swap", u4),(Sum.inr "add", u5),(Sum.inr "minus", u5),(Sum.inr "times", u5),(Sum.inr "over", u5),(Sum.inr "rest", u5),(Sum.inr "below", u5),(Sum.inr "same", u5),(Sum.inr "both", u5),(Sum.inr "either", u5),(Sum.inr "unlike", u5),(Sum.inr "up", u5),(Sum.inr "down", u5),(Sum.inr "jump", u6),(Sum.inr "jumpif", u7),(Sum.inr "load", u8),(Sum.inr "save", u9),(Sum.inr "me", u10),(Sum.inr "from", u11),(Sum.inr "sent", u12),(Sum.inr "word", u13),(Sum.inr "coin", u14),(Sum.inr "note", u15),(Sum.inr "give", u16),(Sum.inr "fail", u17)]/\mg "push_row" = some u1/\mg "drop_row" = some u2/\mg "copy_row" = some u3/\mg "swap_row" = some u4/\mg "reckon_row" = some u5/\mg "jump_row" = some u6/\mg "jumpif_row" = some u7/\mg "load_row" = some u8/\mg "save_row" = some u9/\mg "me_row" = some u10/\mg "from_row" = some u11/\mg "sent_row" = some u12/\mg "word_row" = some u13/\mg "coin_row" = some u14/\mg "note_row" = some u15/\mg "give_row" = some u16/\mg "fail_row" = some u17:=by
   dsimp only [L2.KOf]
   refine' My.do_at KX G ?a ?l ?e1 ?e2 ?e3 ?m_push_row ?m_drop_row ?m_copy_row ?m_swap_row ?m_reckon_row ?m_jump_row ?m_jumpif_row ?m_load_row ?m_save_row ?m_me_row ?m_from_row ?m_sent_row ?m_word_row ?m_coin_row ?m_note_row ?m_give_row ?m_fail_row
   (case a=>k_is);(case l=>k_is);(case e1=>rfl);(case e2=>rfl);(case e3=>rfl)
   (case m_push_row=>k_is);(case m_drop_row=>k_is);(case m_copy_row=>k_is);(case m_swap_row=>k_is);(case m_reckon_row=>k_is);(case m_jump_row=>k_is);(case m_jumpif_row=>k_is);(case m_load_row=>k_is);(case m_save_row=>k_is);(case m_me_row=>k_is);(case m_from_row=>k_is);(case m_sent_row=>k_is);(case m_word_row=>k_is);(case m_coin_row=>k_is);(case m_note_row=>k_is);(case m_give_row=>k_is);(case m_fail_row=>k_is)
  obtain ⟨aD,u1,u2,u3,u4,u5,u6,u7,u8,u9,u10,u11,u12,u13,u14,u15,u16,u17,g_DOINGS,dkD,m_push_row,m_drop_row,m_copy_row,m_swap_row,m_reckon_row,m_jump_row,m_jumpif_row,m_load_row,m_save_row,m_me_row,m_from_row,m_sent_row,m_word_row,m_coin_row,m_note_row,m_give_row,m_fail_row⟩:=DO1
  have T_REACHING:∃ a,L2.ZaW mg "REACHING" (.ref a)/\L2.TupK (L2.KOf KX) a ((["copy", "swap"]:List PySem.Str).map L2.V.str):=by
   dsimp only [L2.KOf]
   refine' L2.Zkp KX G ?a ?l ?v ?z
   (case a=>k_is);(case l=>k_is);(case v=>walk_at "vals");(case z=>decide)
  obtain ⟨a_REACHING,g_REACHING,t_REACHING⟩:=T_REACHING
  have T_CALLING:∃ a,L2.ZaW mg "CALLING" (.ref a)/\L2.TupK (L2.KOf KX) a ((["call", "borrow", "look"]:List PySem.Str).map L2.V.str):=by
   dsimp only [L2.KOf]
   refine' L2.Zkp KX G ?a ?l ?v ?z
   (case a=>k_is);(case l=>k_is);(case v=>walk_at "vals");(case z=>decide)
  obtain ⟨a_CALLING,g_CALLING,t_CALLING⟩:=T_CALLING
  have x_FI:∃ C tok,mg "Frame" = some (.ref C)/\L2.Zct (L2.KOf KX) C "__init__" "Frame.__init__" My.ZaC #[.int 1 tok,.bool false]:=by
   dsimp only [L2.KOf]
   refine' My.mkFI KX G ?aC ?a ?i ?l ?c ?k ?d
   (case aC=>k_is);(case a=>k_is);(case i=>k_is);(case l=>k_is);(case c=>k_is);(case k=>k_is);(case d=>k_is)
  have y_FI:∃ tok,L2.Zct (L2.KOf KX) cFrame "__init__" "Frame.__init__" My.ZaC #[.int 1 tok,.bool false]:=by
   obtain ⟨C,tok,e1,q⟩:=x_FI
   have h1:=tFrame.k.mgC
   rw [e1] at h1
   cases h1
   exact ⟨tok,q⟩
  obtain ⟨tokF,D_FI⟩:=y_FI
  have T_WORDS:∃ a,L2.ZaW mg "WORDS" (.ref a)/\L2.TupK (L2.KOf KX) a ((["push", "drop", "copy", "swap", "add", "minus", "times", "over", "rest", "below", "same", "both", "either", "unlike", "up", "down", "jump", "jumpif", "load", "save", "me", "from", "sent", "word", "coin", "note", "call", "borrow", "look", "give", "fail"]:List PySem.Str).map L2.V.str)/\L2.Tup0 (L2.KOf KX) a:=by
   dsimp only [L2.KOf]
   refine' L2.Zmb KX G ?a ?l ?v ?z
   (case a=>k_is);(case l=>k_is);(case v=>walk_at "vals");(case z=>decide)
  obtain ⟨a_WORDS,g_WORDS,t_WORDS,u_WORDS⟩:=T_WORDS
  obtain ⟨fl,fd,FL,ml⟩:=D_law
  have e0:=hmg.symm.trans ml
  cases e0
  refine ⟨fd,L2.Zjg FL,fun base KB GB=>?_⟩
  have c_added:=My.Zmh (P:=PySem.Challenge.rw_meterhouse_k37_whole_look_changes_nothin.prog) (w:=w) (base:=base)  D_added    g_WIDE
  have c_lessened:=My.ZhS (P:=PySem.Challenge.rw_meterhouse_k37_whole_look_changes_nothin.prog) (w:=w) (base:=base)  D_lessened    g_WIDE
  have c_multiplied:=My.ZfM (P:=PySem.Challenge.rw_meterhouse_k37_whole_look_changes_nothin.prog) (w:=w) (base:=base)  D_multiplied    g_WIDE
  have c_contained:=My.ZgN (P:=PySem.Challenge.rw_meterhouse_k37_whole_look_changes_nothin.prog) (w:=w) (base:=base)  D_contained
  have c_left_over:=My.ZgP (P:=PySem.Challenge.rw_meterhouse_k37_whole_look_changes_nothin.prog) (w:=w) (base:=base)  D_left_over
  have c_is_below:=My.ZhU (P:=PySem.Challenge.rw_meterhouse_k37_whole_look_changes_nothin.prog) (w:=w) (base:=base)  D_is_below
  have c_is_same:=My.Zjp (P:=PySem.Challenge.rw_meterhouse_k37_whole_look_changes_nothin.prog) (w:=w) (base:=base)  D_is_same
  have c_in_both:=My.Zjr (P:=PySem.Challenge.rw_meterhouse_k37_whole_look_changes_nothin.prog) (w:=w) (base:=base)  D_in_both
  have c_in_either:=My.ZgR (P:=PySem.Challenge.rw_meterhouse_k37_whole_look_changes_nothin.prog) (w:=w) (base:=base)  D_in_either
  have c_in_just_one:=My.Ze5 (P:=PySem.Challenge.rw_meterhouse_k37_whole_look_changes_nothin.prog) (w:=w) (base:=base)  D_in_just_one
  have c_doubled:=My.Zjt (P:=PySem.Challenge.rw_meterhouse_k37_whole_look_changes_nothin.prog) (w:=w) (base:=base)  D_doubled    n_max g_FIGURES g_WIDE
  have c_halved:=My.ZkF (P:=PySem.Challenge.rw_meterhouse_k37_whole_look_changes_nothin.prog) (w:=w) (base:=base)  D_halved    n_max g_FIGURES
  have sok:=My.Zoa (P:=PySem.Challenge.rw_meterhouse_k37_whole_look_changes_nothin.prog) (w:=w) (base:=base) dk m1 m2 m3 m4 m5 m6 m7 m8 m9 m10 m11 m12 c_added c_lessened c_multiplied c_contained c_left_over c_is_below c_is_same c_in_both c_in_either c_in_just_one c_doubled c_halved
  have c_reckon:=My.ZkH (P:=PySem.Challenge.rw_meterhouse_k37_whole_look_changes_nothin.prog) (w:=w) (base:=base) sok D_reckon    g_SUMS
  have c_reach:=My.Zmj (P:=PySem.Challenge.rw_meterhouse_k37_whole_look_changes_nothin.prog) (w:=w) (base:=base) t_REACHING D_reach    g_REACHING
  have c_takes:=My.Zml (P:=PySem.Challenge.rw_meterhouse_k37_whole_look_changes_nothin.prog) (w:=w) (base:=base) rok D_takes    c_reach g_ROWS
  have c_leaves:=My.ZkK (P:=PySem.Challenge.rw_meterhouse_k37_whole_look_changes_nothin.prog) (w:=w) (base:=base) rok D_leaves    c_reach g_ROWS
  have cd2_price:=My.Zmn (P:=PySem.Challenge.rw_meterhouse_k37_whole_look_changes_nothin.prog) (w:=w) (base:=base) rok D_price g_ROWS
  have c_row_numbers:=My.Zfc (P:=PySem.Challenge.rw_meterhouse_k37_whole_look_changes_nothin.prog) (w:=w) (base:=base) t_WORDS u_WORDS D_row_numbers    n_len g_WORDS
  have i_Account:=My.Zc8 (P:=PySem.Challenge.rw_meterhouse_k37_whole_look_changes_nothin.prog) (w:=w) (base:=base)  D_Account___init__ tAccount   n_list
  have m_Account_loaded:=My.ZdN (P:=PySem.Challenge.rw_meterhouse_k37_whole_look_changes_nothin.prog) (w:=w) (base:=base)  D_Account_loaded tAccount
  have m_Account_keep:=My.ZeE (P:=PySem.Challenge.rw_meterhouse_k37_whole_look_changes_nothin.prog) (w:=w) (base:=base)  D_Account_keep tAccount
  have m_Account_plain:=My.Zd5 (P:=PySem.Challenge.rw_meterhouse_k37_whole_look_changes_nothin.prog) (w:=w) (base:=base)  D_Account_plain tAccount   c_row_numbers n_sorted n_len
  have c_shift_coin:=My.ZfP (P:=PySem.Challenge.rw_meterhouse_k37_whole_look_changes_nothin.prog) (w:=w) (base:=base)  D_shift_coin tAccount
  have i_Save:=My.ZdW (P:=PySem.Challenge.rw_meterhouse_k37_whole_look_changes_nothin.prog) (w:=w) (base:=base)  D_Save___init__ tSave
  have i_Move:=My.ZdY (P:=PySem.Challenge.rw_meterhouse_k37_whole_look_changes_nothin.prog) (w:=w) (base:=base)  D_Move___init__ tMove
  have i_Note:=My.Zd0 (P:=PySem.Challenge.rw_meterhouse_k37_whole_look_changes_nothin.prog) (w:=w) (base:=base)  D_Note___init__ tNote
  have m_Save_do:=My.Zjw (P:=PySem.Challenge.rw_meterhouse_k37_whole_look_changes_nothin.prog) (w:=w) (base:=base)  D_Save_do tSave tAccount m_Account_keep
  have m_Move_do:=My.Zjy (P:=PySem.Challenge.rw_meterhouse_k37_whole_look_changes_nothin.prog) (w:=w) (base:=base)  D_Move_do tMove   c_shift_coin
  have m_Note_do:=My.ZjA (P:=PySem.Challenge.rw_meterhouse_k37_whole_look_changes_nothin.prog) (w:=w) (base:=base) (cAccount:=cAccount) D_Note_do tNote
  have m_Save_undo:=My.ZgV (P:=PySem.Challenge.rw_meterhouse_k37_whole_look_changes_nothin.prog) (w:=w) (base:=base)  D_Save_undo tSave tAccount m_Account_keep
  have m_Move_undo:=My.ZgX (P:=PySem.Challenge.rw_meterhouse_k37_whole_look_changes_nothin.prog) (w:=w) (base:=base)  D_Move_undo tMove   c_shift_coin
  have m_Note_undo:=My.ZgZ (P:=PySem.Challenge.rw_meterhouse_k37_whole_look_changes_nothin.prog) (w:=w) (base:=base) (cAccount:=cAccount) D_Note_undo tNote
  have i_Journal:=My.Zda (P:=PySem.Challenge.rw_meterhouse_k37_whole_look_changes_nothin.prog) (w:=w) (base:=base)  D_Journal___init__ tJournal
  have m_Journal_mark:=My.ZeG (P:=PySem.Challenge.rw_meterhouse_k37_whole_look_changes_nothin.prog) (w:=w) (base:=base)  D_Journal_mark tJournal   n_len
  have m_Journal_write:=My.Zd2 (P:=PySem.Challenge.rw_meterhouse_k37_whole_look_changes_nothin.prog) (w:=w) (base:=base)  D_Journal_write tJournal tSave tMove tNote tAccount m_Save_do m_Move_do m_Note_do
  have m_Journal_back:=My.ZeH (P:=PySem.Challenge.rw_meterhouse_k37_whole_look_changes_nothin.prog) (w:=w) (base:=base)  D_Journal_back tJournal tSave tMove tNote tAccount m_Save_undo m_Move_undo m_Note_undo  n_len n_max
  have m_Save_told:=My.Zg2 (P:=PySem.Challenge.rw_meterhouse_k37_whole_look_changes_nothin.prog) (w:=w) (base:=base)  D_Save_told tSave
  have m_Move_told:=My.Zg4 (P:=PySem.Challenge.rw_meterhouse_k37_whole_look_changes_nothin.prog) (w:=w) (base:=base)  D_Move_told tMove
  have m_Note_told:=My.Zg6 (P:=PySem.Challenge.rw_meterhouse_k37_whole_look_changes_nothin.prog) (w:=w) (base:=base)  D_Note_told tNote
  have m_Journal_told:=My.ZeJ (P:=PySem.Challenge.rw_meterhouse_k37_whole_look_changes_nothin.prog) (w:=w) (base:=base)  D_Journal_told tJournal tSave tMove tNote m_Save_told m_Move_told m_Note_told
  have m_Frame_left:=My.ZfU (P:=PySem.Challenge.rw_meterhouse_k37_whole_look_changes_nothin.prog) (w:=w) (base:=base)  D_Frame_left tFrame
  have m_Frame_short_for:=My.Zdn (P:=PySem.Challenge.rw_meterhouse_k37_whole_look_changes_nothin.prog) (w:=w) (base:=base)  D_Frame_short_for tFrame   c_takes n_len
  have m_Frame_full_behind:=My.ZcR (P:=PySem.Challenge.rw_meterhouse_k37_whole_look_changes_nothin.prog) (w:=w) (base:=base)  D_Frame_full_behind tFrame   c_leaves c_takes n_len g_MOST_ON_STACK
  have m_Frame_taken:=My.Ze6 (P:=PySem.Challenge.rw_meterhouse_k37_whole_look_changes_nothin.prog) (w:=w) (base:=base)  D_Frame_taken tFrame   n_range n_list n_reversed
  have m_Frame_lay:=My.Zg8 (P:=PySem.Challenge.rw_meterhouse_k37_whole_look_changes_nothin.prog) (w:=w) (base:=base)  D_Frame_lay tFrame
  have m_Frame_finish:=My.ZeM (P:=PySem.Challenge.rw_meterhouse_k37_whole_look_changes_nothin.prog) (w:=w) (base:=base)  D_Frame_finish tFrame
  have m_Frame_tree:=My.ZfW (P:=PySem.Challenge.rw_meterhouse_k37_whole_look_changes_nothin.prog) (w:=w) (base:=base)  D_Frame_tree tFrame   n_list
  have c_push_row:=My.Zh0 (P:=PySem.Challenge.rw_meterhouse_k37_whole_look_changes_nothin.prog) (w:=w) (base:=base)  D_push_row tFrame m_Frame_lay
  have c_drop_row:=My.Zh2 (P:=PySem.Challenge.rw_meterhouse_k37_whole_look_changes_nothin.prog) (w:=w) (base:=base)  D_drop_row tFrame m_Frame_taken
  have c_copy_row:=My.Zh4 (P:=PySem.Challenge.rw_meterhouse_k37_whole_look_changes_nothin.prog) (w:=w) (base:=base)  D_copy_row tFrame m_Frame_lay
  have c_swap_row:=My.Zh5 (P:=PySem.Challenge.rw_meterhouse_k37_whole_look_changes_nothin.prog) (w:=w) (base:=base)  D_swap_row tFrame   n_len
  have c_reckon_row:=My.ZfZ (P:=PySem.Challenge.rw_meterhouse_k37_whole_look_changes_nothin.prog) (w:=w) (base:=base)  D_reckon_row tFrame m_Frame_taken m_Frame_lay  c_reckon
  have c_jump_row:=My.Zh7 (P:=PySem.Challenge.rw_meterhouse_k37_whole_look_changes_nothin.prog) (w:=w) (base:=base)  D_jump_row tFrame
  have c_jumpif_row:=My.Zf0 (P:=PySem.Challenge.rw_meterhouse_k37_whole_look_changes_nothin.prog) (w:=w) (base:=base)  D_jumpif_row tFrame m_Frame_taken
  have c_me_row:=My.ZkS (P:=PySem.Challenge.rw_meterhouse_k37_whole_look_changes_nothin.prog) (w:=w) (base:=base)  D_me_row tFrame m_Frame_lay
  have c_from_row:=My.Zh9 (P:=PySem.Challenge.rw_meterhouse_k37_whole_look_changes_nothin.prog) (w:=w) (base:=base)  D_from_row tFrame m_Frame_lay
  have c_sent_row:=My.Zib (P:=PySem.Challenge.rw_meterhouse_k37_whole_look_changes_nothin.prog) (w:=w) (base:=base)  D_sent_row tFrame m_Frame_lay
  have c_word_row:=My.Zid (P:=PySem.Challenge.rw_meterhouse_k37_whole_look_changes_nothin.prog) (w:=w) (base:=base)  D_word_row tFrame m_Frame_lay
  have c_give_row:=My.Zie (P:=PySem.Challenge.rw_meterhouse_k37_whole_look_changes_nothin.prog) (w:=w) (base:=base)  D_give_row tFrame m_Frame_taken m_Frame_finish
  have c_fail_row:=My.Zif (P:=PySem.Challenge.rw_meterhouse_k37_whole_look_changes_nothin.prog) (w:=w) (base:=base)  D_fail_row tFrame m_Frame_taken m_Frame_finish
  have c_brings_coin:=My.Ze8 (P:=PySem.Challenge.rw_meterhouse_k37_whole_look_changes_nothin.prog) (w:=w) (base:=base)  D_brings_coin tFrame
  have c_fills_place:=My.Zfa (P:=PySem.Challenge.rw_meterhouse_k37_whole_look_changes_nothin.prog) (w:=w) (base:=base)  D_fills_place tFrame tAccount m_Account_loaded
  have c_row_price:=My.Zha (P:=PySem.Challenge.rw_meterhouse_k37_whole_look_changes_nothin.prog) (w:=w) (base:=base)  D_row_price    cd2_price c_brings_coin c_fills_place
  have c_is_barred:=My.Zhc (P:=PySem.Challenge.rw_meterhouse_k37_whole_look_changes_nothin.prog) (w:=w) (base:=base)  D_is_barred tFrame   c_brings_coin
  have c_end_ahead_of:=My.ZeQ (P:=PySem.Challenge.rw_meterhouse_k37_whole_look_changes_nothin.prog) (w:=w) (base:=base)  D_end_ahead_of tFrame m_Frame_short_for m_Frame_full_behind m_Frame_left  c_is_barred c_row_price
  have c_write_step:=My.Zf3 (P:=PySem.Challenge.rw_meterhouse_k37_whole_look_changes_nothin.prog) (w:=w) (base:=base)  D_write_step tJournal tFrame tSave tMove tNote m_Journal_write m_Save_told m_Move_told m_Note_told
  have c_account_at:=My.Zf5 (P:=PySem.Challenge.rw_meterhouse_k37_whole_look_changes_nothin.prog) (w:=w) (base:=base) (cAccount:=cAccount) D_account_at    n_len
  have c_load_row:=My.Zih (P:=PySem.Challenge.rw_meterhouse_k37_whole_look_changes_nothin.prog) (w:=w) (base:=base)  D_load_row tFrame tAccount m_Frame_taken m_Frame_lay m_Account_loaded
  have c_coin_row:=My.Zii (P:=PySem.Challenge.rw_meterhouse_k37_whole_look_changes_nothin.prog) (w:=w) (base:=base)  D_coin_row tFrame tAccount m_Frame_taken m_Frame_lay  c_account_at
  have c_save_row:=My.Zij (P:=PySem.Challenge.rw_meterhouse_k37_whole_look_changes_nothin.prog) (w:=w) (base:=base)  D_save_row tFrame tAccount tSave m_Frame_taken m_Account_loaded i_Save  c_write_step
  have c_note_row:=My.Zik (P:=PySem.Challenge.rw_meterhouse_k37_whole_look_changes_nothin.prog) (w:=w) (base:=base)  D_note_row tFrame tNote m_Frame_taken i_Note  c_write_step
  have dok:=My.do_ok (P:=PySem.Challenge.rw_meterhouse_k37_whole_look_changes_nothin.prog) (w:=w) (base:=base) (cAccount:=cAccount) (cJournal:=cJournal) (cSave:=cSave) (cMove:=cMove) (cNote:=cNote) (cFrame:=cFrame) dkD m_push_row m_drop_row m_copy_row m_swap_row m_reckon_row m_jump_row m_jumpif_row m_load_row m_save_row m_me_row m_from_row m_sent_row m_word_row m_coin_row m_note_row m_give_row m_fail_row c_push_row c_drop_row c_copy_row c_swap_row c_reckon_row c_jump_row c_jumpif_row c_load_row c_save_row c_me_row c_from_row c_sent_row c_word_row c_coin_row c_note_row c_give_row c_fail_row
  have c_do_row:=My.ZkX (P:=PySem.Challenge.rw_meterhouse_k37_whole_look_changes_nothin.prog) (w:=w) (base:=base) dok D_do_row    g_DOINGS
  have iD9_Frame:=My.Zlx (P:=PySem.Challenge.rw_meterhouse_k37_whole_look_changes_nothin.prog) (w:=w) (base:=base) D_FI tFrame
  have c_other_call:=My.Zf7 (P:=PySem.Challenge.rw_meterhouse_k37_whole_look_changes_nothin.prog) (w:=w) (base:=base)  D_other_call tFrame m_Frame_taken  c_takes iD9_Frame
  have c_end_ahead_of_call:=My.ZcT (P:=PySem.Challenge.rw_meterhouse_k37_whole_look_changes_nothin.prog) (w:=w) (base:=base)  D_end_ahead_of_call tFrame tAccount   c_account_at g_MOST_CALLS
  have c_go:=My.Zni (P:=PySem.Challenge.rw_meterhouse_k37_whole_look_changes_nothin.prog) (w:=w) (base:=base) (cAccount:=cAccount) (cJournal:=cJournal) (cSave:=cSave) (cMove:=cMove) (cNote:=cNote) t_CALLING D_call_row tFrame m_Frame_left m_Frame_finish m_Frame_tree m_Frame_lay c_other_call c_end_ahead_of_call n_min D_go_row c_row_price c_do_row g_CALLING D_go_on tAccount c_end_ahead_of n_len D_go tJournal tMove m_Journal_mark i_Move m_Journal_back c_write_step 10
  have iD7_Frame:=My.Zlw (P:=PySem.Challenge.rw_meterhouse_k37_whole_look_changes_nothin.prog) (w:=w) (base:=base) D_FI tFrame
  have c_enter:=My.Zmr (P:=PySem.Challenge.rw_meterhouse_k37_whole_look_changes_nothin.prog) (w:=w) (base:=base)  D_enter tFrame m_Frame_tree  c_go iD7_Frame
  have c_Lcell_at:=My.Ziu (P:=PySem.Challenge.rw_meterhouse_k37_whole_look_changes_nothin.prog) (w:=w) (base:=base)  D_Lcell_at    n_len
  have c_Lsum_word:=My.Zhm (P:=PySem.Challenge.rw_meterhouse_k37_whole_look_changes_nothin.prog) (w:=w) (base:=base)  D_Lsum_word
  have c_Lodd_rows:=My.Zhn (P:=PySem.Challenge.rw_meterhouse_k37_whole_look_changes_nothin.prog) (w:=w) (base:=base)  D_Lodd_rows
  have c_Lasking:=My.ZjE (P:=PySem.Challenge.rw_meterhouse_k37_whole_look_changes_nothin.prog) (w:=w) (base:=base)  D_Lasking
  have c_Lsnippet:=My.Zir (P:=PySem.Challenge.rw_meterhouse_k37_whole_look_changes_nothin.prog) (w:=w) (base:=base)  D_Lsnippet    c_Lodd_rows c_Lasking c_Lsum_word
  have c_Lprograms:=My.Zhp (P:=PySem.Challenge.rw_meterhouse_k37_whole_look_changes_nothin.prog) (w:=w) (base:=base)  D_Lprograms    c_Lsnippet n_range n_len
  have c_Lwhole:=My.Zll (P:=PySem.Challenge.rw_meterhouse_k37_whole_look_changes_nothin.prog) (w:=w) (base:=base)  D_Lwhole    n_isinstance n_int n_bool
  have c_Lstill:=My.Zho (P:=PySem.Challenge.rw_meterhouse_k37_whole_look_changes_nothin.prog) (w:=w) (base:=base) D_Lstill c_Lwhole n_isinstance n_tuple n_len n_list 9
  have c_Lrooms:=My.Zlr (P:=PySem.Challenge.rw_meterhouse_k37_whole_look_changes_nothin.prog) (w:=w) (base:=base)  D_Lrooms tAccount i_Account m_Account_keep  c_Lprograms c_Lcell_at n_range
  exact My.ok_law  FL tAccount tJournal m_Account_plain i_Journal m_Journal_told  c_Lrooms c_enter c_Lcell_at c_Lstill n_range n_isinstance n_tuple n_len n_list
 case S=>exact fun K H a ns hl hO hS=>⟨a,ns,rfl,hS,hl,fun _=>rfl⟩
 case C=>exact fun _ _ _ _ z=>z
