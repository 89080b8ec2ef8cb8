import PyProof.Rows.All
import Wide.All
import OpenK.KLine
import OpenK.KOwn
import KE.KItem
import KE.KDictList
import KE.KRevIter
import KE.KDictOf
import Wide.FinOn
import Lean
import PyProof.EqAt
import PyProof.EqKinds
import PyProof.TupleCall
import PySem.Challenge.RW_meterhouse_k26_journal_told_replayed
set_option Elab.async false
set_option linter.all false
set_option maxRecDepth 100000
set_option maxHeartbeats 4000000
namespace PySem.W.Fast
def tw10306954526465378585:=0
def tw4340302012502175624:=0
def tw375057579459183680:=0
def tw13285724551864662080:=0
def tw7796736579176745248:=0
def tw14240905396580554432:=0
def tw4511879508866661377:=0
def tw12055459022576746817:=0
def tw4103666617268761953:=0
def tw2362767826218011137:=0
def tw4319841357386334881:=0
def tw17103941577242520289:=0
def tw14663146086367834178:=0
def tw9535520051578369282:=0
def tw9125131621023572482:=0
def tw12865801403341626882:=0
def tw8788253360393085602:=0
def tw11232444965961752418:=0
def tw14221261000943667235:=0
def tw12881857986121571683:=0
def tw10323452210158420323:=0
def tw13315294391137541763:=0
def tw15504826151730739139:=0
def tw450388582739639524:=0
def tw747703727777974532:=0
def tw15375298511217407492:=0
def tw15169815824817206852:=0
def tw2904441991118324741:=0
def tw8003586708238293061:=0
def tw16203667821371356261:=0
def tw8351602691893071109:=0
def tw9956937332544145829:=0
def tw13240231429255539173:=0
def tw13689023099041585669:=0
def tw3918647752562395045:=0
def tw3364556891273144229:=0
def tw5545596400006630341:=0
def tw4383422950265559078:=0
def tw12857728586812752134:=0
def tw14446387083353799974:=0
def tw680127911456189862:=0
def tw15583489172890376614:=0
def tw15002169839043519974:=0
def tw16479250009765302854:=0
def tw15432197224650448486:=0
def tw16930195474802077382:=0
def tw8901132667978297126:=0
def tw372280144506567462:=0
def tw15569929486319011622:=0
def tw7737648074202812230:=0
def tw2693239465657041959:=0
def tw6260892010229981351:=0
def tw13285077427607949607:=0
def tw3984896904970805575:=0
def tw6322268775528276327:=0
def tw17021935923166692839:=0
def tw11143830365567422983:=0
def tw7079585268629407239:=0
def tw17417253959182796327:=0
def tw2342325784630351431:=0
def tw18230408802629418599:=0
def tw8232629158876338055:=0
def tw10503837582080940040:=0
def tw14703268417648701513:=0
def tw9122470038774592585:=0
def tw15185531885888054473:=0
def tw9801992562116988457:=0
def tw17289635522872438505:=0
def tw3583770312779919434:=0
def tw10944544167743961290:=0
def tw13564952247524705546:=0
def tw6918479824435424586:=0
def tw818448784714173866:=0
def tw17801170017364588010:=0
def tw6682161532496936458:=0
def tw5091519266039903786:=0
def tw2688839719258852363:=0
def tw6176159950189301963:=0
def tw5543878148664222955:=0
def tw12592625503836573035:=0
def tw10648672424148362795:=0
def tw6106286315574423083:=0
def tw14355430318976534283:=0
def tw4147754918822309707:=0
def tw3677565769579291595:=0
def tw12235353784602960908:=0
def tw17567597717668490316:=0
def tw11477077472944458956:=0
def tw6126769847999380044:=0
def tw15778418630994706060:=0
def tw10989941825627870956:=0
def tw17257704526144028877:=0
def tw10152596708785286637:=0
def tw6030770013936902637:=0
def tw15756498619890688749:=0
def tw3244709513515881197:=0
def tw15775722257501341517:=0
def tw7818958825146346349:=0
def tw15833576082876147629:=0
def tw1415594201161579566:=0
def tw3763951602127013390:=0
def tw2100560452759159342:=0
def tw11720751747156396878:=0
def tw10638676543333501455:=0
def tw9229263473425594255:=0
def tw2378361217312480464:=0
def tw6525118351073139120:=0
def tw5389566240965701040:=0
def tw10842367350928039408:=0
def tw4739911618655309712:=0
def tw4025979102710184944:=0
def tw1221254541282923665:=0
def tw9566412967020527889:=0
def tw10002835696917709169:=0
def tw6712401951316443601:=0
def tw11336708513751041521:=0
def tw15068720688554866225:=0
def tw64671405596971665:=0
def tw2252149069715953329:=0
def tw15858133568434704113:=0
def tw225450385497338641:=0
def tw16239229825992378321:=0
def tw5426163396026507282:=0
def tw2024368730373319730:=0
def tw13642717043604982898:=0
def tw9786301087544312082:=0
def tw9629861849133078802:=0
def tw7458969462487163218:=0
def tw6908536421735172498:=0
def tw9905707669473424914:=0
def tw7821275649513725554:=0
def tw8558518073438754674:=0
def tw8096452902646202258:=0
def tw16916950687741165490:=0
def tw1287189418396421139:=0
def tw8219441410835127379:=0
def tw6194854756898259059:=0
def tw15050419022186086547:=0
def tw10254277381916918291:=0
def tw1270381856004928051:=0
def tw9766457971145230995:=0
def tw17484956781349036851:=0
def tw14314547915852576627:=0
def tw17389272956477129683:=0
def tw14600775659754071027:=0
def tw11581021044830552180:=0
def tw14532468811607709108:=0
def tw1450336199868752468:=0
def tw699378203540491956:=0
def tw1822230042325697364:=0
def tw14765097349056687092:=0
def tw14187390029938599989:=0
def tw13877684048826853525:=0
def tw7480243352977921173:=0
def tw9658085648007487733:=0
def tw16225352701368701333:=0
def tw18382199887283483061:=0
def tw2665389150861295029:=0
def tw408752168430620213:=0
def tw12970785927995853365:=0
def tw15835149709796215445:=0
def tw17447796037062872757:=0
def tw10451332878044272437:=0
def tw14685807802139401013:=0
def tw17283303648897448118:=0
def tw15502516115836083510:=0
def tw1721369594293662358:=0
def tw12559338767543137974:=0
def tw12798068796214183606:=0
def tw1640152053956105303:=0
def tw7704471554241951863:=0
def tw14618567564543272215:=0
def tw9875231933275359671:=0
def tw17384806949873748695:=0
def tw4325181054366223640:=0
def tw9804906954625921624:=0
def tw3149816989586145016:=0
def tw2048963898609282904:=0
def tw3788467393517745016:=0
def tw13162714816558893177:=0
def tw4371627074580583993:=0
def tw7781131154759419481:=0
def tw6683690505636042393:=0
def tw13301405636365886586:=0
def tw2573457865322101882:=0
def tw14457773040441692410:=0
def tw8226665907730813370:=0
def tw15819148377537822266:=0
def tw11263882982492630618:=0
def tw4320374431657308858:=0
def tw5461191027935657914:=0
def tw11492767734845809626:=0
def tw11190010147497707771:=0
def tw10844029365592374619:=0
def tw3845924198608743995:=0
def tw3297911018510500443:=0
def tw10805080214787677915:=0
def tw12845925018619767547:=0
def tw12584587242577601371:=0
def tw4315204744058352603:=0
def tw6165908471622410620:=0
def tw10028265899895198108:=0
def tw14139754218852026172:=0
def tw15465805894932968637:=0
def tw9018823153319602525:=0
def tw16556720787094550173:=0
def tw7119024625178660286:=0
def tw3099817716016160222:=0
def tw5724139636428297854:=0
def tw17703002088018188286:=0
def tw12044340070854397087:=0
def tw14228998376708888799:=0
def tw1163917405134388991:=0
def tw3806723402359205695:=0
def tw7993598344996944831:=0
end PySem.W.Fast
section
open PySem PySem.W PyProof.Rows
set_option maxHeartbeats 0 in
open_top Qhd for PySem.Challenge.rw_meterhouse_k26_journal_told_replayed
end
noncomputable section
namespace L2
open PySem PySem.Spec PyProof.Rows
abbrev Key:=Sum Int Str
noncomputable def keyIs:Key->Value->Bool
 | .inl k,v=>Value.isInt k v
 | .inr x,v=>Value.isStrOf x v
noncomputable def keyH (w:World):Key->Int
 | .inl k=>hashInt k
 | .inr x=>hashStr w x
theorem ZaH:∀ {k:Key} {v:Value},keyIs k v=true->(∃ i t,k=Sum.inl i/\v=Value.int i t)\/(∃ x t,k=Sum.inr x/\v=Value.str x t)
 | .inl i,v,h=>by
  obtain ⟨t,e⟩:=Value.isInt_shape (k:=i) (v:=v) h
  exact .inl ⟨i,t,rfl,e⟩
 | .inr x,v,h=>by
  obtain ⟨t,e⟩:=Value.isStrOf_shape (x:=x) (v:=v) h
  exact .inr ⟨x,t,rfl,e⟩
theorem Zg2 (i:Int) (t:Tok):keyIs (.inl i) (.int i t)=true:=by simp [keyIs,Value.isInt]
theorem Zg3 (x:Str) (t:Tok):keyIs (.inr x) (.str x t)=true:=by simp [keyIs,Value.isStrOf]
theorem key_ll (a b:Int):decide ((Sum.inl a:Key)=Sum.inl b)=(a==b):=by
 by_cases e:a=b
 .subst e;simp
 .have h:¬ (Sum.inl a:Key)=Sum.inl b:=fun q=>e (Sum.inl.inj q)
  rw [decide_eq_false h]
  exact (beq_eq_false_iff_ne.mpr e).symm
theorem key_rr (a b:Str):decide ((Sum.inr a:Key)=Sum.inr b)=decide (a=b):=by
 by_cases e:a=b
 .subst e;simp
 .have h:¬ (Sum.inr a:Key)=Sum.inr b:=fun q=>e (Sum.inr.inj q)
  rw [decide_eq_false h,decide_eq_false e]
theorem key_lr (a:Int) (b:Str):decide ((Sum.inl a:Key)=Sum.inr b)=false:=decide_eq_false (fun q=>nomatch q)
theorem key_rl (a:Str) (b:Int):decide ((Sum.inr a:Key)=Sum.inl b)=false:=decide_eq_false (fun q=>nomatch q)
noncomputable def ZaI (prog:Program) (w:World):PySem.KeyKind prog w Key where
 is:=keyIs
 hash:=keyH w
 inj:=fun v a b ha hb=>by
  rcases ZaH ha with ⟨i,t,rfl,rfl⟩|⟨x,t,rfl,rfl⟩
  .rcases ZaH hb with ⟨j,u,rfl,e⟩|⟨y,u,rfl,e⟩
   .injection e with e1 _;rw [e1]
   .exact nomatch e
  .rcases ZaH hb with ⟨j,u,rfl,e⟩|⟨y,u,rfl,e⟩
   .exact nomatch e
   .injection e with e1 _;rw [e1]
 byValue:=fun k v h=>by
  rcases ZaH h with ⟨i,t,rfl,rfl⟩|⟨x,t,rfl,rfl⟩<;>rfl
 pyHash:=fun hv h=>by
  rcases ZaH hv with ⟨i,t,rfl,rfl⟩|⟨x,t,rfl,rfl⟩
  .exact wpAny_pyHash_int h
  .exact wpAny_pyHash_str h
 eqBool:=fun hu hv h=>by
  rcases ZaH hu with ⟨i,t,rfl,rfl⟩|⟨x,t,rfl,rfl⟩
  .rcases ZaH hv with ⟨j,u,rfl,rfl⟩|⟨y,u,rfl,rfl⟩
   .rw [key_ll] at h;exact wpAny_eqBool_int h
   .rw [key_lr] at h;exact SeqAt.EqAt.int_str i t y u _ _ _ _ h
  .rcases ZaH hv with ⟨j,u,rfl,rfl⟩|⟨y,u,rfl,rfl⟩
   .rw [key_rl] at h;exact SeqAt.EqAt.str_int x t j u _ _ _ _ h
   .rw [key_rr] at h;exact wpAny_eqBool_str h
 «strs»:=fun k x t v h=>by
  rcases ZaH h with ⟨i,u,rfl,e⟩|⟨y,u,rfl,e⟩
  .exact nomatch e
  .injection e with e1 _
   subst e1
   cases v<;>rfl
theorem Zgt (prog:Program) (w:World) (k:Key) (v:Value):(ZaI prog w).is k v=keyIs k v:=rfl
theorem Zfg (prog:Program) (w:World) (i:Int) (t:Tok):(ZaI prog w).is (.inl i) (.int i t)=true:=Zg2 i t
theorem Zfh (prog:Program) (w:World) (x:Str) (t:Tok):(ZaI prog w).is (.inr x) (.str x t)=true:=Zg3 x t
inductive V where
 | non|bl (b:Bool)|int (i:Int)|str (x:Str)|byt (b:Array UInt8)|flt (b:UInt64)|ref (a:Addr)|ty (n:String)
 deriving DecidableEq
def RelV:V->Value->Prop
 | .non,u=>u=Value.none
 | .bl b,u=>u=Value.bool b
 | .int i,u=>∃ t,u=Value.int i t
 | .str x,u=>∃ t,u=Value.str x t
 | .byt b,u=>∃ t,u=Value.bytes b t
 | .flt b,u=>∃ t,u=Value.float b t
 | .ref a,u=>u=Value.ref a
 | .ty n,u=>u=Value.type n
abbrev Vals:List V->List Value->Prop:=Paired RelV
theorem Vals.length {xs:List V} {us:List Value} (r:Vals xs us):xs.length=us.length:=Paired.length r
theorem Vals.get:∀ {xs:List V} {us:List Value} {i:Nat} {x:V},Vals xs us->xs[i]?=some x->∃ u,us[i]?=some u/\RelV x u
 | _,_,_,_,.nil,e=>by simp at e
 | _,_,0,_,.cons r _,e=>by simp at e;subst e;exact ⟨_,rfl,r⟩
 | _,_,i+1,x,.cons _ t,e=>by
  obtain ⟨u,h1,h2⟩:=Vals.get (i:=i) (x:=x) t (by simpa using e)
  exact ⟨u,by simpa using h1,h2⟩
theorem Vals.set {x:V} {u:Value} (r:RelV x u):∀ {xs:List V} {us:List Value} (i:Nat),Vals xs us->Vals (xs.set i x) (us.set i u)
 | _,_,_,.nil=>.nil
 | _,_,0,.cons _ t=>.cons r t
 | _,_,i+1,.cons q t=>.cons q (Vals.set r i t)
theorem Vals.append:∀ {xs ys:List V} {us ws:List Value},Vals xs us->Vals ys ws->Vals (xs++ys) (us++ws)
 | _,_,_,_,.nil,s=>s
 | _,_,_,_,.cons r t,s=>.cons r (Vals.append t s)
theorem Vals.take:∀ {xs:List V} {us:List Value} (n:Nat),Vals xs us->Vals (xs.take n) (us.take n)
 | _,_,0,_=>.nil
 | _,_,_+1,.nil=>.nil
 | _,_,n+1,.cons r t=>.cons r (Vals.take n t)
theorem Vals.drop:∀ {xs:List V} {us:List Value} (n:Nat),Vals xs us->Vals (xs.drop n) (us.drop n)
 | _,_,0,r=>r
 | _,_,_+1,.nil=>.nil
 | _,_,n+1,.cons _ t=>Vals.drop n t
theorem Vals.none_of:∀ {xs:List V} {us:List Value} {i:Nat},Vals xs us->xs[i]?=none->us[i]?=none:=fun {xs us i} r e=>by
 have h1:=r.length
 have h2:xs.length<=i:=List.getElem?_eq_none_iff.mp e
 exact List.getElem?_eq_none_iff.mpr (by omega)
def RelO:Option V->Option Value->Prop
 | some v,some u=>RelV v u
 | none,none=>True
 | _,_=>False
def KV {κ:Type}:List (κ×V)->List (κ×Value)->Prop:=Paired fun (p:κ×V) (q:κ×Value)=>p.1=q.1/\RelV p.2 q.2
noncomputable def kV:Key->V
 | .inl i=>.int i
 | .inr x=>.str x
inductive HO where
 | lst (xs:List V)
 | tup (xs:List V)
 | dK (kvs:List (Key×V))|dT (kvs:List (List Key×V))
 | set (S:Int->Bool) (n:Nat)
 | ins (C dx:Addr) (fs:List (Str×V))
 | own (x:Addr)
 | xd (fs:List (Str×V))
 | met (f x:Addr)
 | rng (lo hi:Int)
 | frz (o:Obj) (u:HO)
 | tbl (ps:Array Value)
 | ext (φ:Heap->Prop)
abbrev Hp:=Addr->Option HO
noncomputable def upd (H:Hp) (a:Addr) (o:HO):Hp:=fun b=>if b=a then some o else H b
theorem Zab {H:Hp} {a:Addr} {o:HO}:upd H a o a=some o:=by unfold upd;rw [if_pos rfl]
theorem Zaf {H:Hp} {a b:Addr} {o:HO} (h:b≠a):upd H a o b=H b:=by unfold upd;rw [if_neg h]
theorem Za0 {H:Hp} {a:Addr} {o u:HO}:upd (upd H a o) a u=upd H a u:=by
 funext b;unfold upd;split<;>rfl
theorem ZaF {H:Hp} {a b:Addr} {o u:HO} (h:H a=some o) (h':H b=some u) (d:o≠u):a≠b:=by
 intro e;subst e;rw [h] at h';exact d (Option.some.inj h')
theorem Zai {H:Hp} {a b:Addr} {o:HO} (h:H a=some o) (h':H b=none):a≠b:=by
 intro e;subst e;rw [h] at h';cases h'
section
variable (P:Program) (w:World)
def ObjOk (H:Hp) (h:Heap) (a:Addr):HO->Prop
 | .lst xs=>xs.length<=sizeLine/\∃ (its:List Value) (n:Nat),Vals xs its/\h.get? a=some { cls:=.type "list", data:=.seq its.toArray n }
 | .tup xs=>xs.length<=sizeLine/\∃ its:List Value,Vals xs its/\IsTup h a its.toArray
 | .dK kvs=>kvs.length<=sizeLine/\(a==sysModules)=false/\∃ vs,KV kvs vs/\h.DictOf (ZaI P w) a vs
 | .dT kvs=>kvs.length<=sizeLine/\(a==sysModules)=false/\∃ xs:List (List Key×Addr×Value),
   Paired (fun (p:List Key×V) (q:List Key×Addr×Value)=>p.1=q.1/\H q.2.1=some (.tup (p.1.map kV))/\RelV p.2 q.2.2) kvs xs /\
   ∃ o es ep,h.get? a=some o/\o.ExactDict/\o.data=.dict es ep/\es.toList=xs.map (entryOfKey (tupleKind (ZaI P w)))/\(xs.map (·.1)).Nodup
 | .set S n=>h.SetOf (intKind P w) a S n
 | .ins C dx fs=>H dx=some (.own a)/\fs.length<=1000/\dx≠a/\h.get? a=some (PySem.W.instObj C dx) /\
   ∃ mA,h.Ns1 dx mA/\(∀ f,RelO (fs.lookup f) (mA f))/\PySem.Within mA (fs.map (·.1))
 | .own _=>∃ o,h.get? a=some o
 | .xd fs=>∃ mA,h.Ns1 a mA/\∀ f,RelO (fs.lookup f) (mA f)
 | .rng lo hi=>∃ t u v,h.get? a=some { cls:=.type "range", data:=.fields #[.int lo t,.int hi u,.int 1 v] }
 | .frz o u=>h.get? a=some o/\ObjOk H h a u
 | .tbl ps=>h.get? a=some { cls:=.none,data:=.fields ps }
 | .met f x=>h.get? a=some (PySem.W.methodObj (.ref f) (.ref x))
 | .ext φ=>φ h/\(∃ o,h.get? a=some o)/\∀ h1 h2:Heap,φ h1->(∀ o,h1.get? a=some o->h2.get? a=some o)->φ h2
def HOk (H:Hp) (h:Heap):Prop:=∀ a o,H a=some o->ObjOk P w H h a o
end
section
variable {P:Program} {w:World} {H H':Hp} {h h':Heap} {a:Addr} {o:HO}
theorem ObjOk.lt (x:ObjOk P w H h a o):a<h.objs.size:=by
 cases o with
 | lst xs=>obtain ⟨_,_,_,_,e⟩:=x;exact Heap.lt_size e
 | tup xs=>obtain ⟨_,_,_,p⟩:=x;exact p.lt
 | dK kvs=>obtain ⟨_,_,_,_,o,_,_,e,_⟩:=x;exact Heap.lt_size e
 | dT kvs=>obtain ⟨_,_,_,_,o,_,_,e,_⟩:=x;exact Heap.lt_size e
 | set S n=>obtain ⟨o,_,_,_,e,_⟩:=x;exact Heap.lt_size e
 | ins C dx fs=>obtain ⟨_,_,_,e,_⟩:=x;exact Heap.lt_size e
 | own y=>obtain ⟨_,e⟩:=x;exact Heap.lt_size e
 | xd fs=>obtain ⟨_,⟨_,_,_,e,_⟩,_⟩:=x;exact Heap.lt_size e
 | rng lo hi=>obtain ⟨_,_,_,e⟩:=x;exact Heap.lt_size e
 | frz ob u=>obtain ⟨e,_⟩:=x;exact Heap.lt_size e
 | tbl ps=>exact Heap.lt_size (show h.get? a=some _ from x)
 | met f y=>exact Heap.lt_size (show h.get? a=some _ from x)
 | ext φ=>obtain ⟨_,⟨_,e⟩,_⟩:=x;exact Heap.lt_size e
theorem Paired.mapP {α β:Type} {F G:α->β->Prop}:∀ {l₁:List α} {l₂:List β},Paired F l₁ l₂->(∀ a b,F a b->G a b)->Paired G l₁ l₂
 | _,_,.nil,_=>.nil
 | _,_,.cons r t,f=>.cons (f _ _ r) (Paired.mapP t f)
theorem ObjOk.stay (x:ObjOk P w H h a o) (k:∀ b u,(b=a\/H b=some (.own a))->h.get? b=some u->h'.get? b=some u)
  (ho:∀ b,H b=some (.own a)->H' b=some (.own a)) (ht:∀ b xs,H b=some (.tup xs)->H' b=some (.tup xs)):ObjOk P w H' h' a o:=by
 induction o with
 | lst xs=>obtain ⟨z,its,n,r,e⟩:=x;exact ⟨z,its,n,r,k _ _ (.inl rfl) e⟩
 | tup xs=>obtain ⟨z,its,r,ob,e,c⟩:=x;exact ⟨z,its,r,ob,k _ _ (.inl rfl) e,c⟩
 | dK kvs=>obtain ⟨z,y,vs,r,ob,es,ep,e,c⟩:=x;exact ⟨z,y,vs,r,ob,es,ep,k _ _ (.inl rfl) e,c⟩
 | dT kvs =>
  obtain ⟨z,y,xs,r,ob,es,ep,e,c⟩:=x
  exact ⟨z,y,xs,Paired.mapP r fun p q z=>⟨z.1,ht _ _ z.2.1,z.2.2⟩,ob,es,ep,k _ _ (.inl rfl) e,c⟩
 | set S n=>obtain ⟨ob,es,ep,t,e,c⟩:=x;exact ⟨ob,es,ep,t,k _ _ (.inl rfl) e,c⟩
 | ins C dx fs =>
  obtain ⟨d,z,ne,e,mA,⟨od,es,ep,e2,c⟩,r⟩:=x
  exact ⟨ho _ d,z,ne,k _ _ (.inl rfl) e,mA,⟨od,es,ep,k _ _ (.inr d) e2,c⟩,r⟩
 | own y=>obtain ⟨ob,e⟩:=x;exact ⟨ob,k _ _ (.inl rfl) e⟩
 | xd fs=>obtain ⟨mA,⟨od,es,ep,e,c⟩,r⟩:=x;exact ⟨mA,⟨od,es,ep,k _ _ (.inl rfl) e,c⟩,r⟩
 | rng lo hi=>obtain ⟨t,u,v,e⟩:=x;exact ⟨t,u,v,k _ _ (.inl rfl) e⟩
 | frz ob u ih=>obtain ⟨e,q⟩:=x;exact ⟨k _ _ (.inl rfl) e,ih q⟩
 | tbl ps =>
  have e:h.get? a=some { cls:=.none,data:=.fields ps }:=x
  show h'.get? a=some { cls:=.none,data:=.fields ps }
  exact k a _ (.inl rfl) e
 | met f y =>
  have e:h.get? a=some (PySem.W.methodObj (.ref f) (.ref y)):=x
  show h'.get? a=some (PySem.W.methodObj (.ref f) (.ref y))
  exact k a _ (.inl rfl) e
 | ext φ=>obtain ⟨p,⟨o,e⟩,st⟩:=x;exact ⟨st _ _ p fun o q=>k _ _ (.inl rfl) q,⟨o,k _ _ (.inl rfl) e⟩,st⟩
theorem HOk.lt (x:HOk P w H h) (e:H a=some o):a<h.objs.size:=(x a o e).lt
theorem HOk.fresh (x:HOk P w H h) (e:h.objs.size<=a):H a=none:=by
 cases q:H a with
 | none=>rfl
 | some u=>exact absurd (Nat.lt_of_lt_of_le (x.lt q) e) (Nat.lt_irrefl _)
theorem HOk.kept (x:HOk P w H h) (k:∀ b u,h.get? b=some u->h'.get? b=some u):HOk P w H h':=fun a o e =>
 (x a o e).stay (fun b u _ q=>k b u q) (fun _ q=>q) fun _ _ q=>q
theorem HOk.laid (x:HOk P w H h) (k:∀ b u,h.get? b=some u->h'.get? b=some u) (hp:h.objs.size<=a) (new:ObjOk P w (upd H a o) h' a o):HOk P w (upd H a o) h':=fun b u e=>by
 have hn:=x.fresh hp
 by_cases hb:b=a
 .subst hb;rw [Zab] at e;cases e;exact new
 .rw [Zaf hb] at e
  exact (x b u e).stay (fun c v _ q=>k c v q) (fun c q=>by rw [Zaf (Zai q hn)];exact q) fun c xs q=>by rw [Zaf (Zai q hn)];exact q
end
def Rd (H:Hp) (a:Addr) (u:HO):Prop:=H a=some u\/∃ o,H a=some (.frz o u)
theorem Rd.of {H:Hp} {a:Addr} {u:HO} (h:H a=some u):Rd H a u:=.inl h
theorem Rd.ok {P:Program} {w:World} {H:Hp} {h:Heap} {a:Addr} {u:HO} (r:Rd H a u) (x:HOk P w H h):ObjOk P w H h a u:=by
 rcases r with r|⟨o,r⟩
 .exact x a u r
 .obtain ⟨_,q⟩:=x a _ r
  exact q
def Mut:Option HO->Prop
 | some (.lst _)=>True
 | some (.dK _)=>True
 | some (.dT _)=>True
 | some (.set _ _)=>True
 | some (.ins _ _ _)=>True
 | some (.ext _)=>True
 | _=>False
section
variable {P:Program} {w:World} {H:Hp} {h h':Heap} {x e:Addr} {o':HO}
theorem HOk.write (ok:HOk P w H h) (mu:Mut (H x)) (he:e=x\/H e=some (.own x)) (k:∀ b u,b≠e->h.get? b=some u->h'.get? b=some u) (heo:∃ u,h'.get? e=some u)
  (new:ObjOk P w (upd H x o') h' x o'):HOk P w (upd H x o') h':=fun b u q=>by
 have nown:∀ c y,H c=some (.own y)->c≠x:=fun c y r z=>by subst z;rw [r] at mu;exact mu
 have ntup:∀ c xs,H c=some (.tup xs)->c≠x:=fun c xs r z=>by subst z;rw [r] at mu;exact mu
 by_cases hb:b=x
 .subst hb;rw [Zab] at q;cases q;exact new
 .rw [Zaf hb] at q
  by_cases hbe:b=e
  .have q':H b=some (.own x):=by
    rcases he with z|z
    .exact absurd (hbe.trans z) hb
    .rw [hbe];exact z
   rw [q] at q';cases q'
   obtain ⟨v,hv⟩:=heo
   exact ⟨v,by rw [hbe];exact hv⟩
  .refine (ok b u q).stay (fun c v hc r=>k c v ?_ r) (fun c r=>by rw [Zaf (nown c b r)];exact r) fun c xs r=>by rw [Zaf (ntup c xs r)];exact r
   rcases hc with rfl|hc
   .exact hbe
   .rintro rfl
    rcases he with z|z
    .exact nown c b hc z
    .rw [hc] at z;cases z;exact hb rfl
end
structure Un (fs ex:List Addr) (H H':Hp) (h h':Heap):Prop where
 keep:∀ b o,h.get? b=some o->H b=none->b∉fs->b∉ex->h'.get? b=some o
 slot:∀ b o,h.get? b=some o->H b=none->b∈fs->b∉ex->∃ sl,h'.get? b=some { o with slots:=sl }
 free:∀ b o,h.get? b=some o->H b=none->b∉ex->H' b=none
 there:∀ b o,h.get? b=some o->b∉ex->∃ o',h'.get? b=some o'
 tups:∀ b xs,H b=some (.tup xs)->H' b=some (.tup xs)
 frzs:∀ b o u,H b=some (.frz o u)->H' b=some (.frz o u)
 tbls:∀ b ps,H b=some (.tbl ps)->∃ more,H' b=some (.tbl (ps++more))
section
variable {fs fs' ex ex':List Addr} {H H1 H2:Hp} {h h1 h2 h':Heap} {a x e:Addr} {o:HO}
theorem Un.any (u:Un fs ex H H1 h h1) {b:Addr} {ob:Obj} (q:h.get? b=some ob) (n:H b=none) (hx:b∉ex):∃ sl,h1.get? b=some { ob with slots:=sl }:=by
 by_cases hb:b∈fs
 .exact u.slot b ob q n hb hx
 .exact ⟨ob.slots,u.keep b ob q n hb hx⟩
theorem Un.trans (a:Un fs ex H H1 h h1) (b:Un fs ex H1 H2 h1 h2):Un fs ex H H2 h h2 where
 keep:=fun c ob q n hc hx=>b.keep c ob (a.keep c ob q n hc hx) (a.free c ob q n hx) hc hx
 slot:=fun c ob q n hc hx=>by
  obtain ⟨sl,e1⟩:=a.slot c ob q n hc hx
  obtain ⟨sl',e2⟩:=b.slot c _ e1 (a.free c ob q n hx) hc hx
  exact ⟨sl',e2⟩
 free:=fun c ob q n hx=>by
  obtain ⟨o',e1⟩:=a.there c ob q hx
  exact b.free c o' e1 (a.free c ob q n hx) hx
 there:=fun c ob q hx=>by
  obtain ⟨o',e1⟩:=a.there c ob q hx
  exact b.there c o' e1 hx
 tups:=fun c xs q=>b.tups c xs (a.tups c xs q)
 frzs:=fun c ob xs q=>b.frzs c ob xs (a.frzs c ob xs q)
 tbls:=fun c ps q=>by
  obtain ⟨m1,e1⟩:=a.tbls c ps q
  obtain ⟨m2,e2⟩:=b.tbls c _ e1
  exact ⟨m1++m2,by rw [e2,Array.append_assoc]⟩
theorem Un.kept (k:∀ b u,h.get? b=some u->h'.get? b=some u):Un fs ex H H h h' :=
 ⟨fun b ob q _ _ _=>k b ob q,fun b ob q _ _ _=>⟨ob.slots,k b ob q⟩,fun _ _ _ n _=>n,fun b ob q _=>⟨ob,k b ob q⟩,fun _ _ q=>q,fun _ _ _ q=>q,fun _ ps q=>⟨#[],by rw [q];simp⟩⟩
theorem Un.refl:Un fs ex H H h h:=Un.kept fun _ _ q=>q
theorem Un.laid (k:∀ b u,h.get? b=some u->h'.get? b=some u) (hp:h.objs.size<=a) (hn:H a=none):Un fs ex H (upd H a o) h h' where
 keep:=fun b u q _ _ _=>k b u q
 slot:=fun b u q _ _ _=>⟨u.slots,k b u q⟩
 free:=fun b u q n _=>by rw [Zaf (Nat.ne_of_lt (Nat.lt_of_lt_of_le (Heap.lt_size q) hp))];exact n
 there:=fun b u q _=>⟨u,k b u q⟩
 tups:=fun b xs q=>by rw [Zaf (Zai q hn)];exact q
 frzs:=fun b u xs q=>by rw [Zaf (Zai q hn)];exact q
 tbls:=fun b ps q=>⟨#[],by rw [Zaf (Zai q hn),q];simp⟩
theorem Un.write (mu:Mut (H x)) (he:e=x\/H e=some (.own x)) (k:∀ b u,b≠e->h.get? b=some u->h'.get? b=some u) (heo:∃ u,h'.get? e=some u):Un fs ex H (upd H x o) h h':=by
 have hx:∀ b,H b=none->b≠x:=fun b n z=>by subst z;rw [n] at mu;exact mu
 have hb:∀ b,H b=none->b≠e:=fun b n z=>by
  subst z
  rcases he with r|r
  .exact hx b n r
  .rw [n] at r;cases r
 have hm:∀ b u,H b=some u->¬ Mut (some u)->b≠x:=fun b u q nm z=>by subst z;rw [q] at mu;exact nm mu
 refine ⟨fun b u q n _ _=>k b u (hb b n) q,fun b u q n _ _=>⟨u.slots,k b u (hb b n) q⟩,fun b u q n _=>by rw [Zaf (hx b n)];exact n,fun b u q _=>?_,
  fun b xs q=>by rw [Zaf (hm b _ q fun z=>z)];exact q,fun b u xs q=>by rw [Zaf (hm b _ q fun z=>z)];exact q,fun b ps q=>⟨#[],by rw [Zaf (hm b _ q fun z=>z),q];simp⟩⟩
 by_cases hbe:b=e
 .subst hbe;exact heo
 .exact ⟨u,k b u hbe q⟩
theorem Un.mono (u:Un fs ex H H1 h h1) (hs:∀ b∈fs,b∈fs') (hx:∀ b∈ex,b∈ex'):Un fs' ex' H H1 h h1 :=
 ⟨fun b ob q n hb he=>u.keep b ob q n (fun z=>hb (hs b z)) fun z=>he (hx b z),fun _ _ q n _ he=>u.any q n fun z=>he (hx _ z),fun b ob q n he=>u.free b ob q n fun z=>he (hx b z),fun b ob q he=>u.there b ob q fun z=>he (hx b z),u.tups,u.frzs,u.tbls⟩
end
noncomputable def trk (h:Heap) (H:Hp):List Addr:=(List.range h.objs.size).filter fun a=>(H a).isSome
noncomputable def hidT (h:Heap) (H:Hp):Heap:=PySem.W.hideAll h (trk h H)
theorem Zg4 (h:Heap) (H:Hp):(hidT h H).objs.size=h.objs.size:=PySem.W.hideAll_size _ _
theorem Ziy {h:Heap} {H:Hp} {b:Addr} {o:Obj} (e:h.get? b=some o) (n:H b=none):(hidT h H).get? b=some o :=
 PySem.W.hideAll_get _ e fun hm=>by
  have q:(H b).isSome=true:=(List.mem_filter.mp hm).2
  rw [n] at q;simp at q
theorem ZjX {h:Heap} {H:Hp} {b:Addr} {o:Obj} (e:(hidT h H).get? b=some o):h.get? b=some o/\H b=none:=by
 have e':h.get? b=some o:=PySem.W.of_hideAll (trk h H) e
 refine ⟨e',?_⟩
 cases q:H b with
 | none=>rfl
 | some x =>
  have hm:b∈trk h H:=List.mem_filter.mpr ⟨List.mem_range.mpr (Heap.lt_size e'),by simp [q]⟩
  have z:(hidT h H).get? b=none:=PySem.W.hideAll_none (trk h H) hm
  rw [z] at e;cases e
noncomputable def ZjY (g h:Heap) (L:Addr):List (Addr×Obj):=(List.range h.objs.size).filterMap fun a=>if a=L\/(g.get? a).isSome=true then none else (h.get? a).map fun o=>(a,o)
noncomputable def rest (g h:Heap) (L d:Addr):List (Addr×Obj):=(ZjY g h L).filter fun p=>decide (p.1≠d)
structure Mod (K:PySem.W.Frag) (mg:Str->Option Value) (base:Heap):Prop where
 kin:K.In base
 glob:base.Ns mainGlobals mg
 blt:∃ mb,base.Ns builtinsNs mb/\∀ x:Str,x ≠ "__name__" -> mb x=bootBuiltins x
 nolimit:base.NoLimit
structure Cx where
 prog:Program
 w:World
 K:PySem.W.Frag
 mg:Str->Option Value
 base:Heap
 A:Around
 N:List Str
 s₀:Shared
 H₀:Hp
 env:Env
 outer:List Env
 stack:List Env
 ex:List Addr
 fn:Str->Bool
 calm:Bool
 pn:List (Addr×Obj)
 xe:Value->Shared->Prop
noncomputable def frs (l:List Env):List Addr:=l.filterMap (·.frame)
noncomputable abbrev Cx.fs (X:Cx):List Addr:=frs X.outer
def Vis (sc:Scope) (x:Str):Prop:=sc.names.lookup x=some .local\/sc.names.lookup x=some .cell\/sc.names.lookup x=some .free
def Loc (sc:Scope) (x:Str):Prop:=sc.names.lookup x=some .local\/sc.names.lookup x=some .cell
def Look (env:Env) (h:Heap) (m:Str->Option Value) (x:Str) (u:Value):Prop :=
 (env.kindOf x=some .local/\m x=some u)\/((env.kindOf x=some .cell\/env.kindOf x=some .free)/\∃ c,env.cells.lookup x=some c/\h.IsCell c (some u))
structure Cx.Ok (X:Cx):Prop where
 mod:Mod X.K X.mg X.base
 kind:X.env.scope.kind=.function
 glob:X.env.globals=mainGlobals
 blt:X.env.builtins=builtinsNs
 above:X.s₀.heap.objs.size<=X.env.locals
 inj:∀ x y c,X.env.cells.lookup x=some c->X.env.cells.lookup y=some c->x=y
 has:∀ x,(X.env.kindOf x=some .cell\/X.env.kindOf x=some .free)->∃ c,X.env.cells.lookup x=some c
 cab:∀ x c,X.fn x=true->X.env.cells.lookup x=some c->X.s₀.heap.objs.size<=c
 hd:X.calm=true->X.A.handled=none
 frames:X.A.frames=some X.stack
 stk:X.stack=X.outer\/(X.stack=X.env::X.outer/\X.env.frame=some X.env.locals)
 exf:∀ b∈X.ex,b≠X.env.locals/\∀ x c,X.env.cells.lookup x=some c->c≠b
 bs:∀ b o,X.base.get? b=some o->X.s₀.heap.get? b=some o/\X.H₀ b=none
 bsz:X.base.objs.size<=X.s₀.heap.objs.size
 noex:∀ b o,X.base.get? b=some o->b∉X.ex
 exfs:∀ b∈X.ex,b∉X.fs
 funs:X.s₀.heap.FunFrames X.base X.outer
 frf:∀ b∈X.fs,X.H₀ b=none
structure Inv (X:Cx) (pins:List (Addr×Obj)) (σ:List (Option V)) (H:Hp) (s:Shared):Prop where
 ok:X.Ok
 os:s.os=X.s₀.os
 bare:AllBare s.gens
 base:Un X.fs X.ex X.H₀ H X.s₀.heap s.heap
 loc:∃ m,s.heap.Ns X.env.locals m/\∀ (i:Nat) (x:Str) (v:V),X.N[i]?=some x->σ[i]?=some (some v)->Vis X.env.scope x->∃ u,RelV v u/\Look X.env s.heap m x u
 cell:∀ x c,X.env.cells.lookup x=some c->∃ v,s.heap.IsCell c v
 free:H X.env.locals=none
 freeC:∀ x c,X.env.cells.lookup x=some c->H c=none
 pin:∀ p∈X.pn++pins,s.heap.get? p.1=some p.2/\H p.1=none/\p.1≠X.env.locals/\p.1∉X.fs/\∀ v,p.2.data≠.cell v
 hok:HOk X.prog X.w H s.heap
 len:σ.length=X.N.length
section
variable {X:Cx} {pins:List (Addr×Obj)} {σ:List (Option V)} {H H':Hp} {s:Shared} {h':Heap}
theorem Cx.Ok.nofr (ok:X.Ok) {b:Addr} {o:Obj} (e:X.base.get? b=some o):b∉X.fs:=fun hb=>by
 have:=(ok.funs.mem hb).1
 rw [e] at this;cases this
theorem Inv.bs (I:Inv X pins σ H s):∀ b o,X.base.get? b=some o->s.heap.get? b=some o/\H b=none:=fun b o e =>
 ⟨I.base.keep b o (I.ok.bs b o e).1 (I.ok.bs b o e).2 (I.ok.nofr e) (I.ok.noex b o e),I.base.free b o (I.ok.bs b o e).1 (I.ok.bs b o e).2 (I.ok.noex b o e)⟩
theorem Inv.bk (I:Inv X pins σ H s):∀ b o,X.base.get? b=some o->s.heap.get? b=some o:=fun b o e=>(I.bs b o e).1
theorem Inv.mod (I:Inv X pins σ H s):Mod X.K X.mg X.base:=I.ok.mod
theorem Inv.kIn (I:Inv X pins σ H s):X.K.In s.heap:=I.ok.mod.kin.keeps I.bk
theorem Inv.nolimit (I:Inv X pins σ H s):s.heap.NoLimit:=I.ok.mod.nolimit.keeps I.bk
theorem Inv.fr (I:Inv X pins σ H s):∃ m,Fr X.base X.env.locals s.heap m :=
 let ⟨m,hn,_⟩:=I.loc
 ⟨m,hn,I.bk,Nat.le_trans I.ok.bsz I.ok.above⟩
theorem Inv.lt (I:Inv X pins σ H s):X.env.locals<s.heap.objs.size:=let ⟨_,hn,_⟩:=I.loc;hn.lt
theorem Inv.sz (I:Inv X pins σ H s):X.s₀.heap.objs.size<=s.heap.objs.size:=Nat.le_trans I.ok.above (Nat.le_of_lt I.lt)
theorem Inv.nofs (I:Inv X pins σ H s) {a:Addr} (h:s.heap.objs.size<=a):a∉X.fs:=fun hb=>by
 obtain ⟨_,o,ho,_⟩:=I.ok.funs.mem hb
 exact absurd (Nat.lt_of_lt_of_le (Heap.lt_size ho) (Nat.le_trans I.sz h)) (Nat.lt_irrefl _)
theorem Inv.cne (I:Inv X pins σ H s):∀ x c,X.env.cells.lookup x=some c->c≠X.env.locals:=fun x c e z=>by
 obtain ⟨v,o,ho,hd⟩:=I.cell x c e
 obtain ⟨m,⟨o',es,ep,ho',hd',_⟩,_⟩:=I.loc
 rw [z,ho'] at ho;cases ho;rw [hd'] at hd;cases hd
theorem Inv.funs (I:Inv X pins σ H s):s.heap.FunFrames X.base X.outer:=by
 have all:∀ (l:List Env),(∀ b∈frs l,b∈X.fs)->X.s₀.heap.FunFrames X.base l->s.heap.FunFrames X.base l:=by
  intro l
  induction l with
  | nil=>intro _ _;trivial
  | cons env r ih =>
   intro hs hl
   obtain ⟨hk,⟨L,o,hf,hn,ho,hd⟩,hr⟩:=hl
   have hL:L∈X.fs:=hs L (by unfold frs;rw [List.filterMap_cons,hf];exact List.mem_cons_self)
   obtain ⟨sl,e⟩:=I.base.slot L o ho (I.ok.frf L hL) hL fun z=>I.ok.exfs L z hL
   exact ⟨hk,⟨L,_,hf,hn,e,hd⟩,ih (fun b hb=>hs b (by unfold frs;rw [List.filterMap_cons,hf];exact List.mem_cons_of_mem _ hb)) hr⟩
 exact all X.outer (fun _ hb=>hb) I.ok.funs
theorem Inv.stack (I:Inv X pins σ H s):s.heap.FunFrames X.base X.stack:=by
 rcases I.ok.stk with e|⟨e,hf⟩
 .rw [e];exact I.funs
 .rw [e]
  obtain ⟨m,hn,_⟩:=I.loc
  refine .cons (by rw [I.ok.kind];decide) hf hn ?_ I.funs
  exact Heap.get?_none_of_le (Nat.le_trans I.ok.bsz I.ok.above)
theorem Inv.stkSub (I:Inv X pins σ H s):∀ b∈frs X.stack,b∈X.env.locals::X.fs:=fun b hb=>by
 rcases I.ok.stk with e|⟨e,hf⟩
 .rw [e] at hb;exact List.mem_cons_of_mem _ hb
 .rw [e] at hb
  unfold frs at hb
  rw [List.filterMap_cons,hf] at hb
  exact hb
theorem Inv.stkFree (I:Inv X pins σ H s):∀ b∈frs X.stack,H b=none:=fun b hb=>by
 rcases List.mem_cons.mp (I.stkSub b hb) with e|hb
 .rw [e];exact I.free
 .obtain ⟨_,o,ho,_⟩:=I.ok.funs.mem hb
  exact I.base.free b o ho (I.ok.frf b hb) fun z=>I.ok.exfs b z hb
theorem Inv.step {g':Array GenState} {t':Nat} {d':Drawn} {ch:List Addr} (I:Inv X pins σ H s)
  (hch:∀ b∈ch,(b∈X.ex\/X.s₀.heap.objs.size<=b)/\b≠X.env.locals/\(∀ x c,X.env.cells.lookup x=some c->c≠b)/\∀ p∈X.pn++pins,p.1≠b)
  (keep:∀ b o,b≠X.env.locals->b∉X.fs->b∉ch->s.heap.get? b=some o->H b=none->h'.get? b=some o)
  (slot:∀ b o,b≠X.env.locals->b∈X.fs->b∉ch->s.heap.get? b=some o->H b=none->∃ sl,h'.get? b=some { o with slots:=sl }) (free:∀ b o,b∉ch->s.heap.get? b=some o->H b=none->H' b=none)
  (there:∀ b o,b∉ch->s.heap.get? b=some o->∃ o',h'.get? b=some o')
  (tups:∀ b xs,H b=some (.tup xs)->H' b=some (.tup xs)) (frzs:∀ b o u,H b=some (.frz o u)->H' b=some (.frz o u)) (tbls:∀ b ps,H b=some (.tbl ps)->∃ more,H' b=some (.tbl (ps++more)))
  (ns:∀ m,s.heap.Ns X.env.locals m->h'.Ns X.env.locals m) (hok:HOk X.prog X.w H' h') (hg:AllBare g') :
  Inv X pins σ H' { s with heap:=h',gens:=g',drawn:=d',toks:=t' }:=by
 have neL:∀ b o,X.s₀.heap.get? b=some o->b≠X.env.locals:=fun b o e=>Nat.ne_of_lt (Nat.lt_of_lt_of_le (Heap.lt_size e) I.ok.above)
 have neC:∀ b o,X.s₀.heap.get? b=some o->b∉X.ex->b∉ch:=fun b o e hx hb=>by
  rcases (hch b hb).1 with z|z
  .exact hx z
  .exact absurd (Nat.lt_of_lt_of_le (Heap.lt_size e) z) (Nat.lt_irrefl _)
 have cellK:∀ x c,X.env.cells.lookup x=some c->∀ v,s.heap.IsCell c v->h'.IsCell c v:=fun x c e v ⟨o,ho,hd⟩=>by
  have nch:c∉ch:=fun z=>(hch c z).2.2.1 x c e rfl
  by_cases hc:c∈X.fs
  .obtain ⟨sl,q⟩:=slot c o (I.cne x c e) hc nch ho (I.freeC x c e)
   exact ⟨_,q,hd⟩
  .exact ⟨o,keep c o (I.cne x c e) hc nch ho (I.freeC x c e),hd⟩
 refine ⟨I.ok,I.os,hg,⟨fun b o e n hb hx=>?_,fun b o e n hb hx=>?_,fun b o e n hx=>?_,fun b o e hx=>?_,fun b xs e=>tups b xs (I.base.tups b xs e),fun b o xs e=>frzs b o xs (I.base.frzs b o xs e),fun b ps e=>?_⟩,?_,fun x c e=>?_,?_,fun x c e=>?_,fun p hp=>?_,hok,I.len⟩
 .exact keep b o (neL b o e) hb (neC b o e hx) (I.base.keep b o e n hb hx) (I.base.free b o e n hx)
 .obtain ⟨sl,e1⟩:=I.base.slot b o e n hb hx
  obtain ⟨sl',e2⟩:=slot b _ (neL b o e) hb (neC b o e hx) e1 (I.base.free b o e n hx)
  exact ⟨sl',e2⟩
 .obtain ⟨o',e1⟩:=I.base.there b o e hx
  exact free b o' (neC b o e hx) e1 (I.base.free b o e n hx)
 .obtain ⟨o',e1⟩:=I.base.there b o e hx
  exact there b o' (neC b o e hx) e1
 .obtain ⟨m1,e1⟩:=I.base.tbls b ps e
  obtain ⟨m2,e2⟩:=tbls b _ e1
  exact ⟨m1++m2,by rw [e2,Array.append_assoc]⟩
 .obtain ⟨m,hn,hl⟩:=I.loc
  refine ⟨m,ns m hn,fun i x v e1 e2 e3=>?_⟩
  obtain ⟨u,r,l⟩:=hl i x v e1 e2 e3
  refine ⟨u,r,?_⟩
  rcases l with l|⟨k,c,e,z⟩
  .exact .inl l
  .exact .inr ⟨k,c,e,cellK x c e _ z⟩
 .obtain ⟨v,z⟩:=I.cell x c e
  exact ⟨v,cellK x c e v z⟩
 .obtain ⟨m,⟨o,_,_,ho,_⟩,_⟩:=I.loc
  exact free _ o (fun z=>(hch _ z).2.1 rfl) ho I.free
 .obtain ⟨v,o,ho,hd⟩:=I.cell x c e
  exact free c o (fun z=>(hch c z).2.2.1 x c e rfl) ho (I.freeC x c e)
 .obtain ⟨e,n,ne,nf,d⟩:=I.pin p hp
  have nch:p.1∉ch:=fun z=>(hch p.1 z).2.2.2 p hp rfl
  exact ⟨keep p.1 p.2 ne nf nch e n,free p.1 p.2 nch e n,ne,nf,d⟩
theorem Inv.un {t':Nat} (I:Inv X pins σ H s) (u:Un X.fs [] H H' s.heap h') (hok:HOk X.prog X.w H' h'):Inv X pins σ H' { s with heap:=h',toks:=t' }:=by
 obtain ⟨m,⟨o,es,ep,ho,r⟩,_⟩:=id I.loc
 obtain ⟨sl,hL⟩:=u.any ho I.free (by simp)
 exact I.step (g':=s.gens) (d':=s.drawn) (ch:=[]) (fun _ z=>nomatch z) (fun b o _ hb _ e n=>u.keep b o e n hb (by simp)) (fun b o _ hb _ e n=>u.slot b o e n hb (by simp)) (fun b o _ e n=>u.free b o e n (by simp)) (fun b o _ e=>u.there b o e (by simp)) u.tups u.frzs u.tbls (fun m' hm=>by
  obtain ⟨o',es',ep',ho',r'⟩:=hm
  rw [ho] at ho';cases ho'
  exact ⟨_,es',ep',hL,r'⟩) hok I.bare
theorem Inv.call {g':Array GenState} {t':Nat} {d':Drawn} {ch:List Addr} (I:Inv X pins σ H s) (u:Un (frs X.stack) ch H H' s.heap h') (hok:HOk X.prog X.w H' h') (hg:AllBare g')
  (hch:∀ b∈ch,(b∈X.ex\/X.s₀.heap.objs.size<=b)/\b≠X.env.locals/\(∀ x c,X.env.cells.lookup x=some c->c≠b)/\∀ p∈X.pn++pins,p.1≠b) :
  Inv X pins σ H' { s with heap:=h',gens:=g',drawn:=d',toks:=t' }:=by
 obtain ⟨m,⟨o,es,ep,ho,r⟩,_⟩:=id I.loc
 obtain ⟨sl,hL⟩:=u.any ho I.free fun z=>(hch _ z).2.1 rfl
 exact I.step (ch:=ch) hch (fun b o hL hb hc e n=>u.keep b o e n (fun z=>(List.mem_cons.mp (I.stkSub b z)).elim hL hb) hc) (fun b o _ _ hc e n=>u.any e n hc) (fun b o hc e n=>u.free b o e n hc) (fun b o hc e=>u.there b o e hc) u.tups u.frzs u.tbls (fun m' hm=>by
  obtain ⟨o',es',ep',ho',r'⟩:=hm
  rw [ho] at ho';cases ho'
  exact ⟨_,es',ep',hL,r'⟩) hok hg
theorem Inv.turned {t':Nat} {it:Addr} (I:Inv X pins σ H s) (k:∀ b o,b≠it->s.heap.get? b=some o->h'.get? b=some o) (hn:H it=none) (hL:it≠X.env.locals)
  (h1:it∈X.ex\/X.s₀.heap.objs.size<=it) (h2:∀ x c,X.env.cells.lookup x=some c->c≠it) (h3:∀ p∈X.pn++pins,p.1≠it):Inv X pins σ H { s with heap:=h',toks:=t' }:=by
 have nit:∀ b u,H b=some u->b≠it:=fun b u e z=>by rw [z,hn] at e;cases e
 refine I.step (g':=s.gens) (d':=s.drawn) (ch:=[it]) (fun b hb=>?_) (fun b o _ _ hc e _=>k b o (fun z=>hc (by simp [z])) e) (fun b o _ _ hc e _=>⟨o.slots,k b o (fun z=>hc (by simp [z])) e⟩) (fun _ _ _ _ n=>n)
  (fun b o hc e=>⟨o,k b o (fun z=>hc (by simp [z])) e⟩) (fun _ _ e=>e) (fun _ _ _ e=>e) (fun b ps e=>⟨#[],by rw [e];simp⟩) (fun m hm=>?_) (fun b u e=>?_) I.bare
 .have e:b=it:=by simpa using hb
  subst e
  exact ⟨h1,hL,h2,h3⟩
 .obtain ⟨o,es,ep,ho,r⟩:=hm
  exact ⟨o,es,ep,k _ o (Ne.symm hL) ho,r⟩
 .refine (I.hok b u e).stay (fun c v hc q=>k c v ?_ q) (fun _ q=>q) fun _ _ q=>q
  rcases hc with z|z
  .rw [z];exact nit b u e
  .exact nit c _ z
theorem Inv.tok (I:Inv X pins σ H s) (t:Nat):Inv X pins σ H { s with toks:=t }:=I.un (h':=s.heap) (t':=t) Un.refl I.hok
theorem Inv.kept {t':Nat} (I:Inv X pins σ H s) (k:∀ b u,s.heap.get? b=some u->h'.get? b=some u):Inv X pins σ H { s with heap:=h',toks:=t' }:=I.un (Un.kept k) (I.hok.kept k)
theorem Inv.laid {a:Addr} {o:HO} {t':Nat} (I:Inv X pins σ H s) (k:∀ b u,s.heap.get? b=some u->h'.get? b=some u) (hp:s.heap.objs.size<=a) (new:ObjOk X.prog X.w (upd H a o) h' a o) :
  Inv X pins σ (upd H a o) { s with heap:=h',toks:=t' }:=I.un (Un.laid k hp (I.hok.fresh hp)) (I.hok.laid k hp new)
theorem Inv.write {x e:Addr} {o:HO} {t':Nat} (I:Inv X pins σ H s) (mu:Mut (H x)) (he:e=x\/H e=some (.own x)) (k:∀ b u,b≠e->s.heap.get? b=some u->h'.get? b=some u) (heo:∃ u,h'.get? e=some u)
  (new:ObjOk X.prog X.w (upd H x o) h' x o):Inv X pins σ (upd H x o) { s with heap:=h',toks:=t' }:=I.un (Un.write mu he k heo) (I.hok.write mu he k heo new)
theorem Inv.pins_of {pins':List (Addr×Obj)} (I:Inv X pins σ H s) (h:∀ p∈pins',s.heap.get? p.1=some p.2/\H p.1=none/\p.1≠X.env.locals/\p.1∉X.fs/\∀ v,p.2.data≠.cell v):Inv X pins' σ H s :=
 ⟨I.ok,I.os,I.bare,I.base,I.loc,I.cell,I.free,I.freeC,fun p hp=>(List.mem_append.mp hp).elim (fun z=>I.pin p (List.mem_append_left _ z)) (h p),I.hok,I.len⟩
theorem ZfH {N:List Str} (hN:N.Nodup) {i j:Nat} {x:Str} (a:N[i]?=some x) (b:N[j]?=some x):i=j:=by
 obtain ⟨h1,e1⟩:=List.getElem?_eq_some_iff.mp a
 obtain ⟨h2,e2⟩:=List.getElem?_eq_some_iff.mp b
 exact (List.getElem_inj hN).mp (e1.trans e2.symm)
theorem Zg5 {M:Model} {A:Around} {E:Value->Shared->Prop} {i:Nat} {x:Str} {v:V} {u:Value} {Q:Unit->Shared->Prop} (I:Inv X pins σ H s) (hN:X.N.Nodup) (hi:X.N[i]?=some x) (hx:Loc X.env.scope x) (r:RelV v u)
  (h:∀ s',Inv X pins (σ.set i (some v)) H s'->(∃ a,Heap.SameBut a s.heap s'.heap/\(a=X.env.locals\/X.env.cells.lookup x=some a))->Q () s') (hf:X.fn x=true\/X.env.scope.names.lookup x=some .local:=by first|exact .inl rfl|exact .inr rfl|assumption):wpAny M A (storeName X.env x u) Q E s:=by
 obtain ⟨m,hn,hl⟩:=id I.loc
 have hcls:(X.env.scope.kind==.class||(X.env.scope.kind==.module&&X.env.locals != X.env.globals))=false:=by rw [I.ok.kind];rfl
 have hiσ:i<σ.length:=by rw [I.len];exact (List.getElem?_eq_some_iff.mp hi).1
 have cne:=I.cne
 have tracked:∀ {a:Addr} {h':Heap},(∃ o,s.heap.get? a=some o/\H a=none)->Heap.SameBut a s.heap h'->HOk X.prog X.w H h':=fun {a h'} ha hs b ob e=>by
  obtain ⟨_,_,hfree⟩:=ha
  refine (I.hok b ob e).stay (fun c w' hc q=>(hs.2 c ?_).trans q) (fun _ q=>q) fun _ _ q=>q
  rintro rfl
  rcases hc with rfl|hc
  .rw [hfree] at e;cases e
  .rw [hfree] at hc;cases hc
 rcases hx with hk|hk
 .refine wpAny_storeName_local hk hn (fun h' hn' hs=>?_) hcls
  obtain ⟨oL,_,_,hoL,_⟩:=id hn
  refine h _ ⟨I.ok,I.os,I.bare,⟨fun b o e n hb hx=>?_,fun b o e n hb hx=>?_,I.base.free,fun b o e hx=>?_,I.base.tups,I.base.frzs,I.base.tbls⟩,⟨_,hn',fun j y v' e1 e2 e3=>?_⟩,fun y c e=>?_,I.free,I.freeC,fun p hp=>?_,tracked ⟨oL,hoL,I.free⟩ hs,by simpa using I.len⟩ ⟨_,hs,.inl rfl⟩
  .exact (hs.2 b (Nat.ne_of_lt (Nat.lt_of_lt_of_le (Heap.lt_size e) I.ok.above))).trans (I.base.keep b o e n hb hx)
  .obtain ⟨sl,e1⟩:=I.base.slot b o e n hb hx
   exact ⟨sl,(hs.2 b (Nat.ne_of_lt (Nat.lt_of_lt_of_le (Heap.lt_size e) I.ok.above))).trans e1⟩
  .obtain ⟨o',e1⟩:=I.base.there b o e hx
   exact ⟨o',(hs.2 b (Nat.ne_of_lt (Nat.lt_of_lt_of_le (Heap.lt_size e) I.ok.above))).trans e1⟩
  .by_cases hj:j=i
   .subst hj
    rw [hi] at e1;cases e1
    rw [List.getElem?_set_self hiσ] at e2
    cases e2
    exact ⟨u,r,.inl ⟨hk,by simp⟩⟩
   .rw [List.getElem?_set_ne (Ne.symm hj)] at e2
    obtain ⟨u',r',q⟩:=hl j y v' e1 e2 e3
    refine ⟨u',r',?_⟩
    rcases q with ⟨k,e⟩|⟨k,c,e,z⟩
    .refine .inl ⟨k,?_⟩
     have:y≠x:=fun e=>hj (ZfH hN e1 (e▸hi))
     simp [this,e]
    .exact .inr ⟨k,c,e,z.sameBut hs (cne y c e)⟩
  .obtain ⟨w',z⟩:=I.cell y c e
   exact ⟨w',z.sameBut hs (cne y c e)⟩
  .obtain ⟨e,n,ne,nf,d⟩:=I.pin p hp
   exact ⟨(hs.2 p.1 ne).trans e,n,ne,nf,d⟩
 .have hfn:X.fn x=true:=by
   rcases hf with z|z
   .exact z
   .rw [z] at hk;cases hk
  obtain ⟨c,hc⟩:=I.ok.has x (.inl hk)
  obtain ⟨w',z⟩:=I.cell x c hc
  refine wpAny_storeName_cell I.ok.kind hk hc z (fun h' hc' hs=>?_)
  obtain ⟨oc,hoc,hocd⟩:=id z
  refine h { s with heap:=h' } ⟨I.ok,I.os,I.bare,⟨fun b o e n hb hx=>?_,fun b o e n hb hx=>?_,I.base.free,fun b o e hx=>?_,I.base.tups,I.base.frzs,I.base.tbls⟩,⟨m,hn.sameBut hs (Ne.symm (cne x c hc)),fun j y v' e1 e2 e3=>?_⟩,fun y c' e=>?_,I.free,I.freeC,fun p hp=>?_,tracked ⟨oc,hoc,I.freeC x c hc⟩ hs,by simpa using I.len⟩ ⟨c,hs,.inr hc⟩
  .exact (hs.2 b (Nat.ne_of_lt (Nat.lt_of_lt_of_le (Heap.lt_size e) (I.ok.cab x c hfn hc)))).trans (I.base.keep b o e n hb hx)
  .obtain ⟨sl,e1⟩:=I.base.slot b o e n hb hx
   exact ⟨sl,(hs.2 b (Nat.ne_of_lt (Nat.lt_of_lt_of_le (Heap.lt_size e) (I.ok.cab x c hfn hc)))).trans e1⟩
  .obtain ⟨o',e1⟩:=I.base.there b o e hx
   exact ⟨o',(hs.2 b (Nat.ne_of_lt (Nat.lt_of_lt_of_le (Heap.lt_size e) (I.ok.cab x c hfn hc)))).trans e1⟩
  .by_cases hj:j=i
   .subst hj
    rw [hi] at e1;cases e1
    rw [List.getElem?_set_self hiσ] at e2
    cases e2
    exact ⟨u,r,.inr ⟨.inl hk,c,hc,hc'⟩⟩
   .rw [List.getElem?_set_ne (Ne.symm hj)] at e2
    obtain ⟨u',r',q⟩:=hl j y v' e1 e2 e3
    refine ⟨u',r',?_⟩
    rcases q with q|⟨k,c',e,z'⟩
    .exact .inl q
    .refine .inr ⟨k,c',e,z'.sameBut hs ?_⟩
     rintro rfl
     exact hj (ZfH hN e1 (I.ok.inj _ _ _ e hc▸hi))
  .by_cases hcc:c'=c
   .subst hcc;exact ⟨_,hc'⟩
   .obtain ⟨w2,z2⟩:=I.cell y c' e
    exact ⟨w2,z2.sameBut hs hcc⟩
  .obtain ⟨e,n,ne,nf,d⟩:=I.pin p hp
   refine ⟨(hs.2 p.1 ?_).trans e,n,ne,nf,d⟩
   intro q
   rw [q,hoc] at e
   have q':oc=p.2:=Option.some.inj e
   exact d w' (by rw [<- q'];exact hocd)
theorem ZfI {M:Model} {A:Around} {E:Value->Shared->Prop} {i:Nat} {x:Str} {v:V} {u:Value} {Q:Unit->Shared->Prop} (I:Inv X pins σ H s) (hN:X.N.Nodup) (hi:X.N[i]?=some x) (hx:Loc X.env.scope x) (r:RelV v u)
  (h:∀ s',Inv X pins (σ.set i (some v)) H s'->Q () s') (hf:X.fn x=true\/X.env.scope.names.lookup x=some .local:=by first|exact .inl rfl|exact .inr rfl|assumption):wpAny M A (storeName X.env x u) Q E s :=
 Zg5 I hN hi hx r (fun s' I' _=>h s' I') hf
theorem Inv.call' {s':Shared} {ch:List Addr} (I:Inv X pins σ H s) (ho:s'.os=s.os) (u:Un (frs X.stack) ch H H' s.heap s'.heap) (hok:HOk X.prog X.w H' s'.heap) (hg:AllBare s'.gens)
  (hch:∀ b∈ch,(b∈X.ex\/X.s₀.heap.objs.size<=b)/\b≠X.env.locals/\(∀ x c,X.env.cells.lookup x=some c->c≠b)/\∀ p∈X.pn++pins,p.1≠b):Inv X pins σ H' s':=by
 obtain ⟨h',g',d',t',o'⟩:=s'
 have e:o'=s.os:=ho
 subst e
 exact I.call (g':=g') (t':=t') (d':=d') u hok hg hch
end
abbrev XK:=Value->Option Addr->Hp->Prop
abbrev St:=List (Option V)
abbrev VK:=V->Hp->Prop
abbrev TE:=St->Hp->VK->Prop
abbrev TT:=St->Hp->(Bool->Hp->Prop)->Prop
abbrev TA:=St->Hp->(List V->Hp->Prop)->Prop
structure Ends where
 nx:St->Hp->Prop
 rt:VK
 bk:St->Hp->Prop:=fun _ _=>False
 ct:St->Hp->Prop:=fun _ _=>False
abbrev TS:=Ends->St->Hp->Prop
def EP (X:Cx) (pins:List (Addr×Obj)) (σ:St) (Q:VK) (u:Value) (s':Shared):Prop:=∃ v H',Inv X pins σ H' s'/\RelV v u/\Q v H'
def TP (X:Cx) (pins:List (Addr×Obj)) (σ:St) (Q:Bool->Hp->Prop) (b:Bool) (s':Shared):Prop:=∃ H',Inv X pins σ H' s'/\Q b H'
def AP (X:Cx) (pins:List (Addr×Obj)) (σ:St) (Q:List V->Hp->Prop) (us:List Value) (s':Shared):Prop:=∃ vs H',Inv X pins σ H' s'/\Vals vs us/\Q vs H'
def SP (X:Cx) (pins:List (Addr×Obj)) (D:Ends) (f:Flow) (s':Shared):Prop :=
 match f with
 | .next=>∃ σ' H',Inv X pins σ' H' s'/\D.nx σ' H'
 | .brk=>∃ σ' H',Inv X pins σ' H' s'/\D.bk σ' H'
 | .cont=>∃ σ' H',Inv X pins σ' H' s'/\D.ct σ' H'
 | .ret u=>∃ v σ' H',Inv X pins σ' H' s'/\RelV v u/\D.rt v H'
def PE (X:Cx) (e:Expr) (t:TE):Prop :=
 ∀ (pins:List (Addr×Obj)) (s:Shared) (σ:St) (H:Hp) (Q:VK),Inv X pins σ H s->t σ H Q->wpAny (model X.prog X.w) X.A (eval e X.env) (EP X pins σ Q) X.xe s
def PT (X:Cx) (e:Expr) (t:TT):Prop :=
 ∀ (pins:List (Addr×Obj)) (s:Shared) (σ:St) (H:Hp) (Q:Bool->Hp->Prop),Inv X pins σ H s->t σ H Q->wpAny (model X.prog X.w) X.A (isTrue e X.env (eval e X.env)) (TP X pins σ Q) X.xe s
def PW (X:Cx) (e:Expr) (t:TT):Prop :=
 ∀ (whole:Sem Value) (pins:List (Addr×Obj)) (s:Shared) (σ:St) (H:Hp) (Q:Bool->Hp->Prop),Inv X pins σ H s->t σ H Q->wpAny (model X.prog X.w) X.A (isTrue e X.env whole) (TP X pins σ Q) X.xe s
theorem PW.pt {X:Cx} {e:Expr} {t:TT} (h:PW X e t):PT X e t:=h _
def PA (X:Cx) (es:List Expr) (t:TA):Prop :=
 ∀ (pos:Pos) (pins:List (Addr×Obj)) (s:Shared) (σ:St) (H:Hp) (Q:List V->Hp->Prop),Inv X pins σ H s->t σ H Q->wpAny (model X.prog X.w) X.A (spliced (backTo pos (starEach es X.env))) (AP X pins σ Q) X.xe s
def PS (X:Cx) (st:Stmt) (t:TS):Prop :=
 ∀ (pins:List (Addr×Obj)) (s:Shared) (σ:St) (H:Hp) (D:Ends),Inv X pins σ H s->t D σ H->wpAny (model X.prog X.w) X.A (exec st X.env) (SP X pins D) X.xe s
def PSs (X:Cx) (st:List Stmt) (t:TS):Prop :=
 ∀ (pins:List (Addr×Obj)) (s:Shared) (σ:St) (H:Hp) (D:Ends),Inv X pins σ H s->t D σ H->wpAny (model X.prog X.w) X.A (execs st X.env) (SP X pins D) X.xe s
theorem thn {α:Type} {t:Sem α} {Q Q':α->Shared->Prop} {M:Model} {A:Around} {E:Value->Shared->Prop} {s:Shared} (h:wpAny M A t Q E s) (hQ:∀ a s,Q a s->Q' a s):wpAny M A t Q' E s:=wpAny_mono h hQ fun _ _ x=>x
section
variable {X:Cx}
theorem bin {a b:Expr} {ta tb:TE} (ha:PE X a ta) (hb:PE X b tb) {pins:List (Addr×Obj)} {s:Shared} {σ:St} {H:Hp} {R:V->V->Hp->Prop} (I:Inv X pins σ H s) (h:ta σ H fun x H1=>tb σ H1 fun y H2=>R x y H2)
  {α:Type} {Q:α->Shared->Prop} {f:Value->Value->Sem α}
  (hf:∀ v u s2 x y H2,Inv X pins σ H2 s2->RelV x v->RelV y u->R x y H2->wpAny (model X.prog X.w) X.A (f v u) Q X.xe s2) :
  wpAny (model X.prog X.w) X.A (eval a X.env) (fun v s₁=>wpAny (model X.prog X.w) X.A (eval b X.env) (fun u s₂=>wpAny (model X.prog X.w) X.A (f v u) Q X.xe s₂) X.xe s₁) X.xe s:=by
 refine thn (ha pins s σ H _ I h) fun v s1 ⟨x,H1,I1,r1,q1⟩=>?_
 refine thn (hb pins s1 σ H1 _ I1 q1) fun u s2 ⟨y,H2,I2,r2,q2⟩=>?_
 exact hf v u s2 x y H2 I2 r1 r2 q2
def tVar (i:Nat):TE:=fun σ H Q=>∃ v,σ[i]?=some (some v)/\Q v H
def tC (v:V):TE:=fun _ H Q=>Q v H
theorem pe_var {i:Nat} {x:Str} {pos:Pos} (hN:X.N[i]?=some x) (hv:Vis X.env.scope x) (hd:(x==("__debug__" : Str))=false:=by decide) (hcd:(x==("__classdict__" : Str))=false:=by decide):PE X (.Name x pos) (tVar i):=by
 intro pins s σ H Q I h
 obtain ⟨v,e,h⟩:=h
 obtain ⟨m,hn,hl⟩:=I.loc
 obtain ⟨u,r,l⟩:=hl i x v hN e hv
 have fin:EP X pins σ Q u s:=⟨v,H,I,r,h⟩
 rcases l with ⟨hk,hm⟩|⟨hk,c,hc,hcell⟩
 .exact wpAny_Name (wpAny_loadName_local I.ok.kind hk hn hm fin) hd
 .rcases hk with hk|hk
  .exact wpAny_Name (wpAny_loadName_cell I.ok.kind hk hc hcell fin) hd
  .exact wpAny_Name (wpAny_loadName_free I.ok.kind hk hc hcell fin hcd) hd
theorem Zah {i j pos}:PE X (.Constant (.int i) j pos) (tC (.int i)):=fun _ _ _ H _ I h=>wpAny_Constant_int ⟨.int i,H,I.tok _,⟨_,rfl⟩,h⟩
theorem ZcB {b j pos}:PE X (.Constant (.bool b) j pos) (tC (.bl b)):=fun _ _ _ H _ I h=>Constant_bool ⟨.bl b,H,I,rfl,h⟩
theorem Zg6 {j pos}:PE X (.Constant .none j pos) (tC .non):=fun _ _ _ H _ I h=>Constant_none ⟨.non,H,I,rfl,h⟩
theorem Zbb {x j pos}:PE X (.Constant (.str x) j pos) (tC (.str x)):=fun _ _ _ H _ I h=>Calls.Constant_str ⟨.str x,H,I.tok _,⟨_,rfl⟩,h⟩
def Gl (X:Cx) (x:Str):Prop:=X.env.kindOf x=some .globalImplicit
theorem Zfi {E:Value->Shared->Prop} {pins:List (Addr×Obj)} {s:Shared} {σ:St} {H:Hp} {x:Str} {u:Value} {pos:Pos} {Q:Value->Shared->Prop} (I:Inv X pins σ H s) (hg:Gl X x) (hm:X.mg x=some u) (h:Q u s)
  (hd:(x==("__debug__" : Str))=false:=by decide):wpAny (model X.prog X.w) X.A (eval (.Name x pos) X.env) Q E s :=
 Calls.Name_function_global I.ok.kind hg (Calls.loadGlobal_global (by rw [I.ok.glob];exact I.mod.glob.keeps I.bk) hm h) hd
theorem ZfJ {E:Value->Shared->Prop} {pins:List (Addr×Obj)} {s:Shared} {σ:St} {H:Hp} {x:Str} {u:Value} {pos:Pos} {Q:Value->Shared->Prop} (I:Inv X pins σ H s) (hg:Gl X x) (hm:X.mg x=none) (hv:bootBuiltins x=some u) (h:Q u s)
  (hn:x ≠ "__name__" := by decide) (hd:(x==("__debug__" : Str))=false:=by decide):wpAny (model X.prog X.w) X.A (eval (.Name x pos) X.env) Q E s:=by
 obtain ⟨mb,h1,h2⟩:=I.mod.blt
 exact Calls.Name_function_global I.ok.kind hg (Calls.loadGlobal_builtin (by rw [I.ok.glob];exact I.mod.glob.keeps I.bk) hm (by rw [I.ok.blt];exact h1.keeps I.bk) ((h2 x hn).trans hv) h) hd
theorem ZjZ {x:Str} {v:V} {u:Value} {pos:Pos} (hg:Gl X x) (hm:X.mg x=some u) (r:RelV v u) (hd:(x==("__debug__" : Str))=false:=by decide):PE X (.Name x pos) (tC v) :=
 fun _ _ _ H _ I h=>Zfi I hg hm ⟨v,H,I,r,h⟩ hd
theorem Zj0 {x:Str} {v:V} {u:Value} {pos:Pos} (hg:Gl X x) (hm:X.mg x=none) (hv:bootBuiltins x=some u) (r:RelV v u) (hn:x ≠ "__name__" := by decide) (hd:(x==("__debug__" : Str))=false:=by decide):PE X (.Name x pos) (tC v) :=
 fun _ _ _ H _ I h=>ZfJ I hg hm hv ⟨v,H,I,r,h⟩ hn hd
def t2I (ta tb:TE) (k:Int->Int->Hp->Prop):St->Hp->Prop:=fun σ H=>ta σ H fun x H1=>tb σ H1 fun y H2=>∃ i j,x=.int i/\y=.int j/\k i j H2
variable {a b:Expr} {ta tb:TE} {pos:Pos}
def PC (X:Cx) (op:CmpOp) (a b:Expr) (t:TE):Prop :=
 ∀ (pins:List (Addr×Obj)) (s:Shared) (σ:St) (H:Hp) (Q:VK),Inv X pins σ H s->t σ H Q ->
  wpAny (model X.prog X.w) X.A (eval a X.env) (fun v s₁=>wpAny (model X.prog X.w) X.A (eval b X.env) (fun u s₂=>wpAny (model X.prog X.w) X.A (compareOp op v u) (EP X pins σ Q) X.xe s₂) X.xe s₁) X.xe s
theorem Ziz (b:Expr) {op:CmpOp} (h:op≠.In) (h2:op≠.NotIn):behindInMarks op b=false:=by
 have e1:(op==CmpOp.In)=false:=by cases op<;>first|rfl|exact absurd rfl h
 have e2:(op==CmpOp.NotIn)=false:=by cases op<;>first|rfl|exact absurd rfl h2
 cases b<;>simp [behindInMarks,e1,e2]
def tCmp (p:Int->Int->Bool) (ta tb:TE):TE:=fun σ H Q=>t2I ta tb (fun i j H2=>Q (.bl (p i j)) H2) σ H
abbrev tLt:TE->TE->TE:=tCmp fun i j=>decide (i<j)
abbrev tLe:TE->TE->TE:=tCmp fun i j=>decide (i<=j)
abbrev tGt:TE->TE->TE:=tCmp fun i j=>decide (j<i)
abbrev tGe:TE->TE->TE:=tCmp fun i j=>decide (j<=i)
abbrev tEqI:TE->TE->TE:=tCmp fun i j=>decide (i=j)
abbrev tNeI:TE->TE->TE:=tCmp fun i j=>!decide (i=j)
def tB (t:TE):TT:=fun σ H Q=>t σ H fun x H1=>∃ c,x=.bl c/\Q c H1
theorem pt_cmp {op:CmpOp} {t:TE} (h:PC X op a b t) (h1:behindInMarks op b=false:=by first|exact Ziz _ (by decide) (by decide)|rfl):PT X (.Compare a [op] [b] pos) (tB t):=by
 intro pins s σ H Q I hw
 refine wpAny_isTrue_Compare1 (thn (h pins s σ H _ I hw) fun v s1 h1=>thn h1 fun u s2 h2=>thn h2 fun c s3 ⟨x,H1,I1,r1,q1⟩=>?_) h1
 obtain ⟨d,rfl,q⟩:=q1
 cases r1
 exact wpAny_truthy_bool ⟨H1,I1,q⟩
theorem Zc5 {e:Expr} {t:TE} (h:PE X e t) (he:∀ whole,isTrue e X.env whole=(do let v <- whole;standAt e.pos;holding [v] (truthy v)):=by intro _;rfl):PT X e (tB t):=by
 intro pins s σ H Q I hw
 refine isTrue_plain (thn (h pins s σ H _ I hw) fun v s1 ⟨x,H1,I1,r1,q1⟩=>?_) (he _)
 obtain ⟨d,rfl,q⟩:=q1
 cases r1
 exact wpAny_truthy_bool ⟨H1,I1,q⟩
variable {tA tB':TT} {rest:List Expr}
def tAnd (t u:TT):TT:=fun σ H Q=>t σ H fun c H1=>if c=true then u σ H1 Q else Q false H1
def tOr (t u:TT):TT:=fun σ H Q=>t σ H fun c H1=>if c=true then Q true H1 else u σ H1 Q
def tNot (t:TT):TT:=fun σ H Q=>t σ H fun c H1=>Q (!c) H1
theorem Zce (ha:PT X a tA):PW X (.BoolOp .And [a] pos) tA:=by
 intro wh pins s σ H Q I h
 refine isTrue_and (thn (ha pins s σ H Q I h) fun c s1 e=>?_)
 cases c with
 | true=>exact isTrue_and_nil e
 | false=>exact e
theorem Zg7 (ha:PT X a tA):PW X (.BoolOp .Or [a] pos) tA:=by
 intro wh pins s σ H Q I h
 refine isTrue_or (thn (ha pins s σ H Q I h) fun c s1 e=>?_)
 cases c with
 | false=>exact isTrue_or_nil e
 | true=>exact e
theorem Zcr (ha:PT X a tA) (hb:PW X (.BoolOp .And (b::rest) pos) tB'):PW X (.BoolOp .And (a::b::rest) pos) (tAnd tA tB'):=by
 intro wh pins s σ H Q I h
 refine isTrue_and (thn (ha pins s σ H _ I h) fun c s1 ⟨H1,I1,q1⟩=>?_)
 cases c with
 | true=>exact hb wh pins s1 σ H1 Q I1 q1
 | false=>exact ⟨H1,I1,q1⟩
theorem Zj1 (ha:PT X a tA) (hb:PW X (.BoolOp .Or (b::rest) pos) tB'):PW X (.BoolOp .Or (a::b::rest) pos) (tOr tA tB'):=by
 intro wh pins s σ H Q I h
 refine isTrue_or (thn (ha pins s σ H _ I h) fun c s1 ⟨H1,I1,q1⟩=>?_)
 cases c with
 | true=>exact ⟨H1,I1,q1⟩
 | false=>exact hb wh pins s1 σ H1 Q I1 q1
theorem ZdO (ha:PT X a tA):PT X (.UnaryOp .Not a pos) (tNot tA):=by
 intro pins s σ H Q I h
 exact isTrue_not (ha pins s σ H (fun c H1=>Q (!c) H1) I h)
def tAndV (ta tb:TE):TE:=fun σ H Q=>ta σ H fun x H1=>∃ c,x=.bl c/\if c=true then tb σ H1 Q else Q (.bl false) H1
def tNotV (ta:TE):TE:=fun σ H Q=>ta σ H fun x H1=>∃ c,x=.bl c/\Q (.bl (!c)) H1
theorem ZjF {op} {t:TE} (h:PE X a t):PE X (.BoolOp op [a] pos) t:=fun pins s σ H Q I hw=>BoolOp_one (h pins s σ H Q I hw)
theorem ZfK (ha:PE X a ta) (hb:PE X (.BoolOp .And (b::rest) pos) tb):PE X (.BoolOp .And (a::b::rest) pos) (tAndV ta tb):=by
 intro pins s σ H Q I h
 refine BoolOp_and (thn (ha pins s σ H _ I h) fun v s1 ⟨x,H1,I1,r1,q1⟩=>?_)
 obtain ⟨c,rfl,q1⟩:=q1
 cases r1
 refine wpAny_truthy_bool ?_
 cases c with
 | true=>exact hb pins s1 σ H1 Q I1 q1
 | false=>exact ⟨.bl false,H1,I1,rfl,q1⟩
theorem ZjG (ha:PE X a ta):PE X (.UnaryOp .Not a pos) (tNotV ta):=by
 intro pins s σ H Q I h
 refine UnaryOp_ (thn (ha pins s σ H _ I h) fun v s1 ⟨x,H1,I1,r1,q1⟩=>?_)
 obtain ⟨c,rfl,q1⟩:=q1
 cases r1
 exact not_of (wpAny_truthy_bool ⟨.bl (!c),H1,I1,rfl,q1⟩)
end
def SqL (K:PySem.W.Frag) (H:Hp) (a:Addr) (xs:List V):Prop :=
 Rd H a (.lst xs) \/
  ∃ (o:Obj) (its:Array Value) (n:Nat),K.lookup a=some o/\o.cls=.type "list" /\ o.dict=none/\o.data=.seq its n/\its.size<=sizeLine/\Vals xs its.toList
def SqT (K:PySem.W.Frag) (H:Hp) (a:Addr) (xs:List V):Prop :=
 Rd H a (.tup xs) \/
  ∃ (o:Obj) (its:Array Value) (n:Nat),K.lookup a=some o/\o.cls=.type "tuple" /\ o.data=.seq its n/\its.size<=sizeLine/\Vals xs its.toList
noncomputable def absV:Value->Option V
 | .none=>some .non
 | .bool b=>some (.bl b)
 | .int i _=>some (.int i)
 | .str x _=>some (.str x)
 | .bytes b _=>some (.byt b)
 | .float b _=>some (.flt b)
 | .ref a=>some (.ref a)
 | .type n=>some (.ty n)
 | _=>none
theorem RelV.abs {x:V} {u:Value} (r:RelV x u):absV u=some x:=by
 cases x with
 | non=>cases r;rfl
 | bl _=>cases r;rfl
 | int _=>obtain ⟨t,rfl⟩:=r;rfl
 | str _=>obtain ⟨t,rfl⟩:=r;rfl
 | byt _=>obtain ⟨t,rfl⟩:=r;rfl
 | flt _=>obtain ⟨t,rfl⟩:=r;rfl
 | ref _=>cases r;rfl
 | ty _=>cases r;rfl
theorem RelV.inj {x y:V} {u:Value} (r:RelV x u) (q:RelV y u):x=y:=Option.some.inj (r.abs.symm.trans q.abs)
theorem Vals.inj:∀ {xs ys:List V} {us:List Value},Vals xs us->Vals ys us->xs=ys
 | _,_,_,.nil,.nil=>rfl
 | _,_,_,.cons r t,.cons r' t'=>by rw [r.inj r',Vals.inj t t']
section
variable {X:Cx} {pins:List (Addr×Obj)} {σ:St} {H:Hp} {s:Shared} {a:Addr} {xs ys:List V}
theorem SqL.of {K:PySem.W.Frag} (h:H a=some (.lst xs)):SqL K H a xs:=.inl (.inl h)
theorem SqT.of {K:PySem.W.Frag} (h:H a=some (.tup xs)):SqT K H a xs:=.inl (.inl h)
theorem Inv.list (I:Inv X pins σ H s) (h:SqL X.K H a xs):∃ its:List Value,Vals xs its/\PlainL s.heap a its.toArray/\xs.length<=sizeLine:=by
 rcases h with h|⟨o,its,n,hk,hc,hd,hs,hz,r⟩
 .obtain ⟨z,its,n,r,e⟩:=h.ok I.hok
  exact ⟨its,r,⟨_,n,e,rfl,rfl,rfl⟩,z⟩
 .refine ⟨its.toList,r,⟨o,n,I.kIn a o hk,hc,hd,by simpa using hs⟩,?_⟩
  have e:=r.length
  simp only [Array.length_toList] at e
  omega
theorem Inv.tuple (I:Inv X pins σ H s) (h:SqT X.K H a xs):∃ its:List Value,Vals xs its/\IsTup s.heap a its.toArray/\xs.length<=sizeLine:=by
 rcases h with h|⟨o,its,n,hk,hc,hs,hz,r⟩
 .obtain ⟨z,its,r,p⟩:=h.ok I.hok
  exact ⟨its,r,p,z⟩
 .refine ⟨its.toList,r,⟨o,I.kIn a o hk,hc,n,by simpa using hs⟩,?_⟩
  have e:=r.length
  simp only [Array.length_toList] at e
  omega
theorem Inv.list_inj (I:Inv X pins σ H s) (h:SqL X.K H a xs) (h':SqL X.K H a ys):xs=ys:=by
 obtain ⟨its,r,⟨o,n,e,_,_,d⟩,_⟩:=I.list h
 obtain ⟨its',r',⟨o',n',e',_,_,d'⟩,_⟩:=I.list h'
 rw [e] at e';cases e'
 rw [d] at d'
 injection d' with d1 _
 have:its=its':=by simpa using congrArg Array.toList d1
 subst this
 exact r.inj r'
theorem Inv.tuple_inj (I:Inv X pins σ H s) (h:SqT X.K H a xs) (h':SqT X.K H a ys):xs=ys:=by
 obtain ⟨its,r,⟨o,e,_,n,d⟩,_⟩:=I.tuple h
 obtain ⟨its',r',⟨o',e',_,n',d'⟩,_⟩:=I.tuple h'
 rw [e] at e';cases e'
 rw [d] at d'
 injection d' with d1 _
 have:its=its':=by simpa using congrArg Array.toList d1
 subst this
 exact r.inj r'
end
noncomputable abbrev Cx.wish (X:Cx) (E:Value->Shared->Prop):Cx:={ X with xe:=E }
noncomputable abbrev Cx.nox (X:Cx):Cx:=X.wish fun _ _=>False
theorem Cx.Ok.wish {X:Cx} (ok:X.Ok) (E:Value->Shared->Prop):(X.wish E).Ok :=
 ⟨ok.mod,ok.kind,ok.glob,ok.blt,ok.above,ok.inj,ok.has,ok.cab,ok.hd,ok.frames,ok.stk,ok.exf,ok.bs,ok.bsz,ok.noex,ok.exfs,ok.funs,ok.frf⟩
theorem Cx.Ok.unwish {X:Cx} {E:Value->Shared->Prop} (ok:(X.wish E).Ok):X.Ok :=
 ⟨ok.mod,ok.kind,ok.glob,ok.blt,ok.above,ok.inj,ok.has,ok.cab,ok.hd,ok.frames,ok.stk,ok.exf,ok.bs,ok.bsz,ok.noex,ok.exfs,ok.funs,ok.frf⟩
section
variable {X:Cx} {pins:List (Addr×Obj)} {σ:St} {H:Hp} {s:Shared} {E:Value->Shared->Prop}
theorem Inv.wish (I:Inv X pins σ H s) (E:Value->Shared->Prop):Inv (X.wish E) pins σ H s:=⟨I.ok.wish E,I.os,I.bare,I.base,I.loc,I.cell,I.free,I.freeC,I.pin,I.hok,I.len⟩
theorem Inv.unwish (I:Inv (X.wish E) pins σ H s):Inv X pins σ H s:=⟨I.ok.unwish,I.os,I.bare,I.base,I.loc,I.cell,I.free,I.freeC,I.pin,I.hok,I.len⟩
theorem SP.unwish {D:Ends} {f:Flow} {s':Shared} (h:SP (X.wish E) pins D f s'):SP X pins D f s':=by
 cases f with
 | next=>obtain ⟨σ',H',I,q⟩:=h;exact ⟨σ',H',I.unwish,q⟩
 | brk=>obtain ⟨σ',H',I,q⟩:=h;exact ⟨σ',H',I.unwish,q⟩
 | cont=>obtain ⟨σ',H',I,q⟩:=h;exact ⟨σ',H',I.unwish,q⟩
 | ret u=>obtain ⟨v,σ',H',I,r,q⟩:=h;exact ⟨v,σ',H',I.unwish,r,q⟩
theorem PE.nox {e:Expr} {t:TE} (h:PE X.nox e t):PE X e t:=fun pins s σ H Q I hw =>
 wpAny_mono (h pins s σ H Q (I.wish _) hw) (fun _ _ ⟨v,H',I',r,q⟩=>⟨v,H',I'.unwish,r,q⟩) fun _ _ z=>False.elim z
theorem PT.nox {e:Expr} {t:TT} (h:PT X.nox e t):PT X e t:=fun pins s σ H Q I hw =>
 wpAny_mono (h pins s σ H Q (I.wish _) hw) (fun _ _ ⟨H',I',q⟩=>⟨H',I'.unwish,q⟩) fun _ _ z=>False.elim z
theorem PSs.nox {st:List Stmt} {t:TS} (h:PSs X.nox st t):PSs X st t:=fun pins s σ H D I hw =>
 wpAny_mono (h pins s σ H D (I.wish _) hw) (fun _ _ q=>q.unwish) fun _ _ z=>False.elim z
end
section
variable {X:Cx} {st:Stmt} {rest:List Stmt} {t u:TS} {e:Expr} {te:TE} {pos:Pos}
def tNext:TS:=fun D σ H=>D.nx σ H
def tSeq (t u:TS):TS:=fun D σ H=>t { D with nx:=u D } σ H
theorem ZaD:PSs X [] tNext:=fun _ _ σ H _ I h=>wpAny_execs_nil ⟨σ,H,I,h⟩
theorem Zac (h1:PS X st t) (h2:PSs X rest u):PSs X (st::rest) (tSeq t u):=by
 intro pins s σ H D I h
 refine wpAny_execs_cons (thn (h1 pins s σ H { D with nx:=u D } I h) fun f s1 q=>?_)
 cases f with
 | next =>
  obtain ⟨σ',H',I',q⟩:=q
  exact h2 pins s1 σ' H' D I' q
 | ret v=>exact q
 | brk=>exact q
 | cont=>exact q
theorem Zae (h1:PS X st t):PSs X [st] t:=by
 intro pins s σ H D I h
 refine wpAny_execs_cons (thn (h1 pins s σ H D I h) fun f s1 q=>?_)
 cases f with
 | next=>exact wpAny_execs_nil q
 | ret v=>exact q
 | brk=>exact q
 | cont=>exact q
theorem Zg8:PS X (.Pass pos) tNext:=fun _ _ σ H _ I h=>wpAny_Pass ⟨σ,H,I,h⟩
theorem Inv.quiet {pins:List (Addr×Obj)} {σ:St} {H:Hp} {s:Shared} (I:Inv X pins σ H s):interactive X.env=false:=by simp [interactive,I.ok.kind]
def tDrop (te:TE):TS:=fun D σ H=>te σ H fun _ H1=>D.nx σ H1
theorem Zay (he:PE X e te) (hs:swapsWith e none pos.line X.env=pure false:=by rfl):PS X (.Expr e pos) (tDrop te):=by
 intro pins s σ H D I h
 exact wpAny_Expr_any (thn (he pins s σ H _ I h) fun v s1 ⟨x,H1,I1,r1,q1⟩=>⟨σ,H1,I1,q1⟩) I.quiet hs
def tRet (te:TE):TS:=fun D σ H=>te σ H D.rt
theorem Zao (he:PE X e te):PS X (.Return (some e) pos) (tRet te):=by
 intro pins s σ H D I h
 exact wpAny_Return_some (thn (he pins s σ H _ I h) fun v s1 ⟨x,H1,I1,r1,q1⟩=>⟨x,σ,H1,I1,r1,q1⟩)
def tIfS (c:TT) (t u:TS):TS:=fun D σ H=>c σ H fun b H1=>if b=true then t D σ H1 else u D σ H1
theorem Zbe {c:Expr} {a b:List Stmt} {tc:TT} (hc:PT X c tc) (ha:PSs X a t) (hb:PSs X b u):PS X (.If c a b pos) (tIfS tc t u):=by
 intro pins s σ H D I h
 refine wpAny_If (thn (hc pins s σ H _ I h) fun d s1 ⟨H1,I1,q1⟩=>?_)
 cases d with
 | true=>exact ha pins s1 σ H1 D I1 q1
 | false=>exact hb pins s1 σ H1 D I1 q1
end
abbrev TG:=V->St->Hp->(St->Hp->Prop)->Prop
abbrev TGs:=List V->St->Hp->(St->Hp->Prop)->Prop
def PG (X:Cx) (target:Expr) (t:TG):Prop :=
 ∀ (pins:List (Addr×Obj)) (s:Shared) (σ:St) (H:Hp) (v:V) (u:Value) (Q:St->Hp->Prop),Inv X pins σ H s->RelV v u->t v σ H Q ->
  wpAny (model X.prog X.w) X.A (assign target X.env u) (fun _ s'=>∃ σ' H',Inv X pins σ' H' s'/\Q σ' H') X.xe s
def PGs (X:Cx) (ts:List Expr) (t:TGs):Prop :=
 ∀ (pins:List (Addr×Obj)) (s:Shared) (σ:St) (H:Hp) (vs:List V) (us:List Value) (Q:St->Hp->Prop),Inv X pins σ H s->Vals vs us->t vs σ H Q ->
  wpAny (model X.prog X.w) X.A (assignInOrder ((assignEach ts X.env).map (·.2)) us) (fun _ s'=>∃ σ' H',Inv X pins σ' H' s'/\Q σ' H') X.xe s
abbrev TSet:=V->V->V->Hp->(Hp->Prop)->Prop
def PSet (X:Cx) (t:TSet):Prop :=
 ∀ (pins:List (Addr×Obj)) (s:Shared) (σ:St) (H:Hp) (o i v:V) (ov iv u:Value) (Q:Hp->Prop),Inv X pins σ H s->RelV o ov->RelV i iv->RelV v u->t o i v H Q ->
  wpAny (model X.prog X.w) X.A (setItem ov iv u) (fun _ s'=>∃ H',Inv X pins σ H' s'/\Q H') X.xe s
abbrev TIp:=V->V->Hp->VK->Prop
section
variable {X:Cx} {pos:Pos}
def gName (i:Nat):TG:=fun v σ H Q=>Q (σ.set i (some v)) H
theorem Zat {i:Nat} {x:Str} (hN:X.N.Nodup) (hi:X.N[i]?=some x) (hx:Loc X.env.scope x) (hf:X.fn x=true\/X.env.scope.names.lookup x=some .local:=by first|exact .inl rfl|exact .inr rfl|assumption):PG X (.Name x pos) (gName i):=by
 intro pins s σ H v u Q I r h
 exact wpAny_assign_Name (ZfI I hN hi hx r (fun s' I'=>⟨_,H,I',h⟩) hf)
noncomputable def gNil:TGs:=fun vs σ H Q=>vs=[]/\Q σ H
noncomputable def gCons (t:TG) (u:TGs):TGs:=fun vs σ H Q=>∃ v r,vs=v::r/\t v σ H fun σ' H'=>u r σ' H' Q
theorem ZdY:PGs X [] gNil:=by
 intro pins s σ H vs us Q I r h
 obtain ⟨e,h⟩:=h
 subst e
 cases r
 exact assignInOrder_nil ⟨σ,H,I,h⟩
theorem Za8 {e:Expr} {es:List Expr} {t:TG} {u:TGs} (h1:PG X e t) (h2:PGs X es u)
  (hs:(assignEach (e::es) X.env).map (·.2)=assign e X.env::(assignEach es X.env).map (·.2):=by rfl):PGs X (e::es) (gCons t u):=by
 intro pins s σ H vs us Q I r h
 obtain ⟨v,vr,e1,h⟩:=h
 subst e1
 cases r with
 | cons r rr =>
  rw [hs]
  refine assignInOrder_cons (thn (h1 pins s σ H _ _ _ I r h) fun _ s1 ⟨σ1,H1,I1,q1⟩=>?_)
  exact h2 pins s1 σ1 H1 _ _ Q I1 rr q1
def gTup (K:PySem.W.Frag) (n:Nat) (t:TGs):TG:=fun v σ H Q=>∃ a xs,v=.ref a/\SqT K H a xs/\xs.length=n/\t xs σ H Q
theorem ZfL {es:List Expr} {k:Nat} {t:TGs} {n:Nat} (hc:X.calm=true) (h:PGs X es t)
  (hn:(assignEach es X.env).length=n:=by rfl) (hst:(assignEach es X.env).findIdx? (·.1)=none:=by rfl):PG X (.Tuple es k pos) (gTup X.K n t):=by
 intro pins s σ H v u Q I r hw
 obtain ⟨a,xs,e1,hq,hl,hw⟩:=hw
 subst e1
 cases r
 obtain ⟨its,rv,ht,hz⟩:=I.tuple hq
 refine assign_Tuple_tuple (I.ok.hd hc) ht (by simp [hn,<- hl,rv.length]) hst fun h' hx=>?_
 have I1:Inv X pins σ H { s with heap:=h' }:=I.kept (t':=s.toks) fun b o e=>hx b o (Nat.ne_of_lt (Heap.lt_size e)) e
 exact h pins _ σ H xs _ Q I1 (by simpa using rv) hw
def gSub (to ti:TE) (t:TSet):TG:=fun v σ H Q=>to σ H fun o H1=>ti σ H1 fun i H2=>t o i v H2 fun H3=>Q σ H3
theorem pg_sub {o i:Expr} {to ti:TE} {t:TSet} (ho:PE X o to) (hi:PE X i ti) (hs:PSet X t)
  (ha:∀ v,assign (.Subscript o i pos) X.env v=(do
   let ov <- holding [v] (eval o X.env)
   let iv <- holding [v,ov] (eval i X.env)
   standAt pos
   holding [v,ov,iv] (setItem ov iv v)
   release [v,ov,iv] []):=by intro _;rfl):PG X (.Subscript o i pos) (gSub to ti t):=by
 intro pins s σ H v u Q I r h
 rw [ha]
 refine wpAny_bind (wpAny_holding (thn (ho pins s σ H _ I h) fun ov s1 ⟨x,H1,I1,r1,q1⟩=>?_))
 refine wpAny_bind (wpAny_holding (thn (hi pins s1 σ H1 _ I1 q1) fun iv s2 ⟨y,H2,I2,r2,q2⟩=>?_))
 refine wpAny_bind (wpAny_standAt (wpAny_bind (wpAny_holding (thn (hs pins s2 σ H2 x y v ov iv u _ I2 r1 r2 r q2) fun _ s3 ⟨H3,I3,q3⟩=>?_))))
 exact wpAny_release ⟨σ,H3,I3,q3⟩
def tAsg (te:TE) (g:TG):TS:=fun D σ H=>te σ H fun x H1=>g x σ H1 D.nx
theorem Zg9 {tg e:Expr} {te:TE} {g:TG} (he:PE X e te) (hg:PG X tg g) (hs:swapsWithSole [tg] e pos.line X.env=pure false:=by rfl) (hw:swappedStores [tg] e X.env=pure none:=by rfl)
  (h1:(assignEach [tg] X.env).map (·.2)=[assign tg X.env]:=by rfl):PS X (.Assign [tg] e pos) (tAsg te g):=by
 intro pins s σ H D I h
 refine wpAny_Assign_stores (thn (he pins s σ H _ I h) fun v s1 ⟨x,H1,I1,r1,q1⟩=>?_) hs hw
 rw [h1]
 exact thn (hg pins s1 σ H1 x v _ I1 r1 q1) fun _ s2 q=>q
theorem Zaw {i:Nat} {x:Str} {e:Expr} {te:TE} {pos':Pos} (hN:X.N.Nodup) (hi:X.N[i]?=some x) (hx:Loc X.env.scope x) (he:PE X e te) (hs:swapsWith e (some (.Name x pos')) pos.line X.env=pure false:=by rfl) (hf:X.fn x=true\/X.env.scope.names.lookup x=some .local:=by first|exact .inl rfl|exact .inr rfl|assumption) :
  PS X (.Assign [.Name x pos'] e pos) (tAsg te (gName i)):=by
 intro pins s σ H D I h
 refine wpAny_Assign_Name (thn (he pins s σ H _ I h) fun v s1 ⟨y,H1,I1,r1,q1⟩=>?_) hs
 exact ZfI I1 hN hi hx r1 (fun s2 I2=>⟨_,H1,I2,q1⟩) hf
end
section
variable {X:Cx} {pos:Pos}
def tWhile (c:TT) (tb:TS):TS:=fun D σ H=>∃ W:Nat->St->Hp->Prop,(∃ m,W m σ H)/\∀ m σ H,W m σ H ->
 c σ H fun b H1=>if b=true then ∃ N:St->Hp->Prop,(∀ σ' H',N σ' H'->∃ m',m'<m/\W m' σ' H')/\tb { D with nx:=N,ct:=N,bk:=D.nx } σ H1 else D.nx σ H1
theorem ZiA {c:Expr} {body:List Stmt} {tc:TT} {tb:TS} (hp:PassesOwn (model X.prog X.w) X.A X.env X.xe) (hc:PT X c tc) (hb:PSs X body tb):PS X (.While c body [] pos) (tWhile tc tb):=by
 intro pins s σ H D I h
 obtain ⟨W,⟨m0,w0⟩,turn⟩:=h
 refine wpAny_While (codeAny_whileLoop (fun n s'=>∃ σ' H',Inv X pins σ' H' s'/\W n σ' H') ?_ m0 ⟨σ,H,I,w0⟩)
 rintro n s1 ⟨σ1,H1,I1,w1⟩
 refine wpAny_passesOwn hp (thn (hc pins s1 σ1 H1 _ I1 (turn n σ1 H1 w1)) fun b s2 ⟨H2,I2,q2⟩=>?_)
 cases b with
 | true =>
  obtain ⟨N,hN,q2⟩:=q2
  rw [if_pos rfl]
  refine wpAny_passesOwn hp (thn (hb pins s2 σ1 H2 _ I2 q2) fun f s3 q3=>?_)
  cases f with
  | next =>
   obtain ⟨σ3,H3,I3,n3⟩:=q3
   obtain ⟨m',hm,w3⟩:=hN σ3 H3 n3
   exact ⟨m',hm,σ3,H3,I3,w3⟩
  | cont =>
   obtain ⟨σ3,H3,I3,n3⟩:=q3
   obtain ⟨m',hm,w3⟩:=hN σ3 H3 n3
   exact ⟨m',hm,σ3,H3,I3,w3⟩
  | brk=>exact q3
  | ret v=>exact q3
 | false =>
  rw [if_neg Bool.false_ne_true]
  exact wpAny_execs_nil ⟨σ1,H2,I2,q2⟩
end
structure It where
 go:Nat->Hp->Prop
 yld:Nat->Hp->V->Hp->Prop
 stop:Nat->Hp->Prop
def FpOk (X:Cx) (pins:List (Addr×Obj)) (H:Hp) (b:Addr):Prop :=
 H b=none/\b≠X.env.locals/\b∉X.fs/\(b∈X.ex\/X.s₀.heap.objs.size<=b)/\(∀ x c,X.env.cells.lookup x=some c->c≠b)/\∀ p∈X.pn++pins,p.1≠b
theorem Inv.fpOk {X:Cx} {pins:List (Addr×Obj)} {σ:St} {H H':Hp} {s:Shared} {b:Addr} (I:Inv X pins σ H s) (hb:s.heap.objs.size<=b) (hn:H' b=none):FpOk X pins H' b:=by
 refine ⟨hn,Nat.ne_of_gt (Nat.lt_of_lt_of_le I.lt hb),I.nofs hb,.inr (Nat.le_trans I.sz hb),fun x c e z=>?_,fun p hp z=>?_⟩
 .obtain ⟨v,q⟩:=I.cell x c e
  exact absurd (Nat.lt_of_lt_of_le q.lt (by rw [z];exact hb)) (Nat.lt_irrefl _)
 .exact absurd (Nat.lt_of_lt_of_le (Heap.lt_size (I.pin p hp).1) (by rw [z];exact hb)) (Nat.lt_irrefl _)
structure Turn (P:Program) (w:World) (K:PySem.W.Frag) (tg:Expr) (J:It) (fp:List Addr) (it:Addr) (tn:Nat->Heap->Prop):Prop where
 mem:it∈fp
 obj:∀ i h,tn i h->∀ b∈fp,∃ o,h.get? b=some o/\∀ v,o.data≠.cell v
 keep:∀ i h h',tn i h->(∀ b∈fp,∀ o,h.get? b=some o->h'.get? b=some o)->tn i h'
 item:∀ (X:Cx),X.prog=P->X.w=w->X.K=K->X.calm=true->∀ (i:Nat) (pins:List (Addr×Obj)) (s:Shared) (σ:St) (H:Hp) (E:Value->Shared->Prop),Inv X pins σ H s->(∀ b∈fp,FpOk X pins H b)->tn i s.heap->J.go i H ->
  wpAny (model P w) X.A (pyNext (.ref it)) (fun r s1=>∃ u,r=some u /\
   wpAny (model P w) X.A (letOwnedTupleGo tg (.ref it) u) (fun _ s2=>∃ x H',Inv X pins σ H' s2/\RelV x u/\J.yld i H x H'/\tn (i+1) s2.heap/\∀ b∈fp,H' b=none) E s1) E s
 done:∀ (X:Cx),X.prog=P->X.w=w->X.K=K->X.calm=true->∀ (i:Nat) (pins:List (Addr×Obj)) (s:Shared) (σ:St) (H:Hp) (E:Value->Shared->Prop),Inv X pins σ H s->(∀ b∈fp,FpOk X pins H b)->tn i s.heap->J.stop i H ->
  wpAny (model P w) X.A (pyNext (.ref it)) (fun r s1=>r=none/\Inv X pins σ H s1) E s
 self:∀ (A:Around) (i:Nat) (s:Shared) (Q:Value->Shared->Prop) (E:Value->Shared->Prop),tn i s.heap->Q (.ref it) s->wpAny (model P w) A (pyIter (.ref it)) Q E s
abbrev TI:=St->Hp->(It->Hp->Prop)->Prop
def PIE (X:Cx) (pins:List (Addr×Obj)) (σ:St) (tg:Expr) (R:It->Hp->Prop) (itv:Value) (s2:Shared):Prop :=
 ∃ (it:Addr) (fp:List Addr) (tn:Nat->Heap->Prop) (J:It) (H':Hp),itv=.ref it/\Inv X pins σ H' s2/\Turn X.prog X.w X.K tg J fp it tn/\tn 0 s2.heap/\(∀ b∈fp,FpOk X pins H' b)/\R J H'
def PI (X:Cx) (tg iter:Expr) (wi:TI):Prop :=
 ∀ (pins:List (Addr×Obj)) (s:Shared) (σ:St) (H:Hp) (R:It->Hp->Prop),Inv X pins σ H s->wi σ H R ->
  wpAny (model X.prog X.w) X.A (eval iter X.env) (fun v s1=>wpAny (model X.prog X.w) X.A (pyIter v) (PIE X pins σ tg R) X.xe s1) X.xe s
theorem ZiB {M:Model} {A:Around} {E:Value->Shared->Prop} {s:Shared} {tg:Expr} {it:Addr} {u:Value} {o:Obj} {n:String} {vs:Array Value} {Q:Unit->Shared->Prop} (ho:s.heap.get? it=some o) (hc:o.cls=.type n) (hd:o.data=.fields vs)
  (hn:["enumerate", "zip", "dict_itemiterator", "dict_reverseitemiterator", "odict_iterator", "itertools.zip_longest", "itertools.pairwise"].contains n=false) (hQ:Q () s):wpAny M A (letOwnedTupleGo tg (.ref it) u) Q E s:=by
 unfold letOwnedTupleGo
 cases tg<;>first
  | exact wpAny_pure hQ
  | (cases u<;>first
    | exact wpAny_pure hQ
    | (refine wpAny_bind (wpAny_load ho ?_)
       rw [hc,hd]
       show wpAny M A (if (["enumerate", "zip", "dict_itemiterator", "dict_reverseitemiterator", "odict_iterator", "itertools.zip_longest", "itertools.pairwise"].contains n&&vs[0]?==some (rawInt _))=true then _ else _) Q E s
       rw [if_neg (by intro h;rw [hn,Bool.false_and] at h;cases h)]
       exact wpAny_pure hQ))
noncomputable def Itl (K:PySem.W.Frag) (a:Addr):It :=
 ⟨fun i H=>∃ xs x,SqL K H a xs/\xs[i]?=some x,fun i H x H'=>H'=H/\∀ xs,SqL K H a xs->xs[i]?=some x,fun i H=>∃ xs,SqL K H a xs/\xs.length<=i⟩
noncomputable def Itt (K:PySem.W.Frag) (a:Addr):It :=
 ⟨fun i H=>∃ xs x,SqT K H a xs/\xs[i]?=some x,fun i H x H'=>H'=H/\∀ xs,SqT K H a xs->xs[i]?=some x,fun i H=>∃ xs,SqT K H a xs/\xs.length<=i⟩
noncomputable def Itr (lo:Int) (n:Nat):It:=⟨fun i _=>i<n,fun i H x H'=>H'=H/\x=.int (lo+i),fun i _=>n<=i⟩
theorem Zha {P:Program} {w:World} {K:PySem.W.Frag} {tg:Expr} (a it:Addr):Turn P w K tg (Itl K a) [it] it (fun i h=>h.IsListIter it a i) where
 mem:=by simp
 obj:=fun i h st b hb=>by
  have e:b=it:=by simpa using hb
  subst e
  obtain ⟨o,e,c,d⟩:=st
  exact ⟨o,e,fun v z=>by rw [d] at z;cases z⟩
 keep:=fun i h h' st k=>st.at fun o e=>k it (by simp) o e
 item:=by
  intro X hP hw hK hc i pins s σ H E I hf st hg
  subst hP hw hK
  obtain ⟨xs,x,hq,hx⟩:=hg
  obtain ⟨its,rv,p,hz⟩:=I.list hq
  obtain ⟨u,hu,ru⟩:=rv.get hx
  obtain ⟨f0,f1,f2,f3,f4,f5⟩:=hf it (by simp)
  refine wpAny_pyNext_list_item st p.isList (x:=u) (by simpa using hu) fun h' st' sb=>?_
  have I1:Inv X pins σ H { s with heap:=h' }:=I.turned (t':=s.toks) (fun b o hb e=>(sb.2 b hb).trans e) f0 f1 f3 f4 f5
  obtain ⟨o,e,c,d⟩:=id st'
  exact ⟨u,rfl,ZiB (s:={ s with heap:=h' }) e c d (by decide) ⟨x,H,I1,ru,⟨rfl,fun ys hy=>by rw [I.list_inj hy hq];exact hx⟩,st',fun b hb=>(hf b hb).1⟩⟩
 done:=by
  intro X hP hw hK hc i pins s σ H E I hf st hg
  subst hP hw hK
  obtain ⟨xs,hq,hx⟩:=hg
  obtain ⟨its,rv,p,hz⟩:=I.list hq
  obtain ⟨f0,f1,f2,f3,f4,f5⟩:=hf it (by simp)
  have hl:=rv.length
  exact wpAny_pyNext_list_end (I.ok.hd hc) st p.isList (by simp;omega) fun h' eb=>⟨rfl,I.turned (t':=s.toks) (fun b o hb e=>eb b o hb e) f0 f1 f3 f4 f5⟩
 self:=fun _ _ _ _ _ st h=>wpAny_pyIter_listiter st h
theorem Zgu {P:Program} {w:World} {K:PySem.W.Frag} {tg:Expr} (a it:Addr):Turn P w K tg (Itt K a) [it] it (fun i h=>h.IsTupleIter it a i) where
 mem:=by simp
 obj:=fun i h st b hb=>by
  have e:b=it:=by simpa using hb
  subst e
  obtain ⟨o,e,c,d⟩:=st
  exact ⟨o,e,fun v z=>by rw [d] at z;cases z⟩
 keep:=fun i h h' st k=>st.at fun o e=>k it (by simp) o e
 item:=by
  intro X hP hw hK hc i pins s σ H E I hf st hg
  subst hP hw hK
  obtain ⟨xs,x,hq,hx⟩:=hg
  obtain ⟨its,rv,p,hz⟩:=I.tuple hq
  obtain ⟨u,hu,ru⟩:=rv.get hx
  obtain ⟨f0,f1,f2,f3,f4,f5⟩:=hf it (by simp)
  refine wpAny_pyNext_tuple_item st (show s.heap.IsTuple a its.toArray from p) (x:=u) (by simpa using hu) fun h' st' sb=>?_
  have I1:Inv X pins σ H { s with heap:=h' }:=I.turned (t':=s.toks) (fun b o hb e=>(sb.2 b hb).trans e) f0 f1 f3 f4 f5
  obtain ⟨o,e,c,d⟩:=id st'
  exact ⟨u,rfl,ZiB (s:={ s with heap:=h' }) e c d (by decide) ⟨x,H,I1,ru,⟨rfl,fun ys hy=>by rw [I.tuple_inj hy hq];exact hx⟩,st',fun b hb=>(hf b hb).1⟩⟩
 done:=by
  intro X hP hw hK hc i pins s σ H E I hf st hg
  subst hP hw hK
  obtain ⟨xs,hq,hx⟩:=hg
  obtain ⟨its,rv,p,hz⟩:=I.tuple hq
  obtain ⟨f0,f1,f2,f3,f4,f5⟩:=hf it (by simp)
  have hl:=rv.length
  exact wpAny_pyNext_tuple_end (I.ok.hd hc) st (show s.heap.IsTuple a its.toArray from p) (by simp;omega) fun h' eb=>⟨rfl,I.turned (t':=s.toks) (fun b o hb e=>eb b o hb e) f0 f1 f3 f4 f5⟩
 self:=fun _ _ _ _ _ st h=>wpAny_pyIter_tupleiter st h
theorem Zgv {P:Program} {w:World} {K:PySem.W.Frag} {tg:Expr} (it:Addr) (lo:Int) (n:Nat):Turn P w K tg (Itr lo n) [it] it (fun i h=>IsRangeIter h it (lo+(i:Nat)*1) ((n:Int)-(i:Nat)) 1) where
 mem:=by simp
 obj:=fun i h st b hb=>by
  have e:b=it:=by simpa using hb
  subst e
  exact ⟨_,st,fun v z=>by
   have z':Data.fields _=Data.cell v:=z
   cases z'⟩
 keep:=fun i h h' st k=>k it (by simp) _ st
 item:=by
  intro X hP hw hK hc i pins s σ H E I hf st hg
  subst hP hw hK
  obtain ⟨f0,f1,f2,f3,f4,f5⟩:=hf it (by simp)
  have W:=Walks.range (prog:=X.prog) (w:=X.w) (I.ok.hd hc) it lo 1 n
  refine W.item i s _ _ hg st fun v h' tk hv st' kk=>?_
  obtain ⟨t,rfl⟩:=hv
  have I1:Inv X pins σ H { s with heap:=h',toks:=tk }:=I.turned (fun b o hb e=>kk b o (by simpa using hb) e) f0 f1 f3 f4 f5
  refine ⟨_,rfl,ZiB (s:={ s with heap:=h',toks:=tk }) (n := "range_iterator") st' rfl rfl (by decide) ⟨.int (lo+i),H,I1,⟨t,?_⟩,⟨rfl,rfl⟩,st',fun b hb=>(hf b hb).1⟩⟩
  rw [Int.mul_one]
 done:=by
  intro X hP hw hK hc i pins s σ H E I hf st hg
  subst hP hw hK
  obtain ⟨f0,f1,f2,f3,f4,f5⟩:=hf it (by simp)
  exact wpAny_pyNext_range_end (I.ok.hd hc) st (by have:n<=i:=hg;omega) fun h' eb=>⟨rfl,I.turned (t':=s.toks) (fun b o hb e=>eb b o hb e) f0 f1 f3 f4 f5⟩
 self:=fun _ _ _ _ _ st h=>wpAny_pyIter_rangeiter st h
section
variable {X:Cx} {tg:Expr}
def iList (K:PySem.W.Frag) (tl:TE):TI:=fun σ H R=>tl σ H fun x H1=>∃ a,x=.ref a/\(∃ xs,SqL K H1 a xs)/\R (Itl K a) H1
def iTup (K:PySem.W.Frag) (tl:TE):TI:=fun σ H R=>tl σ H fun x H1=>∃ a,x=.ref a/\(∃ xs,SqT K H1 a xs)/\R (Itt K a) H1
theorem ZaR {l:Expr} {tl:TE} (hl:PE X l tl):PI X tg l (iList X.K tl):=by
 intro pins s σ H R I h
 refine thn (hl pins s σ H _ I h) fun v s1 ⟨x,H1,I1,r1,q1⟩=>?_
 obtain ⟨a,e,⟨xs,hq⟩,q⟩:=q1
 subst e
 cases r1
 obtain ⟨its,rv,p,hz⟩:=I1.list hq
 refine wpAny_pyIter_list p.isList ?_
 refine ⟨s1.heap.objs.size,[s1.heap.objs.size],_,_,H1,rfl,I1.kept (t':=s1.toks) fun b o e=>Heap.get?_push_of_some _ e,Zha a _,⟨_,Heap.get?_push_size _ rfl,rfl,rfl⟩,fun b hb=>?_,q⟩
 have e:b=s1.heap.objs.size:=by simpa using hb
 subst e
 exact I1.fpOk (Nat.le_refl _) (I1.hok.fresh (Nat.le_refl _))
theorem pi_tup {l:Expr} {tl:TE} (hl:PE X l tl):PI X tg l (iTup X.K tl):=by
 intro pins s σ H R I h
 refine thn (hl pins s σ H _ I h) fun v s1 ⟨x,H1,I1,r1,q1⟩=>?_
 obtain ⟨a,e,⟨xs,hq⟩,q⟩:=q1
 subst e
 cases r1
 obtain ⟨its,rv,p,hz⟩:=I1.tuple hq
 refine wpAny_pyIter_tuple (show s1.heap.IsTuple a its.toArray from p) ?_
 refine ⟨s1.heap.objs.size,[s1.heap.objs.size],_,_,H1,rfl,I1.kept (t':=s1.toks) fun b o e=>Heap.get?_push_of_some _ e,Zgu a _,⟨_,Heap.get?_push_size _ rfl,rfl,rfl⟩,fun b hb=>?_,q⟩
 have e:b=s1.heap.objs.size:=by simpa using hb
 subst e
 exact I1.fpOk (Nat.le_refl _) (I1.hok.fresh (Nat.le_refl _))
theorem ZiC {pins:List (Addr×Obj)} {σ:St} {H:Hp} {s:Shared} {R:It->Hp->Prop} {E:Value->Shared->Prop} {lo hi:Int} {t u v:Tok} {tk:Nat} (I:Inv X pins σ H s) (h1:-(2 ^ 62)<=lo) (h2:lo<2 ^ 62) (h3:-(2 ^ 62)<=hi) (h4:hi<2 ^ 62)
  (q:R (Itr lo (hi-lo).toNat) H):wpAny (model X.prog X.w) X.A (pyIter (.ref s.heap.objs.size)) (PIE X pins σ tg R) E { s with heap:=s.heap.push { cls:=.type "range", data:=.fields #[.int lo t,.int hi u,.int 1 v] },toks:=tk }:=by
 refine wpAny_pyIter_range (IsRange.new ..) (small_one h1 h2 h3 h4) ?_
 have I1:Inv X pins σ H { s with heap:=s.heap.push { cls:=.type "range", data:=.fields #[.int lo t,.int hi u,.int 1 v] },toks:=tk }:=I.kept fun b o e=>Heap.get?_push_of_some _ e
 refine ⟨(s.heap.push { cls:=.type "range", data:=.fields #[.int lo t,.int hi u,.int 1 v] }).objs.size,[(s.heap.push { cls:=.type "range", data:=.fields #[.int lo t,.int hi u,.int 1 v] }).objs.size],_,_,H,rfl,
  I1.kept (t':=tk) fun b o e=>Heap.get?_push_of_some _ e,Zgv _ lo (hi-lo).toNat,?_,fun b hb=>?_,q⟩
 .have e1:lo+((0:Nat):Int)*1=lo:=by simp
  have e2:(((hi-lo).toNat:Nat):Int)-((0:Nat):Int)=Builtin.Range.rangeSize lo hi 1:=by rw [rangeSize_one];split<;>omega
  show IsRangeIter _ _ (lo+((0:Nat):Int)*1) ((((hi-lo).toNat:Nat):Int)-((0:Nat):Int)) 1
  rw [e1,e2]
  exact Heap.get?_push_size _ rfl
 .have e:b=(s.heap.push { cls:=.type "range", data:=.fields #[.int lo t,.int hi u,.int 1 v] }).objs.size:=by simpa using hb
  subst e
  exact I1.fpOk (Nat.le_refl _) (I1.hok.fresh (Nat.le_refl _))
def iRng1 (ta:TA):TI:=fun σ H R=>ta σ H fun vs H1=>∃ j:Int,vs=[.int j]/\-(2 ^ 62)<=j/\j<2 ^ 62/\R (Itr 0 j.toNat) H1
theorem Zc6 {a:Expr} {ta:TA} {p pos:Pos} (hg:Gl X "range") (hm:X.mg "range" = none) (ha:PA X [a] ta) (hs:starEach [a] X.env=[(false,eval a X.env)]:=by rfl):PI X tg (.Call (.Name "range" p) [a] [] pos) (iRng1 ta):=by
 intro pins s σ H R I h
 refine Call_ (ZfJ I hg hm boot_range (PyProof.Rows.callWith_type1 (thn (ha pos pins s σ H _ I h) fun us s1 ⟨vs,H1,I1,r1,q1⟩=>?_) hs rfl))
 obtain ⟨j,e,q1,q2,q⟩:=q1
 subst e
 cases r1 with
 | cons r rr =>
  cases rr
  obtain ⟨t,rfl⟩:=r
  exact call_range_1 (ZiC I1 (by omega) (by omega) q1 q2 (by simpa using q))
def tFor (wi:TI) (g:TG) (tb:TS):TS:=fun D σ H=>wi σ H fun J H1=>∃ W:Nat->Nat->St->Hp->Prop,(∃ m,W 0 m σ H1)/\∀ i m σ H,W i m σ H ->
 (J.stop i H/\D.nx σ H)\/(J.go i H/\∃ N:St->Hp->Prop,(∀ σ' H',N σ' H'->∃ m',m'<m/\W (i+1) m' σ' H')/\∀ x H',J.yld i H x H'->g x σ H' fun σ2 H2=>tb { D with nx:=N,ct:=N,bk:=D.nx } σ2 H2)
noncomputable def pinsAt (fp:List Addr) (h:Heap):List (Addr×Obj):=fp.filterMap fun b=>(h.get? b).map fun o=>(b,o)
theorem Zb7 {fp:List Addr} {h:Heap} {b:Addr} {o:Obj} (hb:b∈fp) (e:h.get? b=some o):(b,o)∈pinsAt fp h:=List.mem_filterMap.mpr ⟨b,hb,by rw [e];rfl⟩
theorem Zhb {fp:List Addr} {h:Heap} {p:Addr×Obj} (hp:p∈pinsAt fp h):p.1∈fp/\h.get? p.1=some p.2:=by
 obtain ⟨b,hb,e⟩:=List.mem_filterMap.mp hp
 cases q:h.get? b with
 | none=>rw [q] at e;cases e
 | some o =>
  rw [q] at e
  have e':(b,o)=p:=Option.some.inj e
  subst e'
  exact ⟨hb,q⟩
theorem Inv.pinned {pins:List (Addr×Obj)} {σ:St} {H:Hp} {s:Shared} {fp:List Addr} (I:Inv X pins σ H s) (hf:∀ b∈fp,FpOk X pins H b) (ho:∀ b∈fp,∃ o,s.heap.get? b=some o/\∀ v,o.data≠.cell v):Inv X (pins++pinsAt fp s.heap) σ H s :=
 I.pins_of fun p hp=>(List.mem_append.mp hp).elim (fun z=>I.pin p (List.mem_append_right _ z)) fun z=>by
  obtain ⟨hb,e⟩:=Zhb z
  obtain ⟨f0,f1,f2,_⟩:=hf p.1 hb
  obtain ⟨o,e',d⟩:=ho p.1 hb
  rw [e] at e';cases e'
  exact ⟨e,f0,f1,f2,d⟩
theorem Inv.unpinned {pins pl:List (Addr×Obj)} {σ:St} {H:Hp} {s:Shared} (I:Inv X (pins++pl) σ H s):Inv X pins σ H s:=I.pins_of fun p hp=>I.pin p (List.mem_append_right _ (List.mem_append_left _ hp))
theorem ZbD {iter:Expr} {body:List Stmt} {wi:TI} {g:TG} {tb:TS} {pos:Pos} (hp:PassesOwn (model X.prog X.w) X.A X.env X.xe) (hc:X.calm=true) (hi:PI X tg iter wi) (hg:PG X tg g) (hb:PSs X body tb)
  (hs:∀ x,foldedSetIterable iter X.env x=pure x:=by intro _;rfl):PS X (.For tg iter body [] pos) (tFor wi g tb):=by
 intro pins s σ H D I h
 refine wpAny_For (thn (hi pins s σ H _ I h) fun v s1 h1=>thn h1 fun itv s2 h2=>?_) hs
 obtain ⟨it,fp,tn,J,H2,e,I2,T,st2,f2,W,⟨m0,w0⟩,turn⟩:=h2
 subst e
 have stat:∀ {H':Hp},(∀ b∈fp,H' b=none)->∀ b∈fp,FpOk X pins H' b:=fun hn b hb=>⟨hn b hb,(f2 b hb).2⟩
 refine codeAny_forLoop_any (fun n s'=>∃ i σ' H',Inv X pins σ' H' s'/\tn i s'.heap/\(∀ b∈fp,H' b=none)/\W i n σ' H') ?_ m0 ⟨0,σ,H2,I2,st2,fun b hb=>(f2 b hb).1,w0⟩
 rintro n s3 ⟨i,σ3,H3,I3,st3,fr3,w3⟩
 rcases turn i n σ3 H3 w3 with ⟨stop,qn⟩|⟨go,N,hN,step⟩
 .refine wpAny_passesOwn hp (thn (T.done X rfl rfl rfl hc i pins s3 σ3 H3 X.xe I3 (stat fr3) st3 stop) fun r s4 ⟨hr,I4⟩=>?_)
  subst hr
  exact wpAny_execs_nil ⟨σ3,H3,I4,qn⟩
 .refine wpAny_passesOwn hp (thn (T.item X rfl rfl rfl hc i pins s3 σ3 H3 X.xe I3 (stat fr3) st3 go) fun r s4 ⟨u,hr,h4⟩=>?_)
  subst hr
  refine wpAny_passesOwn hp (thn h4 fun _ s5 ⟨x,H5,I5,r5,y5,st5,fr5⟩=>?_)
  have I5':=I5.pinned (stat fr5) (T.obj _ _ st5)
  refine wpAny_passesOwn hp (thn (hg _ s5 σ3 H5 x u _ I5' r5 (step x H5 y5)) fun _ s6 ⟨σ6,H6,I6,q6⟩=>?_)
  refine wpAny_passesOwn hp (thn (hb _ s6 σ6 H6 _ I6 q6) fun f s7 q7=>?_)
  have again:∀ {σ7:St} {H7:Hp},Inv X (pins++pinsAt fp s5.heap) σ7 H7 s7->N σ7 H7->∃ m,m<n/\∃ i σ' H',Inv X pins σ' H' s7/\tn i s7.heap/\(∀ b∈fp,H' b=none)/\W i m σ' H':=fun {σ7 H7} I7 n7=>by
   obtain ⟨m',hm,w7⟩:=hN σ7 H7 n7
   refine ⟨m',hm,i+1,σ7,H7,I7.unpinned,T.keep _ _ _ st5 fun b hb o e=>(I7.pin (b,o) (List.mem_append_right _ (List.mem_append_right _ (Zb7 hb e)))).1,fun b hb=>?_,w7⟩
   obtain ⟨o,e,d⟩:=T.obj _ _ st5 b hb
   exact (I7.pin (b,o) (List.mem_append_right _ (List.mem_append_right _ (Zb7 hb e)))).2.1
  cases f with
  | next=>obtain ⟨σ7,H7,I7,n7⟩:=q7;exact again I7 n7
  | cont=>obtain ⟨σ7,H7,I7,n7⟩:=q7;exact again I7 n7
  | brk=>obtain ⟨σ7,H7,I7,q7⟩:=q7;exact ⟨σ7,H7,I7.unpinned,q7⟩
  | ret v=>obtain ⟨x7,σ7,H7,I7,r7,q7⟩:=q7;exact ⟨x7,σ7,H7,I7.unpinned,r7,q7⟩
end
theorem Za9 {K:PySem.W.Frag} {a:Addr} {xs:List V} {g:TG} {tb:TS} {D:Ends} {σ:St} {H:Hp} (Pv:Nat->St->Hp->Prop) (h0:Pv 0 σ H) (hl:∀ i σ H,i<=xs.length->Pv i σ H->SqL K H a xs)
  (hs:∀ i x σ H,xs[i]?=some x->Pv i σ H->g x σ H fun σ2 H2=>tb { D with nx:=Pv (i+1),ct:=Pv (i+1),bk:=D.nx } σ2 H2) (hd:∀ σ H,Pv xs.length σ H->D.nx σ H) :
  ∃ W:Nat->Nat->St->Hp->Prop,(∃ m,W 0 m σ H)/\∀ i m σ H,W i m σ H ->
   ((Itl K a).stop i H/\D.nx σ H)\/((Itl K a).go i H/\∃ N:St->Hp->Prop,(∀ σ' H',N σ' H'->∃ m',m'<m/\W (i+1) m' σ' H')/\∀ x H',(Itl K a).yld i H x H'->g x σ H' fun σ2 H2=>tb { D with nx:=N,ct:=N,bk:=D.nx } σ2 H2):=by
 refine ⟨fun i m σ H=>m=xs.length-i/\i<=xs.length/\Pv i σ H,⟨xs.length,by simp,Nat.zero_le _,h0⟩,?_⟩
 rintro i m σ H ⟨rfl,hi,p⟩
 have q:=hl i σ H hi p
 by_cases hlt:i<xs.length
 .refine .inr ⟨⟨xs,xs[i],q,by simp [hlt]⟩,Pv (i+1),fun σ' H' p'=>⟨xs.length-(i+1),by omega,rfl,hlt,p'⟩,fun x H' y=>?_⟩
  obtain ⟨e,y⟩:=y
  subst e
  exact hs i x σ _ (y xs q) p
 .have e:i=xs.length:=by omega
  subst e
  exact .inl ⟨⟨xs,q,Nat.le_refl _⟩,hd σ H p⟩
theorem Zj2 {K:PySem.W.Frag} {a:Addr} {xs:List V} {g:TG} {tb:TS} {D:Ends} {σ:St} {H:Hp} (Pv:Nat->St->Hp->Prop) (h0:Pv 0 σ H) (hl:∀ i σ H,i<=xs.length->Pv i σ H->SqT K H a xs)
  (hs:∀ i x σ H,xs[i]?=some x->Pv i σ H->g x σ H fun σ2 H2=>tb { D with nx:=Pv (i+1),ct:=Pv (i+1),bk:=D.nx } σ2 H2) (hd:∀ σ H,Pv xs.length σ H->D.nx σ H) :
  ∃ W:Nat->Nat->St->Hp->Prop,(∃ m,W 0 m σ H)/\∀ i m σ H,W i m σ H ->
   ((Itt K a).stop i H/\D.nx σ H)\/((Itt K a).go i H/\∃ N:St->Hp->Prop,(∀ σ' H',N σ' H'->∃ m',m'<m/\W (i+1) m' σ' H')/\∀ x H',(Itt K a).yld i H x H'->g x σ H' fun σ2 H2=>tb { D with nx:=N,ct:=N,bk:=D.nx } σ2 H2):=by
 refine ⟨fun i m σ H=>m=xs.length-i/\i<=xs.length/\Pv i σ H,⟨xs.length,by simp,Nat.zero_le _,h0⟩,?_⟩
 rintro i m σ H ⟨rfl,hi,p⟩
 have q:=hl i σ H hi p
 by_cases hlt:i<xs.length
 .refine .inr ⟨⟨xs,xs[i],q,by simp [hlt]⟩,Pv (i+1),fun σ' H' p'=>⟨xs.length-(i+1),by omega,rfl,hlt,p'⟩,fun x H' y=>?_⟩
  obtain ⟨e,y⟩:=y
  subst e
  exact hs i x σ _ (y xs q) p
 .have e:i=xs.length:=by omega
  subst e
  exact .inl ⟨⟨xs,q,Nat.le_refl _⟩,hd σ H p⟩
theorem Zew {lo:Int} {n:Nat} {g:TG} {tb:TS} {D:Ends} {σ:St} {H:Hp} (Pv:Nat->St->Hp->Prop) (h0:Pv 0 σ H)
  (hs:∀ i σ H,i<n->Pv i σ H->g (.int (lo+i)) σ H fun σ2 H2=>tb { D with nx:=Pv (i+1),ct:=Pv (i+1),bk:=D.nx } σ2 H2) (hd:∀ σ H,Pv n σ H->D.nx σ H) :
  ∃ W:Nat->Nat->St->Hp->Prop,(∃ m,W 0 m σ H)/\∀ i m σ H,W i m σ H ->
   ((Itr lo n).stop i H/\D.nx σ H)\/((Itr lo n).go i H/\∃ N:St->Hp->Prop,(∀ σ' H',N σ' H'->∃ m',m'<m/\W (i+1) m' σ' H')/\∀ x H',(Itr lo n).yld i H x H'->g x σ H' fun σ2 H2=>tb { D with nx:=N,ct:=N,bk:=D.nx } σ2 H2):=by
 refine ⟨fun i m σ H=>m=n-i/\i<=n/\Pv i σ H,⟨n,by simp,Nat.zero_le _,h0⟩,?_⟩
 rintro i m σ H ⟨rfl,hi,p⟩
 by_cases hlt:i<n
 .refine .inr ⟨hlt,Pv (i+1),fun σ' H' p'=>⟨n-(i+1),by omega,rfl,hlt,p'⟩,fun x H' y=>?_⟩
  obtain ⟨e,y⟩:=y
  subst e y
  exact hs i σ _ hlt p
 .have e:i=n:=by omega
  subst e
  exact .inl ⟨Nat.le_refl _,hd σ H p⟩
abbrev R2:=V->V->Hp->VK->Prop
def OpR (X:Cx) (f:Value->Value->Sem Value) (r:R2):Prop :=
 ∀ (pins:List (Addr×Obj)) (s:Shared) (σ:St) (H:Hp) (x y:V) (v u:Value) (Q:VK),Inv X pins σ H s->RelV x v->RelV y u->r x y H Q ->
  wpAny (model X.prog X.w) X.A (f v u) (EP X pins σ Q) X.xe s
def UnR (X:Cx) (f:Value->Sem Value) (r:V->Hp->VK->Prop):Prop :=
 ∀ (pins:List (Addr×Obj)) (s:Shared) (σ:St) (H:Hp) (x:V) (v:Value) (Q:VK),Inv X pins σ H s->RelV x v->r x H Q ->
  wpAny (model X.prog X.w) X.A (f v) (EP X pins σ Q) X.xe s
def CallR (X:Cx) (f:Value) (r:List V->Hp->VK->Prop):Prop :=
 ∀ (pins:List (Addr×Obj)) (s:Shared) (σ:St) (H:Hp) (xs:List V) (us:List Value) (Q:VK),Inv X pins σ H s->Vals xs us->r xs H Q ->
  wpAny (model X.prog X.w) X.A (call f us) (EP X pins σ Q) X.xe s
def tOp (r:R2) (ta tb:TE):TE:=fun σ H Q=>ta σ H fun x H1=>tb σ H1 fun y H2=>r x y H2 Q
def tUn (r:V->Hp->VK->Prop) (ta:TE):TE:=fun σ H Q=>ta σ H fun x H1=>r x H1 Q
def rI (C:Int->Int->Prop) (g:Int->Int->V):R2:=fun x y H Q=>∃ i j,x=.int i/\y=.int j/\C i j/\Q (g i j) H
def rI0 (g:Int->Int->V):R2:=fun x y H Q=>∃ i j,x=.int i/\y=.int j/\Q (g i j) H
def rU (g:Int->V):V->Hp->VK->Prop:=fun x H Q=>∃ i,x=.int i/\Q (g i) H
section
variable {X:Cx} {a b c:Expr} {ta tb tc:TE} {pos:Pos}
theorem binT (ha:PE X a ta) (hb:PE X b tb) {pins:List (Addr×Obj)} {s:Shared} {σ:St} {H:Hp} {R:V->V->Hp->Prop} (I:Inv X pins σ H s)
  (h:ta σ H fun x H1=>tb σ H1 fun y H2=>R x y H2) {Q:Value->Shared->Prop} {f:Value->Value->Sem Value}
  (hf:∀ v u s2 x y H2,Inv X pins σ H2 s2->RelV x v->RelV y u->R x y H2->wpAny (model X.prog X.w) X.A (f v u) Q X.xe s2) :
  wpAny (model X.prog X.w) X.A (eval a X.env) (fun v s₁=>wpAny (model X.prog X.w) X.A (eval b X.env) (fun u s₂=>wpAny (model X.prog X.w) X.A (f v u) Q X.xe s₂) X.xe s₁) X.xe s:=by
 refine thn (ha pins s σ H _ I h) fun v s1 ⟨x,H1,I1,r1,q1⟩=>?_
 refine thn (hb pins s1 σ H1 _ I1 q1) fun u s2 ⟨y,H2,I2,r2,q2⟩=>?_
 exact hf v u s2 x y H2 I2 r1 r2 q2
theorem Zas {op:Operator} {r:R2} (ho:OpR X (binaryOp op) r) (ha:PE X a ta) (hb:PE X b tb):PE X (.BinOp a op b pos) (tOp r ta tb):=by
 intro pins s σ H Q I h
 exact wpAny_BinOp (binT ha hb I h fun v u s2 x y H2 I2 rx ry q=>ho pins s2 σ H2 x y v u Q I2 rx ry q)
theorem pe_un {op:UnaryOp} {r:V->Hp->VK->Prop} (ho:UnR X (unaryOp op) r) (ha:PE X a ta):PE X (.UnaryOp op a pos) (tUn r ta):=by
 intro pins s σ H Q I h
 exact UnaryOp_ (thn (ha pins s σ H _ I h) fun v s1 ⟨x,H1,I1,r1,q1⟩=>ho pins s1 σ H1 x v Q I1 r1 q1)
theorem opI {f:Value->Value->Sem Value} {C:Int->Int->Prop} {g:Int->Int->Int}
  (rule:∀ (i j:Int) (t u:Tok) (s:Shared) (Q:Value->Shared->Prop) (E:Value->Shared->Prop),C i j->Q (.int (g i j) s.toks) { s with toks:=s.toks+1 }->wpAny (model X.prog X.w) X.A (f (.int i t) (.int j u)) Q E s) :
  OpR X f (rI C fun i j=>.int (g i j)):=by
 intro pins s σ H x y v u Q I rx ry h
 obtain ⟨i,j,rfl,rfl,hc,q⟩:=h
 obtain ⟨t,rfl⟩:=rx
 obtain ⟨t',rfl⟩:=ry
 exact rule i j t t' s _ _ hc ⟨.int (g i j),H,I.tok _,⟨_,rfl⟩,q⟩
theorem opI0 {f:Value->Value->Sem Value} {g:Int->Int->Int}
  (rule:∀ (i j:Int) (t u:Tok) (s:Shared) (Q:Value->Shared->Prop) (E:Value->Shared->Prop),Q (.int (g i j) s.toks) { s with toks:=s.toks+1 }->wpAny (model X.prog X.w) X.A (f (.int i t) (.int j u)) Q E s) :
  OpR X f (rI0 fun i j=>.int (g i j)):=by
 intro pins s σ H x y v u Q I rx ry h
 obtain ⟨i,j,rfl,rfl,q⟩:=h
 obtain ⟨t,rfl⟩:=rx
 obtain ⟨t',rfl⟩:=ry
 exact rule i j t t' s _ _ ⟨.int (g i j),H,I.tok _,⟨_,rfl⟩,q⟩
theorem opB0 {f:Value->Value->Sem Value} {g:Int->Int->Bool}
  (rule:∀ (i j:Int) (t u:Tok) (s:Shared) (Q:Value->Shared->Prop) (E:Value->Shared->Prop),Q (.bool (g i j)) s->wpAny (model X.prog X.w) X.A (f (.int i t) (.int j u)) Q E s) :
  OpR X f (rI0 fun i j=>.bl (g i j)):=by
 intro pins s σ H x y v u Q I rx ry h
 obtain ⟨i,j,rfl,rfl,q⟩:=h
 obtain ⟨t,rfl⟩:=rx
 obtain ⟨t',rfl⟩:=ry
 exact rule i j t t' s _ _ ⟨.bl (g i j),H,I,rfl,q⟩
def CPow (i j:Int):Prop:=0<=j/\j<=1000000/\i.natAbs<2 ^ 64
def CMul (i j:Int):Prop:=(-(2 ^ 64)<i/\i<2 ^ 64)\/(-(2 ^ 64)<j/\j<2 ^ 64)
theorem CMul.ok {i j:Int} (h:CMul i j):IntMulOk i j:=by
 rcases h with ⟨h1,h2⟩|⟨h1,h2⟩
 .exact .of_left (intBits_le_64 h1 h2)
 .exact .of_right (intBits_le_64 h1 h2)
theorem ZbU:OpR X (binaryOp .Add) (rI0 fun i j=>.int (i+j)):=opI0 fun _ _ _ _ _ _ _ q=>add_int q
theorem Zhc:OpR X (binaryOp .Sub) (rI0 fun i j=>.int (i-j)):=opI0 fun _ _ _ _ _ _ _ q=>sub_int q
theorem ZcK:OpR X (binaryOp .Mult) (rI CMul fun i j=>.int (i*j)):=opI fun _ _ _ _ _ _ _ hc q=>mul_int q hc.ok
theorem ZaQ:OpR X (binaryOp .Mod) (rI (fun _ j=>0<j) fun i j=>.int (i % j)):=opI fun i j _ _ _ _ _ hc q=>by
 have h1:(0:Int)<j:=hc
 exact mod_int' (by omega) (by rw [Int.fmod_eq_emod_of_nonneg i (by omega)];exact q)
theorem ZdP:OpR X (binaryOp .Pow) (rI CPow fun i j=>.int (i ^ j.toNat)):=opI fun _ _ _ _ _ _ _ hc q=>pow_int_small hc.1 hc.2.1 hc.2.2 q
theorem unI {f:Value->Sem Value} {g:Int->Int}
  (rule:∀ (i:Int) (t:Tok) (s:Shared) (Q:Value->Shared->Prop) (E:Value->Shared->Prop),Q (.int (g i) s.toks) { s with toks:=s.toks+1 }->wpAny (model X.prog X.w) X.A (f (.int i t)) Q E s) :
  UnR X f (rU fun i=>.int (g i)):=by
 intro pins s σ H x v Q I rx h
 obtain ⟨i,rfl,q⟩:=h
 obtain ⟨t,rfl⟩:=rx
 exact rule i t s _ _ ⟨.int (g i),H,I.tok _,⟨_,rfl⟩,q⟩
theorem un_neg:UnR X (unaryOp .USub) (rU fun i=>.int (-i)):=unI fun _ _ _ _ _ q=>neg_int q
end
noncomputable def scal:V->V->Bool
 | .non,.non=>true|.non,.int _=>true|.int _,.non=>true|.non,.bl _=>true|.bl _,.non=>true|.non,.str _=>true|.str _,.non=>true
 | .int _,.int _=>true|.bl _,.bl _=>true|.str _,.str _=>true|.byt _,.byt _=>true
 | .int _,.str _=>true|.str _,.int _=>true|.bl _,.str _=>true|.str _,.bl _=>true
 | _,_=>false
def rEq:R2:=fun x y H Q=>scal x y=true/\Q (.bl (decide (x=y))) H
def rNe:R2:=fun x y H Q=>scal x y=true/\Q (.bl (!decide (x=y))) H
theorem Zhd {i j:Int}:decide (V.int i=V.int j)=(i==j):=by
 rw [Bool.eq_iff_iff]
 simp
theorem ZjH {i j:Bool}:decide (V.bl i=V.bl j)=(i==j):=by
 rw [Bool.eq_iff_iff]
 simp
theorem Zhe {i j:Str}:decide (V.str i=V.str j)=(i==j):=by
 rw [Bool.eq_iff_iff]
 simp
theorem Zhf {i j:Array UInt8}:decide (V.byt i=V.byt j)=(i.toList==j.toList):=by
 rw [Bool.eq_iff_iff]
 cases i
 cases j
 simp
section
variable {X:Cx} {a b c:Expr} {ta tb tc:TE} {pos:Pos}
theorem ZaB {pins:List (Addr×Obj)} {σ:St} {H:Hp} {s:Shared} {Q:VK} {k k':Bool} (I:Inv X pins σ H s) (q:Q (.bl k) H) (e:k=k'):EP X pins σ Q (.bool k') s:=by
 subst e
 exact ⟨.bl k,H,I,rfl,q⟩
theorem Zbq:OpR X (compareOp .Eq) rEq:=by
 intro pins s σ H x y v u Q I rx ry h
 obtain ⟨hs,q⟩:=h
 cases x with
 | non =>
  cases rx
  cases y with
  | non=>cases ry;exact PySem.EqNone.eq_none_none (ZaB I q (by simp))
  | bl j=>cases ry;exact PySem.EqNone.eq_none_bool (ZaB I q (by simp))
  | int j=>obtain ⟨t',rfl⟩:=ry;exact PySem.EqNone.eq_none_int (ZaB I q (by simp))
  | str j=>obtain ⟨t',rfl⟩:=ry;exact PySem.EqNone.eq_none_str (ZaB I q (by simp))
  | _=>exact absurd (show false=true from hs) Bool.false_ne_true
 | bl i =>
  cases rx
  cases y with
  | non=>cases ry;exact PySem.EqNone.eq_bool_none (ZaB I q (by simp))
  | bl j=>cases ry;exact eq_bool (ZaB I q ZjH)
  | str j=>obtain ⟨t',rfl⟩:=ry;exact PySem.EqMixed.eq_bool_str (ZaB I q (by simp))
  | _=>exact absurd (show false=true from hs) Bool.false_ne_true
 | int i =>
  obtain ⟨t,rfl⟩:=rx
  cases y with
  | non=>cases ry;exact PySem.EqNone.eq_int_none (ZaB I q (by simp))
  | int j=>obtain ⟨t',rfl⟩:=ry;exact eq_int (ZaB I q Zhd)
  | str j=>obtain ⟨t',rfl⟩:=ry;exact PySem.EqMixed.eq_int_str (ZaB I q (by simp))
  | _=>exact absurd (show false=true from hs) Bool.false_ne_true
 | str i =>
  obtain ⟨t,rfl⟩:=rx
  cases y with
  | non=>cases ry;exact PySem.EqNone.eq_str_none (ZaB I q (by simp))
  | bl j=>cases ry;exact PySem.EqMixed.eq_str_bool (ZaB I q (by simp))
  | int j=>obtain ⟨t',rfl⟩:=ry;exact PySem.EqMixed.eq_str_int (ZaB I q (by simp))
  | str j=>obtain ⟨t',rfl⟩:=ry;exact eq_str (ZaB I q Zhe)
  | _=>exact absurd (show false=true from hs) Bool.false_ne_true
 | byt i =>
  obtain ⟨t,rfl⟩:=rx
  cases y with
  | byt j=>obtain ⟨t',rfl⟩:=ry;exact PySem.W.eq_bytes (ZaB I q Zhf)
  | _=>exact absurd (show false=true from hs) Bool.false_ne_true
 | _=>cases y<;>exact absurd (show false=true from hs) Bool.false_ne_true
theorem Zhg:OpR X (compareOp .NotEq) rNe:=by
 intro pins s σ H x y v u Q I rx ry h
 obtain ⟨hs,q⟩:=h
 cases x with
 | non =>
  cases rx
  cases y with
  | non=>cases ry;exact PySem.EqNone.ne_none_none (ZaB I q (by simp))
  | bl j=>cases ry;exact PySem.EqNone.ne_none_bool (ZaB I q (by simp))
  | int j=>obtain ⟨t',rfl⟩:=ry;exact PySem.EqNone.ne_none_int (ZaB I q (by simp))
  | str j=>obtain ⟨t',rfl⟩:=ry;exact PySem.EqNone.ne_none_str (ZaB I q (by simp))
  | _=>exact absurd (show false=true from hs) Bool.false_ne_true
 | bl i =>
  cases rx
  cases y with
  | non=>cases ry;exact PySem.EqNone.ne_bool_none (ZaB I q (by simp))
  | bl j=>cases ry;exact ne_bool (ZaB I q (congrArg not ZjH))
  | str j=>obtain ⟨t',rfl⟩:=ry;exact PySem.EqMixed.ne_bool_str (ZaB I q (by simp))
  | _=>exact absurd (show false=true from hs) Bool.false_ne_true
 | int i =>
  obtain ⟨t,rfl⟩:=rx
  cases y with
  | non=>cases ry;exact PySem.EqNone.ne_int_none (ZaB I q (by simp))
  | int j=>obtain ⟨t',rfl⟩:=ry;exact ne_int (ZaB I q (congrArg not Zhd))
  | str j=>obtain ⟨t',rfl⟩:=ry;exact PySem.EqMixed.ne_int_str (ZaB I q (by simp))
  | _=>exact absurd (show false=true from hs) Bool.false_ne_true
 | str i =>
  obtain ⟨t,rfl⟩:=rx
  cases y with
  | non=>cases ry;exact PySem.EqNone.ne_str_none (ZaB I q (by simp))
  | bl j=>cases ry;exact PySem.EqMixed.ne_str_bool (ZaB I q (by simp))
  | int j=>obtain ⟨t',rfl⟩:=ry;exact PySem.EqMixed.ne_str_int (ZaB I q (by simp))
  | str j=>obtain ⟨t',rfl⟩:=ry;exact ne_str (ZaB I q (congrArg not Zhe))
  | _=>exact absurd (show false=true from hs) Bool.false_ne_true
 | byt i =>
  obtain ⟨t,rfl⟩:=rx
  cases y with
  | byt j=>obtain ⟨t',rfl⟩:=ry;exact PySem.W.ne_bytes (ZaB I q (congrArg not Zhf))
  | _=>exact absurd (show false=true from hs) Bool.false_ne_true
 | _=>cases y<;>exact absurd (show false=true from hs) Bool.false_ne_true
theorem op_lt:OpR X (compareOp .Lt) (rI0 fun i j=>.bl (decide (i<j))):=opB0 fun _ _ _ _ _ _ _ q=>lt_int q
theorem Zj3:OpR X (compareOp .Gt) (rI0 fun i j=>.bl (decide (j<i))):=opB0 fun _ _ _ _ _ _ _ q=>gt_int q
theorem OpR.or {f:Value->Value->Sem Value} {r r':R2} (h:OpR X f r) (h':OpR X f r'):OpR X f (fun x y H Q=>r x y H Q\/r' x y H Q):=by
 intro pins s σ H x y v u Q I rx ry q
 rcases q with q|q
 .exact h pins s σ H x y v u Q I rx ry q
 .exact h' pins s σ H x y v u Q I rx ry q
theorem nomark (b:Expr) {op:CmpOp} (h:op≠.In:=by decide) (h2:op≠.NotIn:=by decide):behindInMarks op b=false:=by
 have e1:(op==CmpOp.In)=false:=by cases op<;>first|rfl|exact absurd rfl h
 have e2:(op==CmpOp.NotIn)=false:=by cases op<;>first|rfl|exact absurd rfl h2
 cases b<;>simp [behindInMarks,e1,e2]
theorem Zhh {op:CmpOp} {r:R2} (ho:OpR X (compareOp op) r) (ha:PE X a ta) (hb:PE X b tb) (hm:behindInMarks op b=false):PE X (.Compare a [op] [b] pos) (tOp r ta tb):=by
 intro pins s σ H Q I h
 exact wpAny_Compare1 (binT ha hb I h fun v u s2 x y H2 I2 rx ry q=>ho pins s2 σ H2 x y v u Q I2 rx ry q) hm
def tTest (t:TE):TT:=fun σ H Q=>t σ H fun x H'=>∃ k,x=.bl k/\Q k H'
theorem Zaq {op:CmpOp} {r:R2} (ho:OpR X (compareOp op) r) (ha:PE X a ta) (hb:PE X b tb) (hm:behindInMarks op b=false):PT X (.Compare a [op] [b] pos) (tTest (tOp r ta tb)):=by
 intro pins s σ H Q I h
 refine wpAny_isTrue_Compare1 (thn (ha pins s σ H _ I h) fun v s1 ⟨x,H1,I1,r1,q1⟩=>thn (hb pins s1 σ H1 _ I1 q1) fun u s2 ⟨y,H2,I2,r2,q2⟩ =>
  thn (ho pins s2 σ H2 x y v u _ I2 r1 r2 q2) fun c s3 ⟨z,H3,I3,r3,k,e,q3⟩=>?_) hm
 subst e
 cases r3
 exact wpAny_truthy_bool ⟨H3,I3,q3⟩
theorem line63:(sizeLine:Nat)<2 ^ 63:=by rw [sizeLine_eq];decide
theorem vals1 {x:V} {us:List Value} (r:Vals [x] us):∃ u,us=[u]/\RelV x u:=by
 cases r with
 | cons r1 r2=>cases r2;exact ⟨_,rfl,r1⟩
theorem vals2 {x y:V} {us:List Value} (r:Vals [x,y] us):∃ u w',us=[u,w']/\RelV x u/\RelV y w':=by
 cases r with
 | cons r1 r2 =>
  cases r2 with
  | cons r3 r4=>cases r4;exact ⟨_,_,rfl,r1,r3⟩
theorem Zhi (hc:X.calm=true):CallR X (.builtin "max") (fun xs H Q=>∃ i j,xs=[.int i,.int j]/\Q (.int (if j>i then j else i)) H):=by
 intro pins s σ H xs us Q I r h
 obtain ⟨i,j,rfl,q⟩:=h
 obtain ⟨u,w',rfl,⟨t,rfl⟩,⟨t',rfl⟩⟩:=vals2 r
 refine max_two_ints (I.ok.hd hc) fun h' tk k=>⟨_,H,I.kept k,?_,q⟩
 by_cases hj:j>i
 .rw [if_pos hj,if_pos hj];exact ⟨_,rfl⟩
 .rw [if_neg hj,if_neg hj];exact ⟨_,rfl⟩
end
structure ObjM (h:Heap) (x dx C:Addr) (mA:Str->Option Value):Prop where
 obj:h.get? x=some (PySem.W.instObj C dx)
 ns:h.Ns1 dx mA
 ne:dx≠x
theorem Zhj {h:Heap} {dx:Addr} {mA:Str->Option Value} (n:h.Ns1 dx mA):∃ od,h.get? dx=some od/\∀ name,PySem.W.lookIn name od=some (mA name):=by
 obtain ⟨o,es,ep,ho,hd,hk,_,hm⟩:=n
 refine ⟨o,ho,fun name=>?_⟩
 have e:=hm name
 unfold nsFind findBy at e
 rw [<- Array.find?_toList] at e
 unfold PySem.W.lookIn
 rw [hd]
 dsimp only
 split
 .rename_i y q
  rw [q] at e
  exact congrArg some e
 .rename_i q
  rw [q] at e
  have a:es.toList.any (·.refKey)=false:=by
   rw [List.any_eq_false]
   intro y hy
   obtain ⟨z,t,hkey⟩:=hk y (Array.mem_toList_iff.mp hy)
   simp [DictEntry.refKey,hkey]
  have a':¬ es.toList.any (·.refKey)=true:=by rw [a];exact Bool.false_ne_true
  rw [if_neg a']
  exact congrArg some e
theorem ObjM.look {h:Heap} {x dx C:Addr} {mA:Str->Option Value} (I:ObjM h x dx C mA):∃ od,PySem.W.InstAt h x (PySem.W.instObj C dx) C (some od)/\∀ name,PySem.W.lookIn name od=some (mA name) :=
 let ⟨od,ho,hl⟩:=Zhj I.ns
 ⟨od,⟨I.obj,rfl,rfl,ho⟩,hl⟩
section
variable {prog:Program} {w:World} {A:Around} {E:Value->Shared->Prop} {s:Shared} {K:PySem.W.Frag} {x dx C f:Addr} {mA:Str->Option Value} {name:Str} {v:Value}
theorem Zj4 {expr:Bool} {Q:Value->Shared->Prop} (X:K.In s.heap) (I:ObjM s.heap x dx C mA) (hg:PySem.W.plainGet K C name=true) (hh:PySem.W.hasDictIn K C=true)
  (ha:PySem.W.findIn K (.ref C) name=some none) (hv:mA name=some v) (hv':PySem.W.handedIn v=true) (h:Q v { s with toks:=s.toks+1 }) :
  wpAny (model prog w) A (getAttr (.ref x) name expr) Q E s:=by
 obtain ⟨od,J,hl⟩:=I.look
 exact PySem.W.get_value X J (PySem.W.plainGet_of hg).1 (PySem.W.findObj_own hh ha rfl (by rw [hl,hv])) hv' h
theorem ZiD {pl:Sem Bool} {Q:Value×List Value->Shared->Prop} (X:K.In s.heap) (I:ObjM s.heap x dx C mA) (hg:PySem.W.plainGet K C name=true)
  (hf:PySem.W.findIn K (.ref C) name=some (some (.ref f))) (ht:PySem.W.isFn K (.ref f)=true) (hv:mA name=none) (h:Q (.ref f,[.ref x]) s) :
  wpAny (model prog w) A (getMethod (.ref x) name pl) Q E s:=by
 obtain ⟨od,J,hl⟩:=I.look
 exact PySem.W.method_fn X J (PySem.W.plainGet_of hg).1 (PySem.W.plainGet_of hg).2 hf (beq_iff_eq.mp ht) (by show (PySem.W.lookIn name od).map (·.isSome)=some false;rw [hl,hv];rfl) h
theorem Zj5 {ns:List Str} {Q:Unit->Shared->Prop} (X:K.In s.heap) (I:ObjM s.heap x dx C mA)
  (hs:PySem.W.findIn K (.ref C) "__setattr__" = some (some (.builtin "object.__setattr__"))) (hp:PySem.W.plainOver K C=true) (ht:PySem.W.takerIn K C name=some none) (hh:PySem.W.hasDictIn K C=true)
  (hw:PySem.Within mA ns) (hsz:ns.length<=sizeLine)
  (h:∀ h',ObjM h' x dx C (fun y=>if y=name then some v else mA y)->Heap.SameBut dx s.heap h'->Q () { s with heap:=h',toks:=s.toks+2 }) :
  wpAny (model prog w) A (setAttr (.ref x) name v) Q E s:=by
 obtain ⟨od,J,hl⟩:=I.look
 refine PySem.W.set_plain X J hs (PySem.W.osa_open (s:={ s with toks:=s.toks+1 }) (r:=none) X J hp ht fun b=>?_)
 obtain ⟨cd,hc,hd'⟩:=PySem.W.any_some hh
 have hx:s.heap.get? x=some ⟨.ref C,some dx,.plain,#[]⟩:=I.obj
 refine wpAny_bind (wpAny_pure (wpAny_bind (wpAny_bind (wpAny_loadPart hx (wpAny_bind (PySem.W.Looks.here (s:={ s with toks:=s.toks+1 }) (PySem.W.looks_clsIn X hc) ?_))))))
 rw [hd']
 refine wpAny_pure (a:=some dx) (wpAny_bind (wpAny_pure (wpAny_bind ?_)))
 refine wpAny_nsSet1 (s:={ s with toks:=s.toks+1 }) I.ns fun h' hn2 hs2=>?_
 obtain ⟨oD,esD,epD,hoD,hdD,hcD⟩:=hn2.count (PySem.Within.cons name v hw)
 refine wpAny_bind (wpAny_lookBehind hoD (by rw [hdD];exact pastItsLine_dict (Nat.le_trans hcD (by rw [List.length_cons];omega))) ?_)
 exact wpAny_pure (h _ ⟨(hs2.2 _ (Ne.symm I.ne)).trans I.obj,hn2,I.ne⟩ hs2)
theorem ZiE {R:Result->Shared->Prop} {vs:List Value} {kw:List (Str×Value)} (X:K.In s.heap) (hm:PySem.W.makesIn K C=true)
  (hi:PySem.W.findIn K (.ref C) "__init__" = some (some (.ref f))) (hf:PySem.W.typeIn K (.ref f)=some (.type "function"))
  (h:codeAny (model prog w) (A.under (.builtin "type.__call__" ⟨.ref C::vs,kw⟩)) (.call (.ref f) ⟨.ref (s.heap.objs.size+1)::vs,kw⟩) (PySem.W.InitBack (s.heap.objs.size+1) R)
   { s with heap:=(s.heap.push PySem.W.emptyDict).push (PySem.W.instObj C s.heap.objs.size) }) :
  codeAny (model prog w) A (.call (.ref C) ⟨vs,kw⟩) R s:=by
 obtain ⟨hh,g,d,t,os⟩:=s
 exact PySem.W.make_core (PySem.W.makes_of X hm) (PySem.W.looks_findIn X hi) (fun self=>PySem.W.bind_fn X self hf) (.inl rfl) h
end
noncomputable def putF (f:Str) (v:V):List (Str×V)->List (Str×V)
 | []=>[(f,v)]
 | (g,x)::r=>if g=f then (g,v)::r else (g,x)::putF f v r
theorem Zc7 (f g:Str) (v:V):∀ fs:List (Str×V),(putF f v fs).lookup g=if g=f then some v else fs.lookup g
 | []=>by
  show List.lookup g [(f,v)]=_
  by_cases h:g=f
  .have hb:(g==f)=true:=beq_iff_eq.mpr h
   simp only [List.lookup,hb,if_pos h]
  .have hb:(g==f)=false:=beq_eq_false_iff_ne.mpr h
   simp only [List.lookup,hb,if_neg h]
 | (k,x)::r=>by
  have ih:=Zc7 f g v r
  rw [show putF f v ((k,x)::r)=(if k=f then (k,v)::r else (k,x)::putF f v r) from rfl]
  by_cases hk:k=f
  .rw [if_pos hk]
   by_cases h:g=k
   .have hb:(g==k)=true:=beq_iff_eq.mpr h
    simp only [List.lookup,hb,if_pos (h.trans hk)]
   .have hb:(g==k)=false:=beq_eq_false_iff_ne.mpr h
    simp only [List.lookup,hb,if_neg (fun e:g=f=>h (e.trans hk.symm))]
  .rw [if_neg hk]
   by_cases h:g=k
   .have hb:(g==k)=true:=beq_iff_eq.mpr h
    simp only [List.lookup,hb,if_neg (fun e:g=f=>hk (h.symm.trans e))]
   .have hb:(g==k)=false:=beq_eq_false_iff_ne.mpr h
    simp only [List.lookup,hb]
    exact ih
theorem Zc8 (f:Str) (v:V):∀ fs:List (Str×V),f∈(putF f v fs).map (·.1)/\∀ g,g∈fs.map (·.1)->g∈(putF f v fs).map (·.1)
 | []=>⟨by simp [putF],fun g h=>by simp at h⟩
 | (k,x)::r=>by
  obtain ⟨i1,i2⟩:=Zc8 f v r
  rw [show putF f v ((k,x)::r)=(if k=f then (k,v)::r else (k,x)::putF f v r) from rfl]
  by_cases hk:k=f
  .rw [if_pos hk]
   subst hk
   exact ⟨by simp,fun g h=>by simpa using h⟩
  .rw [if_neg hk]
   refine ⟨?_,fun g h=>?_⟩
   .rw [List.map_cons]
    exact List.mem_cons_of_mem _ i1
   .rw [List.map_cons] at h |-
    rcases List.mem_cons.mp h with e|e
    .exact List.mem_cons.mpr (.inl e)
    .exact List.mem_cons_of_mem _ (i2 g e)
theorem Zc9 (f:Str) (v:V):∀ fs:List (Str×V),(putF f v fs).length<=fs.length+1
 | []=>by simp [putF]
 | (k,x)::r=>by
  have ih:=Zc9 f v r
  rw [show putF f v ((k,x)::r)=(if k=f then (k,v)::r else (k,x)::putF f v r) from rfl]
  by_cases hk:k=f
  .rw [if_pos hk,List.length_cons,List.length_cons];omega
  .rw [if_neg hk,List.length_cons,List.length_cons];omega
theorem RelO.some_of {v:V} {o:Option Value} (r:RelO (some v) o):∃ u,o=some u/\RelV v u:=by
 cases o with
 | none=>exact (show False from r).elim
 | some u=>exact ⟨u,rfl,r⟩
theorem RelO.none_of {o:Option Value} (r:RelO none o):o=none:=by
 cases o with
 | none=>rfl
 | some u=>exact (show False from r).elim
theorem Zhk {v:V} {u:Value} (r:RelV v u):PySem.W.handedIn u=true:=by
 cases v with
 | non=>cases (show u=Value.none from r);rfl
 | bl b=>cases (show u=Value.bool b from r);rfl
 | int i=>obtain ⟨t,e⟩:=(show ∃ t,u=Value.int i t from r);cases e;rfl
 | str x=>obtain ⟨t,e⟩:=(show ∃ t,u=Value.str x t from r);cases e;rfl
 | byt b=>obtain ⟨t,e⟩:=(show ∃ t,u=Value.bytes b t from r);cases e;rfl
 | flt b=>obtain ⟨t,e⟩:=(show ∃ t,u=Value.float b t from r);cases e;rfl
 | ref a=>cases (show u=Value.ref a from r);rfl
 | ty n=>cases (show u=Value.type n from r);rfl
section
variable {P:Program} {w:World} {H H':Hp} {h h':Heap} {a C dx:Addr} {fs fs':List (Str×V)}
theorem Zfj (hok:HOk P w H h) (e:H a=some (.ins C dx fs)):∃ mA,ObjM h a dx C mA/\(∀ f,RelO (fs.lookup f) (mA f))/\PySem.Within mA (fs.map (·.1))/\fs.length<=1000/\H dx=some (.own a):=by
 obtain ⟨d,z,ne,ob,mA,n,r,q⟩:=(show ObjOk P w H h a (.ins C dx fs) from hok a _ e)
 exact ⟨mA,⟨ob,n,ne⟩,r,q,z,d⟩
end
structure Cls (K:PySem.W.Frag) (C:Addr):Prop where
 pg:PySem.W.plainGet K C Str.empty=true
 hd:PySem.W.hasDictIn K C=true
 po:PySem.W.plainOver K C=true
 sa:PySem.W.findIn K (.ref C) "__setattr__" = some (some (.builtin "object.__setattr__"))
theorem Cls.get {K:PySem.W.Frag} {C:Addr} (c:Cls K C) (f:Str):PySem.W.plainGet K C f=true:=c.pg
def NoAttr (K:PySem.W.Frag) (C:Addr) (f:Str):Prop:=PySem.W.findIn K (.ref C) f=some none
theorem NoAttr.taker {K:PySem.W.Frag} {C:Addr} {f:Str} (n:NoAttr K C f):PySem.W.takerIn K C f=some none:=by
 unfold PySem.W.takerIn
 rw [show PySem.W.findIn K (.ref C) f=some none from n]
 rfl
structure Con (K:PySem.W.Frag) (C:Addr) (f:Str) (v:V) (u:Value):Prop where
 at_:PySem.W.findIn K (.ref C) f=some (some u)
 rel:RelV v u
 get:PySem.W.specialIn K u "__get__" = some none
 cp:PySem.W.copiedNames.contains f=false
structure Meth (K:PySem.W.Frag) (C:Addr) (m:Str) (f:Addr):Prop where
 at_:PySem.W.findIn K (.ref C) m=some (some (.ref f))
 fn:PySem.W.isFn K (.ref f)=true
 kp:PySem.W.keepIn K (.ref f)=true
section
variable {X:Cx} {pins:List (Addr×Obj)} {σ:St} {H:Hp} {s:Shared} {a C dx:Addr} {fs:List (Str×V)} {f:Str} {v:V} {A:Around} {E:Value->Shared->Prop}
theorem ZdQ {b:Bool} {Q:Value->Shared->Prop} (I:Inv X pins σ H s) (e:H a=some (.ins C dx fs)) (c:Cls X.K C) (n:NoAttr X.K C f) (l:fs.lookup f=some v)
  (h:∀ u s',Inv X pins σ H s'->RelV v u->Q u s'):wpAny (model X.prog X.w) A (getAttr (.ref a) f b) Q E s:=by
 obtain ⟨mA,O,r,_,_,_⟩:=Zfj I.hok e
 obtain ⟨u,hu,ru⟩:=RelO.some_of (v:=v) (o:=mA f) (by rw [<- l];exact r f)
 exact Zj4 I.kIn O (c.get f) c.hd n hu (Zhk ru) (h u _ (I.tok _) ru)
theorem ZbE {m:Str} {g:Addr} {pl:Sem Bool} {Q:Value×List Value->Shared->Prop} (I:Inv X pins σ H s) (e:H a=some (.ins C dx fs)) (c:Cls X.K C) (k:Meth X.K C m g) (l:fs.lookup m=none)
  (h:Q (.ref g,[.ref a]) s):wpAny (model X.prog X.w) A (getMethod (.ref a) m pl) Q E s:=by
 obtain ⟨mA,O,r,_,_,_⟩:=Zfj I.hok e
 have hn:mA m=none:=RelO.none_of (by rw [<- l];exact r m)
 exact ZiD I.kIn O (c.get m) k.at_ k.fn hn h
theorem ZdR {y:V} {u:Value} {Q:Unit->Shared->Prop} (I:Inv X pins σ H s) (e:H a=some (.ins C dx fs)) (c:Cls X.K C) (n:NoAttr X.K C f) (hl:fs.length<1000) (ry:RelV y u)
  (h:∀ s',Inv X pins σ (upd H a (.ins C dx (putF f y fs))) s'->Q () s'):wpAny (model X.prog X.w) A (setAttr (.ref a) f u) Q E s:=by
 obtain ⟨mA,O,r,wi,_,ho⟩:=Zfj I.hok e
 have hz:(fs.map (·.1)).length<=sizeLine:=by rw [List.length_map,sizeLine_eq];omega
 refine Zj5 I.kIn O c.sa c.po n.taker c.hd wi hz fun h' O' sb=>h _ ?_
 have hd:∃ o,h'.get? dx=some o:=let ⟨o,_,_,e',_⟩:=O'.ns;⟨o,e'⟩
 refine I.write (x:=a) (e:=dx) (by rw [e];exact True.intro) (.inr ho) (fun b q hb z=>(sb.2 b hb).trans z) hd ?_
 refine ⟨by rw [Zaf O.ne];exact ho,?_,O.ne,O'.obj,_,O'.ns,fun g=>?_,fun g hg=>?_⟩
 .have:=Zc9 f y fs;omega
 .show RelO ((putF f y fs).lookup g) (if g=f then some u else mA g)
  rw [Zc7]
  by_cases q:g=f
  .rw [if_pos q,if_pos q];exact ry
  .rw [if_neg q,if_neg q];exact r g
 .by_cases q:g=f
  .rw [q];exact (Zc8 f y fs).1
  .refine (Zc8 f y fs).2 g (wi g fun z=>hg ?_)
   show (if g=f then some u else mA g)=none
   rw [if_neg q];exact z
theorem Inv.made (I:Inv X pins σ H s):Inv X pins σ (upd (upd H s.heap.objs.size (.own (s.heap.objs.size+1))) (s.heap.objs.size+1) (.ins C s.heap.objs.size []))
  { s with heap:=(s.heap.push PySem.W.emptyDict).push (PySem.W.instObj C s.heap.objs.size) }:=by
 have e1:(s.heap.push PySem.W.emptyDict).get? s.heap.objs.size=some PySem.W.emptyDict:=Heap.get?_push_size s.heap rfl
 have e2:((s.heap.push PySem.W.emptyDict).push (PySem.W.instObj C s.heap.objs.size)).get? (s.heap.objs.size+1)=some (PySem.W.instObj C s.heap.objs.size):=by
  have:=Heap.get?_push_size (s.heap.push PySem.W.emptyDict) (o:=PySem.W.instObj C s.heap.objs.size) rfl
  rwa [Heap.size_push] at this
 have e3:(s.heap.push PySem.W.emptyDict).Ns s.heap.objs.size (fun _=>none):=⟨PySem.W.emptyDict,#[],_,e1,rfl,(fun e he=>absurd he (by simp)),fun _=>rfl⟩
 have I1:=I.laid (a:=s.heap.objs.size) (o:=.own (s.heap.objs.size+1)) (h':=s.heap.push PySem.W.emptyDict) (t':=s.toks) (fun b u q=>Heap.get?_push_of_some _ q) (Nat.le_refl _) ⟨_,e1⟩
 refine I1.laid (a:=s.heap.objs.size+1) (o:=.ins C s.heap.objs.size []) (t':=s.toks) (fun b u q=>Heap.get?_push_of_some _ q) (Nat.le_of_eq (Heap.size_push _ _)) ?_
 have ne:s.heap.objs.size≠s.heap.objs.size+1:=Nat.ne_of_lt (Nat.lt_succ_self _)
 refine ⟨by rw [Zaf ne,Zab],Nat.zero_le _,ne,e2,fun _=>none,(Heap.Ns1.of_empty e3).at fun o q=>Heap.get?_push_of_some _ q,fun _=>True.intro,fun y hy=>absurd rfl hy⟩
theorem Zj6 {prog:Program} {w:World} {env:Env} {e:Expr} {f:Str} {pos:Pos} {s:Shared} {Q:Value->Shared->Prop} (hb:attributeBase e f env (eval e env)=eval e env)
  (h:wpAny (model prog w) A (eval e env) (fun o s₁=>wpAny (model prog w) A (getAttr o f true) Q E s₁) E s):wpAny (model prog w) A (eval (.Attribute e f pos) env) Q E s :=
 Attribute_any_ h (by rw [arm_eval_Attribute,hb])
end
def tFld (K:PySem.W.Frag) (ta:TE) (f:Str):TE:=fun σ H Q=>ta σ H fun x H1=>∃ a C dx fs v,x=.ref a/\H1 a=some (.ins C dx fs)/\Cls K C/\NoAttr K C f/\fs.lookup f=some v/\Q v H1
def sFld (K:PySem.W.Frag) (ta tv:TE) (f:Str):TS:=fun D σ H=>tv σ H fun y H1=>ta σ H1 fun x H2=>∃ a C dx fs,x=.ref a/\H2 a=some (.ins C dx fs)/\Cls K C/\NoAttr K C f/\fs.length<1000 /\
 D.nx σ (upd H2 a (.ins C dx (putF f y fs)))
def InOp (X:Cx) (op:Operator) (rd:V->V->Hp->VK->Prop):Prop :=
 ∀ (pins:List (Addr×Obj)) (s:Shared) (σ:St) (H:Hp) (x y:V) (u v:Value) (Q:VK),Inv X pins σ H s->RelV x u->RelV y v->rd x y H Q->wpAny (model X.prog X.w) X.A (inplaceOp op u v) (EP X pins σ Q) X.xe s
def Zhl (K:PySem.W.Frag) (ta tv:TE) (rd:V->V->Hp->VK->Prop) (f:Str):TS:=fun D σ H=>ta σ H fun x H1=>∃ a C dx fs v,x=.ref a/\H1 a=some (.ins C dx fs)/\Cls K C/\NoAttr K C f/\fs.lookup f=some v /\
 tv σ H1 fun y H2=>rd v y H2 fun z H3=>∃ dx' fs',H3 a=some (.ins C dx' fs')/\fs'.length<1000/\D.nx σ (upd H3 a (.ins C dx' (putF f z fs')))
section
variable {X:Cx} {o e value:Expr} {f:Str} {pos pos' tpos:Pos} {ta tv:TE}
theorem Zak (he:PE X e ta) (hb:attributeBase e f X.env (eval e X.env)=eval e X.env):PE X (.Attribute e f pos) (tFld X.K ta f):=by
 intro pins s σ H Q I h
 refine Zj6 hb (thn (he pins s σ H _ I h) fun u s1 ⟨x,H1,I1,rx,a,C,dx,fs,v,ex,ea,c,n,l,q⟩=>?_)
 subst ex
 obtain rfl:u=Value.ref a:=rx
 exact ZdQ I1 ea c n l fun u' s2 I2 ru=>⟨v,H1,I2,ru,q⟩
theorem Zbf (ha:PE X o ta) (hv:PE X value tv) (hs:swapsWith value (some (.Attribute o f pos')) pos.line X.env=pure false):PS X (.Assign [.Attribute o f pos'] value pos) (sFld X.K ta tv f):=by
 intro pins s σ H D I h
 refine plainObj_wpAny_Assign_Attribute (thn (hv pins s σ H _ I h) fun u s1 ⟨y,H1,I1,ry,q⟩=>thn (ha pins s1 σ H1 _ I1 q) fun ov s2 ⟨x,H2,I2,rx,a,C,dx,fs,ex,ea,c,n,l,q2⟩=>?_) hs
 subst ex
 obtain rfl:ov=Value.ref a:=rx
 exact ZdR I2 ea c n l ry fun s3 I3=>⟨σ,_,I3,q2⟩
theorem Zex {op:Operator} {rd:V->V->Hp->VK->Prop} (ha:PE X o ta) (hv:PE X value tv) (hop:InOp X op rd):PS X (.AugAssign (.Attribute o f tpos) op value pos) (Zhl X.K ta tv rd f):=by
 intro pins s σ H D I h
 refine wpAny_AugAssign_AttributeAny (thn (ha pins s σ H _ I h) fun ov s1 ⟨x,H1,I1,rx,a,C,dx,fs,v,ex,ea,c,n,l,q⟩=>?_)
 subst ex
 obtain rfl:ov=Value.ref a:=rx
 refine ZdQ I1 ea c n l fun u s2 I2 ru=>thn (hv pins s2 σ H1 _ I2 q) fun w3 s3 ⟨y,H2,I3,ry,q3⟩=>thn (hop pins s3 σ H2 v y u w3 _ I3 ru ry q3) fun w4 s4 ⟨z,H3,I4,rz,dx',fs',ea',l',q4⟩=>?_
 exact ZdR I4 ea' c n l' rz fun s5 I5=>⟨σ,_,I5,q4⟩
def rAdd:V->V->Hp->VK->Prop:=fun x y H Q=>∃ i j,x=.int i/\y=.int j/\Q (.int (i+j)) H
def rSub:V->V->Hp->VK->Prop:=fun x y H Q=>∃ i j,x=.int i/\y=.int j/\Q (.int (i-j)) H
theorem in_add:InOp X .Add rAdd:=by
 rintro pins s σ H x y u v Q I rx ry ⟨i,j,rfl,rfl,q⟩
 obtain ⟨t,rfl⟩:=(show ∃ t,u=Value.int i t from rx)
 obtain ⟨t',rfl⟩:=(show ∃ t',v=Value.int j t' from ry)
 exact PyProof.Rows.iadd_int ⟨.int (i+j),H,I.tok _,⟨_,rfl⟩,q⟩
theorem in_sub:InOp X .Sub rSub:=by
 rintro pins s σ H x y u v Q I rx ry ⟨i,j,rfl,rfl,q⟩
 obtain ⟨t,rfl⟩:=(show ∃ t,u=Value.int i t from rx)
 obtain ⟨t',rfl⟩:=(show ∃ t',v=Value.int j t' from ry)
 exact PyProof.Rows.isub_int ⟨.int (i-j),H,I.tok _,⟨_,rfl⟩,q⟩
theorem Zj7 {pl:Sem Bool} {m:Str} {apos:Pos} {args:List Expr} {pins:List (Addr×Obj)} {s:Shared} {σ:St} {H:Hp} {Q:Value->Shared->Prop} {te:TE} (he:PE X e te) (I:Inv X pins σ H s)
  (h:te σ H fun x H1=>∃ a C dx fs g,x=.ref a/\H1 a=some (.ins C dx fs)/\Cls X.K C/\Meth X.K C m g/\fs.lookup m=none /\
   ∀ s1,Inv X pins σ H1 s1->wpAny (model X.prog X.w) X.A (callWith pos (.ref g) [.ref a] (backTo pos (starEach args X.env)) (backToKw pos (keywordEach [] X.env))) Q X.xe s1)
  (ht:eval (.Call (.Attribute e m apos) args [] pos) X.env=(do
   let ov <- eval e X.env
   standAt apos.atName
   let (f,first) <- holding [ov] (getMethod ov m pl)
   callWith pos f first (backTo pos (starEach args X.env)) (backToKw pos (keywordEach [] X.env)))) :
  wpAny (model X.prog X.w) X.A (eval (.Call (.Attribute e m apos) args [] pos) X.env) Q X.xe s:=by
 refine PySem.W.methodCall_KW (pl:=pl) (thn (he pins s σ H _ I h) fun u s1 ⟨x,H1,I1,rx,a,C,dx,fs,g,ex,ea,c,k,l,q⟩=>?_) ht
 subst ex
 obtain rfl:u=Value.ref a:=rx
 exact ZbE I1 ea c k l (q s1 I1)
end
section
variable {X:Cx} {pins:List (Addr×Obj)} {σ:St} {H:Hp} {s:Shared} {A:Around} {E:Value->Shared->Prop} {Q:Value->Shared->Prop} {c:Value} {b:Bool}
inductive TyOf (K:PySem.W.Frag) (H:Hp):V->Value->Prop where
 | non:TyOf K H .non (.type "NoneType")
 | bl (x:Bool):TyOf K H (.bl x) (.type "bool")
 | int (i:Int):TyOf K H (.int i) (.type "int")
 | str (x:Str):TyOf K H (.str x) (.type "str")
 | flt (x:UInt64):TyOf K H (.flt x) (.type "float")
 | lst {a:Addr} {xs:List V} (e:H a=some (.lst xs)):TyOf K H (.ref a) (.type "list")
 | frz {a:Addr} {o:Obj} {xs:List V} (e:H a=some (.frz o (.lst xs))):TyOf K H (.ref a) (.type "list")
 | tup {a:Addr} {xs:List V} (e:H a=some (.tup xs)):TyOf K H (.ref a) (.type "tuple")
 | dK {a:Addr} {kvs:List (Key×V)} (e:H a=some (.dK kvs)):TyOf K H (.ref a) (.type "dict")
 | dT {a:Addr} {kvs:List (List Key×V)} (e:H a=some (.dT kvs)):TyOf K H (.ref a) (.type "dict")
 | ins {a C dx:Addr} {fs:List (Str×V)} (e:H a=some (.ins C dx fs)) (cl:Cls K C) (ha:PySem.W.findIn K (.ref C) "__class__" = some (some (.builtin "object.__class__")))
   (hn:PySem.W.specialIn K (.builtin "object.__class__") "__get__" = some (some (.builtin "getset_descriptor.__get__"))) (htk:PySem.W.takesIn K (.builtin "object.__class__")=some true)
   (hm:PySem.W.mroIn K C (.type "object")=some true):TyOf K H (.ref a) (.ref C)
end
structure Room (k:Nat) (A:Around):Prop where
 hd:A.handled=none
 dp:A.depth+3*k+5<recursionLimit
 un:A.units+16*k+200<cLine
theorem Room.mono {j k:Nat} {A:Around} (r:Room k A) (h:j<=k):Room j A:=⟨r.hd,by have:=r.dp;omega,by have:=r.un;omega⟩
theorem Room.deeper {k:Nat} {A:Around} (r:Room (k+1) A) (env:Env):Room k (A.deeper env) :=
 ⟨r.hd,by have:=r.dp;show A.depth+1+3*k+5<_;omega,by have:=r.un;show A.units+3+16*k+200<_;omega⟩
theorem Room.in1 {k:Nat} {A:Around} (r:Room (k+1) A):Room k A.in1 :=
 ⟨r.hd,by have:=r.dp;show A.depth+3*k+5<_;omega,by have:=r.un;show A.units+1+16*k+200<_;omega⟩
theorem Zgw {A:Around} {C:Addr} {us:List Value} {kw:List (Str×Value)}:(A.under (.builtin "type.__call__" ⟨.ref C::us,kw⟩)).depth=A.depth+1:=by
 first|rfl|simp [Around.under,Code.weight,Code.isCreation,Code.isGuard,Code.isCaller,Code.frames,Code.isFrame,guardIds]
theorem Zgx {A:Around} {C:Addr} {us:List Value} {kw:List (Str×Value)}:(A.under (.builtin "type.__call__" ⟨.ref C::us,kw⟩)).units=A.units+1:=by
 first|rfl|simp [Around.under,Code.cUnits,Code.frames,Code.isFrame]
theorem Room.make {k:Nat} {A:Around} (r:Room (k+1) A) (C:Addr) (us:List Value) (kw:List (Str×Value)):Room k (A.under (.builtin "type.__call__" ⟨.ref C::us,kw⟩)) :=
 ⟨r.hd,by have:=r.dp;rw [Zgw];omega,by have:=r.un;rw [Zgx];omega⟩
theorem Room.depth {k:Nat} {A:Around} (r:Room k A):A.depth<recursionLimit:=by have:=r.dp;omega
theorem Room.units {k:Nat} {A:Around} (r:Room k A):A.units+64<cLine:=by have:=r.un;omega
def tNil:TA:=fun _ H Q=>Q [] H
def tCons (ta:TE) (tr:TA):TA:=fun σ H Q=>ta σ H fun x H1=>tr σ H1 fun xs H2=>Q (x::xs) H2
section
variable {X:Cx} {e:Expr} {es:List Expr} {te:TE} {t:TA} {pos:Pos}
theorem Zag:PA X [] tNil:=fun _ _ _ _ H Q I h=>Calls.spliced_nil ⟨[],H,I,.nil,h⟩
theorem Zaa (ha:PE X e te) (hr:PA X es t) (hs:starEach (e::es) X.env=(false,eval e X.env)::starEach es X.env:=by rfl):PA X (e::es) (tCons te t):=by
 intro pos pins s σ H Q I h
 rw [hs]
 show wpAny _ _ (spliced ((false,eval e X.env)::backTo pos (starEach es X.env))) _ _ s
 refine Calls.spliced_cons (thn (ha pins s σ H _ I h) fun u s1 ⟨x,H1,I1,r1,q1⟩=>?_)
 exact thn (hr pos pins s1 σ H1 _ I1 q1) fun us s2 ⟨xs,H2,I2,r2,q2⟩=>⟨x::xs,H2,I2,.cons r1 r2,q2⟩
def tTup (t:TA):TE:=fun σ H Q=>t σ H fun xs H1=>xs.length<=sizeLine/\∀ p,H1 p=none->Q (.ref p) (upd H1 p (.tup xs))
def tLst (t:TA):TE:=fun σ H Q=>t σ H fun xs H1=>xs.length<=sizeLine/\∀ p,H1 p=none->Q (.ref p) (upd H1 p (.lst xs))
theorem Zbh {x1} (h:PA X es t):PE X (.Tuple es x1 pos) (tTup t):=by
 intro pins s σ H Q I hq
 refine wpAny_Tuple_spliced (thn (h pos pins s σ H _ I hq) fun us s1 ⟨xs,H1,I1,r,z,q⟩=>⟨by rw [<- r.length];exact z,?_⟩)
 have hf:H1 s1.heap.objs.size=none:=I1.hok.fresh (Nat.le_refl _)
 refine ⟨.ref s1.heap.objs.size,upd H1 s1.heap.objs.size (.tup xs),I1.laid (t':=s1.toks) (fun b u e=>Heap.get?_push_of_some _ e) (Nat.le_refl _) ?_,rfl,q _ hf⟩
 exact ⟨z,us,r,⟨_,Heap.get?_push_size _ rfl,rfl,_,rfl⟩⟩
theorem Zbc (h:PA X es t):PE X (.List es pos) (tLst t):=by
 intro pins s σ H Q I hq
 refine wpAny_List_spliced (thn (h pos pins s σ H _ I hq) fun us s1 ⟨xs,H1,I1,r,z,q⟩=>⟨by rw [<- r.length];exact z,?_⟩)
 have hf:H1 s1.heap.objs.size=none:=I1.hok.fresh (Nat.le_refl _)
 refine ⟨.ref s1.heap.objs.size,upd H1 s1.heap.objs.size (.lst xs),I1.laid (t':=s1.toks) (fun b u e=>Heap.get?_push_of_some _ e) (Nat.le_refl _) ?_,rfl,q _ hf⟩
 exact ⟨z,us,0,r,Heap.get?_push_size _ rfl⟩
end
abbrev Sp:=List V->Hp->VK->XK->Prop
abbrev CXT:=List Env->Hp->Shared->XK->Value->Shared->Prop
structure Env0 (P:Program) (w:World) (K:PySem.W.Frag) (mg:Str->Option Value) (base:Heap) (A:Around) (outer:List Env) (s:Shared) (H:Hp):Prop where
 frames:A.frames=some outer
 mod:Mod K mg base
 bs:∀ b o,base.get? b=some o->s.heap.get? b=some o/\H b=none
 bsz:base.objs.size<=s.heap.objs.size
 funs:s.heap.FunFrames base outer
 frf:∀ b∈frs outer,H b=none
 hok:HOk P w H s.heap
 bare:AllBare s.gens
def CE (outer:List Env) (P:Program) (w:World) (H:Hp) (s:Shared) (Q:VK) (u:Value) (s':Shared):Prop :=
 ∃ v H',s'.os=s.os/\AllBare s'.gens/\Un (frs outer) [] H H' s.heap s'.heap/\HOk P w H' s'.heap/\RelV v u/\Q v H'
def CR (CX:CXT) (outer:List Env) (P:Program) (w:World) (H:Hp) (s:Shared) (Q:VK) (E:XK) (r:Result) (s':Shared):Prop :=
 match r with
 | .ok (.ret u)=>CE outer P w H s Q u s'
 | .ok _=>False
 | .error e=>CX outer H s E e s'
structure FnOk (P:Program) (w:World) (K:PySem.W.Frag) (mg:Str->Option Value) (base:Heap) (CX:CXT) (k:Nat) (f:Addr) (fd:FuncData) (ps:List Str) (sp:Sp):Prop where
 len:∀ vs H Q E,sp vs H Q E->vs.length=ps.length
 run:∀ (A:Around) (outer:List Env) (s:Shared) (H:Hp) (args:Args) (us:List Value) (vs:List V) (Q:VK) (E:XK),Room k A->Env0 P w K mg base A outer s H->BindsTo s fd args (ps.zip us)->Vals vs us->sp vs H Q E ->
  codeAny (model P w) A (.call (.ref f) args) (CR CX outer P w H s Q E) s
theorem FnOk.mono {P:Program} {w:World} {K:PySem.W.Frag} {mg:Str->Option Value} {base:Heap} {CX:CXT} {j k:Nat} {f:Addr} {fd:FuncData} {ps:List Str} {sp:Sp} (F:FnOk P w K mg base CX j f fd ps sp) (h:j<=k) :
  FnOk P w K mg base CX k f fd ps sp:=⟨F.len,fun A outer s H args us vs Q E hr=>F.run A outer s H args us vs Q E (hr.mono h)⟩
theorem FnOk.imp {P:Program} {w:World} {K:PySem.W.Frag} {mg:Str->Option Value} {base:Heap} {CX:CXT} {k:Nat} {f:Addr} {fd:FuncData} {ps:List Str} {sp sp':Sp} (F:FnOk P w K mg base CX k f fd ps sp)
  (h:∀ vs H Q E,sp' vs H Q E->sp vs H Q E):FnOk P w K mg base CX k f fd ps sp' :=
 ⟨fun vs H Q E q=>F.len vs H Q E (h _ _ _ _ q),fun A outer s H args us vs Q E hr he hb hv hs=>F.run A outer s H args us vs Q E hr he hb hv (h _ _ _ _ hs)⟩
theorem Env0.make {P:Program} {w:World} {K:PySem.W.Frag} {mg:Str->Option Value} {base:Heap} {A:Around} {outer:List Env} {s:Shared} {H:Hp} (e:Env0 P w K mg base A outer s H) (C:Addr) (us:List Value) (kw:List (Str×Value)) :
  Env0 P w K mg base (A.under (.builtin "type.__call__" ⟨.ref C::us,kw⟩)) outer s H:=⟨by first|exact e.frames|(simpa [Around.under,Code.envs,Code.isFrame,pushEnvs] using e.frames),e.mod,e.bs,e.bsz,e.funs,e.frf,e.hok,e.bare⟩
theorem Env0.in1 {P:Program} {w:World} {K:PySem.W.Frag} {mg:Str->Option Value} {base:Heap} {A:Around} {outer:List Env} {s:Shared} {H:Hp} (e:Env0 P w K mg base A outer s H) :
  Env0 P w K mg base A.in1 outer s H:=⟨e.frames,e.mod,e.bs,e.bsz,e.funs,e.frf,e.hok,e.bare⟩
section
variable {X:Cx} {pins:List (Addr×Obj)} {σ:St} {H:Hp} {s s':Shared}
theorem Inv.env0 (I:Inv X pins σ H s):Env0 X.prog X.w X.K X.mg X.base X.A X.stack s H :=
 ⟨I.ok.frames,I.ok.mod,I.bs,Nat.le_trans I.ok.bsz I.sz,I.stack,I.stkFree,I.hok,I.bare⟩
theorem Inv.after {Q:VK} {u:Value} (I:Inv X pins σ H s) (h:CE X.stack X.prog X.w H s Q u s'):EP X pins σ Q u s':=by
 obtain ⟨v,H',os,bare,un,hok,r,q⟩:=h
 obtain ⟨hh,g,d,t,os'⟩:=s'
 obtain rfl:os'=s.os:=os
 exact ⟨v,H',I.call (h':=hh) (g':=g) (d':=d) (t':=t) (ch:=[]) un hok bare (fun b z=>absurd z (by simp)),r,q⟩
end
def tCall (sp:Sp) (dvs:List V) (E:XK) (t:TA):TE:=fun σ H Q=>t σ H fun vs H1=>sp (vs++dvs) H1 Q E
def tMeth (C:Addr) (m:Str) (sp:Sp) (dvs:List V) (E:XK) (ta:TE) (t:TA):TE:=fun σ H Q=>ta σ H fun x H1=>∃ a dx fs,x=.ref a/\H1 a=some (.ins C dx fs)/\fs.lookup m=none /\
 t σ H1 fun vs H2=>sp (x::(vs++dvs)) H2 Q E
def tMake (C:Addr) (sp:Sp) (dvs:List V) (E:XK) (t:TA):TE:=fun σ H Q=>t σ H fun vs H1=>∀ x dx,H1 x=none->H1 dx=none->dx≠x ->
 sp (.ref x::(vs++dvs)) (upd (upd H1 dx (.own x)) x (.ins C dx [])) (fun v H2=>v=.non/\Q (.ref x) H2) E
def Binds (K:PySem.W.Frag) (fd:FuncData) (ps:List Str) (ds:List Value):Prop :=
 ∀ (s:Shared) (us:List Value),K.In s.heap->(us++ds).length=ps.length->BindsTo s fd ⟨us,[]⟩ (ps.zip (us++ds))
theorem Binds.all {K:PySem.W.Frag} {fd:FuncData} {ps:List Str} (h:∀ us:List Value,us.length=ps.length->bindArgs fd ⟨us,[]⟩=pure (ps.zip us)):Binds K fd ps []:=fun s us _ hl=>by
 rw [List.append_nil] at hl |-
 exact .of_eq (h us hl)
def Zda (CX:CXT) (X:Cx) (E:XK):Prop:=∀ (pins:List (Addr×Obj)) (σ:St) (H:Hp) (s:Shared) (e:Value) (s':Shared),Inv X pins σ H s->CX X.stack H s E e s'->X.xe e s'
section
variable {X:Cx} {CX:CXT} {k:Nat} {f C:Addr} {fd:FuncData} {ps:List Str} {sp:Sp} {dvs:List V} {ds:List Value} {E:XK} {x m:Str} {p pos apos:Pos} {e o:Expr} {es:List Expr} {ta:TE} {t:TA}
theorem Zey {pins:List (Addr×Obj)} {σ:St} {H:Hp} {s:Shared} {Q:VK} {us:List Value} {vs:List V} (F:FnOk X.prog X.w X.K X.mg X.base CX k f fd ps sp) (hr:Room k X.A) (hb:Binds X.K fd ps ds) (hd:Vals dvs ds) (hx:Zda CX X E)
  (I:Inv X pins σ H s) (r:Vals vs us) (h:sp (vs++dvs) H Q E):wpAny (model X.prog X.w) X.A (call (.ref f) us) (EP X pins σ Q) X.xe s:=by
 have r2:Vals (vs++dvs) (us++ds):=r.append hd
 have hl:(us++ds).length=ps.length:=by rw [<- r2.length];exact F.len _ _ _ _ h
 refine wpAny_call (codeAny_mono (F.run X.A X.stack s H ⟨us,[]⟩ (us++ds) (vs++dvs) Q E hr I.env0 (hb s us I.kIn hl) r2 h) fun r s' hq=>?_)
 cases r with
 | error e=>exact hx pins σ H s e s' I hq
 | ok fl =>
  cases fl with
  | ret u=>exact I.after hq
  | next=>exact False.elim hq
  | brk=>exact False.elim hq
  | cont=>exact False.elim hq
theorem Zj8 (F:FnOk X.prog X.w X.K X.mg X.base CX k f fd ps sp) (hr:Room k X.A) (hg:Gl X x) (hm:X.mg x=some (.ref f)) (hk:PySem.W.keepIn X.K (.ref f)=true) (hb:Binds X.K fd ps ds) (hd:Vals dvs ds) (hx:Zda CX X E)
  (ha:PA X (e::es) t) (hdb:(x==("__debug__" : Str))=false:=by decide) (he:starEach (e::es) X.env=(false,eval e X.env)::starEach es X.env:=by rfl) (hpl:(backTo pos (starEach es X.env)).any (·.1)=false:=by rfl) :
  PE X (.Call (.Name x p) (e::es) [] pos) (tCall sp dvs E t):=by
 intro pins s σ H Q I h
 refine wpAny_Call_Name_kw (Zfi I hg hm ?_ hdb)
 refine PySem.W.callWith_K (h₀:=X.base) I.ok.mod.kin hk (thn (ha pos pins s σ H _ I h) fun us s1 ⟨vs,H1,I1,r,q⟩=>⟨I1.kIn,?_⟩) he hpl
 exact Zey F hr hb hd hx I1 r q
theorem Zj9 {pl:Sem Bool} (he:PE X o ta) (c:Cls X.K C) (hm:Meth X.K C m f) (F:FnOk X.prog X.w X.K X.mg X.base CX k f fd ps sp) (hr:Room k X.A) (hb:Binds X.K fd ps ds) (hd:Vals dvs ds) (hx:Zda CX X E) (ha:PA X (e::es) t)
  (hst:starEach (e::es) X.env=(false,eval e X.env)::starEach es X.env:=by rfl) (hpl:(backTo pos (starEach es X.env)).any (·.1)=false:=by rfl)
  (ht:eval (.Call (.Attribute o m apos) (e::es) [] pos) X.env=(do
   let ov <- eval o X.env
   standAt apos.atName
   let (f,first) <- holding [ov] (getMethod ov m pl)
   callWith pos f first (backTo pos (starEach (e::es) X.env)) (backToKw pos (keywordEach [] X.env))):=by rfl) :
  PE X (.Call (.Attribute o m apos) (e::es) [] pos) (tMeth C m sp dvs E ta t):=by
 intro pins s σ H Q I h
 refine PySem.W.methodCall_KW (pl:=pl) (thn (he pins s σ H _ I h) fun u s1 ⟨x,H1,I1,rx,a,dx,fs,ex,ea,l,q⟩=>?_) ht
 subst ex
 obtain rfl:u=Value.ref a:=rx
 refine ZbE I1 ea c hm l ?_
 refine PySem.W.callWith_K (first:=[.ref a]) (h₀:=X.base) I.ok.mod.kin hm.kp (thn (ha pos pins s1 σ H1 _ I1 q) fun us s2 ⟨vs,H2,I2,r,q2⟩=>⟨I2.kIn,?_⟩) hst hpl
 exact Zey (us:=.ref a::us) (vs:=.ref a::vs) F hr hb hd hx I2 (.cons rfl r) q2
theorem ZiF {pl:Sem Bool} (he:PE X o ta) (c:Cls X.K C) (hm:Meth X.K C m f) (F:FnOk X.prog X.w X.K X.mg X.base CX k f fd ps sp) (hr:Room k X.A) (hb:Binds X.K fd ps ds) (hd:Vals dvs ds) (hx:Zda CX X E)
  (ht:eval (.Call (.Attribute o m apos) [] [] pos) X.env=(do
   let ov <- eval o X.env
   standAt apos.atName
   let (f,first) <- holding [ov] (getMethod ov m pl)
   callWith pos f first (backTo pos (starEach [] X.env)) (backToKw pos (keywordEach [] X.env))):=by rfl) :
  PE X (.Call (.Attribute o m apos) [] [] pos) (tMeth C m sp dvs E ta tNil):=by
 intro pins s σ H Q I h
 refine PySem.W.methodCall_KW (pl:=pl) (thn (he pins s σ H _ I h) fun u s1 ⟨x,H1,I1,rx,a,dx,fs,ex,ea,l,q⟩=>?_) ht
 subst ex
 obtain rfl:u=Value.ref a:=rx
 refine ZbE I1 ea c hm l ?_
 exact PySem.W.callWith_K0 (first:=[.ref a]) I1.kIn hm.kp (Zey (us:=[.ref a]) (vs:=[.ref a]) F hr hb hd hx I1 (.cons rfl .nil) q)
structure Mk (K:PySem.W.Frag) (C f:Addr):Prop where
 makes:PySem.W.makesIn K C=true
 init:PySem.W.findIn K (.ref C) "__init__" = some (some (.ref f))
 fn:PySem.W.isFn K (.ref f)=true
 kp:PySem.W.keepIn K (.ref C)=true
theorem ZiG {pins:List (Addr×Obj)} {σ:St} {H:Hp} {s:Shared} {Q:VK} {us:List Value} {vs:List V} (M:Mk X.K C f) (F:FnOk X.prog X.w X.K X.mg X.base CX k f fd ps sp) (hr:Room (k+1) X.A) (hb:Binds X.K fd ps ds) (hd:Vals dvs ds)
  (hx:Zda CX X E) (I:Inv X pins σ H s) (r:Vals vs us)
  (h:∀ x dx,H x=none->H dx=none->dx≠x->sp (.ref x::(vs++dvs)) (upd (upd H dx (.own x)) x (.ins C dx [])) (fun v H2=>v=.non/\Q (.ref x) H2) E) :
  wpAny (model X.prog X.w) X.A (call (.ref C) us) (EP X pins σ Q) X.xe s:=by
 have hq:=h (s.heap.objs.size+1) s.heap.objs.size (I.hok.fresh (Nat.le_succ _)) (I.hok.fresh (Nat.le_refl _)) (Nat.ne_of_lt (Nat.lt_succ_self _))
 have I2:=Inv.made (C:=C) I
 have r2:Vals (V.ref (s.heap.objs.size+1)::(vs++dvs)) (Value.ref (s.heap.objs.size+1)::(us++ds)):=.cons rfl (r.append hd)
 have hl:(Value.ref (s.heap.objs.size+1)::us++ds).length=ps.length:=by
  have e:=r2.length
  rw [F.len _ _ _ _ hq] at e
  exact e.symm
 refine wpAny_call (ZiE (f:=f) I.kIn M.makes M.init (beq_iff_eq.mp M.fn) (codeAny_mono (F.run _ X.stack _ _ ⟨Value.ref (s.heap.objs.size+1)::us,[]⟩ (Value.ref (s.heap.objs.size+1)::(us++ds)) _ _ E (hr.make C us [])
  (I2.env0.make C us []) (hb _ (Value.ref (s.heap.objs.size+1)::us) I2.kIn hl) r2 hq) fun r s' hq'=>?_))
 cases r with
 | error e=>exact hx pins σ _ _ e s' I2 hq'
 | ok fl =>
  cases fl with
  | ret u =>
   obtain ⟨v,H',I3,rv,ev,q3⟩:=I2.after hq'
   subst ev
   exact ⟨rv,⟨V.ref (s.heap.objs.size+1),H',I3,rfl,q3⟩⟩
  | next=>exact False.elim hq'
  | brk=>exact False.elim hq'
  | cont=>exact False.elim hq'
theorem Zka (M:Mk X.K C f) (F:FnOk X.prog X.w X.K X.mg X.base CX k f fd ps sp) (hr:Room (k+1) X.A) (hg:Gl X x) (hm:X.mg x=some (.ref C)) (hb:Binds X.K fd ps ds) (hd:Vals dvs ds) (hx:Zda CX X E)
  (ha:PA X (e::es) t) (hdb:(x==("__debug__" : Str))=false:=by decide) (he:starEach (e::es) X.env=(false,eval e X.env)::starEach es X.env:=by rfl) (hpl:(backTo pos (starEach es X.env)).any (·.1)=false:=by rfl) :
  PE X (.Call (.Name x p) (e::es) [] pos) (tMake C sp dvs E t):=by
 intro pins s σ H Q I h
 refine wpAny_Call_Name_kw (Zfi I hg hm ?_ hdb)
 refine PySem.W.callWith_K (h₀:=X.base) I.ok.mod.kin M.kp (thn (ha pos pins s σ H _ I h) fun us s1 ⟨vs,H1,I1,r,q⟩=>⟨I1.kIn,?_⟩) he hpl
 exact ZiG M F hr hb hd hx I1 r q
end
section
variable {X:Cx} {CX:CXT} {k:Nat} {f C:Addr} {fd:FuncData} {ps ks:List Str} {sp:Sp} {E:XK} {x m:Str} {p pos apos kpos:Pos} {e o:Expr} {es:List Expr} {kws:List Keyword} {te ta:TE} {t tk:TA} {nm:Option Str}
structure KBinds (K:PySem.W.Frag) (fd:FuncData) (ps ks:List Str) (g:List Value->List Value->List Value) (gV:List V->List V->List V):Prop where
 to:∀ (s:Shared) (us ws:List Value),K.In s.heap->(g us ws).length=ps.length->BindsTo s fd ⟨us,ks.zip ws⟩ (ps.zip (g us ws))
 rel:∀ {vs:List V} {us:List Value} {zs:List V} {ws:List Value},Vals vs us->Vals zs ws->Vals (gV vs zs) (g us ws)
variable {g:List Value->List Value->List Value} {gV:List V->List V->List V}
end
structure FnScope (N P:List Str) (sc:Scope):Prop where
 kind:sc.kind=.function
 co:sc.isCoroutine=false
 gen:sc.isGenerator=false
 nd:N.Nodup
 pre:N.take P.length=P
 par:∀ x∈P,sc.names.lookup x=some .local\/sc.names.lookup x=some .cell
 nofree:∀ y∈sc.names,y.2≠.free
theorem Zez {kindOf:Str->Option NameKind} {x:Str}:∀ {binds:List (Str×Value)} {m:Str->Option Value},(∀ v,(x,v)∉binds)->bindL kindOf binds m x=m x
 | [],_,_=>rfl
 | (n,v)::r,m,h=>by
  unfold bindL
  rw [Zez fun w hw=>h w (List.mem_cons_of_mem _ hw)]
  split
  .have:x≠n:=by rintro rfl;exact h v List.mem_cons_self
   simp [this]
  .rfl
theorem ZeA {kindOf:Str->Option NameKind} {x:Str}:∀ {binds:List (Str×Value)} {m:Str->Option Value},(∀ v,(x,v)∉binds)->bindC kindOf binds m x=m x
 | [],_,_=>rfl
 | (n,v)::r,m,h=>by
  unfold bindC
  rw [ZeA fun w hw=>h w (List.mem_cons_of_mem _ hw)]
  split
  .rfl
  .have:x≠n:=by rintro rfl;exact h v List.mem_cons_self
   simp [this]
theorem ZeB {kindOf:Str->Option NameKind} {x:Str} {v:Value}:∀ {P:List Str} {vs:List Value} {i:Nat} {m:Str->Option Value},P.Nodup->P[i]?=some x->vs[i]?=some v->kindOf x=some .local ->
  bindL kindOf (P.zip vs) m x=some v
 | [],_,_,_,_,h,_,_=>by simp at h
 | _::_,[],_,_,_,_,h,_=>by simp at h
 | p::P,w::vs,0,m,nd,h1,h2,hk=>by
  simp at h1 h2;subst h1;subst h2
  show bindL kindOf ((p,w)::P.zip vs) m p=_
  unfold bindL
  rw [Zez fun v hv=>(List.nodup_cons.mp nd).1 (List.of_mem_zip hv).1,if_pos hk]
  simp
 | p::P,w::vs,i+1,m,nd,h1,h2,hk=>by
  show bindL kindOf ((p,w)::P.zip vs) m x=_
  unfold bindL
  exact ZeB (i:=i) (List.nodup_cons.mp nd).2 (by simpa using h1) (by simpa using h2) hk
theorem ZeC {kindOf:Str->Option NameKind} {x:Str} {v:Value}:∀ {P:List Str} {vs:List Value} {i:Nat} {m:Str->Option Value},P.Nodup->P[i]?=some x->vs[i]?=some v->kindOf x≠some .local ->
  bindC kindOf (P.zip vs) m x=some v
 | [],_,_,_,_,h,_,_=>by simp at h
 | _::_,[],_,_,_,_,h,_=>by simp at h
 | p::P,w::vs,0,m,nd,h1,h2,hk=>by
  simp at h1 h2;subst h1;subst h2
  show bindC kindOf ((p,w)::P.zip vs) m p=_
  unfold bindC
  rw [ZeA fun v hv=>(List.nodup_cons.mp nd).1 (List.of_mem_zip hv).1,if_neg hk]
  simp
 | p::P,w::vs,i+1,m,nd,h1,h2,hk=>by
  show bindC kindOf ((p,w)::P.zip vs) m x=_
  unfold bindC
  exact ZeC (i:=i) (List.nodup_cons.mp nd).2 (by simpa using h1) (by simpa using h2) hk
noncomputable def start (N:List Str) (vs:List V):St:=vs.map some++List.replicate (N.length-vs.length) none
noncomputable def cxOf (CX:CXT) (P:Program) (w:World) (K:PySem.W.Frag) (mg:Str->Option Value) (base:Heap) (N:List Str) (qual:Str) (scope:Scope) (f:Addr) (cd:Value) (A:Around) (outer:List Env) (s:Shared) (H:Hp) (E:XK):Cx where
 prog:=P
 w:=w
 K:=K
 mg:=mg
 base:=base
 A:=A.deeper (envOfC qual scope s.heap.objs.size f cd)
 N:=N
 s₀:=s
 H₀:=H
 env:=envOfC qual scope s.heap.objs.size f cd
 outer:=outer
 stack:=envOfC qual scope s.heap.objs.size f cd::outer
 ex:=[]
 calm:=true
 fn:=fun _=>true
 pn:=[]
 xe:=fun e s'=>wpAny (model P w) (A.deeper (envOfC qual scope s.heap.objs.size f cd)) (leaving (envOfC qual scope s.heap.objs.size f cd) e) (fun _ s''=>CX outer H s E e s'') (fun e' s''=>CX outer H s E e' s'') s'
theorem ZfM {sc:Scope} {n:Nat} {x:Str} (h:sc.names.lookup x=some .cell):∃ c,(cellsFrom n sc.names []).lookup x=some c:=by
 have q:=PySem.W.cellsFrom_some sc.names n [] (.inl h)
 exact Option.isSome_iff_exists.mp q
theorem Zhm {CX:CXT} {P:Program} {w:World} {K:PySem.W.Frag} {mg:Str->Option Value} {base:Heap} {N ps:List Str} {qual:Str} {scope:Scope} {f:Addr} {cd:Value} {A:Around} {outer:List Env} {s s1:Shared} {H:Hp} {E:XK} {us:List Value} {vs:List V}
  (S:FnScope N ps scope) (hd:A.handled=none) (e0:Env0 P w K mg base A outer s H) (hl:vs.length=ps.length) (r:Vals vs us)
  (x:InCallC s s.heap.objs.size (bindL (envOfC qual scope s.heap.objs.size f cd).kindOf (ps.zip us) fun _=>none) (cellsFrom (s.heap.objs.size+1) scope.names []) (bindC (envOfC qual scope s.heap.objs.size f cd).kindOf (ps.zip us) fun _=>none) s1) :
  Inv (cxOf CX P w K mg base N qual scope f cd A outer s H E) [] (start N vs) H s1:=by
 have hpl:ps.length<=N.length:=by have:=congrArg List.length S.pre;rw [List.length_take] at this;omega
 obtain ⟨h1,tk,rfl,hk⟩:=x.done
 have noA:∀ b:Addr,b∉(cxOf CX P w K mg base N qual scope f cd A outer s H E).ex:=fun b z=>absurd (show b∈([]:List Addr) from z) (by simp)
 refine ⟨⟨e0.mod,S.kind,rfl,rfl,Nat.le_refl _,fun y z c h1 h2=>?_,fun y hy=>?_,fun y c _ h=>?_,fun _=>hd,Around.frames_deeper e0.frames,.inr ⟨rfl,rfl⟩,fun b z=>absurd z (noA b),e0.bs,e0.bsz,fun b _ _=>noA b,fun b z=>absurd z (noA b),e0.funs,e0.frf⟩,
  rfl,e0.bare,Un.kept hk,⟨_,x.toInCall.ns,fun i y v h1 h2 h3=>?_⟩,fun y c h=>⟨_,x.cell y c h⟩,e0.hok.fresh (Nat.le_refl _),fun y c h=>?_,fun p hp=>absurd (show p∈([]:List (Addr×Obj)) from hp) (by simp),e0.hok.kept hk,?_⟩
 .exact name_of_addr x.apart (PySem.mem_of_lookup h1) (PySem.mem_of_lookup h2)
 .have hy:scope.names.lookup y=some .cell\/scope.names.lookup y=some .free:=hy
  rcases hy with hy|hy
  .exact ZfM hy
  .exact absurd rfl (S.nofree _ (PySem.mem_of_lookup hy))
 .exact Nat.le_of_lt (x.above y c (PySem.mem_of_lookup h))
 .have hi:i<vs.length:=by
   unfold start at h2
   by_cases hi:i<vs.length
   .exact hi
   .rw [List.getElem?_append_right (by simpa using hi)] at h2
    rw [List.getElem?_replicate] at h2
    split at h2<;>cases h2
  have ha:vs[i]?=some v:=by
   unfold start at h2
   rw [List.getElem?_append_left (by simpa using hi),List.getElem?_map] at h2
   cases e:vs[i]? with
   | none=>rw [e] at h2;cases h2
   | some a=>rw [e] at h2;cases h2;rfl
  obtain ⟨u,hu,rv⟩:=r.get ha
  have hp:ps[i]?=some y:=by
   rw [<- S.pre,List.getElem?_take_of_lt (by omega)];exact h1
  have ndP:ps.Nodup:=by rw [<- S.pre];exact S.nd.sublist (List.take_sublist _ _)
  refine ⟨u,rv,?_⟩
  rcases S.par y (List.mem_of_getElem? hp) with k|k
  .exact .inl ⟨k,ZeB ndP hp hu k⟩
  .obtain ⟨c,e⟩:=ZfM (n:=s.heap.objs.size+1) k
   refine .inr ⟨.inl k,c,e,?_⟩
   have q:=x.cell y c e
   rw [ZeC ndP hp hu (by show scope.names.lookup y≠_;rw [k];decide)] at q
   exact q
 .exact e0.hok.fresh (Nat.le_of_lt (x.above y c (PySem.mem_of_lookup h)))
 .unfold start
  show _=N.length
  rw [List.length_append,List.length_map,List.length_replicate]
  omega
theorem fn_of {CX:CXT} {P:Program} {w:World} {K:PySem.W.Frag} {mg:Str->Option Value} {base:Heap} {k:Nat} {f:Addr} {name qual:Str} {params:Arguments} {body:List Stmt} {scope:Scope} {dV kV doc pm cdv ct oc:Value} {an od:Option Addr}
  {osl:Array (Option Value)} {N ps:List Str} {sp:Sp} (lk:K.lookup f=some ⟨oc,od,.func (PySem.W.fnOf name qual params body scope dV kV doc pm an cdv ct),osl⟩) (hcd:PySem.W.codeIn K cdv qual=true) (S:FnScope N ps scope)
  (len:∀ vs H Q E,sp vs H Q E->vs.length=ps.length)
  (hbody:∀ (A:Around) (outer:List Env) (s:Shared) (H:Hp) (vs:List V) (Q:VK) (E:XK),Room k (A.deeper (envOfC qual scope s.heap.objs.size f cdv))->sp vs H Q E ->
   ∃ t,PSs (cxOf CX P w K mg base N qual scope f cdv A outer s H E) body t/\t { nx:=fun _ H'=>Q .non H',rt:=Q } (start N vs) H) :
  FnOk P w K mg base CX (k+1) f (PySem.W.fnOf name qual params body scope dV kV doc pm an cdv ct) ps sp:=by
 refine ⟨len,fun A outer s H args us vs Q E hr e0 hb r hsp=>?_⟩
 have hl:=len _ _ _ _ hsp
 have KX:K.In s.heap:=e0.mod.kin.keeps fun b o e=>(e0.bs b o e).1
 have lim:s.heap.NoLimit:=e0.mod.nolimit.keeps fun b o e=>(e0.bs b o e).1
 have hkind:∀ y∈ps.zip us,scope.names.lookup y.1=some .local\/(scope.names.lookup y.1=some .cell/\((cellsFrom (s.heap.objs.size+1) scope.names []).lookup y.1).isSome=true):=fun ⟨n,v⟩ hy=>by
  rcases S.par n (List.of_mem_zip hy).1 with q|q
  .exact .inl q
  .exact .inr ⟨q,PySem.W.cellsFrom_some _ _ _ (.inl q)⟩
 refine codeAny_call_function hr.depth (KX _ _ lk) rfl S.co S.gen rfl (PySem.W.codeRec_of KX hcd) (hb _ _ _ _ ?_)
 refine wpAny_newFunctionEnv_cells S.kind hkind fun env he s1 x=>?_
 subst he
 refine ⟨lim.keeps x.toInCall.keep,codeAny_func ?_⟩
 obtain ⟨t,ht,hq⟩:=hbody A outer s H vs Q E (hr.deeper _) hsp
 have I:Inv (cxOf CX P w K mg base N qual scope f cdv A outer s H E) [] (start N vs) H s1:=Zhm S hr.hd e0 hl r x
 refine wpAny_mono (ht [] s1 (start N vs) H _ I hq) (fun fl s' hs=>?_) fun e s' hs=>hs
 have fin:∀ {σ':St} {H':Hp} {v:V} {u:Value},Inv (cxOf CX P w K mg base N qual scope f cdv A outer s H E) [] σ' H' s'->RelV v u->Q v H'->CE outer P w H s Q u s' :=
  fun {σ' H' v u} J rv q=>⟨v,H',J.os,J.bare,J.base,J.hok,rv,q⟩
 cases fl with
 | ret u =>
  obtain ⟨v,σ',H',J,rv,q⟩:=hs
  exact fin J rv q
 | next =>
  obtain ⟨σ',H',J,q⟩:=hs
  exact fin (v:=V.non) (u:=Value.none) J rfl q
 | brk =>
  obtain ⟨_,_,_,q⟩:=hs
  exact False.elim q
 | cont =>
  obtain ⟨_,_,_,q⟩:=hs
  exact False.elim q
section
variable {X:Cx} {x:Str} {p pos:Pos} {e:Expr} {es:List Expr} {t:TA} {id T:String} {r:List V->Hp->VK->Prop}
def tCB (r:List V->Hp->VK->Prop) (t:TA):TE:=fun σ H Q=>t σ H fun vs H1=>r vs H1 Q
theorem Zap (hc:CallR X (.builtin id) r) (hg:Gl X x) (hm:X.mg x=none) (hv:bootBuiltins x=some (.builtin id)) (ha:PA X (e::es) t) (hn:x ≠ "__name__" := by decide) (hdb:(x==("__debug__" : Str))=false:=by decide)
  (he:starEach (e::es) X.env=(false,eval e X.env)::starEach es X.env:=by rfl) (hpl:(backTo pos (starEach es X.env)).any (·.1)=false:=by rfl):PE X (.Call (.Name x p) (e::es) [] pos) (tCB r t):=by
 intro pins s σ H Q I h
 refine wpAny_Call_Name_kw (ZfJ I hg hm hv ?_ hn hdb)
 exact PyProof.Rows.callWith_builtin1 (thn (ha pos pins s σ H _ I h) fun us s1 ⟨vs,H1,I1,r1,q1⟩=>hc pins s1 σ H1 vs us Q I1 r1 q1) he hpl
theorem ZbF (hc:CallR X (.type T) r) (hg:Gl X x) (hm:X.mg x=none) (hv:bootBuiltins x=some (.type T)) (ha:PA X (e::es) t) (hn:x ≠ "__name__" := by decide) (hdb:(x==("__debug__" : Str))=false:=by decide)
  (he:starEach (e::es) X.env=(false,eval e X.env)::starEach es X.env:=by rfl) (hpl:(backTo pos (starEach es X.env)).any (·.1)=false:=by rfl):PE X (.Call (.Name x p) (e::es) [] pos) (tCB r t):=by
 intro pins s σ H Q I h
 refine wpAny_Call_Name_kw (ZfJ I hg hm hv ?_ hn hdb)
 exact PyProof.Rows.callWith_type1 (thn (ha pos pins s σ H _ I h) fun us s1 ⟨vs,H1,I1,r1,q1⟩=>hc pins s1 σ H1 vs us Q I1 r1 q1) he hpl
end
end L2
namespace HT
open PySem PyProof.Rows
section
open PySem.SeqAt
open PySem.AutoSeq1 (wpAny_loadPart')
open PySem.MeetsSeq PySem.MeetsSeq2 PySem.MeetsSeq3
end
section
variable {prog:Program} {w:World} {A:Around} {E:Value->Shared->Prop} {s:Shared}
noncomputable def sIx (n d:Nat):Option Int->Nat
 | none=>d
 | some v=>if v<0 then (v+(n:Int)).toNat else min v.toNat n
theorem sIx_le (n d:Nat) (hd:d<=n) (o:Option Int):sIx n d o<=n:=by
 cases o with
 | none=>exact hd
 | some v =>
  show (if v<0 then (v+(n:Int)).toNat else min v.toNat n)<=n
  by_cases hv:v<0
  .rw [if_pos hv];omega
  .rw [if_neg hv];exact Nat.min_le_right _ _
theorem Zhn (v:Int) (n d:Nat):(if v<0 then max (v+(n:Int)) 0 else min v (n:Int))=((sIx n d (some v):Nat):Int):=by
 show (if v<0 then max (v+(n:Int)) 0 else min v (n:Int))=(((if v<0 then (v+(n:Int)).toNat else min v.toNat n):Nat):Int)
 by_cases hv:v<0
 .simp only [if_pos hv];omega
 .simp only [if_neg hv];omega
theorem Zgy (lo hi:Option Int) (n:Nat):Builtin.Slice.sliceAdjust lo hi 1 (n:Int)=(((sIx n 0 lo:Nat):Int),((sIx n n hi:Nat):Int)):=by
 have h1:¬ ((1:Int)<0):=by omega
 unfold Builtin.Slice.sliceAdjust
 simp only [h1,if_false]
 refine Prod.ext ?_ ?_
 .cases lo with
  | none=>rfl
  | some v=>exact Zhn v n 0
 .cases hi with
  | none=>rfl
  | some v=>exact Zhn v n n
theorem Zgz (i j:Nat):Builtin.Slice.slicePlaces (i:Int) (j:Int) 1=j-i:=by
 unfold Builtin.Slice.slicePlaces
 have h1:(1:Int)>0:=by omega
 simp only [h1,if_true,Int.ediv_one]
 split<;>omega
theorem ZdS {v:Value} {o:Option Int} {Q:Option Int->Shared->Prop} (p:IsPart v o) (h:Q o s):wpAny (model prog w) A (Builtin.Slice.slicePartIndex v) Q E s:=by
 cases p with
 | none=>exact slicePart_none h
 | int i t=>exact slicePart_int h
theorem ZcN {sl:Addr} {vl vu:Value} {lo hi:Option Int} {n:Nat} {Q:Int×Int×Nat->Shared->Prop} (hs:s.heap.IsSliceOf sl vl vu .none) (pl:IsPart vl lo) (pu:IsPart vu hi)
  (h:Q (((sIx n 0 lo:Nat):Int),1,sIx n n hi-sIx n 0 lo) s):wpAny (model prog w) A (Builtin.Slice.sliceApplied (.ref sl) (pure (n:Int))) Q E s:=by
 obtain ⟨os,hos,hcs,hds⟩:=id hs
 unfold Builtin.Slice.sliceApplied Builtin.Slice.sliceFields
 refine wpAny_bind (wpAny_bind (wpAny_field hos hds (x:=vl) rfl (wpAny_bind (wpAny_field hos hds (x:=vu) rfl (wpAny_bind (wpAny_field hos hds (x:=.none) rfl (wpAny_pure ?_)))))))
 refine wpAny_bind (slicePart_none ?_)
 show wpAny _ _ (if ((1:Int)==0)=true then _ else _) _ _ s
 rw [if_neg (by decide)]
 refine wpAny_bind (ZdS pl (wpAny_bind (ZdS pu (wpAny_bind (wpAny_pure ?_)))))
 show wpAny _ _ (match Builtin.Slice.sliceAdjust lo hi 1 (n:Int) with|(lo,hi)=>pure (lo,(1:Int),Builtin.Slice.slicePlaces lo hi 1)) _ _ s
 rw [Zgy lo hi n]
 show wpAny _ _ (pure (((sIx n 0 lo:Nat):Int),(1:Int),Builtin.Slice.slicePlaces ((sIx n 0 lo:Nat):Int) ((sIx n n hi:Nat):Int) 1)) _ _ s
 rw [Zgz]
 exact wpAny_pure h
theorem ZiH (xs:Array Value) (i k:Nat):((List.range k).filterMap fun (m:Nat)=>xs[((i:Int)+(m:Int)*1).toNat]?).toArray=((xs.toList.drop i).take k).toArray:=by
 have e:(fun (m:Nat)=>xs[((i:Int)+(m:Int)*1).toNat]?)=fun m=>xs[i+m]?:=by
  funext m
  have:((i:Int)+(m:Int)*1).toNat=i+m:=by omega
  rw [this]
 rw [e]
 have:=pick_run xs i k
 rw [List.filterMap_map] at this
 have e2:((fun x=>xs[x]?) ∘ fun x=>i+x)=fun m=>xs[i+m]?:=rfl
 rw [e2] at this
 rw [this]
theorem ZcC {t sl:Addr} {items:Array Value} {vl vu:Value} {lo hi:Option Int} {Q:Value->Shared->Prop} (ht:IsTup s.heap t items) (hs:s.heap.IsSliceOf sl vl vu .none) (pl:IsPart vl lo) (pu:IsPart vu hi)
  (hw:¬ (sIx items.size 0 lo=0/\sIx items.size items.size hi=items.size))
  (h:Q (.ref s.heap.objs.size) { s with heap:=s.heap.push { cls:=.type "tuple", data:=.seq ((items.toList.drop (sIx items.size 0 lo)).take (sIx items.size items.size hi-sIx items.size 0 lo)).toArray } })
  (hsz:items.size<=sizeLine):wpAny (model prog w) A (getItem (.ref t) (.ref sl)) Q E s:=by
 have htake:sizeOk (.seq ((items.toList.drop (sIx items.size 0 lo)).take (sIx items.size items.size hi-sIx items.size 0 lo)).toArray):=by
  show ((items.toList.drop (sIx items.size 0 lo)).take (sIx items.size items.size hi-sIx items.size 0 lo)).toArray.size<=sizeLine
  rw [List.size_toArray,List.length_take,List.length_drop,Array.length_toList]
  omega
 have hj:sIx items.size items.size hi<=items.size:=sIx_le _ _ (Nat.le_refl _) hi
 obtain ⟨os,hos,hcs,hds⟩:=id hs
 have hTs:s.TypeIs (.ref sl) "slice" := ⟨os,hos,hcs⟩
 unfold getItem
 try with_reducible refine wpAny_holding ?_
 first|refine wpAny_bind (wpAny_pure ?_)|skip
 refine wpAny_bind (wpAny_sequenceKey ht.typeIs (by decide) ?_)
 refine wpAny_bind (wpAny_callSpecial?_slot (name:=Str.ofString "__getitem__") ht.typeIs PyProof.Rows.slot_tuple_getitem
  (wpAny_call_entry PyProof.Rows.slot_tuple_getitem ht.typeIs entry_tuple_getitem ?_ (args_tuple_getitem _ _)))
 show wpAny _ _ (Builtin.Tuple.tupleItemsOf (.ref t) >>= _) _ _ s
 refine wpAny_bind (tupleItemsOf_ ht ?_)
 refine wpAny_bind (wpAny_typeOf hTs ?_)
 rw [if_pos (by decide)]
 refine wpAny_bind (ZcN hs pl pu ?_)
 have hno:¬ ((((sIx items.size 0 lo:Nat):Int)==0&&(1:Int)==1&&(sIx items.size items.size hi-sIx items.size 0 lo)==items.size)=true):=by
  intro q
  rw [Bool.and_eq_true,Bool.and_eq_true] at q
  have q1:((sIx items.size 0 lo:Nat):Int)=0:=eq_of_beq q.1.1
  have q2:sIx items.size items.size hi-sIx items.size 0 lo=items.size:=eq_of_beq q.2
  exact hw ⟨by omega,by omega⟩
 show wpAny _ _ (if (((sIx items.size 0 lo:Nat):Int)==0&&(1:Int)==1&&(sIx items.size items.size hi-sIx items.size 0 lo)==items.size)=true then _ else _) _ _ s
 rw [if_neg hno,ZiH]
 first
  | exact wpAny_bind (m:=Builtin.Tuple.tupleExact _) (wpAny_newObj_type (wpAny_pure ⟨_,rfl,wpAny_pure h⟩) htake)
  | exact wpAny_bind (m:=Builtin.Tuple.tupleExact _) (wpAny_newObj_type (wpAny_bind (wpAny_pure (wpAny_pure ⟨_,rfl,wpAny_pure h⟩))) htake)
  | exact wpAny_bind (wpAny_bind (m:=Builtin.Tuple.tupleExact _) (wpAny_newObj_type (wpAny_pure (wpAny_pure ⟨_,rfl,wpAny_pure h⟩)) htake))
  | exact wpAny_bind (wpAny_bind (m:=Builtin.Tuple.tupleExact _) (wpAny_newObj_type (wpAny_pure ⟨_,rfl,wpAny_pure h⟩) htake))
end
end HT
namespace L2
open PySem PySem.Spec PyProof.Rows
abbrev TO:=St->Hp->(Option Int->Hp->Prop)->Prop
def PO (X:Cx) (e:Option Expr) (t:TO):Prop :=
 ∀ (pins:List (Addr×Obj)) (s:Shared) (σ:St) (H:Hp) (Q:Option Int->Hp->Prop),Inv X pins σ H s->t σ H Q ->
  wpAny (model X.prog X.w) X.A (evalPart e X.env) (fun u s'=>∃ o H',Inv X pins σ H' s'/\IsPart u o/\Q o H') X.xe s
def Zho:TO:=fun _ H Q=>Q none H
def tPart (t:TE):TO:=fun σ H Q=>t σ H fun x H1=>∃ i,x=.int i/\Q (some i) H1
section
variable {X:Cx} {e:Expr} {te:TE} {lo hi:Option Expr} {tl th:TO} {pos p2:Pos}
theorem Zhp:PO X none Zho:=by
 intro pins s σ H Q I h
 rw [evalPart_none]
 exact wpAny_pure ⟨none,H,I,.none,h⟩
theorem ZdZ (h:PE X e te):PO X (some e) (tPart te):=by
 intro pins s σ H Q I hw
 rw [evalPart_some]
 refine thn (h pins s σ H _ I hw) fun u s1 ⟨x,H1,I1,r1,q1⟩=>?_
 obtain ⟨i,rfl,q⟩:=q1
 obtain ⟨t,rfl⟩:=r1
 exact ⟨some i,H1,I1,.int i t,q⟩
def SlR (X:Cx) (r:V->Option Int->Option Int->Hp->VK->Prop):Prop :=
 ∀ (pins:List (Addr×Obj)) (s:Shared) (σ:St) (H:Hp) (x:V) (v vl vu:Value) (lo hi:Option Int) (sl:Addr) (Q:VK),Inv X pins σ H s->RelV x v->s.heap.IsSliceOf sl vl vu .none->IsPart vl lo->IsPart vu hi->r x lo hi H Q ->
  ∃ T id,typeLookup (.type T) "__getitem__" = pure (some (.builtin id))/\s.TypeIs v T/\wpAny (model X.prog X.w) X.A (getItem v (.ref sl)) (EP X pins σ Q) X.xe s
theorem SlR.or {r r':V->Option Int->Option Int->Hp->VK->Prop} (h:SlR X r) (h':SlR X r'):SlR X (fun x lo hi H Q=>r x lo hi H Q\/r' x lo hi H Q):=by
 intro pins s σ H x v vl vu lo hi sl Q I rx hs pl pu q
 rcases q with q|q
 .exact h pins s σ H x v vl vu lo hi sl Q I rx hs pl pu q
 .exact h' pins s σ H x v vl vu lo hi sl Q I rx hs pl pu q
def tSl (r:V->Option Int->Option Int->Hp->VK->Prop) (te:TE) (tl th:TO):TE:=fun σ H Q=>te σ H fun x H1=>tl σ H1 fun l H2=>th σ H2 fun u H3=>r x l u H3 Q
theorem Zd0 {r:V->Option Int->Option Int->Hp->VK->Prop} (hr:SlR X r) (he:PE X e te) (hl:PO X lo tl) (hu:PO X hi th):PE X (.Subscript e (.Slice lo hi none p2) pos) (tSl r te tl th):=by
 intro pins s σ H Q I h
 refine Subscript_ (thn (he pins s σ H _ I h) fun v s1 ⟨x,H1,I1,r1,q1⟩=>?_)
 refine wpAny_Slice (thn (hl pins s1 σ H1 _ I1 q1) fun vl s2 ⟨l,H2,I2,pl,q2⟩=>thn (hu pins s2 σ H2 _ I2 q2) fun vu s3 ⟨u,H3,I3,pu,q3⟩=>?_)
 rw [evalPart_none]
 refine wpAny_pure ?_
 have I4:Inv X pins σ H3 { s3 with heap:=s3.heap.push { cls:=.type "slice", data:=.fields #[vl,vu,.none] } }:=I3.kept (t':=s3.toks) fun b ob q=>Heap.get?_push_of_some _ q
 obtain ⟨T,id,hT,ht,hg⟩:=hr pins { s3 with heap:=s3.heap.push { cls:=.type "slice", data:=.fields #[vl,vu,.none] } } σ H3 x v vl vu l u s3.heap.objs.size Q I4 r1 (Heap.IsSliceOf.new ..) pl pu q3
 show wpAny (model X.prog X.w) X.A (subscriptTail e (.Slice lo hi none p2) v (.ref s3.heap.objs.size)) (EP X pins σ Q) X.xe { s3 with heap:=s3.heap.push { cls:=.type "slice", data:=.fields #[vl,vu,.none] } }
 exact tail_any (ops:=[.ref s3.heap.objs.size,v]) ht hT hg (by with_unfolding_all rfl)
noncomputable def cutV (xs:List V) (lo hi:Option Int):List V:=(xs.drop (HT.sIx xs.length 0 lo)).take (HT.sIx xs.length xs.length hi-HT.sIx xs.length 0 lo)
theorem Zdb (xs:List V) (lo hi:Option Int):(cutV xs lo hi).length<=xs.length:=by
 unfold cutV
 rw [List.length_take,List.length_drop]
 omega
def rSlT (K:PySem.W.Frag):V->Option Int->Option Int->Hp->VK->Prop:=fun x lo hi H Q=>∃ a xs,x=.ref a/\SqT K H a xs /\
 ¬ (HT.sIx xs.length 0 lo=0/\HT.sIx xs.length xs.length hi=xs.length)/\∀ p,H p=none->Q (.ref p) (upd H p (.tup (cutV xs lo hi)))
theorem sl_tup:SlR X (rSlT X.K):=by
 intro pins s σ H x v vl vu lo hi sl Q I rx hs pl pu h
 obtain ⟨a,xs,rfl,hx,hw,q⟩:=h
 cases rx
 obtain ⟨its,r,ht,hz⟩:=I.tuple hx
 have hlen:its.toArray.size=xs.length:=by rw [List.size_toArray];exact r.length.symm
 refine ⟨"tuple", _,PyProof.Rows.slot_tuple_getitem.lookup,ht.typeIs,?_⟩
 refine HT.ZcC ht hs pl pu (by rw [hlen];exact hw) ?_ (by rw [hlen];exact hz)
 rw [hlen]
 refine ⟨.ref s.heap.objs.size,_,I.laid (t':=s.toks) (o:=.tup (cutV xs lo hi)) (fun b ob q=>Heap.get?_push_of_some _ q) (Nat.le_refl _) ?_,rfl,q _ (I.hok.fresh (Nat.le_refl _))⟩
 exact ⟨Nat.le_trans (Zdb xs lo hi) hz,_,(r.drop (HT.sIx xs.length 0 lo)).take (HT.sIx xs.length xs.length hi-HT.sIx xs.length 0 lo),IsTup.new _ _⟩
end
noncomputable def ixN (n:Nat) (i:Int):Option Nat:=if 0<=i then (if i<n then some i.toNat else none) else if -(n:Int)<=i then some (i+n).toNat else none
noncomputable def atI {α:Type} (xs:List α) (i:Int):Option α:=(ixN xs.length i).bind fun j=>xs[j]?
theorem Zhq {n:Nat} {i:Int} {j:Nat} (h:ixN n i=some j):seqIndex? i n=some j/\j<n/\-(n:Int)<=i/\i<n:=by
 unfold ixN at h
 by_cases h0:0<=i
 .rw [if_pos h0] at h
  by_cases h1:i<n
  .rw [if_pos h1] at h
   have e:i.toNat=j:=Option.some.inj h
   exact ⟨by rw [seqIndex_of h0 h1,e],by omega,by omega,h1⟩
  .rw [if_neg h1] at h;cases h
 .rw [if_neg h0] at h
  by_cases h1:-(n:Int)<=i
  .rw [if_pos h1] at h
   have e:(i+n).toNat=j:=Option.some.inj h
   exact ⟨by rw [seqIndex_neg (by omega) h1,e],by omega,h1,by omega⟩
  .rw [if_neg h1] at h;cases h
theorem Zhr {α:Type} {xs:List α} {i:Int} {v:α} (h:atI xs i=some v):∃ j,seqIndex? i xs.length=some j/\xs[j]?=some v/\j<xs.length/\-(xs.length:Int)<=i/\i<xs.length:=by
 unfold atI at h
 cases e:ixN xs.length i with
 | none=>rw [e] at h;cases h
 | some j =>
  rw [e] at h
  obtain ⟨h1,h2,h3,h4⟩:=Zhq e
  exact ⟨j,h1,h,h2,h3,h4⟩
theorem Zkb {α:Type} {xs:List α} {j:Nat} {v:α} (h:xs[j]?=some v):atI xs (j:Int)=some v:=by
 have hj:j<xs.length:=(List.getElem?_eq_some_iff.mp h).1
 have e:ixN xs.length (j:Int)=some j:=by
  unfold ixN
  rw [if_pos (by omega),if_pos (by omega)];simp
 unfold atI;rw [e];exact h
theorem ZiI {α:Type} (xs:List α) (v:α):atI (xs++[v]) (-1)=some v:=by
 have hl:(xs++[v]).length=xs.length+1:=by simp
 have e:ixN (xs++[v]).length (-1)=some xs.length:=by
  unfold ixN
  rw [hl,if_neg (by decide),if_pos (by omega)]
  congr 1
  omega
 unfold atI
 rw [e]
 show (xs++[v])[xs.length]?=some v
 simp
def Zkc (b:Expr):Prop:=∀ o i,subscripted b false o i=operate [o,i] (getItem o i)
def IxR (X:Cx) (r:R2):Prop :=
 ∀ (value slice:Expr) (pins:List (Addr×Obj)) (s:Shared) (σ:St) (H:Hp) (x y:V) (v u:Value) (Q:VK),Inv X pins σ H s->RelV x v->RelV y u->r x y H Q ->
  subscripted slice false v u=operate [v,u] (getItem v u)->wpAny (model X.prog X.w) X.A (subscriptTail value slice v u) (EP X pins σ Q) X.xe s
def MtR (X:Cx) (id:String) (r:V->List V->Hp->VK->Prop):Prop :=
 ∀ (pins:List (Addr×Obj)) (s:Shared) (σ:St) (H:Hp) (x:V) (xs:List V) (v:Value) (us:List Value) (Q:VK),Inv X pins σ H s->RelV x v->Vals xs us->r x xs H Q ->
  wpAny (model X.prog X.w) X.A (call (.builtin id) (v::us)) (EP X pins σ Q) X.xe s
section
variable {X:Cx} {a b:Expr} {ta tb:TE} {pos:Pos}
theorem IxR.or {r r':R2} (h:IxR X r) (h':IxR X r'):IxR X (fun x y H Q=>r x y H Q\/r' x y H Q):=by
 intro value slice pins s σ H x y v u Q I rx ry q hs
 rcases q with q|q
 .exact h value slice pins s σ H x y v u Q I rx ry q hs
 .exact h' value slice pins s σ H x y v u Q I rx ry q hs
theorem MtR.or {id:String} {r r':V->List V->Hp->VK->Prop} (h:MtR X id r) (h':MtR X id r'):MtR X id (fun x xs H Q=>r x xs H Q\/r' x xs H Q):=by
 intro pins s σ H x xs v us Q I rx rs q
 rcases q with q|q
 .exact h pins s σ H x xs v us Q I rx rs q
 .exact h' pins s σ H x xs v us Q I rx rs q
theorem Zav {r:R2} (hr:IxR X r) (ha:PE X a ta) (hb:PE X b tb) (hs:Zkc b):PE X (.Subscript a b pos) (tOp r ta tb):=by
 intro pins s σ H Q I h
 exact Subscript_ (binT ha hb I h fun v u s2 x y H2 I2 rx ry q=>hr a b pins s2 σ H2 x y v u Q I2 rx ry q (hs _ _))
def rIxL (K:PySem.W.Frag):R2:=fun x y H Q=>∃ p xs i v,x=.ref p/\y=.int i/\SqL K H p xs/\atI xs i=some v/\Q v H
def rIxT (K:PySem.W.Frag):R2:=fun x y H Q=>∃ p xs i v,x=.ref p/\y=.int i/\SqT K H p xs/\atI xs i=some v/\Q v H
theorem ZaE:IxR X (rIxL X.K):=by
 intro value slice pins s σ H x y v u Q I rx ry h hs
 obtain ⟨p,xs,i,z,rfl,rfl,hq,he,q⟩:=h
 cases rx
 obtain ⟨t,rfl⟩:=ry
 obtain ⟨its,r,pl,hz⟩:=I.list hq
 obtain ⟨j,h1,h2,h3,h4,h5⟩:=Zhr he
 obtain ⟨w,ew,rw'⟩:=r.get h2
 have hl:=r.length
 have hn:=line63
 have fin:EP X pins σ Q w s:=⟨z,H,I,rw',q⟩
 by_cases h0:0<=i
 .have hj:i.toNat=j:=by
   rw [seqIndex_of h0 h5] at h1
   exact Option.some.inj h1
  exact item_listR pl.isList h0 (by omega) (by rw [hj];simpa using ew) fin hs
 .have hj:(i+(its.toArray.size:Int)).toNat=j:=by
   rw [seqIndex_neg (by omega) h4] at h1
   rw [List.size_toArray,<- hl]
   exact Option.some.inj h1
  exact subscriptTail_builtinR (x:=w) pl.isList.typeIs slot_list_getitem.lookup
   (wpAny_getItem_list_neg (Q:=fun r s'=>r=w/\EP X pins σ Q r s') pl.isList (by omega) (by rw [List.size_toArray]<;>omega) (by omega) (by rw [hj];simpa using ew) ⟨rfl,fin⟩) hs
theorem Zax:IxR X (rIxT X.K):=by
 intro value slice pins s σ H x y v u Q I rx ry h hs
 obtain ⟨p,xs,i,z,rfl,rfl,hq,he,q⟩:=h
 cases rx
 obtain ⟨t,rfl⟩:=ry
 obtain ⟨its,r,pl,hz⟩:=I.tuple hq
 obtain ⟨j,h1,h2,h3,h4,h5⟩:=Zhr he
 obtain ⟨w,ew,rw'⟩:=r.get h2
 have hl:=r.length
 have hn:=line63
 have fin:EP X pins σ Q w s:=⟨z,H,I,rw',q⟩
 exact subscriptTail_builtinR (x:=w) pl.typeIs slot_tuple_getitem.lookup
  (getItem_tuple (j:=j) (Q:=fun r s'=>r=w/\EP X pins σ Q r s') pl (by omega) (by omega) (by rw [List.size_toArray,<- hl];exact h1) (by simpa using ew) ⟨rfl,fin⟩) hs
theorem ZgA (its:List Value) (n j:Nat) (u:Value):Obj.mapSeq (·.setIfInBounds j u) { cls:=.type "list", data:=.seq its.toArray n }={ cls:=.type "list", data:=.seq (its.set j u).toArray n }:=by
 simp [Obj.mapSeq]
theorem Inv.lst {pins:List (Addr×Obj)} {σ:St} {H:Hp} {s:Shared} {p:Addr} {xs:List V} (I:Inv X pins σ H s) (h:H p=some (.lst xs)) :
  ∃ (its:List Value) (n:Nat),Vals xs its/\s.heap.get? p=some { cls:=.type "list", data:=.seq its.toArray n }/\xs.length<=sizeLine:=by
 obtain ⟨z,its,n,r,e⟩:=I.hok p _ h
 exact ⟨its,n,r,e,z⟩
theorem Inv.lstUpd {pins:List (Addr×Obj)} {σ:St} {H:Hp} {s:Shared} {p:Addr} {xs ys:List V} {its its':List Value} {n n':Nat} {f:Obj->Obj} (I:Inv X pins σ H s) (h:H p=some (.lst xs))
  (ho:s.heap.get? p=some { cls:=.type "list", data:=.seq its.toArray n }) (hf:f { cls:=.type "list", data:=.seq its.toArray n }={ cls:=.type "list", data:=.seq its'.toArray n' }) (r:Vals ys its') (hz:ys.length<=sizeLine) (t:Nat) :
  Inv X pins σ (upd H p (.lst ys)) { s with heap:=s.heap.update p f,toks:=t }:=by
 have e:(s.heap.update p f).get? p=some { cls:=.type "list", data:=.seq its'.toArray n' }:=by
  rw [Heap.get?_update_self f ho (by rw [hf]<;>rfl),hf]
 refine I.write (x:=p) (e:=p) (by rw [h];trivial) (.inl rfl) (fun b u hb q=>(Heap.get?_update_other _ _ (Ne.symm hb)).trans q) ⟨_,e⟩ ?_
 exact ⟨hz,its',n',r,e⟩
def rSetL:V->V->V->Hp->(Hp->Prop)->Prop:=fun o i v H Q=>∃ p xs k j,o=.ref p/\i=.int k/\H p=some (.lst xs)/\ixN xs.length k=some j/\Q (upd H p (.lst (xs.set j v)))
theorem ZiJ:PSet X rSetL:=by
 intro pins s σ H o i v ov iv u Q I ro ri rv h
 obtain ⟨p,xs,k,j,rfl,rfl,hp,hj,q⟩:=h
 cases ro
 obtain ⟨t,rfl⟩:=ri
 obtain ⟨its,n,r,ho,hz⟩:=I.lst hp
 obtain ⟨h1,h2,h3,h4⟩:=Zhq hj
 have hl:=r.length
 have hn:=line63
 have I':Inv X pins σ (upd H p (.lst (xs.set j v))) { s with heap:=s.heap.update p (Obj.mapSeq (·.setIfInBounds j u)) } :=
  I.lstUpd hp ho (ZgA its n j u) (r.set rv j) (by rw [List.length_set];exact hz) s.toks
 by_cases h0:0<=k
 .have hk:k.toNat=j:=by
   rw [seqIndex_of h0 h4] at h1
   exact Option.some.inj h1
  exact PySem.W.ki_setAt ho h0 (by omega) (by rw [List.size_toArray,<- hl];exact h4) (by rw [hk];exact ⟨_,I',q⟩)
 .have hk:(k+(its.toArray.size:Int)).toNat=j:=by
   rw [seqIndex_neg (by omega) h3] at h1
   rw [List.size_toArray,<- hl]
   exact Option.some.inj h1
  exact PySem.W.ki_setBack ho (by omega) (by rw [List.size_toArray,<- hl];exact h3) (by omega) (by rw [hk];exact ⟨_,I',q⟩)
theorem ZeD (lo hi:Option Int) (n:Nat):(sliceBounds lo hi none n).1=((HT.sIx n 0 lo:Nat):Int)/\(sliceBounds lo hi none n).2.1=((HT.sIx n n hi:Nat):Int)/\(sliceBounds lo hi none n).2.2=1:=by
 refine ⟨?_,?_,rfl⟩
 .cases lo with
  | none=>simp [sliceBounds,HT.sIx]
  | some i =>
   simp only [sliceBounds,HT.sIx,Option.getD_none,show (1:Int)>0 by decide,if_true]
   by_cases h:i<0
   .simp only [h,if_true]<;>omega
   .simp only [h,if_false]<;>omega
 .cases hi with
  | none=>simp [sliceBounds,HT.sIx]
  | some i =>
   simp only [sliceBounds,HT.sIx,Option.getD_none,show (1:Int)>0 by decide,if_true]
   by_cases h:i<0
   .simp only [h,if_true]<;>omega
   .simp only [h,if_false]<;>omega
theorem Zd1 (its:List Value) (lo hi:Option Int):slicePick its.toArray lo hi none=((its.drop (HT.sIx its.length 0 lo)).take (HT.sIx its.length its.length hi-HT.sIx its.length 0 lo)).toArray:=by
 obtain ⟨h1,h2,h3⟩:=ZeD lo hi its.toArray.size
 unfold slicePick
 rw [h1,h2,h3]
 simp only [sliceRange_one,pick_run,List.size_toArray]<;>rfl
def rSlL (K:PySem.W.Frag):V->Option Int->Option Int->Hp->VK->Prop:=fun x lo hi H Q=>∃ a xs,x=.ref a/\SqL K H a xs/\∀ p,H p=none->Q (.ref p) (upd H p (.lst (cutV xs lo hi)))
theorem Zhs:SlR X (rSlL X.K):=by
 intro pins s σ H x v vl vu lo hi sl Q I rx hs pl pu h
 obtain ⟨a,xs,rfl,hx,q⟩:=h
 cases rx
 obtain ⟨its,r,ht,hz⟩:=I.list hx
 have hlen:=r.length
 refine ⟨"list", _,slot_list_getitem.lookup,ht.isList.typeIs,?_⟩
 refine wpAny_getItem_list_slice ht.isList hs pl pu .none (by simp) ?_ (by rw [List.size_toArray]<;>omega)
 rw [Zd1,<- hlen]
 refine ⟨.ref s.heap.objs.size,_,I.laid (t':=s.toks) (o:=.lst (cutV xs lo hi)) (fun b ob q=>Heap.get?_push_of_some _ q) (Nat.le_refl _) ?_,rfl,q _ (I.hok.fresh (Nat.le_refl _))⟩
 exact ⟨Nat.le_trans (Zdb xs lo hi) hz,_,0,(r.drop (HT.sIx xs.length 0 lo)).take (HT.sIx xs.length xs.length hi-HT.sIx xs.length 0 lo),Heap.get?_push_size _ rfl⟩
theorem ZeE:CallR X (.builtin "len") (fun xs H Q=>∃ p ys,xs=[.ref p]/\(SqL X.K H p ys\/SqT X.K H p ys)/\Q (.int ys.length) H):=by
 intro pins s σ H xs us Q I r h
 obtain ⟨p,ys,rfl,hq,q⟩:=h
 obtain ⟨u,rfl,rx⟩:=vals1 r
 cases rx
 have hn:=line63
 rcases hq with hq|hq
 .obtain ⟨its,r',pl,hz⟩:=I.list hq
  have hlen:=r'.length
  exact Calls.call_len_list pl.isList (by simp only [List.size_toArray]<;>omega) ⟨.int ys.length,H,I.tok _,⟨s.toks+1,by rw [List.size_toArray,hlen]⟩,q⟩
 .obtain ⟨its,r',pl,hz⟩:=I.tuple hq
  have hlen:=r'.length
  exact len_tuple pl (by simp only [List.size_toArray]<;>omega) ⟨.int ys.length,H,I.tok _,⟨s.toks+1,by rw [List.size_toArray,hlen]⟩,q⟩
theorem CallR.or {f:Value} {r r':List V->Hp->VK->Prop} (h:CallR X f r) (h':CallR X f r'):CallR X f (fun xs H Q=>r xs H Q\/r' xs H Q):=by
 intro pins s σ H xs us Q I rs q
 rcases q with q|q
 .exact h pins s σ H xs us Q I rs q
 .exact h' pins s σ H xs us Q I rs q
theorem ZeF:CallR X (.type "list") (fun xs H Q=>∃ p ys,xs=[.ref p]/\(SqL X.K H p ys\/SqT X.K H p ys)/\∀ l,H l=none->Q (.ref l) (upd H l (.lst ys))):=by
 intro pins s σ H xs us Q I r h
 obtain ⟨p,ys,rfl,hq,q⟩:=h
 obtain ⟨u,rfl,rx⟩:=vals1 r
 cases rx
 have fin:∀ (its:List Value),Vals ys its->ys.length<=sizeLine->∀ (h':Heap) (c':Nat),(∀ b o',s.heap.get? b=some o'->h'.get? b=some o') ->
   h'.get? s.heap.objs.size=some { cls:=.type "list", dict:=none,data:=.seq its.toArray c',slots:=#[] }->EP X pins σ Q (.ref s.heap.objs.size) { s with heap:=h' }:=fun its r' hz h' c' kp e =>
  ⟨.ref s.heap.objs.size,_,I.laid (t':=s.toks) kp (Nat.le_refl _) (show ObjOk X.prog X.w _ h' _ (.lst ys) from ⟨hz,its,c',r',e⟩),rfl,q _ (I.hok.fresh (Nat.le_refl _))⟩
 rcases hq with hq|hq
 .obtain ⟨its,r',pl,hz⟩:=I.list hq
  have hlen:=r'.length
  obtain ⟨o,ho,hc,n,hd⟩:=pl.isList
  exact call_list_seq p (.inl rfl) ho hc hd (fun h' c' kp e=>fin its r' hz h' c' kp e) (by simp only [List.size_toArray]<;>omega)
 .obtain ⟨its,r',pl,hz⟩:=I.tuple hq
  have hlen:=r'.length
  obtain ⟨o,ho,hc,n,hd⟩:=pl
  exact call_list_seq p (.inr rfl) ho hc hd (fun h' c' kp e=>fin its r' hz h' c' kp e) (by simp only [List.size_toArray]<;>omega)
def tyV (K:PySem.W.Frag) (T:String) (x:V) (H:Hp):Prop:=match x with
 | .str _=>T = "str"
 | .int _=>T = "int"
 | .ref p=>(T = "list" /\ ∃ xs,SqL K H p xs)\/(T = "tuple" /\ ∃ o,K.lookup p=some o/\o.cls=.type "tuple" /\ o.dict=none) \/
   (T = "dict" /\ ((∃ kvs,H p=some (.dK kvs))\/∃ kvs,H p=some (.dT kvs)))\/(T = "set" /\ ∃ S n,H p=some (.set S n))
 | _=>False
theorem ZjI {pins:List (Addr×Obj)} {σ:St} {H:Hp} {s:Shared} {T:String} {x:V} {v:Value} (I:Inv X pins σ H s) (r:RelV x v) (ty:tyV X.K T x H) :
  s.TypeIs v T/\∀ a,v=.ref a->∃ ob,s.heap.get? a=some ob/\ob.dict=none:=by
 cases x with
 | str z =>
  obtain ⟨t,rfl⟩:=r
  cases (show T = "str" from ty)
  exact ⟨typeIs_str s z t,fun _ e=>nomatch e⟩
 | int i =>
  obtain ⟨t,rfl⟩:=r
  cases (show T = "int" from ty)
  exact ⟨typeIs_int s i t,fun _ e=>nomatch e⟩
 | ref p =>
  cases r
  rcases ty with ⟨rfl,xs,hq⟩|⟨rfl,o,hk,hc,hd⟩|⟨rfl,hk⟩|⟨rfl,S,n,hk⟩
  .obtain ⟨its,_,pl,_⟩:=I.list hq
   refine ⟨pl.isList.typeIs,fun a e=>?_⟩
   cases e
   obtain ⟨o,n,e,c,hd,_⟩:=pl
   exact ⟨o,e,hd⟩
  .refine ⟨⟨o,I.kIn p o hk,hc⟩,fun a e=>?_⟩
   cases e
   exact ⟨o,I.kIn _ o hk,hd⟩
  .have z:∃ o,s.heap.get? p=some o/\o.ExactDict:=by
    rcases hk with ⟨kvs,hk⟩|⟨kvs,hk⟩
    .obtain ⟨_,_,_,_,o,_,_,e,ex,_⟩:=I.hok p _ hk
     exact ⟨o,e,ex⟩
    .obtain ⟨_,_,_,_,o,_,_,e,ex,_⟩:=I.hok p _ hk
     exact ⟨o,e,ex⟩
   obtain ⟨o,e,ex⟩:=z
   refine ⟨⟨o,e,ex.1⟩,fun a e2=>?_⟩
   cases e2
   exact ⟨o,e,ex.2.1⟩
  .obtain ⟨o,_,_,_,e,ex,_⟩:=I.hok p _ hk
   refine ⟨⟨o,e,ex.1⟩,fun a e2=>?_⟩
   cases e2
   exact ⟨o,e,ex.2.1⟩
 | _=>exact False.elim ty
def tBM0 (K:PySem.W.Frag) (T:String) (r:V->List V->Hp->VK->Prop) (to:TE):TE:=fun σ H Q=>to σ H fun x H1=>tyV K T x H1/\r x [] H1 Q
def tBM (K:PySem.W.Frag) (T:String) (r:V->List V->Hp->VK->Prop) (to:TE) (t:TA):TE:=fun σ H Q=>to σ H fun x H1=>tyV K T x H1/\t σ H1 fun xs H2=>r x xs H2 Q
variable {o e:Expr} {es:List Expr} {to:TE} {t:TA} {name:Str} {apos cpos:Pos} {T id:String} {r:V->List V->Hp->VK->Prop}
theorem pe_bm0 (pa:PlainAttrs T) (slot:Slot T name id) (hty:typeOf (.builtin id)=pure (.type "method_descriptor")) (hm:MtR X id r) (ho:PE X o to)
  (hbase:attributeBase o name X.env (eval o X.env)=eval o X.env:=by rfl) (hline:(apos.endLine==cpos.line)=true:=by rfl):PE X (.Call (.Attribute o name apos) [] [] cpos) (tBM0 X.K T r to):=by
 intro pins s σ H Q I h
 refine wpAny_Call_method0_late hbase hline (thn (ho pins s σ H _ I h) fun v s1 ⟨x,H1,I1,r1,ty,q1⟩=>?_)
 obtain ⟨h1,h2⟩:=ZjI I1 r1 ty
 exact ⟨T,id,pa,slot,hty,h1,h2,Calls.callWith_builtin rfl (PySem.evalArgs_none (hm pins s1 σ H1 x [] v [] Q I1 r1 .nil q1))⟩
theorem Zd2 (pa:PlainAttrs T) (slot:Slot T name id) (hty:typeOf (.builtin id)=pure (.type "method_descriptor")) (hm:MtR X id r) (ho:PE X o to) (ha:PA X (e::es) t)
  (hbase:attributeBase o name X.env (eval o X.env)=eval o X.env:=by rfl)
  (hfew:((backTo cpos (starEach (e::es) X.env)).all (fun x=>!x.1)&&(backToKw cpos (keywordEach [] X.env)).all (fun x=>x.1.isSome)
   && decide ((e::es).length+([]:List Keyword).length+(if ([]:List Keyword).isEmpty then 0 else 1)<30))=true:=by rfl)
  (hline:(apos.endLine==cpos.line)=true:=by rfl) (hs:starEach (e::es) X.env=(false,eval e X.env)::starEach es X.env:=by rfl) (hplain:(backTo cpos (starEach es X.env)).any (·.1)=false:=by rfl) :
  PE X (.Call (.Attribute o name apos) (e::es) [] cpos) (tBM X.K T r to t):=by
 intro pins s σ H Q I h
 refine wpAny_Call_method_late hbase hfew hline rfl (thn (ho pins s σ H _ I h) fun v s1 ⟨x,H1,I1,r1,ty,q1⟩=>?_)
 obtain ⟨h1,h2⟩:=ZjI I1 r1 ty
 refine ⟨T,id,pa,slot,hty,h1,h2,?_⟩
 have hA:=ha cpos pins s1 σ H1 _ I1 q1
 rw [hs] at hA |-
 refine Calls.callWith_builtin (by show (false||(backTo cpos (starEach es X.env)).any (·.1))=false;rw [hplain]<;>rfl) (Calls.evalArgs_plain ?_)
 exact thn hA fun us s2 ⟨vs,H2,I2,r2,q2⟩=>hm pins s2 σ H2 x vs v us Q I2 r1 r2 q2
end
def MtM (X:Cx) (id:String) (r:V->List V->Hp->VK->Prop):Prop :=
 ∀ (pins:List (Addr×Obj)) (s:Shared) (σ:St) (H:Hp) (x:V) (xs:List V) (v:Value) (us:List Value) (Q:VK),Inv X pins σ H s->RelV x v->Vals xs us->r x xs H Q ->
  wpAny (model X.prog X.w) X.A (call (.builtin id) (v::us)) (EP X pins σ Q) X.xe s
theorem Vals.one:∀ {x:V} {us:List Value},Vals [x] us->∃ u,us=[u]/\RelV x u
 | _,_,.cons r .nil=>⟨_,rfl,r⟩
theorem Vals.two:∀ {x y:V} {us:List Value},Vals [x,y] us->∃ u v,us=[u,v]/\RelV x u/\RelV y v
 | _,_,_,.cons r (.cons q .nil)=>⟨_,_,rfl,r,q⟩
theorem Vals.zero:∀ {us:List Value},Vals [] us->us=[]
 | _,.nil=>rfl
theorem Vals.dropLast {xs:List V} {us:List Value} (h:Vals xs us):Vals xs.dropLast us.dropLast:=by
 induction h with
 | nil=>exact .nil
 | cons r t ih =>
  cases t with
  | nil=>exact .nil
  | cons q t'=>exact .cons r ih
theorem Vals.eraseIdx:∀ {xs:List V} {us:List Value} (i:Nat),Vals xs us->Vals (xs.eraseIdx i) (us.eraseIdx i)
 | _,_,_,.nil=>.nil
 | _,_,0,.cons _ t=>t
 | _,_,i+1,.cons r t=>.cons r (Vals.eraseIdx i t)
theorem Vals.reverse {xs:List V} {us:List Value} (h:Vals xs us):Vals xs.reverse us.reverse:=by
 induction h with
 | nil=>exact .nil
 | cons r t ih=>rw [List.reverse_cons,List.reverse_cons];exact Vals.append ih (.cons r .nil)
theorem Vals.rep {xs:List V} {us:List Value} (h:Vals xs us):∀ k:Nat,Vals (List.replicate k xs).flatten (List.replicate k us).flatten
 | 0=>.nil
 | k+1=>by
  rw [List.replicate_succ,List.replicate_succ,List.flatten_cons,List.flatten_cons]
  exact Vals.append h (Vals.rep h k)
theorem ZgB {α:Type} (l:List α):l.eraseIdx (l.length-1)=l.dropLast:=by
 induction l with
 | nil=>rfl
 | cons a r ih =>
  cases r with
  | nil=>rfl
  | cons b r =>
   have e:(a::b::r).length-1=((b::r).length-1)+1:=by
    have h1:(a::b::r).length=r.length+2:=rfl
    have h2:(b::r).length=r.length+1:=rfl
    omega
   rw [e,List.eraseIdx_cons_succ,ih]
   all_goals rfl
theorem ZeG (its:List Value):∀ (k:Nat) (acc:List Value),
  List.foldl (fun x1 x2=>x1++x2) acc.toArray (List.replicate k its.toArray)=(acc++(List.replicate k its).flatten).toArray
 | 0,acc=>by simp
 | k+1,acc=>by
  have e:acc.toArray++its.toArray=(acc++its).toArray:=by simp
  have e2:(acc++its)++(List.replicate k its).flatten=acc++(List.replicate (k+1) its).flatten:=by
   rw [List.replicate_succ,List.flatten_cons,List.append_assoc]
  rw [<- e2,<- ZeG its k (acc++its),<- e,List.replicate_succ,List.foldl_cons]
section
variable {X:Cx} {pins:List (Addr×Obj)} {σ:St} {H:Hp} {s:Shared} {l b:Addr} {xs ys zs:List V}
theorem Inv.lset {its its':List Value} {n:Nat} {f:Array Value->Array Value} {t':Nat} (I:Inv X pins σ H s) (hH:H l=some (.lst xs))
  (e:s.heap.get? l=some { cls:=.type "list", data:=.seq its.toArray n }) (hf:f its.toArray=its'.toArray) (hv:Vals ys its') (hz:ys.length<=sizeLine) :
  Inv X pins σ (upd H l (.lst ys)) { s with heap:=s.heap.update l (Obj.mapSeq f),toks:=t' }:=by
 have q:=PySem.IsL.update e f
 rw [hf] at q
 refine I.write (x:=l) (e:=l) (by rw [hH];exact trivial) (.inl rfl) (fun b' u hb hu=>(Heap.get?_update_other s.heap (Obj.mapSeq f) (Ne.symm hb)).trans hu) ⟨_,q⟩ ?_
 exact ⟨hz,its',_,hv,q⟩
theorem Inv.lnew {its:List Value} {t':Nat} (I:Inv X pins σ H s) (hv:Vals ys its) (hz:ys.length<=sizeLine) :
  Inv X pins σ (upd H s.heap.objs.size (.lst ys)) { s with heap:=s.heap.push { cls:=.type "list", data:=.seq its.toArray },toks:=t' } :=
 I.laid (fun _ _ q=>Heap.get?_push_of_some _ q) (Nat.le_refl _) ⟨hz,its,0,hv,Heap.get?_push_size _ rfl⟩
theorem Inv.fresh (I:Inv X pins σ H s):H s.heap.objs.size=none:=I.hok.fresh (Nat.le_refl _)
theorem Inv.lstM (I:Inv X pins σ H s) (hH:H l=some (.lst xs)):xs.length<=sizeLine/\∃ (its:List Value) (n:Nat),Vals xs its/\xs.length=its.length/\s.heap.get? l=some { cls:=.type "list", data:=.seq its.toArray n }:=by
 obtain ⟨z,its,n,r,e⟩:=I.hok l _ hH
 exact ⟨z,its,n,r,r.length,e⟩
theorem ZfN {n:Nat} (h:n<=sizeLine):Builtin.List.listTooLong n=false:=by
 unfold Builtin.List.listTooLong
 exact decide_eq_false (by omega)
end
section
variable {X:Cx}
def Zht:V->List V->Hp->VK->Prop:=fun x vs H Q=>∃ l xs y,x=.ref l/\vs=[y]/\H l=some (.lst xs)/\xs.length<sizeLine/\Q .non (upd H l (.lst (xs++[y])))
theorem Zbi:MtM X "list.append" Zht:=by
 intro pins s σ H x vs v us Q I rx rv h
 obtain ⟨l,xs,y,rfl,rfl,hH,hz,q⟩:=h
 cases rx
 obtain ⟨u,rfl,ru⟩:=rv.one
 obtain ⟨z,its,n,r,hl,e⟩:=I.lstM hH
 refine call_meets F.slot_list_append ⟨_,e,rfl⟩ F.entry_list_append (F.args_list_append_2 _ _) (PySem.list_append l its.toArray n u (by rw [List.size_toArray];omega)) ⟨e,?_⟩
 refine ⟨.non,_,I.lset (its':=its++[u]) hH e (by simp) (r.append (.cons ru .nil)) ?_,rfl,q⟩
 rw [List.length_append,List.length_singleton]
 omega
def Zhu:V->List V->Hp->VK->Prop:=fun x vs H Q=>∃ l b xs zs,x=.ref l/\vs=[.ref b]/\H l=some (.lst xs)/\H b=some (.lst zs)/\xs.length+zs.length<=sizeLine/\Q .non (upd H l (.lst (xs++zs)))
theorem Zdc:MtM X "list.extend" Zhu:=by
 intro pins s σ H x vs v us Q I rx rv h
 obtain ⟨l,b,xs,zs,rfl,rfl,hH,hB,hz,q⟩:=h
 cases rx
 obtain ⟨u,rfl,ru⟩:=rv.one
 cases ru
 obtain ⟨z,its,n,r,hl,e⟩:=I.lstM hH
 obtain ⟨z2,its2,n2,r2,hl2,e2⟩:=I.lstM hB
 have hsz:its.toArray.size+its2.toArray.size<=sizeLine:=by rw [List.size_toArray,List.size_toArray];omega
 have hlong:¬ (!its.toArray.isEmpty&&Builtin.List.listTooLong (its.toArray.size+its2.toArray.size))=true:=by
  rw [ZfN hsz,Bool.and_false]
  exact Bool.false_ne_true
 refine call_meets F.slot_list_extend ⟨_,e,rfl⟩ F.entry_list_extend (F.args_list_extend_2 _ _)
  (AutoSeq1.list_extend_list_list_0 l its.toArray n b its2.toArray n2 hlong (by rw [List.size_toArray];omega) (by omega)) ⟨e,e2,?_⟩
 refine ⟨.non,_,I.lset (its':=its++its2) hH e (by simp) (r.append r2) ?_,rfl,q⟩
 rw [List.length_append]
 omega
def rPop:V->List V->Hp->VK->Prop:=fun x vs H Q=>∃ l xs y,x=.ref l/\vs=[]/\H l=some (.lst xs)/\xs[xs.length-1]?=some y/\Q y (upd H l (.lst xs.dropLast))
theorem mt_pop:MtM X "list.pop" rPop:=by
 intro pins s σ H x vs v us Q I rx rv h
 obtain ⟨l,xs,y,rfl,rfl,hH,hy,q⟩:=h
 cases rx
 have hus:=rv.zero
 subst hus
 obtain ⟨z,its,n,r,hl,e⟩:=I.lstM hH
 obtain ⟨u,hu,ru⟩:=r.get hy
 have hy':its.toArray[its.toArray.size-1]?=some u:=by
  show its.toArray[its.length-1]?=some u
  rw [<- Array.getElem?_toList,<- hl]
  exact hu
 refine call_meets F.slot_list_pop ⟨_,e,rfl⟩ F.entry_list_pop (F.args_list_pop_1 _) (MeetsSeq.list_pop_last l its.toArray n u hy' (by rw [List.size_toArray];omega)) ⟨e,?_⟩
 refine ⟨y,_,I.lset (its':=its.dropLast) hH e ?_ r.dropLast ?_,ru,q⟩
 .show its.toArray.eraseIdxIfInBounds (its.toArray.size-1)=its.dropLast.toArray
  rw [List.size_toArray,List.eraseIdxIfInBounds_toArray,ZgB]
 .rw [List.length_dropLast]
  omega
def rCat:R2:=fun x y H Q=>∃ l b xs zs,x=.ref l/\y=.ref b/\H l=some (.lst xs)/\H b=some (.lst zs)/\xs.length+zs.length<=sizeLine/\∀ p,H p=none->Q (.ref p) (upd H p (.lst (xs++zs)))
theorem ZjJ:OpR X (binaryOp .Add) rCat:=by
 intro pins s σ H x y v u Q I rx ry h
 obtain ⟨l,b,xs,zs,rfl,rfl,hH,hB,hz,q⟩:=h
 cases rx
 cases ry
 obtain ⟨z,its,n,r,hl,e⟩:=I.lstM hH
 obtain ⟨z2,its2,n2,r2,hl2,e2⟩:=I.lstM hB
 refine PySem.P.add_list e e2 ?_ (by rw [List.size_toArray,List.size_toArray];omega)
 have ea:its.toArray++its2.toArray=(its++its2).toArray:=by simp
 rw [ea]
 exact ⟨.ref _,_,I.lnew (t':=s.toks) (r.append r2) (by rw [List.length_append];omega),rfl,q _ I.fresh⟩
def rRep:R2:=fun x y H Q=>∃ l k xs,x=.ref l/\y=.int k/\H l=some (.lst xs)/\-(2 ^ 63)<=k/\k<2 ^ 63/\xs.length*k.toNat<=sizeLine /\
 ∀ p,H p=none->Q (.ref p) (upd H p (.lst (List.replicate k.toNat xs).flatten))
theorem Zkd {α:Type} (xs:List α) (k:Nat):(List.replicate k xs).flatten.length=k*xs.length:=by
 induction k with
 | zero=>simp
 | succ k ih=>rw [List.replicate_succ,List.flatten_cons,List.length_append,ih,Nat.succ_mul,Nat.add_comm]
theorem op_rep:OpR X (binaryOp .Mult) rRep:=by
 intro pins s σ H x y v u Q I rx ry h
 obtain ⟨l,k,xs,rfl,rfl,hH,h1,h2,hz,q⟩:=h
 cases rx
 obtain ⟨t,rfl⟩:=ry
 obtain ⟨z,its,n,r,hl,e⟩:=I.lstM hH
 have hlen:its.toArray.size*k.toNat<=sizeLine:=by rw [List.size_toArray,<- hl];exact hz
 have hcap:¬ its.toArray.size*k.toNat>(2 ^ 63-1) / 8:=by
  have:(sizeLine:Nat)<=(2 ^ 63-1) / 8:=by decide
  omega
 have hfit:¬ (!Builtin.List.listFitsIndex k)=true:=by
  rw [fitsIndex_both h1 h2]
  exact Bool.false_ne_true
 have hlong:¬ Builtin.List.listTooLong (its.toArray.size*k.toNat)=true:=by
  rw [ZfN hlen]
  exact Bool.false_ne_true
 have hnew:List.foldl (fun x1 x2=>x1++x2) #[] (List.replicate (if its.toArray.isEmpty=true then 0 else k.toNat) its.toArray)=(List.replicate k.toNat its).flatten.toArray:=by
  have f0:∀ m:Nat,List.foldl (fun x1 x2=>x1++x2) #[] (List.replicate m its.toArray)=(List.replicate m its).flatten.toArray:=fun m=>by
   have:=ZeG its m []
   rw [List.nil_append] at this
   exact this
  rw [f0]
  cases its with
  | nil=>simp
  | cons a r'=>rw [if_neg (by simp)]
 refine wpAny_binaryOp_repeat_ref (T := "list") (U := "int") (by decide) ⟨_,e,rfl⟩ (fun s'=>typeIs_int s' k t) noFill_list_mul F.fills_int_mul F.slot_int_rmul repeat_list F.slot_int_index.lookup
  (call_meets F.slot_int_rmul (typeIs_int s k t) F.entry_int_rmul (F.args_int_rmul_2 _ _) (int___rmul___int_list k t l its.toArray n)
   ⟨e,rfl,⟨_,e,rfl⟩,call_meets F.slot_list_mul ⟨_,e,rfl⟩ F.entry_list_mul (F.args_list_mul_2 _ _) (AutoListH.list___mul___list_int_3 l its.toArray n k t hfit hcap hlong) ⟨e,?_⟩⟩)
 rw [hnew]
 exact ⟨.ref _,_,I.lnew (t':=s.toks) (r.rep k.toNat) (by rw [Zkd,Nat.mul_comm];exact hz),rfl,q _ I.fresh⟩
end
section
variable {prog:Program} {w:World} {A:Around} {E:Value->Shared->Prop} {s:Shared}
end
section
variable {X:Cx}
end
section
variable {κ:Type} [DecidableEq κ]
noncomputable def valV (kvs:List (κ×V)) (k:κ):Option V:=(kvs.find? fun kv=>decide (kv.1=k)).map (·.2)
noncomputable def putK (kvs:List (κ×V)) (k:κ) (v:V):List (κ×V) :=
 if (kvs.any fun kv=>decide (kv.1=k))=true then kvs.map (fun kv=>if kv.1=k then (kv.1,v) else kv) else kvs++[(k,v)]
noncomputable def dropK (kvs:List (κ×V)) (k:κ):List (κ×V):=kvs.filter fun kv=>decide (kv.1≠k)
theorem ZfO {k:κ}:valV ([]:List (κ×V)) k=none:=rfl
theorem ZaL {p:κ×V} {r:List (κ×V)} {k:κ} (e:p.1=k):valV (p::r) k=some p.2:=by simp [valV,List.find?_cons,e]
theorem ZaJ {p:κ×V} {r:List (κ×V)} {k:κ} (e:¬ p.1=k):valV (p::r) k=valV r k:=by simp [valV,List.find?_cons,e]
theorem Zbr (k:κ):∀ kvs:List (κ×V),(kvs.any fun kv=>decide (kv.1=k))=(valV kvs k).isSome
 | []=>rfl
 | p::r=>by
  rw [List.any_cons]
  by_cases e:p.1=k
  .simp only [ZaL e,decide_eq_true e,Bool.true_or,Option.isSome_some]
  .rw [ZaJ e,decide_eq_false e,Bool.false_or];exact Zbr k r
theorem ZfP (k j:κ) (y:V):∀ kvs:List (κ×V),valV (kvs.map fun kv=>if kv.1=k then (kv.1,y) else kv) j=(valV kvs j).map fun x=>if j=k then y else x
 | []=>rfl
 | p::r=>by
  have ih:=ZfP k j y r
  rw [List.map_cons]
  by_cases h:p.1=k
  .rw [if_pos h]
   by_cases e:p.1=j
   .rw [ZaL (p:=(p.1,y)) e,ZaL e,Option.map_some,if_pos (e.symm.trans h)]
   .rw [ZaJ (p:=(p.1,y)) e,ZaJ e,ih]
  .rw [if_neg h]
   by_cases e:p.1=j
   .rw [ZaL (p:=p) e,ZaL e,Option.map_some,if_neg (fun z=>h (e.trans z))]
   .rw [ZaJ (p:=p) e,ZaJ e,ih]
theorem ZeH (k j:κ) (y:V):∀ kvs:List (κ×V),valV kvs k=none->valV (kvs++[(k,y)]) j=if j=k then some y else valV kvs j
 | [],_=>by
  by_cases e:k=j
  .rw [if_pos e.symm];exact ZaL (p:=(k,y)) e
  .rw [if_neg (fun z=>e z.symm)];exact ZaJ (p:=(k,y)) e
 | p::r,hn=>by
  rw [List.cons_append]
  have hk:¬ p.1=k:=fun z=>by rw [ZaL z] at hn;cases hn
  rw [ZaJ hk] at hn
  have ih:=ZeH k j y r hn
  by_cases e:p.1=j
  .rw [ZaL e,ZaL e,if_neg (fun z=>hk (e.trans z))]
  .rw [ZaJ e,ZaJ e,ih]
theorem ZbJ (kvs:List (κ×V)) (k j:κ) (y:V):valV (putK kvs k y) j=if j=k then some y else valV kvs j:=by
 unfold putK
 by_cases a:(kvs.any fun kv=>decide (kv.1=k))=true
 .rw [if_pos a,ZfP]
  rw [Zbr] at a
  by_cases e:j=k
  .obtain ⟨x,hx⟩:=Option.isSome_iff_exists.mp a
   rw [if_pos e,e,hx,Option.map_some,if_pos rfl]
  .rw [if_neg e]
   cases valV kvs j with
   | none=>rfl
   | some x=>rw [Option.map_some,if_neg e]
 .rw [if_neg a]
  refine ZeH k j y kvs ?_
  rw [Zbr] at a
  cases q:valV kvs k with
  | none=>rfl
  | some x=>rw [q] at a;exact (a rfl).elim
theorem ZaY (kvs:List (κ×V)) (k:κ) (v:V):(putK kvs k v).length<=kvs.length+1:=by
 unfold putK
 split
 .rw [List.length_map];omega
 .rw [List.length_append,List.length_cons,List.length_nil];omega
theorem ZiK {kvs:List (κ×V)} {k:κ} (v:V) (h:valV kvs k=none):putK kvs k v=kvs++[(k,v)]:=by
 unfold putK
 rw [Zbr,h]
 exact if_neg (by decide)
theorem RelO.isSome_eq {o:Option V} {u:Option Value} (r:RelO o u):o.isSome=u.isSome:=by
 cases o with
 | none=>cases u with
  | none=>rfl
  | some _=>exact (show False from r).elim
 | some _=>cases u with
  | none=>exact (show False from r).elim
  | some _=>rfl
theorem RelO.getD {o:Option V} {u:Option Value} {d:V} {d':Value} (r:RelO o u) (rd:RelV d d'):RelV (o.getD d) (u.getD d'):=by
 cases o with
 | none=>cases u with
  | none=>exact rd
  | some _=>exact (show False from r).elim
 | some _=>cases u with
  | none=>exact (show False from r).elim
  | some _=>exact r
theorem KV.val {kvs:List (κ×V)} {vs:List (κ×Value)} (r:KV kvs vs) (k:κ):RelO (valV kvs k) (valueAt vs k):=by
 unfold KV at r
 induction r with
 | nil=>exact True.intro
 | @cons p q ps qs h t ih =>
  obtain ⟨h1,h2⟩:=h
  by_cases e:p.1=k
  .have e':q.1=k:=h1.symm.trans e
   have b:valueAt (q::qs) k=some q.2:=by simp [valueAt,List.find?_cons,e']
   rw [ZaL e,b];exact h2
  .have e':¬ q.1=k:=fun z=>e (h1.trans z)
   have b:valueAt (q::qs) k=valueAt qs k:=by simp [valueAt,List.find?_cons,e']
   rw [ZaJ e,b];exact ih
theorem KV.any {kvs:List (κ×V)} {vs:List (κ×Value)} (r:KV kvs vs) (k:κ):(kvs.any fun kv=>decide (kv.1=k))=vs.any fun kv=>decide (kv.1=k):=by
 unfold KV at r
 induction r with
 | nil=>rfl
 | cons h t ih=>rw [List.any_cons,List.any_cons,ih,h.1]
theorem KV.repl {kvs:List (κ×V)} {vs:List (κ×Value)} (r:KV kvs vs) (k:κ) {y:V} {u:Value} (ry:RelV y u) :
  KV (kvs.map fun kv=>if kv.1=k then (kv.1,y) else kv) (vs.map fun kv=>if kv.1=k then (kv.1,u) else kv):=by
 unfold KV at r |-
 induction r with
 | nil=>exact .nil
 | @cons p q ps qs h t ih =>
  rw [List.map_cons,List.map_cons]
  refine .cons ?_ ih
  obtain ⟨h1,h2⟩:=h
  by_cases e:p.1=k
  .rw [if_pos e,if_pos (h1.symm.trans e)];exact ⟨h1,ry⟩
  .rw [if_neg e,if_neg (fun z=>e (h1.trans z))];exact ⟨h1,h2⟩
theorem KV.put {kvs:List (κ×V)} {vs:List (κ×Value)} (r:KV kvs vs) (k:κ) {y:V} {u:Value} (ry:RelV y u):KV (putK kvs k y) (stored vs k u):=by
 unfold putK stored
 rw [r.any k]
 by_cases e:(vs.any fun kv=>decide (kv.1=k))=true
 .rw [if_pos e,if_pos e];exact r.repl k ry
 .rw [if_neg e,if_neg e];exact Paired.snoc r ⟨rfl,ry⟩
theorem KV.drop {kvs:List (κ×V)} {vs:List (κ×Value)} (r:KV kvs vs) (k:κ):KV (dropK kvs k) (without vs k):=by
 unfold KV at r |-
 unfold dropK without
 induction r with
 | nil=>exact .nil
 | @cons p q ps qs h t ih =>
  obtain ⟨h1,h2⟩:=h
  rw [List.filter_cons,List.filter_cons]
  by_cases e:p.1=k
  .have a:¬ decide (p.1≠k)=true:=by simp [e]
   have b:¬ decide (q.1≠k)=true:=by simp [h1.symm.trans e]
   rw [if_neg a,if_neg b];exact ih
  .have e':¬ q.1=k:=fun z=>e (h1.trans z)
   have a:decide (p.1≠k)=true:=by simp [e]
   have b:decide (q.1≠k)=true:=by simp [e']
   rw [if_pos a,if_pos b];exact .cons ⟨h1,h2⟩ ih
theorem KV.keys {kvs:List (κ×V)} {vs:List (κ×Value)} (r:KV kvs vs):kvs.map (·.1)=vs.map (·.1):=by
 unfold KV at r
 induction r with
 | nil=>rfl
 | cons h t ih=>rw [List.map_cons,List.map_cons,ih,h.1]
theorem KV.length {kvs:List (κ×V)} {vs:List (κ×Value)} (r:KV kvs vs):kvs.length=vs.length:=Paired.length r
theorem Zd3 (kvs:List (κ×V)) (k:κ):(dropK kvs k).length<=kvs.length:=List.length_filter_le _ _
end
theorem Zfk {P:Program} {w:World} {k:Key} {u:Value} (r:RelV (kV k) u):(ZaI P w).is k u=true:=by
 cases k with
 | inl i=>obtain ⟨t,e⟩:=(show ∃ t,u=Value.int i t from r);subst e;exact Zfg P w i t
 | inr x=>obtain ⟨t,e⟩:=(show ∃ t,u=Value.str x t from r);subst e;exact Zfh P w x t
theorem ZeI {P:Program} {w:World}:∀ {ks:List Key} {us:List Value},Vals (ks.map kV) us->ItemsAre (ZaI P w) ks us
 | [],_,r=>by rw [List.map_nil] at r;cases r;exact .nil
 | k::ks,_,r=>by
  rw [List.map_cons] at r
  cases r with
  | cons h t=>exact .cons (Zfk h) (ZeI t)
abbrev KT (H:Hp):List (List Key×V)->List (List Key×Addr×Value)->Prop:=Paired fun p q=>p.1=q.1/\H q.2.1=some (.tup (p.1.map kV))/\RelV p.2 q.2.2
theorem KT.val {H:Hp} {kvs:List (List Key×V)} {xs:List (List Key×Addr×Value)} (r:KT H kvs xs) (k:List Key):RelO (valV kvs k) ((atKey xs k).map (·.2)):=by
 induction r with
 | nil=>exact True.intro
 | @cons p q ps qs h t ih =>
  obtain ⟨h1,_,h2⟩:=h
  by_cases e:p.1=k
  .have e':q.1=k:=h1.symm.trans e
   have b:atKey (q::qs) k=some q.2:=by simp [atKey,List.find?_cons,e']
   rw [ZaL e,b];exact h2
  .have e':¬ q.1=k:=fun z=>e (h1.trans z)
   have b:atKey (q::qs) k=atKey qs k:=by simp [atKey,List.find?_cons,e']
   rw [ZaJ e,b];exact ih
theorem KT.repl {H:Hp} {kvs:List (List Key×V)} {xs:List (List Key×Addr×Value)} (r:KT H kvs xs) (k:List Key) {y:V} {u:Value} (ry:RelV y u) :
  KT H (kvs.map fun kv=>if kv.1=k then (kv.1,y) else kv) (xs.map (putAt k u)):=by
 induction r with
 | nil=>exact .nil
 | @cons p q ps qs h t ih =>
  rw [List.map_cons,List.map_cons]
  refine .cons ?_ ih
  obtain ⟨h1,h2,h3⟩:=h
  unfold putAt
  by_cases e:p.1=k
  .rw [if_pos e,if_pos (h1.symm.trans e)];exact ⟨h1,h2,ry⟩
  .rw [if_neg e,if_neg (fun z=>e (h1.trans z))];exact ⟨h1,h2,h3⟩
theorem KT.put {H:Hp} {kvs:List (List Key×V)} {xs:List (List Key×Addr×Value)} (r:KT H kvs xs) (k:List Key) {b:Addr} {y:V} {u:Value} (hb:H b=some (.tup (k.map kV))) (ry:RelV y u) :
  KT H (putK kvs k y) (storedH xs k b u):=by
 have e:(kvs.any fun kv=>decide (kv.1=k))=(atKey xs k).isSome:=by
  rw [Zbr,(r.val k).isSome_eq,Option.isSome_map]
 unfold putK storedH
 rw [e]
 by_cases q:(atKey xs k).isSome=true
 .rw [if_pos q,if_pos q];exact r.repl k ry
 .rw [if_neg q,if_neg q];exact Paired.snoc r ⟨rfl,hb,ry⟩
theorem KT.keeps {H H':Hp} {kvs:List (List Key×V)} {xs:List (List Key×Addr×Value)} (r:KT H kvs xs) (ht:∀ b ys,H b=some (.tup ys)->H' b=some (.tup ys)):KT H' kvs xs :=
 Paired.mapP r fun _ _ z=>⟨z.1,ht _ _ z.2.1,z.2.2⟩
section
variable {P:Program} {w:World} {H:Hp} {h:Heap} {a:Addr}
theorem rd_of {u:HO} (ok:HOk P w H h) (e:Rd H a u):ObjOk P w H h a u:=e.ok ok
theorem ZgC {kvs:List (Key×V)} (ok:HOk P w H h) (e:Rd H a (.dK kvs)):kvs.length<=sizeLine/\(a==sysModules)=false/\∃ vs,KV kvs vs/\h.DictOf (ZaI P w) a vs :=
 show ObjOk P w H h a (.dK kvs) from rd_of ok e
theorem ZgD {kvs:List (Key×V)} (ok:HOk P w H h) (e:H a=some (.dK kvs)):kvs.length<=sizeLine/\(a==sysModules)=false/\∃ vs,KV kvs vs/\h.DictOf (ZaI P w) a vs:=ZgC ok (.inl e)
theorem ZfQ {ks:List Key} (ok:HOk P w H h) (e:H a=some (.tup (ks.map kV))):(tupleKind (ZaI P w)).is h ks a:=by
 obtain ⟨_,its,r,o,h1,h2,n,h3⟩:=(show ObjOk P w H h a (.tup (ks.map kV)) from ok a _ e)
 exact ⟨o,its.toArray,n,h1,h2,h3,by simpa using ZeI r⟩
theorem Zhv {kvs:List (List Key×V)} (ok:HOk P w H h) (e:Rd H a (.dT kvs)):kvs.length<=sizeLine/\(a==sysModules)=false /\
  ∃ xs,KT H kvs xs/\h.DictOfH (tupleKind (ZaI P w)) a xs:=by
 obtain ⟨z,y,xs,r,o,es,ep,h1,h2,h3,h4,h5⟩:=(show ObjOk P w H h a (.dT kvs) from rd_of ok e)
 refine ⟨z,y,xs,r,o,es,ep,h1,h2,h3,h4,fun x hx=>?_,h5⟩
 have all:∀ {l:List (List Key×V)} {m:List (List Key×Addr×Value)},KT H l m->∀ x∈m,(tupleKind (ZaI P w)).is h x.1 x.2.1:=by
  intro l m q
  induction q with
  | nil=>intro x hx;exact nomatch hx
  | @cons p q ps qs hq t ih =>
   intro x hx
   rcases List.mem_cons.mp hx with e|hx
   .subst e
    exact ZfQ ok (by rw [<- hq.1];exact hq.2.1)
   .exact ih x hx
 exact all r x hx
theorem dt_of {kvs:List (List Key×V)} (ok:HOk P w H h) (e:H a=some (.dT kvs)):kvs.length<=sizeLine/\(a==sysModules)=false /\
  ∃ xs,KT H kvs xs/\h.DictOfH (tupleKind (ZaI P w)) a xs:=Zhv ok (.inl e)
end
def DGet (H:Hp) (a:Addr) (y:V) (r:Option V):Prop :=
 (∃ kvs k,Rd H a (.dK kvs)/\y=kV k/\r=valV kvs k)\/∃ kvs k b,Rd H a (.dT kvs)/\y=.ref b/\H b=some (.tup (k.map kV))/\r=valV kvs k
def DPut (H:Hp) (a:Addr) (y v:V) (H':Hp):Prop :=
 (∃ kvs k,H a=some (.dK kvs)/\y=kV k/\kvs.length<sizeLine/\H'=upd H a (.dK (putK kvs k v))) \/
 ∃ kvs k b,H a=some (.dT kvs)/\y=.ref b/\H b=some (.tup (k.map kV))/\kvs.length<sizeLine/\H'=upd H a (.dT (putK kvs k v))
theorem DGet.k {H:Hp} {a:Addr} {kvs:List (Key×V)} {k:Key} (e:H a=some (.dK kvs)):DGet H a (kV k) (valV kvs k):=.inl ⟨kvs,k,.inl e,rfl,rfl⟩
theorem DGet.t {H:Hp} {a b:Addr} {kvs:List (List Key×V)} {k:List Key} (e:H a=some (.dT kvs)) (eb:H b=some (.tup (k.map kV))):DGet H a (.ref b) (valV kvs k):=.inr ⟨kvs,k,b,.inl e,rfl,eb,rfl⟩
theorem DPut.k {H:Hp} {a:Addr} {kvs:List (Key×V)} {k:Key} {v:V} (e:H a=some (.dK kvs)) (hl:kvs.length<sizeLine):DPut H a (kV k) v (upd H a (.dK (putK kvs k v))):=.inl ⟨kvs,k,e,rfl,hl,rfl⟩
theorem DPut.t {H:Hp} {a b:Addr} {kvs:List (List Key×V)} {k:List Key} {v:V} (e:H a=some (.dT kvs)) (eb:H b=some (.tup (k.map kV))) (hl:kvs.length<sizeLine) :
  DPut H a (.ref b) v (upd H a (.dT (putK kvs k v))):=.inr ⟨kvs,k,b,e,rfl,eb,hl,rfl⟩
section
variable {X:Cx} {pins:List (Addr×Obj)} {σ:St} {H:Hp} {s:Shared} {a:Addr} {y v:V} {u r:Value} {o:Option V} {A:Around} {E:Value->Shared->Prop}
theorem Inv.big (I:Inv X pins σ H s):sysModules<s.heap.objs.size:=by
 have h:mainGlobals<s.heap.objs.size:=(I.mod.glob.keeps I.bk).lt
 exact Nat.lt_trans (by decide) h
theorem Zhw {Q:Value->Shared->Prop} (hu:A.units+1<cLine) (I:Inv X pins σ H s) (g:DGet H a y (some v)) (ry:RelV y u) (h:∀ w' s',Inv X pins σ H s'->RelV v w'->Q w' s') :
  wpAny (model X.prog X.w) A (getItem (.ref a) u) Q E s:=by
 rcases g with ⟨kvs,k,e,ey,l⟩|⟨kvs,k,b,e,ey,eb,l⟩
 .subst ey
  obtain ⟨z,hd,vs,rel,dd⟩:=ZgC I.hok e
  obtain ⟨w',hw,rw'⟩:=RelO.some_of (v:=v) (o:=valueAt vs k) (by rw [l];exact rel.val k)
  exact wpAny_getItem_of (Zfk ry) dd.mapOf hw (h w' _ (I.tok _) rw')
 .subst ey
  cases (show u=Value.ref b from ry)
  obtain ⟨z,hd,xs,rel,dd⟩:=Zhv I.hok e
  obtain ⟨w',hw,rw'⟩:=RelO.some_of (v:=v) (o:=(atKey xs k).map (·.2)) (by rw [l];exact rel.val k)
  obtain ⟨p,hp,hp2⟩:=Option.map_eq_some_iff.mp hw
  refine wpAny_getItem_heap (tupleKind_room_in1 hu) (ZfQ I.hok eb) dd hp ?_
  rw [hp2]
  exact h w' _ (I.tok _) rw'
theorem Zd4 {h':Heap} {t':Nat} {ob:HO} (I:Inv X pins σ H s) (mu:Mut (H a)) (hs:Heap.SameBut a s.heap h') (he:∃ q,h'.get? a=some q) (new:ObjOk X.prog X.w (upd H a ob) h' a ob) :
  Inv X pins σ (upd H a ob) { s with heap:=h',toks:=t' } :=
 I.write (x:=a) (e:=a) mu (.inl rfl) (fun b q hb z=>(hs.2 b hb).trans z) he new
theorem Zhx {P:Program} {w:World} {H':Hp} {h':Heap} {kvs:List (Key×V)} {vs:List (Key×Value)} (z:kvs.length<=sizeLine) (hd:(a==sysModules)=false) (rel:KV kvs vs) (dd:h'.DictOf (ZaI P w) a vs) :
  ObjOk P w H' h' a (.dK kvs):=⟨z,hd,vs,rel,dd⟩
theorem Zhy {H':Hp} {Q:Unit->Shared->Prop} (hu:A.units+1<cLine) (I:Inv X pins σ H s) (g:DPut H a y v H') (ry:RelV y u) (rv:RelV v r) (h:∀ s',Inv X pins σ H' s'->Q () s') :
  wpAny (model X.prog X.w) A (setItem (.ref a) u r) Q E s:=by
 rcases g with ⟨kvs,k,e,ey,l,eH⟩|⟨kvs,k,b,e,ey,eb,l,eH⟩
 .subst ey eH
  obtain ⟨z,hd,vs,rel,dd⟩:=ZgD I.hok e
  have hz:vs.length<=sizeLine:=by rw [<- rel.length];exact z
  have hl:(putK kvs k v).length<=sizeLine:=by have:=ZaY kvs k v;omega
  refine wpAny_setItem_pairs (hsz:=hz) (Zfk ry) dd fun h' dd' hs=>h _ ?_
  have he:∃ q,h'.get? a=some q:=let ⟨q,_,_,hq,_⟩:=dd';⟨q,hq⟩
  exact Zd4 I (by rw [e];exact True.intro) hs he (Zhx hl hd (rel.put k rv) dd')
 .subst ey eH
  cases (show u=Value.ref b from ry)
  obtain ⟨z,hd,xs,rel,dd⟩:=dt_of I.hok e
  have hz:xs.length<=sizeLine:=by rw [<- Paired.length rel];exact z
  have hl:(putK kvs k v).length<=sizeLine:=by have:=ZaY kvs k v;omega
  refine wpAny_setItem_heap (hsz:=hz) (tupleKind_room_in1 hu) (ZfQ I.hok eb) dd fun h' dd' hs=>h _ ?_
  obtain ⟨q,es,ep,hq,h2,h3,h4,_,h5⟩:=dd'
  refine Zd4 I (by rw [e];exact True.intro) hs ⟨q,hq⟩ ⟨hl,hd,_,(rel.put k eb rv).keeps fun c ys ec=>?_,q,es,ep,hq,h2,h3,h4,h5⟩
  rw [Zaf (ZaF ec e (fun z=>nomatch z))]
  exact ec
end
section
variable {X:Cx} {pins:List (Addr×Obj)} {σ:St} {H:Hp} {s:Shared} {a:Addr} {kvs:List (Key×V)} {k:Key} {u:Value} {A:Around} {E:Value->Shared->Prop}
theorem d_delItem {Q:Unit->Shared->Prop} (I:Inv X pins σ H s) (e:H a=some (.dK kvs)) (ry:RelV (kV k) u) (l:(valV kvs k).isSome=true) (h:∀ s',Inv X pins σ (upd H a (.dK (dropK kvs k))) s'->Q () s') :
  wpAny (model X.prog X.w) A (delItem (.ref a) u) Q E s:=by
 obtain ⟨z,hd,vs,rel,dd⟩:=ZgD I.hok e
 refine wpAny_delItem_slot dd.typeIs (by decide) PySem.F.slot_dict_delitem
  (call_meetsIn PySem.F.slot_dict_delitem dd.typeIs PySem.F.entry_dict_delitem (PySem.F.args_dict_delitem_2 _ _) (meets_dict_delitem_pairs (ZaI X.prog X.w) a (Zfk ry)) ⟨vs,dd,by rw [<- rel.length];exact z,by rw [<- (rel.val k).isSome_eq];exact l,fun h' dd' hs=>h _ ?_⟩)
 have he:∃ q,h'.get? a=some q:=let ⟨q,_,_,hq,_⟩:=dd';⟨q,hq⟩
 exact Zd4 I (by rw [e];exact True.intro) hs he (Zhx (Nat.le_trans (Zd3 kvs k) z) hd (rel.drop k) dd')
theorem d_pop {v:V} {more:List Value} {Q:Value->Shared->Prop} (I:Inv X pins σ H s) (e:H a=some (.dK kvs)) (ry:RelV (kV k) u) (l:valV kvs k=some v) (hm:more=[]\/∃ x,more=[x])
  (h:∀ w' s',Inv X pins σ (upd H a (.dK (dropK kvs k))) s'->RelV v w'->Q w' s'):wpAny (model X.prog X.w) A (call (.builtin "dict.pop") (.ref a::u::more)) Q E s:=by
 obtain ⟨z,hd,vs,rel,dd⟩:=ZgD I.hok e
 obtain ⟨w',hw,rw'⟩:=RelO.some_of (v:=v) (o:=valueAt vs k) (by rw [<- l];exact rel.val k)
 have hp:(keyPart u).isSome=true:=by
  cases k with
  | inl i=>obtain ⟨t,q⟩:=(show ∃ t,u=Value.int i t from ry);subst q;rfl
  | inr x=>obtain ⟨t,q⟩:=(show ∃ t,u=Value.str x t from ry);subst q;rfl
 have ha:argsOk "dict.pop" ⟨.ref a::u::more,[]⟩:=by
  rcases hm with q|⟨x,q⟩
  .subst q;exact PySem.F.args_dict_pop_2 _ _
  .subst q;exact PySem.F.args_dict_pop_3 _ _ _
 refine call_meetsIn PySem.F.slot_dict_pop dd.typeIs PySem.F.entry_dict_pop ha (meets_dict_pop_there (ZaI X.prog X.w) a (Zfk ry) more hm hp)
  ⟨vs,w',dd,by rw [<- rel.length];exact z,hw,fun h' dd' hs=>h w' _ ?_ rw'⟩
 have he:∃ q,h'.get? a=some q:=let ⟨q,_,_,hq,_⟩:=dd';⟨q,hq⟩
 exact Zd4 I (by rw [e];exact True.intro) hs he (Zhx (Nat.le_trans (Zd3 kvs k) z) hd (rel.drop k) dd')
theorem d_popD {r:Value} {Q:Value->Shared->Prop} (I:Inv X pins σ H s) (e:H a=some (.dK kvs)) (ry:RelV (kV k) u) (l:valV kvs k=none) (h:∀ s',Inv X pins σ H s'->Q r s') :
  wpAny (model X.prog X.w) A (call (.builtin "dict.pop") [.ref a,u,r]) Q E s:=by
 obtain ⟨z,hd,vs,rel,dd⟩:=ZgD I.hok e
 have hn:valueAt vs k=none:=RelO.none_of (by rw [<- l];exact rel.val k)
 have hp:(keyPart u).isSome=true:=by
  cases k with
  | inl i=>obtain ⟨t,q⟩:=(show ∃ t,u=Value.int i t from ry);subst q;rfl
  | inr x=>obtain ⟨t,q⟩:=(show ∃ t,u=Value.str x t from ry);subst q;rfl
 exact call_meetsIn PySem.F.slot_dict_pop dd.typeIs PySem.F.entry_dict_pop (PySem.F.args_dict_pop_3 _ _ _) (meets_dict_pop_default (ZaI X.prog X.w) a (Zfk ry) hd hp r) ⟨vs,dd,hn,h _ (I.tok _)⟩
theorem d_len {Q:Value->Shared->Prop} (I:Inv X pins σ H s) (e:Rd H a (.dK kvs)) (h:∀ t s',Inv X pins σ H s'->Q (.int kvs.length t) s'):wpAny (model X.prog X.w) A (call (.builtin "len") [.ref a]) Q E s:=by
 obtain ⟨z,hd,vs,rel,dd⟩:=ZgC I.hok e
 refine call_len_dict hd dd (by rw [<- rel.length];rw [sizeLine_eq] at z;omega) ?_
 rw [<- rel.length]
 exact h _ _ (I.tok _)
end
def NoSl (i:Expr):Prop:=∀ ov iv,subscripted i false ov iv=operate [ov,iv] (getItem ov iv)
theorem Zke {prog:Program} {w:World} {A:Around} {E:Value->Shared->Prop} {s:Shared} {env:Env} {value slice:Expr} {pos:Pos} {T id:String} {Q:Value->Shared->Prop}
  (hl:typeLookup (.type T) "__getitem__" = pure (some (.builtin id))) (hs:NoSl slice)
  (h:wpAny (model prog w) A (eval value env) (fun o s₁=>wpAny (model prog w) A (eval slice env) (fun i s₂=>s₂.TypeIs o T/\wpAny (model prog w) A (getItem o i) Q E s₂) E s₁) E s) :
  wpAny (model prog w) A (eval (.Subscript value slice pos) env) Q E s:=by
 refine Subscript_ (wpAny_mono h (fun o s₁ h₁=>wpAny_mono h₁ (fun i s₂ h₂=>?_) fun _ _ x=>x) fun _ _ x=>x)
 obtain ⟨hT,h₂⟩:=h₂
 unfold subscriptTail
 refine wpAny_bind ?_
 rw [getitemInPython_of_ne hT.not_modules]
 refine wpAny_bind (wpAny_specialOf hT hl ?_)
 have fin:wpAny (model prog w) A (subscripted slice false o i) (fun r s₃=>wpAny (model prog w) A (letTemporaryGo value o r >>= fun _=>pure r) Q E s₃) E s₂:=by
  rw [hs o i]
  exact wpAny_operating (wpAny_mono h₂ (fun r s₃ h₃=>wpAny_bind (wpAny_letTemporaryGo (wpAny_pure h₃))) fun _ _ x=>x)
 first
  | exact wpAny_pure (wpAny_bind fin)
  | exact wpAny_bind (wpAny_pure (wpAny_bind fin))
  | exact wpAny_bind fin
theorem Zfl {X:Cx} {pins:List (Addr×Obj)} {σ:St} {H:Hp} {s:Shared} {a:Addr} {y:V} {o:Option V} (I:Inv X pins σ H s) (g:DGet H a y o):s.TypeIs (.ref a) "dict" := by
 rcases g with ⟨kvs,k,e,_,_⟩|⟨kvs,k,b,e,_,_,_⟩
 .obtain ⟨_,_,vs,_,dd⟩:=ZgC I.hok e
  exact dd.typeIs
 .obtain ⟨_,_,xs,_,dd⟩:=Zhv I.hok e
  exact dd.typeIs
def tDGet (td ty:TE):TE:=fun σ H Q=>td σ H fun x H1=>ty σ H1 fun y H2=>∃ a v,x=.ref a/\DGet H2 a y (some v)/\Q v H2
def sDPut (td ty tv:TE):TS:=fun D σ H=>tv σ H fun v H1=>td σ H1 fun x H2=>ty σ H2 fun y H3=>∃ a H4,x=.ref a/\DPut H3 a y v H4/\D.nx σ H4
section
variable {X:Cx} {o i e value:Expr} {pos pos' tpos:Pos} {td ty tv:TE}
theorem ZbV (hu:X.A.units+1<cLine) (ho:PE X o td) (hi:PE X i ty) (hs:NoSl i):PE X (.Subscript o i pos) (tDGet td ty):=by
 intro pins s σ H Q I h
 refine Zke PySem.F.slot_dict_getitem.lookup hs (thn (ho pins s σ H _ I h) fun u s1 ⟨x,H1,I1,rx,q1⟩=>thn (hi pins s1 σ H1 _ I1 q1) fun iv s2 ⟨y,H2,I2,ry,a,v,ex,g,q2⟩=>?_)
 subst ex
 obtain rfl:u=Value.ref a:=rx
 exact ⟨Zfl I2 g,Zhw hu I2 g ry fun w' s3 I3 rw'=>⟨v,H2,I3,rw',q2⟩⟩
theorem ZbK (hu:X.A.units+1<cLine) (ho:PE X o td) (hi:PE X i ty) (hv:PE X value tv) (hs:swapsWith value (some (.Subscript o i pos')) pos.line X.env=pure false) :
  PS X (.Assign [.Subscript o i pos'] value pos) (sDPut td ty tv):=by
 intro pins s σ H D I h
 refine wpAny_Assign_Subscript (thn (hv pins s σ H _ I h) fun r s1 ⟨v,H1,I1,rv,q1⟩=>thn (ho pins s1 σ H1 _ I1 q1) fun u s2 ⟨x,H2,I2,rx,q2⟩=>thn (hi pins s2 σ H2 _ I2 q2) fun iv s3 ⟨y,H3,I3,ry,a,H4,ex,g,q3⟩=>?_) hs
 subst ex
 obtain rfl:u=Value.ref a:=rx
 exact Zhy hu I3 g ry rv fun s4 I4=>⟨σ,H4,I4,q3⟩
end
theorem ZfR {P:Program} {w:World} {H:Hp} (h:Heap) (hb:sysModules<h.objs.size):ObjOk P w H (h.push { cls:=.type "dict", data:=.dict #[] }) h.objs.size (.dK []) :=
 ⟨Nat.zero_le _,beq_eq_false_iff_ne.mpr (Ne.symm (Nat.ne_of_lt hb)),[],.nil,Heap.DictOf.new h⟩
theorem ZiL {P:Program} {w:World} {H:Hp} (h:Heap) (hb:sysModules<h.objs.size):ObjOk P w H (h.push { cls:=.type "dict", data:=.dict #[] }) h.objs.size (.dT []) :=
 ⟨Nat.zero_le _,beq_eq_false_iff_ne.mpr (Ne.symm (Nat.ne_of_lt hb)),[],.nil,_,#[],0,Heap.get?_push_size _ rfl,⟨rfl,rfl,rfl⟩,rfl,rfl,List.nodup_nil⟩
def tDNewK:TE:=fun _ H Q=>∀ p,H p=none->Q (.ref p) (upd H p (.dK []))
def tDNewT:TE:=fun _ H Q=>∀ p,H p=none->Q (.ref p) (upd H p (.dT []))
section
variable {X:Cx} {pos:Pos}
theorem Zd5:PE X (.Dict [] [] pos) tDNewK:=fun pins s σ H Q I h =>
 wpAny_Dict_empty ⟨.ref s.heap.objs.size,_,I.laid (a:=s.heap.objs.size) (o:=.dK []) (t':=s.toks) (fun _ _ q=>Heap.get?_push_of_some _ q) (Nat.le_refl _) (ZfR s.heap I.big),rfl,h _ (I.hok.fresh (Nat.le_refl _))⟩
theorem ZiM:PE X (.Dict [] [] pos) tDNewT:=fun pins s σ H Q I h =>
 wpAny_Dict_empty ⟨.ref s.heap.objs.size,_,I.laid (a:=s.heap.objs.size) (o:=.dT []) (t':=s.toks) (fun _ _ q=>Heap.get?_push_of_some _ q) (Nat.le_refl _) (ZiL s.heap I.big),rfl,h _ (I.hok.fresh (Nat.le_refl _))⟩
end
abbrev VV:List (V×V)->List (Value×Value)->Prop:=Paired fun p q=>RelV p.1 q.1/\RelV p.2 q.2
structure M1 (X:Cx) (o:Expr) (m:Str) (apos:Pos) (e:Expr) (cpos:Pos):Prop where
 base:attributeBase o m X.env (eval o X.env)=eval o X.env
 few:((backTo cpos (starEach [e] X.env)).all (fun x=>!x.1)&&(backToKw cpos (keywordEach [] X.env)).all (fun x=>x.1.isSome)
  && decide (([e]:List Expr).length+([]:List Keyword).length+(if ([]:List Keyword).isEmpty then 0 else 1)<30))=true
 line:(apos.endLine==cpos.line)=true
 trees:backTo cpos (starEach [e] X.env)=[(false,eval e X.env)]
structure M2 (X:Cx) (o:Expr) (m:Str) (apos:Pos) (e f:Expr) (cpos:Pos):Prop where
 base:attributeBase o m X.env (eval o X.env)=eval o X.env
 few:((backTo cpos (starEach [e,f] X.env)).all (fun x=>!x.1)&&(backToKw cpos (keywordEach [] X.env)).all (fun x=>x.1.isSome)
  && decide (([e,f]:List Expr).length+([]:List Keyword).length+(if ([]:List Keyword).isEmpty then 0 else 1)<30))=true
 line:(apos.endLine==cpos.line)=true
 trees:backTo cpos (starEach [e,f] X.env)=[(false,eval e X.env),(false,eval f X.env)]
def IsD (H:Hp) (a:Addr):Prop:=(∃ kvs,Rd H a (.dK kvs))\/∃ kvs,Rd H a (.dT kvs)
theorem ZjK {X:Cx} {pins:List (Addr×Obj)} {σ:St} {H:Hp} {s:Shared} {a:Addr} (I:Inv X pins σ H s) (d:IsD H a) :
  s.TypeIs (.ref a) "dict" /\ (∀ b,Value.ref a=.ref b->∃ ob,s.heap.get? b=some ob/\ob.dict=none)/\(a==sysModules)=false:=by
 rcases d with ⟨kvs,e⟩|⟨kvs,e⟩
 .obtain ⟨_,hd,vs,_,dd⟩:=ZgC I.hok e
  refine ⟨dd.typeIs,fun b q=>?_,hd⟩
  cases q
  obtain ⟨ob,_,_,h1,h2,_⟩:=dd
  exact ⟨ob,h1,h2.2.1⟩
 .obtain ⟨_,hd,xs,_,dd⟩:=Zhv I.hok e
  refine ⟨dd.typeIs,fun b q=>?_,hd⟩
  cases q
  obtain ⟨ob,_,_,h1,h2,_⟩:=dd
  exact ⟨ob,h1,h2.2.1⟩
section
variable {X:Cx} {pins:List (Addr×Obj)} {σ:St} {H:Hp} {s:Shared} {a:Addr} {y d:V} {u r:Value} {o:Option V} {A:Around} {E:Value->Shared->Prop}
theorem d_get2 {Q:Value->Shared->Prop} (hu:A.units+1<cLine) (I:Inv X pins σ H s) (g:DGet H a y o) (ry:RelV y u) (rd:RelV d r) (h:∀ w' s',Inv X pins σ H s'->RelV (o.getD d) w'->Q w' s') :
  wpAny (model X.prog X.w) A (call (.builtin "dict.get") [.ref a,u,r]) Q E s:=by
 rcases g with ⟨kvs,k,e,ey,l⟩|⟨kvs,k,b,e,ey,eb,l⟩
 .subst ey
  obtain ⟨z,hd,vs,rel,dd⟩:=ZgC I.hok e
  refine call_meetsIn PySem.F.slot_dict_get dd.typeIs PySem.F.entry_dict_get (PySem.F.args_dict_get_3 _ _ _) (meets_dict_get_default (ZaI X.prog X.w) a (Zfk ry) hd r) ⟨_,dd.mapOf,h _ _ (I.tok _) ?_⟩
  rw [l]
  exact (rel.val k).getD rd
 .subst ey
  cases (show u=Value.ref b from ry)
  obtain ⟨z,hd,xs,rel,dd⟩:=Zhv I.hok e
  refine call_meetsIn PySem.F.slot_dict_get dd.typeIs PySem.F.entry_dict_get (PySem.F.args_dict_get_3 _ _ _) (meetsH_dict_get_default (tupleKind (ZaI X.prog X.w)) a b hd r) ⟨tupleKind_room_in1 hu,k,xs,ZfQ I.hok eb,dd,h _ _ (I.tok _) ?_⟩
  rw [l]
  exact (rel.val k).getD rd
end
def tDGet2 (td ty tx:TE):TE:=fun σ H Q=>td σ H fun x H1=>∃ a,x=.ref a/\IsD H1 a/\ty σ H1 fun y H2=>tx σ H2 fun z H3=>∃ o,DGet H3 a y o/\Q (o.getD z) H3
def tDPop2 (td ty tx:TE):TE:=fun σ H Q=>td σ H fun x H1=>∃ a,x=.ref a/\IsD H1 a/\ty σ H1 fun y H2=>tx σ H2 fun z H3=>∃ kvs k,H3 a=some (.dK kvs)/\y=kV k /\
 (∀ v,valV kvs k=some v->Q v (upd H3 a (.dK (dropK kvs k))))/\(valV kvs k=none->Q z H3)
section
variable {X:Cx} {o e f:Expr} {apos cpos:Pos} {td ty tx:TE}
theorem ZiN (hu:X.A.units+1<cLine) (ho:PE X o td) (he:PE X e ty) (hf:PE X f tx) (m:M2 X o "get" apos e f cpos):PE X (.Call (.Attribute o "get" apos) [e,f] [] cpos) (tDGet2 td ty tx):=by
 intro pins s σ H Q I h
 refine wpAny_Call_method m.base m.few m.line PySem.F.plainAttrs_dict PySem.F.slot_dict_get PySem.F.type_dict_get (thn (ho pins s σ H _ I h) fun u s1 ⟨x,H1,I1,rx,a,ex,d,q1⟩=>?_)
 subst ex
 obtain rfl:u=Value.ref a:=rx
 obtain ⟨t1,t2,_⟩:=ZjK I1 d
 refine ⟨t1,t2,?_⟩
 rw [m.trees]
 refine Calls.callWith_builtin rfl (Calls.evalArgs_plain (Calls.spliced_cons (thn (he pins s1 σ H1 _ I1 q1) fun iv s2 ⟨y,H2,I2,ry,q2⟩ =>
  Calls.spliced_cons (thn (hf pins s2 σ H2 _ I2 q2) fun fv s3 ⟨z,H3,I3,rz,ov,g,q3⟩=>Calls.spliced_nil ?_))))
 exact d_get2 hu I3 g ry rz fun w' s4 I4 rw'=>⟨_,H3,I4,rw',q3⟩
theorem ZfS (ho:PE X o td) (he:PE X e ty) (hf:PE X f tx) (m:M2 X o "pop" apos e f cpos):PE X (.Call (.Attribute o "pop" apos) [e,f] [] cpos) (tDPop2 td ty tx):=by
 intro pins s σ H Q I h
 refine wpAny_Call_method m.base m.few m.line PySem.F.plainAttrs_dict PySem.F.slot_dict_pop PySem.F.type_dict_pop (thn (ho pins s σ H _ I h) fun u s1 ⟨x,H1,I1,rx,a,ex,d,q1⟩=>?_)
 subst ex
 obtain rfl:u=Value.ref a:=rx
 obtain ⟨t1,t2,_⟩:=ZjK I1 d
 refine ⟨t1,t2,?_⟩
 rw [m.trees]
 refine Calls.callWith_builtin rfl (Calls.evalArgs_plain (Calls.spliced_cons (thn (he pins s1 σ H1 _ I1 q1) fun iv s2 ⟨y,H2,I2,ry,q2⟩ =>
  Calls.spliced_cons (thn (hf pins s2 σ H2 _ I2 q2) fun fv s3 ⟨z,H3,I3,rz,kvs,k,ea,ey,q3,q4⟩=>Calls.spliced_nil ?_))))
 subst ey
 cases l:valV kvs k with
 | some v=>exact d_pop I3 ea ry l (.inr ⟨fv,rfl⟩) fun w' s4 I4 rw'=>⟨v,_,I4,rw',q3 v l⟩
 | none=>exact d_popD I3 ea ry l fun s4 I4=>⟨z,H3,I4,rz,q4 l⟩
end
section
variable {X:Cx} {pins:List (Addr×Obj)} {σ:St} {H:Hp} {s:Shared} {a:Addr} {kvs:List (Key×V)} {A:Around} {E:Value->Shared->Prop}
end
section
variable {X:Cx} {pins:List (Addr×Obj)} {σ:St} {H:Hp} {s:Shared} {a:Addr} {y:V} {u:Value} {A:Around} {E:Value->Shared->Prop}
end
end L2
namespace Att
open PySem PySem.W PySem.Calls PyProof.Rows
theorem Zdd {P:Params} {h:Heap}:∀ (ns:List Int) (vs:List Value),WellAll P h vs (ns.map WData.int)->IntsAre vs ns:=by
 intro ns
 induction ns with
 | nil =>
  intro vs w
  rw [List.map_nil] at w
  cases w
  exact .nil
 | cons n ns ih =>
  intro vs w
  rw [List.map_cons] at w
  cases w with
  | cons a b =>
   cases a
   exact .cons _ _ (ih _ b)
theorem ZeJ {l:OpenLaw} {n:Nat} (hn:l.most=some n) {P:Params} {h:Heap} {args:List WData} {vals:List Value}
  (hpre:l.row.toRowW.claim.pre args=true) (hwl:WellAll P h vals args) :
  ∃ a vs ns,vals=[Value.ref a]/\args=[WData.list (ns.map WData.int)]/\h.get? a=some { cls:=.type "list", data:=.seq vs.toArray }/\IntsAre vs ns/\ns.length<=n:=by
 have hsh:WShape.hasAll [] args [.list .int]=true:=(pre_splitW hpre).1
 have hc:l.pre.holds [] { args:=args }=true:=(pre_splitW hpre).2
 obtain ⟨d,r,rfl,h1,h2⟩:=hasAllW_cons hsh
 obtain rfl:=hasAllW_nil h2
 obtain ⟨xs,rfl,h3⟩:=hasW_list h1
 obtain ⟨ns,rfl⟩:=items_int h3
 have hlen:ns.length<=n:=by
  unfold OpenLaw.pre at hc
  have h4:(WTm.not (.lt (.lit (.int (n:Int))) (.len (.arg 0)))).holds [] { args:=[.list (ns.map .int)] }=true:=by
   have h4:=(holds_andW hc).1
   rw [hn] at h4
   exact h4
  have h5:=condW_of h4 (w_not (w_lt w_lit (w_len_list (w_arg rfl))))
  rw [List.length_map] at h5
  refine Nat.le_of_not_lt fun q=>?_
  have q':(n:Int)<((ns.length:Nat):Int):=by omega
  first
   | (rw [decide_eq_true q'] at h5;exact absurd h5 (by decide))
   | (simp at h5;omega)
 cases hwl with
 | cons w1 w2 =>
  cases w2
  cases w1 with
  | list ho hall=>exact ⟨_,_,ns,rfl,rfl,ho,Zdd ns _ hall,hlen⟩
theorem ZeK (l:OpenLaw) (args:List WData):l.row.toRowW.claim.post args (.bool true) args=true :=
 postW_of (r:=l.row.toRowW) (X:=(true==true))
  (show WShape.has [] (.bool true) .bool=true by first|rfl|decide|simp [WShape.has,WShape.arms,WShape.armsAll])
  (show (WTm.eq .res (.lit (.bool true))).value [] { args:=args,res:=some (.bool true),after:=args }=some (.bool (true==true)) from w_eq_bool (w_res rfl) w_lit) rfl
theorem attach {l:OpenLaw} {n:Nat} {q:Program} {loose:List Str} {XP:(Str->Option Value)->Heap->Prop} {YP:World->Heap->Prop} {d:DefRec} {x:Str}
  (hn:l.most=some n) (hdf:d.params.defaults=[])
  (hbind:∀ pm cd doc v:Value,bindArgs (docDef d.name d.params d.body d.scope pm cd doc) ⟨[v],[]⟩=pure [(x,v)])
  (hx:d.scope.names.lookup x=some .local\/d.scope.names.lookup x=some .cell)
  (hk:d.scope.kind=.function) (hco:d.scope.isCoroutine=false) (hgen:d.scope.isGenerator=false)
  (body:∀ (w:World) (s₀ s₁ s:Shared) (mg mb:Str->Option Value) (fa:Addr) (o:Obj) (pm cd doc:Value) (a:Addr) (vs:List Value) (ns:List Int),
   Ground q loose [] XP w s₀ mg mb s₁.heap->YP w s₁.heap ->
   s₁.heap.get? fa=some o->o.data=.func (docDef d.name d.params d.body d.scope pm cd doc)->s₁.heap.CodeRec cd d.name->mg d.name=some (.ref fa) ->
   s₁.heap.get? a=some { cls:=.type "list", data:=.seq vs.toArray }->IntsAre vs ns->ns.length<=n ->
   s.gens=#[]->s.os=s₁.os ->
   Fr s₁.heap s₁.heap.objs.size s.heap (bindL (envOfC d.name d.scope s₁.heap.objs.size fa cd).kindOf [(x,.ref a)] fun _=>none) ->
   Cl s₁.heap.objs.size (cellsFrom (s₁.heap.objs.size+1) d.scope.names []) s.heap (bindC (envOfC d.name d.scope s₁.heap.objs.size fa cd).kindOf [(x,.ref a)] fun _=>none) ->
   wpAny (model l.prog w) (callerA.deeper (envOfC d.name d.scope s₁.heap.objs.size fa cd)) (execs d.body (envOfC d.name d.scope s₁.heap.objs.size fa cd))
    (fun f s'=>f=.ret (.bool true)/\OldK s₁.heap s'.heap/\s'.os=s₁.os/\AllBare s'.gens) (fun _ _=>False) s) :
  WalkO q loose XP YP l.row.toRowW d [] (fun f vs=>PySem.call f vs):=by
 intro w s₀ s₁ mg mb G Y fa o pm cd doc dV kV ho hd hcd hD hmg hg args vals as hpre hlay hrd hwl hlo
 obtain rfl:dV=.none:=Dflts.none hD hdf
 obtain rfl:kV=.none:=Dflts.noKw hD
 obtain ⟨a,vs,ns,rfl,rfl,hobj,hints,hlen⟩:=ZeJ hn hpre hwl
 refine enter_call ?_
 refine call_cells_ret (o:=o) (by rw [depth_caller];decide) ho (fd_plain hd) G.T.nolimit hcd (hbind pm cd doc (.ref a)) (fun y hy=>?_) (fun h₁ tk F X=>?_) hco hgen hk
 .obtain rfl:y=(x,Value.ref a):=List.mem_singleton.mp hy
  rcases hx with e|e
  .exact .inl e
  .exact .inr ⟨e,cellsFrom_some _ _ _ (.inl e)⟩
 .refine wpAny_mono (body w s₀ s₁ { s₁ with heap:=h₁,toks:=tk } mg mb fa o pm cd doc a vs ns G Y ho (fd_plain hd) hcd hmg hobj hints hlen hg rfl F X) (fun f s' hq=>?_) (fun _ _ hq=>hq)
  obtain ⟨rfl,h2,h3,h4⟩:=hq
  exact ⟨.inl ⟨.bool true,.bool true,[],rfl,fun _=>rfl,.bool true,ZeK l _,fun _=>⟨List.Pairwise.nil,fun _ hm=>(nomatch hm)⟩⟩,h2,h3,h4⟩
theorem Zfm {l:OpenLaw} {n:Nat} {q:Program} {loose:List Str} {XP:(Str->Option Value)->Heap->Prop} {YP:World->Heap->Prop} {d:DefRec}
  (hn:l.most=some n) (hdf:d.params.defaults=[])
  (call:∀ (w:World) (s₀ s₁:Shared) (mg mb:Str->Option Value) (fa:Addr) (o:Obj) (pm cd doc:Value) (a:Addr) (vs:List Value) (ns:List Int),
   Ground q loose [] XP w s₀ mg mb s₁.heap->YP w s₁.heap ->
   s₁.heap.get? fa=some o->o.data=.func (docDef d.name d.params d.body d.scope pm cd doc)->s₁.heap.CodeRec cd d.name->mg d.name=some (.ref fa) ->
   s₁.heap.get? a=some { cls:=.type "list", data:=.seq vs.toArray }->IntsAre vs ns->ns.length<=n->s₁.gens=#[] ->
   codeAny (model l.prog w) callerA (.call (.ref fa) ⟨[.ref a],[]⟩) (fun r s'=>r=.ok (.ret (.bool true))/\OldK s₁.heap s'.heap/\s'.os=s₁.os/\AllBare s'.gens) s₁) :
  WalkO q loose XP YP l.row.toRowW d [] (fun f vs=>PySem.call f vs):=by
 intro w s₀ s₁ mg mb G Y fa o pm cd doc dV kV ho hd hcd hD hmg hg args vals as hpre hlay hrd hwl hlo
 obtain rfl:dV=.none:=Dflts.none hD hdf
 obtain rfl:kV=.none:=Dflts.noKw hD
 obtain ⟨a,vs,ns,rfl,rfl,hobj,hints,hlen⟩:=ZeJ hn hpre hwl
 refine enter_call (codeAny_mono (call w s₀ s₁ mg mb fa o pm cd doc a vs ns G Y ho (fd_plain hd) hcd hmg hobj hints hlen hg) fun r s' hq=>?_)
 obtain ⟨rfl,h2,h3,h4⟩:=hq
 exact ⟨.inl ⟨.bool true,.bool true,[],rfl,fun _=>rfl,.bool true,ZeK l _,fun _=>⟨List.Pairwise.nil,fun _ hm=>(nomatch hm)⟩⟩,h2,h3,h4⟩
section
variable {prog:Program} {w:World} {A:Around} {E:Value->Shared->Prop} {s:Shared} {K:Frag}
end
end Att
namespace L2
open PySem PySem.Spec PyProof.Rows
theorem Zde:∀ {vs:List Value} {ns:List Int},IntsAre vs ns->Vals (ns.map V.int) vs
 | _,_,.nil=>.nil
 | _,_,.cons n t h=>.cons ⟨t,rfl⟩ (Zde h)
def Only (H:Hp):Prop:=∀ b,H b=none\/∃ o xs,H b=some (.frz o (.lst xs))
theorem ZiO {P:Program} {w:World} {K:PySem.W.Frag} {mg mb:Str->Option Value} {CX:CXT} {k:Nat} {fa a:Addr} {fd:FuncData} {x:Str} {sp:Sp} {s₁:Shared} {vs:List Value} {ns:List Int}
  (KX:K.In s₁.heap) (hns:s₁.heap.Ns mainGlobals mg) (hb:s₁.heap.Ns builtinsNs mb) (hbb:∀ x:Str,x ≠ "__name__" -> mb x=bootBuiltins x) (hlim:s₁.heap.NoLimit) (hg:s₁.gens=#[])
  (ha:s₁.heap.get? a=some { cls:=.type "list", data:=.seq vs.toArray }) (hi:IntsAre vs ns) (hl:ns.length<=sizeLine) (hr:Room k callerA)
  (F:∀ base:Heap,K.In base->base.Ns mainGlobals mg->FnOk P w K mg base CX k fa fd [x] sp) (hbind:∀ (s:Shared) (u:Value),BindsTo s fd ⟨[u],[]⟩ [(x,u)])
  (hsp:∀ H:Hp,Only H->SqL K H a (ns.map V.int)->sp [.ref a] H (fun v _=>v=.bl true) fun _ _ _=>False)
  (hCX:∀ H e s',CX [] H s₁ (fun _ _ _=>False) e s'->False) :
  codeAny (model P w) callerA (.call (.ref fa) ⟨[.ref a],[]⟩) (fun r s'=>r=.ok (.ret (.bool true))/\OldK s₁.heap s'.heap/\s'.os=s₁.os/\AllBare s'.gens) s₁:=by
 have rv:=Zde hi
 have lenV:=hi.length
 have core:∀ H:Hp,Only H->SqL K H a (ns.map V.int)->HOk P w H s₁.heap->(∀ b,H b≠none->b=a)->(H a≠none->K.lookup a=none) ->
   codeAny (model P w) callerA (.call (.ref fa) ⟨[.ref a],[]⟩) (fun r s'=>r=.ok (.ret (.bool true))/\OldK s₁.heap s'.heap/\s'.os=s₁.os/\AllBare s'.gens) s₁:=by
  intro H hO hS hok hA hK
  have base_of:∀ {b:Addr} {o:Obj},s₁.heap.get? b=some o->H b=none->(hidT s₁.heap H).get? b=some o:=fun e n=>Ziy e n
  have noA:∀ {b:Addr} {o:Obj} {es:Array DictEntry} {ep:Nat},s₁.heap.get? b=some o->o.data=.dict es ep->H b=none:=fun {b o es ep} e d=>by
   cases q:H b with
   | none=>rfl
   | some u =>
    have e':b=a:=hA b (by rw [q];simp)
    subst e'
    rw [ha] at e;cases e
    have d':Data.seq vs.toArray _=Data.dict es ep:=d
    cases d'
  have nsK:∀ {b:Addr} {m:Str->Option Value},s₁.heap.Ns b m->(hidT s₁.heap H).Ns b m:=fun {b m} ⟨o,es,ep,e,d,r⟩=>⟨o,es,ep,base_of e (noA e d),d,r⟩
  have hKb:K.In (hidT s₁.heap H):=fun b o e=>base_of (KX b o e) (by
   cases q:H b with
   | none=>rfl
   | some u =>
    have e':b=a:=hA b (by rw [q];simp)
    subst e'
    rw [hK (by rw [q];simp)] at e;cases e)
  have hM:Mod K mg (hidT s₁.heap H):=⟨hKb,nsK hns,⟨mb,nsK hb,hbb⟩,let ⟨mc,h1,h2⟩:=hlim;⟨mc,nsK h1,h2⟩⟩
  have e0:Env0 P w K mg (hidT s₁.heap H) callerA [] s₁ H:=⟨rfl,hM,fun b o e=>ZjX e,Nat.le_of_eq (Zg4 _ _),trivial,fun b hb=>absurd (show b∈([]:List Addr) from hb) (by simp),hok,.of_eq hg⟩
  refine codeAny_mono ((F _ hKb (nsK hns)).run callerA [] s₁ H ⟨[.ref a],[]⟩ [.ref a] [.ref a] _ _ hr e0 (hbind s₁ (.ref a)) (.cons rfl .nil) (hsp H hO hS)) fun r s' h=>?_
  cases r with
  | error e=>exact (hCX H e s' h).elim
  | ok fl =>
   cases fl with
   | next=>exact False.elim h
   | brk=>exact False.elim h
   | cont=>exact False.elim h
   | ret u =>
    obtain ⟨v,H',os,bare,un,hok',r',q⟩:=h
    have q':v=.bl true:=q
    subst q'
    obtain rfl:u=Value.bool true:=r'
    refine ⟨rfl,OldK.of_keep fun b o e=>?_,os,bare⟩
    cases q:H b with
    | none=>exact un.keep b o e q (by intro z;exact absurd (show b∈([]:List Addr) from z) (by simp)) (by simp)
    | some u =>
     rcases hO b with z|⟨ob,xs,z⟩
     .rw [q] at z;cases z
     .have z2:=un.frzs b ob _ z
      obtain ⟨e1,_⟩:=hok b _ z
      obtain ⟨e2,_⟩:=hok' b _ z2
      rw [e] at e1;cases e1
      exact e2
 cases hk:K.lookup a with
 | some o =>
  have e:=KX a o hk
  rw [ha] at e
  cases e
  refine core (fun _=>none) (fun _=>.inl rfl) (.inr ⟨_,vs.toArray,_,hk,rfl,rfl,rfl,by rw [List.size_toArray,lenV];exact hl,by simpa using rv⟩) (fun b u z=>by have z':(none:Option HO)=some u:=z;cases z') (fun b z=>absurd rfl z) fun z=>absurd rfl z
 | none =>
  refine core (fun b=>if b=a then some (.frz { cls:=.type "list", data:=.seq vs.toArray } (.lst (ns.map V.int))) else none) (fun b=>?_) (.inl (.inr ⟨{ cls:=.type "list", data:=.seq vs.toArray },if_pos rfl⟩)) (fun b u z=>?_) (fun b z=>?_) fun _=>hk
  .by_cases hb:b=a
   .exact .inr ⟨_,_,if_pos hb⟩
   .exact .inl (if_neg hb)
  .by_cases hb:b=a
   .have z':=(if_pos hb).symm.trans z
    cases z'
    subst hb
    exact ⟨ha,by rw [List.length_map];exact hl,vs,_,rv,ha⟩
   .have z':=(if_neg hb).symm.trans z
    cases z'
  .by_cases hb:b=a
   .exact hb
   .exact absurd (if_neg hb) z
noncomputable abbrev KOf {K:PySem.W.Frag} {h:Heap} (_:K.In h):PySem.W.Frag:=K
theorem Zkf {l:PySem.W.OpenLaw} {n k:Nat} {q:Program} {loose:List Str} {XP:(Str->Option Value)->Heap->Prop} {YP:World->Heap->Prop} {d:DefRec} {K:Params->PySem.W.Frag} {CX:World->CXT} {sp:World->Sp} {x:Str}
  (hn:l.most=some n) (hn2:n<=sizeLine) (hdf:d.params.defaults=[]) (hr:Room k callerA)
  (hY:∀ (w:World) (h:Heap),YP w h->(K w.params).In h)
  (F:∀ (w:World) (mg:Str->Option Value) (fa:Addr) (h:Heap),(K w.params).In h->h.Ns mainGlobals mg->mg d.name=some (.ref fa) ->
   ∃ fd:FuncData,(∀ (s:Shared) (u:Value),BindsTo s fd ⟨[u],[]⟩ [(x,u)]) /\
    ∀ base:Heap,(K w.params).In base->base.Ns mainGlobals mg->FnOk l.prog w (K w.params) mg base (CX w) k fa fd [x] (sp w))
  (hsp:∀ (w:World) (H:Hp) (a:Addr) (ns:List Int),ns.length<=n->Only H->SqL (K w.params) H a (ns.map V.int)->sp w [.ref a] H (fun v _=>v=.bl true) fun _ _ _=>False)
  (hCX:∀ (w:World) (H:Hp) (s:Shared) (e:Value) (s':Shared),CX w [] H s (fun _ _ _=>False) e s'->False) :
  PySem.W.WalkO q loose XP YP l.row.toRowW d [] (fun f vs=>PySem.call f vs):=by
 refine Att.Zfm hn hdf fun w s₀ s₁ mg mb fa o pm cd doc a vs ns G Y ho hd hcd hmg hobj hints hlen hg=>?_
 have KX:=hY w _ Y
 obtain ⟨fd,hb,hF⟩:=F w mg fa _ KX G.T.g hmg
 exact ZiO KX G.T.g G.T.b G.T.builtins G.T.nolimit hg hobj hints (Nat.le_trans hlen hn2) hr hF hb (fun H hO hS=>hsp w H a ns hlen hO hS) fun H e s'=>hCX w H s₁ e s'
theorem ZiP {l:PySem.W.OpenLaw} {n k:Nat} {q:Program} {loose:List Str} {XP:(Str->Option Value)->Heap->Prop} {YP:World->Heap->Prop} {d:DefRec} {K:Params->PySem.W.Frag} {CX:CXT} {sp:PySem.W.Frag->Sp} {x:Str}
  (hn:l.most=some n) (hn2:n<=sizeLine) (hdf:d.params.defaults=[]) (hr:Room k callerA)
  (hY:∀ (w:World) (h:Heap),YP w h->(K w.params).In h)
  (F:∀ (w:World) (mg:Str->Option Value) (fa:Addr) (h:Heap),(K w.params).In h->h.Ns mainGlobals mg->mg d.name=some (.ref fa) ->
   ∃ fd:FuncData,(∀ (s:Shared) (u:Value),BindsTo s fd ⟨[u],[]⟩ [(x,u)]) /\
    ∀ base:Heap,(K w.params).In base->base.Ns mainGlobals mg->FnOk l.prog w (K w.params) mg base CX k fa fd [x] (sp (K w.params)))
  (hsp:∀ (K:PySem.W.Frag) (H:Hp) (a:Addr) (ns:List Int),ns.length<=n->Only H->SqL K H a (ns.map V.int)->sp K [.ref a] H (fun v _=>v=.bl true) fun _ _ _=>False)
  (hCX:∀ (H:Hp) (s:Shared) (e:Value) (s':Shared),CX [] H s (fun _ _ _=>False) e s'->False) :
  PySem.W.WalkO q loose XP YP l.row.toRowW d [] (fun f vs=>PySem.call f vs) :=
 Zkf (K:=K) (CX:=fun _=>CX) (sp:=fun w=>sp (K w.params)) hn hn2 hdf hr hY F (fun w H a ns h1 h2 h3=>hsp (K w.params) H a ns h1 h2 h3) fun _ H s e s'=>hCX H s e s'
noncomputable def Zar (s:Stmt) (j:Nat):Stmt:=match s with
 | .ClassDef _ _ _ body _ _ _ _ _ _ _=>body.getD j (.Pass ⟨0,0,0,0⟩)
 | _=>.Pass ⟨0,0,0,0⟩
noncomputable def Za5 (s:Stmt):Arguments:=match s with
 | .FunctionDef _ a _ _ _ _ _ _ _ _=>a
 | _=>{ posonlyargs:=[],args:=[],vararg:=none,kwonlyargs:=[],kw_defaults:=[],kwarg:=none,defaults:=[] }
noncomputable def ZaM (s:Stmt):List Stmt:=match s with
 | .FunctionDef _ _ b _ _ _ _ _ _ _=>b
 | _=>[]
noncomputable def Zad (s:Stmt):Scope:=match s with
 | .FunctionDef _ _ _ _ _ _ sc _ _ _=>sc
 | _=>{ kind:=.function,names:=[],isGenerator:=false,isCoroutine:=false }
abbrev CX0:CXT:=fun _ _ _ _ _ _=>False
noncomputable abbrev E0:XK:=fun _ _ _=>False
theorem pass0 {X:Cx}:Zda CX0 X E0:=fun _ _ _ _ _ _ _ h=>h.elim
structure Fun (K:PySem.W.Frag) (x qual:Str) (st:Stmt) (f:Addr) (fd:FuncData):Prop where
 ex:∃ (oc:Value) (od:Option Addr) (kV doc pm:Value) (an:Option Addr) (cdv ct:Value) (osl:Array (Option Value)),
  fd=PySem.W.fnOf x qual (Za5 st) (ZaM st) (Zad st) .none kV doc pm an cdv ct/\K.lookup f=some ⟨oc,od,.func fd,osl⟩/\PySem.W.codeIn K cdv qual=true
 kp:PySem.W.keepIn K (.ref f)=true
section
variable {P:Program} {w:World} {K:PySem.W.Frag} {mg:Str->Option Value} {base:Heap}
theorem Fun.ok {x qual:Str} {st:Stmt} {f:Addr} {fd:FuncData} {N ps:List Str} {k:Nat} {sp:Sp} (F:Fun K x qual st f fd) (S:FnScope N ps (Zad st)) (len:∀ vs H Q E,sp vs H Q E->vs.length=ps.length)
  (hbody:∀ (cdv:Value) (A:Around) (outer:List Env) (s:Shared) (H:Hp) (vs:List V) (Q:VK) (E:XK),Room k (A.deeper (envOfC qual (Zad st) s.heap.objs.size f cdv))->sp vs H Q E ->
   ∃ t,PSs (cxOf CX0 P w K mg base N qual (Zad st) f cdv A outer s H E).nox (ZaM st) t/\t { nx:=fun _ H'=>Q .non H',rt:=Q } (start N vs) H):FnOk P w K mg base CX0 (k+1) f fd ps sp:=by
 obtain ⟨oc,od,kV,doc,pm,an,cdv,ct,osl,rfl,lk,hcd⟩:=F.ex
 refine fn_of lk hcd S len fun A outer s H vs Q E hr hsp=>?_
 obtain ⟨t,h,q⟩:=hbody cdv A outer s H vs Q E hr hsp
 exact ⟨t,h.nox,q⟩
theorem Fun.binds {x qual:Str} {st:Stmt} {f:Addr} {fd:FuncData} {ps:List Str} (F:Fun K x qual st f fd)
  (h:∀ (kV doc pm:Value) (an:Option Addr) (cdv ct:Value) (us:List Value),us.length=ps.length->bindArgs (PySem.W.fnOf x qual (Za5 st) (ZaM st) (Zad st) .none kV doc pm an cdv ct) ⟨us,[]⟩=pure (ps.zip us)):Binds K fd ps []:=by
 obtain ⟨oc,od,kV,doc,pm,an,cdv,ct,osl,rfl,lk,hcd⟩:=F.ex
 exact .all (h kV doc pm an cdv ct)
theorem ZjL {x qual:Str} {st:Stmt} {f:Addr} {oc:Value} {od an:Option Addr} {osl:Array (Option Value)} {kV doc pm cdv ct:Value} (l:K.lookup f=some ⟨oc,od,.func (PySem.W.fnOf x qual (Za5 st) (ZaM st) (Zad st) .none kV doc pm an cdv ct),osl⟩)
  (c:PySem.W.codeIn K cdv qual=true) (k:PySem.W.keepIn K (.ref f)=true):Fun K x qual st f (PySem.W.fnOf x qual (Za5 st) (ZaM st) (Zad st) .none kV doc pm an cdv ct):=⟨⟨oc,od,kV,doc,pm,an,cdv,ct,osl,rfl,l,c⟩,k⟩
end
theorem ZbT {A:Around} {k:Nat} (hr:Room k A):A.units+1<cLine:=Nat.lt_of_le_of_lt (Nat.add_le_add_left (by decide:1<=64) _) hr.units
section
variable {X:Cx}
theorem pv (i:Nat) {x:Str} {pos:Pos} (hN:X.N[i]?=some x:=by rfl) (hv:Vis X.env.scope x:=by first|exact Or.inl rfl|exact Or.inr (Or.inl rfl)|exact Or.inr (Or.inr rfl)) (hd:(x==("__debug__" : Str))=false:=by decide)
  (hcd:(x==("__classdict__" : Str))=false:=by decide):PE X (.Name x pos) (tVar i):=pe_var hN hv hd hcd
theorem Zhz:CallR X (.builtin "len") (fun xs H Q=>∃ a kvs,xs=[V.ref a]/\H a=some (.dK kvs)/\Q (.int kvs.length) H):=by
 intro pins s σ H xs us Q I r h
 obtain ⟨a,kvs,rfl,ha,q⟩:=h
 obtain ⟨u,rfl,ru⟩:=vals1 r
 cases ru
 exact d_len I (.inl ha) fun t s' I'=>⟨.int kvs.length,H,I',⟨t,rfl⟩,q⟩
end
theorem iteF {A B:Prop} (h:B):if false=true then A else B:=by
 rw [if_neg Bool.false_ne_true]
 exact h
theorem iteT {A B:Prop} (h:A):if true=true then A else B:=by
 rw [if_pos rfl]
 exact h
def Same (H H':Hp):Prop:=∀ b o,H b=some o->H' b=some o
theorem Same.refl (H:Hp):Same H H:=fun _ _ h=>h
theorem Same.trans {H H1 H2:Hp} (a:Same H H1) (b:Same H1 H2):Same H H2:=fun c o h=>b c o (a c o h)
theorem Same.free {H H':Hp} (e:Same H H') {l:Addr} (h:H' l=Option.none):H l=Option.none:=by
 cases q:H l with
 | none=>rfl
 | some o =>
  rw [e l o q] at h
  cases h
theorem Same.seq {K:PySem.W.Frag} {H H':Hp} {a:Addr} {xs:List V} (e:Same H H') (h:SqL K H a xs):SqL K H' a xs:=by
 rcases h with (h|⟨o,h⟩)|h
 .exact .inl (.inl (e _ _ h))
 .exact .inl (.inr ⟨o,e _ _ h⟩)
 .exact .inr h
section
variable {κ:Type} [DecidableEq κ]
theorem Zd6 {kvs:List (κ×V)} {k:κ} (h:valV kvs k=none):¬ k∈kvs.map (·.1):=by
 intro m
 obtain ⟨p,hp,e⟩:=List.mem_map.mp m
 have q:(kvs.any fun kv=>decide (kv.1=k))=true:=List.any_eq_true.mpr ⟨p,hp,decide_eq_true e⟩
 rw [Zbr,h] at q
 exact absurd q (by simp)
theorem Zkg {kvs:List (κ×V)} {k:κ} {v:V} (h:valV kvs k=some v):k∈kvs.map (·.1):=by
 have q:(kvs.any fun kv=>decide (kv.1=k))=true:=by
  rw [Zbr,h]
  all_goals rfl
 obtain ⟨p,hp,e⟩:=List.any_eq_true.mp q
 exact List.mem_map.mpr ⟨p,hp,of_decide_eq_true e⟩
theorem ZhA:∀ {l:List κ} {k:κ},l.Nodup->¬ k∈l->(l++[k]).Nodup
 | [],k,_,_=>by simp
 | a::r,k,h,hk=>by
  obtain ⟨h1,h2⟩:=List.nodup_cons.mp h
  show (a::(r++[k])).Nodup
  refine List.nodup_cons.mpr ⟨fun m=>?_,ZhA h2 fun m=>hk (List.mem_cons.mpr (Or.inr m))⟩
  rcases List.mem_append.mp m with q|q
  .exact h1 q
  .exact hk (List.mem_cons.mpr (Or.inl (List.mem_singleton.mp q).symm))
theorem Zkh {kvs:List (κ×V)} {k:κ} (v:V) (hn:(kvs.map (·.1)).Nodup) (h:valV kvs k=none):((putK kvs k v).map (·.1)).Nodup:=by
 rw [ZiK v h,List.map_append]
 exact ZhA hn (Zd6 h)
theorem ZeL {p:κ×V} {r:List (κ×V)} {k:κ} (e:p.1=k):dropK (p::r) k=dropK r k:=by
 unfold dropK
 rw [List.filter_cons,if_neg (by simp [e])]
theorem ZeM {p:κ×V} {r:List (κ×V)} {k:κ} (e:¬ p.1=k):dropK (p::r) k=p::dropK r k:=by
 unfold dropK
 rw [List.filter_cons,if_pos (by simp [e])]
theorem ZeN {kvs:List (κ×V)} {k:κ} {p:κ×V} (h:p∈dropK kvs k):p∈kvs:=(List.mem_filter.mp h).1
theorem Zd7:∀ {kvs:List (κ×V)} {k:κ},(kvs.map (·.1)).Nodup->((dropK kvs k).map (·.1)).Nodup
 | [],_,_=>List.nodup_nil
 | p::r,k,h=>by
  have h:(p.1::r.map (·.1)).Nodup:=h
  obtain ⟨h1,h2⟩:=List.nodup_cons.mp h
  by_cases e:p.1=k
  .rw [ZeL e]
   exact Zd7 h2
  .rw [ZeM e]
   show (p.1::(dropK r k).map (·.1)).Nodup
   refine List.nodup_cons.mpr ⟨fun m=>h1 ?_,Zd7 h2⟩
   obtain ⟨q,hq,eq⟩:=List.mem_map.mp m
   exact List.mem_map.mpr ⟨q,ZeN hq,eq⟩
end
noncomputable def hid (own:List Str) (x:Str):Str:=if own.contains x=true then "" else x
structure CompScope (sc:Scope) (N own:List Str) (scope:Scope):Prop where
 kind:scope.kind=.function
 nocell:∀ y∈scope.names,y.2≠.cell
 names:∀ y∈scope.names,y.2=.local->scope.names.lookup y.1=some .local
 free:∀ y∈scope.names,y.2=.free->sc.names.lookup y.1=some .cell\/sc.names.lookup y.1=some .free
 dis:∀ x∈N,scope.names.lookup x=some .local->own.contains x=true
 no:scope.names.lookup ("" : Str)=none
noncomputable def cxComp (X:Cx) (own:List Str) (scope:Scope) (cl:List (Str×Addr)) (C:Addr) (s:Shared) (H:Hp) (ex:List Addr):Cx :=
 { X with N:=own++X.N.map (hid own),s₀:=s,H₀:=H,env:=compEnvC scope cl C X.env,outer:=X.stack,stack:=X.stack,ex:=ex,fn:=fun _=>false,pn:=[],xe:=fun _ _=>False }
theorem ZgE {scope:Scope} {env:Env} (h:∀ y∈scope.names,y.2=.free->∃ c,env.cells.lookup y.1=some c) :
  ∃ cl,closureFor scope env=pure cl/\(∀ x c,cl.lookup x=some c->env.cells.lookup x=some c)/\∀ y∈scope.names,y.2=.free->∃ c,cl.lookup y.1=some c:=by
 have gen:∀ (names:List (Str×NameKind)) (acc:List (Str×Addr)),(∀ y∈names,y.2=.free->∃ c,env.cells.lookup y.1=some c)->(∀ x c,acc.lookup x=some c->env.cells.lookup x=some c) ->
   ∃ cl,(forIn names acc fun (x:Str×NameKind) (r:List (Str×Addr))=>if (x.2==NameKind.free)=true then (do let a <- cellOf env x.1;pure (ForInStep.yield ((x.1,a)::r))) else pure (ForInStep.yield r):Sem (List (Str×Addr)))=pure cl/\(∀ x c,cl.lookup x=some c->env.cells.lookup x=some c) /\
    (∀ y∈names,y.2=.free->∃ c,cl.lookup y.1=some c)/\∀ x c,acc.lookup x=some c->∃ c',cl.lookup x=some c':=by
  intro names
  induction names with
  | nil=>intro acc _ ha;exact ⟨acc,by simp [List.forIn_nil],ha,fun y hy=>by simp at hy,fun x c e=>⟨c,e⟩⟩
  | cons y r ih =>
   intro acc hn ha
   rw [List.forIn_cons]
   by_cases hf:y.2=.free
   .obtain ⟨c,hc⟩:=hn y List.mem_cons_self hf
    have e1:(y.2==NameKind.free)=true:=by rw [hf];rfl
    have ce:cellOf env y.1=pure c:=by unfold cellOf;rw [hc]
    obtain ⟨cl,h1,h2,h3,h4⟩:=ih ((y.1,c)::acc) (fun z hz=>hn z (List.mem_cons_of_mem _ hz)) (fun x c' e=>by
     rw [List.lookup_cons] at e
     cases q:x==y.1 with
     | true=>rw [q] at e;cases e;rw [eq_of_beq q];exact hc
     | false=>rw [q] at e;exact ha x c' e)
    refine ⟨cl,?_,h2,?_,?_⟩
    .rw [if_pos e1,ce]
     simpa using h1
    .intro z hz zf
     rcases List.mem_cons.mp hz with rfl|hz
     .exact h4 z.1 c (by rw [List.lookup_cons];simp)
     .exact h3 z hz zf
    .intro x c' e
     cases q:x==y.1 with
     | true=>exact h4 x c (by rw [List.lookup_cons,q])
     | false=>exact h4 x c' (by rw [List.lookup_cons,q];exact e)
   .have e1:¬ (y.2==NameKind.free)=true:=by intro z;exact hf (by simpa using z)
    obtain ⟨cl,h1,h2,h3,h4⟩:=ih acc (fun z hz=>hn z (List.mem_cons_of_mem _ hz)) ha
    refine ⟨cl,?_,h2,?_,h4⟩
    .rw [if_neg e1]
     simpa using h1
    .intro z hz zf
     rcases List.mem_cons.mp hz with rfl|hz
     .exact absurd zf hf
     .exact h3 z hz zf
 obtain ⟨cl,h1,h2,h3,_⟩:=gen scope.names [] h (fun x c e=>by simp at e)
 refine ⟨cl,?_,h2,h3⟩
 unfold closureFor
 simpa using h1
theorem ZbL {scope:Scope} {env:Env}:∀ {names:List (Str×NameKind)} {x:Str},(∀ y∈names,y.2≠.cell) ->
  (names.map fun (n,k)=>if (k==NameKind.free&&env.scope.kind==.function&&env.kindOf n==some .cell)=true then (n,NameKind.cell) else (n,k)).lookup x=some .local->names.lookup x=some .local
 | [],_,_,h=>by simp at h
 | (n,k)::r,x,hc,h=>by
  rw [List.map_cons,List.lookup_cons] at h
  rw [List.lookup_cons]
  by_cases q:(k==NameKind.free&&env.scope.kind==.function&&env.kindOf n==some .cell)=true
  .simp only [q,if_true] at h
   cases e:x==n with
   | true=>rw [e] at h;cases h
   | false=>rw [e] at h;exact ZbL (scope:=scope) (env:=env) (fun y hy=>hc y (List.mem_cons_of_mem _ hy)) h
  .simp only [q] at h
   cases e:x==n with
   | true=>simpa [e] using h
   | false =>
    have h':(r.map fun (n,k)=>if (k==NameKind.free&&env.scope.kind==.function&&env.kindOf n==some .cell)=true then (n,NameKind.cell) else (n,k)).lookup x=some .local:=by simpa [e] using h
    exact ZbL (scope:=scope) (env:=env) (fun y hy=>hc y (List.mem_cons_of_mem _ hy)) h'
theorem ZbM {scope:Scope} {env:Env}:∀ {names:List (Str×NameKind)} {x:Str},(∀ y∈names,y.2≠.cell) ->
  ((names.map fun (n,k)=>if (k==NameKind.free&&env.scope.kind==.function&&env.kindOf n==some .cell)=true then (n,NameKind.cell) else (n,k)).lookup x=some .cell \/
   (names.map fun (n,k)=>if (k==NameKind.free&&env.scope.kind==.function&&env.kindOf n==some .cell)=true then (n,NameKind.cell) else (n,k)).lookup x=some .free)->(x,NameKind.free)∈names
 | [],_,_,h=>by simp at h
 | (n,k)::r,x,hc,h=>by
  rw [List.map_cons,List.lookup_cons] at h
  by_cases q:(k==NameKind.free&&env.scope.kind==.function&&env.kindOf n==some .cell)=true
  .have kf:k=.free:=by
    simp only [Bool.and_eq_true,beq_iff_eq] at q
    exact q.1.1
   simp only [q,if_true] at h
   cases e:x==n with
   | true=>rw [eq_of_beq e,kf];exact List.mem_cons_self
   | false =>
    rw [e] at h
    exact List.mem_cons_of_mem _ (ZbM (scope:=scope) (env:=env) (fun y hy=>hc y (List.mem_cons_of_mem _ hy)) h)
  .simp only [q] at h
   cases e:x==n with
   | true =>
    have h':k=.cell\/k=.free:=by simpa [e] using h
    rcases h' with z|z
    .exact absurd z (hc (n,k) List.mem_cons_self)
    .rw [eq_of_beq e,z];exact List.mem_cons_self
   | false =>
    have h':((r.map fun (n,k)=>if (k==NameKind.free&&env.scope.kind==.function&&env.kindOf n==some .cell)=true then (n,NameKind.cell) else (n,k)).lookup x=some .cell \/
   (r.map fun (n,k)=>if (k==NameKind.free&&env.scope.kind==.function&&env.kindOf n==some .cell)=true then (n,NameKind.cell) else (n,k)).lookup x=some .free):=by simpa [e] using h
    exact List.mem_cons_of_mem _ (ZbM (scope:=scope) (env:=env) (fun y hy=>hc y (List.mem_cons_of_mem _ hy)) h')
theorem ZbW {env:Env}:∀ {names:List (Str×NameKind)} {x:Str},names.lookup x=none ->
  (names.map fun (n,k)=>if (k==NameKind.free&&env.scope.kind==.function&&env.kindOf n==some .cell)=true then (n,NameKind.cell) else (n,k)).lookup x=none
 | [],_,_=>rfl
 | (n,k)::r,x,h=>by
  rw [List.lookup_cons] at h
  rw [List.map_cons,List.lookup_cons]
  cases e:x==n with
  | true=>rw [e] at h;cases h
  | false =>
   rw [e] at h
   by_cases q:(k==NameKind.free&&env.scope.kind==.function&&env.kindOf n==some .cell)=true
   .simp only [q,if_true,e]
    exact ZbW h
   .simp only [q,e]
    simpa [e] using ZbW (env:=env) h
theorem Inv.block {X:Cx} {pins:List (Addr×Obj)} {σ:St} {H:Hp} {s:Shared} {own:List Str} {scope:Scope} {cl:List (Str×Addr)} {fp:List Addr} {h':Heap}
  (I:Inv X pins σ H s) (S:CompScope X.env.scope X.N own scope)
  (c1:∀ x c,cl.lookup x=some c->X.env.cells.lookup x=some c) (c2:∀ y∈scope.names,y.2=.free->∃ c,cl.lookup y.1=some c)
  (f:∀ b∈fp,FpOk X pins H b) (fo:∀ b∈fp,b<s.heap.objs.size)
  (ns:h'.Ns s.heap.objs.size (fun _=>none)) (k:∀ b o,s.heap.get? b=some o->h'.get? b=some o) {t':Nat} :
  Inv (cxComp X own scope cl s.heap.objs.size s H fp) [] (List.replicate own.length none++σ) H { s with heap:=h',toks:=t' }:=by
 have kd:∀ x,(compEnvC scope cl s.heap.objs.size X.env).kindOf x=some .cell\/(compEnvC scope cl s.heap.objs.size X.env).kindOf x=some .free->(x,NameKind.free)∈scope.names:=fun x h=>ZbM (scope:=scope) (env:=X.env) S.nocell h
 have okY:(cxComp X own scope cl s.heap.objs.size s H fp).Ok:=by
  refine ⟨I.ok.mod,S.kind,I.ok.glob,I.ok.blt,Nat.le_refl _,fun x y c hx hy=>I.ok.inj x y c (c1 x c hx) (c1 y c hy),fun x hx=>?_,fun x c hf=>(nomatch hf),I.ok.hd,I.ok.frames,.inl rfl,fun b hb=>⟨?_,fun x c hc=>?_⟩,I.bs,Nat.le_trans I.ok.bsz I.sz,fun b o e hb=>?_,fun b hb hfs=>?_,I.stack,I.stkFree⟩
  .exact c2 (x,.free) (kd x hx) rfl
  .exact Nat.ne_of_lt (fo b hb)
  .exact (f b hb).2.2.2.2.1 x c (c1 x c hc)
  .rcases (f b hb).2.2.2.1 with z|z
   .exact I.ok.noex b o e z
   .exact absurd (Nat.lt_of_lt_of_le (Heap.lt_size e) (Nat.le_trans I.ok.bsz z)) (Nat.lt_irrefl _)
  .obtain ⟨_,f1,f2,_⟩:=f b hb
   rcases List.mem_cons.mp (I.stkSub b hfs) with z|z
   .exact f1 z
   .exact f2 z
 refine ⟨okY,rfl,I.bare,Un.kept k,⟨_,ns,fun i x v e1 e2 e3=>?_⟩,fun x c hc=>?_,I.hok.fresh (Nat.le_refl _),fun x c hc=>I.freeC x c (c1 x c hc),fun p hp=>by simp [cxComp] at hp,I.hok.kept k,?_⟩
 .by_cases hi:i<own.length
  .have e2':(List.replicate own.length (none:Option V)++σ)[i]?=some (some v):=e2
   rw [List.getElem?_append_left (by simpa using hi),List.getElem?_replicate,if_pos hi] at e2'
   cases e2'
  .have hle:own.length<=i:=Nat.le_of_not_lt hi
   have e2':σ[i-own.length]?=some (some v):=by
    have e2':(List.replicate own.length (none:Option V)++σ)[i]?=some (some v):=e2
    rw [List.getElem?_append_right (by simpa using hle)] at e2'
    simpa using e2'
   have e1'':(X.N.map (hid own))[i-own.length]?=some x:=by
    have e1':(own++X.N.map (hid own))[i]?=some x:=e1
    rwa [List.getElem?_append_right hle] at e1'
   rw [List.getElem?_map] at e1''
   obtain ⟨y,e1',ey⟩:=Option.map_eq_some_iff.mp e1''
   have hy:own.contains y=false:=by
    cases hc:own.contains y with
    | false=>rfl
    | true =>
     unfold hid at ey
     rw [if_pos hc] at ey
     subst ey
     have e3':(scope.names.map fun (n,k)=>if (k==NameKind.free&&X.env.scope.kind==.function&&X.env.kindOf n==some .cell)=true then (n,NameKind.cell) else (n,k)).lookup ("" : Str)≠none:=by
      rcases e3 with z|z|z<;>(intro q;have z':(scope.names.map fun (n,k)=>if (k==NameKind.free&&X.env.scope.kind==.function&&X.env.kindOf n==some .cell)=true then (n,NameKind.cell) else (n,k)).lookup ("" : Str)=_:=z;rw [q] at z';cases z')
     exact absurd (ZbW S.no) e3'
   have exy:y=x:=by
    unfold hid at ey
    rw [if_neg (by rw [hy];exact Bool.false_ne_true)] at ey
    exact ey
   subst exy
   have hm:y∈X.N:=List.mem_of_getElem? e1'
   have h3:(compEnvC scope cl s.heap.objs.size X.env).kindOf y=some .cell\/(compEnvC scope cl s.heap.objs.size X.env).kindOf y=some .free:=by
    rcases e3 with z|z
    .have:=S.dis y hm (ZbL (scope:=scope) (env:=X.env) S.nocell z)
     rw [hy] at this
     cases this
    .exact z
   have hfree:=kd y h3
   obtain ⟨c,hc⟩:=c2 (y,.free) hfree rfl
   have hout:=S.free (y,.free) hfree rfl
   obtain ⟨m,hn,hl⟩:=I.loc
   obtain ⟨u,r,l⟩:=hl _ y v e1' e2' (hout.elim (fun z=>.inr (.inl z)) (fun z=>.inr (.inr z)))
   refine ⟨u,r,.inr ⟨h3,c,hc,?_⟩⟩
   rcases l with ⟨kl,_⟩|⟨_,c',hc',hcell⟩
   .rcases hout with z|z
    .rw [show X.env.kindOf y=X.env.scope.names.lookup y from rfl,z] at kl;cases kl
    .rw [show X.env.kindOf y=X.env.scope.names.lookup y from rfl,z] at kl;cases kl
   .rw [c1 y c hc] at hc'
    cases hc'
    obtain ⟨o,ho,hd⟩:=hcell
    exact ⟨o,k c o ho,hd⟩
 .obtain ⟨v,o,ho,hd⟩:=I.cell x c (c1 x c hc)
  exact ⟨v,o,k c o ho,hd⟩
 .show (List.replicate own.length (none:Option V)++σ).length=(own++X.N.map (hid own)).length
  rw [List.length_append,List.length_append,List.length_replicate,List.length_map,I.len]
def PIf (X:Cx) (ifs:List Expr) (tc:TT):Prop :=
 ∀ (pins:List (Addr×Obj)) (s:Shared) (σ:St) (H:Hp) (Q:Bool->Hp->Prop),Inv X pins σ H s->tc σ H Q ->
  wpAny (model X.prog X.w) X.A (forIn ifs true fun c r=>if r=true then do let ok <- isTrue c X.env (eval c X.env);pure (ForInStep.yield ok) else pure (ForInStep.yield r)) (TP X pins σ Q) X.xe s
def tNoIf:TT:=fun _ H Q=>Q true H
theorem Zdf {X:Cx}:PIf X [] tNoIf:=by
 intro pins s σ H Q I h
 rw [List.forIn_nil]
 exact wpAny_pure ⟨H,I,h⟩
theorem Zfn {X:Cx} {c:Expr} {tc:TT} (hc:PT X c tc):PIf X [c] tc:=by
 intro pins s σ H Q I h
 rw [List.forIn_cons]
 simp only [if_true]
 refine wpAny_bind (wpAny_bind (thn (hc pins s σ H Q I h) fun b s1 q=>wpAny_pure ?_))
 simp only [List.forIn_nil]
 exact wpAny_pure q
def tLoopC (k:Nat) (g:TG) (tc:TT) (te:TE) (J:It) (p:Addr) (R:Hp->Prop) (σ:St) (H:Hp):Prop :=
 ∃ W:Nat->Nat->St->Hp->Prop,(∃ m,W 0 m (List.replicate k none++σ) (upd H p (.lst [])))/\∀ i m σ' H',W i m σ' H' ->
  (J.stop i H'/\R H')\/(J.go i H'/\∃ N:St->Hp->Prop,(∀ σ2 H2,N σ2 H2->∃ m',m'<m/\W (i+1) m' σ2 H2)/\∀ x H1,J.yld i H' x H1->g x σ' H1 fun σ2 H2=>tc σ2 H2 fun b H3 =>
   if b=true then te σ2 H3 fun v H4=>∃ ys,H4 p=some (.lst ys)/\ys.length<sizeLine/\N σ2 (upd H4 p (.lst (ys++[v]))) else N σ2 H3)
def tComp (k:Nat) (wi:TI) (g:TG) (tc:TT) (te:TE):TE:=fun σ H Q=>wi σ H fun J H1=>∀ p,H1 p=none->tLoopC k g tc te J p (fun H'=>Q (.ref p) H') σ H1
theorem ZhB {X:Cx} {tg elt iter:Expr} {ifs:List Expr} {scope:Scope} {pos:Pos} {own:List Str} {wi:TI} {g:TG} {tc:TT} {te:TE} {pins:List (Addr×Obj)} {σ:St} {H:Hp} {s:Shared} {use:Option (Value->Sem Unit)} {Q:Value->Shared->Prop} {R:Addr->Hp->Prop}
  (hc:X.calm=true) (S:CompScope X.env.scope X.N own scope) (hi:PI X tg iter wi)
  (hg:∀ cl C s₀ H₀ ex,PG (cxComp X own scope cl C s₀ H₀ ex) tg g) (ht:∀ cl C s₀ H₀ ex,PIf (cxComp X own scope cl C s₀ H₀ ex) ifs tc) (he:∀ cl C s₀ H₀ ex,PE (cxComp X own scope cl C s₀ H₀ ex) elt te)
  (hs:∀ x,foldedSetIterable iter X.env x=pure x)
  (I:Inv X pins σ H s) (h:wi σ H fun J H1=>∀ p,H1 p=none->tLoopC own.length g tc te J p (R p) σ H1)
  (fin:∀ (p:Addr) (H':Hp) (s':Shared) (C:Addr) (m:Str->Option Value),Inv X pins σ H' s'->FpOk X pins H' C->s'.heap.Ns C m->R p H'->compPost (model X.prog X.w) X.A X.xe use Q (.ref p) C (.ok .next) s') :
  wpAny (model X.prog X.w) X.A (comprehension (.ListComp elt [⟨tg,iter,ifs,0⟩] scope pos) scope X.env (firstIterPos [⟨tg,iter,ifs,0⟩] pos) (newList []) false (eval iter X.env) use) Q X.xe s:=by
 obtain ⟨cl,hcl,c1,c2⟩:=ZgE (scope:=scope) (env:=X.env) fun y hy hf=>I.ok.has y.1 (S.free y hy hf)
 refine wpAny_comprehension_free (use:=use) rfl hs hcl S.kind S.names (thn (hi pins s σ H _ I h) fun xv s1 h1=>thn h1 fun itv s2 h2=>?_)
 obtain ⟨it,fp,tn,J,H2,e,I2,T,st2,f2,q2⟩:=h2
 subst e
 refine wpAny_newObj_type ?_
 have hp:H2 s2.heap.objs.size=none:=I2.hok.fresh (Nat.le_refl _)
 obtain ⟨W,⟨m0,w0⟩,turn⟩:=q2 _ hp
 generalize hP:s2.heap.objs.size=P at hp W w0 turn |-
 have kP:∀ b u,s2.heap.get? b=some u->(s2.heap.push { cls:=.type "list", dict:=none,data:=.seq ([]:List Value).toArray }).get? b=some u:=fun b u e=>Heap.get?_push_of_some _ e
 have I3:Inv X pins σ (upd H2 P (.lst [])) { s2 with heap:=s2.heap.push { cls:=.type "list", dict:=none,data:=.seq ([]:List Value).toArray },toks:=s2.toks } :=
  I2.laid (a:=P) (o:=.lst []) (t':=s2.toks) kP (by rw [hP];exact Nat.le_refl _) ⟨Nat.zero_le _,[],0,.nil,by rw [<- hP];exact Heap.get?_push_size _ rfl⟩
 have fP:∀ b∈fp,b≠P:=fun b hb z=>by
  obtain ⟨o,ho,_⟩:=T.obj _ _ st2 b hb
  have q:=Heap.lt_size ho
  rw [hP,z] at q
  exact Nat.lt_irrefl _ q
 have f3:∀ b∈fp,FpOk X pins (upd H2 P (.lst [])) b:=fun b hb=>⟨by rw [Zaf (fP b hb)];exact (f2 b hb).1,(f2 b hb).2⟩
 have st3:tn 0 (s2.heap.push { cls:=.type "list", dict:=none,data:=.seq ([]:List Value).toArray }):=T.keep _ _ _ st2 fun b _ o e=>kP b o e
 generalize hS3:({ s2 with heap:=s2.heap.push { cls:=.type "list", dict:=none,data:=.seq ([]:List Value).toArray },toks:=s2.toks }:Shared)=s3 at I3
 have st3':tn 0 s3.heap:=by rw [<- hS3];exact st3
 have fo:∀ b∈fp,b<s3.heap.objs.size:=fun b hb=>by
  obtain ⟨o,ho,_⟩:=T.obj _ _ st3' b hb
  exact Heap.lt_size ho
 refine wpAny_newFunctionEnv S.nocell (by intro y hy;simp at hy) (fun h4 hns hsb=>?_) S.kind
 try dsimp only at hns hsb |-
 have k4:∀ b o,s3.heap.get? b=some o->h4.get? b=some o:=fun b o e=>hsb.extBut b o (Nat.ne_of_lt (Heap.lt_size e)) (Heap.get?_push_of_some _ e)
 have I4:=Inv.block (own:=own) (h':=h4) (t':=s3.toks+([]:List (Str×Value)).length) I3 S c1 c2 f3 fo (by simpa using hns) k4
 have fpY:∀ {H':Hp},(∀ b∈fp,H' b=none)->∀ b∈fp,FpOk (cxComp X own scope cl s3.heap.objs.size s3 (upd H2 P (.lst [])) fp) [] H' b:=fun hn b hb=>by
  refine ⟨hn b hb,Nat.ne_of_lt (fo b hb),?_,.inl hb,fun x c hx=>(f3 b hb).2.2.2.2.1 x c (c1 x c hx),fun p hp=>by simp [cxComp] at hp⟩
  intro hfs
  rcases List.mem_cons.mp (I3.stkSub b hfs) with z|z
  .exact (f3 b hb).2.1 z
  .exact (f3 b hb).2.2.1 z
 have loop:codeAny (model X.prog X.w) X.A (.compLoop (.ListComp elt [⟨tg,iter,ifs,0⟩] scope pos) 0 (.ref it) (.ref P) (compEnvC scope cl s3.heap.objs.size X.env)) (compPost (model X.prog X.w) X.A X.xe use Q (.ref P) s3.heap.objs.size) { s3 with heap:=h4,toks:=s3.toks+([]:List (Str×Value)).length }:=by
  refine codeAny_loop rfl (fun n s'=>∃ i σ' H',Inv (cxComp X own scope cl s3.heap.objs.size s3 (upd H2 P (.lst [])) fp) [] σ' H' s'/\tn i s'.heap/\(∀ b∈fp,H' b=none)/\W i n σ' H') ?_ m0 ⟨0,_,_,I4,T.keep _ _ _ st3' fun b _ o e=>k4 b o e,fun b hb=>(f3 b hb).1,w0⟩
  rintro n s5 ⟨i,σ5,H5,I5,st5,fr5,w5⟩
  show wpAny _ _ ((compTurn (.ListComp elt [⟨tg,iter,ifs,0⟩] scope pos) 0 (.ref it) (.ref P) (compEnvC scope cl s3.heap.objs.size X.env)).onRaise (fun x=>do noteFrame x (compEnvC scope cl s3.heap.objs.size X.env);theTreesLotGoes x)) _ _ s5
  refine wpAny_noted ?_
  rw [compTurn_list]
  have nE:∀ {α:Type} {t:Sem α} {QQ:α->Shared->Prop} {E':Value->Shared->Prop} {ss:Shared},wpAny (model X.prog X.w) X.A t QQ (fun _ _=>False) ss->wpAny (model X.prog X.w) X.A t QQ E' ss:=fun h=>wpAny_mono h (fun _ _ q=>q) fun _ _ z=>z.elim
  refine wpAny_bind (wpAny_standAt (wpAny_bind ?_))
  rcases turn i n σ5 H5 w5 with ⟨stop,qn⟩|⟨go,N,hN,step⟩
  .refine thn (T.done (cxComp X own scope cl s3.heap.objs.size s3 (upd H2 P (.lst [])) fp) rfl rfl rfl hc i [] s5 σ5 H5 _ I5 (fpY fr5) st5 stop) fun r s6 ⟨hr,I6⟩=>?_
   subst hr
   refine wpAny_pure ?_
   have back:∀ h',Heap.SameBut s3.heap.objs.size s6.heap h'->Inv X pins σ H5 { s6 with heap:=h' }:=fun h' sb=>by
    have nC:∀ b o,s3.heap.get? b=some o->b≠s3.heap.objs.size:=fun b o e=>Nat.ne_of_lt (Heap.lt_size e)
    have nH:∀ b u,H5 b=some u->b≠s3.heap.objs.size:=fun b u e z=>by
     have:H5 s3.heap.objs.size=none:=I6.free
     rw [z,this] at e;cases e
    refine I3.call' (s':={ s6 with heap:=h' }) (ch:=fp) I6.os ⟨fun b o e n hb hx=>?_,fun b o e n hb hx=>?_,I6.base.free,fun b o e hx=>?_,I6.base.tups,I6.base.frzs,I6.base.tbls⟩ ?_ I6.bare fun b hb=>?_
    .exact (sb.2 b (nC b o e)).trans (I6.base.keep b o e n hb hx)
    .obtain ⟨sl,z⟩:=I6.base.slot b o e n hb hx
     exact ⟨sl,(sb.2 b (nC b o e)).trans z⟩
    .obtain ⟨o',z⟩:=I6.base.there b o e hx
     exact ⟨o',(sb.2 b (nC b o e)).trans z⟩
    .intro b u e
     refine (I6.hok b u e).stay (fun c v hc q=>(sb.2 c ?_).trans q) (fun _ q=>q) fun _ _ q=>q
     rcases hc with z|z
     .rw [z];exact nH b u e
     .exact nH c _ z
    .obtain ⟨_,g1,g2,g3,g4,g5⟩:=f3 b hb
     exact ⟨g3,g1,g4,g5⟩
   obtain ⟨m,hn,_⟩:=I6.loc
   exact fin P H5 s6 s3.heap.objs.size m (back s6.heap (.refl ..)) (I3.fpOk (Nat.le_refl _) I6.free) hn qn
  .refine thn (T.item (cxComp X own scope cl s3.heap.objs.size s3 (upd H2 P (.lst [])) fp) rfl rfl rfl hc i [] s5 σ5 H5 _ I5 (fpY fr5) st5 go) fun r s6 ⟨u,hr,h6⟩=>?_
   subst hr
   refine wpAny_bind (thn h6 fun _ s7 ⟨x,H7,I7,r7,y7,st7,fr7⟩=>?_)
   have I7':=I7.pinned (fpY fr7) (T.obj _ _ st7)
   refine wpAny_bind (nE (thn (hg cl s3.heap.objs.size s3 (upd H2 P (.lst [])) fp _ s7 σ5 H7 x u _ I7' r7 (step x H7 y7)) fun _ s8 ⟨σ8,H8,I8,q8⟩=>?_))
   have again:∀ {s9:Shared} {H9:Hp},Inv (cxComp X own scope cl s3.heap.objs.size s3 (upd H2 P (.lst [])) fp) ([]++pinsAt fp s7.heap) σ8 H9 s9->N σ8 H9->∃ m,m<n/\∃ i σ' H',Inv (cxComp X own scope cl s3.heap.objs.size s3 (upd H2 P (.lst [])) fp) [] σ' H' s9/\tn i s9.heap/\(∀ b∈fp,H' b=none)/\W i m σ' H':=fun {s9 H9} I9 n9=>by
    obtain ⟨m',hm,w9⟩:=hN σ8 H9 n9
    refine ⟨m',hm,i+1,σ8,H9,I9.unpinned,T.keep _ _ _ st7 fun b hb o e=>(I9.pin (b,o) (List.mem_append_right _ (List.mem_append_right _ (Zb7 hb e)))).1,fun b hb=>?_,w9⟩
    obtain ⟨o,e,d⟩:=T.obj _ _ st7 b hb
    exact (I9.pin (b,o) (List.mem_append_right _ (List.mem_append_right _ (Zb7 hb e)))).2.1
   refine wpAny_bind (nE (thn (ht cl s3.heap.objs.size s3 (upd H2 P (.lst [])) fp _ s8 σ8 H8 _ I8 q8) fun ok s9 ⟨H9,I9,q9⟩=>?_))
   cases ok with
   | false =>
    rw [if_neg (by decide)] at q9
    exact wpAny_pure ⟨rfl,again I9 q9⟩
   | true =>
    rw [if_pos rfl] at q9
    refine wpAny_bind (wpAny_bind (nE (thn (he cl s3.heap.objs.size s3 (upd H2 P (.lst [])) fp _ s9 σ8 H9 _ I9 q9) fun y s10 ⟨v,H10,I10,r10,ys,e10,l10,q10⟩=>?_)))
    refine wpAny_bind (nE (thn (Zbi (X:=cxComp X own scope cl s3.heap.objs.size s3 (upd H2 P (.lst [])) fp) _ s10 σ8 H10 (.ref P) [v] (.ref P) [y] (fun _ H'=>N σ8 H') I10 rfl (.cons r10 .nil) ⟨P,ys,v,rfl,rfl,e10,l10,q10⟩) fun _ s11 ⟨_,H11,I11,_,q11⟩=>?_))
    exact wpAny_pure (wpAny_pure ⟨rfl,again I11 q11⟩)
 have lself:=T.self X.A 0 ({ s3 with heap:=h4,toks:=s3.toks+([]:List (Str×Value)).length }:Shared) (fun it' s'=>codeAny (model X.prog X.w) X.A (.compLoop (.ListComp elt [⟨tg,iter,ifs,0⟩] scope pos) 0 it' (.ref P) (compEnvC scope cl s3.heap.objs.size X.env)) (compPost (model X.prog X.w) X.A X.xe use Q (.ref P) s3.heap.objs.size) s')
  (notedBy (model X.prog X.w) X.A (compEnvC scope cl s3.heap.objs.size X.env) fun x s'=>compPost (model X.prog X.w) X.A X.xe use Q (.ref P) s3.heap.objs.size (.error x) s') (T.keep _ _ _ st3' fun b _ o e=>k4 b o e) loop
 exact codeAny_compStart_list loop lself
theorem ZbX {X:Cx} {tg elt iter:Expr} {ifs:List Expr} {scope:Scope} {pos:Pos} (own:List Str) {wi:TI} {g:TG} {tc:TT} {te:TE}
  (hc:X.calm=true) (S:CompScope X.env.scope X.N own scope) (hi:PI X tg iter wi)
  (hg:∀ cl C s₀ H₀ ex,PG (cxComp X own scope cl C s₀ H₀ ex) tg g) (ht:∀ cl C s₀ H₀ ex,PIf (cxComp X own scope cl C s₀ H₀ ex) ifs tc) (he:∀ cl C s₀ H₀ ex,PE (cxComp X own scope cl C s₀ H₀ ex) elt te)
  (hs:∀ x,foldedSetIterable iter X.env x=pure x:=by intro _;rfl) :
  PE X (.ListComp elt [⟨tg,iter,ifs,0⟩] scope pos) (tComp own.length wi g tc te):=by
 intro pins s σ H Q I h
 rw [eval_ListComp]
 refine ZhB (use:=none) (R:=fun p H'=>Q (.ref p) H') hc S hi hg ht he hs I h fun p H' s' C m I' f hn q=>?_
 obtain ⟨f0,f1,f2,f3,f4,f5⟩:=f
 exact ⟨m,hn,fun h' sb=>⟨.ref p,H',I'.turned (t':=s'.toks) (fun b o hb e=>(sb.2 b hb).trans e) f0 f1 f3 f4 f5,rfl,q⟩⟩
def ZaS (K:PySem.W.Frag) (mg:Str->Option Value) (x:Str) (st:Stmt):Prop:=∃ f fd,Fun K x x st f fd/\mg x=some (.ref f)
theorem ZiQ {K:PySem.W.Frag} {h:Heap} {mg:Str->Option Value} {x:Str} {st:Stmt} {f:Addr} {oc:Value} {od an:Option Addr} {osl:Array (Option Value)} {kV doc pm cdv ct:Value} (X:K.In h) (G:h.Ns mainGlobals mg)
  (a:PySem.W.nsIn K mainGlobals x=some (some (.ref f))) (l:K.lookup f=some ⟨oc,od,.func (PySem.W.fnOf x x (Za5 st) (ZaM st) (Zad st) .none kV doc pm an cdv ct),osl⟩)
  (c:PySem.W.codeIn K cdv x=true) (k:PySem.W.keepIn K (.ref f)=true):ZaS K mg x st :=
 ⟨f,_,ZjL l c k,PySem.W.mg_of X G a⟩
def CalF (P:Program) (w:World) (K:PySem.W.Frag) (mg:Str->Option Value) (base:Heap) (k:Nat) (f:Addr) (sp:Sp):Prop :=
 ∃ fd ps,FnOk P w K mg base CX0 k f fd ps sp/\PySem.W.keepIn K (.ref f)=true/\Binds K fd ps []
def Cal (P:Program) (w:World) (K:PySem.W.Frag) (mg:Str->Option Value) (base:Heap) (k:Nat) (x:Str) (sp:Sp):Prop :=
 ∃ f,mg x=some (.ref f)/\CalF P w K mg base k f sp
section
variable {P:Program} {w:World} {K:PySem.W.Frag} {mg:Str->Option Value} {base:Heap}
theorem CalF.mono {j k:Nat} {f:Addr} {sp:Sp} (c:CalF P w K mg base j f sp) (h:j<=k):CalF P w K mg base k f sp :=
 let ⟨fd,ps,F,kp,b⟩:=c
 ⟨fd,ps,F.mono h,kp,b⟩
theorem Cal.mono {j k:Nat} {x:Str} {sp:Sp} (c:Cal P w K mg base j x sp) (h:j<=k):Cal P w K mg base k x sp :=
 let ⟨f,m,c⟩:=c
 ⟨f,m,c.mono h⟩
theorem CalF.imp {k:Nat} {f:Addr} {sp sp':Sp} (c:CalF P w K mg base k f sp) (h:∀ vs H Q E,sp' vs H Q E->sp vs H Q E):CalF P w K mg base k f sp' :=
 let ⟨fd,ps,F,kp,b⟩:=c
 ⟨fd,ps,F.imp h,kp,b⟩
theorem Cal.imp {k:Nat} {x:Str} {sp sp':Sp} (c:Cal P w K mg base k x sp) (h:∀ vs H Q E,sp' vs H Q E->sp vs H Q E):Cal P w K mg base k x sp' :=
 let ⟨f,m,c⟩:=c
 ⟨f,m,c.imp h⟩
theorem Zbj {x:Str} {st:Stmt} {N ps:List Str} {k:Nat} {sp:Sp} (D:ZaS K mg x st) (S:FnScope N ps (Zad st)) (len:∀ vs H Q E,sp vs H Q E->vs.length=ps.length)
  (hb:∀ (kV doc pm:Value) (an:Option Addr) (cdv ct:Value) (us:List Value),us.length=ps.length->bindArgs (PySem.W.fnOf x x (Za5 st) (ZaM st) (Zad st) .none kV doc pm an cdv ct) ⟨us,[]⟩=pure (ps.zip us))
  (hbody:∀ (f:Addr) (cdv:Value) (A:Around) (outer:List Env) (s:Shared) (H:Hp) (vs:List V) (Q:VK) (E:XK),Room k (A.deeper (envOfC x (Zad st) s.heap.objs.size f cdv))->sp vs H Q E ->
   ∃ t,PSs (cxOf CX0 P w K mg base N x (Zad st) f cdv A outer s H E).nox (ZaM st) t/\t { nx:=fun _ H'=>Q .non H',rt:=Q } (start N vs) H):Cal P w K mg base (k+1) x sp:=by
 obtain ⟨f,fd,F,m⟩:=D
 exact ⟨f,m,fd,ps,F.ok S len (hbody f),F.kp,F.binds hb⟩
end
section
variable {X:Cx} {k:Nat} {x:Str} {sp:Sp} {p pos:Pos} {e func:Expr} {es:List Expr} {t:TA} {tf:TE}
theorem ZaC (c:Cal X.prog X.w X.K X.mg X.base k x sp) (hr:Room k X.A) (hg:Gl X x) (ha:PA X (e::es) t) (hdb:(x==("__debug__" : Str))=false:=by decide)
  (he:starEach (e::es) X.env=(false,eval e X.env)::starEach es X.env:=by rfl) (hpl:(backTo pos (starEach es X.env)).any (·.1)=false:=by rfl) :
  PE X (.Call (.Name x p) (e::es) [] pos) (tCall sp [] E0 t):=by
 obtain ⟨f,m,fd,ps,F,kp,b⟩:=c
 exact Zj8 F hr hg m kp b .nil pass0 ha hdb he hpl
end
def CDivW (i j:Int):Prop:=0<j/\j<2 ^ 200
section
variable {X:Cx}
theorem ZgF {n:Nat} (h:n<2 ^ 200):n.log2<9000:=by
 by_cases z:n=0
 .subst z;decide
 .have:=(Nat.log2_lt z).mpr h
  omega
theorem Zba:OpR X (binaryOp .FloorDiv) (rI CDivW fun i j=>.int (i / j)):=opI fun i j _ _ _ _ _ hc q=>by
 refine floordiv_int (by have:=hc.1;omega) ?_ (.inl (PyProof.noPylong_of_log2 (ZgF ?_)))
 .rw [Int.fdiv_eq_ediv_of_nonneg _ (Int.le_of_lt hc.1)]
  exact q
 .have h1:=hc.1
  have h2:=hc.2
  have e:((j.natAbs:Nat):Int)=j:=Int.natAbs_of_nonneg (Int.le_of_lt h1)
  have:((j.natAbs:Nat):Int)<((2 ^ 200:Nat):Int):=by rw [e];exact h2
  exact Int.ofNat_lt.mp this
end
noncomputable def isiV:V->String->Option Bool
 | .int _, "int" => some true
 | .int _, "bool" => some false
 | .int _, "str" => some false
 | .int _, "tuple" => some false
 | .int _, "list" => some false
 | .bl _, "bool" => some true
 | .bl _, "int" => some true
 | .bl _, "str" => some false
 | .str _, "str" => some true
 | .str _, "int" => some false
 | .str _, "bool" => some false
 | .str _, "tuple" => some false
 | .str _, "list" => some false
 | _,_=>none
section
variable {X:Cx}
theorem ZiR:CallR X (.builtin "isinstance") (fun xs H Q=>∃ x T b,xs=[x,.ty T]/\isiV x T=some b/\Q (.bl b) H):=by
 intro pins s σ H xs us Q I r h
 obtain ⟨x,T,b,rfl,e,q⟩:=h
 obtain ⟨u,v,rfl,ru,rv⟩:=vals2 r
 obtain rfl:v=Value.type T:=rv
 unfold isiV at e
 split at e<;>first
  | (cases e;obtain ⟨t,rfl⟩:=ru;first
    | exact IsiPair.int_int ⟨.bl true,H,I,rfl,q⟩
    | exact IsiPair.int_bool ⟨.bl false,H,I.tok _,rfl,q⟩
    | exact IsiPair.int_str ⟨.bl false,H,I.tok _,rfl,q⟩
    | exact IsiPair.int_tuple ⟨.bl false,H,I.tok _,rfl,q⟩
    | exact IsiPair.int_list ⟨.bl false,H,I.tok _,rfl,q⟩
    | exact IsiPair.str_str ⟨.bl true,H,I,rfl,q⟩
    | exact IsiPair.str_int ⟨.bl false,H,I.tok _,rfl,q⟩
    | exact IsiPair.str_bool ⟨.bl false,H,I.tok _,rfl,q⟩
    | exact IsiPair.str_tuple ⟨.bl false,H,I.tok _,rfl,q⟩
    | exact IsiPair.str_list ⟨.bl false,H,I.tok _,rfl,q⟩)
  | (cases e;cases ru;first
    | exact IsiPair.bool_bool ⟨.bl true,H,I,rfl,q⟩
    | exact IsiPair.bool_int ⟨.bl true,H,I,rfl,q⟩
    | exact IsiPair.bool_str ⟨.bl false,H,I.tok _,rfl,q⟩)
  | cases e
end
section
variable {X:Cx} {o i:Expr} {td ty:TE} {pos:Pos}
end
section
variable {σ:St} {H:Hp} {Q:VK} {D:Ends} {i:Nat} {v:V}
theorem rd_C (q:Q v H):tC v σ H Q:=q
theorem rd_V (e:σ[i]?=some (some v)) (q:Q v H):tVar i σ H Q:=⟨v,e,q⟩
theorem rd_op {r:R2} {ta tb:TE} (q:ta σ H fun x H1=>tb σ H1 fun y H2=>r x y H2 Q):tOp r ta tb σ H Q:=q
theorem rd_un {r:V->Hp->VK->Prop} {ta:TE} (q:ta σ H fun x H1=>r x H1 Q):tUn r ta σ H Q:=q
theorem rd_I {C:Int->Int->Prop} {g:Int->Int->V} {a b:Int} (c:C a b) (q:Q (g a b) H):rI C g (.int a) (.int b) H Q:=⟨a,b,rfl,rfl,c,q⟩
theorem rd_I0 {g:Int->Int->V} {a b:Int} (q:Q (g a b) H):rI0 g (.int a) (.int b) H Q:=⟨a,b,rfl,rfl,q⟩
theorem rd_U {g:Int->V} {a:Int} (q:Q (g a) H):rU g (.int a) H Q:=⟨a,rfl,q⟩
theorem rd_eqI {a b:Int} (q:Q (.bl (decide (a=b))) H):rEq (.int a) (.int b) H Q:=by
 refine ⟨rfl,?_⟩
 have e:decide (V.int a=V.int b)=decide (a=b):=decide_eq_decide.mpr ⟨fun h=>V.int.inj h,fun h=>by rw [h]⟩
 rw [e];exact q
theorem rd_neI {a b:Int} (q:Q (.bl (!decide (a=b))) H):rNe (.int a) (.int b) H Q:=by
 refine ⟨rfl,?_⟩
 have e:decide (V.int a=V.int b)=decide (a=b):=decide_eq_decide.mpr ⟨fun h=>V.int.inj h,fun h=>by rw [h]⟩
 rw [e];exact q
theorem rd_eqS {a b:Str} (q:Q (.bl (decide (a=b))) H):rEq (.str a) (.str b) H Q:=by
 refine ⟨rfl,?_⟩
 have e:decide (V.str a=V.str b)=decide (a=b):=decide_eq_decide.mpr ⟨fun h=>V.str.inj h,fun h=>by rw [h]⟩
 rw [e];exact q
theorem rd_neS {a b:Str} (q:Q (.bl (!decide (a=b))) H):rNe (.str a) (.str b) H Q:=by
 refine ⟨rfl,?_⟩
 have e:decide (V.str a=V.str b)=decide (a=b):=decide_eq_decide.mpr ⟨fun h=>V.str.inj h,fun h=>by rw [h]⟩
 rw [e];exact q
theorem rd_seq {t u:TS} (q:t { D with nx:=u D } σ H):tSeq t u D σ H:=q
theorem rd_asg {te:TE} {g:TG} (q:te σ H fun x H1=>g x σ H1 D.nx):tAsg te g D σ H:=q
theorem Zd8 {R:St->Hp->Prop} (q:R (σ.set i (some v)) H):gName i v σ H R:=q
theorem rd_ret {te:TE} (q:te σ H D.rt):tRet te D σ H:=q
theorem Zki (q:D.nx σ H):tNext D σ H:=q
theorem Zkj {te:TE} (q:te σ H fun _ H1=>D.nx σ H1):tDrop te D σ H:=q
theorem rd_ifS {c:TT} {t u:TS} (q:c σ H fun b H1=>if b=true then t D σ H1 else u D σ H1):tIfS c t u D σ H:=q
theorem Zkk {te:TE} {R:Bool->Hp->Prop} (q:te σ H fun x H'=>∃ k,x=.bl k/\R k H'):tTest te σ H R:=q
theorem rd_B {te:TE} {R:Bool->Hp->Prop} (q:te σ H fun x H'=>∃ k,x=.bl k/\R k H'):tB te σ H R:=q
theorem rd_bl {b:Bool} {R:Bool->Prop} (q:R b):∃ k,V.bl b=.bl k/\R k:=⟨b,rfl,q⟩
theorem rd_and {t u:TT} {R:Bool->Hp->Prop} (q:t σ H fun c H1=>if c=true then u σ H1 R else R false H1):tAnd t u σ H R:=q
theorem rd_or {t u:TT} {R:Bool->Hp->Prop} (q:t σ H fun c H1=>if c=true then R true H1 else u σ H1 R):tOr t u σ H R:=q
theorem rd_not {t:TT} {R:Bool->Hp->Prop} (q:t σ H fun c H1=>R (!c) H1):tNot t σ H R:=q
theorem Zkl {ta tb:TE} (q:ta σ H fun x H1=>∃ c,x=.bl c/\if c=true then tb σ H1 Q else Q (.bl false) H1):tAndV ta tb σ H Q:=q
theorem Zkm {ta:TE} (q:ta σ H fun x H1=>∃ c,x=.bl c/\Q (.bl (!c)) H1):tNotV ta σ H Q:=q
theorem Zkn {ta:TE} {tr:TA} {R:List V->Hp->Prop} (q:ta σ H fun x H1=>tr σ H1 fun xs H2=>R (x::xs) H2):tCons ta tr σ H R:=q
theorem ZdT {R:List V->Hp->Prop} (q:R [] H):tNil σ H R:=q
theorem Zko {sp:Sp} {t:TA} (q:t σ H fun vs H1=>sp vs H1 Q E0):tCall sp [] E0 t σ H Q:=by
 unfold tCall
 have e:(fun (vs:List V) H1=>sp (vs++[]) H1 Q E0)=fun vs H1=>sp vs H1 Q E0:=by funext vs H1;rw [List.append_nil]
 rw [e]
 exact q
theorem rd_CB {r:List V->Hp->VK->Prop} {t:TA} (q:t σ H fun vs H1=>r vs H1 Q):tCB r t σ H Q:=q
theorem rd_tup {t:TA} (q:t σ H fun xs H1=>xs.length<=sizeLine/\∀ p,H1 p=none->Q (.ref p) (upd H1 p (.tup xs))):tTup t σ H Q:=q
theorem rd_lst {t:TA} (q:t σ H fun xs H1=>xs.length<=sizeLine/\∀ p,H1 p=none->Q (.ref p) (upd H1 p (.lst xs))):tLst t σ H Q:=q
theorem Zdg {c A B:Prop} [Decidable c] (h1:c->A) (h2:¬ c->B):if decide c=true then A else B:=by
 by_cases h:c
 .rw [if_pos (decide_eq_true h)];exact h1 h
 .rw [if_neg (by rw [decide_eq_false h];exact Bool.false_ne_true)];exact h2 h
theorem Zcs {c A B:Prop} [Decidable c] (h1:¬ c->A) (h2:c->B):if (!decide c)=true then A else B:=by
 by_cases h:c
 .rw [decide_eq_true h];exact iteF (h2 h)
 .rw [decide_eq_false h];exact iteT (h1 h)
theorem rd_fin {u:V} (e:u=v) (q:Q v H):Q u H:=by rw [e];exact q
end
def ZfT (mg:Str->Option Value) (x:Str) (v:V):Prop:=∃ u,mg x=some u/\RelV v u
section
variable {X:Cx} {x:Str} {v:V} {T:String} {pos:Pos}
theorem pe_glA (hg:Gl X x) (h:ZfT X.mg x v) (hd:(x==("__debug__" : Str))=false:=by decide):PE X (.Name x pos) (tC v) :=
 let ⟨_,m,r⟩:=h
 ZjZ hg m r hd
theorem ZcL (hg:Gl X x) (hm:X.mg x=none) (hv:bootBuiltins x=some (.type T)) (hn:x ≠ "__name__" := by decide) (hd:(x==("__debug__" : Str))=false:=by decide):PE X (.Name x pos) (tC (.ty T)) :=
 Zj0 hg hm hv rfl hn hd
end
theorem Same.tup {K:PySem.W.Frag} {H H':Hp} {a:Addr} {xs:List V} (e:Same H H') (h:SqT K H a xs):SqT K H' a xs:=by
 rcases h with (h|⟨o,h⟩)|h
 .exact .inl (.inl (e _ _ h))
 .exact .inl (.inr ⟨o,e _ _ h⟩)
 .exact .inr h
theorem Same.new {H:Hp} {p:Addr} {o:HO} (n:H p=none):Same H (upd H p o):=fun b u e=>by rw [Zaf (Zai e n)];exact e
theorem Same.newT {H H':Hp} {p:Addr} {o:HO} (s:Same H H') (n:H' p=none):Same H (upd H' p o):=s.trans (Same.new n)
theorem Zal {K:PySem.W.Frag} {H:Hp} {p:Addr} {xs:List V} (h:H p=some (.lst xs)):SqL K H p xs:=.inl (.inl h)
theorem ZbY {K:PySem.W.Frag} {H:Hp} {p:Addr} {xs:List V} (h:H p=some (.tup xs)):SqT K H p xs:=.inl (.inl h)
theorem Zb8 {α:Type} {xs:List α} {i:Nat} {j:Int} {v:α} (h:xs[i]?=some v) (e:j=(i:Int)):atI xs j=some v:=by rw [e];exact Zkb h
theorem ZhC {ns:List V} {n:Nat}:cutV ns none (some (n:Int))=ns.take n:=by
 have e:HT.sIx ns.length ns.length (some (n:Int))=min n ns.length:=by
  unfold HT.sIx
  simp only []
  split<;>omega
 have e0:HT.sIx ns.length 0 none=0:=rfl
 unfold cutV
 rw [e,e0,List.drop_zero,Nat.sub_zero,List.take_eq_take_iff]
 omega
section
variable {σ:St} {H:Hp} {Q:VK} {K:PySem.W.Frag} {p a b:Addr} {xs ys:List V} {v:V}
theorem Zbd {i:Int} (h:SqL K H p xs) (e:atI xs i=some v) (q:Q v H):rIxL K (.ref p) (.int i) H Q:=⟨p,xs,i,v,rfl,rfl,h,e,q⟩
theorem rd_ixT {i:Int} (h:SqT K H p xs) (e:atI xs i=some v) (q:Q v H):rIxT K (.ref p) (.int i) H Q:=⟨p,xs,i,v,rfl,rfl,h,e,q⟩
theorem rd_slL {lo hi:Option Int} (h:SqL K H a xs) (q:∀ p,H p=none->Q (.ref p) (upd H p (.lst (cutV xs lo hi)))):rSlL K (.ref a) lo hi H Q:=⟨a,xs,rfl,h,q⟩
theorem rd_sl {r:V->Option Int->Option Int->Hp->VK->Prop} {te:TE} {tl th:TO} (q:te σ H fun x H1=>tl σ H1 fun l H2=>th σ H2 fun u H3=>r x l u H3 Q):tSl r te tl th σ H Q:=q
theorem ZhD {R:Option Int->Hp->Prop} (q:R none H):Zho σ H R:=q
theorem Zkp {R:Option Int->Hp->Prop} {t:TE} (q:t σ H fun x H1=>∃ i,x=.int i/\R (some i) H1):tPart t σ H R:=q
theorem rd_ei {R:Int->Prop} {i:Int} (q:R i):∃ j,V.int i=.int j/\R j:=⟨i,rfl,q⟩
theorem ZjM (h1:H a=some (.lst xs)) (h2:H b=some (.lst ys)) (hz:xs.length+ys.length<=sizeLine) (q:∀ p,H p=none->Q (.ref p) (upd H p (.lst (xs++ys)))):rCat (.ref a) (.ref b) H Q:=⟨a,b,xs,ys,rfl,rfl,h1,h2,hz,q⟩
end
theorem iteNT {A B:Prop} (h:B):if (!true)=true then A else B:=iteF h
theorem iteNF {A B:Prop} (h:A):if (!false)=true then A else B:=iteT h
section
variable {σ:St} {H:Hp} {Q:VK} {D:Ends}
theorem Zd9 {k:Nat} {wi:TI} {g:TG} {tc:TT} {te:TE} (q:wi σ H fun J H1=>∀ p,H1 p=none->tLoopC k g tc te J p (fun H'=>Q (.ref p) H') σ H1):tComp k wi g tc te σ H Q:=q
theorem ZaP {K:PySem.W.Frag} {tl:TE} {R:It->Hp->Prop} (q:tl σ H fun x H1=>∃ a,x=.ref a/\(∃ xs,SqL K H1 a xs)/\R (Itl K a) H1):iList K tl σ H R:=q
theorem Zkq {K:PySem.W.Frag} {tl:TE} {R:It->Hp->Prop} (q:tl σ H fun x H1=>∃ a,x=.ref a/\(∃ xs,SqT K H1 a xs)/\R (Itt K a) H1):iTup K tl σ H R:=q
theorem Zea {ta:TA} {R:It->Hp->Prop} (q:ta σ H fun vs H1=>∃ j:Int,vs=[.int j]/\-(2 ^ 62)<=j/\j<2 ^ 62/\R (Itr 0 j.toNat) H1):iRng1 ta σ H R:=q
theorem ZbG {wi:TI} {g:TG} {tb:TS} (q:wi σ H fun J H1=>∃ W:Nat->Nat->St->Hp->Prop,(∃ m,W 0 m σ H1)/\∀ i m σ H,W i m σ H ->
 (J.stop i H/\D.nx σ H)\/(J.go i H/\∃ N:St->Hp->Prop,(∀ σ' H',N σ' H'->∃ m',m'<m/\W (i+1) m' σ' H')/\∀ x H',J.yld i H x H'->g x σ H' fun σ2 H2=>tb { D with nx:=N,ct:=N,bk:=D.nx } σ2 H2)):tFor wi g tb D σ H:=q
end
section
variable {CX:CXT} {P:Program} {w:World} {K:PySem.W.Frag} {mg:Str->Option Value} {base:Heap} {N:List Str} {q:Str} {sc:Scope} {f:Addr} {cd:Value} {A:Around} {outer:List Env} {s:Shared} {H:Hp} {E:XK}
theorem nox_K:(cxOf CX P w K mg base N q sc f cd A outer s H E).nox.K=K:=rfl
theorem nox_P:(cxOf CX P w K mg base N q sc f cd A outer s H E).nox.prog=P:=rfl
theorem nox_w:(cxOf CX P w K mg base N q sc f cd A outer s H E).nox.w=w:=rfl
theorem nox_mg:(cxOf CX P w K mg base N q sc f cd A outer s H E).nox.mg=mg:=rfl
theorem ZiS:(cxOf CX P w K mg base N q sc f cd A outer s H E).nox.base=base:=rfl
end
theorem ZgG {K:PySem.W.Frag} {h:Heap} {mg:Str->Option Value} {x:Str} {i:Int} {t:Tok} (X:K.In h) (G:h.Ns mainGlobals mg) (a:PySem.W.nsIn K mainGlobals x=some (some (.int i t))):ZfT mg x (.int i):=⟨_,PySem.W.mg_of X G a,t,rfl⟩
theorem ZgH {K:PySem.W.Frag} {x qual p:Str} {st:Stmt} {f:Addr} {fd:FuncData} (F:Fun K x qual st f fd)
  (hb:∀ (kV doc pm:Value) (an:Option Addr) (cdv ct u:Value),bindArgs (PySem.W.fnOf x qual (Za5 st) (ZaM st) (Zad st) .none kV doc pm an cdv ct) ⟨[u],[]⟩=pure [(p,u)]:=by intros;rfl):∀ (s:Shared) (u:Value),BindsTo s fd ⟨[u],[]⟩ [(p,u)]:=by
 obtain ⟨oc,od,kV,doc,pm,an,cdv,ct,osl,rfl,lk,hcd⟩:=F.ex
 exact fun s u=>.of_eq (hb kV doc pm an cdv ct u)
section
variable {σ:St} {H:Hp} {Q:VK} {D:Ends} {i:Nat} {x:V}
end
abbrev RC:=List V->Hp->VK->Prop
def rMax2:RC:=fun xs H Q=>∃ i j,xs=[.int i,.int j]/\Q (.int (if j>i then j else i)) H
def rIsi:RC:=fun xs H Q=>∃ x T b,xs=[x,.ty T]/\isiV x T=some b/\Q (.bl b) H
def rLenS (K:PySem.W.Frag):RC:=fun xs H Q=>∃ p ys,xs=[.ref p]/\(SqL K H p ys\/SqT K H p ys)/\Q (.int ys.length) H
section
variable {X:Cx} {H:Hp} {Q:VK} {K:PySem.W.Frag}
theorem cn_max (hc:X.calm=true):CallR X (.builtin "max") rMax2:=Zhi hc
theorem cn_isi:CallR X (.builtin "isinstance") rIsi:=ZiR
theorem ZbH:CallR X (.builtin "len") (rLenS X.K):=ZeE
theorem Zkr {a b:Int} (q:Q (.int (if b>a then b else a)) H):rMax2 [.int a,.int b] H Q:=⟨a,b,rfl,q⟩
theorem ZhE {p:Addr} {xs:List V} (h:SqL K H p xs) (q:Q (.int xs.length) H):rLenS K [.ref p] H Q:=⟨p,xs,rfl,.inl h,q⟩
end
section
variable {σ:St} {H:Hp} {Q:VK} {K:PySem.W.Frag} {p:Addr} {xs:List V} {v:V}
theorem rd_bm {T:String} {r:V->List V->Hp->VK->Prop} {to:TE} {t:TA} (q:to σ H fun x H1=>tyV K T x H1/\t σ H1 fun xs H2=>r x xs H2 Q):tBM K T r to t σ H Q:=q
theorem rd_bm0 {T:String} {r:V->List V->Hp->VK->Prop} {to:TE} (q:to σ H fun x H1=>tyV K T x H1/\r x [] H1 Q):tBM0 K T r to σ H Q:=q
theorem ZbN (h:SqL K H p xs):tyV K "list" (.ref p) H:=.inl ⟨rfl,_,h⟩
theorem ZbI (h:H p=some (.lst xs)) (hz:xs.length<sizeLine) (q:Q .non (upd H p (.lst (xs++[v])))):Zht (.ref p) [v] H Q:=⟨p,xs,v,rfl,rfl,h,hz,q⟩
theorem rd_pop (h:H p=some (.lst (xs++[v]))) (q:Q v (upd H p (.lst xs))):rPop (.ref p) [] H Q:=by
 refine ⟨p,xs++[v],v,rfl,rfl,h,by simp,?_⟩
 rw [List.dropLast_concat]
 exact q
end
section
variable {σ:St} {H:Hp} {Q:VK} {K:PySem.W.Frag} {p:Addr}
theorem ZgI {te:TE} {R:Hp->Prop} {lo:Int} {n:Nat} {ys:List V} (hp:H p=none) (hn:ys.length=n) (hz:n<=sizeLine)
  (he:∀ (i:Nat) (y:V) (H':Hp) (Q:VK),i<n->ys[i]?=some y->Same H H'->Q y H'->te (some (.int (lo+i))::σ) H' Q) (fin:R (upd H p (.lst ys))) :
  tLoopC 1 (gName 0) tNoIf te (Itr lo n) p R σ H:=by
 refine ⟨fun i m σ' H'=>m=n-i/\i<=n/\H'=upd H p (.lst (ys.take i))/\∃ v,σ'=v::σ,⟨n,by omega,Nat.zero_le _,rfl,none,rfl⟩,?_⟩
 rintro i m σ' H' ⟨rfl,hi,rfl,v,rfl⟩
 by_cases hlt:i<n
 .refine .inr ⟨hlt,fun σ2 H2=>H2=upd H p (.lst (ys.take (i+1)))/\∃ v,σ2=v::σ,fun σ2 H2 ⟨e,v',e'⟩=>⟨n-(i+1),by omega,rfl,hlt,e,v',e'⟩,fun x H1 ⟨e,y⟩=>?_⟩
  subst e y
  refine Zd8 ?_
  simp only [tNoIf,if_true,List.set_cons_zero]
  have hyl:i<ys.length:=by omega
  refine he i ys[i] _ _ hlt (by simp [hyl]) (Same.new hp) ?_
  refine ⟨ys.take i,Zab,?_,?_,some _,rfl⟩
  .rw [List.length_take];omega
  .rw [Za0,List.take_succ_eq_append_getElem hyl]
 .have e:i=n:=by omega
  subst e
  refine .inl ⟨Nat.le_refl _,?_⟩
  rw [<- hn,List.take_length]
  exact fin
end
noncomputable def isiSeq:Bool->String->Option Bool
 | true, "tuple" => some true
 | true, "list" => some false
 | true, "int" => some false
 | true, "bool" => some false
 | true, "str" => some false
 | false, "list" => some true
 | false, "tuple" => some false
 | false, "int" => some false
 | false, "bool" => some false
 | false, "str" => some false
 | _,_=>none
def rIsiQ (K:PySem.W.Frag):RC:=fun xs H Q=>∃ a T ys b,xs=[.ref a,.ty T]/\((SqT K H a ys/\isiSeq true T=some b)\/(SqL K H a ys/\isiSeq false T=some b))/\Q (.bl b) H
theorem ZhF {X:Cx}:CallR X (.builtin "isinstance") (rIsiQ X.K):=by
 intro pins s σ H xs us Q I r h
 obtain ⟨a,T,ys,b,rfl,e,q⟩:=h
 obtain ⟨u,v,rfl,ru,rv⟩:=vals2 r
 obtain rfl:v=Value.type T:=rv
 obtain rfl:u=Value.ref a:=ru
 have kp:∀ b o,s.heap.get? b=some o->s.heap.get? b=some o:=fun _ _ z=>z
 rcases e with ⟨hq,e⟩|⟨hq,e⟩
 .obtain ⟨its,rv,p,hz⟩:=I.tuple hq
  have p':s.heap.IsTuple a its.toArray:=p
  unfold isiSeq at e
  split at e<;>first
   | contradiction
   | (cases e;first
    | exact IsiPair.isTuple_tuple p' kp ⟨.bl true,H,I,rfl,q⟩
    | exact IsiPair.isTuple_list p' kp ⟨.bl false,H,I.tok _,rfl,q⟩
    | exact IsiPair.isTuple_int p' kp ⟨.bl false,H,I.tok _,rfl,q⟩
    | exact IsiPair.isTuple_bool p' kp ⟨.bl false,H,I.tok _,rfl,q⟩
    | exact IsiPair.isTuple_str p' kp ⟨.bl false,H,I.tok _,rfl,q⟩)
   | cases e
   | (rename_i z _;cases z)
 .obtain ⟨its,rv,p,hz⟩:=I.list hq
  have p':s.heap.IsList a its.toArray:=p.isList
  unfold isiSeq at e
  split at e<;>first
   | contradiction
   | (cases e;first
    | exact IsiPair.isList_list p' kp ⟨.bl true,H,I,rfl,q⟩
    | exact IsiPair.isList_tuple p' kp ⟨.bl false,H,I.tok _,rfl,q⟩
    | exact IsiPair.isList_int p' kp ⟨.bl false,H,I.tok _,rfl,q⟩
    | exact IsiPair.isList_bool p' kp ⟨.bl false,H,I.tok _,rfl,q⟩
    | exact IsiPair.isList_str p' kp ⟨.bl false,H,I.tok _,rfl,q⟩)
   | cases e
   | (rename_i z _;cases z)
def rIsiA (K:PySem.W.Frag):RC:=fun xs H Q=>rIsi xs H Q\/rIsiQ K xs H Q
theorem ZbZ {X:Cx}:CallR X (.builtin "isinstance") (rIsiA X.K):=cn_isi.or ZhF
section
variable {H:Hp} {Q:VK} {K:PySem.W.Frag}
theorem Zks {x:V} {T:String} {b:Bool} (e:isiV x T=some b) (q:Q (.bl b) H):rIsiA K [x,.ty T] H Q:=.inl ⟨x,T,b,rfl,e,q⟩
theorem Zkt {a:Addr} {T:String} {ys:List V} {b:Bool} (h:SqT K H a ys) (e:isiSeq true T=some b) (q:Q (.bl b) H):rIsiA K [.ref a,.ty T] H Q:=.inr ⟨a,T,ys,b,rfl,.inl ⟨h,e⟩,q⟩
theorem Zku {a:Addr} {T:String} {ys:List V} {b:Bool} (h:SqL K H a ys) (e:isiSeq false T=some b) (q:Q (.bl b) H):rIsiA K [.ref a,.ty T] H Q:=.inr ⟨a,T,ys,b,rfl,.inr ⟨h,e⟩,q⟩
end
section
variable {σ:St} {H:Hp} {Q:VK} {P:Program} {w:World} {K:PySem.W.Frag} {td ty:TE}
end
section
variable {H:Hp} {Q:VK} {P:Program} {w:World} {K:PySem.W.Frag}
end
section
variable {CX:CXT} {P:Program} {w:World} {K:PySem.W.Frag} {mg:Str->Option Value} {base:Heap} {N:List Str} {q:Str} {sc:Scope} {f:Addr} {cd:Value} {A:Around} {outer:List Env} {s:Shared} {H:Hp} {E:XK}
theorem cxOf_K:(cxOf CX P w K mg base N q sc f cd A outer s H E).K=K:=rfl
theorem cxOf_P:(cxOf CX P w K mg base N q sc f cd A outer s H E).prog=P:=rfl
theorem cxOf_w:(cxOf CX P w K mg base N q sc f cd A outer s H E).w=w:=rfl
theorem Zkv:(cxOf CX P w K mg base N q sc f cd A outer s H E).mg=mg:=rfl
theorem ZhG:(cxOf CX P w K mg base N q sc f cd A outer s H E).base=base:=rfl
end
theorem ZiT:Vals [] []:=.nil
theorem ZiU {i:Int} {t:Tok} {xs:List V} {us:List Value} (h:Vals xs us):Vals (.int i::xs) (.int i t::us):=.cons ⟨t,rfl⟩ h
theorem ZiV {x:Str} {t:Tok} {xs:List V} {us:List Value} (h:Vals xs us):Vals (.str x::xs) (.str x t::us):=.cons ⟨t,rfl⟩ h
structure FunD (K:PySem.W.Frag) (x qual:Str) (st:Stmt) (items:Array Value) (f:Addr) (fd:FuncData):Prop where
 ex:∃ (oc:Value) (od:Option Addr) (T:Addr) (kV doc pm:Value) (an:Option Addr) (cdv ct:Value) (osl:Array (Option Value)) (o:Obj) (n:Nat),
  fd=PySem.W.fnOf x qual (Za5 st) (ZaM st) (Zad st) (.ref T) kV doc pm an cdv ct/\K.lookup f=some ⟨oc,od,.func fd,osl⟩/\PySem.W.codeIn K cdv qual=true/\K.lookup T=some o/\o.data=.seq items n
 kp:PySem.W.keepIn K (.ref f)=true
section
variable {P:Program} {w:World} {K:PySem.W.Frag} {mg:Str->Option Value} {base:Heap}
theorem FunD.fn {x qual:Str} {st:Stmt} {items:Array Value} {f:Addr} {fd:FuncData} {N ps:List Str} {k:Nat} {sp:Sp} (F:FunD K x qual st items f fd) (S:FnScope N ps (Zad st)) (len:∀ vs H Q E,sp vs H Q E->vs.length=ps.length)
  (hbody:∀ (cdv:Value) (A:Around) (outer:List Env) (s:Shared) (H:Hp) (vs:List V) (Q:VK) (E:XK),Room k (A.deeper (envOfC qual (Zad st) s.heap.objs.size f cdv))->sp vs H Q E ->
   ∃ t,PSs (cxOf CX0 P w K mg base N qual (Zad st) f cdv A outer s H E).nox (ZaM st) t/\t { nx:=fun _ H'=>Q .non H',rt:=Q } (start N vs) H):FnOk P w K mg base CX0 (k+1) f fd ps sp:=by
 obtain ⟨oc,od,T,kV,doc,pm,an,cdv,ct,osl,o,n,rfl,lk,hcd,lt,ld⟩:=F.ex
 refine fn_of lk hcd S len fun A outer s H vs Q E hr hsp=>?_
 obtain ⟨t,h,q⟩:=hbody cdv A outer s H vs Q E hr hsp
 exact ⟨t,h.nox,q⟩
theorem FunD.binds {x qual:Str} {st:Stmt} {items:Array Value} {f:Addr} {fd:FuncData} {ps:List Str} (F:FunD K x qual st items f fd) (ds:List Value)
  (h:∀ (T:Addr) (kV doc pm:Value) (an:Option Addr) (cdv ct:Value) (us:List Value),(us++ds).length=ps.length->∃ k:Option (Array Value)->Sem (List (Str×Value)),bindArgs (PySem.W.fnOf x qual (Za5 st) (ZaM st) (Zad st) (.ref T) kV doc pm an cdv ct) ⟨us,[]⟩=seqItems? (.ref T) >>= k/\k (some items)=pure (ps.zip (us++ds))):Binds K fd ps ds:=by
 obtain ⟨oc,od,T,kV,doc,pm,an,cdv,ct,osl,o,n,rfl,lk,hcd,lt,ld⟩:=F.ex
 intro s us X hl
 obtain ⟨k,h1,h2⟩:=h T kV doc pm an cdv ct us hl
 exact BindsTo.of_defaults (fd:=PySem.W.fnOf x qual (Za5 st) (ZaM st) (Zad st) (.ref T) kV doc pm an cdv ct) rfl (X _ _ lt) ld h1 h2
end
end L2
namespace L2
open PySem PySem.Spec PyProof.Rows PySem.SeqAt
inductive Dt where
 | non
 | bl (b:Bool)
 | int (i:Int)
 | str (x:Str)
 | lst (ds:List Dt)
 | tup (ds:List Dt)
mutual
noncomputable def Dt.eq:Dt->Dt->Bool
 | .non,.non=>true
 | .bl a,.bl b=>a==b
 | .bl a,.int b=>(if a then 1 else 0)==b
 | .int a,.bl b=>a==(if b then 1 else 0)
 | .int a,.int b=>a==b
 | .str a,.str b=>a==b
 | .lst a,.lst b=>Dt.eqs a b
 | .tup a,.tup b=>Dt.eqs a b
 | _,_=>false
noncomputable def Dt.eqs:List Dt->List Dt->Bool
 | [],[]=>true
 | a::r,b::t=>Dt.eq a b&&Dt.eqs r t
 | _,_=>false
end
mutual
noncomputable def Dt.dep:Dt->Nat
 | .lst ds=>Dt.deps ds+1
 | .tup ds=>Dt.deps ds+1
 | _=>0
noncomputable def Dt.deps:List Dt->Nat
 | []=>0
 | d::r=>max (Dt.dep d) (Dt.deps r)
end
mutual
def DV (K:PySem.W.Frag) (H:Hp):Dt->V->Prop
 | .non,v=>v=.non
 | .bl b,v=>v=.bl b
 | .int i,v=>v=.int i
 | .str x,v=>v=.str x
 | .lst ds,v=>∃ a xs,v=.ref a/\SqL K H a xs/\DVs K H ds xs
 | .tup ds,v=>∃ a xs,v=.ref a/\SqT K H a xs/\DVs K H ds xs
def DVs (K:PySem.W.Frag) (H:Hp):List Dt->List V->Prop
 | [],xs=>xs=[]
 | d::r,xs=>∃ x t,xs=x::t/\DV K H d x/\DVs K H r t
end
theorem DVs.length {K:PySem.W.Frag} {H:Hp}:∀ {ds:List Dt} {xs:List V},DVs K H ds xs->ds.length=xs.length
 | [],xs,h=>by unfold DVs at h;subst h;rfl
 | d::r,xs,h=>by
  unfold DVs at h
  obtain ⟨x,t,rfl,_,h⟩:=h
  rw [List.length_cons,List.length_cons,DVs.length h]
theorem DVs.get {K:PySem.W.Frag} {H:Hp}:∀ {ds:List Dt} {xs:List V} {i:Nat} {d:Dt} {x:V},DVs K H ds xs->ds[i]?=some d->xs[i]?=some x->DV K H d x
 | [],xs,i,d,x,h,e,_=>by simp at e
 | d0::r,xs,i,d,x,h,e1,e2=>by
  unfold DVs at h
  obtain ⟨x0,t,rfl,h0,h⟩:=h
  cases i with
  | zero=>simp at e1 e2;subst e1 e2;exact h0
  | succ i=>exact DVs.get (i:=i) h (by simpa using e1) (by simpa using e2)
theorem Dt.dep_le:∀ {ds:List Dt} {i:Nat} {d:Dt},ds[i]?=some d->d.dep<=Dt.deps ds
 | [],i,d,e=>by simp at e
 | d0::r,i,d,e=>by
  unfold Dt.deps
  cases i with
  | zero=>simp at e;subst e;exact Nat.le_max_left _ _
  | succ i=>exact Nat.le_trans (Dt.dep_le (i:=i) (by simpa using e)) (Nat.le_max_right _ _)
theorem Dt.eqs_range:∀ (ds es:List Dt),ds.length=es.length->(List.range ds.length).all (fun j=>Dt.eq (ds.getD j .non) (es.getD j .non))=Dt.eqs ds es
 | [],[],_=>by unfold Dt.eqs;rfl
 | d::r,e::t,h=>by
  have ih:=Dt.eqs_range r t (by simpa using h)
  rw [List.length_cons,List.range_succ_eq_map,List.all_cons,List.all_map]
  unfold Dt.eqs
  rw [<- ih]
  rfl
 | [],_::_,h=>by simp at h
 | _::_,[],h=>by simp at h
theorem Dt.eqs_len:∀ (ds es:List Dt),ds.length≠es.length->Dt.eqs ds es=false
 | [],[],h=>absurd rfl h
 | d::r,e::t,h=>by
  unfold Dt.eqs
  rw [Dt.eqs_len r t (by simpa using h),Bool.and_false]
 | [],_::_,_=>by unfold Dt.eqs;rfl
 | _::_,[],_=>by unfold Dt.eqs;rfl
section
variable {X:Cx} {pins:List (Addr×Obj)} {σ:St} {H:Hp} {s:Shared}
theorem DV.same (I:Inv X pins σ H s):∀ (n:Nat) (d e:Dt) (x:V),d.dep<=n->DV X.K H d x->DV X.K H e x->Dt.eq d e=true:=by
 intro n
 induction n with
 | zero =>
  intro d e x hn h1 h2
  cases d with
  | lst ds=>unfold Dt.dep at hn;omega
  | tup ds=>unfold Dt.dep at hn;omega
  | non=>unfold DV at h1;subst h1;cases e<;>unfold DV at h2<;>first|(cases h2;done)|(obtain ⟨_,_,z,_⟩:=h2;cases z;done)|(unfold Dt.eq;rfl)
  | bl b=>unfold DV at h1;subst h1;cases e<;>unfold DV at h2<;>first|(cases h2;unfold Dt.eq;simp;done)|(obtain ⟨_,_,z,_⟩:=h2;cases z;done)|(cases h2;done)
  | int b=>unfold DV at h1;subst h1;cases e<;>unfold DV at h2<;>first|(cases h2;unfold Dt.eq;simp;done)|(obtain ⟨_,_,z,_⟩:=h2;cases z;done)|(cases h2;done)
  | str b=>unfold DV at h1;subst h1;cases e<;>unfold DV at h2<;>first|(cases h2;unfold Dt.eq;simp;done)|(obtain ⟨_,_,z,_⟩:=h2;cases z;done)|(cases h2;done)
 | succ n ih =>
  intro d e x hn h1 h2
  have lists:∀ (ds es:List Dt) (xs:List V),Dt.deps ds<=n->DVs X.K H ds xs->DVs X.K H es xs->Dt.eqs ds es=true:=by
   intro ds es xs hd a b
   have l1:=a.length
   have l2:=b.length
   rw [<- Dt.eqs_range ds es (l1.trans l2.symm),List.all_eq_true]
   intro j hj
   have hj':j<ds.length:=List.mem_range.mp hj
   have e1:ds[j]?=some ds[j]:=List.getElem?_eq_getElem hj'
   have e2:es[j]?=some (es[j]'(by omega)):=List.getElem?_eq_getElem (by omega)
   have e3:xs[j]?=some (xs[j]'(by omega)):=List.getElem?_eq_getElem (by omega)
   rw [List.getD_eq_getElem?_getD,List.getD_eq_getElem?_getD,e1,e2]
   exact ih _ _ _ (Nat.le_trans (Dt.dep_le e1) hd) (a.get e1 e3) (b.get e2 e3)
  cases d with
  | lst ds =>
   unfold Dt.dep at hn
   unfold DV at h1
   obtain ⟨a,xs,rfl,q1,r1⟩:=h1
   cases e with
   | lst es =>
    unfold DV at h2
    obtain ⟨b,ys,z,q2,r2⟩:=h2
    cases z
    rw [I.list_inj q2 q1] at r2
    unfold Dt.eq
    exact lists ds es xs (by omega) r1 r2
   | tup es =>
    unfold DV at h2
    obtain ⟨b,ys,z,q2,r2⟩:=h2
    cases z
    obtain ⟨i1,_,p1,_⟩:=I.list q1
    obtain ⟨i2,_,p2,_⟩:=I.tuple q2
    obtain ⟨o1,g1,c1,_⟩:=p1.isList
    have p2':s.heap.IsTuple a i2.toArray:=p2
    obtain ⟨o2,g2,c2,_⟩:=p2'
    rw [g1] at g2
    cases g2
    rw [c1] at c2
    exact absurd c2 (by decide)
   | non=>unfold DV at h2;cases h2
   | bl b=>unfold DV at h2;cases h2
   | int b=>unfold DV at h2;cases h2
   | str b=>unfold DV at h2;cases h2
  | tup ds =>
   unfold Dt.dep at hn
   unfold DV at h1
   obtain ⟨a,xs,rfl,q1,r1⟩:=h1
   cases e with
   | tup es =>
    unfold DV at h2
    obtain ⟨b,ys,z,q2,r2⟩:=h2
    cases z
    rw [I.tuple_inj q2 q1] at r2
    unfold Dt.eq
    exact lists ds es xs (by omega) r1 r2
   | lst es =>
    unfold DV at h2
    obtain ⟨b,ys,z,q2,r2⟩:=h2
    cases z
    obtain ⟨i1,_,p1,_⟩:=I.list q2
    obtain ⟨i2,_,p2,_⟩:=I.tuple q1
    obtain ⟨o1,g1,c1,_⟩:=p1.isList
    have p2':s.heap.IsTuple a i2.toArray:=p2
    obtain ⟨o2,g2,c2,_⟩:=p2'
    rw [g1] at g2
    cases g2
    rw [c1] at c2
    exact absurd c2 (by decide)
   | non=>unfold DV at h2;cases h2
   | bl b=>unfold DV at h2;cases h2
   | int b=>unfold DV at h2;cases h2
   | str b=>unfold DV at h2;cases h2
  | non=>exact ih _ e x (by unfold Dt.dep;omega) h1 h2
  | bl b=>exact ih _ e x (by unfold Dt.dep;omega) h1 h2
  | int b=>exact ih _ e x (by unfold Dt.dep;omega) h1 h2
  | str b=>exact ih _ e x (by unfold Dt.dep;omega) h1 h2
end
end L2
namespace L2
open PySem PySem.Spec PyProof.Rows PySem.SeqAt
section
variable {X:Cx} {pins:List (Addr×Obj)} {σ:St} {H:Hp} {s:Shared}
theorem ZeO {K:PySem.W.Frag} {ds:List Dt} {xs:List V} {its:List Value} (h:DVs K H ds xs) (rv:Vals xs its) {j:Nat} (hj:j<its.toArray.size):∃ d x,ds[j]?=some d/\xs[j]?=some x/\DV K H d x/\RelV x (its.toArray[j])/\ds.getD j .non=d:=by
 have hj':j<its.length:=by simpa using hj
 have l1:=h.length
 have l2:=rv.length
 have e1:ds[j]?=some (ds[j]'(by omega)):=List.getElem?_eq_getElem (by omega)
 have e2:xs[j]?=some (xs[j]'(by omega)):=List.getElem?_eq_getElem (by omega)
 obtain ⟨u,hu,ru⟩:=rv.get e2
 refine ⟨_,_,e1,e2,h.get e1 e2,?_,by rw [List.getD_eq_getElem?_getD,e1];rfl⟩
 have:its.toArray[j]=u:=by
  have q:its[j]?=some its[j]:=List.getElem?_eq_getElem hj'
  rw [q] at hu
  simpa using Option.some.inj hu
 rw [this]
 exact ru
theorem ZhH (A:Around):A.in1.units=A.units+1:=rfl
theorem eq_all (I:Inv X pins σ H s):∀ (n:Nat) (d e:Dt) (x y:V) (u v:Value) (A:Around),d.dep<=n->A.units+n<cLine->DV X.K H d x->DV X.K H e y->RelV x u->RelV y v ->
  EqAt A s u v (Dt.eq d e)/\RcAt A s u v (Dt.eq d e)/\RcNeAt A s u v (!Dt.eq d e):=by
 intro n
 induction n with
 | zero =>
  intro d e x y u v A hn hA h1 h2 r1 r2
  have hu:A.units<cLine:=by omega
  cases d with
  | lst ds=>unfold Dt.dep at hn;omega
  | tup ds=>unfold Dt.dep at hn;omega
  | non =>
   unfold DV at h1;subst h1;cases r1
   cases e<;>unfold DV at h2
   case lst es=>obtain ⟨a,xs,rfl,q,_⟩:=h2;cases r2;obtain ⟨its,_,p,_⟩:=I.list q;unfold Dt.eq;exact ⟨EqAt.none_list p.isList hu,RcAt.none_list p.isList hu,RcNeAt.none_list p.isList hu⟩
   case tup es=>obtain ⟨a,xs,rfl,q,_⟩:=h2;cases r2;obtain ⟨its,_,p,_⟩:=I.tuple q;unfold Dt.eq;exact ⟨EqAt.none_tuple (show s.heap.IsTuple a its.toArray from p) hu,RcAt.none_tuple (show s.heap.IsTuple a its.toArray from p) hu,RcNeAt.none_tuple (show s.heap.IsTuple a its.toArray from p) hu⟩
   case non=>subst h2;cases r2;unfold Dt.eq;exact ⟨EqAt.same _,RcAt.none_none,RcNeAt.none_none⟩
   case bl b=>subst h2;cases r2;unfold Dt.eq;exact ⟨EqAt.none_bool _,RcAt.none_bool _,RcNeAt.none_bool _⟩
   case int b=>subst h2;obtain ⟨t,rfl⟩:=r2;unfold Dt.eq;exact ⟨EqAt.none_int _ _,RcAt.none_int _ _,RcNeAt.none_int _ _⟩
   case str b=>subst h2;obtain ⟨t,rfl⟩:=r2;unfold Dt.eq;exact ⟨EqAt.none_str _ _,RcAt.none_str _ _,RcNeAt.none_str _ _⟩
  | bl b0 =>
   unfold DV at h1;subst h1;cases r1
   cases e<;>unfold DV at h2
   case lst es=>obtain ⟨a,xs,rfl,q,_⟩:=h2;cases r2;obtain ⟨its,_,p,_⟩:=I.list q;unfold Dt.eq;exact ⟨EqAt.bool_list _ p.isList hu,RcAt.bool_list _ p.isList hu,RcNeAt.bool_list _ p.isList hu⟩
   case tup es=>obtain ⟨a,xs,rfl,q,_⟩:=h2;cases r2;obtain ⟨its,_,p,_⟩:=I.tuple q;unfold Dt.eq;exact ⟨EqAt.bool_tuple _ (show s.heap.IsTuple a its.toArray from p) hu,RcAt.bool_tuple _ (show s.heap.IsTuple a its.toArray from p) hu,RcNeAt.bool_tuple _ (show s.heap.IsTuple a its.toArray from p) hu⟩
   case non=>subst h2;cases r2;unfold Dt.eq;exact ⟨EqAt.bool_none _,RcAt.bool_none _,RcNeAt.bool_none _⟩
   case bl b=>subst h2;cases r2;unfold Dt.eq;exact ⟨EqAt.bool_bool _ _,RcAt.bool_bool _ _,RcNeAt.bool_bool _ _⟩
   case int b=>subst h2;obtain ⟨t,rfl⟩:=r2;unfold Dt.eq;exact ⟨EqAt.bool_int _ _ _,RcAt.bool_int _ _ _,RcNeAt.bool_int _ _ _⟩
   case str b=>subst h2;obtain ⟨t,rfl⟩:=r2;unfold Dt.eq;exact ⟨EqAt.bool_str _ _ _,RcAt.bool_str _ _ _,RcNeAt.bool_str _ _ _⟩
  | int b0 =>
   unfold DV at h1;subst h1;obtain ⟨t0,rfl⟩:=r1
   cases e<;>unfold DV at h2
   case lst es=>obtain ⟨a,xs,rfl,q,_⟩:=h2;cases r2;obtain ⟨its,_,p,_⟩:=I.list q;unfold Dt.eq;exact ⟨EqAt.int_list _ _ p.isList hu,RcAt.int_list _ _ p.isList hu,RcNeAt.int_list _ _ p.isList hu⟩
   case tup es=>obtain ⟨a,xs,rfl,q,_⟩:=h2;cases r2;obtain ⟨its,_,p,_⟩:=I.tuple q;unfold Dt.eq;exact ⟨EqAt.int_tuple _ _ (show s.heap.IsTuple a its.toArray from p) hu,RcAt.int_tuple _ _ (show s.heap.IsTuple a its.toArray from p) hu,RcNeAt.int_tuple _ _ (show s.heap.IsTuple a its.toArray from p) hu⟩
   case non=>subst h2;cases r2;unfold Dt.eq;exact ⟨EqAt.int_none _ _,RcAt.int_none _ _,RcNeAt.int_none _ _⟩
   case bl b=>subst h2;cases r2;unfold Dt.eq;exact ⟨EqAt.int_bool _ _ _,RcAt.int_bool _ _ _,RcNeAt.int_bool _ _ _⟩
   case int b=>subst h2;obtain ⟨t,rfl⟩:=r2;unfold Dt.eq;exact ⟨EqAt.int_int _ _ _ _,RcAt.int_int _ _ _ _,RcNeAt.int_int _ _ _ _⟩
   case str b=>subst h2;obtain ⟨t,rfl⟩:=r2;unfold Dt.eq;exact ⟨EqAt.int_str _ _ _ _,RcAt.int_str _ _ _ _,RcNeAt.int_str _ _ _ _⟩
  | str b0 =>
   unfold DV at h1;subst h1;obtain ⟨t0,rfl⟩:=r1
   cases e<;>unfold DV at h2
   case lst es=>obtain ⟨a,xs,rfl,q,_⟩:=h2;cases r2;obtain ⟨its,_,p,_⟩:=I.list q;unfold Dt.eq;exact ⟨EqAt.str_list _ _ p.isList hu,RcAt.str_list _ _ p.isList hu,RcNeAt.str_list _ _ p.isList hu⟩
   case tup es=>obtain ⟨a,xs,rfl,q,_⟩:=h2;cases r2;obtain ⟨its,_,p,_⟩:=I.tuple q;unfold Dt.eq;exact ⟨EqAt.str_tuple _ _ (show s.heap.IsTuple a its.toArray from p) hu,RcAt.str_tuple _ _ (show s.heap.IsTuple a its.toArray from p) hu,RcNeAt.str_tuple _ _ (show s.heap.IsTuple a its.toArray from p) hu⟩
   case non=>subst h2;cases r2;unfold Dt.eq;exact ⟨EqAt.str_none _ _,RcAt.str_none _ _,RcNeAt.str_none _ _⟩
   case bl b=>subst h2;cases r2;unfold Dt.eq;exact ⟨EqAt.str_bool _ _ _,RcAt.str_bool _ _ _,RcNeAt.str_bool _ _ _⟩
   case int b=>subst h2;obtain ⟨t,rfl⟩:=r2;unfold Dt.eq;exact ⟨EqAt.str_int _ _ _ _,RcAt.str_int _ _ _ _,RcNeAt.str_int _ _ _ _⟩
   case str b=>subst h2;obtain ⟨t,rfl⟩:=r2;unfold Dt.eq;exact ⟨EqAt.str_str _ _ _ _,RcAt.str_str _ _ _ _,RcNeAt.str_str _ _ _ _⟩
 | succ n ih =>
  intro d e x y u v A hn hA h1 h2 r1 r2
  have hu:A.units<cLine:=by omega
  have wrap:∀ (a b:Addr),u=.ref a->v=.ref b->x=.ref a->y=.ref b->RcAt A s u v (Dt.eq d e)->EqAt A s u v (Dt.eq d e):=fun a b eu ev ex ey rc=>by
   subst eu ev ex ey
   by_cases hab:a=b
   .subst hab
    rw [DV.same I (n+1) d e (.ref a) hn h1 h2]
    exact EqAt.same _
   .exact EqAt.of_refs hab rc
  have items:∀ (ds es:List Dt) (xs ys:List V) (its jts:List Value),Dt.deps ds<=n->DVs X.K H ds xs->DVs X.K H es ys->Vals xs its->Vals ys jts ->
    ∀ j (g1:j<its.toArray.size) (g2:j<jts.toArray.size),EqAt A.in1 s its.toArray[j] jts.toArray[j] (Dt.eq (ds.getD j .non) (es.getD j .non)):=by
   intro ds es xs ys its jts hd a b ra rb j g1 g2
   obtain ⟨d',x',e1,_,v1,q1,z1⟩:=ZeO a ra g1
   obtain ⟨d'',x'',e2,_,v2,q2,z2⟩:=ZeO b rb g2
   rw [z1,z2]
   exact (ih d' d'' x' x'' _ _ A.in1 (Nat.le_trans (Dt.dep_le e1) hd) (by rw [ZhH];omega) v1 v2 q1 q2).1
  cases d with
  | lst ds =>
   unfold Dt.dep at hn
   unfold DV at h1
   obtain ⟨a,xs,rfl,q1,w1⟩:=id h1
   cases r1
   obtain ⟨its,rv,p,_⟩:=I.list q1
   cases e with
   | lst es =>
    unfold DV at h2
    obtain ⟨b,ys,rfl,q2,w2⟩:=id h2
    cases r2
    obtain ⟨jts,rv2,p2,_⟩:=I.list q2
    have rcs:RcAt A s (.ref a) (.ref b) (Dt.eq (.lst ds) (.lst es))/\RcNeAt A s (.ref a) (.ref b) (!Dt.eq (.lst ds) (.lst es)):=by
     unfold Dt.eq
     have l1:its.toArray.size=ds.length:=by rw [List.size_toArray,<- rv.length,w1.length]
     have l2:jts.toArray.size=es.length:=by rw [List.size_toArray,<- rv2.length,w2.length]
     by_cases hl:ds.length=es.length
     .have hi:=items ds es xs ys its jts (by omega) w1 w2 rv rv2
      rw [<- Dt.eqs_range ds es hl,<- l1]
      exact ⟨RcAt.lists p.isList p2.isList (by omega) hu hi,RcNeAt.lists p.isList p2.isList (by omega) hu hi⟩
     .have hne:(its.toArray.size != jts.toArray.size)=true:=by rw [l1,l2];simpa using hl
      rw [Dt.eqs_len ds es hl]
      exact ⟨RcAt.lists_lengths p.isList p2.isList hne hu,RcNeAt.lists_lengths p.isList p2.isList hne hu⟩
    exact ⟨wrap a b rfl rfl rfl rfl rcs.1,rcs⟩
   | tup es =>
    unfold DV at h2
    obtain ⟨b,ys,rfl,q2,w2⟩:=id h2
    cases r2
    obtain ⟨jts,rv2,p2,_⟩:=I.tuple q2
    have p2':s.heap.IsTuple b jts.toArray:=p2
    unfold Dt.eq
    exact ⟨EqAt.list_tuple p.isList p2' hu,RcAt.list_tuple p.isList p2' hu,RcNeAt.list_tuple p.isList p2' hu⟩
   | non=>unfold DV at h2;subst h2;cases r2;unfold Dt.eq;exact ⟨EqAt.list_none p.isList hu,RcAt.list_none p.isList hu,RcNeAt.list_none p.isList hu⟩
   | bl b=>unfold DV at h2;subst h2;cases r2;unfold Dt.eq;exact ⟨EqAt.list_bool _ p.isList hu,RcAt.list_bool _ p.isList hu,RcNeAt.list_bool _ p.isList hu⟩
   | int b=>unfold DV at h2;subst h2;obtain ⟨t,rfl⟩:=r2;unfold Dt.eq;exact ⟨EqAt.list_int _ _ p.isList hu,RcAt.list_int _ _ p.isList hu,RcNeAt.list_int _ _ p.isList hu⟩
   | str b=>unfold DV at h2;subst h2;obtain ⟨t,rfl⟩:=r2;unfold Dt.eq;exact ⟨EqAt.list_str _ _ p.isList hu,RcAt.list_str _ _ p.isList hu,RcNeAt.list_str _ _ p.isList hu⟩
  | tup ds =>
   unfold Dt.dep at hn
   unfold DV at h1
   obtain ⟨a,xs,rfl,q1,w1⟩:=id h1
   cases r1
   obtain ⟨its,rv,p0,_⟩:=I.tuple q1
   have p:s.heap.IsTuple a its.toArray:=p0
   cases e with
   | tup es =>
    unfold DV at h2
    obtain ⟨b,ys,rfl,q2,w2⟩:=id h2
    cases r2
    obtain ⟨jts,rv2,p20,_⟩:=I.tuple q2
    have p2:s.heap.IsTuple b jts.toArray:=p20
    have l1:its.toArray.size=ds.length:=by rw [List.size_toArray,<- rv.length,w1.length]
    have l2:jts.toArray.size=es.length:=by rw [List.size_toArray,<- rv2.length,w2.length]
    have hi:=items ds es xs ys its jts (by omega) w1 w2 rv rv2
    have ev:((List.range (min its.toArray.size jts.toArray.size)).all (fun j=>Dt.eq (ds.getD j .non) (es.getD j .non))&&its.toArray.size==jts.toArray.size)=Dt.eqs ds es:=by
     rw [l1,l2]
     by_cases hl:ds.length=es.length
     .rw [<- Dt.eqs_range ds es hl,hl,Nat.min_self]
      simp
     .rw [Dt.eqs_len ds es hl]
      simp [hl]
    have rcs:RcAt A s (.ref a) (.ref b) (Dt.eq (.tup ds) (.tup es))/\RcNeAt A s (.ref a) (.ref b) (!Dt.eq (.tup ds) (.tup es)):=by
     unfold Dt.eq
     rw [<- ev]
     exact ⟨RcAt.tuples p p2 hu hi,RcNeAt.tuples p p2 hu hi⟩
    exact ⟨wrap a b rfl rfl rfl rfl rcs.1,rcs⟩
   | lst es =>
    unfold DV at h2
    obtain ⟨b,ys,rfl,q2,w2⟩:=id h2
    cases r2
    obtain ⟨jts,rv2,p2,_⟩:=I.list q2
    unfold Dt.eq
    exact ⟨EqAt.tuple_list p p2.isList hu,RcAt.tuple_list p p2.isList hu,RcNeAt.tuple_list p p2.isList hu⟩
   | non=>unfold DV at h2;subst h2;cases r2;unfold Dt.eq;exact ⟨EqAt.tuple_none p hu,RcAt.tuple_none p hu,RcNeAt.tuple_none p hu⟩
   | bl b=>unfold DV at h2;subst h2;cases r2;unfold Dt.eq;exact ⟨EqAt.tuple_bool _ p hu,RcAt.tuple_bool _ p hu,RcNeAt.tuple_bool _ p hu⟩
   | int b=>unfold DV at h2;subst h2;obtain ⟨t,rfl⟩:=r2;unfold Dt.eq;exact ⟨EqAt.tuple_int _ _ p hu,RcAt.tuple_int _ _ p hu,RcNeAt.tuple_int _ _ p hu⟩
   | str b=>unfold DV at h2;subst h2;obtain ⟨t,rfl⟩:=r2;unfold Dt.eq;exact ⟨EqAt.tuple_str _ _ p hu,RcAt.tuple_str _ _ p hu,RcNeAt.tuple_str _ _ p hu⟩
  | non=>exact ih _ e x y u v A (by unfold Dt.dep;omega) (by omega) h1 h2 r1 r2
  | bl b=>exact ih _ e x y u v A (by unfold Dt.dep;omega) (by omega) h1 h2 r1 r2
  | int b=>exact ih _ e x y u v A (by unfold Dt.dep;omega) (by omega) h1 h2 r1 r2
  | str b=>exact ih _ e x y u v A (by unfold Dt.dep;omega) (by omega) h1 h2 r1 r2
end
def rNeD (K:PySem.W.Frag):R2:=fun x y H Q=>∃ d e,DV K H d x/\DV K H e y/\d.dep<=64/\Q (.bl (!Dt.eq d e)) H
section
variable {X:Cx}
theorem ZeP (hu:X.A.units+64<cLine):OpR X (compareOp .NotEq) (rNeD X.K):=by
 intro pins s σ H x y v u Q I rx ry h
 obtain ⟨d,e,h1,h2,hd,q⟩:=h
 exact (eq_all I 64 d e x y v u X.A hd hu h1 h2 rx ry).2.2 _ _ _ _ ⟨.bl (!Dt.eq d e),H,I,rfl,q⟩
end
noncomputable def Dt.ints (ns:List Int):List Dt:=ns.map Dt.int
theorem ZfU {K:PySem.W.Frag} {H:Hp}:∀ ns:List Int,DVs K H (Dt.ints ns) (ns.map V.int)
 | []=>by unfold Dt.ints DVs;rfl
 | n::r=>by
  show DVs K H (Dt.int n::Dt.ints r) (V.int n::r.map V.int)
  unfold DVs
  exact ⟨_,_,rfl,by unfold DV;rfl,ZfU r⟩
theorem Zb9 {K:PySem.W.Frag} {H:Hp} {a:Addr} {ns:List Int} (h:SqL K H a (ns.map V.int)):DV K H (.lst (Dt.ints ns)) (.ref a):=by unfold DV;exact ⟨a,_,rfl,h,ZfU ns⟩
section
variable {H:Hp} {Q:VK} {K:PySem.W.Frag} {a b:Addr}
end
mutual
theorem DV.keep {K:PySem.W.Frag} {H H':Hp} (s:Same H H'):∀ {d:Dt} {v:V},DV K H d v->DV K H' d v
 | .non,v,h=>by unfold DV at h |-;exact h
 | .bl b,v,h=>by unfold DV at h |-;exact h
 | .int i,v,h=>by unfold DV at h |-;exact h
 | .str x,v,h=>by unfold DV at h |-;exact h
 | .lst ds,v,h=>by
  unfold DV at h |-
  obtain ⟨a,xs,e,q,r⟩:=h
  exact ⟨a,xs,e,s.seq q,DVs.keep s r⟩
 | .tup ds,v,h=>by
  unfold DV at h |-
  obtain ⟨a,xs,e,q,r⟩:=h
  exact ⟨a,xs,e,s.tup q,DVs.keep s r⟩
theorem DVs.keep {K:PySem.W.Frag} {H H':Hp} (s:Same H H'):∀ {ds:List Dt} {xs:List V},DVs K H ds xs->DVs K H' ds xs
 | [],xs,h=>by unfold DVs at h |-;exact h
 | d::r,xs,h=>by
  unfold DVs at h |-
  obtain ⟨x,t,e,h1,h2⟩:=h
  exact ⟨x,t,e,DV.keep s h1,DVs.keep s h2⟩
end
end L2
namespace L2
open PySem PySem.Spec PyProof.Rows Builtin Builtin.Str
end L2
namespace L2
open PySem PySem.Spec PyProof.Rows Builtin Builtin.Str
abbrev RM:=V->List V->Hp->VK->Prop
section
variable {X:Cx}
variable {o e:Expr} {es:List Expr} {to:TE} {t:TA} {apos cpos:Pos}
end
section
variable {X:Cx} {H:Hp} {Q:VK} {K:PySem.W.Frag} {z y:Str} {p:Addr} {ts:List Str}
end
end L2
namespace L2
open PySem PySem.Spec PyProof.Rows Builtin Builtin.Str
end L2
namespace L2
open PySem PySem.Spec PyProof.Rows Builtin Builtin.Str
section
variable {X:Cx} {σ:St} {H:Hp} {Q:VK} {K:PySem.W.Frag} {z y:Str} {R:Prop}
end
theorem ZfV {α:Type} {xs:List α} {i:Int} (h0:0<=i) (h:i<xs.length):∃ c,atI xs i=some c/\xs[i.toNat]?=some c:=by
 have hl:i.toNat<xs.length:=by omega
 exact ⟨xs[i.toNat],Zb8 (i:=i.toNat) (by simp [hl]) (by omega),by simp [hl]⟩
section
variable {H:Hp} {Q:VK} {z y:Str} {i:Int} {lo hi:Option Int}
end
def ZhI (K:PySem.W.Frag):RC:=fun xs H Q=>∃ p ys,xs=[.ref p]/\(SqL K H p ys\/SqT K H p ys)/\∀ l,H l=none->Q (.ref l) (upd H l (.lst ys))
theorem ZhJ {X:Cx}:CallR X (.type "list") (ZhI X.K):=ZeF
section
variable {H:Hp} {Q:VK} {K:PySem.W.Frag} {p:Addr} {xs:List V}
theorem Zeb (h:SqL K H p xs) (q:∀ l,H l=none->Q (.ref l) (upd H l (.lst xs))):ZhI K [.ref p] H Q:=⟨p,xs,rfl,.inl h,q⟩
end
theorem Zkw {α:Type} {xs:List α} {n:Nat} {v:α} (h:xs[n]?=some v) (e:xs.length=n+1):atI xs (-1)=some v:=by
 have hn:xs≠[]:=by intro z;rw [z] at e;simp at e
 have h2:xs=xs.dropLast++[v]:=by
  have h3:=List.dropLast_concat_getLast hn
  have h4:xs.getLast hn=v:=by
   rw [List.getLast_eq_getElem]
   obtain ⟨_,q⟩:=List.getElem?_eq_some_iff.mp h
   simpa [e] using q
  rw [h4] at h3
  exact h3.symm
 rw [h2]
 exact ZiI _ _
structure ClsF (K:PySem.W.Frag) (mg:Str->Option Value) (x:Str) (C:Addr):Prop where
 cl:Cls K C
 ms:PySem.W.makesIn K C=true
 kc:PySem.W.keepIn K (.ref C)=true
 mgC:mg x=some (.ref C)
def Zan (K:PySem.W.Frag) (C:Addr) (m qual:Str) (st:Stmt):Prop:=∃ f fd,Fun K m qual st f fd/\PySem.W.findIn K (.ref C) m=some (some (.ref f))/\PySem.W.isFn K (.ref f)=true
def MCal (P:Program) (w:World) (K:PySem.W.Frag) (mg:Str->Option Value) (base:Heap) (k:Nat) (C:Addr) (m:Str) (sp:Sp):Prop :=
 Cls K C/\∃ f fd ps,Meth K C m f/\FnOk P w K mg base CX0 k f fd ps sp/\Binds K fd ps []
def ICal (P:Program) (w:World) (K:PySem.W.Frag) (mg:Str->Option Value) (base:Heap) (k:Nat) (x:Str) (C:Addr) (sp:Sp):Prop :=
 mg x=some (.ref C)/\∃ f fd ps,Mk K C f/\FnOk P w K mg base CX0 k f fd ps sp/\Binds K fd ps []
section
variable {P:Program} {w:World} {K:PySem.W.Frag} {mg:Str->Option Value} {base:Heap}
theorem ZhK {C:Addr} {m qual:Str} {st:Stmt} {f:Addr} {oc:Value} {od an:Option Addr} {osl:Array (Option Value)} {kV doc pm cdv ct:Value}
  (a:PySem.W.findIn K (.ref C) m=some (some (.ref f))) (i:PySem.W.isFn K (.ref f)=true) (l:K.lookup f=some ⟨oc,od,.func (PySem.W.fnOf m qual (Za5 st) (ZaM st) (Zad st) .none kV doc pm an cdv ct),osl⟩)
  (c:PySem.W.codeIn K cdv qual=true) (k:PySem.W.keepIn K (.ref f)=true):Zan K C m qual st:=⟨f,_,ZjL l c k,a,i⟩
theorem Zaz {C:Addr} {m qual:Str} {st:Stmt} {N ps:List Str} {k:Nat} {sp:Sp} (D:Zan K C m qual st) (c:Cls K C) (S:FnScope N ps (Zad st)) (len:∀ vs H Q E,sp vs H Q E->vs.length=ps.length)
  (hb:∀ (kV doc pm:Value) (an:Option Addr) (cdv ct:Value) (us:List Value),us.length=ps.length->bindArgs (PySem.W.fnOf m qual (Za5 st) (ZaM st) (Zad st) .none kV doc pm an cdv ct) ⟨us,[]⟩=pure (ps.zip us))
  (hbody:∀ (f:Addr) (cdv:Value) (A:Around) (outer:List Env) (s:Shared) (H:Hp) (vs:List V) (Q:VK) (E:XK),Room k (A.deeper (envOfC qual (Zad st) s.heap.objs.size f cdv))->sp vs H Q E ->
   ∃ t,PSs (cxOf CX0 P w K mg base N qual (Zad st) f cdv A outer s H E).nox (ZaM st) t/\t { nx:=fun _ H'=>Q .non H',rt:=Q } (start N vs) H):MCal P w K mg base (k+1) C m sp:=by
 obtain ⟨f,fd,F,a,i⟩:=D
 exact ⟨c,f,fd,ps,⟨a,i,F.kp⟩,F.ok S len (hbody f),F.binds hb⟩
theorem Zdh {C:Addr} {x qual:Str} {st:Stmt} {N ps:List Str} {k:Nat} {sp:Sp} (D:Zan K C "__init__" qual st) (c:ClsF K mg x C) (S:FnScope N ps (Zad st)) (len:∀ vs H Q E,sp vs H Q E->vs.length=ps.length)
  (hb:∀ (kV doc pm:Value) (an:Option Addr) (cdv ct:Value) (us:List Value),us.length=ps.length->bindArgs (PySem.W.fnOf "__init__" qual (Za5 st) (ZaM st) (Zad st) .none kV doc pm an cdv ct) ⟨us,[]⟩=pure (ps.zip us))
  (hbody:∀ (f:Addr) (cdv:Value) (A:Around) (outer:List Env) (s:Shared) (H:Hp) (vs:List V) (Q:VK) (E:XK),Room k (A.deeper (envOfC qual (Zad st) s.heap.objs.size f cdv))->sp vs H Q E ->
   ∃ t,PSs (cxOf CX0 P w K mg base N qual (Zad st) f cdv A outer s H E).nox (ZaM st) t/\t { nx:=fun _ H'=>Q .non H',rt:=Q } (start N vs) H):ICal P w K mg base (k+1) x C sp:=by
 obtain ⟨f,fd,F,a,i⟩:=D
 exact ⟨c.mgC,f,fd,ps,⟨c.ms,a,i,c.kc⟩,F.ok S len (hbody f),F.binds hb⟩
theorem MCal.mono {j k:Nat} {C:Addr} {m:Str} {sp:Sp} (c:MCal P w K mg base j C m sp) (h:j<=k):MCal P w K mg base k C m sp :=
 let ⟨cl,f,fd,ps,M,F,b⟩:=c
 ⟨cl,f,fd,ps,M,F.mono h,b⟩
end
section
variable {X:Cx} {k:Nat} {C:Addr} {sp:Sp} {x m:Str} {p pos apos:Pos} {e o:Expr} {es:List Expr} {ta:TE} {t:TA}
theorem ZcD {pl:Sem Bool} (c:MCal X.prog X.w X.K X.mg X.base k C m sp) (hr:Room k X.A) (he:PE X o ta) (ha:PA X (e::es) t)
  (hst:starEach (e::es) X.env=(false,eval e X.env)::starEach es X.env:=by rfl) (hpl:(backTo pos (starEach es X.env)).any (·.1)=false:=by rfl)
  (ht:eval (.Call (.Attribute o m apos) (e::es) [] pos) X.env=(do
   let ov <- eval o X.env
   standAt apos.atName
   let (f,first) <- holding [ov] (getMethod ov m pl)
   callWith pos f first (backTo pos (starEach (e::es) X.env)) (backToKw pos (keywordEach [] X.env))):=by rfl) :
  PE X (.Call (.Attribute o m apos) (e::es) [] pos) (tMeth C m sp [] E0 ta t):=by
 obtain ⟨cl,f,fd,ps,M,F,b⟩:=c
 exact Zj9 he cl M F hr b .nil pass0 ha hst hpl ht
theorem Zbs {pl:Sem Bool} (c:MCal X.prog X.w X.K X.mg X.base k C m sp) (hr:Room k X.A) (he:PE X o ta)
  (ht:eval (.Call (.Attribute o m apos) [] [] pos) X.env=(do
   let ov <- eval o X.env
   standAt apos.atName
   let (f,first) <- holding [ov] (getMethod ov m pl)
   callWith pos f first (backTo pos (starEach [] X.env)) (backToKw pos (keywordEach [] X.env))):=by rfl) :
  PE X (.Call (.Attribute o m apos) [] [] pos) (tMeth C m sp [] E0 ta tNil):=by
 obtain ⟨cl,f,fd,ps,M,F,b⟩:=c
 exact ZiF he cl M F hr b .nil pass0 ht
theorem Zdi (c:ICal X.prog X.w X.K X.mg X.base k x C sp) (hr:Room (k+1) X.A) (hg:Gl X x) (ha:PA X (e::es) t) (hdb:(x==("__debug__" : Str))=false:=by decide)
  (he:starEach (e::es) X.env=(false,eval e X.env)::starEach es X.env:=by rfl) (hpl:(backTo pos (starEach es X.env)).any (·.1)=false:=by rfl) :
  PE X (.Call (.Name x p) (e::es) [] pos) (tMake C sp [] E0 t):=by
 obtain ⟨m,f,fd,ps,M,F,b⟩:=c
 exact Zka M F hr hg m b .nil pass0 ha hdb he hpl
def tMethD (T:Addr->Sp->Prop) (m:Str) (ta:TE) (t:TA):TE:=fun σ H Q=>ta σ H fun x H1=>∃ a C dx fs sp,x=.ref a/\H1 a=some (.ins C dx fs)/\fs.lookup m=none/\T C sp/\t σ H1 fun vs H2=>sp (x::vs) H2 Q E0
theorem ZfW {pl:Sem Bool} {T:Addr->Sp->Prop} (c:∀ C sp,T C sp->MCal X.prog X.w X.K X.mg X.base k C m sp) (hr:Room k X.A) (he:PE X o ta) (ha:PA X (e::es) t)
  (hst:starEach (e::es) X.env=(false,eval e X.env)::starEach es X.env:=by rfl) (hpl:(backTo pos (starEach es X.env)).any (·.1)=false:=by rfl)
  (ht:eval (.Call (.Attribute o m apos) (e::es) [] pos) X.env=(do
   let ov <- eval o X.env
   standAt apos.atName
   let (f,first) <- holding [ov] (getMethod ov m pl)
   callWith pos f first (backTo pos (starEach (e::es) X.env)) (backToKw pos (keywordEach [] X.env))):=by rfl) :
  PE X (.Call (.Attribute o m apos) (e::es) [] pos) (tMethD T m ta t):=by
 intro pins s σ H Q I h
 refine PySem.W.methodCall_KW (pl:=pl) (thn (he pins s σ H _ I h) fun u s1 ⟨x,H1,I1,rx,a,C,dx,fs,sp,ex,ea,l,hT,q⟩=>?_) ht
 obtain ⟨cl,f,fd,ps,M,F,b⟩:=c C sp hT
 subst ex
 obtain rfl:u=Value.ref a:=rx
 refine ZbE I1 ea cl M l ?_
 refine PySem.W.callWith_K (first:=[.ref a]) (h₀:=X.base) I.ok.mod.kin M.kp (thn (ha pos pins s1 σ H1 _ I1 q) fun us s2 ⟨vs,H2,I2,r,q2⟩=>⟨I2.kIn,?_⟩) hst hpl
 exact Zey (us:=.ref a::us) (vs:=.ref a::vs) (dvs:=[]) (E:=E0) F hr b .nil pass0 I2 (.cons rfl r) (by rw [List.append_nil];exact q2)
theorem Zb0 {pl:Sem Bool} {T:Addr->Sp->Prop} (c:∀ C sp,T C sp->MCal X.prog X.w X.K X.mg X.base k C m sp) (hr:Room k X.A) (he:PE X o ta)
  (ht:eval (.Call (.Attribute o m apos) [] [] pos) X.env=(do
   let ov <- eval o X.env
   standAt apos.atName
   let (f,first) <- holding [ov] (getMethod ov m pl)
   callWith pos f first (backTo pos (starEach [] X.env)) (backToKw pos (keywordEach [] X.env))):=by rfl) :
  PE X (.Call (.Attribute o m apos) [] [] pos) (tMethD T m ta tNil):=by
 intro pins s σ H Q I h
 refine PySem.W.methodCall_KW (pl:=pl) (thn (he pins s σ H _ I h) fun u s1 ⟨x,H1,I1,rx,a,C,dx,fs,sp,ex,ea,l,hT,q⟩=>?_) ht
 obtain ⟨cl,f,fd,ps,M,F,b⟩:=c C sp hT
 subst ex
 obtain rfl:u=Value.ref a:=rx
 refine ZbE I1 ea cl M l ?_
 exact PySem.W.callWith_K0 (first:=[.ref a]) I1.kIn M.kp (Zey (us:=[.ref a]) (vs:=[.ref a]) (dvs:=[]) (E:=E0) F hr b .nil pass0 I1 (.cons rfl .nil) q)
end
section
variable {σ:St} {H:Hp} {Q:VK} {K:PySem.W.Frag} {a C dx:Addr} {fs:List (Str×V)} {f m:Str} {v:V} {D:Ends} {sp:Sp}
theorem rd_fld {ta:TE} (q:ta σ H fun x H1=>∃ a C dx fs v,x=.ref a/\H1 a=some (.ins C dx fs)/\Cls K C/\NoAttr K C f/\fs.lookup f=some v/\Q v H1):tFld K ta f σ H Q:=q
theorem Zam {R:V->Prop} (h:H a=some (.ins C dx fs)) (c:Cls K C) (n:NoAttr K C f) (l:fs.lookup f=some v) (q:R v):∃ a' C dx fs v,V.ref a=.ref a'/\H a'=some (.ins C dx fs)/\Cls K C/\NoAttr K C f/\fs.lookup f=some v/\R v:=⟨a,C,dx,fs,v,rfl,h,c,n,l,q⟩
theorem Zkx {ta tv:TE} (q:tv σ H fun y H1=>ta σ H1 fun x H2=>∃ a C dx fs,x=.ref a/\H2 a=some (.ins C dx fs)/\Cls K C/\NoAttr K C f/\fs.length<1000/\D.nx σ (upd H2 a (.ins C dx (putF f y fs)))):sFld K ta tv f D σ H:=q
theorem ZaK {R:Hp->Prop} {y:V} (h:H a=some (.ins C dx fs)) (c:Cls K C) (n:NoAttr K C f) (l:fs.length<1000) (q:R (upd H a (.ins C dx (putF f y fs)))):∃ a' C dx fs,V.ref a=.ref a'/\H a'=some (.ins C dx fs)/\Cls K C/\NoAttr K C f/\fs.length<1000/\R (upd H a' (.ins C dx (putF f y fs))):=⟨a,C,dx,fs,rfl,h,c,n,l,q⟩
theorem Zky {ta:TE} {t:TA} (q:ta σ H fun x H1=>∃ a dx fs,x=.ref a/\H1 a=some (.ins C dx fs)/\fs.lookup m=none/\t σ H1 fun vs H2=>sp (x::(vs++[])) H2 Q E0):tMeth C m sp [] E0 ta t σ H Q:=q
theorem ZaV {R:Prop} (h:H a=some (.ins C dx fs)) (l:fs.lookup m=none) (q:R):∃ a' dx fs,V.ref a=.ref a'/\H a'=some (.ins C dx fs)/\fs.lookup m=none/\R:=⟨a,dx,fs,rfl,h,l,q⟩
theorem ZiW (q:∀ p,H p=none->Q (.ref p) (upd H p (.dK []))):tDNewK σ H Q:=q
theorem ZiX {td ty tx:TE} (q:td σ H fun x H1=>∃ a,x=.ref a/\IsD H1 a/\ty σ H1 fun y H2=>tx σ H2 fun z H3=>∃ o,DGet H3 a y o/\Q (o.getD z) H3):tDGet2 td ty tx σ H Q:=q
theorem isD_k {kvs:List (Key×V)} (h:H a=some (.dK kvs)):IsD H a:=.inl ⟨kvs,.inl h⟩
end
section
variable {σ:St} {H:Hp} {Q:VK} {a:Addr} {kvs:List (Key×V)} {k:Key} {v:V} {R:Prop}
theorem Zkz {td ty:TE} (q:td σ H fun x H1=>ty σ H1 fun y H2=>∃ a v,x=.ref a/\DGet H2 a y (some v)/\Q v H2):tDGet td ty σ H Q:=q
theorem ZkA {td ty tv:TE} {D:Ends} (q:tv σ H fun v H1=>td σ H1 fun x H2=>ty σ H2 fun y H3=>∃ a H4,x=.ref a/\DPut H3 a y v H4/\D.nx σ H4):sDPut td ty tv D σ H:=q
theorem Zbt {S:Hp->Prop} {i:Int} (h:H a=some (.dK kvs)) (hl:kvs.length<sizeLine) (q:S (upd H a (.dK (putK kvs (Sum.inl i) v)))):∃ a' H4,V.ref a=.ref a'/\DPut H a' (.int i) v H4/\S H4:=⟨a,_,rfl,DPut.k (k:=Sum.inl i) h hl,q⟩
end
theorem SqL.updI {K:PySem.W.Frag} {H:Hp} {a p C dx:Addr} {fs:List (Str×V)} {xs:List V} {o:HO} (h:SqL K H a xs) (n:H p=some (.ins C dx fs)):SqL K (upd H p o) a xs:=by
 rcases h with (h|⟨ob,h⟩)|h
 .exact .inl (.inl (by rw [Zaf (ZaF h n (by intro z;cases z))];exact h))
 .exact .inl (.inr ⟨ob,by rw [Zaf (ZaF h n (by intro z;cases z))];exact h⟩)
 .exact .inr h
theorem Same.wr {H H':Hp} {l:Addr} {o:HO} (s:Same H H') (n:H l=none):Same H (upd H' l o):=fun b u e=>by rw [Zaf (Zai e n)];exact s b u e
theorem Same.fresh {H H':Hp} {q:Addr} (s:Same H H') (hq:H' q=none):H q=none:=by
 cases e:H q with
 | none=>rfl
 | some o=>rw [s _ _ e] at hq;cases hq
section
variable {σ:St} {H:Hp} {p:Addr}
end
section
variable {σ:St} {H:Hp} {p:Addr} {xs:List V} {v:V}
theorem ZkB {to ti:TE} {t:TSet} {Q:St->Hp->Prop} (q:to σ H fun o H1=>ti σ H1 fun i H2=>t o i v H2 fun H3=>Q σ H3):gSub to ti t v σ H Q:=q
theorem ZkC {Q:Hp->Prop} {k:Int} {j:Nat} (h:H p=some (.lst xs)) (hj:ixN xs.length k=some j) (q:Q (upd H p (.lst (xs.set j v)))):rSetL (.ref p) (.int k) v H Q:=⟨p,xs,k,j,rfl,rfl,h,hj,q⟩
theorem ZkD {n j:Nat} {k:Int} (e:k=(j:Int)) (h:j<n):ixN n k=some j:=by
 unfold ixN
 rw [if_pos (by omega),if_pos (by omega),e,Int.toNat_natCast]
end
section
variable {σ:St} {H:Hp} {p a:Addr} {K:PySem.W.Frag} {xs:List V}
end
mutual
theorem Dt.eq_self:∀ d:Dt,Dt.eq d d=true
 | .non=>by unfold Dt.eq;rfl
 | .bl b=>by unfold Dt.eq;exact beq_self_eq_true b
 | .int i=>by unfold Dt.eq;exact beq_self_eq_true i
 | .str x=>by unfold Dt.eq;exact beq_self_eq_true x
 | .lst ds=>by unfold Dt.eq;exact Dt.eqs_self ds
 | .tup ds=>by unfold Dt.eq;exact Dt.eqs_self ds
theorem Dt.eqs_self:∀ ds:List Dt,Dt.eqs ds ds=true
 | []=>by unfold Dt.eqs;rfl
 | d::r=>by unfold Dt.eqs;rw [Dt.eq_self d,Dt.eqs_self r];rfl
end
section
variable {K:PySem.W.Frag} {H:Hp} {Q:VK} {x y:V} {d:Dt}
theorem Zdj (h1:DV K H d x) (h2:DV K H d y) (hd:d.dep<=64) (q:Q (.bl false) H):rNeD K x y H Q:=⟨d,d,h1,h2,hd,by rw [Dt.eq_self];exact q⟩
theorem Zcd {i:Int}:DV K H (.int i) (.int i):=by unfold DV;rfl
theorem ZeQ {i:Str}:DV K H (.str i) (.str i):=by unfold DV;rfl
theorem Zcf:DVs K H [] []:=by unfold DVs;rfl
theorem ZaG {d:Dt} {r:List Dt} {x:V} {t:List V} (h:DV K H d x) (h2:DVs K H r t):DVs K H (d::r) (x::t):=by unfold DVs;exact ⟨x,t,rfl,h,h2⟩
theorem ZhL {a:Addr} {xs:List V} {ds:List Dt} (h:SqT K H a xs) (h2:DVs K H ds xs):DV K H (.tup ds) (.ref a):=by unfold DV;exact ⟨a,xs,rfl,h,h2⟩
theorem dv_lst {a:Addr} {xs:List V} {ds:List Dt} (h:SqL K H a xs) (h2:DVs K H ds xs):DV K H (.lst ds) (.ref a):=by unfold DV;exact ⟨a,xs,rfl,h,h2⟩
end
theorem ZkE {K:PySem.W.Frag} {H:Hp} {p:Addr} {xs:List V} {Q:VK} {n:Nat} (h:SqL K H p xs) (e:xs.length=n) (q:Q (.int n) H):rLenS K [.ref p] H Q:=ZhE h (by rw [e];exact q)
theorem ZiY {σ σ':St} {H:Hp} {i:Nat} {v:V} {R:St->Hp->Prop} (e:σ.set i (some v)=σ') (q:R σ' H):gName i v σ H R:=by subst e;exact q
theorem ZkF {σ:St} {H:Hp} {Q:VK} {C:Addr} {sp:Sp} {t:TA} (q:t σ H fun vs H1=>∀ x dx,H1 x=none->H1 dx=none->dx≠x->sp (.ref x::(vs++[])) (upd (upd H1 dx (.own x)) x (.ins C dx [])) (fun v H2=>v=.non/\Q (.ref x) H2) E0):tMake C sp [] E0 t σ H Q:=q
theorem Same.made {H H':Hp} {x dx C:Addr} {o:HO} (hx:H x=none) (hd:H dx=none) (k:∀ b u,(upd (upd H dx o) x (.ins C dx [])) b=some u->b≠x->H' b=some u):Same H H':=fun b u e =>
 k b u (by rw [Zaf (Zai e hx),Zaf (Zai e hd)];exact e) (Zai e hx)
def Imm (u:HO):Prop:=(∃ xs,u=.tup xs)\/∃ o w,u=.frz o w
def SameI (H H':Hp):Prop:=∀ b u,H b=some u->Imm u->H' b=some u
theorem SameI.refl (H:Hp):SameI H H:=fun _ _ h _=>h
theorem SameI.trans {H H1 H2:Hp} (a:SameI H H1) (b:SameI H1 H2):SameI H H2:=fun c u h i=>b c u (a c u h i) i
theorem Same.imm {H H':Hp} (s:Same H H'):SameI H H':=fun b u h _=>s b u h
theorem SameI.upd {H:Hp} {a:Addr} {u o:HO} (h:H a=some u) (n:¬ Imm u):SameI H (upd H a o):=fun b v e i=>by
 rw [Zaf (ZaF e h (fun z=>n (z▸i)))];exact e
theorem SameI.new {H:Hp} {a:Addr} {o:HO} (h:H a=none):SameI H (L2.upd H a o):=(Same.new h).imm
theorem SameI.tup {K:PySem.W.Frag} {H H':Hp} {a:Addr} {xs:List V} (e:SameI H H') (h:SqT K H a xs):SqT K H' a xs:=by
 rcases h with (h|⟨o,h⟩)|h
 .exact .inl (.inl (e _ _ h (.inl ⟨_,rfl⟩)))
 .exact .inl (.inr ⟨o,e _ _ h (.inr ⟨_,_,rfl⟩)⟩)
 .exact .inr h
theorem ZcE {xs:List V}:¬ Imm (.lst xs):=by rintro (⟨_,z⟩|⟨_,_,z⟩)<;>cases z
theorem Zdk {kvs:List (Key×V)}:¬ Imm (.dK kvs):=by rintro (⟨_,z⟩|⟨_,_,z⟩)<;>cases z
theorem ZdU {C dx:Addr} {fs:List (Str×V)}:¬ Imm (.ins C dx fs):=by rintro (⟨_,z⟩|⟨_,_,z⟩)<;>cases z
def SameND (H H':Hp):Prop:=∀ b u,H b=some u->(∀ kvs,u≠.dK kvs)->H' b=some u
theorem SameND.refl (H:Hp):SameND H H:=fun _ _ h _=>h
theorem SameND.trans {H H1 H2:Hp} (a:SameND H H1) (b:SameND H1 H2):SameND H H2:=fun c u h i=>b c u (a c u h i) i
theorem Same.nd {H H':Hp} (s:Same H H'):SameND H H':=fun b u h _=>s b u h
theorem SameND.imm {H H':Hp} (s:SameND H H'):SameI H H':=fun b u h i=>s b u h (by
 rintro kvs rfl
 exact Zdk i)
theorem SameND.seq {K:PySem.W.Frag} {H H':Hp} {a:Addr} {xs:List V} (e:SameND H H') (h:SqL K H a xs):SqL K H' a xs:=by
 rcases h with (h|⟨o,h⟩)|h
 .exact .inl (.inl (e _ _ h (by intro _ z;cases z)))
 .exact .inl (.inr ⟨o,e _ _ h (by intro _ z;cases z)⟩)
 .exact .inr h
abbrev Row:=Str×Option Int
noncomputable def rowVs:Row->List V
 | (w,none)=>[.str w]
 | (w,some n)=>[.str w,.int n]
noncomputable def rowD:Row->Dt
 | (w,none)=>.tup [.str w]
 | (w,some n)=>.tup [.str w,.int n]
def RowAt (K:PySem.W.Frag) (H:Hp) (r:Row) (v:V):Prop:=∃ t,v=.ref t/\SqT K H t (rowVs r)
def RowsAt (K:PySem.W.Frag) (H:Hp) (rs:List Row) (xs:List V):Prop:=rs.length=xs.length/\∀ (i:Nat) (r:Row) (x:V),rs[i]?=some r->xs[i]?=some x->RowAt K H r x
theorem RowAt.keep {K:PySem.W.Frag} {H H':Hp} {r:Row} {v:V} (h:RowAt K H r v) (s:SameI H H'):RowAt K H' r v:=let ⟨t,e,q⟩:=h;⟨t,e,s.tup q⟩
theorem RowsAt.keep {K:PySem.W.Frag} {H H':Hp} {rs:List Row} {xs:List V} (h:RowsAt K H rs xs) (s:SameI H H'):RowsAt K H' rs xs:=⟨h.1,fun i r x h1 h2=>(h.2 i r x h1 h2).keep s⟩
theorem RowsAt.nil {K:PySem.W.Frag} {H:Hp}:RowsAt K H [] []:=⟨rfl,fun i r x h=>by simp at h⟩
theorem RowsAt.tail {K:PySem.W.Frag} {H:Hp} {r:Row} {rs:List Row} {x:V} {xs:List V} (h:RowsAt K H (r::rs) (x::xs)):RowAt K H r x/\RowsAt K H rs xs :=
 ⟨h.2 0 r x rfl rfl,by have:=h.1;simpa using this,fun i r' x' h1 h2=>h.2 (i+1) r' x' (by simpa using h1) (by simpa using h2)⟩
theorem RowsAt.cons {K:PySem.W.Frag} {H:Hp} {r:Row} {rs:List Row} {x:V} {xs:List V} (h1:RowAt K H r x) (h:RowsAt K H rs xs):RowsAt K H (r::rs) (x::xs):=by
 refine ⟨by simp [h.1],fun i r' x' e1 e2=>?_⟩
 cases i with
 | zero=>cases e1;cases e2;exact h1
 | succ i=>exact h.2 i r' x' (by simpa using e1) (by simpa using e2)
theorem RowAt.dv {K:PySem.W.Frag} {H:Hp} {r:Row} {v:V} (h:RowAt K H r v):DV K H (rowD r) v:=by
 obtain ⟨t,rfl,q⟩:=h
 obtain ⟨w,o⟩:=r
 cases o with
 | none=>exact ZhL q (ZaG ZeQ Zcf)
 | some n=>exact ZhL q (ZaG ZeQ (ZaG Zcd Zcf))
theorem RowsAt.dvs {K:PySem.W.Frag} {H:Hp}:∀ {rs:List Row} {xs:List V},RowsAt K H rs xs->DVs K H (rs.map rowD) xs
 | [],[],_=>Zcf
 | r::rs,x::xs,h=>ZaG h.tail.1.dv h.tail.2.dvs
 | [],x::xs,h=>by have:=h.1;simp at this
 | r::rs,[],h=>by have:=h.1;simp at this
noncomputable def putFn (f:Int->Int) (i v:Int):Int->Int:=fun j=>if j=i then v else f j
def DictF (H:Hp) (d:Addr) (f:Int->Int) (m:Nat):Prop:=∃ kvs,H d=some (.dK kvs)/\kvs.length<=m/\∀ i:Int,(valV kvs (Sum.inl i:Key)).getD (.int 0)=.int (f i)
def StoreAt (H:Hp) (d:Addr) (f:Int->Int) (m:Nat):Prop:=∃ kvs,H d=some (.dK kvs)/\kvs.length<=m/\(kvs.map (·.1)).Nodup/\(∀ p∈kvs,∃ i n:Int,p=(Sum.inl i,.int n)/\n≠0)/\∀ i:Int,(valV kvs (Sum.inl i:Key)).getD (.int 0)=.int (f i)
theorem DictF.put {H:Hp} {d:Addr} {kvs:List (Key×V)} {f:Int->Int} {m:Nat} (hl:kvs.length<=m) (hf:∀ i:Int,(valV kvs (Sum.inl i:Key)).getD (.int 0)=.int (f i)) (i v:Int):DictF (upd H d (.dK (putK kvs (Sum.inl i) (.int v)))) d (putFn f i v) (m+1):=by
 refine ⟨_,Zab,Nat.le_trans (ZaY ..) (Nat.add_le_add_right hl 1),fun j=>?_⟩
 rw [ZbJ]
 unfold putFn
 by_cases e:j=i
 .subst e
  rw [if_pos rfl,if_pos rfl]
  rfl
 .rw [if_neg (fun z=>e (Sum.inl.inj z)),if_neg e]
  exact hf j
theorem ZeR {κ:Type} [DecidableEq κ] (k j:κ):∀ kvs:List (κ×V),valV (dropK kvs k) j=if j=k then none else valV kvs j
 | []=>by
  have:dropK ([]:List (κ×V)) k=[]:=rfl
  rw [this,ZfO]
  split<;>rfl
 | p::r=>by
  have ih:=ZeR k j r
  by_cases e:p.1=k
  .rw [ZeL e,ih]
   by_cases z:j=k
   .rw [if_pos z,if_pos z]
   .rw [if_neg z,if_neg z,ZaJ (fun q=>z (q.symm.trans e))]
  .rw [ZeM e]
   by_cases q:p.1=j
   .rw [ZaL q,ZaL q,if_neg (fun z=>e (q.trans z))]
   .rw [ZaJ q,ZaJ q,ih]
theorem ZeS {κ:Type} [DecidableEq κ] {kvs:List (κ×V)} {k:κ} (v:V) (hn:(kvs.map (·.1)).Nodup):((putK kvs k v).map (·.1)).Nodup:=by
 cases e:valV kvs k with
 | none=>exact Zkh v hn e
 | some u =>
  have hk:(kvs.any fun kv=>decide (kv.1=k))=true:=by rw [Zbr,e];rfl
  unfold putK
  rw [if_pos hk,List.map_map]
  have:((fun x:κ×V=>x.1) ∘ fun kv:κ×V=>if kv.1=k then (kv.1,v) else kv)=fun x=>x.1:=by
   funext x
   show (if x.1=k then (x.1,v) else x).1=x.1
   split<;>rfl
  rw [this]
  exact hn
theorem ZfX {κ:Type} [DecidableEq κ] {kvs:List (κ×V)} {k:κ} {v:V} {p:κ×V} (h:p∈putK kvs k v):p=(k,v)\/p∈kvs:=by
 unfold putK at h
 split at h
 .obtain ⟨q,hq,e⟩:=List.mem_map.mp h
  by_cases z:q.1=k
  .rw [if_pos z] at e;left;rw [<- e,z]
  .rw [if_neg z] at e;right;rw [<- e];exact hq
 .rcases List.mem_append.mp h with h|h
  .exact .inr h
  .exact .inl (List.mem_singleton.mp h)
theorem StoreAt.put {H:Hp} {d:Addr} {kvs:List (Key×V)} {f:Int->Int} {m:Nat} (hl:kvs.length<=m) (hn:(kvs.map (·.1)).Nodup) (hz:∀ p∈kvs,∃ i n:Int,p=(Sum.inl i,.int n)/\n≠0) (hf:∀ i:Int,(valV kvs (Sum.inl i:Key)).getD (.int 0)=.int (f i)) (i v:Int) (hv:v≠0) :
  StoreAt (upd H d (.dK (putK kvs (Sum.inl i) (.int v)))) d (putFn f i v) (m+1):=by
 obtain ⟨kvs',e1,e2,e3⟩:=DictF.put (H:=H) (d:=d) hl hf i v
 rw [Zab] at e1
 cases e1
 refine ⟨_,Zab,e2,ZeS _ hn,fun p hp=>?_,e3⟩
 rcases ZfX hp with rfl|hp
 .exact ⟨i,v,rfl,hv⟩
 .exact hz p hp
theorem StoreAt.drop {H:Hp} {d:Addr} {kvs:List (Key×V)} {f:Int->Int} {m:Nat} (hl:kvs.length<=m) (hn:(kvs.map (·.1)).Nodup) (hz:∀ p∈kvs,∃ i n:Int,p=(Sum.inl i,.int n)/\n≠0) (hf:∀ i:Int,(valV kvs (Sum.inl i:Key)).getD (.int 0)=.int (f i)) (i:Int) :
  StoreAt (upd H d (.dK (dropK kvs (Sum.inl i)))) d (putFn f i 0) (m+1):=by
 refine ⟨_,Zab,Nat.le_trans (Zd3 ..) (Nat.le_trans hl (Nat.le_succ _)),Zd7 hn,fun p hp=>hz p (ZeN hp),fun j=>?_⟩
 rw [ZeR]
 unfold putFn
 by_cases e:j=i
 .subst e
  rw [if_pos rfl,if_pos rfl]
  rfl
 .rw [if_neg (fun z=>e (Sum.inl.inj z)),if_neg e]
  exact hf j
theorem StoreAt.same {H H':Hp} {d:Addr} {f:Int->Int} {m:Nat} (h:StoreAt H d f m) (e:H' d=H d):StoreAt H' d f m:=let ⟨kvs,a,b⟩:=h;⟨kvs,e.trans a,b⟩
theorem DictF.same {H H':Hp} {d:Addr} {f:Int->Int} {m:Nat} (h:DictF H d f m) (e:H' d=H d):DictF H' d f m:=let ⟨kvs,a,b⟩:=h;⟨kvs,e.trans a,b⟩
theorem StoreAt.le {H:Hp} {d:Addr} {f:Int->Int} {m m':Nat} (h:StoreAt H d f m) (e:m<=m'):StoreAt H d f m':=let ⟨kvs,a,b,c⟩:=h;⟨kvs,a,Nat.le_trans b e,c⟩
theorem DictF.le {H:Hp} {d:Addr} {f:Int->Int} {m m':Nat} (h:DictF H d f m) (e:m<=m'):DictF H d f m':=let ⟨kvs,a,b,c⟩:=h;⟨kvs,a,Nat.le_trans b e,c⟩
section
variable {σ:St} {H:Hp} {Q:VK} {a:Addr} {kvs:List (Key×V)}
theorem ZiZ {td ty tx:TE} (q:td σ H fun x H1=>∃ a,x=.ref a/\IsD H1 a/\ty σ H1 fun y H2=>tx σ H2 fun z H3=>∃ kvs k,H3 a=some (.dK kvs)/\y=kV k/\(∀ v,valV kvs k=some v->Q v (upd H3 a (.dK (dropK kvs k))))/\(valV kvs k=none->Q z H3)):tDPop2 td ty tx σ H Q:=q
end
section
variable {σ:St} {H:Hp} {K:PySem.W.Frag} {a l:Addr} {xs:List V} {n:Nat} {t:TGs} {Q:St->Hp->Prop} {v:V} {r:List V} {g:TG} {u:TGs}
theorem Zdl (h:SqT K H a xs) (hl:xs.length=n) (q:t xs σ H Q):gTup K n t (.ref a) σ H Q:=⟨a,xs,rfl,h,hl,q⟩
theorem Zca (q:g v σ H fun σ' H'=>u r σ' H' Q):gCons g u (v::r) σ H Q:=⟨v,r,rfl,q⟩
theorem ZhM (q:Q σ H):gNil [] σ H Q:=⟨rfl,q⟩
end
section
variable {σ:St} {H:Hp} {p a:Addr} {K:PySem.W.Frag} {xs:List V}
def compNx (Pv:Nat->Hp->Prop) (i:Nat) (σ:St):St->Hp->Prop:=fun σ2 H2=>Pv i H2/\∃ v,σ2=v::σ
theorem Zdm {tc:TT} {te:TE} {R:Hp->Prop} (Pv:Nat->Hp->Prop) (h0:Pv 0 (upd H p (.lst []))) (hl:∀ i H',Pv i H'->SqL K H' a xs)
  (hs:∀ (i:Nat) (x:V) (H':Hp),xs[i]?=some x->Pv i H'->tc (some x::σ) H' fun b H1=>if b=true then te (some x::σ) H1 fun y H2=>∃ ys,H2 p=some (.lst ys)/\ys.length<sizeLine/\compNx Pv (i+1) σ (some x::σ) (upd H2 p (.lst (ys++[y]))) else compNx Pv (i+1) σ (some x::σ) H1)
  (fin:∀ H',Pv xs.length H'->R H'):tLoopC 1 (gName 0) tc te (Itl K a) p R σ H:=by
 refine ⟨fun i m σ' H'=>m=xs.length-i/\i<=xs.length/\Pv i H'/\∃ v,σ'=v::σ,⟨xs.length,by omega,Nat.zero_le _,h0,none,rfl⟩,?_⟩
 rintro i m σ' H' ⟨rfl,hi,hp,v,rfl⟩
 have hs':=hl i H' hp
 by_cases hlt:i<xs.length
 .refine .inr ⟨⟨xs,xs[i],hs',by simp [hlt]⟩,compNx Pv (i+1) σ,fun σ2 H2 ⟨e,v',e'⟩=>⟨xs.length-(i+1),by omega,rfl,hlt,e,v',e'⟩,fun x H1 ⟨e,y⟩=>?_⟩
  subst e
  have hx:=y xs hs'
  refine Zd8 ?_
  simp only [List.set_cons_zero]
  exact hs i x _ hx hp
 .have e:i=xs.length:=by omega
  subst e
  exact .inl ⟨⟨xs,hs',Nat.le_refl _⟩,fin H' hp⟩
theorem ZhN {σ:St} {H:Hp} {R:Bool->Hp->Prop} (q:R true H):tNoIf σ H R:=q
end
theorem RowsAt.snoc {K:PySem.W.Frag} {H:Hp} {rs:List Row} {xs:List V} {r:Row} {x:V} (h:RowsAt K H rs xs) (h1:RowAt K H r x):RowsAt K H (rs++[r]) (xs++[x]):=by
 refine ⟨by simp [h.1],fun i r' x' e1 e2=>?_⟩
 by_cases hi:i<rs.length
 .rw [List.getElem?_append_left hi] at e1
  rw [List.getElem?_append_left (by rw [<- h.1];exact hi)] at e2
  exact h.2 i r' x' e1 e2
 .have hi2:i=rs.length:=by
   have:=(List.getElem?_eq_some_iff.mp e1).1
   simp at this
   omega
  subst hi2
  rw [List.getElem?_append_right (Nat.le_refl _),Nat.sub_self] at e1
  rw [List.getElem?_append_right (by rw [h.1];exact Nat.le_refl _),h.1,Nat.sub_self] at e2
  cases e1
  cases e2
  exact h1
theorem RowsAt.ins {K:PySem.W.Frag} {H:Hp} {rs:List Row} {xs:List V} {r:Row} {x:V} (h:RowsAt K H rs xs) (h1:RowAt K H r x) (k:Nat):RowsAt K H (rs.take k++r::rs.drop k) (xs.take k++x::xs.drop k):=by
 have ht:RowsAt K H (rs.take k) (xs.take k):=⟨by simp [h.1],fun i r' x' e1 e2=>by
  rw [List.getElem?_take] at e1 e2
  split at e1
  .rename_i hk
   rw [if_pos hk] at e2
   exact h.2 i r' x' e1 e2
  .cases e1⟩
 have hd:RowsAt K H (r::rs.drop k) (x::xs.drop k):=.cons h1 ⟨by simp [h.1],fun i r' x' e1 e2=>by
  rw [List.getElem?_drop] at e1 e2
  exact h.2 _ r' x' e1 e2⟩
 refine ⟨by rw [List.length_append,List.length_append,ht.1,hd.1],fun i r' x' e1 e2=>?_⟩
 by_cases hi:i<(rs.take k).length
 .rw [List.getElem?_append_left hi] at e1
  rw [List.getElem?_append_left (by rw [<- ht.1];exact hi)] at e2
  exact ht.2 i r' x' e1 e2
 .rw [List.getElem?_append_right (by omega)] at e1
  rw [List.getElem?_append_right (by rw [<- ht.1];omega),<- ht.1] at e2
  exact hd.2 _ r' x' e1 e2
end L2
namespace L2
open PySem PySem.Spec PyProof.Rows PySem.Calls PySem.W
section
variable {Pr:Program} {wo:World} {Ar:Around} {Ex:Value->Shared->Prop} {sh:Shared} {Ty:String} {ro di:Addr} {cnt:Nat} {Pp:Nat->Value->Prop} {Okd:Heap->Prop}
theorem dcol {Rr:List Value->Shared->Prop} (Sr:KdlSrc Pr wo Ty ro di cnt Pp Okd) (h0:Ar.handled=none) (hO:Okd sh.heap) (hN:cnt<=sizeLine)
  (fin:∀ (hp:Heap) (tn:Nat) (its:Array Value),(∀ b u,sh.heap.get? b=some u->hp.get? b=some u)->sh.heap.objs.size<hp.objs.size->ItemsOf Pp its cnt->Rr its.toList { sh with heap:=hp,toks:=tn }) :
  wpAny (model Pr wo) Ar (collect (.ref ro)) Rr Ex sh:=by
 have lt2:=Sr.there _ hO
 have lt1:sh.heap.objs.size<(sh.heap.push { cls:=.type "list", data:=.seq ([]:List Value).toArray }).objs.size:=by rw [size_push'];exact Nat.lt_succ_self _
 unfold collect
 refine wpAny_bind (wpAny_runValue (codeAny_builtin (entry_proto_collect') ?_))
 rw [Around.under_plainId (PySem.F.plain_proto_collect) (_)]
 show wpAny _ (Ar.in1) (newList [] >>= fun q=>again (.builtin "list.__iadd__" ⟨[q,.ref ro],[]⟩)) _ _ sh
 refine wpAny_bind (wpAny_newObj_type (?_))
 refine wpAny_pure ⟨plainId_quiet (PySem.F.plain_list_iadd) (_),codeAny_builtin (entry_list_iadd') ?_⟩
 rw [Around.under_plainId (PySem.F.plain_list_iadd) (_)]
 have g1:(sh.heap.push { cls:=.type "list", data:=.seq ([]:List Value).toArray }).get? sh.heap.objs.size=some { cls:=.type "list", data:=.seq #[] }:=Heap.get?_push_size _ rfl
 show wpAny _ (Ar.in1) (Builtin.List.listExtendWith (.ref sh.heap.objs.size) (.ref ro) (.ref sh.heap.objs.size)) _ _ _
 have ext:=kdl_extend (A:=Ar) (s:={ sh with heap:=sh.heap.push { cls:=.type "list", data:=.seq ([]:List Value).toArray } })
  (R:=fun (rs:Result) (s2:Shared)=>∃ (hp:Heap) (tn:Nat) (its:Array Value) (ep:Nat),rs=.ok (.ret (.ref sh.heap.objs.size))/\s2={ sh with heap:=hp,toks:=tn } /\
   (∀ b u,sh.heap.get? b=some u->hp.get? b=some u)/\hp.get? sh.heap.objs.size=some { cls:=.type "list", dict:=none,data:=.seq its ep,slots:=#[] }/\ItemsOf Pp its cnt)
  Sr h0 (Sr.keep _ _ hO fun b _ u e=>Heap.get?_push_of_some _ e) sh.heap.objs.size (Nat.ne_of_gt lt2.1) (Nat.ne_of_gt lt2.2) (.ref sh.heap.objs.size) 0 g1
  (fun hp tn its ep kp at1 ok=>⟨hp,tn,its,ep,rfl,rfl,fun b u e=>kp b u (Nat.ne_of_lt (Heap.lt_size e)) (Heap.get?_push_of_some _ e),at1,ok⟩) hN
 refine wpAny_mono ext (fun fl s2 xx=>?_) fun er s2 xx=>?_
 .cases fl with
  | done fl2 =>
   obtain ⟨hp,tn,its,ep,e1,rfl,kp,at1,ok⟩:=xx
   cases e1
   show wpAny _ Ar (load sh.heap.objs.size >>= _) _ _ _
   exact wpAny_bind (wpAny_load at1 (wpAny_pure (fin hp tn its kp (Heap.lt_size at1) ok)))
  | again cc =>
   refine ⟨xx.1,codeAny_mono xx.2 fun rs s3 yy=>?_⟩
   obtain ⟨hp,tn,its,ep,rfl,rfl,kp,at1,ok⟩:=yy
   show wpAny _ Ar (load sh.heap.objs.size >>= _) _ _ _
   exact wpAny_bind (wpAny_load at1 (wpAny_pure (fin hp tn its kp (Heap.lt_size at1) ok)))
 .obtain ⟨_,_,_,_,e1,_⟩:=xx
  cases e1
end
def ZkG (ns:List Int) (R:List Int->Prop):Prop:=∀ ms:List Int,ms.Perm ns->ms.Pairwise (·<=·)->R ms
def Zfo (K:PySem.W.Frag):RC:=fun xs H Q=>∃ d ns,xs=[.ref d]/\ns.length<64/\((∃ kvs:List (Key×V),H d=some (.dK kvs)/\kvs.map (·.1)=ns.map Sum.inl)\/SqL K H d (ns.map V.int)) /\
 ZkG ns fun ms=>∀ p,H p=none->Q (.ref p) (upd H p (.lst (ms.map V.int)))
theorem Zct:∀ {ns:List Int} {us:List Value},IntsAre us ns->Vals (ns.map V.int) us:=fun h=>Zde h
theorem Zec:∀ {ns:List Int} {us:List Value},Vals (ns.map V.int) us->IntsAre us ns:=by
 intro ns
 induction ns with
 | nil=>intro us h;cases h;exact .nil
 | cons n r ih =>
  intro us h
  cases h with
  | cons a b =>
   obtain ⟨t,rfl⟩:=a
   exact .cons _ _ (ih b)
theorem Zed:∀ (us:List Value) (ns:List Int),us.length=ns.length->(∀ (j:Nat) (v:Value) (n:Int),us[j]?=some v->ns[j]?=some n->∃ t,v=.int n t)->IntsAre us ns
 | [],[],_,_=>.nil
 | u::us,n::ns,hl,h=>by
  obtain ⟨t,rfl⟩:=h 0 u n rfl rfl
  exact .cons _ _ (Zed us ns (by simpa using hl) fun j v m h1 h2=>h (j+1) v m (by simpa using h1) (by simpa using h2))
 | [],n::ns,hl,_=>by simp at hl
 | u::us,[],hl,_=>by simp at hl
theorem Zdn {X:Cx} (hc:X.calm=true):CallR X (.builtin "sorted") (Zfo X.K):=by
 intro pins s σ H xs us Q I r h
 obtain ⟨d,ns,rfl,h64,hs,q⟩:=h
 obtain ⟨u,rfl,rx⟩:=vals1 r
 cases rx
 rcases hs with ⟨kvs,hd,hk⟩|hl
 .obtain ⟨hz,lo,vs,hkv,hD⟩:=ZgD I.hok hd
  obtain ⟨ep,hat⟩:=hD.dictAt
  have hh:X.A.in1.in1.handled=none:=I.ok.hd hc
  refine Calls.call_function_entry (kind_sorted) (plain_sorted) (entry_sorted) (args_sorted1 _) ?_
  unfold Builtin.«sorted»
  refine wpAny_bind (m:=checkCount "sorted" 1 1 (_)) (wpAny_pure (?_))
  have hvl:vs.length=ns.length:=by
   have:=hkv.length
   have h2:=congrArg List.length hk
   rw [List.length_map,List.length_map] at h2
   omega
  refine wpAny_bind (dcol (Ar:=X.A.in1) (kdl_dict (knd:=ZaI X.prog X.w) (kvs:=vs) (ep:=ep) lo) (I.ok.hd hc) hat (by rw [hvl];exact Nat.le_trans (Nat.le_of_lt h64) (by decide)) fun hp tn its kp lt ok=>?_)
  have hI:IntsAre its.toList ns:=by
   refine Zed _ _ (by rw [Array.length_toList,ok.1,hvl]) fun j v n h1 h2=>?_
   obtain ⟨key,x,e1,e2⟩:=ok.2 j v (by rw [<- Array.getElem?_toList];exact h1)
   have e3:(vs.map (·.1))[j]?=some key:=by rw [List.getElem?_map,e1];rfl
   rw [<- hkv.keys,hk,List.getElem?_map,h2] at e3
   cases e3
   rw [Zgt] at e2
   rcases ZaH e2 with ⟨i,t,e4,rfl⟩|⟨y,t,e4,rfl⟩
   .cases e4
    exact ⟨t,rfl⟩
   .cases e4
  have hl2:its.toList.length<64:=by rw [Array.length_toList,ok.1,hvl];exact h64
  refine wpAny_bind (wpAny_newList (?_) (Nat.le_trans (Nat.le_of_lt hl2) (by decide)))
  have at1:(hp.push (seqObj "list" its.toList.toArray 0)).get? hp.objs.size=some (seqObj "list" its.toList.toArray 0):=Heap.get?_push_size _ rfl
  refine wpAny_bind (wpAny_holding (wpAny_call_entry (slot_list_sort) ⟨_,at1,rfl⟩ (entry_list_sort) (list_sort_tree at1 hI hl2 fun out ms a1 a2 a3=>⟨_,rfl,?_⟩) (args_list_sort _)))
  refine wpAny_pure ⟨_,rfl,?_⟩
  obtain ⟨e5,at2⟩:=sortedHeap_at (out:=out) at1
  have hml:ms.length<=sizeLine:=by rw [a2.length_eq];exact Nat.le_trans (Nat.le_of_lt h64) (by decide)
  refine ⟨.ref hp.objs.size,_,I.laid (t':=tn) (fun b u e=>?_) (Nat.le_of_lt lt) (show ObjOk X.prog X.w _ _ _ (.lst (ms.map V.int)) from ⟨by rw [List.length_map];exact hml,out.toList,e5,Zct a1,at2⟩),rfl,q ms a2 a3 _ (I.hok.fresh (Nat.le_of_lt lt))⟩
  have lb:=Heap.lt_size (kp b u e)
  rw [sortedHeap_old (Nat.ne_of_lt lb) (by rw [size_push'];exact Nat.lt_succ_of_lt lb)]
  exact Heap.get?_push_of_some _ (kp b u e)
 .obtain ⟨its,rv,pl,hz⟩:=I.list hl
  have hI:=Zec rv
  have hl2:its.length<64:=by rw [<- rv.length,List.length_map];exact h64
  refine sorted_ints pl.isList hI hl2 fun out ms a1 a2 a3=>?_
  obtain ⟨e5,at2⟩:=sortedAll_at s.heap its out
  have hml:ms.length<=sizeLine:=by rw [a2.length_eq];exact Nat.le_trans (Nat.le_of_lt h64) (by decide)
  exact ⟨.ref (s.heap.objs.size+1),_,I.laid (t':=s.toks) (fun b u e=>sortedAll_old e) (Nat.le_succ _) (show ObjOk X.prog X.w _ _ _ (.lst (ms.map V.int)) from ⟨by rw [List.length_map];exact hml,out.toList,e5,Zct a1,at2⟩),rfl,q ms a2 a3 _ (I.hok.fresh (Nat.le_succ _))⟩
section
variable {K:PySem.W.Frag} {H:Hp} {Q:VK} {d:Addr} {ns:List Int}
theorem ZdV {kvs:List (Key×V)} (h:H d=some (.dK kvs)) (hk:kvs.map (·.1)=ns.map Sum.inl) (h64:ns.length<64) (q:∀ ms:List Int,ms.Perm ns->ms.Pairwise (·<=·)->∀ p,H p=none->Q (.ref p) (upd H p (.lst (ms.map V.int)))):Zfo K [.ref d] H Q:=⟨d,ns,rfl,h64,.inl ⟨kvs,h,hk⟩,q⟩
theorem ZgJ (h:SqL K H d (ns.map V.int)) (h64:ns.length<64) (q:∀ ms:List Int,ms.Perm ns->ms.Pairwise (·<=·)->∀ p,H p=none->Q (.ref p) (upd H p (.lst (ms.map V.int)))):Zfo K [.ref d] H Q:=⟨d,ns,rfl,h64,.inr h,q⟩
end
section
variable {K:PySem.W.Frag} {H:Hp} {Q:VK} {t l b:Addr}
theorem ZeT {xs zs:List V} (h:H l=some (.lst xs)) (h2:H b=some (.lst zs)) (hz:xs.length+zs.length<=sizeLine) (q:Q .non (upd H l (.lst (xs++zs)))):Zhu (.ref l) [.ref b] H Q:=⟨l,b,xs,zs,rfl,rfl,h,h2,hz,q⟩
end
noncomputable def ZhO:List Str->Str->Nat
 | [],_=>0
 | a::r,x=>if a=x then 0 else ZhO r x+1
theorem ZbO:∀ {xs ys:List Int},xs.Pairwise (·<·)->ys.Pairwise (·<·)->(∀ i,i∈xs ↔ i∈ys)->xs=ys
 | [],[],_,_,_=>rfl
 | [],y::ys,_,_,h=>by have:=(h y).mpr (by simp);simp at this
 | x::xs,[],_,_,h=>by have:=(h x).mp (by simp);simp at this
 | x::xs,y::ys,h1,h2,h=>by
  obtain ⟨a1,a2⟩:=List.pairwise_cons.mp h1
  obtain ⟨b1,b2⟩:=List.pairwise_cons.mp h2
  have e:x=y:=by
   rcases List.mem_cons.mp ((h x).mp (by simp)) with z|z
   .exact z
   .rcases List.mem_cons.mp ((h y).mpr (by simp)) with w|w
    .exact w.symm
    .have:=a1 y w
     have:=b1 x z
     omega
  subst e
  rw [ZbO a2 b2 fun i=>?_]
  constructor
  .intro hi
   rcases List.mem_cons.mp ((h i).mp (List.mem_cons_of_mem _ hi)) with z|z
   .have:=a1 i hi;omega
   .exact z
  .intro hi
   rcases List.mem_cons.mp ((h i).mpr (List.mem_cons_of_mem _ hi)) with z|z
   .have:=b1 i hi;omega
   .exact z
theorem Zcu {ms:List Int} (h:ms.Pairwise (·<=·)) (hn:ms.Nodup):ms.Pairwise (·<·):=by
 induction ms with
 | nil=>exact .nil
 | cons a r ih =>
  obtain ⟨h1,h2⟩:=List.pairwise_cons.mp h
  obtain ⟨n1,n2⟩:=List.nodup_cons.mp hn
  refine List.pairwise_cons.mpr ⟨fun b hb=>?_,ih h2 n2⟩
  have:=h1 b hb
  have:a≠b:=fun z=>n1 (z▸hb)
  omega
end L2
namespace L2
open PySem PySem.Builtin PySem.Builtin.Str PySem.StrLaws
def Gap (w:Nat):List Nat->Prop
 | []=>True
 | [_]=>True
 | a::b::r=>a+w<=b/\Gap w (b::r)
theorem Gap.tail {w a:Nat} {r:List Nat} (h:Gap w (a::r)):Gap w r:=by
 cases r with
 | nil=>trivial
 | cons b r=>exact h.2
theorem Gap.ge {w a:Nat}:∀ {r:List Nat},Gap w (a::r)->∀ b∈r,a+w<=b
 | [],_,b,hb=>by simp at hb
 | c::r,h,b,hb=>by
  rcases List.mem_cons.mp hb with rfl|hb
  .exact h.1
  .have:=Gap.ge (r:=r) h.2 b hb
   have:=h.1
   omega
end L2
namespace L2
open PySem PySem.Builtin PySem.Builtin.Str PySem.StrLaws
section
variable {X:Cx} {pins:List (Addr×Obj)} {σ:St} {H:Hp} {s:Shared} {a:Addr} {o:Obj} {kvs:List (Key×V)}
theorem Inv.recolor {u v:HO} (I:Inv X pins σ H s) (h:H a=some u) (n1:∀ xs,u≠.tup xs) (n2:∀ b w,X.H₀ a≠some (.frz b w)) (n3:∀ ps,u≠.tbl ps) (n4:∀ x,u≠.own x) (new:ObjOk X.prog X.w (upd H a v) s.heap a v):Inv X pins σ (upd H a v) s:=by
 have ne:∀ b,H b=none->b≠a:=fun b e z=>by rw [z,h] at e;cases e
 refine ⟨I.ok,I.os,I.bare,⟨I.base.keep,I.base.slot,fun b ob e n hx=>?_,I.base.there,fun b xs e=>?_,fun b ob w e=>?_,fun b ps e=>?_⟩,I.loc,I.cell,?_,fun x c e=>?_,fun p hp=>?_,?_,I.len⟩
 .have:=I.base.free b ob e n hx
  rw [Zaf (ne b this)];exact this
 .have:=I.base.tups b xs e
  rw [Zaf (fun z=>by rw [z,h] at this;exact n1 xs (Option.some.inj this))];exact this
 .have:=I.base.frzs b ob w e
  rw [Zaf (fun z=>n2 ob w (by rw [<- z];exact e))];exact this
 .obtain ⟨more,e2⟩:=I.base.tbls b ps e
  exact ⟨more,by rw [Zaf (fun z=>by rw [z,h] at e2;exact n3 _ (Option.some.inj e2))];exact e2⟩
 .rw [Zaf (ne _ I.free)];exact I.free
 .rw [Zaf (ne _ (I.freeC x c e))];exact I.freeC x c e
 .obtain ⟨p1,p2,p3⟩:=I.pin p hp
  exact ⟨p1,by rw [Zaf (ne _ p2)];exact p2,p3⟩
 .intro b w e
  by_cases z:b=a
  .subst z
   rw [Zab] at e
   cases e
   exact new
  .rw [Zaf z] at e
   refine (I.hok b w e).stay (fun c x _ r=>r) (fun c r=>?_) fun c xs r=>?_
   .rw [Zaf (fun q=>by rw [q,h] at r;exact n4 b (Option.some.inj r))];exact r
   .rw [Zaf (fun q=>by rw [q,h] at r;exact n1 xs (Option.some.inj r))];exact r
def NFr (X:Cx):Addr->Prop:=fun a=>∀ o u,X.H₀ a≠some (.frz o u)
end
section
variable {σ:St} {H:Hp} {Q:VK} {D:Ends} {td:TE} {g:TG} {tc:TT} {te:TE} {tb:TS} {k:Nat} {a:Addr} {o:Obj} {kvs:List (Key×V)} {p:Addr}
theorem DGet.frz {k:Key} (e:H a=some (.frz o (.dK kvs))):DGet H a (kV k) (valV kvs k):=.inl ⟨kvs,k,.inr ⟨o,e⟩,rfl,rfl⟩
end
section
variable {K:PySem.W.Frag} {σ:St} {H:Hp} {D:Ends} {a C dx:Addr} {fs:List (Str×V)} {f:Str} {i j:Int}
theorem ZhP {ta tv:TE} {rd:V->V->Hp->VK->Prop} (q:ta σ H fun x H1=>∃ a C dx fs v,x=.ref a/\H1 a=some (.ins C dx fs)/\Cls K C/\NoAttr K C f/\fs.lookup f=some v/\tv σ H1 fun y H2=>rd v y H2 fun z H3=>∃ dx' fs',H3 a=some (.ins C dx' fs')/\fs'.length<1000/\D.nx σ (upd H3 a (.ins C dx' (putF f z fs')))):Zhl K ta tv rd f D σ H:=q
theorem ZfY {v:V} {R:Addr->Addr->V->Prop} (h:H a=some (.ins C dx fs)) (c:Cls K C) (n:NoAttr K C f) (l:fs.lookup f=some v) (q:R a C v):∃ a' C dx fs v,V.ref a=.ref a'/\H a'=some (.ins C dx fs)/\Cls K C/\NoAttr K C f/\fs.lookup f=some v/\R a' C v:=⟨a,C,dx,fs,v,rfl,h,c,n,l,q⟩
theorem ZkH {Q:VK} (q:Q (.int (i+j)) H):rAdd (.int i) (.int j) H Q:=⟨i,j,rfl,rfl,q⟩
theorem ZkI {Q:VK} (q:Q (.int (i-j)) H):rSub (.int i) (.int j) H Q:=⟨i,j,rfl,rfl,q⟩
end
def rSum (K:PySem.W.Frag):RC:=fun xs H Q=>∃ (p:Addr) (ns:List Int),xs=[.ref p]/\SqL K H p (ns.map V.int)/\Q (.int ns.sum) H
theorem ZjN {X:Cx} (hc:X.calm=true):CallR X (.builtin "sum") (rSum X.K):=by
 intro pins s σ H xs us Q I r h
 obtain ⟨p,ns,rfl,hq,q⟩:=h
 obtain ⟨u,rfl,rx⟩:=vals1 r
 cases rx
 obtain ⟨its,rv,pl,hz⟩:=I.list hq
 have hi:=Zec rv
 have hl:s.heap.IsList p its.toArray:=pl.isList
 obtain ⟨zs,hx⟩:=hi.allInts.items
 have hn:numsOf its.toArray.toList=ns:=by rw [show its.toArray.toList=its from rfl,hi.numsOf]
 rw [hx] at hl hn
 rw [nums_intItems] at hn
 refine sum_intListG (I.ok.hd hc) hl fun h' tk t' kp=>?_
 rw [preSum_eq,List.take_of_length_le (by simp),hn]
 exact ⟨.int ns.sum,H,I.kept (t':=tk) kp,⟨t',rfl⟩,q⟩
theorem rd_sum {K:PySem.W.Frag} {H:Hp} {Q:VK} {p:Addr} {ns:List Int} (h:SqL K H p (ns.map V.int)) (q:Q (.int ns.sum) H):rSum K [.ref p] H Q:=⟨p,ns,rfl,h,q⟩
end L2
namespace L2
open PySem PySem.Spec PyProof.Rows PySem.Calls
section
variable {H:Hp} {Q:VK} {σ:St}
end
section
variable {H:Hp} {Q:VK} {σ:St} {K:PySem.W.Frag} {p a:Addr} {xs ys:List V}
end
end L2
namespace L2
open PySem PySem.Spec PyProof.Rows PySem.Calls
theorem KV.at {kvs:List (Key×V)} {vs:List (Key×Value)}:KV kvs vs->∀ {i:Nat} {p:Key×V},kvs[i]?=some p->∃ u,vs[i]?=some (p.1,u)/\RelV p.2 u:=by
 intro h
 unfold KV at h
 induction h with
 | nil=>intro i p e;simp at e
 | @cons a b as bs ab _ ih =>
  intro i p e
  cases i with
  | zero =>
   cases e
   refine ⟨b.2,?_,ab.2⟩
   rw [ab.1]
   rfl
  | succ i=>exact ih (by simpa using e)
section
variable {σ:St} {H:Hp} {Q:VK} {D:Ends} {td:TE} {g:TG} {tb:TS} {a:Addr} {o:Obj} {kvs:List (Key×V)}
end
section
variable {σ:St} {H:Hp} {Q:VK}
end
end L2
namespace L2
open PySem PySem.Spec PyProof.Rows PySem.Calls
structure Fly (base h:Heap) (e T:Addr) (cls:Value):Prop where
 x:∃ oe vs oT ts,h.get? e=some oe/\oe.cls=cls/\oe.data=.fields vs/\vs[1]?=some (.ref T)/\h.get? T=some oT/\oT.data=.fields ts/\ts[3]?=some .none
 nT:base.get? T=none
 ne:T≠e
 dn:∀ o,h.get? e=some o->o.dict=none
structure Gone (base:Heap) (l:List Env) (e:Addr) (cls:Value) (ch:List Addr) (h h':Heap):Prop where
 st:base.StaysIn h'
 fr:h'.FunFrames base l
 fly:∃ T,Fly base h' e T cls/\(T∈ch\/h.objs.size<=T)
 keep:∀ b o,b∉l.filterMap (·.frame)->b≠e->b∉ch->h.get? b=some o->h'.get? b=some o
 slot:∀ b o,b∈l.filterMap (·.frame)->h.get? b=some o->∃ sl,h'.get? b=some { o with slots:=sl }
section
variable {M:Model} {A:Around} {E:Value->Shared->Prop} {s:Shared} {base:Heap} {env:Env} {outer:List Env} {L e:Addr} {Q:Unit->Shared->Prop}
end
def CXE (P:Program) (w:World) (base:Heap):CXT:=fun outer H s E e s'=>∃ (a T C:Addr) (H':Hp),e=.ref a/\Fly base s'.heap a T (.ref C)/\base.get? a=none/\H' a=none/\H' T=none/\s.heap.get? a=none/\s.heap.get? T=none /\
 s'.os=s.os/\AllBare s'.gens/\Un (frs outer) [] H H' s.heap s'.heap/\HOk P w H' s'.heap/\E e (some C) H'
theorem ObjOk.is {P:Program} {w:World} {H:Hp} {h:Heap} {a:Addr} {o:HO} (x:ObjOk P w H h a o):∃ q,h.get? a=some q:=by
 cases o with
 | lst xs=>obtain ⟨_,_,_,_,e⟩:=x;exact ⟨_,e⟩
 | tup xs=>obtain ⟨_,_,_,p⟩:=x;obtain ⟨_,e,_⟩:=p;exact ⟨_,e⟩
 | dK kvs=>obtain ⟨_,_,_,_,o,_,_,e,_⟩:=x;exact ⟨_,e⟩
 | dT kvs=>obtain ⟨_,_,_,_,o,_,_,e,_⟩:=x;exact ⟨_,e⟩
 | set S n=>obtain ⟨o,_,_,_,e,_⟩:=x;exact ⟨_,e⟩
 | ins C dx fs=>obtain ⟨_,_,_,e,_⟩:=x;exact ⟨_,e⟩
 | own y=>exact x
 | xd fs=>obtain ⟨_,⟨_,_,_,e,_⟩,_⟩:=x;exact ⟨_,e⟩
 | rng lo hi=>obtain ⟨_,_,_,e⟩:=x;exact ⟨_,e⟩
 | frz ob u=>exact ⟨_,x.1⟩
 | tbl ps=>exact ⟨_,x⟩
 | met f y=>exact ⟨_,x⟩
 | ext φ=>exact x.2.1
section
variable {X:Cx} {pins:List (Addr×Obj)} {σ:St} {H':Hp} {s':Shared} {h':Heap} {a:Addr} {cls:Value} {ch:List Addr}
end
end L2
namespace L2
open PySem PySem.Spec PyProof.Rows PySem.Calls
def CalE (P:Program) (w:World) (K:PySem.W.Frag) (mg:Str->Option Value) (base:Heap) (k:Nat) (x:Str) (sp:Sp):Prop :=
 ∃ f,mg x=some (.ref f)/\∃ fd ps,FnOk P w K mg base (CXE P w base) k f fd ps sp/\PySem.W.keepIn K (.ref f)=true/\Binds K fd ps []
theorem CalE.mono {P:Program} {w:World} {K:PySem.W.Frag} {mg:Str->Option Value} {base:Heap} {j k:Nat} {x:Str} {sp:Sp} (c:CalE P w K mg base j x sp) (h:j<=k):CalE P w K mg base k x sp :=
 let ⟨f,m,fd,ps,F,kp,b⟩:=c
 ⟨f,m,fd,ps,F.mono h,kp,b⟩
section
variable {X:Cx} {pins pins':List (Addr×Obj)} {σ σ':St} {H:Hp} {s:Shared} {E:XK}
end
section
variable {X:Cx} {pins pins':List (Addr×Obj)} {σ:St} {H:Hp} {s s':Shared} {E:XK} {e:Value}
end
end L2
namespace L2
open PySem PySem.Spec PyProof.Rows PySem.Calls
def Zfp (Pv:Nat->Hp->Prop) (i:Nat) (σ:St):St->Hp->Prop:=fun σ2 H2=>Pv i H2/\∃ u v,σ2=u::v::σ
end L2
namespace L2
open PySem PySem.Spec PyProof.Rows PySem.Calls
section
variable {prog:Program} {w:World} {A:Around} {E:Value->Shared->Prop} {s:Shared} {r:Addr}
end
abbrev Exc (x:Str) (C:Addr) (mg:Str->Option Value) (base:Heap):Prop:=OwnCls x C [.type "ValueError", .type "Exception", .type "BaseException", .type "object"] "ValueError.__new__" mg base
end L2
namespace L2
open PySem PySem.Spec PyProof.Rows PySem.Calls PySem.W
theorem Zi0:∀ i j:Fin 16,i≠j->∀ led:Bool,((⟨7,#[i.val % 8],#[],0,led,0,true⟩:SetTable).freeSlot (hashInt (j.val:Int))).any (fun p=>decide (p.1≠i.val % 8)&&!p.2)=true:=by decide +kernel
theorem ZhQ:∀ j:Fin 16,∀ led:Bool,(SetTable.fresh 0 0 led).freeSlot (hashInt (j.val:Int))=some (j.val % 8,false):=by decide +kernel
theorem ZcF:∀ j:Fin 16,hashInt (j.val:Int)=(j.val:Int):=by decide +kernel
theorem Zi1 {pl:List Nat} (hz:pl.length<=2) (up:∀ a b,pl=[a,b]->a<b):∀ i,i<=pl.length->SetTable.below pl.toArray (match i with|0=>0|k+1=>pl.getD k 0+1)=i:=by
 intro i hi
 match pl,hz,up with
 | [],_,_ =>
  have:i=0:=by simpa using hi
  subst this
  rfl
 | [a],_,_ =>
  have hi:i<=1:=hi
  match i,hi with
  | 0,_=>simp [SetTable.below,SetTable.below.go]
  | 1,_=>simp [SetTable.below,SetTable.below.go]
 | [a,b],_,up =>
  have hab:=up a b rfl
  have hi:i<=2:=hi
  match i,hi with
  | 0,_=>simp [SetTable.below,SetTable.below.go]
  | 1,_=>simp [SetTable.below,SetTable.below.go];omega
  | 2,_=>simp [SetTable.below,SetTable.below.go]
theorem ZhR {α:Type} (nx:Nat->Nat) (xs:List α) (hz:xs.length<=2):(pickOrder nx xs.toArray).toList.Perm xs:=by
 match xs,hz with
 | [],_=>exact .refl _
 | [x],_=>simp [pickOrder,pickOrder.go,Nat.mod_one]
 | [x,y],_ =>
  rcases Nat.mod_two_eq_zero_or_one (nx 0) with h|h
  .simp [pickOrder,pickOrder.go,h,Nat.mod_one]
  .simp [pickOrder,pickOrder.go,h,Nat.mod_one]
   exact List.Perm.swap x y []
theorem Zbk:Slot "set_iterator" "__next__" "set_iterator.__next__" := Slot.of (owner := "set_iterator") (n := "__next__") (by rw [typeLookup_type,builtinLookup_eq_fast];kernel_rfl) (by decide +kernel) (by decide +kernel) (by decide +kernel) (by first|exact .inl (by decide +kernel)|exact .inr (by decide +kernel)) (by rw [isSubtype_type];kernel_rfl)
theorem ZhS:Slot "set_iterator" "__iter__" "set_iterator.__iter__" := Slot.of (owner := "set_iterator") (n := "__iter__") (by rw [typeLookup_type,builtinLookup_eq_fast];kernel_rfl) (by decide +kernel) (by decide +kernel) (by decide +kernel) (by first|exact .inl (by decide +kernel)|exact .inr (by decide +kernel)) (by rw [isSubtype_type];kernel_rfl)
theorem ZcZ:entryFor table "set_iterator.__next__" = some Builtin.«set_iterator.__next__»:=entryFor_of_tree (by kernel_rfl)
theorem ZhT:entryFor table "set_iterator.__iter__" = some Builtin.«dict_keyiterator.__iter__»:=entryFor_alias (id' := "dict_keyiterator.__iter__") (by kernel_rfl) rfl (by decide +kernel) (by kernel_rfl)
theorem ZdW:entryFor table "set.__iter__" = some Builtin.«frozenset.__iter__»:=entryFor_alias (id' := "frozenset.__iter__") (by kernel_rfl) rfl (by decide +kernel) (by kernel_rfl)
theorem ZfZ:Manifest.owners.lookup (String.ofList ['r','o','t','a','r','e','t','i','_','t','e','s'].reverse)=some Manifest.sig_set_iterator:=by kernel_rfl
theorem Zee (a:Value):argsOk "set_iterator.__next__" ⟨[a],[]⟩:=by
 unfold argsOk;rw [signature?_of (id := "set_iterator.__next__") (n:=['_','_','t','x','e','n','_','_']) (o:=['r','o','t','a','r','e','t','i','_','t','e','s']) (by kernel_rfl) ZfZ];kernel_rfl
theorem Zi2 (a:Value):argsOk "set_iterator.__iter__" ⟨[a],[]⟩:=by
 unfold argsOk;rw [signature?_of (id := "set_iterator.__iter__") (n:=['_','_','r','e','t','i','_','_']) (o:=['r','o','t','a','r','e','t','i','_','t','e','s']) (by kernel_rfl) ZfZ];kernel_rfl
theorem Zau {M:Model} {A:Around} {E:Value->Shared->Prop} {s:Shared} {α:Type} {c:Prop} [Decidable c] {t e:Sem α} {Q:α->Shared->Prop} (h1:c->wpAny M A t Q E s) (h2:¬ c->wpAny M A e Q E s):wpAny M A (if c then t else e) Q E s:=by
 by_cases h:c
 .rw [if_pos h];exact h1 h
 .rw [if_neg h];exact h2 h
noncomputable def byT (w:World):Bool:=w.params.followText "set-order"
noncomputable def tabOf (w:World) (pl:List Nat):SetTable:=⟨7,pl.toArray,#[],0,!byT w,0,true⟩
noncomputable def setObj (w:World) (es:List (Int×Value)) (ep:Nat) (pl:List Nat):Obj:={ cls:=.type "set", dict:=none,data:=.set es.toArray ep (tabOf w pl) }
structure SetIs (w:World) (h:Heap) (d:Addr) (es:List (Int×Value)) (ep:Nat) (pl:List Nat):Prop where
 ob:h.get? d=some (setObj w es ep pl)
 sz:pl.length=es.length
 le:es.length<=2
 up:∀ a b,pl=[a,b]->a<b
theorem SetIs.fits {w:World} {h:Heap} {d:Addr} {es:List (Int×Value)} {ep:Nat} {pl:List Nat} (S:SetIs w h d es ep pl):(tabOf w pl).fits es.toArray.size=true:=by
 have:=S.sz
 have:=S.le
 simp [SetTable.fits,SetTable.fill,tabOf]
 omega
theorem SetIs.keep {w:World} {h h':Heap} {d:Addr} {es:List (Int×Value)} {ep:Nat} {pl:List Nat} (S:SetIs w h d es ep pl) (k:∀ o,h.get? d=some o->h'.get? d=some o):SetIs w h' d es ep pl:=⟨k _ S.ob,S.sz,S.le,S.up⟩
noncomputable def siObj (d:Addr) (n ep sl i:Nat):Obj:={ cls:=.type "set_iterator", data:=.fields #[.int (sl:Int) 0,.int (i:Int) 0,.ref d,.int (n:Int) 0,.int (ep:Int) 0] }
noncomputable def ordE (w:World) (d:Addr) (ep:Nat) (es:List (Int×Value)):List (Int×Value):=if byT w then (pickOrder (w.params.setOrder d ep) es.toArray).toList else es
theorem Zcv {w:World} {d:Addr} {ep:Nat} {es:List (Int×Value)} (hz:es.length<=2):(ordE w d ep es).Perm es:=by
 unfold ordE
 split
 .exact ZhR _ es hz
 .exact .refl _
noncomputable def slotAt (w:World) (pl:List Nat) (i:Nat):Nat:=if byT w then 0 else match i with|0=>0|k+1=>pl.getD k 0+1
section
variable {prog:Program} {w:World} {A:Around} {E:Value->Shared->Prop} {s:Shared} {d it:Addr} {es:List (Int×Value)} {ep:Nat} {pl:List Nat}
theorem Za1 {Q:(Array (Int×Value)×Nat×SetTable)->Shared->Prop} (S:SetIs w s.heap d es ep pl) (h:Q (es.toArray,ep,tabOf w pl) s):wpAny (model prog w) A (setState d) Q E s:=wpAny_setState_of S.ob rfl S.fits h
theorem Zcb {Q:Bool->Shared->Prop} (h:Q (byT w) s):wpAny (model prog w) A setsByText Q E s:=wpAny_bind (wpAny_askSetting (wpAny_pure h))
theorem ZhU {Q:Bool->Shared->Prop} (S:SetIs w s.heap d es ep pl) (h:Q false s):wpAny (model prog w) A (setDrawn d) Q E s:=by
 unfold setDrawn
 refine wpAny_bind (Za1 S ?_)
 refine wpAny_bind (Zcb ?_)
 have key:∀ (b c:Bool),c=false->Q (!b&&c) s:=fun b c hc=>by subst hc;rw [Bool.and_false];exact h
 exact wpAny_pure (key _ _ rfl)
theorem Zi3 {Q:Array (Int×Value)->Shared->Prop} (S:SetIs w s.heap d es ep pl) (hb:byT w=true) (h:Q (ordE w d ep es).toArray s):wpAny (model prog w) A (setWalk d) Q E s:=by
 unfold setWalk
 refine wpAny_bind (Za1 S ?_)
 refine wpAny_bind (Zcb ?_)
 rw [hb]
 dsimp only
 refine Zau (fun _=>?_) (fun z=>absurd rfl z)
 refine wpAny_bind (wpAny_askSetting (wpAny_pure ?_))
 unfold ordE at h
 rw [if_pos hb] at h
 exact h
theorem Zf0 {Q:Option (Value×Nat)->Shared->Prop} (S:SetIs w s.heap d es ep pl) {i:Nat} (hi:i<=es.length) (h:Q ((ordE w d ep es)[i]?.map fun e=>(e.2,slotAt w pl (i+1))) s):wpAny (model prog w) A (setNext d (slotAt w pl i) i ep) Q E s:=by
 unfold setNext
 refine wpAny_bind (Za1 S ?_)
 refine wpAny_bind (Zcb ?_)
 cases hb:byT w with
 | true =>
  refine Zau (fun _=>?_) (fun z=>absurd rfl z)
  dsimp only
  refine Zau (fun z=>absurd z (by simp)) (fun _=>?_)
  refine wpAny_bind (Zi3 S hb (wpAny_pure ?_))
  rw [List.getElem?_toArray]
  have e:∀ j,slotAt w pl j=0:=fun j=>by unfold slotAt;rw [if_pos hb]
  rw [e] at h |-
  exact h
 | false =>
  refine Zau (fun z=>absurd z (by decide)) (fun _=>?_)
  dsimp only
  refine Zau (fun z=>absurd z (show ¬ ((false:Bool)=true) from Bool.false_ne_true)) (fun _=>?_)
  have ht:tabOf w pl=⟨7,pl.toArray,#[],0,true,0,true⟩:=by unfold tabOf;rw [hb];rfl
  rw [ht]
  refine wpAny_bind (wpAny_of_eq (a:=()) rfl (wpAny_pure ?_))
  have hbel:SetTable.below pl.toArray (slotAt w pl i)=i:=by
   unfold slotAt
   rw [hb]
   exact Zi1 (by rw [S.sz];exact S.le) S.up i (by rw [S.sz];exact hi)
  dsimp only
  rw [hbel,List.getElem?_toArray,List.getElem?_toArray]
  unfold ordE at h
  rw [hb,if_neg Bool.false_ne_true] at h
  rcases Nat.lt_or_ge i es.length with hlt|hge
  .have h1:=List.getElem?_eq_getElem hlt
   have h2:=List.getElem?_eq_getElem (show i<pl.length by rw [S.sz];exact hlt)
   rw [h1] at h |-
   rw [h2]
   have e:slotAt w pl (i+1)=pl[i]'(by rw [S.sz];exact hlt)+1:=by
    unfold slotAt
    rw [hb,if_neg Bool.false_ne_true]
    show pl.getD i 0+1=_
    rw [List.getD_eq_getElem?_getD,h2]
    rfl
   rw [e] at h
   exact h
  .have h1:=List.getElem?_eq_none hge
   rw [h1] at h |-
   exact h
theorem Zi4 {Q:Value->Shared->Prop} (S:SetIs w s.heap d es ep pl) (hQ:Q (.ref s.heap.objs.size) { s with heap:=s.heap.push (siObj d es.length ep (slotAt w pl 0) 0) }):wpAny (model prog w) A (pyIter (.ref d)) Q E s:=by
 have hT:s.TypeIs (.ref d) "set" := ⟨_,S.ob,rfl⟩
 refine wpAny_pyIter_slot hT F.slot_set_iter (wpAny_call_entry F.slot_set_iter hT ZdW ?_ (F.args_set_iter_1 _))
 unfold Builtin.«frozenset.__iter__»
 refine wpAny_bind (wpAny_of_eq (a:=d) rfl ?_)
 refine wpAny_bind (wpAny_bind (wpAny_bind (Za1 S (wpAny_pure (wpAny_pure ?_)))))
 refine wpAny_bind (ZhU S ?_)
 dsimp only
 refine Zau (fun z=>absurd z Bool.false_ne_true) (fun _=>?_)
 refine wpAny_bind (wpAny_pure ?_)
 refine wpAny_bind (wpAny_bind (Za1 S (wpAny_pure ?_)))
 refine wpAny_bind (wpAny_newObj_type (wpAny_pure ⟨_,rfl, "set_iterator", _,⟨_,Heap.get?_push_size _ rfl,rfl⟩,Zbk.lookup,?_⟩))
 have e0:slotAt w pl 0=0:=by unfold slotAt;split<;>rfl
 unfold siObj at hQ
 rw [e0] at hQ
 simpa [rawInt] using hQ
theorem Zdo {n sl i:Nat} {Q:Value->Shared->Prop} (hit:s.heap.get? it=some (siObj d n ep sl i)) (h:Q (.ref it) s):wpAny (model prog w) A (pyIter (.ref it)) Q E s:=by
 have hT:s.TypeIs (.ref it) "set_iterator" := ⟨_,hit,rfl⟩
 refine wpAny_pyIter_slot hT ZhS (wpAny_call_entry ZhS hT ZhT ?_ (Zi2 _))
 show wpAny _ _ (ret (.ref it)) _ _ s
 exact wpAny_pure ⟨_,rfl, "set_iterator", _,hT,Zbk.lookup,h⟩
theorem ZkJ {i:Nat} {x:Int×Value} {Q:Option Value->Shared->Prop} (S:SetIs w s.heap d es ep pl) (hit:s.heap.get? it=some (siObj d es.length ep (slotAt w pl i) i)) (hx:(ordE w d ep es)[i]?=some x)
  (hQ:∀ h',h'.get? it=some (siObj d es.length ep (slotAt w pl (i+1)) (i+1))->Heap.SameBut it s.heap h'->Q (some x.2) { s with heap:=h' }):wpAny (model prog w) A (pyNext (.ref it)) Q E s:=by
 have hT:s.TypeIs (.ref it) "set_iterator" := ⟨_,hit,rfl⟩
 have hi:i<=es.length:=by
  have h1:=(List.getElem?_eq_some_iff.mp hx).1
  have h2:=(Zcv (w:=w) (d:=d) (ep:=ep) S.le).length_eq
  omega
 unfold pyNext
 refine wpAny_bind (wpAny_attempt (wpAny_callSpecial?_slot (name:=Str.ofString "__next__") hT Zbk (wpAny_call_entry Zbk hT ZcZ ?_ (Zee _))))
 unfold Builtin.«set_iterator.__next__»
 refine wpAny_bind (wpAny_of_eq (a:=(.ref it,[])) rfl ?_)
 refine wpAny_bind (wpAny_fieldsOf hit rfl ?_)
 dsimp only
 refine wpAny_bind (wpAny_bind (Za1 S (wpAny_pure ?_)))
 refine Zau (fun z=>absurd z (by simp)) (fun _=>?_)
 simp only [Int.toNat_natCast]
 refine wpAny_bind (Zf0 S hi ?_)
 rw [hx]
 dsimp only [Option.map]
 refine wpAny_bind (wpAny_setField hit rfl (show 0<5 by decide) ?_)
 have g1:(s.heap.update it (Obj.mapFields (·.setIfInBounds 0 (rawInt ((slotAt w pl (i+1):Nat):Int))))).get? it=some (siObj d es.length ep (slotAt w pl (i+1)) i):=Heap.get?_update_self _ hit rfl
 have b1:Heap.SameBut it s.heap (s.heap.update it (Obj.mapFields (·.setIfInBounds 0 (rawInt ((slotAt w pl (i+1):Nat):Int))))):=Heap.SameBut.update ..
 generalize s.heap.update it _=h1 at g1 b1 |-
 refine wpAny_bind (wpAny_setField (s:={ s with heap:=h1 }) g1 rfl (show 1<5 by decide) ?_)
 have g2:(h1.update it (Obj.mapFields (·.setIfInBounds 1 (rawInt ((i:Int)+1))))).get? it=some (siObj d es.length ep (slotAt w pl (i+1)) (i+1)):=Heap.get?_update_self _ g1 rfl
 exact wpAny_pure ⟨_,rfl,wpAny_pure (hQ _ g2 (b1.trans (Heap.SameBut.update ..)))⟩
theorem si_end {Q:Option Value->Shared->Prop} (hh:A.handled=none) (S:SetIs w s.heap d es ep pl) (hit:s.heap.get? it=some (siObj d es.length ep (slotAt w pl es.length) es.length))
  (hQ:∀ h',Heap.ExtBut it s.heap h'->Q none { s with heap:=h' }):wpAny (model prog w) A (pyNext (.ref it)) Q E s:=by
 have hT:s.TypeIs (.ref it) "set_iterator" := ⟨_,hit,rfl⟩
 have hx:(ordE w d ep es)[es.length]?=none:=List.getElem?_eq_none (by rw [(Zcv (w:=w) (d:=d) (ep:=ep) S.le).length_eq];exact Nat.le_refl _)
 unfold pyNext
 refine wpAny_bind (wpAny_attempt (wpAny_callSpecial?_slot (name:=Str.ofString "__next__") hT Zbk (wpAny_call_entry Zbk hT ZcZ ?_ (Zee _))))
 unfold Builtin.«set_iterator.__next__»
 refine wpAny_bind (wpAny_of_eq (a:=(.ref it,[])) rfl ?_)
 refine wpAny_bind (wpAny_fieldsOf hit rfl ?_)
 dsimp only
 refine wpAny_bind (wpAny_bind (Za1 S (wpAny_pure ?_)))
 refine Zau (fun z=>absurd z (by simp)) (fun _=>?_)
 simp only [Int.toNat_natCast]
 refine wpAny_bind (Zf0 S (Nat.le_refl _) ?_)
 rw [hx]
 dsimp only [Option.map]
 refine wpAny_bind (wpAny_setField hit rfl (show 2<5 by decide) ?_)
 refine wpAny_bind ?_
 simp only [newExc,newTuple]
 refine wpAny_bind (wpAny_newObj_type ?_ (by size_fits))
 refine wpAny_bind (m:=firstArgMember _ _) (wpAny_of_eq (a:=Value.none) (by first|rfl|(simp only [firstArgMember];rfl)) ?_)
 refine wpAny_newObj_type ?_ (by size_fits)
 simp only [raiseNew]
 refine wpAny_bind (wpAny_handled ?_)
 rw [show A.in1.handled=none from hh]
 refine wpAny_bind (wpAny_pure (wpAny_throw ?_))
 refine wpAny_bind (wpAny_isInstance (T := "StopIteration") (b:=true) ⟨_,Heap.get?_push_size _ rfl,rfl⟩ isSubtype_stop ?_)
 exact wpAny_pure (hQ _ (((Heap.SameBut.update ..).extBut.push _).push _))
theorem ZhV (hh:A.handled=none) (I:Addr) (hne:d≠I) (sz:pl.length=es.length) (le:es.length<=2) (up:∀ a b,pl=[a,b]->a<b):Walks prog w A I [I,d] [I] es.length (fun i v=>∃ x,(ordE w d ep es)[i]?=some x/\v=x.2) (fun i h=>h.get? I=some (siObj d es.length ep (slotAt w pl i) i)/\SetIs w h d es ep pl) where
 sub:=fun b hb=>by simp at hb;simp [hb]
 frame:=fun _ _ _ st hk=>⟨hk I (by simp) _ st.1,st.2.keep fun o e=>hk d (by simp) o e⟩
 item:=fun i s Q E hi st hQ=>by
  obtain ⟨x,hx⟩:∃ x,(ordE w d ep es)[i]?=some x:=⟨(ordE w d ep es)[i]'(by rw [(Zcv le).length_eq];exact hi),List.getElem?_eq_getElem _⟩
  refine ZkJ st.2 st.1 hx fun h' g2 b2=>?_
  exact hQ x.2 h' s.toks ⟨x,hx,rfl⟩ ⟨g2,st.2.keep fun o e=>b2.extBut d o hne e⟩ fun b o hb e=>b2.extBut b o (fun z=>hb (by simp [z])) e
 done:=fun s Q E st hQ=>si_end hh st.2 st.1 fun h' x=>hQ h' s.toks fun b o hb e=>x b o (fun z=>hb (by simp [z])) e
 self:=fun i s Q E st hQ=>Zdo st.1 hQ
end
noncomputable def eI (n:Int) (t:Tok):Int×Value:=(n,.int n t)
inductive Two (a b:Int) (ta tb:Tok):Nat->List (Int×Value)->List Nat->Prop where
 | none:Two a b ta tb 0 [] []
 | one:Two a b ta tb 1 [eI a ta] [(a % 8).toNat]
 | same:a=b->Two a b ta tb 2 [eI a ta] [(a % 8).toNat]
 | up (j:Nat):a≠b->(a % 8).toNat<j->Two a b ta tb 2 [eI a ta,eI b tb] [(a % 8).toNat,j]
 | down (j:Nat):a≠b->j<(a % 8).toNat->Two a b ta tb 2 [eI b tb,eI a ta] [j,(a % 8).toNat]
theorem Two.is {a b:Int} {ta tb:Tok} {i:Nat} {es:List (Int×Value)} {pl:List Nat} {w:World} {h:Heap} {d:Addr} {ep:Nat} (T:Two a b ta tb i es pl) (ho:h.get? d=some (setObj w es ep pl)):SetIs w h d es ep pl:=by
 refine ⟨ho,?_,?_,?_⟩
 all_goals cases T
 all_goals first
  | rfl
  | exact Nat.le_of_ble_eq_true rfl
  | (intro x y z;cases z;assumption)
  | (intro x y z;cases z)
def TwoAt (w:World) (a b:Int) (ta tb:Tok) (i:Nat) (d:Addr) (h:Heap):Prop:=∃ es ep pl,Two a b ta tb i es pl/\h.get? d=some (setObj w es ep pl)
theorem Zdp {n:Int} (h0:0<=n) (h1:n<16):∃ j:Fin 16,n=(j.val:Int):=⟨⟨n.toNat,by omega⟩,by show n=((n.toNat:Nat):Int);omega⟩
theorem hash16 {n:Int} (h0:0<=n) (h1:n<16):hashInt n=n:=by obtain ⟨j,rfl⟩:=Zdp h0 h1;exact ZcF j
theorem lay0 {w:World} {n:Int} (h0:0<=n) (h1:n<16) (x:Value):layNew (tabOf w []) #[] n x=(#[(n,x)],tabOf w [(n % 8).toNat],false,false):=by
 have e:(tabOf w []).freeSlot n=some ((n % 8).toNat,false):=by
  obtain ⟨j,rfl⟩:=Zdp h0 h1
  have:=ZhQ j (!byT w)
  rw [ZcF] at this
  have e2:((j.val:Int) % 8).toNat=j.val % 8:=by omega
  rw [e2]
  exact this
 unfold layNew
 rw [e]
 rfl
theorem lay1 {w:World} {a n:Int} (a0:0<=a) (a1:a<16) (h0:0<=n) (h1:n<16) (hne:a≠n) (x y:Value):∃ j,(((a % 8).toNat<j/\layNew (tabOf w [(a % 8).toNat]) #[(a,y)] n x=(#[(a,y),(n,x)],tabOf w [(a % 8).toNat,j],false,false))\/(j<(a % 8).toNat/\layNew (tabOf w [(a % 8).toNat]) #[(a,y)] n x=(#[(n,x),(a,y)],tabOf w [j,(a % 8).toNat],false,false))):=by
 obtain ⟨i,rfl⟩:=Zdp a0 a1
 obtain ⟨k,rfl⟩:=Zdp h0 h1
 have hik:i≠k:=fun z=>hne (by rw [z])
 have f:=Zi0 i k hik (!byT w)
 rw [ZcF] at f
 have e2:((i.val:Int) % 8).toNat=i.val % 8:=by omega
 rw [e2]
 generalize i.val % 8=p at f
 have f:((tabOf w [p]).freeSlot (k.val:Int)).any (fun q=>decide (q.1≠p)&&!q.2)=true:=f
 cases hs:(tabOf w [p]).freeSlot (k.val:Int) with
 | none=>rw [hs] at f;cases f
 | some q =>
  obtain ⟨j,b⟩:=q
  rw [hs] at f
  have f:(decide (j≠p)&&!b)=true:=f
  rw [Bool.and_eq_true,decide_eq_true_eq,Bool.not_eq_true'] at f
  obtain ⟨hj,rfl⟩:=f
  refine ⟨j,?_⟩
  unfold layNew
  rw [hs]
  rcases Nat.lt_or_ge p j with h|h
  .refine .inl ⟨h,?_⟩
   have e:(tabOf w [p]).put j=(tabOf w [p,j],1):=by
    simp [SetTable.put,tabOf,SetTable.below,SetTable.below.go,h,SetTable.insertAt,SetTable.has]
   dsimp only
   rw [e]
   rfl
  .have h:j<p:=by omega
   refine .inr ⟨h,?_⟩
   have e:(tabOf w [p]).put j=(tabOf w [j,p],0):=by
    simp [SetTable.put,tabOf,SetTable.below,SetTable.below.go,Nat.not_lt.mpr (Nat.le_of_lt h),SetTable.insertAt,SetTable.has]
   dsimp only
   rw [e]
   rfl
section
variable {prog:Program} {w:World} {A:Around} {E:Value->Shared->Prop} {s:Shared} {d:Addr} {a b:Int} {ta tb:Tok}
theorem ZhW {n:Int} {t:Tok} (h0:0<=n) (h1:n<16):(∃ k,(intKind prog w).is k (eI n t).2=true/\(eI n t).1=(intKind prog w).hash k)/\(eI n t).2.scannable=true:=⟨⟨n,intKind_is _ _ _ _,(hash16 h0 h1).symm⟩,rfl⟩
theorem Zfq {es es':List (Int×Value)} {ep:Nat} {pl pl':List Nat} {n:Int} {t:Tok} {Q:Bool->Shared->Prop} (S:SetIs w s.heap d es ep pl) (h0:0<=n) (h1:n<16) (hz:es.length<=1)
  (hel:ElemsOf (intKind prog w) es) (hno:es.findIdx? (fun e=>(intKind prog w).is n e.2)=none) (hl:layNew (tabOf w pl) es.toArray n (.int n t)=(es'.toArray,tabOf w pl',false,false)) (hpl:pl'.length<=2) (hes:es'.length<=2)
  (h:∀ h',Heap.SameBut d s.heap h'->h'.get? d=some (setObj w es' (ep+1) pl')->Q true { s with heap:=h' }):wpAny (model prog w) A (setAddHashed d (.int n t) n) Q E s:=by
 have hb:es.toArray.size<scanBound:=by have:es.toArray.size=es.length:=rfl;unfold scanBound;omega
 have hx:=hash16 h0 h1
 unfold setAddHashed setAddHashedIn
 refine wpAny_holding (wpAny_bind (Za1 S ?_))
 dsimp only
 rw [byScan_of (knd:=intKind prog w) rfl hb hel]
 simp only [↓reduceIte]
 unfold setAddByScan
 refine wpAny_bind ?_
 refine wpAny_bind (wpAny_rule ?_)
 have sc:=wpAny_setScan_of (knd:=intKind prog w) (A:=A) (E:=E) (s:=s) (adding:=true) (k:=n) (x:=.int n t) (intKind_is _ _ _ _) S.ob (es:=es.toArray) rfl S.fits hel (Q:=fun r s1=>r=.absent/\s1=s) (by
  show (match es.findIdx? (fun e=>(intKind prog w).is n e.2) with|some j=>ScanMet.found (0+j)|none=>ScanMet.absent)=ScanMet.absent/\s=s
  rw [hno]
  exact ⟨rfl,rfl⟩)
 rw [show (intKind prog w).hash n=n from hx] at sc
 refine wpAny_bind (wpAny_mono sc (fun r s1 ⟨e1,e2⟩=>?_) fun _ _ z=>z)
 subst e1
 subst e2
 have hf:(tabOf w pl').tooFull=false:=by
  simp [SetTable.tooFull,SetTable.fill,tabOf]
  omega
 rw [hl]
 dsimp only
 refine wpAny_bind (wpAny_of_eq (a:=()) rfl ?_)
 refine Zau (fun _=>?_) (fun z=>absurd rfl z)
 refine wpAny_bind (wpAny_of_eq (a:=true) rfl ?_)
 simp only [↓reduceIte]
 rw [hf]
 refine wpAny_bind (wpAny_storeSet_of S.ob rfl ?_ (Nat.le_trans (show es'.toArray.size<=2 from hes) (by decide)))
 refine Zau (fun z=>absurd z (by decide)) (fun _=>?_)
 refine wpAny_pure (wpAny_pure (h _ (Heap.SameBut.update ..) ?_))
 exact Heap.get?_update_self _ S.ob rfl
theorem ZkK {es:List (Int×Value)} {ep:Nat} {pl:List Nat} {n:Int} {t:Tok} {j:Nat} {Q:Bool->Shared->Prop} (S:SetIs w s.heap d es ep pl) (h0:0<=n) (h1:n<16)
  (hel:ElemsOf (intKind prog w) es) (hno:es.findIdx? (fun e=>(intKind prog w).is n e.2)=some j) (h:Q false s):wpAny (model prog w) A (setAddHashed d (.int n t) n) Q E s:=by
 have hb:es.toArray.size<scanBound:=by have:es.toArray.size=es.length:=rfl;have:=S.le;unfold scanBound;omega
 have hx:=hash16 h0 h1
 unfold setAddHashed setAddHashedIn
 refine wpAny_holding (wpAny_bind (Za1 S ?_))
 dsimp only
 rw [byScan_of (knd:=intKind prog w) rfl hb hel]
 simp only [↓reduceIte]
 unfold setAddByScan
 refine wpAny_bind ?_
 refine wpAny_bind (wpAny_rule ?_)
 have sc:=wpAny_setScan_of (knd:=intKind prog w) (A:=A) (E:=E) (s:=s) (adding:=true) (k:=n) (x:=.int n t) (intKind_is _ _ _ _) S.ob (es:=es.toArray) rfl S.fits hel (Q:=fun r s1=>r=.found (0+j)/\s1=s) (by
  show (match es.findIdx? (fun e=>(intKind prog w).is n e.2) with|some j=>ScanMet.found (0+j)|none=>ScanMet.absent)=ScanMet.found (0+j)/\s=s
  rw [hno]
  exact ⟨rfl,rfl⟩)
 rw [show (intKind prog w).hash n=n from hx] at sc
 refine wpAny_bind (wpAny_mono sc (fun r s1 ⟨e1,e2⟩=>?_) fun _ _ z=>z)
 subst e1
 subst e2
 exact wpAny_pure (wpAny_pure h)
theorem ZkL {i:Nat} {Q:Bool->Shared->Prop} (a0:0<=a) (a1:a<16) (b0:0<=b) (b1:b<16) (T:TwoAt w a b ta tb i d s.heap) (hi:i<2)
  (h:∀ r h',Heap.SameBut d s.heap h'->TwoAt w a b ta tb (i+1) d h'->Q r { s with heap:=h',toks:=s.toks+1 }):wpAny (model prog w) A (setAdd d (if i=0 then .int a ta else .int b tb)) Q E s:=by
 obtain ⟨es,ep,pl,T,ho⟩:=T
 have S:=T.is ho
 have ea:=ZhW (prog:=prog) (w:=w) (t:=ta) a0 a1
 unfold setAdd
 refine wpAny_holding ?_
 cases T with
 | none =>
  rw [if_pos rfl]
  refine wpAny_bind ((intKind prog w).pyHash (k:=a) (intKind_is _ _ _ _) ?_)
  rw [show (intKind prog w).hash a=a from hash16 a0 a1]
  refine Zfq (s:={ s with toks:=s.toks+1 }) (es':=[eI a ta]) (pl':=[(a % 8).toNat]) S a0 a1 (by decide) (fun _ z=>absurd z (by simp)) rfl (lay0 a0 a1 _) (Nat.le_of_ble_eq_true rfl) (Nat.le_of_ble_eq_true rfl) fun h' sb g=>?_
  exact h _ h' sb ⟨_,_,_,.one,g⟩
 | one =>
  rw [if_neg (by decide)]
  refine wpAny_bind ((intKind prog w).pyHash (k:=b) (intKind_is _ _ _ _) ?_)
  rw [show (intKind prog w).hash b=b from hash16 b0 b1]
  have hel:ElemsOf (intKind prog w) [eI a ta]:=fun e he=>by rw [List.mem_singleton.mp he];exact ea
  by_cases hab:a=b
  .have hno:[eI a ta].findIdx? (fun e=>(intKind prog w).is b e.2)=some 0:=by
    subst hab
    rw [List.findIdx?_cons,if_pos (show (intKind prog w).is a (eI a ta).2=true from intKind_is _ _ _ _)]
   refine ZkK (s:={ s with toks:=s.toks+1 }) S b0 b1 hel hno ?_
   exact h _ s.heap (Heap.SameBut.refl ..) ⟨_,_,_,.same hab,ho⟩
  .have hno:[eI a ta].findIdx? (fun e=>(intKind prog w).is b e.2)=none:=by
    rw [List.findIdx?_cons,if_neg]
    .rfl
    .intro z
     have z:Value.isInt b (.int a ta)=true:=z
     simp [Value.isInt] at z
     exact hab z
   obtain ⟨j,⟨hj,hl⟩|⟨hj,hl⟩⟩:=lay1 (w:=w) a0 a1 b0 b1 hab (.int b tb) (.int a ta)
   .refine Zfq (s:={ s with toks:=s.toks+1 }) (es':=[eI a ta,eI b tb]) (pl':=[(a % 8).toNat,j]) S b0 b1 (Nat.le_of_ble_eq_true rfl) hel hno hl (Nat.le_of_ble_eq_true rfl) (Nat.le_of_ble_eq_true rfl) fun h' sb g=>?_
    exact h _ h' sb ⟨_,_,_,.up j hab hj,g⟩
   .refine Zfq (s:={ s with toks:=s.toks+1 }) (es':=[eI b tb,eI a ta]) (pl':=[j,(a % 8).toNat]) S b0 b1 (Nat.le_of_ble_eq_true rfl) hel hno hl (Nat.le_of_ble_eq_true rfl) (Nat.le_of_ble_eq_true rfl) fun h' sb g=>?_
    exact h _ h' sb ⟨_,_,_,.down j hab hj,g⟩
 | same=>omega
 | up=>omega
 | down=>omega
theorem TwoAt.keep {i:Nat} {h h':Heap} (T:TwoAt w a b ta tb i d h) (k:∀ o,h.get? d=some o->h'.get? d=some o):TwoAt w a b ta tb i d h':=let ⟨es,ep,pl,T,ho⟩:=T;⟨es,ep,pl,T,k _ ho⟩
theorem Zf1 (v:Value) {Q₁:Value->Shared->Prop} (h:Q₁ (.ref s.heap.objs.size) { s with heap:=s.heap.push (setObj w [] 0 []) }):codeAny (model prog w) A (.call (.builtin "set.__new__") ⟨[.type "set", v],[]⟩) (wants Q₁ E) s:=by
 refine codeAny_of_tree ?_
 show wpAny _ A.in1 (checkBuiltinCall "set.__new__" ⟨[.type "set", v],[]⟩ >>= fun _=>again (.builtin "set.__new__" ⟨[.type "set", v],[]⟩)) _ _ s
 refine wpAny_bind (wpAny_of_eq (F.newCall_set_1 v) (wpAny_pure ⟨plainId_quiet (F.plain_set_new) _,codeAny_builtin (F.entry_set_new) ?_⟩))
 rw [Around.under_plainId (F.plain_set_new) (_)]
 unfold Builtin.«set.__new__»
 unfold Builtin.Frozenset.newClass
 have hsub:=PySem.sub_set_self
 obtain ⟨hp,g,dd,tk,os⟩:=s
 dsimp only
 wp_walk
 refine wpAny_askSetting (wpAny_pure (?_))
 dsimp only
 simp only [newObj]
 refine wpAny_bind (wpAny_alloc (wpAny_pure (?_)))
 exact wpAny_pure h
theorem Zi5 {R:Result->Shared->Prop} {I:Addr} {fp wr:List Addr} {G:Array GenState->Array GenState->Prop} {P:Nat->Value->Prop} {St:Nat->Shared->Prop} (W:WalksS prog w A.in1 I fp wr G 2 P St) (hP:∀ i v,P i v->v=if i=0 then .int a ta else .int b tb) (hd:d∉fp)
  (a0:0<=a) (a1:a<16) (b0:0<=b) (b1:b<16):∀ (k i:Nat) (s:Shared),2-i=k->i<=2->St i s->TwoAt w a b ta tb i d s.heap ->
   (∀ s',Moved (d::wr) G s s'->TwoAt w a b ta tb 2 d s'.heap->R (.ok (.ret .none)) s')->codeAny (model prog w) A (.builtin "set.update.loop" ⟨[.ref d,.ref I],[]⟩) R s:=by
 have hdw:d∉wr:=fun z=>hd (W.sub _ z)
 have more:∀ c∈wr,c∈d::wr:=fun c hc=>List.mem_cons_of_mem _ hc
 intro k
 induction k with
 | zero =>
  intro i s hk hi st T fin
  obtain rfl:i=2:=by omega
  refine codeAny_builtin (PyProof.Rows.F.entry_set_update_loop) ?_
  rw [Around.under_plainId (PyProof.Rows.F.plain_set_update_loop) _]
  show wpAny _ A.in1 (pyNext (.ref I) >>= _) _ _ s
  refine wpAny_bind (W.done s _ _ st fun s' mv=>?_)
  show wpAny _ A.in1 (ret Value.none) _ _ s'
  exact wpAny_pure (fin s' (mv.mono more) (T.keep fun o e=>mv.heap d _ hdw e))
 | succ k ih =>
  intro i s hk hi st T fin
  have hlt:i<2:=by omega
  refine codeAny_builtin (PyProof.Rows.F.entry_set_update_loop) ?_
  rw [Around.under_plainId (PyProof.Rows.F.plain_set_update_loop) _]
  show wpAny _ A.in1 (pyNext (.ref I) >>= _) _ _ s
  refine wpAny_bind (W.item i s _ _ hlt st fun v s' hv st' mv=>?_)
  obtain rfl:=hP i v hv
  have T':TwoAt w a b ta tb i d s'.heap:=T.keep fun o e=>mv.heap d _ hdw e
  show wpAny _ A.in1 (holding [_] (setAdd d (if i=0 then .int a ta else .int b tb)) >>= _) _ _ s'
  refine wpAny_bind (wpAny_holding (ZkL a0 a1 b0 b1 T' hlt fun r h' sb T2=>?_))
  refine wpAny_pure ⟨plainId_quiet (PyProof.Rows.F.plain_set_update_loop) _,ih (i+1) _ (by omega) hlt (W.frame _ s' _ _ st' (Nat.le_succ _) fun c hc o e=>?_) T2 fun s2 mv2 T3=>?_⟩
  .rw [sb.2 c (fun z=>hd (by rw [<- z];exact hc))];exact e
  .refine fin s2 (Moved.trans W.gtrans ((mv.mono more).then_heap (Nat.le_succ _) fun c o hc e=>?_) mv2) T3
   rw [sb.2 c (fun z=>hc (by rw [z];exact List.mem_cons_self))];exact e
set_option maxHeartbeats 8000000 in
theorem Zi6 {l:Addr} {Q:Value->Shared->Prop} (hh:A.handled=none) (hl:s.heap.IsList l #[.int a ta,.int b tb]) (a0:0<=a) (a1:a<16) (b0:0<=b) (b1:b<16)
  (h:∀ (h':Heap) (tk:Nat),TwoAt w a b ta tb 2 s.heap.objs.size h'->(∀ c o,c<s.heap.objs.size->s.heap.get? c=some o->h'.get? c=some o)->Q (.ref s.heap.objs.size) { s with heap:=h',toks:=tk }):wpAny (model prog w) A (call (.type "set") [.ref l]) Q E s:=by
 obtain ⟨c,tl,hmro⟩:=F.called_set.mro
 have hmade:=F.called_set.made
 have hsub:=F.called_set.sub
 refine wpAny_call (codeAny_of_tree ?_)
 show wpAny _ _ (callAny (.type "set") _) _ _ _
 refine wpAny_pure ⟨Code.quiet_builtin _ (by decide +kernel),codeAny_builtin (F.entry_type_call) (?_)⟩
 rw [Around.under_plain (weight_type_call_type "set" [.ref l] []) (rfl)]
 have h1:=F.called_set.notType
 have h2:=F.called_set.canCreate
 have hct:=F.typeCall_set_1 (.ref l)
 repeat (any_goals (first|assumption|wp_step))
 refine codeAny_mono (Zf1 (.ref l) (E:=E) (Q₁:=fun obj s₁=>obj=.ref s.heap.objs.size/\s₁={ s with heap:=s.heap.push (setObj w [] 0 []) }) ⟨rfl,rfl⟩) fun r s₁ hr=>?_
 cases r with
 | error e=>exact hr
 | ok fl =>
  cases fl with
  | ret obj =>
   obtain ⟨rfl,rfl⟩:=hr
   have hS:(s.heap.push (setObj w [] 0 [])).get? s.heap.objs.size=some (setObj w [] 0 []):=Heap.get?_push_size _ rfl
   have hT:Shared.TypeIs { s with heap:=s.heap.push (setObj w [] 0 []) } (.ref s.heap.objs.size) "set" := ⟨_,hS,rfl⟩
   have hli:=F.called_set.init.lookup
   have hbi:=F.called_set.init.bind (.ref s.heap.objs.size)
   repeat (any_goals (first|assumption|wp_step))
   refine codeAny_mono (codeAny_call_builtin (R:=wants (fun r s₂=>r=.none/\∃ h' tk,s₂={ s with heap:=h',toks:=tk }/\TwoAt w a b ta tb 2 s.heap.objs.size h'/\(∀ c o,c<s.heap.objs.size->s.heap.get? c=some o->h'.get? c=some o)) E) F.called_set.init.plain F.entry_set_init (check_set_init_1 hT ?_)) fun r₂ s₂ hr₂=>?_
   .obtain ⟨ol,hol,hcl,nl,hdl⟩:=hl
    obtain ⟨ocls,odict,odata,oslots⟩:=ol
    simp only at hcl hdl
    subst hcl;subst hdl
    have hol':(s.heap.push (setObj w [] 0 [])).get? l=some { cls:=.type "list", dict:=odict,data:=.seq #[.int a ta,.int b tb] nl,slots:=oslots }:=Heap.get?_push_of_some _ hol
    have hsls:=F.sub_list_set
    have hslf:=F.sub_list_frozenset
    have hne:(Value.type "list" == Value.type "dict")=false:=by decide
    have hl1:(s.heap.push (setObj w [] 0 [])).IsList l #[.int a ta,.int b tb]:=⟨_,hol',rfl,nl,rfl⟩
    unfold Builtin.«set.__init__» noKeywords Builtin.Frozenset.updateFrom
    generalize hPI:pyIter=PI
    wp_walk
    subst hPI
    refine wpAny_pyIter_list hl1 ?_
    refine wpAny_bind (wpAny_runValue ?_)
    have hlS:l<s.heap.objs.size:=Heap.lt_size hol
    have hh3:A.in1.in1.in1.handled=none:=by simp [hh]
    have hneI:l≠(s.heap.push (setObj w [] 0 [])).objs.size:=by
     rw [Heap.size_push];exact Nat.ne_of_lt (Nat.lt_succ_of_lt hlS)
    have hSf:s.heap.objs.size∉[(s.heap.push (setObj w [] 0 [])).objs.size,l]:=by
     rw [Heap.size_push];simp only [List.mem_cons,List.mem_singleton,List.not_mem_nil,or_false,not_or]
     exact ⟨Nat.ne_of_lt (Nat.lt_succ_self _),Nat.ne_of_gt hlS⟩
    refine Zi5 (a:=a) (b:=b) (ta:=ta) (tb:=tb) ((Walks.list hh3 _ l hneI #[.int a ta,.int b tb]).toS) (fun i v hv=>?_) hSf a0 a1 b0 b1 2 0 _ rfl (by decide) ⟨⟨_,Heap.get?_push_size _ rfl,rfl,rfl⟩,(hl1.push _)⟩ ⟨[],0,[],.none,Heap.get?_push_of_some _ hS⟩ ?_
    .match i,hv with
     | 0,hv=>simpa using hv.symm
     | 1,hv=>simpa using hv.symm
     | n+2,hv=>simp at hv
    .intro s' mv T2
     obtain ⟨h',g',d',tk',os'⟩:=s'
     have eg:g'=s.gens:=mv.gens
     have ed:d'=s.drawn:=mv.drawn
     have eo:os'=s.os:=mv.os
     subst eg;subst ed;subst eo
     show wpAny _ _ _ _ _ _
     refine wpAny_pure ?_
     show wpAny _ _ (ret Value.none) _ _ _
     refine wpAny_pure ⟨rfl,h',tk',rfl,T2,fun c o hc e=>?_⟩
     have c1:c≠s.heap.objs.size:=Nat.ne_of_lt hc
     have c2:c≠(s.heap.push (setObj w [] 0 [])).objs.size:=by rw [Heap.size_push];exact Nat.ne_of_lt (Nat.lt_succ_of_lt hc)
     exact mv.heap c o (by simp only [List.mem_cons,List.mem_singleton,List.not_mem_nil,or_false,not_or];exact ⟨c1,c2⟩) (Heap.get?_push_of_some _ (Heap.get?_push_of_some _ e))
   .cases r₂ with
    | error e=>exact hr₂
    | ok fl₂ =>
     cases fl₂ with
     | ret r =>
      obtain ⟨rfl,h',tk,rfl,T2,kp⟩:=hr₂
      repeat (any_goals (first|assumption|wp_step))
      exact h _ _ T2 kp
     | next=>exact False.elim hr₂
     | brk=>exact False.elim hr₂
     | cont=>exact False.elim hr₂
  | next=>exact False.elim hr
  | brk=>exact False.elim hr
  | cont=>exact False.elim hr
end
theorem Two.facts {a b:Int} {ta tb:Tok} {es:List (Int×Value)} {pl:List Nat} (T:Two a b ta tb 2 es pl):(∀ e∈es,∃ n t,e=eI n t)/\(es.map (·.1)).Nodup/\∀ n,n∈es.map (·.1) ↔ n=a\/n=b:=by
 cases T with
 | same h=>subst h;exact ⟨fun e he=>⟨_,_,List.mem_singleton.mp he⟩,by simp [eI],fun n=>by simp [eI]⟩
 | up j h _=>exact ⟨fun e he=>by rcases List.mem_cons.mp he with rfl|he;exact ⟨_,_,rfl⟩;exact ⟨_,_,List.mem_singleton.mp he⟩,by simp [eI,h],fun n=>by simp [eI]⟩
 | down j h _=>exact ⟨fun e he=>by rcases List.mem_cons.mp he with rfl|he;exact ⟨_,_,rfl⟩;exact ⟨_,_,List.mem_singleton.mp he⟩,by simp [eI,Ne.symm h],fun n=>by simp [eI,or_comm]⟩
section
variable {prog:Program} {w:World} {A:Around} {E:Value->Shared->Prop} {s:Shared} {d:Addr} {es:List (Int×Value)} {ep:Nat} {pl:List Nat}
theorem Zf2 {Q:Bool->Shared->Prop} (hT:s.TypeIs (.ref d) "set") (h:Q false s):wpAny (model prog w) A (Builtin.List.listLengthHint (.ref d)) Q E s:=by
 unfold Builtin.List.listLengthHint
 refine wpAny_bind (wpAny_specialOf hT PySem.F.slot_set_len.lookup ?_)
 generalize hid:("set.__len__" : String)=id0
 wp_delta
 rw [show splitId id0=some ("set", "__len__") from by subst hid;decide +kernel]
 subst hid
 refine wpAny_bind (wpAny_isInstance (T := "set") (b:=true) hT (by rw [isSubtype_type];kernel_rfl) ?_)
 refine Zau (fun hab=>absurd hab (by decide)) (fun _=>?_)
 refine Zau (fun _=>?_) (fun hab=>absurd (by decide +kernel) hab)
 refine wpAny_bind (wpAny_typeOf hT ?_)
 exact wpAny_pure h
theorem ZkM:PySem.W.KdlSrc prog w "set" d d es.length (fun i v=>∃ x,(ordE w d ep es)[i]?=some x/\v=x.2) (fun h=>SetIs w h d es ep pl) where
 type:=fun _ S=>⟨_,S.ob,rfl⟩
 there:=fun _ S=>⟨Heap.lt_size S.ob,Heap.lt_size S.ob⟩
 keep:=fun _ _ S hk=>S.keep fun o e=>hk d (.inl rfl) o e
 notList:=by decide
 notTuple:=by decide
 hint:=fun _ _ _ _ S hq=>Zf2 ⟨_,S.ob,rfl⟩ hq
 iter:=fun _ _ hh S=>⟨_,_,(fun _ _ hq=>Zi4 S hq),ZhV hh _ (Nat.ne_of_lt (Heap.lt_size S.ob)) S.sz S.le S.up,⟨Heap.get?_push_size _ rfl,S.keep fun o e=>Heap.get?_push_of_some _ e⟩⟩
end
noncomputable def SetO (w:World) (a b:Int) (d:Addr):HO:=.ext fun h=>∃ ta tb,TwoAt w a b ta tb 2 d h
def rSet2 (K:PySem.W.Frag) (w:World):RC:=fun xs H Q=>∃ l a b,xs=[.ref l]/\SqL K H l [.int a,.int b]/\0<=a/\a<16/\0<=b/\b<16/\∀ d,H d=none->Q (.ref d) (upd H d (SetO w a b d))
theorem ZjO {X:Cx} (hc:X.calm=true):CallR X (.type "set") (rSet2 X.K X.w):=by
 intro pins s σ H xs us Q I r h
 obtain ⟨l,a,b,rfl,hl,a0,a1,b0,b1,q⟩:=h
 obtain ⟨u,rfl,rx⟩:=vals1 r
 cases rx
 obtain ⟨its,rv,pl,hz⟩:=I.list hl
 obtain ⟨u1,u2,rfl,r1,r2⟩:=vals2 rv
 obtain ⟨ta,rfl⟩:=r1
 obtain ⟨tb,rfl⟩:=r2
 refine Zi6 (I.ok.hd hc) pl.isList a0 a1 b0 b1 fun h' tk T kp=>?_
 refine ⟨.ref s.heap.objs.size,_,I.laid (t':=tk) (fun c u e=>kp c u (Heap.lt_size e) e) (Nat.le_refl _) (show ObjOk X.prog X.w _ h' _ (SetO X.w a b s.heap.objs.size) from ⟨⟨ta,tb,T⟩,?_,?_⟩),rfl,q _ (I.hok.fresh (Nat.le_refl _))⟩
 .obtain ⟨_,_,_,_,ho⟩:=T
  exact ⟨_,ho⟩
 .rintro h1 h2 ⟨ta,tb,T⟩ k
  exact ⟨ta,tb,T.keep k⟩
def rSortS (w:World):RC:=fun xs H Q=>∃ d a b,xs=[.ref d]/\H d=some (SetO w a b d)/\∀ ms:List Int,ms.Pairwise (·<·)->(∀ n,n∈ms ↔ n=a\/n=b)->∀ p,H p=none->Q (.ref p) (upd H p (.lst (ms.map V.int)))
theorem Zf3 {X:Cx} (hc:X.calm=true):CallR X (.builtin "sorted") (rSortS X.w):=by
 intro pins s σ H xs us Q I r h
 obtain ⟨d,a,b,rfl,hd,q⟩:=h
 obtain ⟨u,rfl,rx⟩:=vals1 r
 cases rx
 obtain ⟨⟨ta,tb,es,ep,pl,T,ho⟩,_,_⟩:=(show ObjOk X.prog X.w H s.heap d (SetO X.w a b d) from I.hok d _ hd)
 have S:=T.is ho
 obtain ⟨f1,f2,f3⟩:=T.facts
 have op:=Zcv (w:=X.w) (d:=d) (ep:=ep) S.le
 have hol:=op.length_eq
 have hle:=S.le
 refine Calls.call_function_entry (kind_sorted) (plain_sorted) (entry_sorted) (args_sorted1 _) ?_
 unfold Builtin.«sorted»
 refine wpAny_bind (m:=checkCount "sorted" 1 1 (_)) (wpAny_pure (?_))
 refine wpAny_bind (dcol (Ar:=X.A.in1) (ZkM (es:=es) (ep:=ep) (pl:=pl)) (I.ok.hd hc) S (Nat.le_trans hle (by decide)) fun hp tn its kp lt ok=>?_)
 have hI:IntsAre its.toList ((ordE X.w d ep es).map (·.1)):=by
  refine Zed _ _ (by rw [Array.length_toList,ok.1,List.length_map,hol]) fun j v n h1 h2=>?_
  obtain ⟨x,e1,rfl⟩:=ok.2 j v (by rw [<- Array.getElem?_toList];exact h1)
  rw [List.getElem?_map,e1] at h2
  cases h2
  obtain ⟨n,t,rfl⟩:=f1 x (op.mem_iff.mp (List.mem_of_getElem? e1))
  exact ⟨t,rfl⟩
 have hl2:its.toList.length<64:=by rw [Array.length_toList,ok.1];omega
 refine wpAny_bind (wpAny_newList (?_) (Nat.le_trans (Nat.le_of_lt hl2) (by decide)))
 have at1:(hp.push (seqObj "list" its.toList.toArray 0)).get? hp.objs.size=some (seqObj "list" its.toList.toArray 0):=Heap.get?_push_size _ rfl
 refine wpAny_bind (wpAny_holding (wpAny_call_entry (slot_list_sort) ⟨_,at1,rfl⟩ (entry_list_sort) (list_sort_tree at1 hI hl2 fun out ms a1 a2 a3=>⟨_,rfl,?_⟩) (args_list_sort _)))
 refine wpAny_pure ⟨_,rfl,?_⟩
 obtain ⟨e5,at2⟩:=sortedHeap_at (out:=out) at1
 have pm:ms.Perm (es.map (·.1)):=a2.trans (op.map _)
 have hml:ms.length<=sizeLine:=by rw [pm.length_eq,List.length_map];exact Nat.le_trans hle (by decide)
 refine ⟨.ref hp.objs.size,_,I.laid (t':=tn) (fun b u e=>?_) (Nat.le_of_lt lt) (show ObjOk X.prog X.w _ _ _ (.lst (ms.map V.int)) from ⟨by rw [List.length_map];exact hml,out.toList,e5,Zct a1,at2⟩),rfl,q ms (Zcu a3 (pm.nodup_iff.mpr f2)) (fun n=>by rw [pm.mem_iff];exact f3 n) _ (I.hok.fresh (Nat.le_of_lt lt))⟩
 have lb:=Heap.lt_size (kp b u e)
 rw [sortedHeap_old (Nat.ne_of_lt lb) (by rw [size_push'];exact Nat.lt_succ_of_lt lb)]
 exact Heap.get?_push_of_some _ (kp b u e)
section
variable {K:PySem.W.Frag} {w:World} {H:Hp} {Q:VK} {l d:Addr} {a b:Int}
theorem ZkN (h:SqL K H l [.int a,.int b]) (a0:0<=a) (a1:a<16) (b0:0<=b) (b1:b<16) (q:∀ d,H d=none->Q (.ref d) (upd H d (SetO w a b d))):rSet2 K w [.ref l] H Q:=⟨l,a,b,rfl,h,a0,a1,b0,b1,q⟩
theorem Zi7 (h:H d=some (SetO w a b d)) (q:∀ ms:List Int,ms.Pairwise (·<·)->(∀ n,n∈ms ↔ n=a\/n=b)->∀ p,H p=none->Q (.ref p) (upd H p (.lst (ms.map V.int)))):rSortS w [.ref d] H Q:=⟨d,a,b,rfl,h,q⟩
end
end L2
namespace L2
open PySem PySem.Spec PyProof.Rows PySem.Calls PySem.W
theorem Zdq {l:List Nat} (h:l.Pairwise (·<·)) {i k a b:Nat} (hik:i<k) (ha:l[i]?=some a) (hb:l[k]?=some b):a<b:=by
 obtain ⟨h1,rfl⟩:=List.getElem?_eq_some_iff.mp ha
 obtain ⟨h2,rfl⟩:=List.getElem?_eq_some_iff.mp hb
 exact List.pairwise_iff_getElem.mp h i k h1 h2 hik
theorem Zi8 {l:List Nat} (j:Nat) (hr:l.Pairwise (·<·)):∀ (fuel lo hi:Nat),hi-lo<=fuel->lo<=hi->hi<=l.length->(∀ i v,i<lo->l[i]?=some v->v<j)->(∀ i v,hi<=i->l[i]?=some v->j<=v) ->
  SetTable.below.go l.toArray j fuel lo hi<=l.length/\(∀ i v,i<SetTable.below.go l.toArray j fuel lo hi->l[i]?=some v->v<j)/\∀ i v,SetTable.below.go l.toArray j fuel lo hi<=i->l[i]?=some v->j<=v:=by
 intro fuel
 induction fuel with
 | zero =>
  intro lo hi hf hlh hs h1 h2
  have e:lo=hi:=by omega
  subst e
  unfold SetTable.below.go
  exact ⟨hs,h1,h2⟩
 | succ fuel ih =>
  intro lo hi hf hlh hs h1 h2
  unfold SetTable.below.go
  by_cases hlt:lo<hi
  .rw [if_pos hlt]
   dsimp only
   have hm:(lo+hi) / 2<l.length:=by omega
   have hv:l[(lo+hi) / 2]?=some l[(lo+hi) / 2]:=List.getElem?_eq_getElem hm
   have e:l.toArray.getD ((lo+hi) / 2) j=l[(lo+hi) / 2]:=by simp [Array.getD,hm]
   rw [e]
   by_cases hc:l[(lo+hi) / 2]<j
   .rw [if_pos hc]
    refine ih _ _ (by omega) (by omega) hs (fun i v hi' hv'=>?_) h2
    rcases Nat.lt_or_ge i ((lo+hi) / 2) with hl|hg
    .exact Nat.lt_trans (Zdq hr hl hv' hv) hc
    .have:i=(lo+hi) / 2:=by omega
     subst this
     rw [hv] at hv'
     cases hv'
     exact hc
   .rw [if_neg hc]
    refine ih _ _ (by omega) (by omega) (by omega) h1 (fun i v hi' hv'=>?_)
    rcases Nat.lt_or_ge ((lo+hi) / 2) i with hl|hg
    .exact Nat.le_of_lt (Nat.lt_of_le_of_lt (Nat.not_lt.mp hc) (Zdq hr hl hv hv'))
    .have:i=(lo+hi) / 2:=by omega
     subst this
     rw [hv] at hv'
     cases hv'
     exact Nat.not_lt.mp hc
  .rw [if_neg hlt]
   have e:lo=hi:=by omega
   subst e
   exact ⟨hs,h1,h2⟩
theorem ZdX {l:List Nat} (hr:l.Pairwise (·<·)) (j:Nat):SetTable.below l.toArray j<=l.length/\(∀ i v,i<SetTable.below l.toArray j->l[i]?=some v->v<j)/\∀ i v,SetTable.below l.toArray j<=i->l[i]?=some v->j<=v:=by
 unfold SetTable.below
 exact Zi8 j hr _ _ _ (by simp) (Nat.zero_le _) (by simp) (fun i v h=>absurd h (Nat.not_lt_zero _)) (fun i v h e=>by
  have:=(List.getElem?_eq_some_iff.mp e).1
  have h:l.length<=i:=by simpa using h
  omega)
theorem Zf4 {l:List Nat} (hr:l.Pairwise (·<·)) {j i:Nat} (hi:i<=l.length) (h1:∀ k v,k<i->l[k]?=some v->v<j) (h2:∀ k v,i<=k->l[k]?=some v->j<=v):SetTable.below l.toArray j=i:=by
 obtain ⟨a,b,c⟩:=ZdX hr j
 rcases Nat.lt_trichotomy (SetTable.below l.toArray j) i with h|h|h
 .have hl:SetTable.below l.toArray j<l.length:=by omega
  have e:=List.getElem?_eq_getElem hl
  have:=h1 _ _ h e
  have:=c _ _ (Nat.le_refl _) e
  omega
 .exact h
 .have hl:i<l.length:=by omega
  have e:=List.getElem?_eq_getElem hl
  have:=b _ _ h e
  have:=h2 _ _ (Nat.le_refl _) e
  omega
theorem Zf5 {α:Type} (xs:List α) (p:Nat) (x:α):SetTable.insertAt xs.toArray p x=(xs.take p++x::xs.drop p).toArray:=by
 apply Array.toList_inj.mp
 simp [SetTable.insertAt]
 exact List.take_of_length_le (by rw [List.length_drop];exact Nat.le_refl _)
theorem Zi9 {l:List Nat} (hr:l.Pairwise (·<·)) {j:Nat} (hj:j∉l):(l.take (SetTable.below l.toArray j)++j::l.drop (SetTable.below l.toArray j)).Pairwise (·<·):=by
 obtain ⟨a,b,c⟩:=ZdX hr j
 generalize SetTable.below l.toArray j=p at a b c
 refine List.pairwise_append.mpr ⟨hr.sublist (List.take_sublist _ _),List.pairwise_cons.mpr ⟨fun v hv=>?_,hr.sublist (List.drop_sublist _ _)⟩,fun u hu v hv=>?_⟩
 .obtain ⟨i,hi⟩:=List.mem_iff_getElem?.mp hv
  rw [List.getElem?_drop] at hi
  have:=c _ _ (Nat.le_add_right _ _) hi
  rcases Nat.lt_or_eq_of_le this with h|h
  .exact h
  .exact absurd (by rw [h];exact List.mem_of_getElem? hi) hj
 .obtain ⟨i,hi⟩:=List.mem_iff_getElem?.mp hu
  have hip:i<p:=by
   have:=(List.getElem?_eq_some_iff.mp hi).1
   rw [List.length_take] at this
   omega
  rw [List.getElem?_take,if_pos hip] at hi
  have h1:=b _ _ hip hi
  rcases List.mem_cons.mp hv with rfl|hv
  .exact h1
  .obtain ⟨k,hk⟩:=List.mem_iff_getElem?.mp hv
   rw [List.getElem?_drop] at hk
   have:=c _ _ (Nat.le_add_right _ _) hk
   omega
theorem Zja {α:Type} {l:List α} {i:Nat} (hi:i<l.length):(l[i]::l.eraseIdx i).Perm l:=by
 have e:l=l.take i++l[i]::l.drop (i+1):=by rw [<- List.drop_eq_getElem_cons hi,List.take_append_drop]
 rw [List.eraseIdx_eq_take_drop_succ]
 exact (List.perm_middle.symm).trans (by rw [<- e])
theorem ZkO {α:Type} (nx:Nat->Nat):∀ (fuel k:Nat) (left:List α) (out:Array α),left.length=fuel->(pickOrder.go nx fuel k left out).toList.Perm (out.toList++left):=by
 intro fuel
 induction fuel with
 | zero =>
  intro k left out h
  have:left=[]:=List.eq_nil_of_length_eq_zero h
  subst this
  unfold pickOrder.go
  simp
 | succ fuel ih =>
  intro k left out h
  unfold pickOrder.go
  have hi:nx k % left.length<left.length:=Nat.mod_lt _ (by omega)
  rw [List.getElem?_eq_getElem hi]
  dsimp only
  refine (ih _ _ _ (by rw [List.length_eraseIdx,if_pos hi];omega)).trans ?_
  rw [Array.toList_push,List.append_assoc]
  exact List.Perm.append_left _ (Zja hi)
theorem ZgK {α:Type} (nx:Nat->Nat) (xs:List α):(pickOrder nx xs.toArray).toList.Perm xs:=by
 unfold pickOrder
 exact (ZkO nx _ 0 xs #[] (by simp)).trans (by simp)
theorem Zjb {l:List Nat} (hr:l.Pairwise (·<·)):∀ (i v:Nat),l[i]?=some v->i<=v:=by
 intro i
 induction i with
 | zero=>intro v _;exact Nat.zero_le _
 | succ i ih =>
  intro v hv
  have hl:=(List.getElem?_eq_some_iff.mp hv).1
  have e:=List.getElem?_eq_getElem (show i<l.length by omega)
  have:=ih _ e
  have:=Zdq hr (Nat.lt_succ_self i) e hv
  omega
theorem ZhX {l:List Nat} (hr:l.Pairwise (·<·)) {n:Nat} (h:∀ v∈l,v<n):l.length<=n:=by
 cases hl:l.length with
 | zero=>exact Nat.zero_le _
 | succ k =>
  have e:=List.getElem?_eq_getElem (show k<l.length by omega)
  have h1:=Zjb hr _ _ e
  have h2:=h _ (List.mem_of_getElem? e)
  omega
noncomputable def subsN:List Nat->List (List Nat)
 | []=>[[]]
 | a::l=>subsN l++(subsN l).map (a::·)
theorem Zjc {pl l:List Nat} (h:pl.Sublist l):pl∈subsN l:=by
 induction h with
 | slnil=>exact List.mem_singleton.mpr rfl
 | cons a _ ih=>exact List.mem_append_left _ ih
 | cons_cons a _ ih=>exact List.mem_append_right _ (List.mem_map.mpr ⟨_,ih,rfl⟩)
theorem Zdr:∀ (m k:Nat) (pl:List Nat),pl.Pairwise (·<·)->(∀ p∈pl,k<=p/\p<k+m)->pl.Sublist (List.range' k m)
 | 0,k,pl,_,h=>by
  cases pl with
  | nil=>exact .slnil
  | cons p r=>have:=h p (.head _);omega
 | m+1,k,pl,hr,h=>by
  rw [List.range'_succ]
  cases pl with
  | nil=>exact List.nil_sublist _
  | cons p r =>
   rw [List.pairwise_cons] at hr
   by_cases e:p=k
   .subst e
    exact (Zdr m (p+1) r hr.2 fun q hq=>by have:=hr.1 q hq;have:=h q (.tail _ hq);omega).cons_cons _
   .exact (Zdr m (k+1) (p::r) (List.pairwise_cons.mpr hr) fun q hq=>by
     have h1:=h p (.head _)
     rcases List.mem_cons.mp hq with rfl|hq
     .omega
     .have:=hr.1 q hq;have:=h q (.tail _ hq);omega).cons _
theorem ZhY:∀ pl∈subsN (List.range' 0 8),pl.length<=4->∀ n:Fin 16,∀ led:Bool,((⟨7,pl.toArray,#[],0,led,0,true⟩:SetTable).freeSlot (n.val:Int)).any (fun p=>decide (p.1<8)&&!pl.contains p.1&&!p.2)=true:=by decide +kernel
theorem free7 {pl:List Nat} (hr:pl.Pairwise (·<·)) (h8:∀ p∈pl,p<8) (hl:pl.length<=4) {n:Int} (h0:0<=n) (h1:n<16) (led:Bool):∃ j,(⟨7,pl.toArray,#[],0,led,0,true⟩:SetTable).freeSlot n=some (j,false)/\j<8/\j∉pl:=by
 obtain ⟨k,rfl⟩:=Zdp h0 h1
 have f:=ZhY pl (Zjc (Zdr 8 0 pl hr fun p hp=>⟨Nat.zero_le _,by have:=h8 p hp;omega⟩)) hl k led
 cases hs:(⟨7,pl.toArray,#[],0,led,0,true⟩:SetTable).freeSlot (k.val:Int) with
 | none=>rw [hs] at f;cases f
 | some q =>
  obtain ⟨j,b⟩:=q
  rw [hs] at f
  have f:(decide (j<8)&&!pl.contains j&&!b)=true:=f
  rw [Bool.and_eq_true,Bool.and_eq_true,decide_eq_true_eq,Bool.not_eq_true',Bool.not_eq_true'] at f
  obtain ⟨⟨f1,f2⟩,rfl⟩:=f
  exact ⟨j,rfl,f1,fun z=>by rw [List.contains_iff_mem.mpr z] at f2;cases f2⟩
end L2
namespace L2
open PySem PySem.Spec PyProof.Rows PySem.Calls PySem.W
theorem ZhZ {α:Type} [DecidableEq α] {l₁ l₂:List α} (h1:l₁.Nodup) (h2:l₂.Nodup) (h:∀ x,x∈l₁ ↔ x∈l₂):l₁.Perm l₂:=by
 refine List.perm_iff_count.mpr fun a=>?_
 rw [List.Nodup.count h1,List.Nodup.count h2]
 by_cases q:a∈l₁
 .rw [if_pos q,if_pos ((h a).mp q)]
 .rw [if_neg q,if_neg (fun z=>q ((h a).mpr z))]
theorem idx_at {hs:List Int} (hn:hs.Nodup) {k:Nat} {h:Int} (e:hs[k]?=some h):hs.findIdx? (fun x=>x==h)=some k:=by
 obtain ⟨hk,he⟩:=List.getElem?_eq_some_iff.mp e
 refine List.findIdx?_eq_some_iff_getElem.mpr ⟨hk,by simp [he],fun j hj=>?_⟩
 have hjl:j<hs.length:=Nat.lt_trans hj hk
 intro z
 have z:hs[j]=h:=by simpa using z
 have:=(List.getElem?_inj hjl hn).mp ((List.getElem?_eq_getElem hjl).trans (by rw [z,e]))
 omega
theorem idx_of {hs:List Int} {k:Nat} {h:Int} (e:hs.findIdx? (fun x=>x==h)=some k):hs[k]?=some h:=by
 obtain ⟨hk,hp,_⟩:=List.findIdx?_eq_some_iff_getElem.mp e
 have hp:hs[k]=h:=by simpa using hp
 rw [List.getElem?_eq_getElem hk,hp]
theorem Zh0 {t:SetTable} {pl:List Nat} (ht:t.place=pl.toArray) (hd:t.dummies=#[]) {j:Nat} (hj:j∉pl):t.slot j=.empty:=by
 unfold SetTable.slot
 dsimp only
 rw [ht,hd]
 have h1:¬ ((pl.toArray[SetTable.below pl.toArray j]?==some j)=true):=fun z=>by
  have z:pl.toArray[SetTable.below pl.toArray j]?=some j:=by simpa using z
  rw [List.getElem?_toArray] at z
  exact hj (List.mem_of_getElem? z)
 rw [if_neg h1]
 rfl
theorem bits16:∀ k:Fin 16,SetTable.bits (k.val:Int)=k.val:=by decide +kernel
theorem free31 {pl:List Nat} {n:Int} (h0:0<=n) (h1:n<16) (hn:n.toNat∉pl) (led:Bool):(⟨31,pl.toArray,#[],0,led,1,true⟩:SetTable).freeSlot n=some (n.toNat,false):=by
 obtain ⟨k,rfl⟩:=Zdp h0 h1
 have hk:(k.val:Int).toNat=k.val:=Int.toNat_natCast _
 rw [hk] at hn |-
 have hb:=bits16 k
 have hm:SetTable.bits (k.val:Int) % 32=k.val:=by rw [hb];exact Nat.mod_eq_of_lt (by have:=k.isLt;omega)
 unfold SetTable.freeSlot SetTable.probe
 have e:SetTable.probeStart (⟨31,pl.toArray,#[],0,led,1,true⟩:SetTable) (k.val:Int)={ j:=k.val,more:=SetTable.runEnd 31 k.val-k.val,i:=k.val,perturb:=k.val,dummy:=none }:=by
  unfold SetTable.probeStart
  dsimp only
  rw [show (31+1:Nat)=32 from rfl,hm,hb]
 rw [e,show 10*SetTable.turns (⟨31,pl.toArray,#[],0,led,1,true⟩:SetTable).mask=459+1 from rfl]
 unfold SetTable.probe.go
 dsimp only
 rw [Zh0 (pl:=pl) rfl rfl hn]
 rfl
noncomputable def ownA (hs:List Int):Array (Option Nat):=((List.range 32).map fun (j:Nat)=>hs.findIdx? fun h=>h==(j:Int)).toArray
theorem Zf6 {hs:List Int} {j:Nat} (hj:j<32):(ownA hs)[j]?=some (hs.findIdx? fun h=>h==(j:Int)):=by
 unfold ownA
 rw [List.getElem?_toArray,List.getElem?_map,List.getElem?_range hj]
 rfl
theorem ZkP:ownA []=Array.replicate 32 none:=by decide +kernel
theorem Zjd {ps:List Int} {h:Int} (h0:0<=h) (h1:h<16) (hn:h∉ps):(ownA ps).setIfInBounds h.toNat (some ps.length)=ownA (ps++[h]):=by
 apply Array.ext_getElem?
 intro j
 have hsz:(ownA ps).size=32:=by simp [ownA]
 rw [Array.getElem?_setIfInBounds]
 by_cases hj:j<32
 .rw [Zf6 (hs:=ps++[h]) hj]
  by_cases e:h.toNat=j
  .rw [if_pos e,if_pos (by rw [hsz];omega)]
   have ej:(j:Int)=h:=by omega
   rw [ej,List.findIdx?_append]
   have:ps.findIdx? (fun x=>x==h)=none:=by
    rw [List.findIdx?_eq_none_iff]
    intro x hx
    simp
    intro z
    exact hn (z▸hx)
   rw [this]
   simp
  .rw [if_neg e,Zf6 (hs:=ps) hj,List.findIdx?_append]
   have:([h]:List Int).findIdx? (fun x=>x==(j:Int))=none:=by
    rw [List.findIdx?_eq_none_iff]
    intro x hx
    rw [List.mem_singleton.mp hx]
    simp
    omega
   rw [this]
   cases ps.findIdx? fun x=>x==(j:Int)<;>rfl
 .rw [if_neg (by omega)]
  have h2:(ownA (ps++[h])).size=32:=by simp [ownA]
  rw [Array.getElem?_eq_none (by omega),Array.getElem?_eq_none (by omega)]
theorem Zje {ps:List Int} {i pert:Nat} (hi:i<16) (hn:(i:Int)∉ps):SetTable.layClean.free 31 (ownA ps) (SetTable.turns 31) i pert=some i:=by
 rw [show SetTable.turns 31=45+1 from rfl]
 unfold SetTable.layClean.free
 have hr:SetTable.runEnd 31 i+1-i=10:=by unfold SetTable.runEnd;rw [if_pos (by omega)];omega
 rw [hr]
 have h0:((ownA ps).getD (i+0) (some 0)).isNone=true:=by
  have e:=Zf6 (hs:=ps) (j:=i) (by omega)
  rw [Array.getD_eq_getD_getElem?,Nat.add_zero,e]
  have:ps.findIdx? (fun x=>x==(i:Int))=none:=by
   rw [List.findIdx?_eq_none_iff]
   intro x hx
   simp
   intro z
   exact hn (z▸hx)
  rw [this]
  rfl
 have:(List.range 10).find? (fun k=>((ownA ps).getD (i+k) (some 0)).isNone)=some 0:=by
  rw [show List.range 10=0::[1,2,3,4,5,6,7,8,9] from rfl,List.find?_cons,h0]
 rw [this]
 rfl
theorem Zf7:∀ (rest ps:List Int),(ps++rest).Nodup->(∀ h∈rest,0<=h/\h<16) ->
  rest.foldl (fun acc h=>do
   let (owner,k) <- acc
   let j <- SetTable.layClean.free 31 owner (SetTable.turns 31) (SetTable.bits h % (31+1)) (SetTable.bits h)
   pure (owner.setIfInBounds j (some k),k+1)) (some (ownA ps,ps.length))=some (ownA (ps++rest),(ps++rest).length)
 | [],ps,_,_=>by simp
 | h::rest,ps,hn,hb=>by
  have hh:=hb h (.head _)
  have hnp:h∉ps:=fun z=>(List.nodup_append.mp hn).2.2 h z h (.head _) rfl
  obtain ⟨k,rfl⟩:=Zdp hh.1 hh.2
  have hbit:=bits16 k
  have hm:SetTable.bits (k.val:Int) % (31+1)=k.val:=by rw [hbit];exact Nat.mod_eq_of_lt (by have:=k.isLt;omega)
  rw [List.foldl_cons]
  have step:(do
   let (owner,k') <- some (ownA ps,ps.length)
   let j <- SetTable.layClean.free 31 owner (SetTable.turns 31) (SetTable.bits (k.val:Int) % (31+1)) (SetTable.bits (k.val:Int))
   pure (owner.setIfInBounds j (some k'),k'+1))=some (ownA (ps++[(k.val:Int)]),(ps++[(k.val:Int)]).length):=by
   show (SetTable.layClean.free 31 (ownA ps) (SetTable.turns 31) (SetTable.bits (k.val:Int) % (31+1)) (SetTable.bits (k.val:Int))).bind _=_
   rw [hm,Zje k.isLt hnp]
   have e:=Zjd hh.1 hh.2 hnp
   rw [Int.toNat_natCast] at e
   show some ((ownA ps).setIfInBounds k.val (some ps.length),ps.length+1)=_
   rw [e,List.length_append]
   rfl
  rw [step,Zf7 rest (ps++[(k.val:Int)]) (by rw [List.append_assoc];exact hn) (fun x hx=>hb x (.tail _ hx)),List.append_assoc]
  rfl
theorem Zh1 {hs:List Int} (hn:hs.Nodup) (hb:∀ h∈hs,0<=h/\h<16):SetTable.layClean 31 hs.toArray=some (ownA hs):=by
 unfold SetTable.layClean
 rw [<- Array.foldl_toList]
 have e:=Zf7 hs [] hn hb
 rw [ZkP] at e
 show Option.map (·.1) (hs.foldl _ (some (Array.replicate (31+1) none,0)))=_
 exact (congrArg (Option.map (·.1)) e)
noncomputable def liveL (hs:List Int):List (Nat×Nat):=(List.range 32).filterMap fun (j:Nat)=>(hs.findIdx? fun h=>h==(j:Int)).map (j,·)
theorem Zf8 {α β:Type} {f g:α->Option β}:∀ {l:List α},(∀ x∈l,f x=g x)->l.filterMap f=l.filterMap g
 | [],_=>rfl
 | a::l,h=>by rw [List.filterMap_cons,List.filterMap_cons,h a (.head _),Zf8 fun x hx=>h x (.tail _ hx)]
theorem Zjf (hs:List Int):((List.range 32).filterMap fun j=>((ownA hs).getD j none).map (j,·))=liveL hs:=by
 unfold liveL
 refine Zf8 fun j hj=>?_
 have hj:=List.mem_range.mp hj
 rw [Array.getD_eq_getD_getElem?,Zf6 hj]
 rfl
theorem Zc0 {hs:List Int} {p:Nat×Nat} (h:p∈liveL hs):p.1<32/\hs[p.2]?=some (p.1:Int):=by
 obtain ⟨j,hj,e⟩:=List.mem_filterMap.mp h
 obtain ⟨k,hk,rfl⟩:=Option.map_eq_some_iff.mp e
 exact ⟨List.mem_range.mp hj,idx_of hk⟩
theorem Zjg {hs:List Int} (hn:hs.Nodup) (hb:∀ h∈hs,0<=h/\h<16) {k:Nat} {h:Int} (e:hs[k]?=some h):(h.toNat,k)∈liveL hs:=by
 have hh:=hb h (List.mem_of_getElem? e)
 refine List.mem_filterMap.mpr ⟨h.toNat,List.mem_range.mpr (by omega),?_⟩
 rw [show ((h.toNat:Nat):Int)=h by omega,idx_at hn e]
 rfl
theorem ZeU (hs:List Int):(liveL hs).Pairwise fun a b=>a.1<b.1:=by
 unfold liveL
 refine List.Pairwise.filterMap _ (fun a a' haa b hb b' hb'=>?_) List.pairwise_lt_range
 obtain ⟨k,_,rfl⟩:=Option.map_eq_some_iff.mp hb
 obtain ⟨k',_,rfl⟩:=Option.map_eq_some_iff.mp hb'
 exact haa
theorem ZgL {hs:List Int} (hn:hs.Nodup) (hb:∀ h∈hs,0<=h/\h<16):((liveL hs).map (·.2)).Perm (List.range hs.length):=by
 refine ZhZ ?_ List.nodup_range fun x=>?_
 .rw [List.nodup_iff_pairwise_ne,List.pairwise_map]
  refine (ZeU hs).imp_of_mem fun {a b} ha hb' hlt e=>?_
  have h1:=(Zc0 ha).2
  have h2:=(Zc0 hb').2
  rw [e,h2] at h1
  have:(b.1:Int)=a.1:=Option.some.inj h1
  omega
 .rw [List.mem_range]
  constructor
  .intro h
   obtain ⟨p,hp,rfl⟩:=List.mem_map.mp h
   exact (List.getElem?_eq_some_iff.mp (Zc0 hp).2).1
  .intro h
   exact List.mem_map.mpr ⟨_,Zjg hn hb (List.getElem?_eq_getElem h),rfl⟩
theorem Zjh {hs:List Int} (hn:hs.Nodup) (hb:∀ h∈hs,0<=h/\h<16) (f mv:Nat) (led plain:Bool):SetTable.laid 31 f mv led plain hs.toArray=some (⟨31,((liveL hs).map (·.1)).toArray,#[],f,led,mv,plain⟩,((liveL hs).map (·.2)).toArray):=by
 unfold SetTable.laid
 rw [Zh1 hn hb]
 show some (_,_)=_
 rw [show (31+1:Nat)=32 from rfl,Zjf]
theorem Zf9 {es:List (Int×Value)}:∀ {L:List (Nat×Nat)},(∀ p∈L,∃ e,es[p.2]?=some e/\e.1.toNat=p.1)->((L.map (·.2)).filterMap fun k=>es[k]?).map (fun e=>e.1.toNat)=L.map (·.1)
 | [],_=>rfl
 | p::L,h=>by
  obtain ⟨e,h1,h2⟩:=h p (.head _)
  rw [List.map_cons,List.filterMap_cons,h1]
  show e.1.toNat::_=p.1::_
  rw [h2,Zf9 fun q hq=>h q (.tail _ hq)]
theorem ZkQ {es:List (Int×Value)} (hn:(es.map (·.1)).Nodup) (hb:∀ e∈es,0<=e.1/\e.1<16) (h5:es.length=5) (pl:List Nat) (led:Bool) :
  ∃ es2:List (Int×Value),relayAll ⟨7,pl.toArray,#[],0,led,0,true⟩ es.toArray 20=(es2.toArray,⟨31,(es2.map fun e=>e.1.toNat).toArray,#[],0,led,1,true⟩,false)/\es2.Perm es/\(es2.map fun e=>e.1.toNat).Pairwise (·<·):=by
 have hb':∀ h∈es.map (·.1),0<=h/\h<16:=fun h hh=>by
  obtain ⟨e,he,rfl⟩:=List.mem_map.mp hh
  exact hb e he
 have hlm:=Zf9 (es:=es) (L:=liveL (es.map (·.1))) fun p hp=>by
  have h:=(Zc0 hp).2
  rw [List.getElem?_map] at h
  obtain ⟨e,h1,h2⟩:=Option.map_eq_some_iff.mp h
  exact ⟨e,h1,by rw [h2];exact Int.toNat_natCast _⟩
 have hord:=ZgL hn hb'
 have hlen:(liveL (es.map (·.1))).length=5:=by
  have:=hord.length_eq
  rw [List.length_map,List.length_range,List.length_map] at this
  omega
 have hl2:(((liveL (es.map (·.1))).map (·.2)).filterMap fun k=>es[k]?).length=5:=by
  have:=congrArg List.length hlm
  rw [List.length_map,List.length_map] at this
  omega
 have hp:=relayAll_perm ⟨7,pl.toArray,#[],0,led,0,true⟩ es.toArray 20
 have e:relayAll ⟨7,pl.toArray,#[],0,led,0,true⟩ es.toArray 20=((((liveL (es.map (·.1))).map (·.2)).filterMap fun k=>es[k]?).toArray,⟨31,((liveL (es.map (·.1))).map (·.1)).toArray,#[],0,led,1,true⟩,false):=by
  unfold relayAll SetTable.relaid
  rw [show SetTable.sizeAbove 20-1=31 by decide +kernel,show (SetTable.movedTo ⟨7,pl.toArray,#[],0,led,0,true⟩ 31)=1 from rfl,List.map_toArray]
  dsimp only
  rw [Zjh hn hb']
  dsimp only
  have he:(((liveL (es.map (·.1))).map (·.2)).toArray.filterMap fun k=>es.toArray[k]?)=(((liveL (es.map (·.1))).map (·.2)).filterMap fun k=>es[k]?).toArray:=by
   simp
  rw [he]
  have hc:coversAll ((liveL (es.map (·.1))).map (·.2)).toArray es.toArray.size=true:=by
   unfold coversAll
   refine List.isPerm_iff.mpr ?_
   have:=hord
   rw [List.length_map] at this
   simpa using this
  have hf:(⟨31,((liveL (es.map (·.1))).map (·.1)).toArray,#[],0,led,1,true⟩:SetTable).fits (((liveL (es.map (·.1))).map (·.2)).filterMap fun k=>es[k]?).toArray.size=true:=by
   unfold SetTable.fits SetTable.fill
   dsimp only
   simp only [List.size_toArray,List.length_map,hlen,hl2]
   decide
  rw [hc,hf]
  rfl
 rw [e] at hp
 refine ⟨_,by rw [e,hlm],by simpa using hp,?_⟩
 rw [hlm,List.pairwise_map]
 exact ZeU _
end L2
namespace L2
open PySem PySem.Spec PyProof.Rows PySem.Calls PySem.W
noncomputable def tabG (w:World) (m mv:Nat) (pl:List Nat):SetTable:=⟨m,pl.toArray,#[],0,!byT w,mv,true⟩
noncomputable def objG (w:World) (es:List (Int×Value)) (ep m mv:Nat) (pl:List Nat):Obj:={ cls:=.type "set", dict:=none,data:=.set es.toArray ep (tabG w m mv pl) }
structure SetG (w:World) (h:Heap) (d:Addr) (es:List (Int×Value)) (ep m mv:Nat) (pl:List Nat):Prop where
 ob:h.get? d=some (objG w es ep m mv pl)
 sz:pl.length=es.length
 up:pl.Pairwise (·<·)
 el:∀ e∈es,∃ n t,e=eI n t/\0<=n/\n<16
 nd:(es.map (·.1)).Nodup
 tb:(m=7/\mv=0/\es.length<=4/\∀ p∈pl,p<8)\/(m=31/\mv=1/\pl=es.map fun e=>e.1.toNat)
theorem SetG.few {w:World} {h:Heap} {d:Addr} {es:List (Int×Value)} {ep m mv:Nat} {pl:List Nat} (S:SetG w h d es ep m mv pl):es.length<=16:=by
 rcases S.tb with ⟨_,_,h,_⟩|⟨_,_,h⟩
 .omega
 .rw [<- S.sz]
  refine ZhX S.up fun v hv=>?_
  rw [h] at hv
  obtain ⟨e,he,rfl⟩:=List.mem_map.mp hv
  obtain ⟨n,t,rfl,h0,h1⟩:=S.el e he
  show n.toNat<16
  omega
theorem SetG.fits {w:World} {h:Heap} {d:Addr} {es:List (Int×Value)} {ep m mv:Nat} {pl:List Nat} (S:SetG w h d es ep m mv pl):(tabG w m mv pl).fits es.toArray.size=true:=by
 have h1:=S.sz
 have h2:=S.few
 have h3:pl.length<=m:=by
  rcases S.tb with ⟨rfl,_,h,_⟩|⟨rfl,_,_⟩<;>omega
 simp [SetTable.fits,SetTable.fill,tabG,h1]
 omega
theorem SetG.keep {w:World} {h h':Heap} {d:Addr} {es:List (Int×Value)} {ep m mv:Nat} {pl:List Nat} (S:SetG w h d es ep m mv pl) (k:∀ o,h.get? d=some o->h'.get? d=some o):SetG w h' d es ep m mv pl:=⟨k _ S.ob,S.sz,S.up,S.el,S.nd,S.tb⟩
theorem SetG.els {prog:Program} {w:World} {h:Heap} {d:Addr} {es:List (Int×Value)} {ep m mv:Nat} {pl:List Nat} (S:SetG w h d es ep m mv pl):ElemsOf (intKind prog w) es:=fun e he=>by
 obtain ⟨n,t,rfl,h0,h1⟩:=S.el e he
 exact ZhW h0 h1
noncomputable def ordG (w:World) (d:Addr) (ep:Nat) (es:List (Int×Value)):List (Int×Value):=if byT w then (pickOrder (w.params.setOrder d ep) es.toArray).toList else es
theorem Zcw {w:World} {d:Addr} {ep:Nat} {es:List (Int×Value)}:(ordG w d ep es).Perm es:=by
 unfold ordG
 split
 .exact ZgK _ es
 .exact .refl _
section
variable {prog:Program} {w:World} {A:Around} {E:Value->Shared->Prop} {s:Shared} {d it:Addr} {es:List (Int×Value)} {ep m mv:Nat} {pl:List Nat}
theorem ZaZ {Q:(Array (Int×Value)×Nat×SetTable)->Shared->Prop} (S:SetG w s.heap d es ep m mv pl) (h:Q (es.toArray,ep,tabG w m mv pl) s):wpAny (model prog w) A (setState d) Q E s:=wpAny_setState_of S.ob rfl S.fits h
theorem ZgM {Q:Bool->Shared->Prop} (S:SetG w s.heap d es ep m mv pl) (h:Q false s):wpAny (model prog w) A (setDrawn d) Q E s:=by
 unfold setDrawn
 refine wpAny_bind (ZaZ S ?_)
 refine wpAny_bind (Zcb ?_)
 have key:∀ (b c:Bool),c=false->Q (!b&&c) s:=fun b c hc=>by subst hc;rw [Bool.and_false];exact h
 exact wpAny_pure (key _ _ rfl)
theorem Zh2 {Q:Array (Int×Value)->Shared->Prop} (S:SetG w s.heap d es ep m mv pl) (hb:byT w=true) (h:Q (ordG w d ep es).toArray s):wpAny (model prog w) A (setWalk d) Q E s:=by
 unfold setWalk
 refine wpAny_bind (ZaZ S ?_)
 refine wpAny_bind (Zcb ?_)
 rw [hb]
 dsimp only
 refine Zau (fun _=>?_) (fun z=>absurd rfl z)
 refine wpAny_bind (wpAny_askSetting (wpAny_pure ?_))
 unfold ordG at h
 rw [if_pos hb] at h
 exact h
theorem ZgN (hr:pl.Pairwise (·<·)):∀ i,i<=pl.length->SetTable.below pl.toArray (match i with|0=>0|k+1=>pl.getD k 0+1)=i
 | 0,_=>Zf4 hr (Nat.zero_le _) (fun _ _ h=>absurd h (Nat.not_lt_zero _)) (fun _ _ _ _=>Nat.zero_le _)
 | k+1,hi=>by
  have e:=List.getElem?_eq_getElem (show k<pl.length from hi)
  have eg:pl.getD k 0=pl[k]:=by rw [List.getD_eq_getElem?_getD,e];rfl
  refine Zf4 hr hi (fun j v hj hv=>?_) (fun j v hj hv=>?_)
  .show v<pl.getD k 0+1
   rw [eg]
   rcases Nat.lt_or_ge j k with h|h
   .have:=Zdq hr h hv e;omega
   .have:j=k:=by omega
    subst this
    rw [e] at hv
    cases hv
    exact Nat.lt_succ_self _
  .show pl.getD k 0+1<=v
   rw [eg]
   have:=Zdq hr (show k<j by omega) e hv
   omega
theorem ZeV {Q:Option (Value×Nat)->Shared->Prop} (S:SetG w s.heap d es ep m mv pl) {i:Nat} (hi:i<=es.length) (h:Q ((ordG w d ep es)[i]?.map fun e=>(e.2,slotAt w pl (i+1))) s):wpAny (model prog w) A (setNext d (slotAt w pl i) i ep) Q E s:=by
 unfold setNext
 refine wpAny_bind (ZaZ S ?_)
 refine wpAny_bind (Zcb ?_)
 cases hb:byT w with
 | true =>
  refine Zau (fun _=>?_) (fun z=>absurd rfl z)
  dsimp only
  refine Zau (fun z=>absurd z (by simp)) (fun _=>?_)
  refine wpAny_bind (Zh2 S hb (wpAny_pure ?_))
  rw [List.getElem?_toArray]
  have e:∀ j,slotAt w pl j=0:=fun j=>by unfold slotAt;rw [if_pos hb]
  rw [e] at h |-
  exact h
 | false =>
  refine Zau (fun z=>absurd z (by decide)) (fun _=>?_)
  dsimp only
  refine Zau (fun z=>absurd z (show ¬ ((false:Bool)=true) from Bool.false_ne_true)) (fun _=>?_)
  have ht:tabG w m mv pl=⟨m,pl.toArray,#[],0,true,mv,true⟩:=by unfold tabG;rw [hb];rfl
  rw [ht]
  refine wpAny_bind (wpAny_of_eq (a:=()) rfl (wpAny_pure ?_))
  have hbel:SetTable.below pl.toArray (slotAt w pl i)=i:=by
   unfold slotAt
   rw [hb]
   exact ZgN S.up i (by rw [S.sz];exact hi)
  dsimp only
  rw [hbel,List.getElem?_toArray,List.getElem?_toArray]
  unfold ordG at h
  rw [hb,if_neg Bool.false_ne_true] at h
  rcases Nat.lt_or_ge i es.length with hlt|hge
  .have h1:=List.getElem?_eq_getElem hlt
   have h2:=List.getElem?_eq_getElem (show i<pl.length by rw [S.sz];exact hlt)
   rw [h1] at h |-
   rw [h2]
   have e:slotAt w pl (i+1)=pl[i]'(by rw [S.sz];exact hlt)+1:=by
    unfold slotAt
    rw [hb,if_neg Bool.false_ne_true]
    show pl.getD i 0+1=_
    rw [List.getD_eq_getElem?_getD,h2]
    rfl
   rw [e] at h
   exact h
  .have h1:=List.getElem?_eq_none hge
   rw [h1] at h |-
   exact h
theorem Zh3 {Q:Value->Shared->Prop} (S:SetG w s.heap d es ep m mv pl) (hQ:Q (.ref s.heap.objs.size) { s with heap:=s.heap.push (siObj d es.length ep (slotAt w pl 0) 0) }):wpAny (model prog w) A (pyIter (.ref d)) Q E s:=by
 have hT:s.TypeIs (.ref d) "set" := ⟨_,S.ob,rfl⟩
 refine wpAny_pyIter_slot hT F.slot_set_iter (wpAny_call_entry F.slot_set_iter hT ZdW ?_ (F.args_set_iter_1 _))
 unfold Builtin.«frozenset.__iter__»
 refine wpAny_bind (wpAny_of_eq (a:=d) rfl ?_)
 refine wpAny_bind (wpAny_bind (wpAny_bind (ZaZ S (wpAny_pure (wpAny_pure ?_)))))
 refine wpAny_bind (ZgM S ?_)
 dsimp only
 refine Zau (fun z=>absurd z Bool.false_ne_true) (fun _=>?_)
 refine wpAny_bind (wpAny_pure ?_)
 refine wpAny_bind (wpAny_bind (ZaZ S (wpAny_pure ?_)))
 refine wpAny_bind (wpAny_newObj_type (wpAny_pure ⟨_,rfl, "set_iterator", _,⟨_,Heap.get?_push_size _ rfl,rfl⟩,Zbk.lookup,?_⟩))
 have e0:slotAt w pl 0=0:=by unfold slotAt;split<;>rfl
 unfold siObj at hQ
 rw [e0] at hQ
 simpa [rawInt] using hQ
theorem Zji {i:Nat} {x:Int×Value} {Q:Option Value->Shared->Prop} (S:SetG w s.heap d es ep m mv pl) (hit:s.heap.get? it=some (siObj d es.length ep (slotAt w pl i) i)) (hx:(ordG w d ep es)[i]?=some x)
  (hQ:∀ h',h'.get? it=some (siObj d es.length ep (slotAt w pl (i+1)) (i+1))->Heap.SameBut it s.heap h'->Q (some x.2) { s with heap:=h' }):wpAny (model prog w) A (pyNext (.ref it)) Q E s:=by
 have hT:s.TypeIs (.ref it) "set_iterator" := ⟨_,hit,rfl⟩
 have hi:i<=es.length:=by
  have h1:=(List.getElem?_eq_some_iff.mp hx).1
  have h2:=(Zcw (w:=w) (d:=d) (ep:=ep) (es:=es)).length_eq
  omega
 unfold pyNext
 refine wpAny_bind (wpAny_attempt (wpAny_callSpecial?_slot (name:=Str.ofString "__next__") hT Zbk (wpAny_call_entry Zbk hT ZcZ ?_ (Zee _))))
 unfold Builtin.«set_iterator.__next__»
 refine wpAny_bind (wpAny_of_eq (a:=(.ref it,[])) rfl ?_)
 refine wpAny_bind (wpAny_fieldsOf hit rfl ?_)
 dsimp only
 refine wpAny_bind (wpAny_bind (ZaZ S (wpAny_pure ?_)))
 refine Zau (fun z=>absurd z (by simp)) (fun _=>?_)
 simp only [Int.toNat_natCast]
 refine wpAny_bind (ZeV S hi ?_)
 rw [hx]
 dsimp only [Option.map]
 refine wpAny_bind (wpAny_setField hit rfl (show 0<5 by decide) ?_)
 have g1:(s.heap.update it (Obj.mapFields (·.setIfInBounds 0 (rawInt ((slotAt w pl (i+1):Nat):Int))))).get? it=some (siObj d es.length ep (slotAt w pl (i+1)) i):=Heap.get?_update_self _ hit rfl
 have b1:Heap.SameBut it s.heap (s.heap.update it (Obj.mapFields (·.setIfInBounds 0 (rawInt ((slotAt w pl (i+1):Nat):Int))))):=Heap.SameBut.update ..
 generalize s.heap.update it _=h1 at g1 b1 |-
 refine wpAny_bind (wpAny_setField (s:={ s with heap:=h1 }) g1 rfl (show 1<5 by decide) ?_)
 have g2:(h1.update it (Obj.mapFields (·.setIfInBounds 1 (rawInt ((i:Int)+1))))).get? it=some (siObj d es.length ep (slotAt w pl (i+1)) (i+1)):=Heap.get?_update_self _ g1 rfl
 exact wpAny_pure ⟨_,rfl,wpAny_pure (hQ _ g2 (b1.trans (Heap.SameBut.update ..)))⟩
theorem ZkR {Q:Option Value->Shared->Prop} (hh:A.handled=none) (S:SetG w s.heap d es ep m mv pl) (hit:s.heap.get? it=some (siObj d es.length ep (slotAt w pl es.length) es.length))
  (hQ:∀ h',Heap.ExtBut it s.heap h'->Q none { s with heap:=h' }):wpAny (model prog w) A (pyNext (.ref it)) Q E s:=by
 have hT:s.TypeIs (.ref it) "set_iterator" := ⟨_,hit,rfl⟩
 have hx:(ordG w d ep es)[es.length]?=none:=List.getElem?_eq_none (by rw [(Zcw (w:=w) (d:=d) (ep:=ep)).length_eq];exact Nat.le_refl _)
 unfold pyNext
 refine wpAny_bind (wpAny_attempt (wpAny_callSpecial?_slot (name:=Str.ofString "__next__") hT Zbk (wpAny_call_entry Zbk hT ZcZ ?_ (Zee _))))
 unfold Builtin.«set_iterator.__next__»
 refine wpAny_bind (wpAny_of_eq (a:=(.ref it,[])) rfl ?_)
 refine wpAny_bind (wpAny_fieldsOf hit rfl ?_)
 dsimp only
 refine wpAny_bind (wpAny_bind (ZaZ S (wpAny_pure ?_)))
 refine Zau (fun z=>absurd z (by simp)) (fun _=>?_)
 simp only [Int.toNat_natCast]
 refine wpAny_bind (ZeV S (Nat.le_refl _) ?_)
 rw [hx]
 dsimp only [Option.map]
 refine wpAny_bind (wpAny_setField hit rfl (show 2<5 by decide) ?_)
 refine wpAny_bind ?_
 simp only [newExc,newTuple]
 refine wpAny_bind (wpAny_newObj_type ?_ (by size_fits))
 refine wpAny_bind (m:=firstArgMember _ _) (wpAny_of_eq (a:=Value.none) (by first|rfl|(simp only [firstArgMember];rfl)) ?_)
 refine wpAny_newObj_type ?_ (by size_fits)
 simp only [raiseNew]
 refine wpAny_bind (wpAny_handled ?_)
 rw [show A.in1.handled=none from hh]
 refine wpAny_bind (wpAny_pure (wpAny_throw ?_))
 refine wpAny_bind (wpAny_isInstance (T := "StopIteration") (b:=true) ⟨_,Heap.get?_push_size _ rfl,rfl⟩ isSubtype_stop ?_)
 exact wpAny_pure (hQ _ (((Heap.SameBut.update ..).extBut.push _).push _))
theorem ZgO (hh:A.handled=none) (I:Addr) (hne:d≠I):Walks prog w A I [I,d] [I] es.length (fun i v=>∃ x,(ordG w d ep es)[i]?=some x/\v=x.2) (fun i h=>h.get? I=some (siObj d es.length ep (slotAt w pl i) i)/\SetG w h d es ep m mv pl) where
 sub:=fun b hb=>by simp at hb;simp [hb]
 frame:=fun _ _ _ st hk=>⟨hk I (by simp) _ st.1,st.2.keep fun o e=>hk d (by simp) o e⟩
 item:=fun i s Q E hi st hQ=>by
  obtain ⟨x,hx⟩:∃ x,(ordG w d ep es)[i]?=some x:=⟨(ordG w d ep es)[i]'(by rw [Zcw.length_eq];exact hi),List.getElem?_eq_getElem _⟩
  refine Zji st.2 st.1 hx fun h' g2 b2=>?_
  exact hQ x.2 h' s.toks ⟨x,hx,rfl⟩ ⟨g2,st.2.keep fun o e=>b2.extBut d o hne e⟩ fun b o hb e=>b2.extBut b o (fun z=>hb (by simp [z])) e
 done:=fun s Q E st hQ=>ZkR hh st.2 st.1 fun h' x=>hQ h' s.toks fun b o hb e=>x b o (fun z=>hb (by simp [z])) e
 self:=fun i s Q E st hQ=>Zdo st.1 hQ
end
end L2
namespace L2
open PySem PySem.Spec PyProof.Rows PySem.Calls PySem.W
theorem layG {w:World} {m mv:Nat} {pl:List Nat} {es:List (Int×Value)} {n:Int} {j:Nat} (hf:(tabG w m mv pl).freeSlot n=some (j,false)) (hsz:pl.length=es.length) (hm:es.length+1<=m) (x:Value) :
  layNew (tabG w m mv pl) es.toArray n x=((es.take (SetTable.below pl.toArray j)++(n,x)::es.drop (SetTable.below pl.toArray j)).toArray,tabG w m mv (pl.take (SetTable.below pl.toArray j)++j::pl.drop (SetTable.below pl.toArray j)),false,false):=by
 unfold layNew
 rw [hf]
 dsimp only
 have hp:(tabG w m mv pl).put j=(tabG w m mv (pl.take (SetTable.below pl.toArray j)++j::pl.drop (SetTable.below pl.toArray j)),SetTable.below pl.toArray j):=by
  unfold SetTable.put tabG
  dsimp only
  rw [Zf5,if_neg (by show ¬ (SetTable.has #[] j=true);simp [SetTable.has])]
 rw [hp]
 dsimp only
 rw [Zf5]
 have hfit:(tabG w m mv (pl.take (SetTable.below pl.toArray j)++j::pl.drop (SetTable.below pl.toArray j))).fits (es.take (SetTable.below pl.toArray j)++(n,x)::es.drop (SetTable.below pl.toArray j)).toArray.size=true:=by
  unfold SetTable.fits SetTable.fill tabG
  simp only [List.size_toArray,List.length_append,List.length_take,List.length_cons,List.length_drop,Bool.and_eq_true,beq_iff_eq,decide_eq_true_eq]
  constructor
  .omega
  .show _+0<=m
   omega
 rw [hfit]
 unfold SetTable.orStandIn
 rw [if_pos hfit]
 rfl
theorem Zga {α:Type} (l:List α) (p:Nat) (x:α):(l.take p++x::l.drop p).Perm (x::l):=by
 refine List.perm_middle.trans ?_
 rw [List.take_append_drop]
section
variable {prog:Program} {w:World} {A:Around} {E:Value->Shared->Prop} {s:Shared} {d:Addr} {es:List (Int×Value)} {ep m mv:Nat} {pl:List Nat} {n:Int} {t:Tok}
theorem addG {Q:Bool->Shared->Prop} (S:SetG w s.heap d es ep m mv pl) (h0:0<=n) (h1:n<16)
  (h:∀ r h' es' ep' m' mv' pl',Heap.SameBut d s.heap h'->SetG w h' d es' ep' m' mv' pl'->(∀ k,k∈es'.map (·.1) ↔ k=n\/k∈es.map (·.1))->Q r { s with heap:=h' }):wpAny (model prog w) A (setAddHashed d (.int n t) n) Q E s:=by
 have hb:es.toArray.size<scanBound:=by
  have e:es.toArray.size=es.length:=by simp
  have:=S.few
  unfold scanBound
  omega
 have hx:=hash16 h0 h1
 unfold setAddHashed setAddHashedIn
 refine wpAny_holding (wpAny_bind (ZaZ S ?_))
 dsimp only
 rw [byScan_of (knd:=intKind prog w) rfl hb (by simpa using S.els)]
 simp only [↓reduceIte]
 unfold setAddByScan
 refine wpAny_bind ?_
 refine wpAny_bind (wpAny_rule ?_)
 have sc:=fun (r:ScanMet) (hr:(match es.findIdx? (fun e=>(intKind prog w).is n e.2) with|some j=>ScanMet.found (0+j)|none=>ScanMet.absent)=r)=>wpAny_setScan_of (knd:=intKind prog w) (A:=A) (E:=E) (s:=s) (adding:=true) (k:=n) (x:=.int n t) (intKind_is _ _ _ _) S.ob (es:=es.toArray) rfl S.fits (by simpa using S.els) (Q:=fun r' s1=>r'=r/\s1=s) (by
  show (match es.toArray.toList.findIdx? (fun e=>(intKind prog w).is n e.2) with|some j=>ScanMet.found (0+j)|none=>ScanMet.absent)=r/\s=s
  exact ⟨hr,rfl⟩)
 have isn:∀ e∈es,(intKind prog w).is n e.2=true ↔ e.1=n:=fun e he=>by
  obtain ⟨k,tk,rfl,_,_⟩:=S.el e he
  show Value.isInt n (.int k tk)=true ↔ k=n
  simp [Value.isInt]
 cases hq:es.findIdx? (fun e=>(intKind prog w).is n e.2) with
 | some j =>
  have sc:=sc (.found (0+j)) (by rw [hq])
  rw [show (intKind prog w).hash n=n from hx] at sc
  refine wpAny_bind (wpAny_mono sc (fun r s1 ⟨e1,e2⟩=>?_) fun _ _ z=>z)
  subst e1
  subst e2
  refine wpAny_pure (wpAny_pure ?_)
  refine h _ s1.heap es ep m mv pl (Heap.SameBut.refl ..) S fun k=>⟨.inr,fun z=>?_⟩
  rcases z with rfl|z
  .obtain ⟨hj,hp,_⟩:=List.findIdx?_eq_some_iff_getElem.mp hq
   exact List.mem_map.mpr ⟨_,List.getElem_mem hj,(isn _ (List.getElem_mem hj)).mp hp⟩
  .exact z
 | none =>
  have hno:n∉es.map (·.1):=fun z=>by
   obtain ⟨e,he,hen⟩:=List.mem_map.mp z
   have:=List.findIdx?_eq_none_iff.mp hq e he
   rw [(isn e he).mpr hen] at this
   cases this
  have sc:=sc .absent (by rw [hq])
  rw [show (intKind prog w).hash n=n from hx] at sc
  refine wpAny_bind (wpAny_mono sc (fun r s1 ⟨e1,e2⟩=>?_) fun _ _ z=>z)
  subst e1
  subst e2
  have hfew:=S.few
  obtain ⟨j,hf,hj,hm,hjn⟩:∃ j,(tabG w m mv pl).freeSlot n=some (j,false)/\(m=7->j<8)/\(m=31->j=n.toNat)/\j∉pl:=by
   rcases S.tb with ⟨rfl,rfl,hl,h8⟩|⟨rfl,rfl,hpl⟩
   .obtain ⟨j,f1,f2,f3⟩:=free7 S.up h8 (by rw [S.sz];exact hl) h0 h1 (!byT w)
    exact ⟨j,f1,fun _=>f2,fun z=>absurd z (by decide),f3⟩
   .have hn:n.toNat∉pl:=fun z=>by
     rw [hpl] at z
     obtain ⟨e,he,hen⟩:=List.mem_map.mp z
     obtain ⟨k,tk,rfl,k0,_⟩:=S.el e he
     have hen:k.toNat=n.toNat:=hen
     exact hno (List.mem_map.mpr ⟨_,he,by show k=n;omega⟩)
    exact ⟨n.toNat,free31 h0 h1 hn (!byT w),fun z=>absurd z (by decide),fun _=>rfl,hn⟩
  have hle:es.length+1<=m:=by rcases S.tb with ⟨rfl,_,hl,_⟩|⟨rfl,_,_⟩<;>omega
  rw [layG hf S.sz hle]
  dsimp only
  have pm:=Zga es (SetTable.below pl.toArray j) (n,Value.int n t)
  have up1:=Zi9 S.up hjn
  have sz1:(pl.take (SetTable.below pl.toArray j)++j::pl.drop (SetTable.below pl.toArray j)).length=(es.take (SetTable.below pl.toArray j)++(n,Value.int n t)::es.drop (SetTable.below pl.toArray j)).length:=by
   have:=S.sz
   simp only [List.length_append,List.length_take,List.length_cons,List.length_drop]
   omega
  have mp1:(pl.take (SetTable.below pl.toArray j)++j::pl.drop (SetTable.below pl.toArray j)).Perm (j::pl):=Zga pl _ j
  have tb31:m=31->pl=(es.map fun e=>e.1.toNat)->(pl.take (SetTable.below pl.toArray j)++j::pl.drop (SetTable.below pl.toArray j))=(es.take (SetTable.below pl.toArray j)++(n,Value.int n t)::es.drop (SetTable.below pl.toArray j)).map fun e=>e.1.toNat:=fun z e=>by
   rw [List.map_append,List.map_cons,List.map_take,List.map_drop,<- e,hm z]
  generalize pl.take (SetTable.below pl.toArray j)++j::pl.drop (SetTable.below pl.toArray j)=pl1 at up1 sz1 mp1 tb31 |-
  generalize es.take (SetTable.below pl.toArray j)++(n,Value.int n t)::es.drop (SetTable.below pl.toArray j)=es1 at pm sz1 tb31 |-
  have hl1:es1.length=es.length+1:=by rw [pm.length_eq];rfl
  have el1:∀ e∈es1,∃ k tk,e=eI k tk/\0<=k/\k<16:=fun e he=>by
   rcases List.mem_cons.mp (pm.mem_iff.mp he) with rfl|he
   .exact ⟨n,t,rfl,h0,h1⟩
   .exact S.el e he
  have nd1:(es1.map (·.1)).Nodup:=(pm.map (·.1)).nodup_iff.mpr (List.nodup_cons.mpr ⟨hno,S.nd⟩)
  have mem1:∀ k,k∈es1.map (·.1) ↔ k=n\/k∈es.map (·.1):=fun k=>by rw [(pm.map (·.1)).mem_iff,List.map_cons,List.mem_cons]
  have hsz1:es1.toArray.size<=sizeLine:=by
   have e:es1.toArray.size=es1.length:=by simp
   rw [e,PySem.sizeLine_eq]
   omega
  refine wpAny_bind (wpAny_of_eq (a:=()) rfl ?_)
  refine Zau (fun _=>?_) (fun z=>absurd rfl z)
  refine wpAny_bind (wpAny_of_eq (a:=true) rfl ?_)
  simp only [↓reduceIte]
  by_cases h5:m=7/\es1.length=5
  .have hfull:(tabG w m mv pl1).tooFull=true:=by
    simp [SetTable.tooFull,SetTable.fill,tabG,h5.1,sz1,h5.2]
   have mv0:mv=0:=by rcases S.tb with ⟨_,h,_,_⟩|⟨h,_,_⟩<;>omega
   obtain ⟨es2,hrel,pm2,up2⟩:=ZkQ nd1 (fun e he=>by obtain ⟨k,tk,rfl,a,b⟩:=el1 e he;exact ⟨a,b⟩) h5.2 pl1 (!byT w)
   refine wpAny_bind (wpAny_storeSet_of S.ob rfl ?_ hsz1)
   rw [hfull]
   refine Zau (fun _=>?_) (fun z=>absurd rfl z)
   have g1:(s1.heap.update d (Obj.putSet es1.toArray (tabG w m mv pl1))).get? d=some (objG w es1 (ep+1) m mv pl1):=Heap.get?_update_self _ S.ob rfl
   have b1:Heap.SameBut d s1.heap (s1.heap.update d (Obj.putSet es1.toArray (tabG w m mv pl1))):=Heap.SameBut.update ..
   generalize s1.heap.update d (Obj.putSet es1.toArray (tabG w m mv pl1))=hp1 at g1 b1 |-
   have e5:SetTable.grown es1.toArray.size=20:=by
    have e:es1.toArray.size=5:=by simp [h5.2]
    rw [e]
    rfl
   have et:tabG w m mv pl1=⟨7,pl1.toArray,#[],0,!byT w,0,true⟩:=by unfold tabG;rw [h5.1,mv0]
   rw [e5,et,hrel]
   dsimp only
   refine wpAny_bind (wpAny_of_eq (a:=()) rfl ?_)
   have hsz2:es2.toArray.size<=sizeLine:=by
    have e:es2.toArray.size=es2.length:=by simp
    rw [e,pm2.length_eq,PySem.sizeLine_eq]
    omega
   refine wpAny_bind (wpAny_storeSet_of (s:={ s1 with heap:=hp1 }) g1 rfl ?_ hsz2)
   refine wpAny_pure (wpAny_pure (h _ _ es2 (ep+1+1) 31 1 (es2.map fun e=>e.1.toNat) (b1.trans (Heap.SameBut.update ..)) ⟨Heap.get?_update_self _ g1 rfl,List.length_map _,up2,fun e he=>el1 e (pm2.mem_iff.mp he),(pm2.map (·.1)).nodup_iff.mpr nd1,.inr ⟨rfl,rfl,rfl⟩⟩ fun k=>?_))
   rw [(pm2.map (·.1)).mem_iff]
   exact mem1 k
  .have hfull:(tabG w m mv pl1).tooFull=false:=by
    have hl:(m=7/\es1.length<=4)\/(m=31/\es1.length<=17):=by
     rcases S.tb with ⟨e,_,hl,_⟩|⟨e,_,_⟩
     .exact .inl ⟨e,by have:¬ es1.length=5:=fun z=>h5 ⟨e,z⟩;omega⟩
     .exact .inr ⟨e,by omega⟩
    rcases hl with ⟨e,hl⟩|⟨e,hl⟩
    .simp [SetTable.tooFull,SetTable.fill,tabG,e,sz1];omega
    .simp [SetTable.tooFull,SetTable.fill,tabG,e,sz1];omega
   refine wpAny_bind (wpAny_storeSet_of S.ob rfl ?_ hsz1)
   rw [hfull]
   refine Zau (fun z=>absurd z (by decide)) (fun _=>?_)
   refine wpAny_pure (wpAny_pure (h _ _ es1 (ep+1) m mv pl1 (Heap.SameBut.update ..) ⟨Heap.get?_update_self _ S.ob rfl,sz1,up1,el1,nd1,?_⟩ mem1))
   rcases S.tb with ⟨e,e2,hl,h8⟩|⟨e,e2,e3⟩
   .refine .inl ⟨e,e2,by have:¬ es1.length=5:=fun z=>h5 ⟨e,z⟩;omega,fun p hp=>?_⟩
    rcases List.mem_cons.mp (mp1.mem_iff.mp hp) with rfl|hp
    .exact hj e
    .exact h8 p hp
   .exact .inr ⟨e,e2,tb31 e e3⟩
end
end L2
namespace L2
open PySem PySem.Spec PyProof.Rows PySem.Calls PySem.W
def SetN (w:World) (ns:List Int) (d:Addr) (h:Heap):Prop:=∃ es ep m mv pl,SetG w h d es ep m mv pl/\∀ k,k∈es.map (·.1) ↔ k∈ns
theorem SetN.keep {w:World} {ns:List Int} {d:Addr} {h h':Heap} (S:SetN w ns d h) (k:∀ o,h.get? d=some o->h'.get? d=some o):SetN w ns d h':=let ⟨es,ep,m,mv,pl,S,e⟩:=S;⟨es,ep,m,mv,pl,S.keep k,e⟩
theorem SetN.none {w:World} {d:Addr} {h:Heap} (e:h.get? d=some (setObj w [] 0 [])):SetN w [] d h:=⟨[],0,7,0,[],⟨e,rfl,List.Pairwise.nil,fun _ z=>(nomatch z),List.nodup_nil,.inl ⟨rfl,rfl,Nat.zero_le _,fun _ z=>(nomatch z)⟩⟩,fun _=>Iff.rfl⟩
section
variable {prog:Program} {w:World} {A:Around} {E:Value->Shared->Prop} {s:Shared} {d:Addr}
theorem Zjj {ns:List Int} {n:Int} {t:Tok} {Q:Bool->Shared->Prop} (S:SetN w ns d s.heap) (h0:0<=n) (h1:n<16)
  (h:∀ r h',Heap.SameBut d s.heap h'->SetN w (ns++[n]) d h'->Q r { s with heap:=h',toks:=s.toks+1 }):wpAny (model prog w) A (setAdd d (.int n t)) Q E s:=by
 obtain ⟨es,ep,m,mv,pl,S,e⟩:=S
 unfold setAdd
 refine wpAny_holding ?_
 refine wpAny_bind ((intKind prog w).pyHash (k:=n) (intKind_is _ _ _ _) ?_)
 rw [show (intKind prog w).hash n=n from hash16 h0 h1]
 refine addG (s:={ s with toks:=s.toks+1 }) S h0 h1 fun r h' es' ep' m' mv' pl' sb S' mem=>?_
 refine h r h' sb ⟨es',ep',m',mv',pl',S',fun k=>?_⟩
 rw [mem,e,List.mem_append,List.mem_singleton]
 exact or_comm
theorem Zh4 {R:Result->Shared->Prop} {I:Addr} {fp wr:List Addr} {G:Array GenState->Array GenState->Prop} {P:Nat->Value->Prop} {St:Nat->Shared->Prop} (ns:List Int) (W:WalksS prog w A.in1 I fp wr G ns.length P St) (hP:∀ i v,P i v->∃ t,v=.int (ns.getD i 0) t) (hd:d∉fp)
  (hb:∀ k∈ns,0<=k/\k<16):∀ (k i:Nat) (s:Shared),ns.length-i=k->i<=ns.length->St i s->SetN w (ns.take i) d s.heap ->
   (∀ s',Moved (d::wr) G s s'->SetN w ns d s'.heap->R (.ok (.ret .none)) s')->codeAny (model prog w) A (.builtin "set.update.loop" ⟨[.ref d,.ref I],[]⟩) R s:=by
 have hdw:d∉wr:=fun z=>hd (W.sub _ z)
 have more:∀ c∈wr,c∈d::wr:=fun c hc=>List.mem_cons_of_mem _ hc
 intro k
 induction k with
 | zero =>
  intro i s hk hi st T fin
  obtain rfl:i=ns.length:=by omega
  rw [List.take_length] at T
  refine codeAny_builtin (PyProof.Rows.F.entry_set_update_loop) ?_
  rw [Around.under_plainId (PyProof.Rows.F.plain_set_update_loop) _]
  show wpAny _ A.in1 (pyNext (.ref I) >>= _) _ _ s
  refine wpAny_bind (W.done s _ _ st fun s' mv=>?_)
  show wpAny _ A.in1 (ret Value.none) _ _ s'
  exact wpAny_pure (fin s' (mv.mono more) (T.keep fun o e=>mv.heap d _ hdw e))
 | succ k ih =>
  intro i s hk hi st T fin
  have hlt:i<ns.length:=by omega
  refine codeAny_builtin (PyProof.Rows.F.entry_set_update_loop) ?_
  rw [Around.under_plainId (PyProof.Rows.F.plain_set_update_loop) _]
  show wpAny _ A.in1 (pyNext (.ref I) >>= _) _ _ s
  refine wpAny_bind (W.item i s _ _ hlt st fun v s' hv st' mv=>?_)
  obtain ⟨t,rfl⟩:=hP i v hv
  have T':SetN w (ns.take i) d s'.heap:=T.keep fun o e=>mv.heap d _ hdw e
  have eg:ns.getD i 0=ns[i]:=by rw [List.getD_eq_getElem?_getD,List.getElem?_eq_getElem hlt];rfl
  have hbi:=hb ns[i] (List.getElem_mem hlt)
  show wpAny _ A.in1 (holding [_] (setAdd d (.int (ns.getD i 0) t)) >>= _) _ _ s'
  rw [eg]
  refine wpAny_bind (wpAny_holding (Zjj T' hbi.1 hbi.2 fun r h' sb T2=>?_))
  rw [List.take_append_getElem hlt] at T2
  refine wpAny_pure ⟨plainId_quiet (PyProof.Rows.F.plain_set_update_loop) _,ih (i+1) _ (by omega) hlt (W.frame _ s' _ _ st' (Nat.le_succ _) fun c hc o e=>?_) T2 fun s2 mv2 T3=>?_⟩
  .rw [sb.2 c (fun z=>hd (by rw [<- z];exact hc))];exact e
  .refine fin s2 (Moved.trans W.gtrans ((mv.mono more).then_heap (Nat.le_succ _) fun c o hc e=>?_) mv2) T3
   rw [sb.2 c (fun z=>hc (by rw [z];exact List.mem_cons_self))];exact e
set_option maxHeartbeats 8000000 in
theorem Zh5 {l:Addr} {ns:List Int} {vs:List Value} {Q:Value->Shared->Prop} (hh:A.handled=none) (hl:s.heap.IsList l vs.toArray) (hv:IntsAre vs ns) (hb:∀ k∈ns,0<=k/\k<16)
  (h:∀ (h':Heap) (tk:Nat),SetN w ns s.heap.objs.size h'->(∀ c o,c<s.heap.objs.size->s.heap.get? c=some o->h'.get? c=some o)->Q (.ref s.heap.objs.size) { s with heap:=h',toks:=tk }):wpAny (model prog w) A (call (.type "set") [.ref l]) Q E s:=by
 obtain ⟨c,tl,hmro⟩:=F.called_set.mro
 have hmade:=F.called_set.made
 have hsub:=F.called_set.sub
 refine wpAny_call (codeAny_of_tree ?_)
 show wpAny _ _ (callAny (.type "set") _) _ _ _
 refine wpAny_pure ⟨Code.quiet_builtin _ (by decide +kernel),codeAny_builtin (F.entry_type_call) (?_)⟩
 rw [Around.under_plain (weight_type_call_type "set" [.ref l] []) (rfl)]
 have h1:=F.called_set.notType
 have h2:=F.called_set.canCreate
 have hct:=F.typeCall_set_1 (.ref l)
 repeat (any_goals (first|assumption|wp_step))
 refine codeAny_mono (Zf1 (.ref l) (E:=E) (Q₁:=fun obj s₁=>obj=.ref s.heap.objs.size/\s₁={ s with heap:=s.heap.push (setObj w [] 0 []) }) ⟨rfl,rfl⟩) fun r s₁ hr=>?_
 cases r with
 | error e=>exact hr
 | ok fl =>
  cases fl with
  | ret obj =>
   obtain ⟨rfl,rfl⟩:=hr
   have hS:(s.heap.push (setObj w [] 0 [])).get? s.heap.objs.size=some (setObj w [] 0 []):=Heap.get?_push_size _ rfl
   have hT:Shared.TypeIs { s with heap:=s.heap.push (setObj w [] 0 []) } (.ref s.heap.objs.size) "set" := ⟨_,hS,rfl⟩
   have hli:=F.called_set.init.lookup
   have hbi:=F.called_set.init.bind (.ref s.heap.objs.size)
   repeat (any_goals (first|assumption|wp_step))
   refine codeAny_mono (codeAny_call_builtin (R:=wants (fun r s₂=>r=.none/\∃ h' tk,s₂={ s with heap:=h',toks:=tk }/\SetN w ns s.heap.objs.size h'/\(∀ c o,c<s.heap.objs.size->s.heap.get? c=some o->h'.get? c=some o)) E) F.called_set.init.plain F.entry_set_init (check_set_init_1 hT ?_)) fun r₂ s₂ hr₂=>?_
   .obtain ⟨ol,hol,hcl,nl,hdl⟩:=hl
    obtain ⟨ocls,odict,odata,oslots⟩:=ol
    simp only at hcl hdl
    subst hcl;subst hdl
    have hol':(s.heap.push (setObj w [] 0 [])).get? l=some { cls:=.type "list", dict:=odict,data:=.seq vs.toArray nl,slots:=oslots }:=Heap.get?_push_of_some _ hol
    have hsls:=F.sub_list_set
    have hslf:=F.sub_list_frozenset
    have hne:(Value.type "list" == Value.type "dict")=false:=by decide
    have hl1:(s.heap.push (setObj w [] 0 [])).IsList l vs.toArray:=⟨_,hol',rfl,nl,rfl⟩
    unfold Builtin.«set.__init__» noKeywords Builtin.Frozenset.updateFrom
    generalize hPI:pyIter=PI
    wp_walk
    subst hPI
    refine wpAny_pyIter_list hl1 ?_
    refine wpAny_bind (wpAny_runValue ?_)
    have hlS:l<s.heap.objs.size:=Heap.lt_size hol
    have hh3:A.in1.in1.in1.handled=none:=by simp [hh]
    have hneI:l≠(s.heap.push (setObj w [] 0 [])).objs.size:=by
     rw [Heap.size_push];exact Nat.ne_of_lt (Nat.lt_succ_of_lt hlS)
    have hSf:s.heap.objs.size∉[(s.heap.push (setObj w [] 0 [])).objs.size,l]:=by
     rw [Heap.size_push];simp only [List.mem_cons,List.mem_singleton,List.not_mem_nil,or_false,not_or]
     exact ⟨Nat.ne_of_lt (Nat.lt_succ_self _),Nat.ne_of_gt hlS⟩
    have hlen:vs.toArray.size=ns.length:=by rw [List.size_toArray];exact hv.length
    have W:=(Walks.list (prog:=prog) (w:=w) hh3 _ l hneI vs.toArray).toS
    rw [hlen] at W
    refine Zh4 ns W (fun i v hiv=>hv.int_at i v (by simpa using hiv)) hSf hb ns.length 0 _ (by omega) (Nat.zero_le _) ⟨⟨_,Heap.get?_push_size _ rfl,rfl,rfl⟩,(hl1.push _)⟩ (SetN.none (Heap.get?_push_of_some _ hS)) ?_
    .intro s' mv T2
     obtain ⟨h',g',d',tk',os'⟩:=s'
     have eg:g'=s.gens:=mv.gens
     have ed:d'=s.drawn:=mv.drawn
     have eo:os'=s.os:=mv.os
     subst eg;subst ed;subst eo
     show wpAny _ _ _ _ _ _
     refine wpAny_pure ?_
     show wpAny _ _ (ret Value.none) _ _ _
     refine wpAny_pure ⟨rfl,h',tk',rfl,T2,fun c o hc e=>?_⟩
     have c1:c≠s.heap.objs.size:=Nat.ne_of_lt hc
     have c2:c≠(s.heap.push (setObj w [] 0 [])).objs.size:=by rw [Heap.size_push];exact Nat.ne_of_lt (Nat.lt_succ_of_lt hc)
     exact mv.heap c o (by simp only [List.mem_cons,List.mem_singleton,List.not_mem_nil,or_false,not_or];exact ⟨c1,c2⟩) (Heap.get?_push_of_some _ (Heap.get?_push_of_some _ e))
   .cases r₂ with
    | error e=>exact hr₂
    | ok fl₂ =>
     cases fl₂ with
     | ret r =>
      obtain ⟨rfl,h',tk,rfl,T2,kp⟩:=hr₂
      repeat (any_goals (first|assumption|wp_step))
      exact h _ _ T2 kp
     | next=>exact False.elim hr₂
     | brk=>exact False.elim hr₂
     | cont=>exact False.elim hr₂
  | next=>exact False.elim hr
  | brk=>exact False.elim hr
  | cont=>exact False.elim hr
end
section
variable {prog:Program} {w:World} {A:Around} {E:Value->Shared->Prop} {s:Shared} {d:Addr} {es:List (Int×Value)} {ep m mv:Nat} {pl:List Nat}
theorem Zjk:PySem.W.KdlSrc prog w "set" d d es.length (fun i v=>∃ x,(ordG w d ep es)[i]?=some x/\v=x.2) (fun h=>SetG w h d es ep m mv pl) where
 type:=fun _ S=>⟨_,S.ob,rfl⟩
 there:=fun _ S=>⟨Heap.lt_size S.ob,Heap.lt_size S.ob⟩
 keep:=fun _ _ S hk=>S.keep fun o e=>hk d (.inl rfl) o e
 notList:=by decide
 notTuple:=by decide
 hint:=fun _ _ _ _ S hq=>Zf2 ⟨_,S.ob,rfl⟩ hq
 iter:=fun _ _ hh S=>⟨_,_,(fun _ _ hq=>Zh3 S hq),ZgO hh _ (Nat.ne_of_lt (Heap.lt_size S.ob)),⟨Heap.get?_push_size _ rfl,S.keep fun o e=>Heap.get?_push_of_some _ e⟩⟩
end
noncomputable def ZgP (w:World) (ns:List Int) (d:Addr):HO:=.ext fun h=>SetN w ns d h
def rSetN (K:PySem.W.Frag) (w:World):RC:=fun xs H Q=>∃ l ns,xs=[.ref l]/\SqL K H l (ns.map V.int)/\(∀ k∈ns,0<=k/\k<16)/\∀ d,H d=none->Q (.ref d) (upd H d (ZgP w ns d))
theorem ZkS {X:Cx} (hc:X.calm=true):CallR X (.type "set") (rSetN X.K X.w):=by
 intro pins s σ H xs us Q I r h
 obtain ⟨l,ns,rfl,hl,hb,q⟩:=h
 obtain ⟨u,rfl,rx⟩:=vals1 r
 cases rx
 obtain ⟨its,rv,pl,hz⟩:=I.list hl
 refine Zh5 (I.ok.hd hc) pl.isList (Zec rv) hb fun h' tk T kp=>?_
 refine ⟨.ref s.heap.objs.size,_,I.laid (t':=tk) (fun c u e=>kp c u (Heap.lt_size e) e) (Nat.le_refl _) (show ObjOk X.prog X.w _ h' _ (ZgP X.w ns s.heap.objs.size) from ⟨T,?_,?_⟩),rfl,q _ (I.hok.fresh (Nat.le_refl _))⟩
 .obtain ⟨_,_,_,_,_,S,_⟩:=T
  exact ⟨_,S.ob⟩
 .intro h1 h2 T k
  exact SetN.keep T k
def rSortN (w:World):RC:=fun xs H Q=>∃ d ns,xs=[.ref d]/\H d=some (ZgP w ns d)/\∀ ms:List Int,ms.Pairwise (·<·)->(∀ n,n∈ms ↔ n∈ns)->∀ p,H p=none->Q (.ref p) (upd H p (.lst (ms.map V.int)))
theorem Zjl {X:Cx} (hc:X.calm=true):CallR X (.builtin "sorted") (rSortN X.w):=by
 intro pins s σ H xs us Q I r h
 obtain ⟨d,ns,rfl,hd,q⟩:=h
 obtain ⟨u,rfl,rx⟩:=vals1 r
 cases rx
 obtain ⟨⟨es,ep,m,mv,pl,S,f3⟩,_,_⟩:=(show ObjOk X.prog X.w H s.heap d (ZgP X.w ns d) from I.hok d _ hd)
 have op:=Zcw (w:=X.w) (d:=d) (ep:=ep) (es:=es)
 have hol:=op.length_eq
 have hle:=S.few
 refine Calls.call_function_entry (kind_sorted) (plain_sorted) (entry_sorted) (args_sorted1 _) ?_
 unfold Builtin.«sorted»
 refine wpAny_bind (m:=checkCount "sorted" 1 1 (_)) (wpAny_pure (?_))
 refine wpAny_bind (dcol (Ar:=X.A.in1) (Zjk (es:=es) (ep:=ep) (m:=m) (mv:=mv) (pl:=pl)) (I.ok.hd hc) S (Nat.le_trans hle (by decide)) fun hp tn its kp lt ok=>?_)
 have hI:IntsAre its.toList ((ordG X.w d ep es).map (·.1)):=by
  refine Zed _ _ (by rw [Array.length_toList,ok.1,List.length_map,hol]) fun j v n h1 h2=>?_
  obtain ⟨x,e1,rfl⟩:=ok.2 j v (by rw [<- Array.getElem?_toList];exact h1)
  rw [List.getElem?_map,e1] at h2
  cases h2
  obtain ⟨n,t,rfl,_,_⟩:=S.el x (op.mem_iff.mp (List.mem_of_getElem? e1))
  exact ⟨t,rfl⟩
 have hl2:its.toList.length<64:=by rw [Array.length_toList,ok.1];omega
 refine wpAny_bind (wpAny_newList (?_) (Nat.le_trans (Nat.le_of_lt hl2) (by decide)))
 have at1:(hp.push (seqObj "list" its.toList.toArray 0)).get? hp.objs.size=some (seqObj "list" its.toList.toArray 0):=Heap.get?_push_size _ rfl
 refine wpAny_bind (wpAny_holding (wpAny_call_entry (slot_list_sort) ⟨_,at1,rfl⟩ (entry_list_sort) (list_sort_tree at1 hI hl2 fun out ms a1 a2 a3=>⟨_,rfl,?_⟩) (args_list_sort _)))
 refine wpAny_pure ⟨_,rfl,?_⟩
 obtain ⟨e5,at2⟩:=sortedHeap_at (out:=out) at1
 have pm:ms.Perm (es.map (·.1)):=a2.trans (op.map _)
 have hml:ms.length<=sizeLine:=by rw [pm.length_eq,List.length_map];exact Nat.le_trans hle (by decide)
 refine ⟨.ref hp.objs.size,_,I.laid (t':=tn) (fun b u e=>?_) (Nat.le_of_lt lt) (show ObjOk X.prog X.w _ _ _ (.lst (ms.map V.int)) from ⟨by rw [List.length_map];exact hml,out.toList,e5,Zct a1,at2⟩),rfl,q ms (Zcu a3 (pm.nodup_iff.mpr S.nd)) (fun n=>by rw [pm.mem_iff];exact f3 n) _ (I.hok.fresh (Nat.le_of_lt lt))⟩
 have lb:=Heap.lt_size (kp b u e)
 rw [sortedHeap_old (Nat.ne_of_lt lb) (by rw [size_push'];exact Nat.lt_succ_of_lt lb)]
 exact Heap.get?_push_of_some _ (kp b u e)
section
variable {K:PySem.W.Frag} {w:World} {H:Hp} {Q:VK} {l d:Addr} {ns:List Int}
theorem ZkT (h:SqL K H l (ns.map V.int)) (hb:∀ k∈ns,0<=k/\k<16) (q:∀ d,H d=none->Q (.ref d) (upd H d (ZgP w ns d))):rSetN K w [.ref l] H Q:=⟨l,ns,rfl,h,hb,q⟩
theorem Zjm (h:H d=some (ZgP w ns d)) (q:∀ ms:List Int,ms.Pairwise (·<·)->(∀ n,n∈ms ↔ n∈ns)->∀ p,H p=none->Q (.ref p) (upd H p (.lst (ms.map V.int)))):rSortN w [.ref d] H Q:=⟨d,ns,rfl,h,q⟩
end
end L2
namespace L2
open PySem PySem.Spec PyProof.Rows PySem.Calls PySem.W
structure RawD (h:Heap) (d:Addr) (o:Obj) (es:Array DictEntry) (ep:Nat):Prop where
 ob:h.get? d=some o
 ex:o.ExactDict
 da:o.data=.dict es ep
theorem RawD.ty {s:Shared} {d:Addr} {o:Obj} {es:Array DictEntry} {ep:Nat} (r:RawD s.heap d o es ep):s.TypeIs (.ref d) "dict" := ⟨o,r.ob,r.ex.1⟩
section
variable {prog:Program} {w:World} {A:Around} {E:Value->Shared->Prop} {s:Shared} {d it:Addr} {o:Obj} {es:Array DictEntry} {ep i:Nat}
theorem Zjn {Q:Value->Shared->Prop} (lo:(d==sysModules)=false) (r:RawD s.heap d o es ep)
  (q:Q (.ref s.heap.objs.size) { s with heap:=s.heap.push { cls:=.type "dict_keyiterator", data:=.fields #[.ref d,.int 0 0,.int (es.size:Int) 0,.int (ep:Int) 0] } }):wpAny (model prog w) A (pyIter (.ref d)) Q E s:=by
 have ty:=r.ty (s:=s)
 refine wpAny_pyIter_slot ty (F.slot_dict_iter) (wpAny_call_entry (F.slot_dict_iter) ty (F.entry_dict_iter) (?_) (F.args_dict_iter_1 (_)))
 unfold Builtin.«dict.__iter__» Builtin.Dict.dictSlotNone
 refine wpAny_bind (wpAny_bind (wpAny_notOrdered_dict ty (?_)))
 show wpAny _ _ (pure (Value.ref d)) (_) _ s
 refine wpAny_pure (?_)
 show wpAny _ _ (Builtin.Dict.showsAll d >>= (_)) _ _ s
 unfold Builtin.Dict.showsAll
 rw [if_neg (by rw [lo];exact (Bool.false_ne_true))]
 refine wpAny_bind (wpAny_pure (wpAny_bind (wpAny_dictEntries r.ob r.da (wpAny_bind (wpAny_dictEpoch r.ob r.da (?_))))))
 refine wpAny_bind (wpAny_newObj_type (wpAny_pure ⟨_,rfl, "dict_keyiterator", _,⟨_,Heap.get?_push_size _ rfl,rfl⟩,(F.slot_dict_keyiterator_next).lookup,?_⟩))
 simpa [rawInt] using q
theorem Zjo {e:DictEntry} {Q:Option Value->Shared->Prop} (hit:s.heap.IsKeyIter it d i es.size ep) (r:RawD s.heap d o es ep) (hx:es[i]?=some e)
  (q:∀ h',h'.IsKeyIter it d (i+1) es.size ep->Heap.SameBut it s.heap h'->Q (some e.key) { s with heap:=h' }):wpAny (model prog w) A (pyNext (.ref it)) Q E s:=by
 obtain ⟨oi,ho,hc,hd⟩:=id hit
 have ty:=hit.typeIs
 unfold pyNext
 refine wpAny_bind (wpAny_attempt (wpAny_callSpecial?_slot (name:=Str.ofString "__next__") ty (F.slot_dict_keyiterator_next) (wpAny_call_entry (F.slot_dict_keyiterator_next) ty (F.entry_dict_keyiterator_next) (?_) (F.args_dict_keyiterator_next_1 (_)))))
 refine wpAny_bind (wpAny_pure (wpAny_bind (wpAny_bind (?_))))
 first|refine wpAny_bind (wpAny_typeNameOfWhole_keyiter ty (wpAny_pure (?_)))|refine wpAny_bind (wpAny_typeNameOf_keyiter ty (wpAny_pure (?_)))
 refine wpAny_bind (wpAny_fieldsOf ho hd (?_))
 simp only [show Builtin.Dict_items.ownsTuple "dict_keyiterator" = false by decide,Bool.false_eq_true,if_false]
 show wpAny _ _ (if (Value.ref d==Value.none)=true then (_) else _) _ _ s
 rw [if_neg (show ¬ ((Value.ref d==Value.none)=true) from (Bool.false_ne_true))]
 refine wpAny_bind (wpAny_pure (wpAny_bind (wpAny_dictEntries r.ob r.da (?_))))
 rw [if_neg (by simp)]
 refine wpAny_bind (wpAny_pure (wpAny_bind (wpAny_dictEpoch r.ob r.da (?_))))
 rw [if_neg (by simp)]
 refine wpAny_pure (?_)
 simp only [show ¬ ((i:Int)<0) from by omega,if_false,Int.toNat_natCast,hx]
 refine wpAny_bind (?_)
 first|refine wpAny_bind (wpAny_typeNameOfWhole_keyiter ty (wpAny_pure (?_)))|refine wpAny_bind (wpAny_typeNameOf_keyiter ty (wpAny_pure (?_)))
 refine wpAny_bind (wpAny_isOneOf_keyiter ty (?_))
 show wpAny _ _ (setField (.ref it) 1 (rawInt ((i:Int)+1)) >>= (_)) _ _ s
 refine wpAny_bind (wpAny_setField ho hd (by simp) (?_))
 have it2:(s.heap.update it (Obj.mapFields (·.setIfInBounds 1 (rawInt ((i:Int)+1))))).IsKeyIter it d (i+1) es.size ep :=
  ⟨_,Heap.get?_update_self _ ho (Obj.isFreed_of_fields (Obj.data_mapFields hd _)),(Obj.cls_mapFields ..).trans hc,by rw [Obj.data_mapFields hd];simp [rawInt]⟩
 have sb:Heap.SameBut it s.heap (s.heap.update it (Obj.mapFields (·.setIfInBounds 1 (rawInt ((i:Int)+1))))):=Heap.SameBut.update ..
 generalize s.heap.update it _=h2 at it2 sb |-
 refine wpAny_bind (wpAny_holding (wpAny_bind (wpAny_isOneOf_keyiter (s:={ s with heap:=h2 }) it2.typeIs (?_))))
 show wpAny _ _ (pure e.key) _ _ (_)
 exact wpAny_pure (wpAny_pure ⟨_,rfl,wpAny_pure (q _ it2 sb)⟩)
theorem ZkU {Q:Option Value->Shared->Prop} (hh:A.handled=none) (hit:s.heap.IsKeyIter it d i es.size ep) (r:RawD s.heap d o es ep) (hx:es.size<=i)
  (q:∀ h',Heap.ExtBut it s.heap h'->Q none { s with heap:=h' }):wpAny (model prog w) A (pyNext (.ref it)) Q E s:=by
 obtain ⟨oi,ho,hc,hd⟩:=id hit
 have ty:=hit.typeIs
 unfold pyNext
 refine wpAny_bind (wpAny_attempt (wpAny_callSpecial?_slot (name:=Str.ofString "__next__") ty (F.slot_dict_keyiterator_next) (wpAny_call_entry (F.slot_dict_keyiterator_next) ty (F.entry_dict_keyiterator_next) (?_) (F.args_dict_keyiterator_next_1 (_)))))
 refine wpAny_bind (wpAny_pure (wpAny_bind (wpAny_bind (?_))))
 first|refine wpAny_bind (wpAny_typeNameOfWhole_keyiter ty (wpAny_pure (?_)))|refine wpAny_bind (wpAny_typeNameOf_keyiter ty (wpAny_pure (?_)))
 refine wpAny_bind (wpAny_fieldsOf ho hd (?_))
 simp only [show Builtin.Dict_items.ownsTuple "dict_keyiterator" = false by decide,Bool.false_eq_true,if_false]
 show wpAny _ _ (if (Value.ref d==Value.none)=true then (_) else _) _ _ s
 rw [if_neg (show ¬ ((Value.ref d==Value.none)=true) from (Bool.false_ne_true))]
 refine wpAny_bind (wpAny_pure (wpAny_bind (wpAny_dictEntries r.ob r.da (?_))))
 rw [if_neg (by simp)]
 refine wpAny_bind (wpAny_pure (wpAny_bind (wpAny_dictEpoch r.ob r.da (?_))))
 rw [if_neg (by simp)]
 refine wpAny_pure (?_)
 simp only [show ¬ ((i:Int)<0) from by omega,if_false,Int.toNat_natCast,Array.getElem?_eq_none hx]
 refine wpAny_bind (?_)
 first|refine wpAny_bind (wpAny_typeNameOfWhole_keyiter ty (wpAny_pure (?_)))|refine wpAny_bind (wpAny_typeNameOf_keyiter ty (wpAny_pure (?_)))
 show wpAny _ _ (setField (.ref it) 0 .none >>= (_)) _ _ s
 refine wpAny_bind (wpAny_setField ho hd (by simp) (?_))
 show wpAny _ _ (newExc (.type "StopIteration") [] >>= (_)) _ _ _
 refine wpAny_bind (?_)
 simp only [newExc,newTuple]
 refine wpAny_bind (wpAny_newObj_type (?_) (by size_fits))
 refine wpAny_bind (m:=firstArgMember (_) _) (wpAny_of_eq (a:=Value.none) (by first|rfl|(simp only [firstArgMember];rfl)) (?_))
 refine wpAny_newObj_type (?_) (by size_fits)
 simp only [raiseNew]
 refine wpAny_bind (wpAny_handled (?_))
 rw [show A.in1.handled=none from hh]
 refine wpAny_bind (wpAny_pure (wpAny_throw (?_)))
 refine wpAny_bind (wpAny_isInstance (T := "StopIteration") (b:=true) ⟨_,Heap.get?_push_size _ rfl,rfl⟩ (isSubtype_stop) (?_))
 exact wpAny_pure (q _ (((Heap.SameBut.update ..).extBut.push (_)).push _))
end
section
variable {X:Cx} {pins:List (Addr×Obj)} {σ:St} {H:Hp} {s:Shared} {a:Addr} {o:Obj} {kvs:List (List Key×V)}
theorem Inv.nfrT (I:Inv X pins σ H s) (h:H a=some (.dT kvs)):NFr X a:=fun b u e=>by
 have:=I.base.frzs a b u e
 rw [h] at this
 cases this
theorem Inv.freezeT (I:Inv X pins σ H s) (h:H a=some (.dT kvs)) (ho:s.heap.get? a=some o):Inv X pins σ (upd H a (.frz o (.dT kvs))) s:=by
 refine I.recolor h (by intro _ z;cases z) (I.nfrT h) (by intro _ z;cases z) (by intro _ z;cases z) ⟨ho,?_⟩
 exact (I.hok a _ h).stay (fun _ _ _ r=>r) (fun c r=>by rw [Zaf (fun q=>by rw [q,h] at r;cases r)];exact r) (fun c xs r=>by rw [Zaf (fun q=>by rw [q,h] at r;cases r)];exact r)
theorem Inv.thawT (I:Inv X pins σ H s) (n:NFr X a) (h:H a=some (.frz o (.dT kvs))):Inv X pins σ (upd H a (.dT kvs)) s:=by
 refine I.recolor h (by intro _ z;cases z) n (by intro _ z;cases z) (by intro _ z;cases z) ?_
 exact ObjOk.stay (show ObjOk X.prog X.w H s.heap a (.dT kvs) from (I.hok a _ h).2) (fun _ _ _ r=>r) (fun c r=>by rw [Zaf (fun q=>by rw [q,h] at r;cases r)];exact r) (fun c xs r=>by rw [Zaf (fun q=>by rw [q,h] at r;cases r)];exact r)
end
end L2
namespace L2
open PySem PySem.Spec PyProof.Rows PySem.Calls PySem.W
noncomputable def ItT (a:Addr) (o:Obj) (kvs:List (List Key×V)):It :=
 ⟨fun i H=>i<kvs.length/\H a=some (.frz o (.dT kvs)),fun i H x H'=>H'=H/\∃ p b,kvs[i]?=some p/\x=.ref b/\H b=some (.tup (p.1.map kV)),fun i H=>kvs.length<=i/\H a=some (.frz o (.dT kvs))⟩
theorem Paired.at {α β:Type} {R:α->β->Prop} {l:List α} {m:List β} (h:Paired R l m):∀ {i:Nat} {p:α},l[i]?=some p->∃ q,m[i]?=some q/\R p q:=by
 induction h with
 | nil=>intro i p e;simp at e
 | @cons a b as bs ab _ ih =>
  intro i p e
  cases i with
  | zero=>cases e;exact ⟨b,rfl,ab⟩
  | succ i=>exact ih (by simpa using e)
theorem Zh6 {P:Program} {w:World} {H:Hp} {h:Heap} {a:Addr} {o:Obj} {kvs:List (List Key×V)} (ok:HOk P w H h) (e:H a=some (.frz o (.dT kvs))) {es:Array DictEntry} {ep:Nat} (da:o.data=.dict es ep) :
  RawD h a o es ep/\es.size=kvs.length/\∀ (i:Nat) (p:List Key×V),kvs[i]?=some p->∃ (b:Addr) (v:Value),es[i]?=some (DictEntry.mk ((tupleKind (ZaI P w)).hash p.1) (.ref b) v)/\H b=some (.tup (p.1.map kV))/\RelV p.2 v:=by
 obtain ⟨ho,hz,lo,xs,rel,o',es',ep',ho',ex,da',hes,nd⟩:=(show ObjOk P w H h a (.frz o (.dT kvs)) from ok a _ e)
 rw [ho] at ho'
 cases ho'
 rw [da] at da'
 cases da'
 refine ⟨⟨ho,ex,da⟩,?_,fun i p hp=>?_⟩
 .rw [size_of_entries hes,<- Paired.length rel]
 .obtain ⟨q,hq,e1,e2,e3⟩:=Paired.at rel hp
  refine ⟨q.2.1,q.2.2,?_,e2,e3⟩
  rw [entry_at hes,hq,e1]
  rfl
theorem ZgQ {P:Program} {w:World} {K:PySem.W.Frag} {tg:Expr} (a it:Addr) (o:Obj) (kvs:List (List Key×V)) (es:Array DictEntry) (ep:Nat) (da:o.data=.dict es ep) (hsz:es.size=kvs.length) :
  Turn P w K tg (ItT a o kvs) [it] it (fun i h=>i<=kvs.length/\h.IsKeyIter it a i es.size ep) where
 mem:=by simp
 obj:=fun i h st b hb=>by
  have e:b=it:=by simpa using hb
  subst e
  obtain ⟨_,ob,e1,c,d⟩:=st
  exact ⟨ob,e1,fun v z=>by rw [d] at z;cases z⟩
 keep:=fun i h h' st k=>⟨st.1,st.2.at fun ob e=>k it (by simp) ob e⟩
 item:=by
  intro X hP hw hK hc i pins s σ H E I hf st hg
  subst hP hw hK
  obtain ⟨hi,hH⟩:=hg
  obtain ⟨r,_,at_⟩:=Zh6 I.hok hH da
  obtain ⟨f0,f1,f2,f3,f4,f5⟩:=hf it (by simp)
  obtain ⟨p,hp⟩:∃ p,kvs[i]?=some p:=⟨kvs[i],List.getElem?_eq_getElem hi⟩
  obtain ⟨b,v,he,hb,_⟩:=at_ i p hp
  refine Zjo st.2 r he fun h' st' sb=>?_
  have I1:Inv X pins σ H { s with heap:=h' }:=I.turned (t':=s.toks) (fun b ob hb e=>(sb.2 b hb).trans e) f0 f1 f3 f4 f5
  obtain ⟨ob,e1,c,d⟩:=id st'
  exact ⟨.ref b,rfl,ZiB (s:={ s with heap:=h' }) e1 c d (by decide) ⟨.ref b,H,I1,rfl,⟨rfl,p,b,hp,rfl,hb⟩,⟨hi,st'⟩,fun b hb=>(hf b hb).1⟩⟩
 done:=by
  intro X hP hw hK hc i pins s σ H E I hf st hg
  subst hP hw hK
  obtain ⟨hi,hH⟩:=hg
  obtain ⟨r,_,_⟩:=Zh6 I.hok hH da
  obtain ⟨f0,f1,f2,f3,f4,f5⟩:=hf it (by simp)
  exact ZkU (I.ok.hd hc) st.2 r (by rw [hsz];exact hi) fun h' eb=>⟨rfl,I.turned (t':=s.toks) (fun b ob hb e=>eb b ob hb e) f0 f1 f3 f4 f5⟩
 self:=fun _ _ _ _ _ st h=>wpAny_pyIter_keyiter st.2 h
def iDictT (NF:Addr->Prop) (td:TE):TI:=fun σ H R=>td σ H fun x H1=>∃ a kvs,x=.ref a/\H1 a=some (.dT kvs)/\(NF a->∀ o,R (ItT a o kvs) (upd H1 a (.frz o (.dT kvs))))
theorem Zjp {X:Cx} {tg l:Expr} {tl:TE} (hl:PE X l tl):PI X tg l (iDictT (NFr X) tl):=by
 intro pins s σ H R I h
 refine thn (hl pins s σ H _ I h) fun v s1 ⟨x,H1,I1,r1,q1⟩=>?_
 obtain ⟨a,kvs,e,ha,q⟩:=q1
 subst e
 cases r1
 obtain ⟨hz,lo,xs,rel,o,es,ep,ho,ex,da,hes,nd⟩:=(show ObjOk X.prog X.w H1 s1.heap a (.dT kvs) from I1.hok a _ ha)
 have hsz:es.size=kvs.length:=by rw [size_of_entries hes,<- Paired.length rel]
 refine Zjn lo ⟨ho,ex,da⟩ ?_
 have I2:=I1.freezeT ha ho
 refine ⟨s1.heap.objs.size,[s1.heap.objs.size],_,ItT a o kvs,_,rfl,I2.kept (t':=s1.toks) fun b ob e=>Heap.get?_push_of_some _ e,ZgQ a _ o kvs es ep da hsz,⟨Nat.zero_le _,_,Heap.get?_push_size _ rfl,rfl,rfl⟩,fun b hb=>?_,q (I1.nfrT ha) o⟩
 have e:b=s1.heap.objs.size:=by simpa using hb
 subst e
 exact I2.fpOk (Nat.le_refl _) (I2.hok.fresh (Nat.le_refl _))
def Zfr (NF:Addr->Prop) (R:Hp->Prop):Hp->Prop:=fun H=>∃ a o kvs,NF a/\H a=some (.frz o (.dT kvs))/\R (upd H a (.dT kvs))
def tCompT (k:Nat) (td:TE) (g:TG) (tc:TT) (te:TE):TE:=fun σ H Q=>∀ NF,tComp k (iDictT NF td) g tc te σ H fun v=>Zfr NF (Q v)
theorem Zjq {X:Cx} {tg elt iter:Expr} {ifs:List Expr} {scope:Scope} {pos:Pos} (own:List Str) {td:TE} {g:TG} {tc:TT} {te:TE}
  (hc:X.calm=true) (S:CompScope X.env.scope X.N own scope) (hd:PE X iter td)
  (hg:∀ cl C s₀ H₀ ex,PG (cxComp X own scope cl C s₀ H₀ ex) tg g) (ht:∀ cl C s₀ H₀ ex,PIf (cxComp X own scope cl C s₀ H₀ ex) ifs tc) (he:∀ cl C s₀ H₀ ex,PE (cxComp X own scope cl C s₀ H₀ ex) elt te)
  (hs:∀ x,foldedSetIterable iter X.env x=pure x:=by intro _;rfl) :
  PE X (.ListComp elt [⟨tg,iter,ifs,0⟩] scope pos) (tCompT own.length td g tc te):=by
 intro pins s σ H Q I h
 refine thn (ZbX own hc S (Zjp hd) hg ht he hs pins s σ H _ I (h (NFr X))) ?_
 rintro u s' ⟨v,H',I',r,a,o,kvs,nf,e,q⟩
 exact ⟨v,_,I'.thawT nf e,r,q⟩
section
variable {K:PySem.W.Frag} {σ:St} {H:Hp} {Q:VK} {td:TE} {g:TG} {tc:TT} {te:TE} {k:Nat} {a b:Addr} {o:Obj} {kvs:List (List Key×V)} {p:Addr}
theorem Zjr (q:∀ NF:Addr->Prop,td σ H fun x H1=>∃ a kvs,x=.ref a/\H1 a=some (.dT kvs)/\(NF a->∀ o,∀ p,(upd H1 a (.frz o (.dT kvs))) p=none->tLoopC k g tc te (ItT a o kvs) p (fun H'=>Zfr NF (Q (.ref p)) H') σ (upd H1 a (.frz o (.dT kvs))))):tCompT k td g tc te σ H Q:=q
theorem ZkV {NF:Addr->Prop} {R:Hp->Prop} (n:NF a) (h:H a=some (.frz o (.dT kvs))) (q:R (upd H a (.dT kvs))):Zfr NF R H:=⟨a,o,kvs,n,h,q⟩
theorem DGet.frzT {k:List Key} (e:H a=some (.frz o (.dT kvs))) (eb:H b=some (.tup (k.map kV))):DGet H a (.ref b) (valV kvs k):=.inr ⟨kvs,k,b,.inr ⟨o,e⟩,rfl,eb,rfl⟩
theorem Zh7 {R:Hp->Prop} (Pv:Nat->Hp->Prop) (h0:Pv 0 (upd H p (.lst []))) (hf:∀ i H',Pv i H'->H' a=some (.frz o (.dT kvs))) (hk:∀ x∈kvs,∃ i j:Int,x.1=[Sum.inl i,Sum.inl j])
  (hs:∀ (n:Nat) (i j:Int) (v:V) (H':Hp),kvs[n]?=some ([Sum.inl i,Sum.inl j],v)->Pv n H'->tc (some (.int i)::some (.int j)::σ) H' fun c H1=>if c=true then te (some (.int i)::some (.int j)::σ) H1 fun y H2=>∃ ys,H2 p=some (.lst ys)/\ys.length<sizeLine/\Zfp Pv (n+1) σ (some (.int i)::some (.int j)::σ) (upd H2 p (.lst (ys++[y]))) else Zfp Pv (n+1) σ (some (.int i)::some (.int j)::σ) H1)
  (fin:∀ H',Pv kvs.length H'->R H'):tLoopC 2 (gTup K 2 (gCons (gName 0) (gCons (gName 1) gNil))) tc te (ItT a o kvs) p R σ H:=by
 refine ⟨fun i m σ' H'=>m=kvs.length-i/\i<=kvs.length/\Pv i H'/\∃ u v,σ'=u::v::σ,⟨kvs.length,by omega,Nat.zero_le _,h0,none,none,rfl⟩,?_⟩
 rintro n m σ' H' ⟨rfl,hi,hp,u,v,rfl⟩
 have hH:=hf n H' hp
 by_cases hlt:n<kvs.length
 .refine .inr ⟨⟨hlt,hH⟩,Zfp Pv (n+1) σ,fun σ2 H2 ⟨e,u',v',e'⟩=>⟨kvs.length-(n+1),by omega,rfl,hlt,e,u',v',e'⟩,fun x H1 ⟨e,y,b,hy,ex,hb⟩=>?_⟩
  subst e ex
  obtain ⟨i,j,hij⟩:=hk y (List.mem_of_getElem? hy)
  obtain ⟨y1,y2⟩:=y
  cases hij
  refine Zdl (ZbY hb) rfl (Zca (Zd8 (Zca (Zd8 (ZhM ?_)))))
  simp only [List.set_cons_zero,List.set_cons_succ]
  exact hs n i j y2 _ hy hp
 .have e:n=kvs.length:=by omega
  subst e
  exact .inl ⟨⟨Nat.le_refl _,hH⟩,fin H' hp⟩
end
section
variable {P:Program} {w:World} {K:PySem.W.Frag} {mg:Str->Option Value} {base:Heap}
end
section
variable {X:Cx} {k:Nat} {C:Addr} {sp:Sp} {x:Str} {p pos:Pos} {e:Expr} {es:List Expr} {t:TA} {dvs:List V}
end
def KeptX (X:Addr->Prop) (H H':Hp):Prop:=∀ b o,H b=some o->¬ X b->H' b=some o
section
variable {X Y:Addr->Prop} {H H1 H2:Hp}
theorem KeptX.refl:KeptX X H H:=fun _ _ e _=>e
theorem KeptX.trans (a:KeptX X H H1) (b:KeptX X H1 H2):KeptX X H H2:=fun c o e n=>b c o (a c o e n) n
theorem KeptX.mono (a:KeptX X H H1) (h:∀ b,X b->Y b):KeptX Y H H1:=fun c o e n=>a c o e fun z=>n (h c z)
theorem Same.keptX (s:Same H H1):KeptX X H H1:=fun c o e _=>s c o e
theorem KeptX.upd {b:Addr} {o:HO} (h:X b):KeptX X H (L2.upd H b o):=fun c u e n=>by
 have hc:c≠b:=fun z=>by rw [z] at n;exact n h
 rw [Zaf hc];exact e
theorem KeptX.new {b:Addr} {o:HO} (h:H b=none):KeptX X H (L2.upd H b o):=(Same.new h).keptX
theorem KeptX.imm (a:KeptX X H H1) (h:∀ b o,X b->H b=some o->¬ Imm o):SameI H H1:=fun b u e i=>a b u e fun z=>h b u z e i
end
def rDictD:RC:=fun xs H Q=>∃ d kvs,xs=[.ref d]/\H d=some (.dK kvs)/\∀ l,H l=none->Q (.ref l) (upd H l (.dK kvs))
theorem Zjs {X:Cx}:CallR X (.type "dict") rDictD:=by
 intro pins s σ H xs us Q I r h
 obtain ⟨d,kvs,rfl,hd,q⟩:=h
 obtain ⟨u,rfl,rx⟩:=vals1 r
 cases rx
 obtain ⟨hz,lo,vs,hkv,hD⟩:=ZgD I.hok hd
 have hvl:vs.length=kvs.length:=hkv.length.symm
 refine PySem.kt_call_dict lo hD (by omega) fun h' hm hs=>?_
 refine ⟨.ref s.heap.objs.size,_,I.laid (a:=s.heap.objs.size) (t':=s.toks) (o:=.dK kvs) (fun b ob e=>?_) (Nat.le_refl _) ⟨hz,(ZfR (P:=X.prog) (w:=X.w) (H:=H) s.heap I.big).2.1,vs,hkv,hm⟩,rfl,q _ (I.hok.fresh (Nat.le_refl _))⟩
 rw [hs.2 b (fun z=>by rw [z] at e;exact absurd (Heap.lt_size e) (Nat.lt_irrefl _))]
 exact Heap.get?_push_of_some _ e
theorem Zjt {d:Addr} {kvs:List (Key×V)} {H:Hp} {Q:VK} (h:H d=some (.dK kvs)) (q:∀ l,H l=none->Q (.ref l) (upd H l (.dK kvs))):rDictD [.ref d] H Q:=⟨d,kvs,rfl,h,q⟩
end L2
local macro_rules|`(tactic| walk_at "settle")=>`(tactic| first
 | (simp only [L2.start,List.map_cons,List.map_nil,List.length_cons,List.length_nil,List.replicate,List.cons_append,List.nil_append,List.append_nil,List.set_cons_zero,List.set_cons_succ,Nat.reduceAdd,Nat.reduceSub];done)
 | (simp only [L2.start,List.map_cons,List.map_nil,List.length_cons,List.length_nil,List.replicate,List.cons_append,List.nil_append,List.append_nil,List.set_cons_zero,List.set_cons_succ,Nat.reduceAdd,Nat.reduceSub];rfl)
 | rfl
 | fail)
local macro_rules|`(tactic| walk_at "side")=>`(tactic| first
 | exact ⟨by decide,by decide⟩
 | exact ⟨by decide,by decide,by decide⟩
 | (show (0:Int)<_;first|decide|omega)
 | (show (0:Int)<=_;first|decide|omega)
 | (show (0:Int)<_/\_<_;refine ⟨by omega,by omega⟩)
 | (show (_/\_)\/_;refine .inl ⟨by omega,by omega⟩)
 | (show _\/(_/\_);refine .inr ⟨by omega,by omega⟩)
 | fail)
local macro_rules|`(tactic| walk_at "rd")=>`(tactic| first
 | with_reducible refine L2.rd_seq ?_
 | with_reducible refine L2.rd_asg ?_
 | ((with_reducible refine' L2.ZiY ?e ?_);(case e=>walk_at "settle"))
 | with_reducible refine L2.rd_C ?_
 | ((with_reducible refine' L2.rd_V ?e ?_);(case e=>rfl))
 | with_reducible refine L2.rd_op ?_
 | with_reducible refine L2.rd_I0 ?_
 | ((with_reducible refine' L2.rd_I ?c ?_);(case c=>walk_at "side"))
 | with_reducible refine L2.rd_eqI ?_
 | with_reducible refine L2.rd_eqS ?_
 | with_reducible refine L2.rd_neI ?_
 | with_reducible refine L2.rd_neS ?_
 | with_reducible refine L2.rd_eqB ?_
 | with_reducible refine L2.rd_neB ?_
 | with_reducible refine L2.Zkk ?_
 | with_reducible refine L2.rd_B ?_
 | with_reducible refine L2.rd_bl ?_
 | with_reducible refine L2.rd_ifS ?_
 | with_reducible refine L2.rd_if ?_
 | with_reducible refine L2.Zdg (fun _=>?_) (fun _=>?_)
 | with_reducible refine L2.Zcs (fun _=>?_) (fun _=>?_)
 | with_reducible refine L2.rd_iteNND (fun _=>?_) (fun _=>?_)
 | with_reducible refine L2.iteT ?_
 | with_reducible refine L2.iteF ?_
 | with_reducible refine L2.iteNT ?_
 | with_reducible refine L2.iteNF ?_
 | with_reducible refine L2.rd_ret ?_
 | with_reducible refine L2.Zki ?_
 | with_reducible refine L2.Zkj ?_
 | with_reducible refine L2.rd_and ?_
 | with_reducible refine L2.rd_or ?_
 | with_reducible refine L2.rd_not ?_
 | with_reducible refine L2.Zkl ?_
 | with_reducible refine L2.rd_orV ?_
 | with_reducible refine L2.Zkm ?_
 | with_reducible refine L2.Zkn ?_
 | with_reducible refine L2.ZdT ?_
 | with_reducible refine L2.rd_vals ?_
 | with_reducible refine L2.Zko ?_
 | with_reducible refine L2.rd_CB ?_
 | with_reducible refine L2.rd_chain ?_
 | with_reducible refine L2.rd_un ?_
 | with_reducible refine L2.rd_U ?_
 | with_reducible refine L2.rd_tup ?_
 | with_reducible refine L2.rd_lst ?_
 | fail)
local macro_rules|`(tactic| walk_at "sql")=>`(tactic| first
 | assumption
 | exact L2.sql_new
 | exact L2.sqt_new
 | exact L2.Zal (by assumption)
 | exact L2.ZbY (by assumption)
 | exact L2.TupK.sqt (by assumption) _
 | (refine L2.SqL.updN ?_ (by assumption);walk_at "sql")
 | (refine L2.SqT.updN ?_ (by assumption);walk_at "sql")
 | fail)
local macro_rules|`(tactic| walk_at "hp")=>`(tactic| first
 | assumption
 | exact L2.Zab
 | exact Eq.trans (L2.Zaf (L2.Zai L2.Zab (by assumption))) L2.Zab
 | fail)
local macro_rules|`(tactic| walk_at "rdl")=>`(tactic| first
 | walk_at "rd"
 | ((with_reducible refine' L2.Zbd ?h ?e ?_);(case h=>walk_at "sql");(case e=>rfl))
 | ((with_reducible refine' L2.rd_ixT ?h ?e ?_);(case h=>walk_at "sql");(case e=>rfl))
 | with_reducible refine L2.rd_sl ?_
 | with_reducible refine L2.ZhD ?_
 | with_reducible refine L2.Zkp ?_
 | with_reducible refine L2.rd_ei ?_
 | ((with_reducible refine' L2.rd_slL ?h ?_);(case h=>walk_at "sql"))
 | fail)
local macro_rules|`(tactic| walk_at "rda")=>`(tactic| first
 | walk_at "rdl"
 | ((with_reducible refine' L2.rd_aug ?e ?_);(case e=>rfl))
 | with_reducible refine L2.rd_ipI ?_
 | with_reducible refine L2.Zkr ?_
 | with_reducible refine L2.rd_min2 ?_
 | with_reducible refine L2.rd_abs ?_
 | ((with_reducible refine' L2.rd_isi ?e ?_);(case e=>rfl))
 | ((with_reducible refine' L2.Zks ?e ?_);(case e=>rfl))
 | ((with_reducible refine' L2.Zkt ?h ?e ?_);(case h=>walk_at "sql");(case e=>rfl))
 | ((with_reducible refine' L2.Zku ?h ?e ?_);(case h=>walk_at "sql");(case e=>rfl))
 | ((with_reducible refine' L2.ZhE ?h ?_);(case h=>walk_at "sql"))
 | ((with_reducible refine' L2.rd_lenT ?h ?_);(case h=>walk_at "sql"))
 | fail)
local macro_rules|`(tactic| walk_at "sz")=>`(tactic| first
 | assumption
 | exact Nat.le_trans (by assumption) (by decide)
 | decide
 | fail)
local macro_rules|`(tactic| walk_at "rdt")=>`(tactic| first
 | walk_at "rda"
 | with_reducible refine L2.rd_bm ?_
 | with_reducible refine L2.rd_bm0 ?_
 | with_reducible refine L2.rd_tyS ?_
 | with_reducible refine L2.rd_find ?_
 | with_reducible refine L2.rd_inS ?_
 | with_reducible refine L2.rd_notInS ?_
 | with_reducible refine L2.rd_sb ?_
 | with_reducible refine L2.rd_ord ?_
 | with_reducible refine L2.rd_isN0 ?_
 | with_reducible refine L2.rd_isNi ?_
 | with_reducible refine L2.rd_isNr ?_
 | with_reducible refine L2.rd_notN0 ?_
 | with_reducible refine L2.rd_notNi ?_
 | with_reducible refine L2.rd_notNr ?_
 | ((with_reducible refine' L2.rd_lenZ ?h ?_);(case h=>walk_at "sz"))
 | ((with_reducible refine' L2.rd_slS ?h ?_);(case h=>walk_at "sz"))
 | fail)
local macro_rules|`(tactic| walk_at "rdq")=>`(tactic| first
 | ((with_reducible refine L2.Zdg (fun _=>?_) (fun _=>?_))<;>(try (exfalso;omega)))
 | ((with_reducible refine L2.Zcs (fun _=>?_) (fun _=>?_))<;>(try (exfalso;omega)))
 | ((with_reducible refine L2.rd_iteNND (fun _=>?_) (fun _=>?_))<;>(try (exfalso;omega)))
 | walk_at "rdt"
 | fail)
local macro_rules|`(tactic| walk_at "rdj")=>`(tactic| first
 | ((with_reducible refine' L2.rd_addJ ?h (fun _ _=>?_));(case h=>omega))
 | ((with_reducible refine' L2.rd_slJ ?h (fun _ _=>?_));(case h=>omega))
 | walk_at "rdq"
 | fail)
local macro_rules|`(tactic| walk_at "rdm")=>`(tactic| first
 | walk_at "rdt"
 | ((with_reducible refine' L2.Zeb ?h (fun _ _=>?_));(case h=>walk_at "sql"))
 | ((with_reducible refine' L2.rd_listT ?h (fun _ _=>?_));(case h=>walk_at "sql"))
 | with_reducible refine L2.ZkB ?_
 | fail)
local macro_rules|`(tactic| walk_at "rdk")=>`(tactic| first
 | walk_at "rdm"
 | with_reducible refine L2.rd_fld ?_
 | with_reducible refine L2.Zkx ?_
 | with_reducible refine L2.ZhP ?_
 | with_reducible refine L2.ZkH ?_
 | with_reducible refine L2.ZkI ?_
 | with_reducible refine L2.Zky ?_
 | with_reducible refine L2.ZkF ?_
 | ((with_reducible refine' L2.rd_sum ?h ?_);(case h=>walk_at "sql"))
 | with_reducible refine L2.ZiX ?_
 | with_reducible refine L2.ZiW (fun _ _=>?_)
 | with_reducible refine L2.rd_din ?_
 | with_reducible refine L2.rd_dnotin ?_
 | with_reducible refine L2.Zkz ?_
 | with_reducible refine L2.ZkA ?_
 | with_reducible refine L2.rd_dpop1 ?_
 | with_reducible refine L2.ZiZ ?_
 | with_reducible refine L2.Zca ?_
 | with_reducible refine L2.ZhM ?_
 | ((with_reducible refine' L2.Zdl ?h ?e ?_);(case h=>walk_at "sql");(case e=>rfl))
 | fail)
local macro_rules|`(tactic| walk_at "rdz")=>`(tactic| first
 | ((with_reducible refine L2.Zdg (fun _=>?_) (fun _=>?_))<;>(try (exfalso;omega)))
 | ((with_reducible refine L2.Zcs (fun _=>?_) (fun _=>?_))<;>(try (exfalso;omega)))
 | ((with_reducible refine L2.rd_iteNND (fun _=>?_) (fun _=>?_))<;>(try (exfalso;omega)))
 | walk_at "rdk"
 | fail)
local macro_rules|`(tactic| walk_at "rdx")=>`(tactic| first
 | with_reducible refine L2.Zdg (fun h=>absurd h (by decide)) (fun _=>?_)
 | with_reducible refine L2.Zdg (fun _=>?_) (fun h=>absurd (by decide) h)
 | with_reducible refine L2.Zcs (fun h=>absurd (by decide) h) (fun _=>?_)
 | with_reducible refine L2.Zcs (fun _=>?_) (fun h=>absurd h (by decide))
 | walk_at "rdk"
 | fail)
local macro_rules|`(tactic| walk_at "c")=>`(tactic| exact ⟨rfl,rfl,rfl,by decide +kernel,rfl,by decide +kernel,by decide +kernel⟩)
local macro_rules|`(tactic| walk_at "K")=>`(tactic| (repeat walk_at "rdk"))
local macro_rules|`(tactic| walk_at "K'")=>`(tactic| (repeat' walk_at "rdk"))
namespace My
open PySem L2
local macro_rules|`(tactic| walk_at "nx")=>`(tactic| try simp only [L2.nox_K,L2.nox_P,L2.nox_w,L2.nox_mg,L2.ZiS,L2.cxOf_K,L2.cxOf_P,L2.cxOf_w,L2.Zkv,L2.ZhG])
noncomputable def top (i:Nat):Stmt:=PySem.Challenge.pw_meterhouse_k26_journal_told_replayed.main.body.getD i (.Pass ⟨0,0,0,0⟩)
noncomputable abbrev s__wall:Stmt:=top 0
noncomputable abbrev ZbP:Stmt:=top 5
noncomputable abbrev Zb1:Stmt:=top 9
noncomputable abbrev ZcG:Stmt:=top 15
noncomputable abbrev Zef:Stmt:=top 16
noncomputable abbrev Zfs:Stmt:=top 17
noncomputable abbrev Zeg:Stmt:=top 18
noncomputable abbrev ZbQ:Stmt:=top 19
noncomputable abbrev ZcH:Stmt:=top 20
noncomputable abbrev Zft:Stmt:=top 21
noncomputable abbrev Zfu:Stmt:=top 22
noncomputable abbrev Zc1:Stmt:=top 23
noncomputable abbrev ZbR:Stmt:=top 24
noncomputable abbrev Zcx:Stmt:=top 25
noncomputable abbrev ZcI:Stmt:=top 26
noncomputable abbrev Zds:Stmt:=top 27
noncomputable abbrev ZkW:Stmt:=top 28
noncomputable abbrev Za2:Stmt:=Zar (top 2) 0
noncomputable abbrev Zbl:Stmt:=Zar (top 2) 1
noncomputable abbrev Zbu:Stmt:=Zar (top 2) 2
noncomputable abbrev Zbv:Stmt:=Zar (top 2) 3
noncomputable abbrev ZaT:Stmt:=Zar (top 2) 4
noncomputable abbrev ZaO:Stmt:=Zar (top 2) 5
noncomputable abbrev Za6:Stmt:=Zar (top 2) 6
noncomputable abbrev Za3:Stmt:=Zar (top 6) 0
noncomputable abbrev Zg1:Stmt:=Zar (top 6) 1
noncomputable abbrev Zbw:Stmt:=Zar (top 6) 2
noncomputable abbrev Zbm:Stmt:=Zar (top 6) 3
noncomputable abbrev s_Deed_do:Stmt:=Zar (top 10) 0
noncomputable abbrev ZkX:Stmt:=Zar (top 10) 1
noncomputable abbrev ZkY:Stmt:=Zar (top 10) 2
noncomputable abbrev ZjP:Stmt:=Zar (top 10) 3
noncomputable abbrev Zix:Stmt:=Zar (top 10) 4
noncomputable abbrev Zbn:Stmt:=Zar (top 11) 0
noncomputable abbrev Zdt:Stmt:=Zar (top 11) 1
noncomputable abbrev Zcg:Stmt:=Zar (top 11) 2
noncomputable abbrev Zch:Stmt:=Zar (top 11) 3
noncomputable abbrev Zb2:Stmt:=Zar (top 11) 4
noncomputable abbrev Zbx:Stmt:=Zar (top 11) 5
noncomputable abbrev Zbo:Stmt:=Zar (top 12) 0
noncomputable abbrev Zdu:Stmt:=Zar (top 12) 1
noncomputable abbrev Zci:Stmt:=Zar (top 12) 2
noncomputable abbrev Zcj:Stmt:=Zar (top 12) 3
noncomputable abbrev Zby:Stmt:=Zar (top 12) 4
noncomputable abbrev Zbp:Stmt:=Zar (top 13) 0
noncomputable abbrev Zck:Stmt:=Zar (top 13) 1
noncomputable abbrev Zdv:Stmt:=Zar (top 10) 0
noncomputable abbrev Zcl:Stmt:=Zar (top 10) 1
noncomputable abbrev Zb3:Stmt:=Zar (top 10) 3
noncomputable abbrev Zbz:Stmt:=Zar (top 10) 4
noncomputable abbrev Zb4:Stmt:=Zar (top 10) 3
structure T_Journal (K:PySem.W.Frag) (mg:Str->Option Value) (C:Addr):Prop where
 k:ClsF K mg "Journal" C
 n_rooms:NoAttr K C "rooms"
 n_deeds:NoAttr K C "deeds"
structure T_Account (K:PySem.W.Frag) (mg:Str->Option Value) (C:Addr):Prop where
 k:ClsF K mg "Account" C
 n_coin:NoAttr K C "coin"
 n_purse:NoAttr K C "purse"
 n_count:NoAttr K C "count"
 n_program:NoAttr K C "program"
 n_store:NoAttr K C "store"
structure T_Deed (K:PySem.W.Frag) (mg:Str->Option Value) (C:Addr):Prop where
 k:ClsF K mg "Deed" C
structure T_Save (K:PySem.W.Frag) (mg:Str->Option Value) (C:Addr):Prop where
 k:ClsF K mg "Save" C
 n_slot:NoAttr K C "slot"
 n_place:NoAttr K C "place"
 n_old:NoAttr K C "old"
 n_new:NoAttr K C "new"
structure T_Move (K:PySem.W.Frag) (mg:Str->Option Value) (C:Addr):Prop where
 k:ClsF K mg "Move" C
 n_slot:NoAttr K C "slot"
 n_taker:NoAttr K C "taker"
 n_many:NoAttr K C "many"
structure T_Note (K:PySem.W.Frag) (mg:Str->Option Value) (C:Addr):Prop where
 k:ClsF K mg "Note" C
 n_slot:NoAttr K C "slot"
 n_number:NoAttr K C "number"
theorem bd1 {R:List Value->Prop} (h:∀ a,R [a]) (us:List Value) (hl:us.length=1):R us:=by
 cases us with
 | nil=>cases hl
 | cons a r =>
  cases r with
  | nil=>exact h a
  | cons b r=>cases hl
theorem bdS {R:List Value->Prop} {n:Nat} (h:∀ a (r:List Value),r.length=n->R (a::r)) (us:List Value) (hl:us.length=n+1):R us:=by
 cases us with
 | nil=>cases hl
 | cons a r=>exact h a r (Nat.succ.inj hl)
theorem bd2 {R:List Value->Prop} (h:∀ a b,R [a,b]) (us:List Value) (hl:us.length=2):R us:=bdS (n:=1) (fun a r hr=>bd1 (R:=fun r=>R (a::r)) (h a) r hr) us hl
theorem bd3 {R:List Value->Prop} (h:∀ a b c,R [a,b,c]) (us:List Value) (hl:us.length=3):R us:=bdS (n:=2) (fun a r hr=>bd2 (R:=fun r=>R (a::r)) (h a) r hr) us hl
theorem bd4 {R:List Value->Prop} (h:∀ a b c d,R [a,b,c,d]) (us:List Value) (hl:us.length=4):R us:=bdS (n:=3) (fun a r hr=>bd3 (R:=fun r=>R (a::r)) (h a) r hr) us hl
theorem bd5 {R:List Value->Prop} (h:∀ a b c d e,R [a,b,c,d,e]) (us:List Value) (hl:us.length=5):R us:=bdS (n:=4) (fun a r hr=>bd4 (R:=fun r=>R (a::r)) (h a) r hr) us hl
local macro_rules|`(tactic| walk_at "b")=>`(tactic| (intro _ _ _ _ _ _ us hl;first|exact My.bd1 (R:=fun us=>bindArgs _ ⟨us,[]⟩=pure (List.zip _ us)) (fun _=>rfl) us hl|exact My.bd2 (R:=fun us=>bindArgs _ ⟨us,[]⟩=pure (List.zip _ us)) (fun _ _=>rfl) us hl|exact My.bd3 (R:=fun us=>bindArgs _ ⟨us,[]⟩=pure (List.zip _ us)) (fun _ _ _=>rfl) us hl|exact My.bd4 (R:=fun us=>bindArgs _ ⟨us,[]⟩=pure (List.zip _ us)) (fun _ _ _ _=>rfl) us hl|exact My.bd5 (R:=fun us=>bindArgs _ ⟨us,[]⟩=pure (List.zip _ us)) (fun _ _ _ _ _=>rfl) us hl))
def sCut (t:TS):TS:=fun D σ H=>∃ P:St->Hp->Prop,t { D with nx:=P } σ H/\∀ σ' H',P σ' H'->D.nx σ' H'
theorem Zgb {t:TS} {D:Ends} {σ:St} {H:Hp} (P:St->Hp->Prop) (q:t { D with nx:=P } σ H) (m:∀ σ' H',P σ' H'->D.nx σ' H'):sCut t D σ H:=⟨P,q,m⟩
theorem Zgc {X:Cx} {st:Stmt} {t:TS} (h:PS X st t):PS X st (sCut t):=by
 intro pins s σ H D I q
 obtain ⟨P,q,m⟩:=q
 refine wpAny_mono (h pins s σ H { D with nx:=P } I q) (fun f s' z=>?_) fun _ _ z=>z
 cases f with
 | next=>obtain ⟨σ',H',I',q'⟩:=z;exact ⟨σ',H',I',m _ _ q'⟩
 | brk=>exact z
 | cont=>exact z
 | ret u=>exact z
theorem Zaj {sp:Sp} {vs:List V} {H:Hp} {Q:VK} {E:XK} (h:∀ Q0:VK,(∀ v H',Q v H'->Q0 v H')->sp vs H Q0 E):sp vs H Q E:=h Q fun _ _ z=>z
theorem keepIt {p:Prop} (h:p):p:=h
noncomputable def accF (c p n:Int) (pr st:Addr):List (Str×V):=[("coin", .int c),("purse", .int p),("count", .int n),("program", .ref pr),("store", .ref st)]
structure AcAt (K:PySem.W.Frag) (C:Addr) (H:Hp) (a dx pr st:Addr) (c p n:Int) (rs:List Row) (f:Int->Int) (m:Nat):Prop where
 ob:H a=some (.ins C dx (accF c p n pr st))
 pg:∃ xs,H pr=some (.lst xs)/\RowsAt K H rs xs
 sto:StoreAt H st f m
def spInit (K:PySem.W.Frag) (C:Addr):Sp:=fun vs H Q _=>∃ (a dx pr0:Addr) (c p:Int) (xs:List V) (rs:List Row),vs=[.ref a,.int c,.int p,.ref pr0]/\H a=some (.ins C dx [])/\SqL K H pr0 xs/\RowsAt K H rs xs /\
 ∀ (pr st:Addr) (H':Hp),H pr=none->H st=none->pr≠st->AcAt K C H' a dx pr st c p 0 rs (fun _=>0) 0->(∀ b o,H b=some o->b≠a->H' b=some o)->Q .non H'
def spKeep (K:PySem.W.Frag) (C:Addr):Sp:=fun vs H Q _=>∃ (a dx pr st:Addr) (c p n:Int) (rs:List Row) (f:Int->Int) (m:Nat) (i v:Int),vs=[.ref a,.int i,.int v]/\AcAt K C H a dx pr st c p n rs f m/\m<=1000000 /\
 ∀ H',(∀ b,b≠st->H' b=H b)->StoreAt H' st (putFn f i v) (m+1)->Q .non H'
theorem AcAt.nd {K:PySem.W.Frag} {C:Addr} {H H':Hp} {a dx pr st:Addr} {c p n:Int} {rs:List Row} {f g:Int->Int} {m m':Nat} (h:AcAt K C H a dx pr st c p n rs f m) (s:SameND H H') (e:StoreAt H' st g m'):AcAt K C H' a dx pr st c p n rs g m' :=
 ⟨s _ _ h.ob (by intro _ z;cases z),let ⟨xs,e1,e2⟩:=h.pg;⟨xs,s _ _ e1 (by intro _ z;cases z),e2.keep s.imm⟩,e⟩
theorem SameND.but {H H':Hp} {st:Addr} {kvs:List (Key×V)} (h:H st=some (.dK kvs)) (k:∀ b,b≠st->H' b=H b):SameND H H':=fun b u e n=>by
 rw [k b (fun z=>by rw [z,h] at e;exact n kvs (Option.some.inj e).symm)];exact e
structure AcI where
 a:Addr
 dx:Addr
 pr:Addr
 st:Addr
structure AcS where
 coin:Int
 purse:Int
 count:Int
 rows:List Row
 store:Int->Int
noncomputable def roomV:Option AcI->V
 | none=>.non
 | some x=>.ref x.a
def Acc (K:PySem.W.Frag) (C:Addr) (H:Hp) (x:AcI) (S:AcS) (m:Nat):Prop:=AcAt K C H x.a x.dx x.pr x.st S.coin S.purse S.count S.rows S.store m
structure Rooms (K:PySem.W.Frag) (C:Addr) (H:Hp) (R:Addr) (A:Nat->Option AcI) (S:Nat->AcS) (m:Nat):Prop where
 ob:H R=some (.lst ((List.range 16).map fun i=>roomV (A i)))
 ac:∀ i x,i<16->A i=some x->Acc K C H x (S i) m
 da:∀ i j x y,i<16->j<16->A i=some x->A j=some y->x.a=y.a->i=j
 ds:∀ i j x y,i<16->j<16->A i=some x->A j=some y->x.st=y.st->i=j
noncomputable def setS (S:Nat->AcS) (i:Nat) (v:AcS):Nat->AcS:=fun j=>if j=i then v else S j
theorem Rooms.at {K:PySem.W.Frag} {C:Addr} {H:Hp} {R:Addr} {A:Nat->Option AcI} {S:Nat->AcS} {m:Nat} (r:Rooms K C H R A S m) {i:Nat} (hi:i<16) {x:AcI} (hx:A i=some x):atI ((List.range 16).map fun i=>roomV (A i)) (i:Int)=some (.ref x.a) :=
 Zb8 (i:=i) (by rw [List.getElem?_map,List.getElem?_range hi];show some (roomV (A i))=_;rw [hx];rfl) rfl
theorem Acc.le {K:PySem.W.Frag} {C:Addr} {H:Hp} {x:AcI} {S:AcS} {m m':Nat} (h:Acc K C H x S m) (e:m<=m'):Acc K C H x S m':=⟨h.ob,h.pg,h.sto.le e⟩
theorem Rooms.keep {K:PySem.W.Frag} {C:Addr} {H H':Hp} {R:Addr} {A:Nat->Option AcI} {S:Nat->AcS} {m:Nat} (r:Rooms K C H R A S m) {i:Nat} (hi:i<16) {x:AcI} (hx:A i=some x) (k:∀ b,b≠x.st->H' b=H b) {p v:Int} (e:StoreAt H' x.st (putFn (S i).store p v) (m+1)) :
  Rooms K C H' R A (setS S i { S i with store:=putFn (S i).store p v }) (m+1):=by
 have ai:=r.ac i x hi hx
 obtain ⟨kvs,hs,_⟩:=ai.sto
 have nd:=SameND.but hs k
 refine ⟨by rw [k R (ZaF r.ob hs (by intro z;cases z))];exact r.ob,fun j y hj hy=>?_,r.da,r.ds⟩
 unfold setS
 by_cases z:j=i
 .subst z
  rw [hx] at hy
  cases hy
  rw [if_pos rfl]
  exact AcAt.nd ai nd e
 .rw [if_neg z]
  have aj:=(r.ac j y hj hy).le (Nat.le_succ m)
  have hne:y.st≠x.st:=fun q=>z (r.ds j i y x hj hi hy hx q)
  exact AcAt.nd aj nd (aj.sto.same (k _ hne))
theorem Rooms.coin {K:PySem.W.Frag} {C:Addr} {H:Hp} {R:Addr} {A:Nat->Option AcI} {S:Nat->AcS} {m:Nat} (r:Rooms K C H R A S m) {i:Nat} (hi:i<16) {x:AcI} (hx:A i=some x) (c:Int) :
  Rooms K C (upd H x.a (.ins C x.dx (accF c (S i).purse (S i).count x.pr x.st))) R A (setS S i { S i with coin:=c }) m:=by
 have ai:=r.ac i x hi hx
 have im:SameI H (upd H x.a (.ins C x.dx (accF c (S i).purse (S i).count x.pr x.st))):=SameI.upd ai.ob ZdU
 refine ⟨by rw [Zaf (ZaF r.ob ai.ob (by intro z;cases z))];exact r.ob,fun j y hj hy=>?_,r.da,r.ds⟩
 have aj:=r.ac j y hj hy
 obtain ⟨xs,e1,e2⟩:=aj.pg
 obtain ⟨kvs,e3,e4⟩:=aj.sto
 have f1:(upd H x.a (.ins C x.dx (accF c (S i).purse (S i).count x.pr x.st))) y.pr=some (.lst xs):=by rw [Zaf (ZaF e1 ai.ob (by intro z;cases z))];exact e1
 have f2:(upd H x.a (.ins C x.dx (accF c (S i).purse (S i).count x.pr x.st))) y.st=some (.dK kvs):=by rw [Zaf (ZaF e3 ai.ob (by intro z;cases z))];exact e3
 unfold setS
 by_cases z:j=i
 .subst z
  rw [hx] at hy
  cases hy
  rw [if_pos rfl]
  exact ⟨Zab,⟨xs,f1,e2.keep im⟩,kvs,f2,e4⟩
 .rw [if_neg z]
  have hne:y.a≠x.a:=fun q=>z (r.da j i y x hj hi hy hx q)
  exact ⟨by rw [Zaf hne];exact aj.ob,⟨xs,f1,e2.keep im⟩,kvs,f2,e4⟩
noncomputable def moved (S:Nat->AcS) (i j:Nat) (k:Int):Nat->AcS:=let S1:=setS S i { S i with coin:=(S i).coin-k };setS S1 j { S1 j with coin:=(S1 j).coin+k }
def Zfv (K:PySem.W.Frag) (C:Addr):Sp:=fun vs H Q _=>∃ (R:Addr) (A:Nat->Option AcI) (S:Nat->AcS) (m i j:Nat) (x y:AcI) (k:Int),vs=[.ref x.a,.ref y.a,.int k]/\Rooms K C H R A S m/\i<16/\j<16/\A i=some x/\A j=some y /\
 ∀ H',(∀ b,b≠x.a->b≠y.a->H' b=H b)->Rooms K C H' R A (moved S i j k) m->Q .non H'
section
variable {P:Program} {w:World} {K:PySem.W.Frag} {mg:Str->Option Value} {base:Heap}
theorem Zcm:FnScope ["self", "coin", "purse", "program"] ["self", "coin", "purse", "program"] (Zad Za3):=by walk_at "c"
theorem Zcn   {cAccount:Addr} (D:Zan K cAccount "__init__" "Account.__init__" Za3) (tAccount:T_Account K mg cAccount) (n_list:mg "list" = none):ICal P w K mg base 1 "Account" cAccount (spInit K cAccount):=by
 refine Zdh D tAccount.k Zcm (fun vs H Q E h=>?_) (by walk_at "b") (fun f cdv A outer s H vs Q E hr h=>?_)
 .obtain ⟨a,dx,pr0,c,p,xs,rs,rfl,_⟩:=h;rfl
 .obtain ⟨a,dx,pr0,c,p,xs,rs,rfl,ha,hl,hR,k⟩:=h
  refine ⟨_,(Zac (Zbf (pv 0) (pv 1) rfl)
   (Zac (Zbf (pv 0) (pv 2) rfl)
   (Zac (Zbf (pv 0) Zah rfl)
   (Zac (Zbf (pv 0) (ZbF ZhJ rfl n_list PyProof.Rows.boot_list (Zaa (pv 3) Zag)) rfl)
   (Zae (Zbf (pv 0) Zd5 rfl)))))),?_⟩
  walk_at "nx"
  walk_at "K"
  refine ZaK ha tAccount.k.cl tAccount.n_coin (by decide) ?_
  walk_at "K"
  refine ZaK Zab tAccount.k.cl tAccount.n_purse (by show 1<1000;decide) ?_
  rw [Za0]
  walk_at "K"
  refine ZaK Zab tAccount.k.cl tAccount.n_count (by show 2<1000;decide) ?_
  rw [Za0]
  walk_at "K"
  refine Zeb (hl.updI ha) fun pr hpr=>?_
  have hn:H pr=none:=by
   by_cases e:pr=a
   .subst e;rw [Zab] at hpr;cases hpr
   .rw [Zaf e] at hpr;exact hpr
  have na:a≠pr:=Zai ha hn
  walk_at "K"
  refine ZaK (by rw [Zaf na,Zab]) tAccount.k.cl tAccount.n_program (by show 3<1000;decide) ?_
  walk_at "K"
  rename_i st hst
  have ns:st≠a:=fun e=>by subst e;rw [Zab] at hst;cases hst
  have np:st≠pr:=fun e=>by subst e;rw [Zaf ns,Zab] at hst;cases hst
  have hn2:H st=none:=by rw [Zaf ns,Zaf np,Zaf ns] at hst;exact hst
  refine ZaK (by rw [Zaf ns.symm,Zab]) tAccount.k.cl tAccount.n_store (by show 4<1000;decide) ?_
  have kp:∀ b o,H b=some o->b≠a->(upd (upd (upd (upd (upd H a (.ins cAccount dx [("coin", .int c),("purse", .int p),("count", .int 0)])) pr (.lst xs)) a (.ins cAccount dx [("coin", .int c),("purse", .int p),("count", .int 0),("program", .ref pr)])) st (.dK [])) a (.ins cAccount dx (accF c p 0 pr st))) b=some o:=by
   intro b o e hb
   have h1:b≠pr:=Zai e hn
   have h2:b≠st:=Zai e hn2
   rw [Zaf hb,Zaf h2,Zaf hb,Zaf h1,Zaf hb]
   exact e
  refine k pr st _ hn hn2 np.symm ⟨?_,⟨xs,?_,?_⟩,⟨[],?_,by decide,by simp,by simp,fun i=>rfl⟩⟩ ?_
  .rw [Zab];rfl
  .rw [Zaf na.symm,Zaf np.symm,Zaf na.symm,Zab]
  .refine hR.keep fun b u e i=>?_
   have hb:b≠a:=fun z=>by rw [z,ha] at e;cases e;exact ZdU i
   exact kp b u e hb
  .rw [Zaf ns,Zab]
  .exact kp
theorem Zdw:FnScope ["self", "place", "number"] ["self", "place", "number"] (Zad Zbw):=by walk_at "c"
theorem Zdx   {cAccount:Addr} (D:Zan K cAccount "keep" "Account.keep" Zbw) (tAccount:T_Account K mg cAccount):MCal P w K mg base 1 cAccount "keep" (spKeep K cAccount):=by
 refine Zaz D tAccount.k.cl Zdw (fun vs H Q E h=>?_) (by walk_at "b") (fun f cdv A outer s H vs Q E hr h=>?_)
 .obtain ⟨a,dx,pr,st,c,p,n,rs,f,m,i,v,rfl,_⟩:=h;rfl
 .obtain ⟨a,dx,pr,st,c,p,n,rs,fn,m,i,v,rfl,A,hm,k⟩:=h
  first|refine Zaj fun zQ zq=>⟨_,(Zae (Zbe (Zaq Zbq (pv 2) Zah (nomark _)) (Zae (Zay (ZfS (Zak (pv 0) rfl) (pv 1) Zg6 ⟨rfl,rfl,rfl,rfl⟩))) (Zae (ZbK (ZbT hr) (Zak (pv 0) rfl) (pv 1) (pv 2) rfl)))),zq _ _ ?_⟩|refine ⟨_,(Zae (Zbe (Zaq Zbq (pv 2) Zah (nomark _)) (Zae (Zay (ZfS (Zak (pv 0) rfl) (pv 1) Zg6 ⟨rfl,rfl,rfl,rfl⟩))) (Zae (ZbK (ZbT hr) (Zak (pv 0) rfl) (pv 1) (pv 2) rfl)))),?_⟩
  walk_at "nx"
  obtain ⟨kvs,hs,hl,hn,hz,hf⟩:=A.sto
  walk_at "K'"
  .rename_i hv
   subst hv
   refine Zam A.ob tAccount.k.cl tAccount.n_store rfl ⟨st,rfl,isD_k hs,?_⟩
   walk_at "K"
   refine ⟨kvs,Sum.inl i,hs,rfl,fun v hv=>?_,fun hv=>?_⟩
   .dsimp only
    walk_at "K"
    exact k _ (fun b hb=>Zaf hb) (StoreAt.drop hl hn hz hf i)
   .dsimp only
    walk_at "K"
    refine k _ (fun b hb=>rfl) ⟨kvs,hs,Nat.le_trans hl (Nat.le_succ _),hn,hz,fun j=>?_⟩
    unfold putFn
    by_cases e:j=i
    .subst e
     rw [if_pos rfl,hv]
     rfl
    .rw [if_neg e]
     exact hf j
  .rename_i hv
   refine Zam A.ob tAccount.k.cl tAccount.n_store rfl ?_
   walk_at "K"
   exact Zbt hs (Nat.lt_of_le_of_lt (Nat.le_trans hl hm) (by decide)) (k _ (fun b hb=>Zaf hb) (StoreAt.put hl hn hz hf i v hv))
theorem Zeh:FnScope ["giver", "taker", "many"] ["giver", "taker", "many"] (Zad Zb1):=by walk_at "c"
theorem Zei   {cAccount:Addr} (D:ZaS K mg "shift_coin" Zb1) (tAccount:T_Account K mg cAccount):Cal P w K mg base 1 "shift_coin" (Zfv K cAccount):=by
 refine Zbj D Zeh (fun vs H Q E h=>?_) (by walk_at "b") (fun f cdv A outer s H vs Q E hr h=>?_)
 .obtain ⟨R,A,S,m,i,j,x,y,k,rfl,_⟩:=h;rfl
 .obtain ⟨R,Ar,S,m,i,j,x,y,kk,rfl,r,hi,hj,hx,hy,k⟩:=h
  refine ⟨_,(Zac (Zex (pv 0) (pv 2) in_sub)
   (Zae (Zex (pv 1) (pv 2) in_add))),?_⟩
  walk_at "nx"
  have ax:=r.ac i x hi hx
  walk_at "K"
  refine ZfY ax.ob tAccount.k.cl tAccount.n_coin rfl ?_
  walk_at "K"
  refine ⟨x.dx,_,ax.ob,by show 5<1000;decide,?_⟩
  have r1:=r.coin hi hx ((S i).coin-kk)
  have fr1:∀ b,b≠x.a->(upd H x.a (.ins cAccount x.dx (accF ((S i).coin-kk) (S i).purse (S i).count x.pr x.st))) b=H b:=fun b hb=>Zaf hb
  have ep:∀ (c c' p n:Int) (pr st:Addr),putF "coin" (.int c') (accF c p n pr st)=accF c' p n pr st:=fun _ _ _ _ _ _=>rfl
  rw [ep]
  generalize upd H x.a _=H1 at r1 fr1
  (revert H1 r1 fr1;refine keepIt ?_;intro H1 r1 fr1)
  generalize hS1:setS S i { S i with coin:=(S i).coin-kk }=S1 at r1
  (revert S1 hS1 r1;refine keepIt ?_;intro S1 hS1 r1)
  have ay:=r1.ac j y hj hy
  dsimp only
  walk_at "K"
  refine ZfY ay.ob tAccount.k.cl tAccount.n_coin rfl ?_
  walk_at "K"
  refine ⟨y.dx,_,ay.ob,by show 5<1000;decide,?_⟩
  rw [ep]
  have r2:=r1.coin hj hy ((S1 j).coin+kk)
  refine k _ (fun b h1 h2=>by rw [Zaf h2];exact fr1 b h1) ?_
  unfold moved
  rw [hS1]
  exact r2
end
inductive Dd where
 | save (s p o n:Int)
 | move (s t k:Int)
 | note (s n:Int)
noncomputable def saveF (s p o n:Int):List (Str×V):=[("slot", .int s),("place", .int p),("old", .int o),("new", .int n)]
noncomputable def moveF (s t k:Int):List (Str×V):=[("slot", .int s),("taker", .int t),("many", .int k)]
noncomputable def noteF (s n:Int):List (Str×V):=[("slot", .int s),("number", .int n)]
noncomputable def doneS (S:Nat->AcS):Dd->Nat->AcS
 | .save s p _ n=>setS S s.toNat { S s.toNat with store:=putFn (S s.toNat).store p n }
 | .move s t k=>moved S s.toNat t.toNat k
 | .note _ _=>S
def fitsD (A:Nat->Option AcI):Dd->Prop
 | .save s _ _ _=>∃ i x,s=((i:Nat):Int)/\i<16/\A i=some x
 | .move s t _=>(∃ i x,s=((i:Nat):Int)/\i<16/\A i=some x)/\∃ i x,t=((i:Nat):Int)/\i<16/\A i=some x
 | .note _ _=>True
def Out (A:Nat->Option AcI) (b:Addr):Prop:=∀ i x,i<16->A i=some x->b≠x.a/\b≠x.st
theorem Rooms.le {K:PySem.W.Frag} {C:Addr} {H:Hp} {R:Addr} {A:Nat->Option AcI} {S:Nat->AcS} {m m':Nat} (r:Rooms K C H R A S m) (e:m<=m'):Rooms K C H R A S m':=⟨r.ob,fun i x hi hx=>(r.ac i x hi hx).le e,r.da,r.ds⟩
def Zgd (C:Addr):Sp:=fun vs H Q _=>∃ (a dx:Addr) (s p o n:Int),vs=[.ref a,.int s,.int p,.int o,.int n]/\H a=some (.ins C dx [])/\Q .non (upd H a (.ins C dx (saveF s p o n)))
def Zge (C:Addr):Sp:=fun vs H Q _=>∃ (a dx:Addr) (s t k:Int),vs=[.ref a,.int s,.int t,.int k]/\H a=some (.ins C dx [])/\Q .non (upd H a (.ins C dx (moveF s t k)))
def Zgf (C:Addr):Sp:=fun vs H Q _=>∃ (a dx:Addr) (s n:Int),vs=[.ref a,.int s,.int n]/\H a=some (.ins C dx [])/\Q .non (upd H a (.ins C dx (noteF s n)))
noncomputable def fldD:Dd->List (Str×V)
 | .save s p o n=>saveF s p o n
 | .move s t k=>moveF s t k
 | .note s n=>noteF s n
def spDo (K:PySem.W.Frag) (C CD:Addr) (ok:Dd->Prop):Sp:=fun vs H Q _=>∃ (a dx R:Addr) (d:Dd) (A:Nat->Option AcI) (S:Nat->AcS) (m:Nat),vs=[.ref a,.ref R]/\ok d/\H a=some (.ins CD dx (fldD d))/\Rooms K C H R A S m/\fitsD A d/\m<=1000000 /\
 ∀ H',(∀ b,Out A b->H' b=H b)->Rooms K C H' R A (doneS S d) (m+1)->Q .non H'
def isSave (d:Dd):Prop:=∃ s p o n,d=.save s p o n
def isMove (d:Dd):Prop:=∃ s t k,d=.move s t k
def isNote (d:Dd):Prop:=∃ s n,d=.note s n
noncomputable def Zej (S:Nat->AcS):Dd->Nat->AcS
 | .save s p o _=>setS S s.toNat { S s.toNat with store:=putFn (S s.toNat).store p o }
 | .move s t k=>moved S t.toNat s.toNat k
 | .note _ _=>S
def spUndo (K:PySem.W.Frag) (C CD:Addr) (ok:Dd->Prop):Sp:=fun vs H Q _=>∃ (a dx R:Addr) (d:Dd) (A:Nat->Option AcI) (S:Nat->AcS) (m:Nat),vs=[.ref a,.ref R]/\ok d/\H a=some (.ins CD dx (fldD d))/\Rooms K C H R A S m/\fitsD A d/\m<=1000000 /\
 ∀ H',(∀ b,Out A b->H' b=H b)->Rooms K C H' R A (Zej S d) (m+1)->Q .non H'
def rightD (S:Nat->AcS):Dd->Prop
 | .save s p o _=>(S s.toNat).store p=o
 | .move _ _ _=>True
 | .note _ _=>True
theorem Zh8 (S:Nat->AcS) (i:Nat) (v:AcS):setS S i v i=v:=by unfold setS;rw [if_pos rfl]
theorem Zh9 (S:Nat->AcS) (i:Nat) (v w:AcS):setS (setS S i v) i w=setS S i w:=by
 funext j
 unfold setS
 by_cases h:j=i
 .rw [if_pos h,if_pos h]
 .rw [if_neg h,if_neg h,if_neg h]
theorem ZkZ (S:Nat->AcS) (i:Nat):setS S i (S i)=S:=by
 funext j
 unfold setS
 by_cases h:j=i
 .rw [if_pos h,h]
 .rw [if_neg h]
theorem ZgR {f:Int->Int} {p o n:Int} (h:f p=o):putFn (putFn f p n) p o=f:=by
 funext j
 unfold putFn
 by_cases e:j=p
 .rw [if_pos e,e,h]
 .rw [if_neg e,if_neg e]
theorem Za7 (S:Nat->AcS) (i j:Nat) (k:Int) (n:Nat):moved S i j k n={ S n with coin:=(S n).coin-(if n=i then k else 0)+(if n=j then k else 0) }:=by
 unfold moved setS
 dsimp only
 by_cases h1:n=j
 .subst h1
  by_cases h2:n=i
  .subst h2;simp
  .simp [h2]
 .by_cases h2:n=i
  .subst h2;simp [h1]
  .simp [h1,h2]
theorem Zfw {S:Nat->AcS} {d:Dd} (h:rightD S d):Zej (doneS S d) d=S:=by
 cases d with
 | save s p o n =>
  have e:doneS S (.save s p o n) s.toNat={ S s.toNat with store:=putFn (S s.toNat).store p n }:=Zh8 ..
  show setS (setS S s.toNat _) s.toNat { doneS S (.save s p o n) s.toNat with store:=putFn (doneS S (.save s p o n) s.toNat).store p o }=S
  rw [Zh9,e]
  dsimp only
  rw [ZgR h]
  exact ZkZ S _
 | move s t k =>
  show moved (moved S _ _ k) _ _ k=S
  funext n
  rw [Za7,Za7]
  dsimp only
  have:(S n).coin-(if n=s.toNat then k else 0)+(if n=t.toNat then k else 0)-(if n=t.toNat then k else 0)+(if n=s.toNat then k else 0)=(S n).coin:=by omega
  rw [this]
 | note s n=>rfl
section
variable {P:Program} {w:World} {K:PySem.W.Frag} {mg:Str->Option Value} {base:Heap}
theorem ZcO:FnScope ["self", "slot", "place", "old", "new"] ["self", "slot", "place", "old", "new"] (Zad Zbn):=by walk_at "c"
theorem ZcP   {cSave:Addr} (D:Zan K cSave "__init__" "Save.__init__" Zbn) (tSave:T_Save K mg cSave):ICal P w K mg base 1 "Save" cSave (Zgd cSave):=by
 refine Zdh D tSave.k ZcO (fun vs H Q E h=>?_) (by walk_at "b") (fun f cdv A outer s H vs Q E hr h=>?_)
 .obtain ⟨a,dx,s0,p,o,n,rfl,_⟩:=h;rfl
 .obtain ⟨a,dx,s0,p,o,n,rfl,ha,k⟩:=h
  refine ⟨_,(Zac (Zbf (pv 0) (pv 1) rfl)
   (Zac (Zbf (pv 0) (pv 2) rfl)
   (Zac (Zbf (pv 0) (pv 3) rfl)
   (Zae (Zbf (pv 0) (pv 4) rfl))))),?_⟩
  walk_at "nx"
  walk_at "K"
  refine ZaK ha tSave.k.cl tSave.n_slot (by decide) ?_
  walk_at "K"
  refine ZaK Zab tSave.k.cl tSave.n_place (by show 1<1000;decide) ?_
  rw [Za0]
  walk_at "K"
  refine ZaK Zab tSave.k.cl tSave.n_old (by show 2<1000;decide) ?_
  rw [Za0]
  walk_at "K"
  refine ZaK Zab tSave.k.cl tSave.n_new (by show 3<1000;decide) ?_
  rw [Za0]
  exact k
theorem ZcQ:FnScope ["self", "slot", "taker", "many"] ["self", "slot", "taker", "many"] (Zad Zbo):=by walk_at "c"
theorem ZcR   {cMove:Addr} (D:Zan K cMove "__init__" "Move.__init__" Zbo) (tMove:T_Move K mg cMove):ICal P w K mg base 1 "Move" cMove (Zge cMove):=by
 refine Zdh D tMove.k ZcQ (fun vs H Q E h=>?_) (by walk_at "b") (fun f cdv A outer s H vs Q E hr h=>?_)
 .obtain ⟨a,dx,s0,t0,kk,rfl,_⟩:=h;rfl
 .obtain ⟨a,dx,s0,t0,kk,rfl,ha,k⟩:=h
  refine ⟨_,(Zac (Zbf (pv 0) (pv 1) rfl)
   (Zac (Zbf (pv 0) (pv 2) rfl)
   (Zae (Zbf (pv 0) (pv 3) rfl)))),?_⟩
  walk_at "nx"
  walk_at "K"
  refine ZaK ha tMove.k.cl tMove.n_slot (by decide) ?_
  walk_at "K"
  refine ZaK Zab tMove.k.cl tMove.n_taker (by show 1<1000;decide) ?_
  rw [Za0]
  walk_at "K"
  refine ZaK Zab tMove.k.cl tMove.n_many (by show 2<1000;decide) ?_
  rw [Za0]
  exact k
theorem ZcS:FnScope ["self", "slot", "number"] ["self", "slot", "number"] (Zad Zbp):=by walk_at "c"
theorem ZcT   {cNote:Addr} (D:Zan K cNote "__init__" "Note.__init__" Zbp) (tNote:T_Note K mg cNote):ICal P w K mg base 1 "Note" cNote (Zgf cNote):=by
 refine Zdh D tNote.k ZcS (fun vs H Q E h=>?_) (by walk_at "b") (fun f cdv A outer s H vs Q E hr h=>?_)
 .obtain ⟨a,dx,s0,n,rfl,_⟩:=h;rfl
 .obtain ⟨a,dx,s0,n,rfl,ha,k⟩:=h
  refine ⟨_,(Zac (Zbf (pv 0) (pv 1) rfl)
   (Zae (Zbf (pv 0) (pv 2) rfl))),?_⟩
  walk_at "nx"
  walk_at "K"
  refine ZaK ha tNote.k.cl tNote.n_slot (by decide) ?_
  walk_at "K"
  refine ZaK Zab tNote.k.cl tNote.n_number (by show 1<1000;decide) ?_
  rw [Za0]
  exact k
theorem ZgS:FnScope ["self", "rooms"] ["self", "rooms"] (Zad Zdt):=by walk_at "c"
theorem ZgT   {cSave:Addr} {cAccount:Addr} (D:Zan K cSave "do" "Save.do" Zdt) (tSave:T_Save K mg cSave) (tAccount:T_Account K mg cAccount) (m_Account_keep:MCal P w K mg base 1 cAccount "keep" (spKeep K cAccount)):MCal P w K mg base 2 cSave "do" (spDo K cAccount cSave isSave):=by
 refine Zaz D tSave.k.cl ZgS (fun vs H Q E h=>?_) (by walk_at "b") (fun f cdv A outer s H vs Q E hr h=>?_)
 .obtain ⟨a,dx,R,d,A,S,m,rfl,_⟩:=h;rfl
 .obtain ⟨a,dx,R,d,Ar,S,m,rfl,⟨s0,p,o,n,rfl⟩,ha,r,⟨i,x,rfl,hi,hx⟩,hm,k⟩:=h
  first|refine Zaj fun zQ zq=>⟨_,(Zae (Zay (ZcD m_Account_keep (hr.mono (by decide)) (Zav ZaE (pv 1) (Zak (pv 0) rfl) (fun _ _=>rfl)) (Zaa (Zak (pv 0) rfl) (Zaa (Zak (pv 0) rfl) Zag))))),zq _ _ ?_⟩|refine ⟨_,(Zae (Zay (ZcD m_Account_keep (hr.mono (by decide)) (Zav ZaE (pv 1) (Zak (pv 0) rfl) (fun _ _=>rfl)) (Zaa (Zak (pv 0) rfl) (Zaa (Zak (pv 0) rfl) Zag))))),?_⟩
  walk_at "nx"
  have ax:=r.ac i x hi hx
  walk_at "K"
  refine Zam ha tSave.k.cl tSave.n_slot rfl ?_
  refine Zbd (Zal r.ob) (r.at hi hx) ?_
  refine ZaV ax.ob rfl ?_
  walk_at "K"
  refine Zam ha tSave.k.cl tSave.n_place rfl ?_
  walk_at "K"
  refine Zam ha tSave.k.cl tSave.n_new rfl ?_
  walk_at "K"
  first|refine Zaj fun zQ zq=>⟨x.a,x.dx,x.pr,x.st,_,_,_,_,_,m,p,n,rfl,ax,hm,fun H' k1 e1=>zq _ _ ?_⟩|refine ⟨x.a,x.dx,x.pr,x.st,_,_,_,_,_,m,p,n,rfl,ax,hm,fun H' k1 e1=>?_⟩
  walk_at "K"
  refine k H' (fun b hb=>k1 b (hb i x hi hx).2) ?_
  have:=r.keep hi hx k1 e1
  exact this
theorem ZgU:FnScope ["self", "rooms"] ["self", "rooms"] (Zad Zdu):=by walk_at "c"
theorem ZgV   {cMove:Addr} (D:Zan K cMove "do" "Move.do" Zdu) (tMove:T_Move K mg cMove) (c_shift_coin:Cal P w K mg base 1 "shift_coin" (Zfv K cAccount)):MCal P w K mg base 2 cMove "do" (spDo K cAccount cMove isMove):=by
 refine Zaz D tMove.k.cl ZgU (fun vs H Q E h=>?_) (by walk_at "b") (fun f cdv A outer s H vs Q E hr h=>?_)
 .obtain ⟨a,dx,R,d,A,S,m,rfl,_⟩:=h;rfl
 .obtain ⟨a,dx,R,d,Ar,S,m,rfl,⟨s0,t0,kk,rfl⟩,ha,r,⟨⟨i,x,rfl,hi,hx⟩,j,y,rfl,hj,hy⟩,hm,k⟩:=h
  first|refine Zaj fun zQ zq=>⟨_,(Zae (Zay (ZaC c_shift_coin (hr.mono (by decide)) rfl (Zaa (Zav ZaE (pv 1) (Zak (pv 0) rfl) (fun _ _=>rfl)) (Zaa (Zav ZaE (pv 1) (Zak (pv 0) rfl) (fun _ _=>rfl)) (Zaa (Zak (pv 0) rfl) Zag)))))),zq _ _ ?_⟩|refine ⟨_,(Zae (Zay (ZaC c_shift_coin (hr.mono (by decide)) rfl (Zaa (Zav ZaE (pv 1) (Zak (pv 0) rfl) (fun _ _=>rfl)) (Zaa (Zav ZaE (pv 1) (Zak (pv 0) rfl) (fun _ _=>rfl)) (Zaa (Zak (pv 0) rfl) Zag)))))),?_⟩
  walk_at "nx"
  walk_at "K"
  refine Zam ha tMove.k.cl tMove.n_slot rfl ?_
  refine Zbd (Zal r.ob) (r.at hi hx) ?_
  walk_at "K"
  refine Zam ha tMove.k.cl tMove.n_taker rfl ?_
  refine Zbd (Zal r.ob) (r.at hj hy) ?_
  walk_at "K"
  refine Zam ha tMove.k.cl tMove.n_many rfl ?_
  walk_at "K"
  first|refine Zaj fun zQ zq=>⟨R,Ar,S,m,i,j,x,y,kk,rfl,r,hi,hj,hx,hy,fun H' k1 r1=>zq _ _ ?_⟩|refine ⟨R,Ar,S,m,i,j,x,y,kk,rfl,r,hi,hj,hx,hy,fun H' k1 r1=>?_⟩
  walk_at "K"
  refine k H' (fun b hb=>k1 b (hb i x hi hx).1 (hb j y hj hy).1) ?_
  exact r1.le (Nat.le_succ m)
theorem ZgW:FnScope ["self", "rooms"] ["self", "rooms"] (Zad Zdv):=by walk_at "c"
theorem ZgX   {cNote:Addr} (D:Zan K cNote "do" "Deed.do" Zdv) (tNote:T_Note K mg cNote):MCal P w K mg base 2 cNote "do" (spDo K cAccount cNote isNote):=by
 refine Zaz D tNote.k.cl ZgW (fun vs H Q E h=>?_) (by walk_at "b") (fun f cdv A outer s H vs Q E hr h=>?_)
 .obtain ⟨a,dx,R,d,A,S,m,rfl,_⟩:=h;rfl
 .obtain ⟨a,dx,R,d,Ar,S,m,rfl,⟨s0,n,rfl⟩,ha,r,_,hm,k⟩:=h
  refine ⟨_,(Zae Zg8),?_⟩
  walk_at "nx"
  exact k H (fun b _=>rfl) (r.le (Nat.le_succ m))
theorem ZeW:FnScope ["self", "rooms"] ["self", "rooms"] (Zad Zcg):=by walk_at "c"
theorem ZeX   {cSave:Addr} {cAccount:Addr} (D:Zan K cSave "undo" "Save.undo" Zcg) (tSave:T_Save K mg cSave) (tAccount:T_Account K mg cAccount) (m_Account_keep:MCal P w K mg base 1 cAccount "keep" (spKeep K cAccount)):MCal P w K mg base 2 cSave "undo" (spUndo K cAccount cSave isSave):=by
 refine Zaz D tSave.k.cl ZeW (fun vs H Q E h=>?_) (by walk_at "b") (fun f cdv A outer s H vs Q E hr h=>?_)
 .obtain ⟨a,dx,R,d,A,S,m,rfl,_⟩:=h;rfl
 .obtain ⟨a,dx,R,d,Ar,S,m,rfl,⟨s0,p,o,n,rfl⟩,ha,r,⟨i,x,rfl,hi,hx⟩,hm,k⟩:=h
  first|refine Zaj fun zQ zq=>⟨_,(Zae (Zay (ZcD m_Account_keep (hr.mono (by decide)) (Zav ZaE (pv 1) (Zak (pv 0) rfl) (fun _ _=>rfl)) (Zaa (Zak (pv 0) rfl) (Zaa (Zak (pv 0) rfl) Zag))))),zq _ _ ?_⟩|refine ⟨_,(Zae (Zay (ZcD m_Account_keep (hr.mono (by decide)) (Zav ZaE (pv 1) (Zak (pv 0) rfl) (fun _ _=>rfl)) (Zaa (Zak (pv 0) rfl) (Zaa (Zak (pv 0) rfl) Zag))))),?_⟩
  walk_at "nx"
  have ax:=r.ac i x hi hx
  walk_at "K"
  refine Zam ha tSave.k.cl tSave.n_slot rfl ?_
  refine Zbd (Zal r.ob) (r.at hi hx) ?_
  refine ZaV ax.ob rfl ?_
  walk_at "K"
  refine Zam ha tSave.k.cl tSave.n_place rfl ?_
  walk_at "K"
  refine Zam ha tSave.k.cl tSave.n_old rfl ?_
  walk_at "K"
  first|refine Zaj fun zQ zq=>⟨x.a,x.dx,x.pr,x.st,_,_,_,_,_,m,p,o,rfl,ax,hm,fun H' k1 e1=>zq _ _ ?_⟩|refine ⟨x.a,x.dx,x.pr,x.st,_,_,_,_,_,m,p,o,rfl,ax,hm,fun H' k1 e1=>?_⟩
  walk_at "K"
  refine k H' (fun b hb=>k1 b (hb i x hi hx).2) ?_
  have:=r.keep hi hx k1 e1
  exact this
theorem ZeY:FnScope ["self", "rooms"] ["self", "rooms"] (Zad Zci):=by walk_at "c"
theorem ZeZ   {cMove:Addr} (D:Zan K cMove "undo" "Move.undo" Zci) (tMove:T_Move K mg cMove) (c_shift_coin:Cal P w K mg base 1 "shift_coin" (Zfv K cAccount)):MCal P w K mg base 2 cMove "undo" (spUndo K cAccount cMove isMove):=by
 refine Zaz D tMove.k.cl ZeY (fun vs H Q E h=>?_) (by walk_at "b") (fun f cdv A outer s H vs Q E hr h=>?_)
 .obtain ⟨a,dx,R,d,A,S,m,rfl,_⟩:=h;rfl
 .obtain ⟨a,dx,R,d,Ar,S,m,rfl,⟨s0,t0,kk,rfl⟩,ha,r,⟨⟨i,x,rfl,hi,hx⟩,j,y,rfl,hj,hy⟩,hm,k⟩:=h
  first|refine Zaj fun zQ zq=>⟨_,(Zae (Zay (ZaC c_shift_coin (hr.mono (by decide)) rfl (Zaa (Zav ZaE (pv 1) (Zak (pv 0) rfl) (fun _ _=>rfl)) (Zaa (Zav ZaE (pv 1) (Zak (pv 0) rfl) (fun _ _=>rfl)) (Zaa (Zak (pv 0) rfl) Zag)))))),zq _ _ ?_⟩|refine ⟨_,(Zae (Zay (ZaC c_shift_coin (hr.mono (by decide)) rfl (Zaa (Zav ZaE (pv 1) (Zak (pv 0) rfl) (fun _ _=>rfl)) (Zaa (Zav ZaE (pv 1) (Zak (pv 0) rfl) (fun _ _=>rfl)) (Zaa (Zak (pv 0) rfl) Zag)))))),?_⟩
  walk_at "nx"
  walk_at "K"
  refine Zam ha tMove.k.cl tMove.n_taker rfl ?_
  refine Zbd (Zal r.ob) (r.at hj hy) ?_
  walk_at "K"
  refine Zam ha tMove.k.cl tMove.n_slot rfl ?_
  refine Zbd (Zal r.ob) (r.at hi hx) ?_
  walk_at "K"
  refine Zam ha tMove.k.cl tMove.n_many rfl ?_
  walk_at "K"
  first|refine Zaj fun zQ zq=>⟨R,Ar,S,m,j,i,y,x,kk,rfl,r,hj,hi,hy,hx,fun H' k1 r1=>zq _ _ ?_⟩|refine ⟨R,Ar,S,m,j,i,y,x,kk,rfl,r,hj,hi,hy,hx,fun H' k1 r1=>?_⟩
  walk_at "K"
  refine k H' (fun b hb=>k1 b (hb j y hj hy).1 (hb i x hi hx).1) ?_
  exact r1.le (Nat.le_succ m)
theorem Ze0:FnScope ["self", "rooms"] ["self", "rooms"] (Zad Zcl):=by walk_at "c"
theorem Ze1   {cNote:Addr} (D:Zan K cNote "undo" "Deed.undo" Zcl) (tNote:T_Note K mg cNote):MCal P w K mg base 2 cNote "undo" (spUndo K cAccount cNote isNote):=by
 refine Zaz D tNote.k.cl Ze0 (fun vs H Q E h=>?_) (by walk_at "b") (fun f cdv A outer s H vs Q E hr h=>?_)
 .obtain ⟨a,dx,R,d,A,S,m,rfl,_⟩:=h;rfl
 .obtain ⟨a,dx,R,d,Ar,S,m,rfl,⟨s0,n,rfl⟩,ha,r,_,hm,k⟩:=h
  refine ⟨_,(Zae Zg8),?_⟩
  walk_at "nx"
  exact k H (fun b _=>rfl) (r.le (Nat.le_succ m))
end
noncomputable def clsD (cS cM cN:Addr):Dd->Addr
 | .save ..=>cS
 | .move ..=>cM
 | .note ..=>cN
def T3 (a b c:Addr) (s1 s2 s3:Sp) (C:Addr) (sp:Sp):Prop:=(C=a/\sp=s1)\/(C=b/\sp=s2)\/(C=c/\sp=s3)
theorem Zfx {P:Program} {w:World} {K:PySem.W.Frag} {mg:Str->Option Value} {base:Heap} {n:Nat} {m:Str} {a b c:Addr} {s1 s2 s3:Sp} (m1:MCal P w K mg base n a m s1) (m2:MCal P w K mg base n b m s2) (m3:MCal P w K mg base n c m s3) (C:Addr) (sp:Sp) (h:T3 a b c s1 s2 s3 C sp):MCal P w K mg base n C m sp:=by
 rcases h with ⟨rfl,rfl⟩|⟨rfl,rfl⟩|⟨rfl,rfl⟩
 .exact m1
 .exact m2
 .exact m3
theorem Zcy {T:Addr->Sp->Prop} {m:Str} {ta:TE} {t:TA} {σ:St} {H:Hp} {Q:VK} (q:ta σ H fun x H1=>∃ a C dx fs sp,x=.ref a/\H1 a=some (.ins C dx fs)/\fs.lookup m=none/\T C sp/\t σ H1 fun vs H2=>sp (x::vs) H2 Q E0):tMethD T m ta t σ H Q:=q
def TDo (K:PySem.W.Frag) (cA cS cM cN:Addr):Addr->Sp->Prop:=T3 cS cM cN (spDo K cA cS isSave) (spDo K cA cM isMove) (spDo K cA cN isNote)
def TUn (K:PySem.W.Frag) (cA cS cM cN:Addr):Addr->Sp->Prop:=T3 cS cM cN (spUndo K cA cS isSave) (spUndo K cA cM isMove) (spUndo K cA cN isNote)
def okOf:Dd->Dd->Prop
 | .save ..=>isSave
 | .move ..=>isMove
 | .note ..=>isNote
theorem ZaU (d:Dd):okOf d d:=by
 cases d with
 | save=>exact ⟨_,_,_,_,rfl⟩
 | move=>exact ⟨_,_,_,rfl⟩
 | note=>exact ⟨_,_,rfl⟩
theorem ZjQ (K:PySem.W.Frag) (cA cS cM cN:Addr) (d:Dd):TDo K cA cS cM cN (clsD cS cM cN d) (spDo K cA (clsD cS cM cN d) (okOf d)):=by
 cases d with
 | save=>exact .inl ⟨rfl,rfl⟩
 | move=>exact .inr (.inl ⟨rfl,rfl⟩)
 | note=>exact .inr (.inr ⟨rfl,rfl⟩)
theorem ZjR (K:PySem.W.Frag) (cA cS cM cN:Addr) (d:Dd):TUn K cA cS cM cN (clsD cS cM cN d) (spUndo K cA (clsD cS cM cN d) (okOf d)):=by
 cases d with
 | save=>exact .inl ⟨rfl,rfl⟩
 | move=>exact .inr (.inl ⟨rfl,rfl⟩)
 | note=>exact .inr (.inr ⟨rfl,rfl⟩)
theorem ZjS (d:Dd):(fldD d).lookup (Str.ofString "do")=none:=by cases d<;>rfl
theorem Zgg (d:Dd):(fldD d).lookup (Str.ofString "undo")=none:=by cases d<;>rfl
noncomputable def runS (S:Nat->AcS) (ds:List Dd):Nat->AcS:=ds.foldl doneS S
theorem Zcz (S:Nat->AcS) (ds:List Dd) (d:Dd):runS S (ds++[d])=doneS (runS S ds) d:=by unfold runS;rw [List.foldl_append];rfl
def ZaW:(Nat->AcS)->List Dd->Prop
 | _,[]=>True
 | S,d::ds=>rightD S d/\ZaW (doneS S d) ds
theorem ZbS:∀ (S:Nat->AcS) (ds:List Dd) (d:Dd),ZaW S (ds++[d]) ↔ ZaW S ds/\rightD (runS S ds) d
 | S,[],d=>by simp [ZaW,runS]
 | S,e::ds,d=>by
  show rightD S e/\ZaW (doneS S e) (ds++[d]) ↔ (rightD S e/\ZaW (doneS S e) ds)/\rightD (runS S (e::ds)) d
  rw [ZbS (doneS S e) ds d,and_assoc]
  rfl
structure DI where
 o:Addr
 dx:Addr
 d:Dd
noncomputable def jF (R L:Addr):List (Str×V):=[("rooms", .ref R),("deeds", .ref L)]
structure Jr (cJ cS cM cN:Addr) (H:Hp) (j dx R L:Addr) (A:Nat->Option AcI) (es:List DI):Prop where
 ob:H j=some (.ins cJ dx (jF R L))
 li:H L=some (.lst (es.map fun e=>V.ref e.o))
 de:∀ e∈es,H e.o=some (.ins (clsD cS cM cN e.d) e.dx (fldD e.d))/\fitsD A e.d
 nR:L≠R
 np:∀ i x,i<16->A i=some x->L≠x.pr
theorem ins_ne {H:Hp} {a b C C' dx dx':Addr} {fs gs:List (Str×V)} (h:H a=some (.ins C dx fs)) (h':H b=some (.ins C' dx' gs)) (n:fs.length≠gs.length):a≠b:=fun z=>by
 rw [z,h'] at h
 cases h
 exact n rfl
theorem Zgh (d:Dd):(fldD d).length<5:=by
 cases d with
 | save=>show 4<5;decide
 | move=>show 3<5;decide
 | note=>show 2<5;decide
section
variable {K:PySem.W.Frag} {C cJ cS cM cN:Addr} {H H':Hp} {j dx R L:Addr} {A:Nat->Option AcI} {S:Nat->AcS} {m:Nat} {es:List DI}
theorem Rooms.same {K:PySem.W.Frag} {C:Addr} {H H':Hp} {R:Addr} {A:Nat->Option AcI} {S:Nat->AcS} {m:Nat} (r:Rooms K C H R A S m) (s:Same H H'):Rooms K C H' R A S m :=
 ⟨s _ _ r.ob,fun i x hi hx=>let h:=r.ac i x hi hx;⟨s _ _ h.ob,let ⟨xs,e1,e2⟩:=h.pg;⟨xs,s _ _ e1,e2.keep s.imm⟩,let ⟨k,a,b⟩:=h.sto;⟨k,s _ _ a,b⟩⟩,r.da,r.ds⟩
theorem Rooms.outI (r:Rooms K C H R A S m) {a C' dx':Addr} {fs:List (Str×V)} (h:H a=some (.ins C' dx' fs)) (n:fs.length<5):Out A a:=fun i x hi hx =>
 ⟨ins_ne h (r.ac i x hi hx).ob (by show fs.length≠5;omega),let ⟨_,g,_⟩:=(r.ac i x hi hx).sto;ZaF h g (by intro z;cases z)⟩
theorem Rooms.outL (r:Rooms K C H R A S m) {a:Addr} {xs:List V} (h:H a=some (.lst xs)):Out A a:=fun i x hi hx =>
 ⟨ZaF h (r.ac i x hi hx).ob (by intro z;cases z),let ⟨_,g,_⟩:=(r.ac i x hi hx).sto;ZaF h g (by intro z;cases z)⟩
theorem Rooms.outT (r:Rooms K C H R A S m) {a:Addr} {xs:List V} (h:H a=some (.tup xs)):Out A a:=fun i x hi hx =>
 ⟨ZaF h (r.ac i x hi hx).ob (by intro z;cases z),let ⟨_,g,_⟩:=(r.ac i x hi hx).sto;ZaF h g (by intro z;cases z)⟩
theorem Jr.same (J:Jr cJ cS cM cN H j dx R L A es) (s:Same H H'):Jr cJ cS cM cN H' j dx R L A es:=⟨s _ _ J.ob,s _ _ J.li,fun e he=>⟨s _ _ (J.de e he).1,(J.de e he).2⟩,J.nR,J.np⟩
theorem Jr.out (J:Jr cJ cS cM cN H j dx R L A es) (r:Rooms K C H R A S m) (k:∀ b,Out A b->H' b=H b):Jr cJ cS cM cN H' j dx R L A es :=
 ⟨by rw [k _ (r.outI J.ob (by show 2<5;decide))];exact J.ob,by rw [k _ (r.outL J.li)];exact J.li,fun e he=>⟨by rw [k _ (r.outI (J.de e he).1 (Zgh _))];exact (J.de e he).1,(J.de e he).2⟩,J.nR,J.np⟩
theorem Rooms.lst (r:Rooms K C H R A S m) {L:Addr} {xs ys:List V} (hL:H L=some (.lst xs)) (nR:L≠R) (np:∀ i x,i<16->A i=some x->L≠x.pr):Rooms K C (upd H L (.lst ys)) R A S m:=by
 have im:SameI H (upd H L (.lst ys)):=SameI.upd hL ZcE
 refine ⟨by rw [Zaf (Ne.symm nR)];exact r.ob,fun i x hi hx=>?_,r.da,r.ds⟩
 have h:=r.ac i x hi hx
 obtain ⟨zs,e1,e2⟩:=h.pg
 obtain ⟨kvs,e3,e4⟩:=h.sto
 exact ⟨by rw [Zaf (ZaF h.ob hL (by intro z;cases z))];exact h.ob,⟨zs,by rw [Zaf (Ne.symm (np i x hi hx))];exact e1,e2.keep im⟩,kvs,by rw [Zaf (ZaF e3 hL (by intro z;cases z))];exact e3,e4⟩
theorem Jr.push (J:Jr cJ cS cM cN H j dx R L A es) {e:DI} (he:H e.o=some (.ins (clsD cS cM cN e.d) e.dx (fldD e.d))) (hf:fitsD A e.d):Jr cJ cS cM cN (upd H L (.lst ((es.map fun e=>V.ref e.o)++[.ref e.o]))) j dx R L A (es++[e]):=by
 refine ⟨by rw [Zaf (ZaF J.ob J.li (by intro z;cases z))];exact J.ob,by rw [Zab,List.map_append];rfl,fun u hu=>?_,J.nR,J.np⟩
 rcases List.mem_append.mp hu with hu|hu
 .have h:=J.de u hu
  exact ⟨by rw [Zaf (ZaF h.1 J.li (by intro z;cases z))];exact h.1,h.2⟩
 .rw [List.mem_singleton] at hu
  subst hu
  exact ⟨by rw [Zaf (ZaF he J.li (by intro z;cases z))];exact he,hf⟩
theorem Jr.pop {e:DI} (J:Jr cJ cS cM cN H j dx R L A (es++[e])):Jr cJ cS cM cN (upd H L (.lst (es.map fun e=>V.ref e.o))) j dx R L A es :=
 ⟨by rw [Zaf (ZaF J.ob J.li (by intro z;cases z))];exact J.ob,Zab,fun u hu=>let h:=J.de u (List.mem_append.mpr (.inl hu));⟨by rw [Zaf (ZaF h.1 J.li (by intro z;cases z))];exact h.1,h.2⟩,J.nR,J.np⟩
end
theorem jb2 {m n:Nat} (h:m<n):n=(n-1)+1:=by omega
theorem jb3 {m e p:Nat} (h:m+e<=1000000):m+(e-p)<=1000000:=by omega
theorem jb5 {m e p:Nat} (h:p<e):m+(e-(p+1))+1=m+(e-p):=by omega
def Zia (cJ:Addr):Sp:=fun vs H Q _=>∃ (j dx R:Addr),vs=[.ref j,.ref R]/\H j=some (.ins cJ dx [])/\∀ L,H L=none->Q .non (upd (upd H L (.lst [])) j (.ins cJ dx (jF R L)))
def spMark (cJ:Addr):Sp:=fun vs H Q _=>∃ (j dx R L:Addr) (xs:List V),vs=[.ref j]/\H j=some (.ins cJ dx (jF R L))/\H L=some (.lst xs)/\Q (.int (xs.length:Nat)) H
def Zib (K:PySem.W.Frag) (C cJ cS cM cN:Addr):Sp:=fun vs H Q _=>∃ (j dx R L:Addr) (A:Nat->Option AcI) (S:Nat->AcS) (m:Nat) (es:List DI) (e:DI),vs=[.ref j,.ref e.o]/\Jr cJ cS cM cN H j dx R L A es/\Rooms K C H R A S m/\H e.o=some (.ins (clsD cS cM cN e.d) e.dx (fldD e.d))/\fitsD A e.d/\m<=1000000/\es.length<1000000 /\
 ∀ H',(∀ b,Out A b->b≠L->H' b=H b)->Rooms K C H' R A (doneS S e.d) (m+1)->Jr cJ cS cM cN H' j dx R L A (es++[e])->Q .non H'
def spBack (K:PySem.W.Frag) (C cJ cS cM cN:Addr):Sp:=fun vs H Q _=>∃ (j dx R L:Addr) (A:Nat->Option AcI) (S0:Nat->AcS) (m:Nat) (es:List DI) (mk:Int),vs=[.ref j,.int mk]/\Jr cJ cS cM cN H j dx R L A es/\Rooms K C H R A (runS S0 (es.map (·.d))) m/\ZaW S0 (es.map (·.d))/\m+es.length<=1000000 /\
 ∀ H',(∀ b,Out A b->b≠L->H' b=H b)->Rooms K C H' R A (runS S0 ((es.take mk.toNat).map (·.d))) (m+es.length)->ZaW S0 ((es.take mk.toNat).map (·.d))->Jr cJ cS cM cN H' j dx R L A (es.take mk.toNat)->Q .non H'
section
variable {P:Program} {w:World} {K:PySem.W.Frag} {mg:Str->Option Value} {base:Heap}
theorem Zco:FnScope ["self", "rooms"] ["self", "rooms"] (Zad Za2):=by walk_at "c"
theorem Zcp   {cJournal:Addr} (D:Zan K cJournal "__init__" "Journal.__init__" Za2) (tJournal:T_Journal K mg cJournal):ICal P w K mg base 1 "Journal" cJournal (Zia cJournal):=by
 refine Zdh D tJournal.k Zco (fun vs H Q E h=>?_) (by walk_at "b") (fun f cdv A outer s H vs Q E hr h=>?_)
 .obtain ⟨j,dx,R,rfl,_⟩:=h;rfl
 .obtain ⟨j,dx,R,rfl,ha,k⟩:=h
  refine ⟨_,(Zac (Zbf (pv 0) (pv 1) rfl)
   (Zae (Zbf (pv 0) (Zbc Zag) rfl))),?_⟩
  walk_at "nx"
  walk_at "K"
  refine ZaK ha tJournal.k.cl tJournal.n_rooms (by decide) ?_
  walk_at "K"
  refine ⟨by decide,fun l hl=>?_⟩
  have nl:l≠j:=fun z=>by rw [z,Zab] at hl;cases hl
  have hlH:H l=none:=by rw [Zaf nl] at hl;exact hl
  walk_at "K"
  refine ZaK (by rw [Zaf (Ne.symm nl)];exact Zab) tJournal.k.cl tJournal.n_deeds (by show 1<1000;decide) ?_
  have e:upd (upd (upd H j (.ins cJournal dx (putF "rooms" (.ref R) []))) l (.lst [])) j (.ins cJournal dx (putF "deeds" (.ref l) (putF "rooms" (.ref R) [])))=upd (upd H l (.lst [])) j (.ins cJournal dx (jF R l)):=by
   funext b
   unfold upd
   by_cases z:b=j
   .rw [if_pos z,if_pos z];rfl
   .rw [if_neg z,if_neg z,if_neg z]
  rw [e]
  exact k l hlH
theorem Zdy:FnScope ["self"] ["self"] (Zad Zbu):=by walk_at "c"
theorem Zdz   {cJournal:Addr} (D:Zan K cJournal "mark" "Journal.mark" Zbu) (tJournal:T_Journal K mg cJournal) (n_len:mg "len" = none):MCal P w K mg base 1 cJournal "mark" (spMark cJournal):=by
 refine Zaz D tJournal.k.cl Zdy (fun vs H Q E h=>?_) (by walk_at "b") (fun f cdv A outer s H vs Q E hr h=>?_)
 .obtain ⟨j,dx,R,L,xs,rfl,_⟩:=h;rfl
 .obtain ⟨j,dx,R,L,xs,rfl,ha,hl,k⟩:=h
  first|refine Zaj fun zQ zq=>⟨_,(Zae (Zao (Zap ZbH rfl n_len PySem.boot_len (Zaa (Zak (pv 0) rfl) Zag)))),zq _ _ ?_⟩|refine ⟨_,(Zae (Zao (Zap ZbH rfl n_len PySem.boot_len (Zaa (Zak (pv 0) rfl) Zag)))),?_⟩
  walk_at "nx"
  walk_at "K"
  refine Zam ha tJournal.k.cl tJournal.n_deeds rfl ?_
  walk_at "K"
  exact k
theorem ZcU:FnScope ["self", "deed"] ["self", "deed"] (Zad Zbl):=by walk_at "c"
theorem ZcV   {cJournal:Addr} {cSave:Addr} {cMove:Addr} {cNote:Addr} {cAccount:Addr} (D:Zan K cJournal "write" "Journal.write" Zbl) (tJournal:T_Journal K mg cJournal) (tSave:T_Save K mg cSave) (tMove:T_Move K mg cMove) (tNote:T_Note K mg cNote) (tAccount:T_Account K mg cAccount) (m_Save_do:MCal P w K mg base 2 cSave "do" (spDo K cAccount cSave isSave)) (m_Move_do:MCal P w K mg base 2 cMove "do" (spDo K cAccount cMove isMove)) (m_Note_do:MCal P w K mg base 2 cNote "do" (spDo K cAccount cNote isNote)):MCal P w K mg base 3 cJournal "write" (Zib K cAccount cJournal cSave cMove cNote):=by
 refine Zaz D tJournal.k.cl ZcU (fun vs H Q E h=>?_) (by walk_at "b") (fun f cdv A outer s H vs Q E hr h=>?_)
 .obtain ⟨j,dx,R,L,A,S,m,es,e,rfl,_⟩:=h;rfl
 .obtain ⟨j,dx,R,L,Ar,S,m,es,e,rfl,J,r,he,fit,hm,hel,k⟩:=h
  refine ⟨_,(Zac (Zay (ZfW (T:=TDo K cAccount cSave cMove cNote) (Zfx m_Save_do m_Move_do m_Note_do) (hr.mono (by decide)) (pv 1) (Zaa (Zak (pv 0) rfl) Zag)))
   (Zae (Zay (Zd2 PySem.F.plainAttrs_list PySem.F.slot_list_append PySem.F.type_list_append Zbi (Zak (pv 0) rfl) (Zaa (pv 1) Zag))))),?_⟩
  walk_at "nx"
  walk_at "K"
  refine Zcy ?_
  walk_at "K"
  first|refine Zaj fun zQ zq=>⟨e.o,clsD cSave cMove cNote e.d,e.dx,fldD e.d,_,rfl,he,ZjS e.d,ZjQ K cAccount cSave cMove cNote e.d,zq _ _ ?_⟩|refine ⟨e.o,clsD cSave cMove cNote e.d,e.dx,fldD e.d,_,rfl,he,ZjS e.d,ZjQ K cAccount cSave cMove cNote e.d,?_⟩
  walk_at "K"
  refine Zam J.ob tJournal.k.cl tJournal.n_rooms rfl ?_
  walk_at "K"
  first|refine Zaj fun zQ zq=>⟨e.o,e.dx,R,e.d,Ar,S,m,rfl,ZaU e.d,he,r,fit,hm,fun H1 k1 r1=>zq _ _ ?_⟩|refine ⟨e.o,e.dx,R,e.d,Ar,S,m,rfl,ZaU e.d,he,r,fit,hm,fun H1 k1 r1=>?_⟩
  have J1:=J.out r k1
  have he1:H1 e.o=some (.ins (clsD cSave cMove cNote e.d) e.dx (fldD e.d)):=by rw [k1 _ (r.outI he (Zgh _))];exact he
  walk_at "K"
  refine Zam J1.ob tJournal.k.cl tJournal.n_deeds rfl ?_
  refine ⟨ZbN (Zal J1.li),?_⟩
  walk_at "K"
  refine ZbI J1.li (by rw [List.length_map];exact Nat.lt_of_lt_of_le hel (by decide)) ?_
  walk_at "K"
  exact k _ (fun b h1 h2=>by rw [Zaf h2];exact k1 b h1) (r1.lst J1.li J1.nR J1.np) (J1.push he1 fit)
theorem Zb5:FnScope ["self", "mark", "deed"] ["self", "mark"] (Zad Zbv):=by walk_at "c"
theorem ZdA   {cJournal:Addr} {cSave:Addr} {cMove:Addr} {cNote:Addr} {cAccount:Addr} (D:Zan K cJournal "back" "Journal.back" Zbv) (tJournal:T_Journal K mg cJournal) (tSave:T_Save K mg cSave) (tMove:T_Move K mg cMove) (tNote:T_Note K mg cNote) (tAccount:T_Account K mg cAccount) (m_Save_undo:MCal P w K mg base 2 cSave "undo" (spUndo K cAccount cSave isSave)) (m_Move_undo:MCal P w K mg base 2 cMove "undo" (spUndo K cAccount cMove isMove)) (m_Note_undo:MCal P w K mg base 2 cNote "undo" (spUndo K cAccount cNote isNote)) (n_len:mg "len" = none) (n_max:mg "max" = none):MCal P w K mg base 3 cJournal "back" (spBack K cAccount cJournal cSave cMove cNote):=by
 refine Zaz D tJournal.k.cl Zb5 (fun vs H Q E h=>?_) (by walk_at "b") (fun f cdv A outer s H vs Q E hr h=>?_)
 .obtain ⟨j,dx,R,L,A,S0,m,es,mk,rfl,_⟩:=h;rfl
 .obtain ⟨j,dx,R,L,Ar,S0,m,es,mk,rfl,J,r,ri,hm,k⟩:=h
  refine ⟨_,(Zae (ZiA PassesOwn.never (Zaq Zj3 (Zap ZbH rfl n_len PySem.boot_len (Zaa (Zak (pv 0) rfl) Zag)) (Zap (cn_max rfl) rfl n_max PyProof.Rows.boot_max (Zaa (pv 1) (Zaa Zah Zag))) (nomark _))
   (Zac (Zaw (i:=2) Zb5.nd rfl (by first|exact Or.inl rfl|exact Or.inr rfl) (pe_bm0 PySem.F.plainAttrs_list PySem.F.slot_list_pop PySem.F.type_list_pop mt_pop (Zak (pv 0) rfl)))
   (Zae (Zay (ZfW (T:=TUn K cAccount cSave cMove cNote) (Zfx m_Save_undo m_Move_undo m_Note_undo) (hr.mono (by decide)) (pv 2) (Zaa (Zak (pv 0) rfl) Zag))))))),?_⟩
  walk_at "nx"
  first|refine Zaj fun zQ zq=>⟨fun n σ' H'=>∃ q v,n=q/\min mk.toNat es.length<=q/\q<=es.length/\(∀ b,Out Ar b->b≠L->H' b=H b)/\Rooms K cAccount H' R Ar (runS S0 ((es.take q).map (·.d))) (m+(es.length-q))/\ZaW S0 ((es.take q).map (·.d))/\Jr cJournal cSave cMove cNote H' j dx R L Ar (es.take q)/\σ'=[some (.ref j),some (.int mk),v],⟨es.length,es.length,none,rfl,Nat.min_le_right _ _,Nat.le_refl _,fun _ _ _=>rfl,by rw [List.take_length,Nat.sub_self];exact r,by rw [List.take_length];exact ri,by rw [List.take_length];exact J,rfl⟩,zq _ _ ?_⟩|refine ⟨fun n σ' H'=>∃ q v,n=q/\min mk.toNat es.length<=q/\q<=es.length/\(∀ b,Out Ar b->b≠L->H' b=H b)/\Rooms K cAccount H' R Ar (runS S0 ((es.take q).map (·.d))) (m+(es.length-q))/\ZaW S0 ((es.take q).map (·.d))/\Jr cJournal cSave cMove cNote H' j dx R L Ar (es.take q)/\σ'=[some (.ref j),some (.int mk),v],⟨es.length,es.length,none,rfl,Nat.min_le_right _ _,Nat.le_refl _,fun _ _ _=>rfl,by rw [List.take_length,Nat.sub_self];exact r,by rw [List.take_length];exact ri,by rw [List.take_length];exact J,rfl⟩,?_⟩
  rintro n σ' H' ⟨q,v,rfl,hq0,hq1,fr,r',ri',J',rfl⟩
  have hL:=J'.li
  walk_at "K"
  refine Zam J'.ob tJournal.k.cl tJournal.n_deeds rfl ?_
  walk_at "K"
  .rename_i hgt
   rw [List.length_map,List.length_take,Nat.min_eq_left hq1] at hgt
   have hgt2:mk.toNat<n:=by split at hgt<;>omega
   obtain ⟨p,rfl⟩:∃ p,n=p+1:=⟨n-1,jb2 hgt2⟩
   have hp:p<es.length:=hq1
   have htk:es.take (p+1)=es.take p++[es[p]]:=List.take_succ_eq_append_getElem hp
   refine ⟨fun σ' H'=>∃ m',m'<p+1/\_,fun _ _ h=>h,?_⟩
   rw [htk] at J' ri' r' hL
   rw [List.map_append] at ri' r'
   obtain ⟨de,fit⟩:=J'.de es[p] (List.mem_append.mpr (.inr (List.mem_singleton.mpr rfl)))
   generalize es[p]=e at *
   have J2:=J'.pop
   have r2:=r'.lst (ys:=(es.take p).map fun e=>V.ref e.o) hL J'.nR J'.np
   rw [List.map_append] at hL
   walk_at "K"
   refine Zam J'.ob tJournal.k.cl tJournal.n_deeds rfl ?_
   refine ⟨ZbN (Zal hL),?_⟩
   refine rd_pop hL ?_
   have fr2:∀ b,Out Ar b->b≠L->(upd H' L (.lst ((es.take p).map fun e=>V.ref e.o))) b=H b:=fun b h1 h2=>by rw [Zaf h2];exact fr b h1 h2
   have de2:(upd H' L (.lst ((es.take p).map fun e=>V.ref e.o))) e.o=some (.ins (clsD cSave cMove cNote e.d) e.dx (fldD e.d)):=by rw [Zaf (ZaF de hL (by intro z;cases z))];exact de
   generalize upd H' L _=H2 at J2 r2 fr2 de2
   (revert H2 J2 r2 fr2 de2;refine keepIt ?_;intro H2 J2 r2 fr2 de2)
   walk_at "K"
   refine Zcy ?_
   walk_at "K"
   first|refine Zaj fun zQ zq=>⟨e.o,clsD cSave cMove cNote e.d,e.dx,fldD e.d,_,rfl,de2,Zgg e.d,ZjR K cAccount cSave cMove cNote e.d,zq _ _ ?_⟩|refine ⟨e.o,clsD cSave cMove cNote e.d,e.dx,fldD e.d,_,rfl,de2,Zgg e.d,ZjR K cAccount cSave cMove cNote e.d,?_⟩
   walk_at "K"
   refine Zam J2.ob tJournal.k.cl tJournal.n_rooms rfl ?_
   walk_at "K"
   first|refine Zaj fun zQ zq=>⟨e.o,e.dx,R,e.d,Ar,_,_,rfl,ZaU e.d,de2,r2,fit,jb3 hm,fun H3 k3 r3=>zq _ _ ?_⟩|refine ⟨e.o,e.dx,R,e.d,Ar,_,_,rfl,ZaU e.d,de2,r2,fit,jb3 hm,fun H3 k3 r3=>?_⟩
   have J3:=J2.out r2 k3
   obtain ⟨ri2,rd2⟩:=(ZbS _ _ _).mp ri'
   have e1:Zej (runS S0 ((es.take p).map (·.d)++[e].map (·.d))) e.d=runS S0 ((es.take p).map (·.d)):=by
    show Zej (runS S0 ((es.take p).map (·.d)++[e.d])) e.d=_
    rw [Zcz]
    exact Zfw rd2
   rw [e1] at r3
   walk_at "K"
   refine ⟨p,Nat.lt_succ_self p,p,_,rfl,Nat.le_trans (Nat.min_le_left ..) (Nat.le_of_lt_succ hgt2),Nat.le_of_lt hp,fun b h1 h2=>by rw [k3 b h1];exact fr2 b h1 h2,?_,ri2,J3,rfl⟩
   have em:m+(es.length-(p+1))+1=m+(es.length-p):=jb5 hp
   rw [em] at r3
   exact r3
  .rename_i hgt
   rw [List.length_map,List.length_take,Nat.min_eq_left hq1] at hgt
   have hgt2:n<=mk.toNat:=by split at hgt<;>omega
   have et:es.take n=es.take mk.toNat:=by
    by_cases z:mk.toNat<=es.length
    .rw [show n=mk.toNat by omega]
    .rw [List.take_of_length_le (by omega),List.take_of_length_le (by omega)]
   rw [et] at r' ri' J'
   exact k H' fr (r'.le (by omega)) ri' J'
end
noncomputable def tellV:Dd->List V
 | .save s p o n=>[.str "save", .int s,.int p,.int o,.int n]
 | .move s t k=>[.str "move", .int s,.int t,.int k]
 | .note s n=>[.str "note", .int s,.int n]
noncomputable def tellDs:Dd->List Dt
 | .save s p o n=>[.str "save", .int s,.int p,.int o,.int n]
 | .move s t k=>[.str "move", .int s,.int t,.int k]
 | .note s n=>[.str "note", .int s,.int n]
noncomputable def tellD (d:Dd):Dt:=.tup (tellDs d)
theorem Zju {K:PySem.W.Frag} {H:Hp} (d:Dd):DVs K H (tellDs d) (tellV d):=by
 cases d with
 | save=>exact ZaG ZeQ (ZaG Zcd (ZaG Zcd (ZaG Zcd (ZaG Zcd Zcf))))
 | move=>exact ZaG ZeQ (ZaG Zcd (ZaG Zcd (ZaG Zcd Zcf)))
 | note=>exact ZaG ZeQ (ZaG Zcd (ZaG Zcd Zcf))
theorem Zgi {K:PySem.W.Frag} {H:Hp}:∀ (ds:List Dt) (xs:List V),ds.length=xs.length->(∀ (i:Nat) (d:Dt) (x:V),ds[i]?=some d->xs[i]?=some x->DV K H d x)->DVs K H ds xs
 | [],[],_,_=>Zcf
 | d::ds,x::xs,hl,h=>ZaG (h 0 d x rfl rfl) (Zgi ds xs (by simpa using hl) fun i d' x' h1 h2=>h (i+1) d' x' (by simpa using h1) (by simpa using h2))
 | [],x::xs,hl,_=>by simp at hl
 | d::ds,[],hl,_=>by simp at hl
theorem Zic {K:PySem.W.Frag} {H:Hp}:∀ {ds:List Dt} {xs:List V},DVs K H ds xs->ds.length=xs.length/\∀ (i:Nat) (d:Dt) (x:V),ds[i]?=some d->xs[i]?=some x->DV K H d x
 | [],xs,h=>by
  unfold DVs at h
  subst h
  exact ⟨rfl,fun i d x h=>by simp at h⟩
 | d::ds,xs,h=>by
  unfold DVs at h
  obtain ⟨x,t,rfl,h1,h2⟩:=h
  obtain ⟨a,b⟩:=Zic h2
  refine ⟨by simp [a],fun i d' x' e1 e2=>?_⟩
  cases i with
  | zero=>cases e1;cases e2;exact h1
  | succ i=>exact b i d' x' (by simpa using e1) (by simpa using e2)
theorem DVs.take {K:PySem.W.Frag} {H:Hp} {ds:List Dt} {xs:List V} (h:DVs K H ds xs) (n:Nat):DVs K H (ds.take n) (xs.take n):=by
 obtain ⟨a,b⟩:=Zic h
 refine Zgi _ _ (by rw [List.length_take,List.length_take,a]) fun i d x h1 h2=>?_
 rw [List.getElem?_take] at h1 h2
 split at h1
 .rename_i hi
  rw [if_pos hi] at h2
  exact b i d x h1 h2
 .cases h1
theorem DVs.snoc {K:PySem.W.Frag} {H:Hp} {ds:List Dt} {xs:List V} {d:Dt} {x:V} (h:DVs K H ds xs) (h1:DV K H d x):DVs K H (ds++[d]) (xs++[x]):=by
 obtain ⟨a,b⟩:=Zic h
 refine Zgi _ _ (by rw [List.length_append,List.length_append,a];rfl) fun i d' x' e1 e2=>?_
 by_cases hi:i<ds.length
 .rw [List.getElem?_append_left hi] at e1
  rw [List.getElem?_append_left (by rw [<- a];exact hi)] at e2
  exact b i d' x' e1 e2
 .rw [List.getElem?_append_right (by omega)] at e1
  rw [List.getElem?_append_right (by omega),<- a] at e2
  generalize i-ds.length=n at e1 e2
  (revert n e1 e2;refine keepIt ?_;intro n e1 e2)
  cases n with
  | zero=>cases e1;cases e2;exact h1
  | succ n=>simp at e1
def TupsAt (H:Hp) (ds:List Dd) (ts:List Addr):Prop:=ds.length=ts.length/\∀ (n:Nat) (d:Dd) (t:Addr),ds[n]?=some d->ts[n]?=some t->H t=some (.tup (tellV d))
theorem TupsAt.nil {H:Hp}:TupsAt H [] []:=⟨rfl,fun n d t h=>by simp at h⟩
theorem TupsAt.mono {H H':Hp} {ds:List Dd} {ts:List Addr} (h:TupsAt H ds ts) (k:∀ b xs,H b=some (.tup xs)->H' b=some (.tup xs)):TupsAt H' ds ts:=⟨h.1,fun n d t h1 h2=>k _ _ (h.2 n d t h1 h2)⟩
theorem TupsAt.snoc {H:Hp} {ds:List Dd} {ts:List Addr} {d:Dd} {t:Addr} (h:TupsAt H ds ts) (h1:H t=some (.tup (tellV d))):TupsAt H (ds++[d]) (ts++[t]):=by
 first|refine Zaj fun zQ zq=>⟨by rw [List.length_append,List.length_append,h.1];rfl,fun n d' t' e1 e2=>zq _ _ ?_⟩|refine ⟨by rw [List.length_append,List.length_append,h.1];rfl,fun n d' t' e1 e2=>?_⟩
 by_cases hi:n<ds.length
 .rw [List.getElem?_append_left hi] at e1
  rw [List.getElem?_append_left (by rw [<- h.1];exact hi)] at e2
  exact h.2 n d' t' e1 e2
 .rw [List.getElem?_append_right (by omega)] at e1
  rw [List.getElem?_append_right (by have:=h.1;omega),<- h.1] at e2
  generalize n-ds.length=n at e1 e2
  (revert n e1 e2;refine keepIt ?_;intro n e1 e2)
  cases n with
  | zero=>cases e1;cases e2;exact h1
  | succ n=>simp at e1
theorem TupsAt.take {H:Hp} {ds:List Dd} {ts:List Addr} (h:TupsAt H ds ts) (n:Nat):TupsAt H (ds.take n) (ts.take n):=by
 refine ⟨by rw [List.length_take,List.length_take,h.1],fun i d t e1 e2=>?_⟩
 rw [List.getElem?_take] at e1 e2
 split at e1
 .rename_i hi
  rw [if_pos hi] at e2
  exact h.2 i d t e1 e2
 .cases e1
theorem TupsAt.dv {K:PySem.W.Frag} {H:Hp} {ds:List Dd} {ts:List Addr} {q:Addr} (h:TupsAt H ds ts) (hq:H q=some (.lst (ts.map V.ref))):DV K H (.lst (ds.map tellD)) (.ref q):=by
 refine dv_lst (Zal hq) (Zgi _ _ (by rw [List.length_map,List.length_map,h.1]) fun i d x e1 e2=>?_)
 rw [List.getElem?_map] at e1 e2
 obtain ⟨d',h1,rfl⟩:=Option.map_eq_some_iff.mp e1
 obtain ⟨t,h2,rfl⟩:=Option.map_eq_some_iff.mp e2
 exact ZhL (ZbY (h.2 i d' t h1 h2)) (Zju d')
theorem Zgj (ds:List Dd):(Dt.lst (ds.map tellD)).dep<=64:=by
 have h:∀ ds:List Dd,Dt.deps (ds.map tellD)<=1:=fun ds=>by
  induction ds with
  | nil=>simp [Dt.deps]
  | cons d ds ih=>cases d<;>simp [Dt.deps,Dt.dep,tellD,tellDs]<;>omega
 have:=h ds
 simp only [Dt.dep]
 omega
def spTold (CD:Addr) (ok:Dd->Prop):Sp:=fun vs H Q _=>∃ (a dx:Addr) (d:Dd),vs=[.ref a]/\ok d/\H a=some (.ins CD dx (fldD d))/\∀ t,H t=none->Q (.ref t) (upd H t (.tup (tellV d)))
def TTo (cS cM cN:Addr):Addr->Sp->Prop:=T3 cS cM cN (spTold cS isSave) (spTold cM isMove) (spTold cN isNote)
theorem ZjT (cS cM cN:Addr) (d:Dd):TTo cS cM cN (clsD cS cM cN d) (spTold (clsD cS cM cN d) (okOf d)):=by
 cases d with
 | save=>exact .inl ⟨rfl,rfl⟩
 | move=>exact .inr (.inl ⟨rfl,rfl⟩)
 | note=>exact .inr (.inr ⟨rfl,rfl⟩)
theorem Zgk (d:Dd):(fldD d).lookup (Str.ofString "told")=none:=by cases d<;>rfl
def Zfy (cJ cS cM cN:Addr):Sp:=fun vs H Q _=>∃ (j dx R L:Addr) (A:Nat->Option AcI) (es:List DI),vs=[.ref j]/\Jr cJ cS cM cN H j dx R L A es/\es.length<=1000 /\
 ∀ q ts H',Same H H'->H q=none->H' q=some (.lst (ts.map V.ref))->TupsAt H' (es.map (·.d)) ts->Q (.ref q) H'
noncomputable def worthD:Dd->Int
 | .save _ _ o n=>if o≠0/\n=0 then 4 else 0
 | _=>0
noncomputable def touchD:Dd->List Int
 | .save s _ _ _=>[s]
 | .move s t _=>if s=t then [s] else [if t<s then t else s,if t>s then t else s]
 | .note _ _=>[]
def near:Dd->Prop
 | .move s t _=>0<=s/\s<16/\0<=t/\t<16
 | _=>True
def ZbA (CD:Addr) (ok:Dd->Prop):Sp:=fun vs H Q _=>∃ (a dx:Addr) (d:Dd),vs=[.ref a]/\ok d/\H a=some (.ins CD dx (fldD d))/\Q (.int (worthD d)) H
def ZbB (CD:Addr) (ok:Dd->Prop):Sp:=fun vs H Q _=>∃ (a dx:Addr) (d:Dd),vs=[.ref a]/\ok d/\H a=some (.ins CD dx (fldD d))/\near d/\∀ l H',Same H H'->H l=none->H' l=some (.lst ((touchD d).map V.int))->Q (.ref l) H'
def TWo (cS cM cN:Addr):Addr->Sp->Prop:=T3 cS cM cN (ZbA cS isSave) (ZbA cM isMove) (ZbA cN isNote)
def TTu (cS cM cN:Addr):Addr->Sp->Prop:=T3 cS cM cN (ZbB cS isSave) (ZbB cM isMove) (ZbB cN isNote)
theorem ZjU (cS cM cN:Addr) (d:Dd):TWo cS cM cN (clsD cS cM cN d) (ZbA (clsD cS cM cN d) (okOf d)):=by
 cases d with
 | save=>exact .inl ⟨rfl,rfl⟩
 | move=>exact .inr (.inl ⟨rfl,rfl⟩)
 | note=>exact .inr (.inr ⟨rfl,rfl⟩)
theorem ZjV (cS cM cN:Addr) (d:Dd):TTu cS cM cN (clsD cS cM cN d) (ZbB (clsD cS cM cN d) (okOf d)):=by
 cases d with
 | save=>exact .inl ⟨rfl,rfl⟩
 | move=>exact .inr (.inl ⟨rfl,rfl⟩)
 | note=>exact .inr (.inr ⟨rfl,rfl⟩)
theorem Ze2 (d:Dd):(fldD d).lookup (Str.ofString "worth")=none:=by cases d<;>rfl
theorem Ze3 (d:Dd):(fldD d).lookup (Str.ofString "touched")=none:=by cases d<;>rfl
theorem Zjv {s t k:Int} {ms:List Int} (h:ms.Pairwise (·<·)) (hm:∀ n,n∈ms ↔ n=s\/n=t):ms=touchD (.move s t k):=by
 show ms=if s=t then [s] else [if t<s then t else s,if t>s then t else s]
 by_cases e:s=t
 .rw [if_pos e]
  refine ZbO h (List.pairwise_singleton _ _) fun n=>(hm n).trans ?_
  rw [List.mem_singleton]
  omega
 .rw [if_neg e]
  by_cases h1:t<s
  .rw [if_pos h1,if_neg (by omega)]
   refine ZbO h (by simp [h1]) fun n=>(hm n).trans ?_
   simp
   omega
  .rw [if_neg h1,if_pos (by omega)]
   refine ZbO h (by simp;omega) fun n=>(hm n).trans ?_
   simp
theorem Zcc {d:Dd} (h:near d) (h2:∀ s p o n,d=.save s p o n->0<=s/\s<16):∀ k∈touchD d,0<=k/\k<16:=fun k hk=>by
 cases d with
 | save s p o n=>rw [List.mem_singleton.mp hk];exact h2 s p o n rfl
 | move s t m =>
  have hk:k∈(if s=t then [s] else [if t<s then t else s,if t>s then t else s]):=hk
  obtain ⟨a,b,c,d⟩:=h
  split at hk
  .rw [List.mem_singleton.mp hk];exact ⟨a,b⟩
  .rcases List.mem_cons.mp hk with rfl|hk
   .split<;>exact ⟨by assumption,by assumption⟩
   .rw [List.mem_singleton.mp hk]
    split<;>exact ⟨by assumption,by assumption⟩
 | note s n=>cases hk
theorem Ze4 (d:Dd):(touchD d).length<=2:=by
 cases d with
 | save=>exact Nat.le_succ 1
 | move s t m=>show (if s=t then [s] else [if t<s then t else s,if t>s then t else s]).length<=2;split<;>exact Nat.le_of_ble_eq_true rfl
 | note=>exact Nat.zero_le _
def Zek (ds:List Dd):Prop:=∀ d∈ds,near d/\∀ s p o n,d=.save s p o n->0<=s/\s<16
def Zel (cJ cS cM cN:Addr):Sp:=fun vs H Q _=>∃ (j dx R L:Addr) (A:Nat->Option AcI) (es:List DI),vs=[.ref j]/\Jr cJ cS cM cN H j dx R L A es/\es.length<=1000/\Zek (es.map fun e=>e.d)/\∀ (q:Addr) (ms:List Int) (H':Hp),Same H H'->H q=none->H' q=some (.lst (ms.map V.int))->ms.Pairwise (·<·)->(∀ n,n∈ms ↔ n∈(es.map fun e=>e.d).flatMap touchD)->Q (.ref q) H'
def Zgl (cJ cS cM cN:Addr):Sp:=fun vs H Q _=>∃ (j dx R L:Addr) (A:Nat->Option AcI) (es:List DI),vs=[.ref j]/\Jr cJ cS cM cN H j dx R L A es/\es.length<=1000/\∀ H',Same H H'->Q (.int ((es.map fun e=>worthD e.d).sum)) H'
section
variable {P:Program} {w:World} {K:PySem.W.Frag} {mg:Str->Option Value} {base:Heap}
theorem Ze5:FnScope ["self"] ["self"] (Zad Zch):=by walk_at "c"
theorem Ze6   {cSave:Addr} (D:Zan K cSave "told" "Save.told" Zch) (tSave:T_Save K mg cSave):MCal P w K mg base 1 cSave "told" (spTold cSave isSave):=by
 refine Zaz D tSave.k.cl Ze5 (fun vs H Q E h=>?_) (by walk_at "b") (fun f cdv A outer s H vs Q E hr h=>?_)
 .obtain ⟨a,dx,d,rfl,_⟩:=h;rfl
 .obtain ⟨a,dx,d,rfl,⟨s0,p,o,n,rfl⟩,ha,k⟩:=h
  first|refine Zaj fun zQ zq=>⟨_,(Zae (Zao (Zbh (Zaa Zbb (Zaa (Zak (pv 0) rfl) (Zaa (Zak (pv 0) rfl) (Zaa (Zak (pv 0) rfl) (Zaa (Zak (pv 0) rfl) Zag)))))))),zq _ _ ?_⟩|refine ⟨_,(Zae (Zao (Zbh (Zaa Zbb (Zaa (Zak (pv 0) rfl) (Zaa (Zak (pv 0) rfl) (Zaa (Zak (pv 0) rfl) (Zaa (Zak (pv 0) rfl) Zag)))))))),?_⟩
  walk_at "nx"
  walk_at "K"
  refine Zam ha tSave.k.cl tSave.n_slot rfl ?_
  walk_at "K"
  refine Zam ha tSave.k.cl tSave.n_place rfl ?_
  walk_at "K"
  refine Zam ha tSave.k.cl tSave.n_old rfl ?_
  walk_at "K"
  refine Zam ha tSave.k.cl tSave.n_new rfl ?_
  walk_at "K"
  refine ⟨show 5<=sizeLine by decide,fun t ht=>?_⟩
  exact k t ht
theorem Ze7:FnScope ["self"] ["self"] (Zad Zcj):=by walk_at "c"
theorem Ze8   {cMove:Addr} (D:Zan K cMove "told" "Move.told" Zcj) (tMove:T_Move K mg cMove):MCal P w K mg base 1 cMove "told" (spTold cMove isMove):=by
 refine Zaz D tMove.k.cl Ze7 (fun vs H Q E h=>?_) (by walk_at "b") (fun f cdv A outer s H vs Q E hr h=>?_)
 .obtain ⟨a,dx,d,rfl,_⟩:=h;rfl
 .obtain ⟨a,dx,d,rfl,⟨s0,t0,kk,rfl⟩,ha,k⟩:=h
  first|refine Zaj fun zQ zq=>⟨_,(Zae (Zao (Zbh (Zaa Zbb (Zaa (Zak (pv 0) rfl) (Zaa (Zak (pv 0) rfl) (Zaa (Zak (pv 0) rfl) Zag))))))),zq _ _ ?_⟩|refine ⟨_,(Zae (Zao (Zbh (Zaa Zbb (Zaa (Zak (pv 0) rfl) (Zaa (Zak (pv 0) rfl) (Zaa (Zak (pv 0) rfl) Zag))))))),?_⟩
  walk_at "nx"
  walk_at "K"
  refine Zam ha tMove.k.cl tMove.n_slot rfl ?_
  walk_at "K"
  refine Zam ha tMove.k.cl tMove.n_taker rfl ?_
  walk_at "K"
  refine Zam ha tMove.k.cl tMove.n_many rfl ?_
  walk_at "K"
  refine ⟨show 4<=sizeLine by decide,fun t ht=>?_⟩
  exact k t ht
theorem Ze9:FnScope ["self"] ["self"] (Zad Zck):=by walk_at "c"
theorem Zfa   {cNote:Addr} (D:Zan K cNote "told" "Note.told" Zck) (tNote:T_Note K mg cNote):MCal P w K mg base 1 cNote "told" (spTold cNote isNote):=by
 refine Zaz D tNote.k.cl Ze9 (fun vs H Q E h=>?_) (by walk_at "b") (fun f cdv A outer s H vs Q E hr h=>?_)
 .obtain ⟨a,dx,d,rfl,_⟩:=h;rfl
 .obtain ⟨a,dx,d,rfl,⟨s0,n,rfl⟩,ha,k⟩:=h
  first|refine Zaj fun zQ zq=>⟨_,(Zae (Zao (Zbh (Zaa Zbb (Zaa (Zak (pv 0) rfl) (Zaa (Zak (pv 0) rfl) Zag)))))),zq _ _ ?_⟩|refine ⟨_,(Zae (Zao (Zbh (Zaa Zbb (Zaa (Zak (pv 0) rfl) (Zaa (Zak (pv 0) rfl) Zag)))))),?_⟩
  walk_at "nx"
  walk_at "K"
  refine Zam ha tNote.k.cl tNote.n_slot rfl ?_
  walk_at "K"
  refine Zam ha tNote.k.cl tNote.n_number rfl ?_
  walk_at "K"
  refine ⟨show 3<=sizeLine by decide,fun t ht=>?_⟩
  exact k t ht
theorem ZdB:FnScope ["self"] ["self"] (Zad ZaT):=by walk_at "c"
theorem ZdC   {cJournal:Addr} {cSave:Addr} {cMove:Addr} {cNote:Addr} (D:Zan K cJournal "told" "Journal.told" ZaT) (tJournal:T_Journal K mg cJournal) (tSave:T_Save K mg cSave) (tMove:T_Move K mg cMove) (tNote:T_Note K mg cNote) (m_Save_told:MCal P w K mg base 1 cSave "told" (spTold cSave isSave)) (m_Move_told:MCal P w K mg base 1 cMove "told" (spTold cMove isMove)) (m_Note_told:MCal P w K mg base 1 cNote "told" (spTold cNote isNote)):MCal P w K mg base 2 cJournal "told" (Zfy cJournal cSave cMove cNote):=by
 refine Zaz D tJournal.k.cl ZdB (fun vs H Q E h=>?_) (by walk_at "b") (fun f cdv A outer s H vs Q E hr h=>?_)
 .obtain ⟨j,dx,R,L,A,es,rfl,_⟩:=h;rfl
 .obtain ⟨j,dx,R,L,Ar,es,rfl,J,hel,k⟩:=h
  first|refine Zaj fun zQ zq=>⟨_,(Zae (Zao (ZbX ["deed"] rfl (show CompScope (Zad ZaT) ["self"] ["deed"] _ from ⟨rfl,by decide +kernel,by decide +kernel,by decide +kernel,by decide +kernel,by decide +kernel⟩) (ZaR (Zak (pv 0) rfl)) (fun _ _ _ _ _=>(Zat (i:=0) (show (["deed", "self"]:List Str).Nodup by decide +kernel) rfl (Or.inl rfl) (.inr rfl))) (fun _ _ _ _ _=>Zdf) (fun _ _ _ _ _=>(Zb0 (T:=TTo cSave cMove cNote) (Zfx m_Save_told m_Move_told m_Note_told) (hr.mono (by decide)) (pv 0)))))),zq _ _ ?_⟩|refine ⟨_,(Zae (Zao (ZbX ["deed"] rfl (show CompScope (Zad ZaT) ["self"] ["deed"] _ from ⟨rfl,by decide +kernel,by decide +kernel,by decide +kernel,by decide +kernel,by decide +kernel⟩) (ZaR (Zak (pv 0) rfl)) (fun _ _ _ _ _=>(Zat (i:=0) (show (["deed", "self"]:List Str).Nodup by decide +kernel) rfl (Or.inl rfl) (.inr rfl))) (fun _ _ _ _ _=>Zdf) (fun _ _ _ _ _=>(Zb0 (T:=TTo cSave cMove cNote) (Zfx m_Save_told m_Move_told m_Note_told) (hr.mono (by decide)) (pv 0)))))),?_⟩
  walk_at "nx"
  have big:(1001:Nat)<=sizeLine:=by decide
  walk_at "K"
  refine Zd9 (ZaP ?_)
  walk_at "K"
  refine Zam J.ob tJournal.k.cl tJournal.n_deeds rfl ?_
  first|refine Zaj fun zQ zq=>⟨L,rfl,⟨_,Zal J.li⟩,fun q hq=>zq _ _ ?_⟩|refine ⟨L,rfl,⟨_,Zal J.li⟩,fun q hq=>?_⟩
  refine Zdm (fun i H'=>Same H H'/\∃ ts,H' q=some (.lst (ts.map V.ref))/\TupsAt H' ((es.take i).map (·.d)) ts) ⟨Same.new hq,[],Zab,TupsAt.nil⟩ (fun i H' ⟨s,_⟩=>Zal (s _ _ J.li)) ?_ ?_
  .rintro i x H' hx ⟨s1,ts,hts,T⟩
   rw [List.getElem?_map] at hx
   obtain ⟨e,he,rfl⟩:=Option.map_eq_some_iff.mp hx
   obtain ⟨hi,ei⟩:=List.getElem?_eq_some_iff.mp he
   have de:=s1 _ _ (J.de e (List.mem_of_getElem? he)).1
   refine ZhN ?_
   refine iteT ?_
   refine Zcy ?_
   walk_at "K"
   first|refine Zaj fun zQ zq=>⟨e.o,clsD cSave cMove cNote e.d,e.dx,fldD e.d,_,rfl,de,Zgk e.d,ZjT cSave cMove cNote e.d,zq _ _ ?_⟩|refine ⟨e.o,clsD cSave cMove cNote e.d,e.dx,fldD e.d,_,rfl,de,Zgk e.d,ZjT cSave cMove cNote e.d,?_⟩
   walk_at "K"
   first|refine Zaj fun zQ zq=>⟨e.o,e.dx,e.d,rfl,ZaU e.d,de,fun t ht=>zq _ _ ?_⟩|refine ⟨e.o,e.dx,e.d,rfl,ZaU e.d,de,fun t ht=>?_⟩
   have hl:ts.length<=1000:=by
    rw [<- T.1,List.length_map,List.length_take]
    omega
   have hq2:=(Same.new ht (o:=.tup (tellV e.d))) _ _ hts
   refine ⟨_,hq2,by rw [List.length_map];omega,⟨(s1.newT ht).wr hq,ts++[t],by rw [Zab,List.map_append];rfl,?_⟩,_,rfl⟩
   have im:∀ b xs,H' b=some (.tup xs)->(upd (upd H' t (.tup (tellV e.d))) q (.lst (ts.map V.ref++[.ref t]))) b=some (.tup xs):=fun b xs h=>by
    rw [Zaf (ZaF h hts (by intro z;cases z))]
    exact (Same.new ht) _ _ h
   have ht2:(upd (upd H' t (.tup (tellV e.d))) q (.lst (ts.map V.ref++[.ref t]))) t=some (.tup (tellV e.d)):=by
    rw [Zaf (fun z=>by rw [z] at ht;rw [ht] at hts;cases hts)];exact Zab
   rw [List.take_succ_eq_append_getElem hi,ei,List.map_append]
   exact (T.mono im).snoc ht2
  .rintro H' ⟨s1,ts,hts,T⟩
   rw [List.length_map,List.take_length] at T
   walk_at "K"
   exact k q ts H' s1 hq hts T
theorem Zem:FnScope ["self"] ["self"] (Zad Zb2):=by walk_at "c"
theorem Zen   {cSave:Addr} (D:Zan K cSave "worth" "Save.worth" Zb2) (tSave:T_Save K mg cSave) (g_FREED:ZfT mg "FREED" (.int 4)):MCal P w K mg base 1 cSave "worth" (ZbA cSave isSave):=by
 refine Zaz D tSave.k.cl Zem (fun vs H Q E h=>?_) (by walk_at "b") (fun f cdv A outer s H vs Q E hr h=>?_)
 .obtain ⟨a,dx,d,rfl,_⟩:=h;rfl
 .obtain ⟨a,dx,d,rfl,⟨s0,p,o,n,rfl⟩,ha,k⟩:=h
  refine ⟨_,(Zac (Zbe (PW.pt (Zcr (Zaq Zhg (Zak (pv 0) rfl) Zah (nomark _)) (Zce (Zaq Zbq (Zak (pv 0) rfl) Zah (nomark _))))) (Zae (Zao (pe_glA rfl g_FREED))) ZaD)
   (Zae (Zao Zah))),?_⟩
  walk_at "nx"
  have k:Q (.int (if o≠0/\n=0 then 4 else 0)) H:=k
  walk_at "K"
  refine Zam ha tSave.k.cl tSave.n_old rfl ?_
  walk_at "K"
  .rename_i ho
   refine Zam ha tSave.k.cl tSave.n_new rfl ?_
   walk_at "K'"
   .rename_i hn
    rw [if_pos ⟨ho,hn⟩] at k
    exact k
   .rename_i hn
    rw [if_neg (fun z=>hn z.2)] at k
    exact k
  .rename_i ho
   walk_at "K"
   rw [if_neg (fun z=>z.1 ho)] at k
   exact k
theorem Zeo:FnScope ["self"] ["self"] (Zad Zb4):=by walk_at "c"
theorem Zep   {cMove:Addr} (D:Zan K cMove "worth" "Deed.worth" Zb4) (tMove:T_Move K mg cMove):MCal P w K mg base 1 cMove "worth" (ZbA cMove isMove):=by
 refine Zaz D tMove.k.cl Zeo (fun vs H Q E h=>?_) (by walk_at "b") (fun f cdv A outer s H vs Q E hr h=>?_)
 .obtain ⟨a,dx,d,rfl,_⟩:=h;rfl
 .obtain ⟨a,dx,d,rfl,ok,ha,k⟩:=h
  refine ⟨_,(Zae (Zao Zah)),?_⟩
  walk_at "nx"
  walk_at "K"
  obtain ⟨_,_,_,rfl⟩:=ok
  exact k
theorem Zeq:FnScope ["self"] ["self"] (Zad Zb3):=by walk_at "c"
theorem Zer   {cNote:Addr} (D:Zan K cNote "worth" "Deed.worth" Zb3) (tNote:T_Note K mg cNote):MCal P w K mg base 1 cNote "worth" (ZbA cNote isNote):=by
 refine Zaz D tNote.k.cl Zeq (fun vs H Q E h=>?_) (by walk_at "b") (fun f cdv A outer s H vs Q E hr h=>?_)
 .obtain ⟨a,dx,d,rfl,_⟩:=h;rfl
 .obtain ⟨a,dx,d,rfl,ok,ha,k⟩:=h
  refine ⟨_,(Zae (Zao Zah)),?_⟩
  walk_at "nx"
  walk_at "K"
  obtain ⟨_,_,rfl⟩:=ok
  exact k
theorem ZdD:FnScope ["self"] ["self"] (Zad Zbx):=by walk_at "c"
theorem ZdE   {cSave:Addr} (D:Zan K cSave "touched" "Save.touched" Zbx) (tSave:T_Save K mg cSave):MCal P w K mg base 1 cSave "touched" (ZbB cSave isSave):=by
 refine Zaz D tSave.k.cl ZdD (fun vs H Q E h=>?_) (by walk_at "b") (fun f cdv A outer s H vs Q E hr h=>?_)
 .obtain ⟨a,dx,d,rfl,_⟩:=h;rfl
 .obtain ⟨a,dx,d,rfl,⟨s0,p,o,n,rfl⟩,ha,_,k⟩:=h
  first|refine Zaj fun zQ zq=>⟨_,(Zae (Zao (Zbc (Zaa (Zak (pv 0) rfl) Zag)))),zq _ _ ?_⟩|refine ⟨_,(Zae (Zao (Zbc (Zaa (Zak (pv 0) rfl) Zag)))),?_⟩
  walk_at "nx"
  walk_at "K"
  refine Zam ha tSave.k.cl tSave.n_slot rfl ?_
  walk_at "K"
  refine ⟨show 1<=sizeLine by decide,fun l hl=>?_⟩
  walk_at "K"
  exact k l _ (Same.new hl) hl Zab
theorem ZdF:FnScope ["self"] ["self"] (Zad Zby):=by walk_at "c"
theorem ZdG   {cMove:Addr} (D:Zan K cMove "touched" "Move.touched" Zby) (tMove:T_Move K mg cMove) (n_sorted:mg "sorted" = none) (n_set:mg "set" = none):MCal P w K mg base 1 cMove "touched" (ZbB cMove isMove):=by
 refine Zaz D tMove.k.cl ZdF (fun vs H Q E h=>?_) (by walk_at "b") (fun f cdv A outer s H vs Q E hr h=>?_)
 .obtain ⟨a,dx,d,rfl,_⟩:=h;rfl
 .obtain ⟨a,dx,d,rfl,⟨s0,t0,kk,rfl⟩,ha,⟨s1,s2,t1,t2⟩,k⟩:=h
  first|refine Zaj fun zQ zq=>⟨_,(Zae (Zao (Zap (Zf3 rfl) rfl n_sorted PyProof.Rows.boot_sorted (Zaa (ZbF (ZjO rfl) rfl n_set PyProof.Rows.boot_set (Zaa (Zbc (Zaa (Zak (pv 0) rfl) (Zaa (Zak (pv 0) rfl) Zag))) Zag)) Zag)))),zq _ _ ?_⟩|refine ⟨_,(Zae (Zao (Zap (Zf3 rfl) rfl n_sorted PyProof.Rows.boot_sorted (Zaa (ZbF (ZjO rfl) rfl n_set PyProof.Rows.boot_set (Zaa (Zbc (Zaa (Zak (pv 0) rfl) (Zaa (Zak (pv 0) rfl) Zag))) Zag)) Zag)))),?_⟩
  walk_at "nx"
  walk_at "K"
  refine Zam ha tMove.k.cl tMove.n_slot rfl ?_
  walk_at "K"
  refine Zam ha tMove.k.cl tMove.n_taker rfl ?_
  walk_at "K"
  refine ⟨show 2<=sizeLine by decide,fun l hl=>?_⟩
  have sa:=Same.new hl (o:=.lst [.int s0,.int t0])
  walk_at "K"
  refine ZkN (Zal Zab) s1 s2 t1 t2 fun z hz=>?_
  walk_at "K"
  refine Zi7 Zab fun ms h1 h2 q hq=>?_
  walk_at "K"
  have sb:=(sa.newT hz).newT hq (o:=.lst (ms.map V.int))
  refine k q _ sb ((sa.newT hz).fresh hq) ?_
  rw [Zab,Zjv h1 h2]
theorem ZdH:FnScope ["self"] ["self"] (Zad Zbz):=by walk_at "c"
theorem ZdI   {cNote:Addr} (D:Zan K cNote "touched" "Deed.touched" Zbz) (tNote:T_Note K mg cNote):MCal P w K mg base 1 cNote "touched" (ZbB cNote isNote):=by
 refine Zaz D tNote.k.cl ZdH (fun vs H Q E h=>?_) (by walk_at "b") (fun f cdv A outer s H vs Q E hr h=>?_)
 .obtain ⟨a,dx,d,rfl,_⟩:=h;rfl
 .obtain ⟨a,dx,d,rfl,⟨s0,n,rfl⟩,ha,_,k⟩:=h
  refine ⟨_,(Zae (Zao (Zbc Zag))),?_⟩
  walk_at "nx"
  walk_at "K"
  refine ⟨by decide,fun l hl=>?_⟩
  walk_at "K"
  exact k l _ (Same.new hl) hl Zab
theorem ZcW:FnScope ["self"] ["self"] (Zad ZaO):=by walk_at "c"
theorem ZcX   {cJournal:Addr} {cSave:Addr} {cMove:Addr} {cNote:Addr} (D:Zan K cJournal "worth" "Journal.worth" ZaO) (tJournal:T_Journal K mg cJournal) (tSave:T_Save K mg cSave) (tMove:T_Move K mg cMove) (tNote:T_Note K mg cNote) (m_Save_worth:MCal P w K mg base 1 cSave "worth" (ZbA cSave isSave)) (m_Move_worth:MCal P w K mg base 1 cMove "worth" (ZbA cMove isMove)) (m_Note_worth:MCal P w K mg base 1 cNote "worth" (ZbA cNote isNote)) (n_sum:mg "sum" = none):MCal P w K mg base 2 cJournal "worth" (Zgl cJournal cSave cMove cNote):=by
 refine Zaz D tJournal.k.cl ZcW (fun vs H Q E h=>?_) (by walk_at "b") (fun f cdv A outer s H vs Q E hr h=>?_)
 .obtain ⟨j,dx,R,L,A,es,rfl,_⟩:=h;rfl
 .obtain ⟨j,dx,R,L,Ar,es,rfl,J,hel,k⟩:=h
  first|refine Zaj fun zQ zq=>⟨_,(Zae (Zao (Zap (ZjN rfl) rfl n_sum PyProof.Rows.boot_sum (Zaa (ZbX ["deed"] rfl (show CompScope (Zad ZaO) ["self"] ["deed"] _ from ⟨rfl,by decide +kernel,by decide +kernel,by decide +kernel,by decide +kernel,by decide +kernel⟩) (ZaR (Zak (pv 0) rfl)) (fun _ _ _ _ _=>(Zat (i:=0) (show (["deed", "self"]:List Str).Nodup by decide +kernel) rfl (Or.inl rfl) (.inr rfl))) (fun _ _ _ _ _=>Zdf) (fun _ _ _ _ _=>(Zb0 (T:=TWo cSave cMove cNote) (Zfx m_Save_worth m_Move_worth m_Note_worth) (hr.mono (by decide)) (pv 0)))) Zag)))),zq _ _ ?_⟩|refine ⟨_,(Zae (Zao (Zap (ZjN rfl) rfl n_sum PyProof.Rows.boot_sum (Zaa (ZbX ["deed"] rfl (show CompScope (Zad ZaO) ["self"] ["deed"] _ from ⟨rfl,by decide +kernel,by decide +kernel,by decide +kernel,by decide +kernel,by decide +kernel⟩) (ZaR (Zak (pv 0) rfl)) (fun _ _ _ _ _=>(Zat (i:=0) (show (["deed", "self"]:List Str).Nodup by decide +kernel) rfl (Or.inl rfl) (.inr rfl))) (fun _ _ _ _ _=>Zdf) (fun _ _ _ _ _=>(Zb0 (T:=TWo cSave cMove cNote) (Zfx m_Save_worth m_Move_worth m_Note_worth) (hr.mono (by decide)) (pv 0)))) Zag)))),?_⟩
  walk_at "nx"
  have big:(1001:Nat)<=sizeLine:=by decide
  walk_at "K"
  refine Zd9 (ZaP ?_)
  walk_at "K"
  refine Zam J.ob tJournal.k.cl tJournal.n_deeds rfl ?_
  first|refine Zaj fun zQ zq=>⟨L,rfl,⟨_,Zal J.li⟩,fun q hq=>zq _ _ ?_⟩|refine ⟨L,rfl,⟨_,Zal J.li⟩,fun q hq=>?_⟩
  refine Zdm (fun i H'=>Same H H'/\H' q=some (.lst (((es.take i).map fun e=>worthD e.d).map V.int))) ⟨Same.new hq,Zab⟩ (fun i H' ⟨s,_⟩=>Zal (s _ _ J.li)) ?_ ?_
  .rintro i x H' hx ⟨s1,hts⟩
   rw [List.getElem?_map] at hx
   obtain ⟨e,he,rfl⟩:=Option.map_eq_some_iff.mp hx
   obtain ⟨hi,ei⟩:=List.getElem?_eq_some_iff.mp he
   have de:=s1 _ _ (J.de e (List.mem_of_getElem? he)).1
   refine ZhN ?_
   refine iteT ?_
   refine Zcy ?_
   walk_at "K"
   first|refine Zaj fun zQ zq=>⟨e.o,clsD cSave cMove cNote e.d,e.dx,fldD e.d,_,rfl,de,Ze2 e.d,ZjU cSave cMove cNote e.d,zq _ _ ?_⟩|refine ⟨e.o,clsD cSave cMove cNote e.d,e.dx,fldD e.d,_,rfl,de,Ze2 e.d,ZjU cSave cMove cNote e.d,?_⟩
   walk_at "K"
   first|refine Zaj fun zQ zq=>⟨e.o,e.dx,e.d,rfl,ZaU e.d,de,zq _ _ ?_⟩|refine ⟨e.o,e.dx,e.d,rfl,ZaU e.d,de,?_⟩
   refine ⟨_,hts,by rw [List.length_map,List.length_map,List.length_take];omega,⟨s1.wr hq,?_⟩,_,rfl⟩
   rw [Zab,List.take_succ_eq_append_getElem hi,ei,List.map_append,List.map_append]
   rfl
  .rintro H' ⟨s1,hts⟩
   rw [List.length_map,List.take_length] at hts
   walk_at "K"
   exact k H' s1
theorem Za4:FnScope ["self", "slots", "deed"] ["self"] (Zad Za6):=by walk_at "c"
theorem ZcA   {cJournal:Addr} {cSave:Addr} {cMove:Addr} {cNote:Addr} (D:Zan K cJournal "touched" "Journal.touched" Za6) (tJournal:T_Journal K mg cJournal) (tSave:T_Save K mg cSave) (tMove:T_Move K mg cMove) (tNote:T_Note K mg cNote) (m_Save_touched:MCal P w K mg base 1 cSave "touched" (ZbB cSave isSave)) (m_Move_touched:MCal P w K mg base 1 cMove "touched" (ZbB cMove isMove)) (m_Note_touched:MCal P w K mg base 1 cNote "touched" (ZbB cNote isNote)) (n_sorted:mg "sorted" = none) (n_set:mg "set" = none):MCal P w K mg base 2 cJournal "touched" (Zel cJournal cSave cMove cNote):=by
 refine Zaz D tJournal.k.cl Za4 (fun vs H Q E h=>?_) (by walk_at "b") (fun f cdv A outer s H vs Q E hr h=>?_)
 .obtain ⟨j,dx,R,L,A,es,rfl,_⟩:=h;rfl
 .obtain ⟨j,dx,R,L,Ar,es,rfl,J,hel,hnr,k⟩:=h
  refine ⟨_,(Zac (Zaw (i:=1) Za4.nd rfl (by first|exact Or.inl rfl|exact Or.inr rfl) (Zbc Zag))
   (Zac (ZbD PassesOwn.never rfl (ZaR (Zak (pv 0) rfl)) (Zat (i:=2) Za4.nd rfl (by first|exact Or.inl rfl|exact Or.inr rfl))
   (Zae (Zay (Zd2 PySem.F.plainAttrs_list PySem.F.slot_list_extend PySem.F.type_list_extend Zdc (pv 1) (Zaa (Zb0 (T:=TTu cSave cMove cNote) (Zfx m_Save_touched m_Move_touched m_Note_touched) (hr.mono (by decide)) (pv 2)) Zag)))))
   (Zae (Zao (Zap (Zjl rfl) rfl n_sorted PyProof.Rows.boot_sorted (Zaa (ZbF (ZkS rfl) rfl n_set PyProof.Rows.boot_set (Zaa (pv 1) Zag)) Zag)))))),?_⟩
  walk_at "nx"
  walk_at "K"
  refine ⟨by decide,fun SL hSL=>?_⟩
  walk_at "K"
  have big:(2002:Nat)<=sizeLine:=by decide
  have s1:=Same.new hSL (o:=.lst [])
  have tl:∀ i,((es.take i).flatMap fun e=>touchD e.d).length<=2*i:=fun i=>by
   induction i with
   | zero=>simp
   | succ i ih =>
    by_cases hi:i<es.length
    .rw [List.take_succ_eq_append_getElem hi,List.flatMap_append,List.length_append]
     have:=Ze4 es[i].d
     simp only [List.flatMap_cons,List.flatMap_nil,List.append_nil]
     omega
    .rw [List.take_of_length_le (by omega)] at ih |-
     omega
  refine ZbG (ZaP ?_)
  walk_at "K"
  refine Zam (s1 _ _ J.ob) tJournal.k.cl tJournal.n_deeds rfl ?_
  refine ⟨L,rfl,⟨_,Zal (s1 _ _ J.li)⟩,Za9 (xs:=es.map fun e=>V.ref e.o) (fun i σ' H'=>Same H H'/\H' SL=some (.lst (((es.take i).flatMap fun e=>touchD e.d).map V.int))/\∃ v2,σ'=[some (.ref j),some (.ref SL),v2]) ⟨s1,Zab,_,rfl⟩ (fun i σ' H' _ ⟨e,_⟩=>Zal (e _ _ J.li)) ?_ ?_⟩
  .rintro i x σ' H' hx ⟨s2,hl2,v2,rfl⟩
   rw [List.getElem?_map] at hx
   obtain ⟨e,he,rfl⟩:=Option.map_eq_some_iff.mp hx
   obtain ⟨hi,ei⟩:=List.getElem?_eq_some_iff.mp he
   have de:=s2 _ _ (J.de e (List.mem_of_getElem? he)).1
   have hn:=hnr e.d (List.mem_map.mpr ⟨e,List.mem_of_getElem? he,rfl⟩)
   walk_at "K"
   refine ⟨ZbN (Zal hl2),?_⟩
   walk_at "K"
   refine Zcy ?_
   walk_at "K"
   first|refine Zaj fun zQ zq=>⟨e.o,clsD cSave cMove cNote e.d,e.dx,fldD e.d,_,rfl,de,Ze3 e.d,ZjV cSave cMove cNote e.d,zq _ _ ?_⟩|refine ⟨e.o,clsD cSave cMove cNote e.d,e.dx,fldD e.d,_,rfl,de,Ze3 e.d,ZjV cSave cMove cNote e.d,?_⟩
   walk_at "K"
   first|refine Zaj fun zQ zq=>⟨e.o,e.dx,e.d,rfl,ZaU e.d,de,hn.1,fun l H2 s3 hl hl3=>zq _ _ ?_⟩|refine ⟨e.o,e.dx,e.d,rfl,ZaU e.d,de,hn.1,fun l H2 s3 hl hl3=>?_⟩
   walk_at "K"
   have h1:=tl i
   have h2:=Ze4 e.d
   refine ZeT (s3 _ _ hl2) hl3 (by rw [List.length_map,List.length_map];omega) ?_
   refine ⟨(s2.trans s3).wr hSL,?_,_,rfl⟩
   rw [Zab,List.take_succ_eq_append_getElem hi,ei,List.flatMap_append,<- List.map_append]
   simp
  .rintro σ' H' ⟨s2,hl2,v2,rfl⟩
   rw [List.length_map,List.take_length] at hl2
   have hm:∀ n,n∈(es.flatMap fun e=>touchD e.d) ↔ n∈(es.map fun e=>e.d).flatMap touchD:=fun n=>by rw [List.flatMap_map]
   have hb:∀ k∈(es.flatMap fun e=>touchD e.d),0<=k/\k<16:=fun k hk=>by
    obtain ⟨e,he,hk⟩:=List.mem_flatMap.mp hk
    have hn:=hnr e.d (List.mem_map.mpr ⟨e,he,rfl⟩)
    exact Zcc hn.1 hn.2 k hk
   walk_at "K"
   refine ZkT (Zal hl2) hb fun z hz=>?_
   walk_at "K"
   refine Zjm Zab fun ms h1 h2 q hq=>?_
   walk_at "K"
   have s3:=(s2.newT hz).newT hq (o:=.lst (ms.map V.int))
   exact k q ms _ s3 ((s2.newT hz).fresh hq) Zab h1 fun n=>(h2 n).trans (hm n)
end
noncomputable def WS:List Str:=["push", "drop", "copy", "swap", "add", "minus", "times", "over", "rest", "below", "same", "both", "either", "unlike", "up", "down", "jump", "jumpif", "load", "save", "me", "from", "sent", "word", "coin", "note", "call", "borrow", "look", "give", "fail"]
noncomputable def Zk0 (r:Row):List Int:=[(ZhO WS r.1:Int),r.2.getD 0]
noncomputable def Zid (n c p:Int) (rs:List Row) (f:Int->Int) (L:List Int):List Int:=[n,c,p,(rs.length:Int)]++rs.flatMap Zk0++[(L.length:Int)]++L.flatMap fun i=>[i,f i]
def Supp (f:Int->Int) (L:List Int):Prop:=L.Pairwise (·<·)/\∀ i,i∈L ↔ f i≠0
def spRowF:Sp:=fun _ _ _ _=>False
def Zgm (K:PySem.W.Frag) (C:Addr):Sp:=fun vs H Q _=>∃ (a dx pr st:Addr) (c p n:Int) (f:Int->Int) (m:Nat),vs=[.ref a]/\AcAt K C H a dx pr st c p n [] f m/\m<64 /\
 ∀ l L H',Same H H'->H l=none->Supp f L->L.length<64->H' l=some (.lst ((Zid n c p [] f L).map V.int))->Q (.ref l) H'
theorem Zes:∀ (kvs:List (Key×V)),(∀ p∈kvs,∃ i n:Int,p=(Sum.inl i,.int n)/\n≠0)->∃ ks:List Int,kvs.map (·.1)=ks.map Sum.inl
 | [],_=>⟨[],rfl⟩
 | p::r,h=>by
  obtain ⟨i,n,rfl,_⟩:=h p (by simp)
  obtain ⟨ks,e⟩:=Zes r fun q hq=>h q (by simp [hq])
  exact ⟨i::ks,by rw [List.map_cons,e];rfl⟩
theorem Zgn {kvs:List (Key×V)} {k:Key} {v:V} (h:valV kvs k=some v):(k,v)∈kvs:=by
 unfold valV at h
 obtain ⟨p,hp,rfl⟩:=Option.map_eq_some_iff.mp h
 have h1:=List.find?_some hp
 have h2:=List.mem_of_find?_eq_some hp
 simp only [decide_eq_true_eq] at h1
 rw [<- h1]
 exact h2
theorem Zk1 {kvs:List (Key×V)} {f:Int->Int} {ks ms:List Int} (hn:(kvs.map (·.1)).Nodup) (hz:∀ p∈kvs,∃ i n:Int,p=(Sum.inl i,.int n)/\n≠0) (hf:∀ i:Int,(valV kvs (Sum.inl i:Key)).getD (.int 0)=.int (f i)) (hk:kvs.map (·.1)=ks.map Sum.inl) (hp:ms.Perm ks) (hs:ms.Pairwise (·<=·)):Supp f ms:=by
 have hkn:ks.Nodup:=by
  rw [hk] at hn
  exact (List.pairwise_map.mp hn).imp fun h e=>h (by rw [e])
 refine ⟨Zcu hs (hp.nodup_iff.mpr hkn),fun i=>?_⟩
 rw [hp.mem_iff]
 constructor
 .intro hi
  have hm:(Sum.inl i:Key)∈kvs.map (·.1):=by rw [hk];exact List.mem_map.mpr ⟨i,hi,rfl⟩
  cases e:valV kvs (Sum.inl i:Key) with
  | none=>exact absurd hm (Zd6 e)
  | some v =>
   obtain ⟨j,n,e2,hn0⟩:=hz _ (Zgn e)
   cases e2
   have:=hf i
   rw [e] at this
   have e3:V.int n=V.int (f i):=this
   cases e3
   exact hn0
 .intro hi
  cases e:valV kvs (Sum.inl i:Key) with
  | none =>
   have:=hf i
   rw [e] at this
   have e3:V.int 0=V.int (f i):=this
   exact absurd (V.int.inj e3).symm hi
  | some v =>
   have hm:=Zkg e
   rw [hk] at hm
   obtain ⟨j,hj,e4⟩:=List.mem_map.mp hm
   cases e4
   exact hj
def spCell (K:PySem.W.Frag):Sp:=fun vs H Q _=>∃ (p:Addr) (ns:List Int) (k:Int),vs=[.ref p,.int k]/\0<=k/\SqL K H p (ns.map V.int)/\∀ i,Q (.int i) H
def Zc2:Sp:=fun vs H Q _=>∃ n,vs=[.int n]/\∀ i,0<=i->i<999999999989->Q (.int i) H
def spWide:Sp:=fun vs H Q _=>∃ n,vs=[.int n]/\∀ i,0<=i->i<18446744073709551616->Q (.int i) H
def Zie (K:PySem.W.Frag):Sp:=fun vs H Q _=>∃ (p:Addr) (ns:List Int),vs=[.ref p]/\SqL K H p (ns.map V.int)/\∀ l (ss:List Nat) H',Same H H'->H l=none->2<=ss.length->ss.length<=5->(∀ i∈ss,i<16)->ss.Nodup->H' l=some (.lst (ss.map fun i:Nat=>V.int (i:Int)))->Q (.ref l) H'
theorem p64:(2:Int) ^ Int.toNat 64=18446744073709551616:=by decide
theorem Zif:∀ a:Fin 16,∀ b:Fin 8,∀ n:Fin 6,((List.range n.val).map fun k:Nat=>(a.val+k*(1+2*b.val)) % 16).Nodup:=by decide +kernel
theorem Zfz (q r:Int) (n:Nat) (hn:n<=5) (h0:0<=q):((List.range n).map fun k:Nat=>((q+(k:Int)*(1+2*(r % 8))) % 16).toNat).Nodup:=by
 have ha:(q % 16).toNat<16:=by omega
 have hb:(r % 8).toNat<8:=by omega
 have:=Zif ⟨(q % 16).toNat,ha⟩ ⟨(r % 8).toNat,hb⟩ ⟨n,by omega⟩
 have e:(fun k:Nat=>((q+(k:Int)*(1+2*(r % 8))) % 16).toNat)=fun k:Nat=>((q % 16).toNat+k*(1+2*(r % 8).toNat)) % 16:=by
  funext k
  have er:r % 8=(((r % 8).toNat:Nat):Int):=by omega
  have e2:(k:Int)*(1+2*(r % 8))=((k*(1+2*(r % 8).toNat):Nat):Int):=by
   rw [Int.natCast_mul,Int.natCast_add,Int.natCast_mul,<- er]
   rfl
  rw [e2]
  generalize k*(1+2*(r % 8).toNat)=x
  omega
 rw [e]
 exact this
def hasAll (A:Nat->Option AcI) (ss:List Nat):Prop:=∀ i∈ss,i<16/\∃ x,A i=some x
noncomputable def slotV (ss:List Nat):List V:=ss.map fun i:Nat=>V.int (i:Int)
theorem Zig {ss:List Nat} {j:Int} (h0:0<=j) (h1:j<(ss.length:Int)):∃ i∈ss,atI (slotV ss) j=some (.int ((i:Nat):Int)):=by
 have hj:j.toNat<ss.length:=by omega
 refine ⟨ss[j.toNat],List.getElem_mem hj,?_⟩
 refine Zb8 (i:=j.toNat) ?_ (by omega)
 unfold slotV
 rw [List.getElem?_map,List.getElem?_eq_getElem hj]
 rfl
theorem Zc3 {H:Hp} {a b:Addr} {o:HO} (h:upd H a o b=none):b≠a/\H b=none:=by
 by_cases e:b=a
 .rw [e,Zab] at h;cases h
 .rw [Zaf e] at h;exact ⟨e,h⟩
theorem Zih (cs:List Int) (lo hi:Option Int):∃ ms:List Int,cutV (cs.map V.int) lo hi=ms.map V.int/\ms.length<=cs.length:=by
 unfold cutV
 rw [List.length_map]
 refine ⟨(cs.drop (HT.sIx cs.length 0 lo)).take (HT.sIx cs.length cs.length hi-HT.sIx cs.length 0 lo),by rw [List.map_take,List.map_drop],?_⟩
 rw [List.length_take,List.length_drop]
 omega
noncomputable def setO (A:Nat->Option AcI) (i:Nat) (x:AcI):Nat->Option AcI:=fun j=>if j=i then some x else A j
theorem Zii {A:Nat->Option AcI} {i:Nat} {x:AcI} (hi:i<16):((List.range 16).map fun j=>roomV (A j)).set i (.ref x.a)=(List.range 16).map fun j=>roomV (setO A i x j):=by
 apply List.ext_getElem?
 intro n
 rw [List.getElem?_set]
 by_cases e:i=n
 .subst e
  rw [if_pos rfl,if_pos (by simpa using hi),List.getElem?_map,List.getElem?_range hi]
  show _=some (roomV (setO A i x i))
  unfold setO
  rw [if_pos rfl]
  rfl
 .rw [if_neg e,List.getElem?_map,List.getElem?_map]
  by_cases hn:n<16
  .rw [List.getElem?_range hn]
   show some _=some (roomV (setO A i x n))
   unfold setO
   rw [if_neg (Ne.symm e)]
  .rw [List.getElem?_eq_none (by simpa using hn)]
   rfl
theorem Zbg {A:Nat->Option AcI} {i:Nat} {x:AcI}:∀ j y,setO A i x j=some y->(j=i/\y=x)\/(j≠i/\A j=some y):=fun j y h=>by
 unfold setO at h
 by_cases z:j=i
 .rw [if_pos z] at h;cases h;exact .inl ⟨z,rfl⟩
 .rw [if_neg z] at h;exact .inr ⟨z,h⟩
theorem Rooms.add {K:PySem.W.Frag} {C:Addr} {H H':Hp} {R:Addr} {A:Nat->Option AcI} {S:Nat->AcS} {m:Nat} (r:Rooms K C H R A S m) {i:Nat} (hi:i<16) {x:AcI} {s:AcS} (e5:H' R=some (.lst (((List.range 16).map fun j=>roomV (A j)).set i (.ref x.a)))) (e6:Acc K C H' x s m)
  (fr:∀ b o,H b=some o->b≠R->(∀ kvs,o≠.dK kvs)->H' b=some o) (fs:∀ j y,j<16->A j=some y->H' y.st=H y.st) (np:∀ j y,j<16->A j=some y->y.pr≠R) (n3:H x.a=none) (n4:H x.st=none):Rooms K C H' R (setO A i x) (setS S i s) m:=by
 have hR:=r.ob
 have sne:∀ j y,j<16->A j=some y->∃ kvs,H y.st=some (.dK kvs):=fun j y hj hy=>let ⟨kvs,a,_⟩:=(r.ac j y hj hy).sto;⟨kvs,a⟩
 have im:SameI H H':=fun b u e i=>by
  refine fr b u e (fun z=>?_) (fun kvs z=>?_)
  .rw [z,hR] at e;cases e;exact ZcE i
  .rw [z] at i;exact Zdk i
 refine ⟨by rw [e5,Zii hi],fun j y hj hy=>?_,fun j j' y y' hj hj' hy hy' e=>?_,fun j j' y y' hj hj' hy hy' e=>?_⟩
 .rcases Zbg j y hy with ⟨rfl,rfl⟩|⟨z,gy⟩
  .unfold setS;rw [if_pos rfl];exact e6
  .unfold setS;rw [if_neg z]
   have h:=r.ac j y hj gy
   obtain ⟨xs,g1,g2⟩:=h.pg
   obtain ⟨kvs,g3,g4⟩:=h.sto
   exact ⟨fr _ _ h.ob (ZaF h.ob hR (by intro z;cases z)) (by intro _ z;cases z),⟨xs,fr _ _ g1 (np j y hj gy) (by intro _ z;cases z),g2.keep im⟩,kvs,(fs j y hj gy).trans g3,g4⟩
 .rcases Zbg j y hy with ⟨rfl,rfl⟩|⟨z,gy⟩<;>rcases Zbg j' y' hy' with ⟨rfl,rfl⟩|⟨z',gy'⟩
  .rfl
  .have h:=(r.ac j' y' hj' gy').ob;rw [<- e,n3] at h;cases h
  .have h:=(r.ac j y hj gy).ob;rw [e,n3] at h;cases h
  .exact r.da j j' y y' hj hj' gy gy' e
 .rcases Zbg j y hy with ⟨rfl,rfl⟩|⟨z,gy⟩<;>rcases Zbg j' y' hy' with ⟨rfl,rfl⟩|⟨z',gy'⟩
  .rfl
  .obtain ⟨_,h⟩:=sne j' y' hj' gy';rw [<- e,n4] at h;cases h
  .obtain ⟨_,h⟩:=sne j y hj gy;rw [e,n4] at h;cases h
  .exact r.ds j j' y y' hj hj' gy gy' e
theorem Rooms.empty {K:PySem.W.Frag} {C:Addr} {H:Hp} {R:Addr} {m:Nat} (f:H R=some (.lst ((List.range 16).map fun i=>roomV ((fun _=>none:Nat->Option AcI) i)))) (S:Nat->AcS):Rooms K C H R (fun _=>none) S m :=
 ⟨f,fun _ _ _ h=>(nomatch h),fun _ _ _ _ _ _ h=>(nomatch h),fun _ _ _ _ _ _ h=>(nomatch h)⟩
def spMade (K:PySem.W.Frag) (cS cM cN:Addr):Sp:=fun vs H Q _=>∃ (t:Addr) (d:Dd),vs=[.ref t]/\SqT K H t (tellV d)/\∀ a dx H',Same H H'->H a=none->H' a=some (.ins (clsD cS cM cN d) dx (fldD d))->Q (.ref a) H'
section
variable {P:Program} {w:World} {K:PySem.W.Frag} {mg:Str->Option Value} {base:Heap}
theorem ZdL:FnScope ["row"] ["row"] (Zad ZbP):=by walk_at "c"
theorem ZdM (D:ZaS K mg "row_numbers" ZbP):Cal P w K mg base 1 "row_numbers" spRowF:=by
 exact Zbj D ZdL (fun vs H Q E h=>h.elim) (by walk_at "b") (fun f cdv A outer s H vs Q E hr h=>h.elim)
theorem ZaX:FnScope ["self", "numbers", "row", "place"] ["self"] (Zad Zbm):=by walk_at "c"
theorem ZcY   {cAccount:Addr} (D:Zan K cAccount "plain" "Account.plain" Zbm) (tAccount:T_Account K mg cAccount) (c_row_numbers:Cal P w K mg base 1 "row_numbers" spRowF) (n_sorted:mg "sorted" = none) (n_len:mg "len" = none):MCal P w K mg base 2 cAccount "plain" (Zgm K cAccount):=by
 refine Zaz D tAccount.k.cl ZaX (fun vs H Q E h=>?_) (by walk_at "b") (fun f cdv A outer s H vs Q E hr h=>?_)
 .obtain ⟨a,dx,pr,st,c,p,n,f,m,rfl,_⟩:=h;rfl
 .obtain ⟨a,dx,pr,st,c,p,n,fn,m,rfl,A,hm,k⟩:=h
  refine ⟨_,(Zac (Zaw (i:=1) ZaX.nd rfl (by first|exact Or.inl rfl|exact Or.inr rfl) (Zbc (Zaa (Zak (pv 0) rfl) (Zaa (Zak (pv 0) rfl) (Zaa (Zak (pv 0) rfl) (Zaa (Zap ZbH rfl n_len PySem.boot_len (Zaa (Zak (pv 0) rfl) Zag)) Zag))))))
   (Zac (ZbD PassesOwn.never rfl (ZaR (Zak (pv 0) rfl)) (Zat (i:=2) ZaX.nd rfl (by first|exact Or.inl rfl|exact Or.inr rfl))
   (Zae (Zay (Zd2 PySem.F.plainAttrs_list PySem.F.slot_list_extend PySem.F.type_list_extend Zdc (pv 1) (Zaa (ZaC c_row_numbers (hr.mono (by decide)) rfl (Zaa (pv 2) Zag)) Zag)))))
   (Zac (Zay (Zd2 PySem.F.plainAttrs_list PySem.F.slot_list_append PySem.F.type_list_append Zbi (pv 1) (Zaa (Zap Zhz rfl n_len PySem.boot_len (Zaa (Zak (pv 0) rfl) Zag)) Zag)))
   (Zac (ZbD PassesOwn.never rfl (ZaR (Zap (Zdn rfl) rfl n_sorted PyProof.Rows.boot_sorted (Zaa (Zak (pv 0) rfl) Zag))) (Zat (i:=3) ZaX.nd rfl (by first|exact Or.inl rfl|exact Or.inr rfl))
   (Zae (Zay (Zd2 PySem.F.plainAttrs_list PySem.F.slot_list_extend PySem.F.type_list_extend Zdc (pv 1) (Zaa (Zbc (Zaa (pv 3) (Zaa (ZbV (ZbT hr) (Zak (pv 0) rfl) (pv 3) (fun _ _=>rfl)) Zag))) Zag)))))
   (Zae (Zao (pv 1))))))),?_⟩
  walk_at "nx"
  obtain ⟨xs,hpr,hR⟩:=A.pg
  obtain ⟨kvs,hst,hkl,hkn,hkz,hkf⟩:=A.sto
  obtain ⟨ks,hks⟩:=Zes kvs hkz
  have hkl2:ks.length=kvs.length:=by
   have:=congrArg List.length hks
   rw [List.length_map,List.length_map] at this
   exact this.symm
  have hx0:xs=[]:=List.eq_nil_of_length_eq_zero hR.1.symm
  subst hx0
  walk_at "K"
  refine Zam A.ob tAccount.k.cl tAccount.n_count rfl ?_
  walk_at "K"
  refine Zam A.ob tAccount.k.cl tAccount.n_coin rfl ?_
  walk_at "K"
  refine Zam A.ob tAccount.k.cl tAccount.n_purse rfl ?_
  walk_at "K"
  refine Zam A.ob tAccount.k.cl tAccount.n_program rfl ?_
  refine ZdT ?_
  refine ZkE (n:=0) (Zal hpr) rfl ?_
  refine ZdT ?_
  refine ⟨show 4<=sizeLine by decide,fun l hl=>?_⟩
  have sz:=PySem.sizeLine_eq
  have s1:=Same.new hl (o:=.lst [.int n,.int c,.int p,.int 0])
  have hl1:(upd H l (.lst [.int n,.int c,.int p,.int 0])) l=some (.lst (([n,c,p,0]:List Int).map V.int)):=Zab
  generalize upd H l _=H1 at s1 hl1
  (revert H1 s1 hl1;refine keepIt ?_;intro H1 s1 hl1)
  walk_at "K"
  refine ZbG (ZaP ?_)
  walk_at "K"
  refine Zam (s1 _ _ A.ob) tAccount.k.cl tAccount.n_program rfl ?_
  refine ⟨pr,rfl,⟨_,Zal (s1 _ _ hpr)⟩,Za9 (xs:=[]) (fun i σ' H'=>H'=H1/\σ'=[some (.ref a),some (.ref l),none,none]) ⟨rfl,rfl⟩ (fun i σ' H' _ hz=>by rw [hz.1];exact Zal (s1 _ _ hpr)) (fun i x σ' H' hx _=>by simp at hx) ?_⟩
  .rintro σ' H' ⟨rfl,rfl⟩
   have s2:=s1
   have hl2:=hl1
   generalize hB:([n,c,p,0]:List Int)=B at hl2
   (revert B hB hl2;refine keepIt ?_;intro B hB hl2)
   have hBl:B.length<=2004:=by rw [<- hB];show 4<=2004;decide
   walk_at "K"
   refine ⟨ZbN (Zal hl2),?_⟩
   walk_at "K"
   refine Zam (s2 _ _ A.ob) tAccount.k.cl tAccount.n_store rfl ?_
   refine ZdT ?_
   first|refine Zaj fun zQ zq=>⟨st,kvs,rfl,s2 _ _ hst,zq _ _ ?_⟩|refine ⟨st,kvs,rfl,s2 _ _ hst,?_⟩
   refine ZdT ?_
   refine ZbI hl2 (by rw [List.length_map];omega) ?_
   have e1:B.map V.int++[V.int kvs.length]=(B++[(kvs.length:Int)]).map V.int:=by rw [List.map_append];rfl
   rw [e1]
   have s3:=s2.wr hl (o:=.lst ((B++[(kvs.length:Int)]).map V.int))
   have hl3:(upd H' l (.lst ((B++[(kvs.length:Int)]).map V.int))) l=some (.lst ((B++[(kvs.length:Int)]).map V.int)):=Zab
   generalize upd H' l _=H3 at s3 hl3
   (revert H3 s3 hl3;refine keepIt ?_;intro H3 s3 hl3)
   dsimp only
   walk_at "K"
   refine ZbG (ZaP ?_)
   walk_at "K"
   refine Zam (s3 _ _ A.ob) tAccount.k.cl tAccount.n_store rfl ?_
   refine ZdT ?_
   refine ZdV (s3 _ _ hst) hks (by omega) fun ms hpm hsm q hq=>?_
   have SU:=Zk1 hkn hkz hkf hks hpm hsm
   have hml:ms.length=kvs.length:=by rw [hpm.length_eq,hkl2]
   have hlq:l≠q:=Zai hl3 hq
   have hq0:H q=none:=s3.fresh hq
   have s4:=s3.newT hq (o:=.lst (ms.map V.int))
   have hq4:(upd H3 q (.lst (ms.map V.int))) q=some (.lst (ms.map V.int)):=Zab
   have hl4:(upd H3 q (.lst (ms.map V.int))) l=some (.lst ((B++[(kvs.length:Int)]++(ms.take 0).flatMap fun i=>[i,fn i]).map V.int)):=by rw [Zaf hlq,List.take_zero,List.flatMap_nil,List.append_nil];exact hl3
   generalize upd H3 q _=H4 at s4 hq4 hl4
   (revert H4 s4 hq4 hl4;refine keepIt ?_;intro H4 s4 hq4 hl4)
   have fm:∀ i:Nat,i<=ms.length->((ms.take i).flatMap fun i=>[i,fn i]).length=2*i:=fun i hi=>by
    rw [List.length_flatMap]
    have:(ms.take i).map (fun x=>([x,fn x]:List Int).length)=List.replicate i 2:=by
     apply List.eq_replicate_iff.mpr
     exact ⟨by rw [List.length_map,List.length_take];omega,fun b hb=>by obtain ⟨x,_,rfl⟩:=List.mem_map.mp hb;rfl⟩
    rw [this,List.sum_replicate_nat]
    omega
   refine ⟨q,rfl,⟨_,Zal hq4⟩,Za9 (xs:=ms.map V.int) (fun i σ' H'=>Same H H'/\H' q=some (.lst (ms.map V.int))/\H' l=some (.lst ((B++[(kvs.length:Int)]++(ms.take i).flatMap fun i=>[i,fn i]).map V.int))/\∃ v2 v3,σ'=[some (.ref a),some (.ref l),v2,v3]) ⟨s4,hq4,hl4,_,_,rfl⟩ (fun i σ' H' _ ⟨_,e,_⟩=>Zal e) ?_ ?_⟩
   .rintro i x σ' H' hx ⟨s5,hq5,hl5,v2,v3,rfl⟩
    rw [List.getElem?_map] at hx
    obtain ⟨pl,hpl,rfl⟩:=Option.map_eq_some_iff.mp hx
    obtain ⟨hi,ei⟩:=List.getElem?_eq_some_iff.mp hpl
    have hf0:=(SU.2 pl).mp (List.mem_of_getElem? hpl)
    have hv:valV kvs (Sum.inl pl:Key)=some (.int (fn pl)):=by
     have:=hkf pl
     cases e:valV kvs (Sum.inl pl:Key) with
     | none =>
      rw [e] at this
      exact absurd (V.int.inj (show V.int 0=V.int (fn pl) from this)).symm hf0
     | some v =>
      rw [e] at this
      exact congrArg some this
    walk_at "K"
    refine ⟨ZbN (Zal hl5),?_⟩
    walk_at "K"
    refine Zam (s5 _ _ A.ob) tAccount.k.cl tAccount.n_store rfl ?_
    walk_at "K"
    refine ⟨st,.int (fn pl),rfl,?_,?_⟩
    .have:=DGet.k (k:=Sum.inl pl) (s5 _ _ hst)
     rw [hv] at this
     exact this
    walk_at "K"
    refine ⟨show 2<=sizeLine by decide,fun z hz=>?_⟩
    walk_at "K"
    have hlz:l≠z:=Zai hl5 hz
    have hqz:q≠z:=Zai hq5 hz
    refine ZeT (xs:=((B++[(kvs.length:Int)]++(ms.take i).flatMap fun i=>[i,fn i]).map V.int)) (zs:=[.int pl,.int (fn pl)]) (by rw [Zaf hlz];exact hl5) Zab (by rw [List.length_map,List.length_append,List.length_append,fm i (by omega)];show B.length+1+2*i+2<=_;omega) ?_
    refine ⟨(s5.newT hz).wr hl,by rw [Zaf (Ne.symm hlq),Zaf hqz];exact hq5,?_,_,_,rfl⟩
    rw [Zab,List.take_succ_eq_append_getElem hi,ei,List.flatMap_append,<- List.append_assoc,List.map_append (l₂:=[pl].flatMap _)]
    rfl
   .rintro σ' H' ⟨s5,hq5,hl5,v2,v3,rfl⟩
    rw [List.length_map,List.take_length] at hl5
    walk_at "K"
    refine k l ms H' s5 hl SU (by omega) ?_
    rw [hl5,<- hB,<- hml]
    rfl
end
def Zij:Sp:=fun vs H Q _=>∃ a b,vs=[.int a,.int b]/\Q (.bl (decide (a=b))) H
theorem ZgY (S:Nat->AcS) (d:Dd) (i:Nat):(doneS S d i).purse=(S i).purse/\(doneS S d i).count=(S i).count/\(doneS S d i).rows=(S i).rows:=by
 cases d with
 | save s p o n =>
  show (setS S s.toNat _ i).purse=_/\(setS S s.toNat _ i).count=_/\(setS S s.toNat _ i).rows=_
  unfold setS
  by_cases z:i=s.toNat
  .rw [if_pos z,z];exact ⟨rfl,rfl,rfl⟩
  .rw [if_neg z];exact ⟨rfl,rfl,rfl⟩
 | move s t k =>
  show (moved S _ _ k i).purse=_/\(moved S _ _ k i).count=_/\(moved S _ _ k i).rows=_
  rw [Za7]
  exact ⟨rfl,rfl,rfl⟩
 | note s n=>exact ⟨rfl,rfl,rfl⟩
theorem ZdJ (ds:List Dd):∀ (S:Nat->AcS) (i:Nat),(runS S ds i).purse=(S i).purse/\(runS S ds i).count=(S i).count/\(runS S ds i).rows=(S i).rows:=by
 induction ds with
 | nil=>exact fun S i=>⟨rfl,rfl,rfl⟩
 | cons d ds ih =>
  intro S i
  obtain ⟨a,b,c⟩:=ih (doneS S d) i
  obtain ⟨a',b',c'⟩:=ZgY S d i
  exact ⟨a.trans a',b.trans b',c.trans c'⟩
theorem Zk2 {S0:Nat->AcS} {ds:List Dd} {d:Dd} (h:∀ q i,0<=(runS S0 (ds.take q) i).coin) (h2:∀ i,0<=(doneS (runS S0 ds) d i).coin) (q i:Nat):0<=(runS S0 ((ds++[d]).take q) i).coin:=by
 by_cases z:q<=ds.length
 .rw [List.take_append_of_le_length z];exact h q i
 .rw [List.take_of_length_le (by rw [List.length_append];show ds.length+1<=q;omega),Zcz];exact h2 i
structure Wk (K:PySem.W.Frag) (C cJ cS cM cN:Addr) (H0 H:Hp) (j dx R L:Addr) (A:Nat->Option AcI) (S0:Nat->AcS) (es:List DI) (m:Nat):Prop where
 jr:Jr cJ cS cM cN H j dx R L A es
 ro:Rooms K C H R A (runS S0 (es.map (·.d))) m
 ri:ZaW S0 (es.map (·.d))
 nn:∀ q i,0<=(runS S0 ((es.map (·.d)).take q) i).coin
 fr:∀ b o,Out A b->b≠L->H0 b=some o->H b=some o
section
variable {K:PySem.W.Frag} {C cJ cS cM cN:Addr} {H0 H H':Hp} {j dx R L:Addr} {A:Nat->Option AcI} {S0:Nat->AcS} {es:List DI} {m:Nat}
theorem Wk.same (W:Wk K C cJ cS cM cN H0 H j dx R L A S0 es m) (s:Same H H'):Wk K C cJ cS cM cN H0 H' j dx R L A S0 es m:=⟨W.jr.same s,W.ro.same s,W.ri,W.nn,fun b o h1 h2 h3=>s _ _ (W.fr b o h1 h2 h3)⟩
theorem Wk.write (W:Wk K C cJ cS cM cN H0 H j dx R L A S0 es m) {e:DI} (k:∀ b,Out A b->b≠L->H' b=H b) (r:Rooms K C H' R A (doneS (runS S0 (es.map (·.d))) e.d) (m+1)) (J:Jr cJ cS cM cN H' j dx R L A (es++[e])) (hr:rightD (runS S0 (es.map (·.d))) e.d) (hn:∀ i,0<=(doneS (runS S0 (es.map (·.d))) e.d i).coin):Wk K C cJ cS cM cN H0 H' j dx R L A S0 (es++[e]) (m+1):=by
 have em:(es++[e]).map (·.d)=es.map (·.d)++[e.d]:=by rw [List.map_append];rfl
 refine ⟨J,by rw [em,Zcz];exact r,by rw [em];exact (ZbS _ _ _).mpr ⟨W.ri,hr⟩,by rw [em];exact Zk2 W.nn hn,fun b o h1 h2 h3=>?_⟩
 rw [k b h1 h2]
 exact W.fr b o h1 h2 h3
theorem Wk.back {m':Nat} (W:Wk K C cJ cS cM cN H0 H j dx R L A S0 es m) {n:Nat} (k:∀ b,Out A b->b≠L->H' b=H b) (r:Rooms K C H' R A (runS S0 ((es.take n).map (·.d))) m') (ri:ZaW S0 ((es.take n).map (·.d))) (J:Jr cJ cS cM cN H' j dx R L A (es.take n)):Wk K C cJ cS cM cN H0 H' j dx R L A S0 (es.take n) m':=by
 refine ⟨J,r,ri,fun q i=>?_,fun b o h1 h2 h3=>?_⟩
 .rw [List.map_take,List.take_take];exact W.nn _ i
 .rw [k b h1 h2];exact W.fr b o h1 h2 h3
theorem Wk.now (W:Wk K C cJ cS cM cN H0 H j dx R L A S0 es m) (i:Nat):0<=(runS S0 (es.map (·.d)) i).coin:=by
 have:=W.nn (es.map (·.d)).length i
 rwa [List.take_length] at this
end
theorem Zfb (S:Nat->AcS) (s p o n:Int) (i:Nat):(doneS S (.save s p o n) i).coin=(S i).coin:=by
 show (setS S s.toNat _ i).coin=_
 unfold setS
 by_cases z:i=s.toNat
 .rw [if_pos z,z]
 .rw [if_neg z]
theorem Zik {S:Nat->AcS} {i j:Nat} {k:Int} (h:∀ n,0<=(S n).coin) (h0:0<=k) (h1:k<=(S i).coin) (n:Nat):0<=(doneS S (.move i j k) n).coin:=by
 show 0<=(moved S _ _ k n).coin
 rw [Za7,Int.toNat_natCast,Int.toNat_natCast]
 have:=h n
 dsimp only
 by_cases z:n=i
 .subst z
  rw [if_pos rfl]
  split<;>omega
 .rw [if_neg z]
  split<;>omega
theorem Zet (ns:List Int):Dt.deps (Dt.ints ns)=0:=by
 induction ns with
 | nil=>simp [Dt.ints,Dt.deps]
 | cons n ns ih=>simp [Dt.ints,Dt.deps,Dt.dep] at *;exact ih
structure Prot (A:Nat->Option AcI) (ex:List Addr) (Hs H:Hp):Prop where
 sm:Same Hs H
 ou:∀ b o,Hs b=some o->Out A b/\b∉ex
section
variable {A:Nat->Option AcI} {ex ex':List Addr} {Hs H H':Hp}
theorem Prot.step (p:Prot A ex Hs H) (k:∀ b,Out A b->b∉ex->H' b=H b):Prot A ex Hs H':=⟨fun b o h=>by rw [k b (p.ou b o h).1 (p.ou b o h).2];exact p.sm b o h,p.ou⟩
theorem Prot.same (p:Prot A ex Hs H) (s:Same H H'):Prot A ex Hs H':=⟨p.sm.trans s,p.ou⟩
theorem Prot.wr (p:Prot A ex Hs H) {b:Addr} {o:HO} (hb:b∈ex):Prot A ex Hs (upd H b o):=⟨fun c u h=>by rw [Zaf (fun z=>(p.ou c u h).2 (by rw [z];exact hb))];exact p.sm c u h,p.ou⟩
theorem Prot.to (p:Prot A ex Hs H) (h:∀ b∈ex',b∈ex\/H b=none):Prot A ex' Hs H:=⟨p.sm,fun b o e=>⟨(p.ou b o e).1,fun z=>by
 rcases h b z with h|h
 .exact (p.ou b o e).2 h
 .rw [p.sm b o e] at h;cases h⟩⟩
theorem Prot.new (p:Prot A ex Hs H) (s:Same H H') (ho:∀ b,H b=none->Out A b) (he:∀ b∈ex,∃ o,H b=some o):∃ Hs',Prot A ex Hs' H'/\Same Hs Hs'/\∀ b,H b=none->Hs' b=H' b:=by
 refine ⟨fun b=>match H b with|none=>H' b|some _=>Hs b,⟨fun b o h=>?_,fun b o h=>?_⟩,fun b o h=>?_,fun b h=>?_⟩
 .cases e:H b with
  | none=>rw [e] at h;exact h
  | some u=>rw [e] at h;exact s b o (p.sm b o h)
 .cases e:H b with
  | none=>exact ⟨ho b e,fun z=>by obtain ⟨u,hu⟩:=he b z;rw [e] at hu;cases hu⟩
  | some u=>rw [e] at h;exact p.ou b o h
 .dsimp only
  rw [p.sm b o h]
  exact h
 .dsimp only
  rw [h]
end
noncomputable def hold (A:Nat->Option AcI) (ex:List Addr) (H:Hp):Hp:=open Classical in fun b=>if Out A b/\b∉ex then H b else none
theorem ZfA {A:Nat->Option AcI} {ex:List Addr} {H:Hp} {b:Addr} (h1:Out A b) (h2:b∉ex):hold A ex H b=H b:=by unfold hold;rw [if_pos ⟨h1,h2⟩]
theorem Zfc {A:Nat->Option AcI} {ex:List Addr} {H:Hp}:Prot A ex (hold A ex H) H:=by
 have h:∀ b o,hold A ex H b=some o->(Out A b/\b∉ex)/\H b=some o:=fun b o h=>by
  unfold hold at h
  split at h
  .rename_i q;exact ⟨q,h⟩
  .cases h
 exact ⟨fun b o e=>(h b o e).2,fun b o e=>(h b o e).1⟩
def NL (A:Nat->Option AcI) (R L b:Addr):Prop:=b≠L/\b≠R/\∀ i x,i<16->A i=some x->b≠x.pr
theorem NL.new {K:PySem.W.Frag} {C cJ cS cM cN:Addr} {H:Hp} {j dx R L b:Addr} {A:Nat->Option AcI} {S:Nat->AcS} {m:Nat} {es:List DI} (r:Rooms K C H R A S m) (J:Jr cJ cS cM cN H j dx R L A es) (h:H b=none):NL A R L b :=
 ⟨Ne.symm (Zai J.li h),Ne.symm (Zai r.ob h),fun i x hi hx=>let ⟨_,g,_⟩:=(r.ac i x hi hx).pg;Ne.symm (Zai g h)⟩
theorem Wk.lst {K:PySem.W.Frag} {C cJ cS cM cN:Addr} {H:Hp} {j dx R L b:Addr} {A:Nat->Option AcI} {S0:Nat->AcS} {es:List DI} {m:Nat} {xs ys:List V} (W:Wk K C cJ cS cM cN (fun _=>none) H j dx R L A S0 es m) (hb:H b=some (.lst xs)) (n:NL A R L b):Wk K C cJ cS cM cN (fun _=>none) (upd H b (.lst ys)) j dx R L A S0 es m :=
 ⟨⟨by rw [Zaf (ZaF W.jr.ob hb (by intro z;cases z))];exact W.jr.ob,by rw [Zaf (Ne.symm n.1)];exact W.jr.li,fun e he=>⟨by rw [Zaf (ZaF (W.jr.de e he).1 hb (by intro z;cases z))];exact (W.jr.de e he).1,(W.jr.de e he).2⟩,W.jr.nR,W.jr.np⟩,W.ro.lst hb n.2.1 n.2.2,W.ri,W.nn,fun _ _ _ _ h=>(nomatch h)⟩
noncomputable def placeD:Dd->Option Int
 | .save _ p _ _=>some p
 | _=>none
theorem Zil (S:Nat->AcS) (d:Dd) (i:Nat) (p:Int) (h:(doneS S d i).store p≠0):(S i).store p≠0\/placeD d=some p:=by
 cases d with
 | save s q o n =>
  by_cases e:q=p
  .exact .inr (by rw [<- e];rfl)
  .refine .inl fun z=>h ?_
   show (setS S s.toNat _ i).store p=0
   unfold setS
   by_cases w:i=s.toNat
   .rw [if_pos w]
    show putFn _ q n p=0
    unfold putFn
    rw [if_neg (Ne.symm e),<- w]
    exact z
   .rw [if_neg w]
    exact z
 | move s t k =>
  refine .inl fun z=>h ?_
  show (moved S _ _ k i).store p=0
  rw [Za7]
  exact z
 | note s n=>exact .inl h
theorem Zgo:∀ (ds:List Dd) (S:Nat->AcS) (i:Nat) (p:Int),(runS S ds i).store p≠0->(S i).store p≠0\/p∈ds.filterMap placeD
 | [],S,i,p,h=>.inl h
 | d::ds,S,i,p,h=>by
  rcases Zgo ds (doneS S d) i p h with h|h
  .rcases Zil S d i p h with h|h
   .exact .inl h
   .exact .inr (List.mem_filterMap.mpr ⟨d,by simp,h⟩)
  .obtain ⟨e,he,ep⟩:=List.mem_filterMap.mp h
   exact .inr (List.mem_filterMap.mpr ⟨e,by simp [he],ep⟩)
theorem Zfd:∀ (ks ps:List Int),ks.Nodup->(∀ k∈ks,k∈ps)->ks.length<=ps.length
 | [],ps,_,_=>Nat.zero_le _
 | k::ks,ps,hn,h=>by
  obtain ⟨n1,n2⟩:=List.nodup_cons.mp hn
  have hk:=h k (by simp)
  have:=Zfd ks (ps.erase k) n2 fun x hx=>(List.mem_erase_of_ne (fun z=>n1 (by rw [<- z];exact hx))).mpr (h x (by simp [hx]))
  rw [List.length_erase_of_mem hk] at this
  have:0<ps.length:=List.length_pos_of_mem hk
  simp only [List.length_cons]
  omega
theorem StoreAt.tight {H:Hp} {d:Addr} {f:Int->Int} {m:Nat} (h:StoreAt H d f m) {ps:List Int} (hp:∀ p,f p≠0->p∈ps):StoreAt H d f ps.length:=by
 obtain ⟨kvs,e1,e2,e3,e4,e5⟩:=h
 refine ⟨kvs,e1,?_,e3,e4,e5⟩
 obtain ⟨ks,hk⟩:=Zes kvs e4
 have hkn:ks.Nodup:=by
  rw [hk] at e3
  exact (List.pairwise_map.mp e3).imp fun h e=>h (by rw [e])
 have hl:kvs.length=ks.length:=by
  have:=congrArg List.length hk
  rw [List.length_map,List.length_map] at this
  exact this
 rw [hl]
 refine Zfd ks ps hkn fun k hk'=>hp k ?_
 have hm:(Sum.inl k:Key)∈kvs.map (·.1):=by rw [hk];exact List.mem_map.mpr ⟨k,hk',rfl⟩
 cases e:valV kvs (Sum.inl k:Key) with
 | none=>exact absurd hm (Zd6 e)
 | some v =>
  obtain ⟨j,n,z,hn0⟩:=e4 _ (Zgn e)
  cases z
  have:=e5 k
  rw [e] at this
  rw [<- V.int.inj (show V.int n=V.int (f k) from this)]
  exact hn0
theorem Rooms.tight {K:PySem.W.Frag} {C:Addr} {H:Hp} {R:Addr} {A:Nat->Option AcI} {S0:Nat->AcS} {ds:List Dd} {m:Nat} (r:Rooms K C H R A (runS S0 ds) m) (z:∀ i p,(S0 i).store p=0):Rooms K C H R A (runS S0 ds) ds.length :=
 ⟨r.ob,fun i x hi hx=>let h:=r.ac i x hi hx;⟨h.ob,h.pg,let ⟨kvs,e1,e2,e3⟩:=StoreAt.tight h.sto (ps:=ds.filterMap placeD) (fun p hp=>(Zgo ds S0 i p hp).resolve_left (fun q=>q (z i p)));⟨kvs,e1,Nat.le_trans e2 (List.length_filterMap_le _ _),e3⟩⟩,r.da,r.ds⟩
section
variable {P:Program} {w:World} {K:PySem.W.Frag} {mg:Str->Option Value} {base:Heap}
theorem ZfB:FnScope ["_law_script", "_law_k"] ["_law_script", "_law_k"] (Zad ZcG):=by walk_at "c"
theorem ZfC    (D:ZaS K mg "_law_cell_at" ZcG) (n_len:mg "len" = none):Cal P w K mg base 1 "_law_cell_at" (spCell K):=by
 refine Zbj D ZfB (fun vs H Q E h=>?_) (by walk_at "b") (fun f cdv A outer s H vs Q E hr h=>?_)
 .obtain ⟨p,ns,j,rfl,_⟩:=h;rfl
 .obtain ⟨p,ns,j,rfl,hj,hl,k⟩:=h
  refine ⟨_,(Zac (Zbe (Zaq op_lt (pv 1) (Zap ZbH rfl n_len PySem.boot_len (Zaa (pv 0) Zag)) (nomark _)) (Zae (Zao (Zav ZaE (pv 0) (pv 1) (fun _ _=>rfl)))) ZaD)
   (Zae (Zao Zah))),?_⟩
  walk_at "nx"
  repeat' walk_at "rdt"
  .rename_i hlt
   rw [List.length_map] at hlt
   obtain ⟨c,e1,e2⟩:=ZfV (xs:=ns) hj hlt
   have e3:(ns.map V.int)[j.toNat]?=some (.int c):=by rw [List.getElem?_map,e2];rfl
   exact Zbd hl (Zb8 e3 (by omega)) (k c)
  .exact k _
theorem Zim:FnScope ["_law_cell"] ["_law_cell"] (Zad Zef):=by walk_at "c"
theorem Zin    (D:ZaS K mg "_law_mixed" Zef):Cal P w K mg base 1 "_law_mixed" Zc2:=by
 refine Zbj D Zim (fun vs H Q E h=>?_) (by walk_at "b") (fun f cdv A outer s H vs Q E hr h=>?_)
 .obtain ⟨n,rfl,_⟩:=h;rfl
 .obtain ⟨n,rfl,k⟩:=h
  refine ⟨_,(Zae (Zao (Zas ZaQ (Zas ZcK (pv 0) Zah) Zah))),?_⟩
  walk_at "nx"
  repeat' walk_at "rdt"
  exact k _ (by omega) (by omega)
theorem Zjw:FnScope ["_law_cell"] ["_law_cell"] (Zad Zfs):=by walk_at "c"
theorem Zjx    (D:ZaS K mg "_law_wide" Zfs):Cal P w K mg base 1 "_law_wide" spWide:=by
 refine Zbj D Zjw (fun vs H Q E h=>?_) (by walk_at "b") (fun f cdv A outer s H vs Q E hr h=>?_)
 .obtain ⟨n,rfl,_⟩:=h;rfl
 .obtain ⟨n,rfl,k⟩:=h
  refine ⟨_,(Zae (Zao (Zas ZaQ (Zas ZcK (pv 0) Zah) (Zas ZdP Zah Zah)))),?_⟩
  walk_at "nx"
  repeat' walk_at "rdt"
  rw [p64]
  exact k _ (by omega) (by omega)
theorem ZcM:FnScope ["_law_script", "_law_mixed_here"] ["_law_script"] (Zad ZbQ):=by walk_at "c"
theorem Zfe    (D:ZaS K mg "_law_slots_by" ZbQ) (c_Lmixed:Cal P w K mg base 1 "_law_mixed" Zc2) (c_Lcell_at:Cal P w K mg base 1 "_law_cell_at" (spCell K)) (n_range:mg "range" = none):Cal P w K mg base 2 "_law_slots_by" (Zie K):=by
 refine Zbj D ZcM (fun vs H Q E h=>?_) (by walk_at "b") (fun f cdv A outer s H vs Q E hr h=>?_)
 .obtain ⟨p,ns,rfl,_⟩:=h;rfl
 .obtain ⟨p,ns,rfl,hl,k⟩:=h
  refine ⟨_,(Zac (Zaw (i:=1) ZcM.nd rfl (by first|exact Or.inl rfl|exact Or.inr rfl) (ZaC c_Lmixed (hr.mono (by decide)) rfl (Zaa (ZaC c_Lcell_at (hr.mono (by decide)) rfl (Zaa (pv 0) (Zaa Zah Zag))) Zag)))
   (Zae (Zao (ZbX ["_law_k"] rfl (show CompScope (Zad ZbQ) ["_law_script", "_law_mixed_here"] ["_law_k"] _ from ⟨rfl,by decide +kernel,by decide +kernel,by decide +kernel,by decide +kernel,by decide +kernel⟩) (Zc6 rfl n_range (Zaa (Zas ZbU Zah (Zas ZaQ (pv 1) Zah)) Zag)) (fun _ _ _ _ _=>(Zat (i:=0) (show (["_law_k", "_law_script", "_law_mixed_here"]:List Str).Nodup by decide +kernel) rfl (Or.inl rfl) (.inr rfl))) (fun _ _ _ _ _=>Zdf) (fun _ _ _ _ _=>(Zas ZaQ (Zas ZbU (Zas Zba (pv 2) Zah) (Zas ZcK (pv 0) (Zas ZbU Zah (Zas ZcK Zah (Zas ZaQ (Zas Zba (pv 2) Zah) Zah))))) Zah)))))),?_⟩
  walk_at "nx"
  repeat walk_at "rdt"
  first|refine Zaj fun zQ zq=>⟨p,ns,0,rfl,by decide,hl,fun c=>zq _ _ ?_⟩|refine ⟨p,ns,0,rfl,by decide,hl,fun c=>?_⟩
  repeat walk_at "rdt"
  first|refine Zaj fun zQ zq=>⟨c,rfl,fun z z0 _=>zq _ _ ?_⟩|refine ⟨c,rfl,fun z z0 _=>?_⟩
  repeat walk_at "rdt"
  refine Zd9 (Zea ?_)
  repeat walk_at "rdt"
  first|refine Zaj fun zQ zq=>⟨_,rfl,by omega,by omega,fun q hq=>zq _ _ ?_⟩|refine ⟨_,rfl,by omega,by omega,fun q hq=>?_⟩
  have hn:(2+z % 4).toNat<=5/\2<=(2+z % 4).toNat:=by omega
  have hnd:=Zfz (z / 4) (z / 64) (2+z % 4).toNat hn.1 (by omega)
  generalize (2+z % 4).toNat=n at hn hnd
  (revert n hn hnd;refine keepIt ?_;intro n hn hnd)
  refine ZgI (ys:=((List.range n).map fun k:Nat=>((z / 4+(k:Int)*(1+2*(z / 64 % 8))) % 16).toNat).map fun i:Nat=>V.int (i:Int)) hq (by simp) (Nat.le_trans hn.1 (by decide)) ?_ ?_
  .intro i y H' Q' hi hy sm q'
   rw [List.getElem?_map,List.getElem?_map,List.getElem?_range hi] at hy
   cases hy
   repeat walk_at "rdt"
   rw [Int.zero_add]
   refine rd_fin ?_ q'
   show V.int _=V.int _
   congr 1
   dsimp only
   omega
  .refine k q _ _ (Same.new hq) hq ?_ ?_ ?_ hnd Zab
   .rw [List.length_map,List.length_range];exact hn.2
   .rw [List.length_map,List.length_range];exact hn.1
   .intro i hi
    obtain ⟨j,_,rfl⟩:=List.mem_map.mp hi
    omega
theorem Zjy:FnScope ["_law_told"] ["_law_told"] (Zad Zft):=by walk_at "c"
theorem Zjz   {cSave:Addr} {cMove:Addr} {cNote:Addr} (D:ZaS K mg "_law_made" Zft) (tSave:T_Save K mg cSave) (tMove:T_Move K mg cMove) (tNote:T_Note K mg cNote) (i_Save:ICal P w K mg base 1 "Save" cSave (Zgd cSave)) (i_Move:ICal P w K mg base 1 "Move" cMove (Zge cMove)) (i_Note:ICal P w K mg base 1 "Note" cNote (Zgf cNote)):Cal P w K mg base 3 "_law_made" (spMade K cSave cMove cNote):=by
 refine Zbj D Zjy (fun vs H Q E h=>?_) (by walk_at "b") (fun f cdv A outer s H vs Q E hr h=>?_)
 .obtain ⟨t,d,rfl,_⟩:=h;rfl
 .obtain ⟨t,d,rfl,hT,k⟩:=h
  refine ⟨_,(Zac (Zbe (Zaq Zbq (Zav Zax (pv 0) Zah (fun _ _=>rfl)) Zbb (nomark _)) (Zae (Zao (Zdi i_Save (hr.mono (by decide)) rfl (Zaa (Zav Zax (pv 0) Zah (fun _ _=>rfl)) (Zaa (Zav Zax (pv 0) Zah (fun _ _=>rfl)) (Zaa (Zav Zax (pv 0) Zah (fun _ _=>rfl)) (Zaa (Zav Zax (pv 0) Zah (fun _ _=>rfl)) Zag))))))) ZaD)
   (Zac (Zbe (Zaq Zbq (Zav Zax (pv 0) Zah (fun _ _=>rfl)) Zbb (nomark _)) (Zae (Zao (Zdi i_Move (hr.mono (by decide)) rfl (Zaa (Zav Zax (pv 0) Zah (fun _ _=>rfl)) (Zaa (Zav Zax (pv 0) Zah (fun _ _=>rfl)) (Zaa (Zav Zax (pv 0) Zah (fun _ _=>rfl)) Zag)))))) ZaD)
   (Zae (Zao (Zdi i_Note (hr.mono (by decide)) rfl (Zaa (Zav Zax (pv 0) Zah (fun _ _=>rfl)) (Zaa (Zav Zax (pv 0) Zah (fun _ _=>rfl)) Zag))))))),?_⟩
  walk_at "nx"
  cases d with
  | save s0 p o n =>
   have hT:SqT K H t [.str "save", .int s0,.int p,.int o,.int n]:=hT
   walk_at "K'"
   all_goals first
    | exact absurd rfl (by assumption)
    | exact absurd (by assumption:(Str.ofString "save" = Str.ofString "move")) (by decide)
    | exact absurd (by assumption:(Str.ofString "save" = Str.ofString "move")) (by decide)
    | skip
   intro x dx hx hdx hne
   have hx2:(upd H dx (.own x)) x=none:=by rw [Zaf (Ne.symm hne)];exact hx
   first|refine Zaj fun zQ zq=>⟨x,dx,s0,p,o,n,rfl,Zab,rfl,zq _ _ ?_⟩|refine ⟨x,dx,s0,p,o,n,rfl,Zab,rfl,?_⟩
   rw [Za0]
   exact k x dx _ ((Same.new hdx).newT hx2) hx Zab
  | move s0 t0 kk =>
   have hT:SqT K H t [.str "move", .int s0,.int t0,.int kk]:=hT
   walk_at "K'"
   all_goals first
    | exact absurd rfl (by assumption)
    | exact absurd (by assumption:(Str.ofString "move" = Str.ofString "save")) (by decide)
    | exact absurd (by assumption:(Str.ofString "move" = Str.ofString "save")) (by decide)
    | skip
   intro x dx hx hdx hne
   have hx2:(upd H dx (.own x)) x=none:=by rw [Zaf (Ne.symm hne)];exact hx
   first|refine Zaj fun zQ zq=>⟨x,dx,s0,t0,kk,rfl,Zab,rfl,zq _ _ ?_⟩|refine ⟨x,dx,s0,t0,kk,rfl,Zab,rfl,?_⟩
   rw [Za0]
   exact k x dx _ ((Same.new hdx).newT hx2) hx Zab
  | note s0 n =>
   have hT:SqT K H t [.str "note", .int s0,.int n]:=hT
   walk_at "K'"
   all_goals first
    | exact absurd rfl (by assumption)
    | exact absurd (by assumption:(Str.ofString "note" = Str.ofString "save")) (by decide)
    | exact absurd (by assumption:(Str.ofString "note" = Str.ofString "move")) (by decide)
    | skip
   intro x dx hx hdx hne
   have hx2:(upd H dx (.own x)) x=none:=by rw [Zaf (Ne.symm hne)];exact hx
   first|refine Zaj fun zQ zq=>⟨x,dx,s0,n,rfl,Zab,rfl,zq _ _ ?_⟩|refine ⟨x,dx,s0,n,rfl,Zab,rfl,?_⟩
   rw [Za0]
   exact k x dx _ ((Same.new hdx).newT hx2) hx Zab
theorem Zio:FnScope ["_law_found", "_law_due"] ["_law_found", "_law_due"] (Zad Zeg):=by walk_at "c"
theorem Zip    (D:ZaS K mg "_law_whole" Zeg) (n_isinstance:mg "isinstance" = none) (n_int:mg "int" = none) (n_bool:mg "bool" = none):Cal P w K mg base 1 "_law_whole" Zij:=by
 refine Zbj D Zio (fun vs H Q E h=>?_) (by walk_at "b") (fun f cdv A outer s H vs Q E hr h=>?_)
 .obtain ⟨a,b,rfl,_⟩:=h;rfl
 .obtain ⟨a,b,rfl,k⟩:=h
  first|refine Zaj fun zQ zq=>⟨_,(Zae (Zao (ZfK (Zap ZbZ rfl n_isinstance PyProof.Rows.boot_isinstance (Zaa (pv 0) (Zaa (ZcL rfl n_int PyProof.Rows.boot_int) Zag))) (ZfK (ZjG (Zap ZbZ rfl n_isinstance PyProof.Rows.boot_isinstance (Zaa (pv 0) (Zaa (ZcL rfl n_bool PyProof.Rows.boot_bool) Zag)))) (ZjF (Zhh Zbq (pv 0) (pv 1) (nomark _))))))),zq _ _ ?_⟩|refine ⟨_,(Zae (Zao (ZfK (Zap ZbZ rfl n_isinstance PyProof.Rows.boot_isinstance (Zaa (pv 0) (Zaa (ZcL rfl n_int PyProof.Rows.boot_int) Zag))) (ZfK (ZjG (Zap ZbZ rfl n_isinstance PyProof.Rows.boot_isinstance (Zaa (pv 0) (Zaa (ZcL rfl n_bool PyProof.Rows.boot_bool) Zag)))) (ZjF (Zhh Zbq (pv 0) (pv 1) (nomark _))))))),?_⟩
  walk_at "nx"
  walk_at "K"
  exact k
end
theorem len16 {l:List Int} (hn:l.Nodup) (hb:∀ x∈l,0<=x/\x<16):l.length<=16:=by
 have h1:(l.map Int.toNat).Nodup:=by
  rw [List.nodup_iff_pairwise_ne,List.pairwise_map]
  refine (List.nodup_iff_pairwise_ne.mp hn).imp_of_mem fun {a b} ha hb' hne e=>?_
  have:=hb a ha
  have:=hb b hb'
  omega
 have p:(l.map Int.toNat).Perm ((List.range 16).filter fun n=>decide (n∈l.map Int.toNat)):=ZhZ h1 (List.nodup_range.filter _) fun x=>by
  rw [List.mem_filter,List.mem_range,decide_eq_true_eq]
  exact ⟨fun h=>⟨by obtain ⟨y,hy,rfl⟩:=List.mem_map.mp h;have:=hb y hy;omega,h⟩,fun h=>h.2⟩
 have:=p.length_eq
 rw [List.length_map] at this
 rw [this]
 exact Nat.le_trans (List.length_filter_le _ _) (by simp)
theorem Zeu {kvs:List (Key×V)} {ns:List Int} (h:kvs.map (·.1)=ns.map Sum.inl) (hn:ns.Nodup) (n:Int) (v:V):∃ ns':List Int,(putK kvs (Sum.inl n) v).map (·.1)=ns'.map Sum.inl/\ns'.Nodup/\∀ k,k∈ns' ↔ k=n\/k∈ns:=by
 have hm:(Sum.inl n:Key)∈kvs.map (·.1) ↔ n∈ns:=by
  rw [h,List.mem_map]
  exact ⟨fun ⟨x,hx,e⟩=>by cases e;exact hx,fun h=>⟨n,h,rfl⟩⟩
 unfold putK
 by_cases q:(kvs.any fun kv=>decide (kv.1=(Sum.inl n:Key)))=true
 .rw [if_pos q]
  obtain ⟨kv,hkv,e⟩:=List.any_eq_true.mp q
  have hin:n∈ns:=hm.mp (List.mem_map.mpr ⟨kv,hkv,of_decide_eq_true e⟩)
  refine ⟨ns,?_,hn,fun k=>⟨.inr,fun z=>z.elim (fun e=>e▸hin) id⟩⟩
  rw [<- h,List.map_map]
  refine List.map_congr_left fun kv _=>?_
  show (if kv.1=(Sum.inl n:Key) then (kv.1,v) else kv).1=kv.1
  split<;>rfl
 .rw [if_neg q]
  have hni:n∉ns:=fun z=>q (by
   obtain ⟨kv,hkv,e⟩:=List.mem_map.mp (hm.mpr z)
   exact List.any_eq_true.mpr ⟨kv,hkv,decide_eq_true e⟩)
  first|refine Zaj fun zQ zq=>⟨ns++[n],by rw [List.map_append,List.map_append,h];rfl,List.nodup_append.mpr ⟨hn,by simp,fun a ha b hb e=>hni (by rw [List.mem_singleton] at hb;rw [<- hb,<- e];exact ha)⟩,fun k=>zq _ _ ?_⟩|refine ⟨ns++[n],by rw [List.map_append,List.map_append,h];rfl,List.nodup_append.mpr ⟨hn,by simp,fun a ha b hb e=>hni (by rw [List.mem_singleton] at hb;rw [<- hb,<- e];exact ha)⟩,fun k=>?_⟩
  rw [List.mem_append,List.mem_singleton]
  exact or_comm
theorem Ziq {s t m n:Int}:n∈touchD (.move s t m) ↔ n=s\/n=t:=by
 show n∈(if s=t then [s] else [if t<s then t else s,if t>s then t else s]) ↔ _
 split
 .rw [List.mem_singleton];omega
 .rw [List.mem_cons,List.mem_singleton]
  split<;>split<;>omega
def Zgp (K:PySem.W.Frag):Sp:=fun vs H Q _=>∃ (KL:Addr) (ds:List Dd) (ts:List Addr),vs=[.ref KL]/\H KL=some (.lst (ts.map V.ref))/\TupsAt H ds ts/\ts.length<=100/\∀ H',Same H H'->Q (.int (ds.map worthD).sum) H'
def Zev (K:PySem.W.Frag):Sp:=fun vs H Q _=>∃ (KL:Addr) (ds:List Dd) (ts:List Addr),vs=[.ref KL]/\H KL=some (.lst (ts.map V.ref))/\TupsAt H ds ts/\ts.length<=100/\Zek ds/\∀ (q:Addr) (ms:List Int) (H':Hp),Same H H'->H q=none->H' q=some (.lst (ms.map V.int))->ms.Pairwise (·<·)->(∀ n,n∈ms ↔ n∈ds.flatMap touchD)->Q (.ref q) H'
section
variable {P:Program} {w:World} {K:PySem.W.Frag} {mg:Str->Option Value} {base:Heap}
theorem Zir:FnScope ["_law_kept"] ["_law_kept"] (Zad Zcx):=by walk_at "c"
theorem Zis    (D:ZaS K mg "_law_worth" Zcx) (n_len:mg "len" = none):Cal P w K mg base 1 "_law_worth" (Zgp K):=by
 refine Zbj D Zir (fun vs H Q E h=>?_) (by walk_at "b") (fun f cdv A outer s H vs Q E hr h=>?_)
 .obtain ⟨KL,ds,ts,rfl,_⟩:=h;rfl
 .obtain ⟨KL,ds,ts,rfl,hL,hT,htl,k⟩:=h
  first|refine Zaj fun zQ zq=>⟨_,(Zae (Zao (Zas ZcK Zah (Zap ZbH rfl n_len PySem.boot_len (Zaa (ZbX ["_law_told"] rfl (show CompScope (Zad Zcx) ["_law_kept"] ["_law_told"] _ from ⟨rfl,by decide +kernel,by decide +kernel,by decide +kernel,by decide +kernel,by decide +kernel⟩) (ZaR (pv 0)) (fun _ _ _ _ _=>(Zat (i:=0) (show (["_law_told", "_law_kept"]:List Str).Nodup by decide +kernel) rfl (Or.inl rfl) (.inr rfl))) (fun _ _ _ _ _=>(Zfn (PW.pt (Zcr (Zaq Zbq (Zav (show IxR _ (rIxT K) from Zax) (pv 0) Zah (fun _ _=>rfl)) Zbb (nomark _)) (Zcr (Zaq Zhg (Zav (show IxR _ (rIxT K) from Zax) (pv 0) Zah (fun _ _=>rfl)) Zah (nomark _)) (Zce (Zaq Zbq (Zav (show IxR _ (rIxT K) from Zax) (pv 0) Zah (fun _ _=>rfl)) Zah (nomark _)))))))) (fun _ _ _ _ _=>(pv 0))) Zag))))),zq _ _ ?_⟩|refine ⟨_,(Zae (Zao (Zas ZcK Zah (Zap ZbH rfl n_len PySem.boot_len (Zaa (ZbX ["_law_told"] rfl (show CompScope (Zad Zcx) ["_law_kept"] ["_law_told"] _ from ⟨rfl,by decide +kernel,by decide +kernel,by decide +kernel,by decide +kernel,by decide +kernel⟩) (ZaR (pv 0)) (fun _ _ _ _ _=>(Zat (i:=0) (show (["_law_told", "_law_kept"]:List Str).Nodup by decide +kernel) rfl (Or.inl rfl) (.inr rfl))) (fun _ _ _ _ _=>(Zfn (PW.pt (Zcr (Zaq Zbq (Zav (show IxR _ (rIxT K) from Zax) (pv 0) Zah (fun _ _=>rfl)) Zbb (nomark _)) (Zcr (Zaq Zhg (Zav (show IxR _ (rIxT K) from Zax) (pv 0) Zah (fun _ _=>rfl)) Zah (nomark _)) (Zce (Zaq Zbq (Zav (show IxR _ (rIxT K) from Zax) (pv 0) Zah (fun _ _=>rfl)) Zah (nomark _)))))))) (fun _ _ _ _ _=>(pv 0))) Zag))))),?_⟩
  walk_at "nx"
  walk_at "K"
  refine Zd9 (ZaP ?_)
  walk_at "K"
  first|refine Zaj fun zQ zq=>⟨KL,rfl,⟨_,Zal hL⟩,fun q hq=>zq _ _ ?_⟩|refine ⟨KL,rfl,⟨_,Zal hL⟩,fun q hq=>?_⟩
  refine Zdm (xs:=ts.map V.ref) (fun i H'=>Same H H'/\∃ ys,H' q=some (.lst ys)/\ys.length<=i/\4*(ys.length:Int)=((ds.take i).map worthD).sum) ⟨Same.new hq,[],Zab,Nat.zero_le _,by simp⟩ (fun i H' ⟨s,_⟩=>Zal (s _ _ hL)) ?_ ?_
  .rintro i x H' hx ⟨s1,ys,hy,hyl,hsum⟩
   rw [List.getElem?_map] at hx
   obtain ⟨t,ht,rfl⟩:=Option.map_eq_some_iff.mp hx
   obtain ⟨hi,ei⟩:=List.getElem?_eq_some_iff.mp ht
   have h1:=hT.1
   obtain ⟨d,hd⟩:∃ d,ds[i]?=some d:=⟨_,List.getElem?_eq_getElem (by omega)⟩
   have et:=s1 _ _ (hT.2 i d t hd ht)
   have eds:((ds.take (i+1)).map worthD).sum=((ds.take i).map worthD).sum+worthD d:=by
    rw [List.take_add_one,hd,List.map_append,List.sum_append]
    simp
   have f1:worthD d=4->∃ ys,H' q=some (.lst ys)/\ys.length<sizeLine/\compNx (fun i H'=>Same H H'/\∃ ys,H' q=some (.lst ys)/\ys.length<=i/\4*(ys.length:Int)=((ds.take i).map worthD).sum) (i+1) [some (.ref KL)] (some (.ref t)::[some (.ref KL)]) (upd H' q (.lst (ys++[.ref t]))):=fun hz=>⟨ys,hy,Nat.lt_of_le_of_lt (show ys.length<=100 by omega) (by decide),⟨s1.wr hq,ys++[.ref t],Zab,by rw [List.length_append];show ys.length+1<=i+1;omega,by rw [eds,hz,<- hsum,List.length_append];show 4*((ys.length+1:Nat):Int)=_;omega⟩,_,rfl⟩
   have f0:worthD d=0->compNx (fun i H'=>Same H H'/\∃ ys,H' q=some (.lst ys)/\ys.length<=i/\4*(ys.length:Int)=((ds.take i).map worthD).sum) (i+1) [some (.ref KL)] (some (.ref t)::[some (.ref KL)]) H':=fun hz=>⟨⟨s1,ys,hy,by omega,by rw [eds,hz,hsum];omega⟩,_,rfl⟩
   clear eds hsum
   cases d with
   | save s0 p o n =>
    have et:H' t=some (.tup [.str "save", .int s0,.int p,.int o,.int n]):=et
    have f1:=fun z:o≠0/\n=0=>f1 (if_pos z)
    have f0:=fun z:¬ (o≠0/\n=0)=>f0 (if_neg z)
    walk_at "K'"
    all_goals first|exact absurd rfl (by assumption)|exact f1 ⟨by assumption,by assumption⟩|exact f0 (fun z=>absurd z.2 (by assumption))|exact f0 (fun z=>z.1 (by assumption))
   | note s0 n =>
    have et:H' t=some (.tup [.str "note", .int s0,.int n]):=et
    have f0:=f0 rfl
    walk_at "K'"
    all_goals first|exact absurd (by assumption) (show ¬ ("note" : Str) = "save" by decide)|exact f0|skip
   | move s0 t0 kk =>
    have et:H' t=some (.tup [.str "move", .int s0,.int t0,.int kk]):=et
    have f0:=f0 rfl
    walk_at "K'"
    all_goals first|exact absurd (by assumption) (show ¬ ("move" : Str) = "save" by decide)|exact f0|skip
  .rintro H' ⟨s1,ys,hy,hyl,hsum⟩
   rw [List.length_map,<- hT.1,List.take_length] at hsum
   rw [List.length_map] at hyl
   walk_at "K"
   rw [hsum]
   exact k H' s1
theorem Zcq:FnScope ["_law_kept", "_law_found", "_law_told"] ["_law_kept"] (Zad ZcI):=by walk_at "c"
theorem ZfD    (D:ZaS K mg "_law_touched" ZcI) (n_sorted:mg "sorted" = none):Cal P w K mg base 1 "_law_touched" (Zev K):=by
 refine Zbj D Zcq (fun vs H Q E h=>?_) (by walk_at "b") (fun f cdv A outer s H vs Q E hr h=>?_)
 .obtain ⟨KL,ds,ts,rfl,_⟩:=h;rfl
 .obtain ⟨KL,ds,ts,rfl,hL,hT,hl,hnr,k⟩:=h
  refine ⟨_,(Zac (Zaw (i:=1) Zcq.nd rfl (by first|exact Or.inl rfl|exact Or.inr rfl) Zd5)
   (Zac (ZbD PassesOwn.never rfl (ZaR (pv 0)) (Zat (i:=2) Zcq.nd rfl (by first|exact Or.inl rfl|exact Or.inr rfl))
   (Zac (Zbe (Zaq Zhg (Zav Zax (pv 2) Zah (fun _ _=>rfl)) Zbb (nomark _)) (Zae (ZbK (ZbT hr) (pv 1) (Zav Zax (pv 2) Zah (fun _ _=>rfl)) ZcB rfl)) ZaD)
   (Zae (Zbe (Zaq Zbq (Zav Zax (pv 2) Zah (fun _ _=>rfl)) Zbb (nomark _)) (Zae (ZbK (ZbT hr) (pv 1) (Zav Zax (pv 2) Zah (fun _ _=>rfl)) ZcB rfl)) ZaD))))
   (Zae (Zao (Zap (Zdn rfl) rfl n_sorted PyProof.Rows.boot_sorted (Zaa (pv 1) Zag)))))),?_⟩
  walk_at "nx"
  walk_at "K"
  rename_i FD hFD
  have s0:=Same.new hFD (o:=.dK [])
  refine ZbG (ZaP ?_)
  walk_at "K"
  refine ⟨KL,rfl,⟨_,Zal (s0 _ _ hL)⟩,Za9 (xs:=ts.map V.ref) (fun i σ' H'=>Same H H'/\(∃ kvs ns,H' FD=some (.dK kvs)/\kvs.map (·.1)=ns.map Sum.inl/\ns.Nodup/\∀ n,n∈ns ↔ n∈(ds.take i).flatMap touchD)/\∃ v2,σ'=[some (.ref KL),some (.ref FD),v2]) ⟨s0,⟨[],[],Zab,rfl,List.nodup_nil,fun n=>by simp⟩,_,rfl⟩ (fun i σ' H' _ ⟨e,_⟩=>Zal (e _ _ hL)) ?_ ?_⟩
  .rintro i x σ' H' hx ⟨s1,⟨kvs,ns,hk,hkn,hnd,hm⟩,v2,rfl⟩
   rw [List.getElem?_map] at hx
   obtain ⟨t,ht,rfl⟩:=Option.map_eq_some_iff.mp hx
   obtain ⟨hi,ei⟩:=List.getElem?_eq_some_iff.mp ht
   have h1:=hT.1
   obtain ⟨d,hd⟩:∃ d,ds[i]?=some d:=⟨_,List.getElem?_eq_getElem (by omega)⟩
   have et:=s1 _ _ (hT.2 i d t hd ht)
   have hn:=hnr d (List.mem_of_getElem? hd)
   have eds:∀ n,n∈(ds.take (i+1)).flatMap touchD ↔ n∈ns\/n∈touchD d:=fun n=>by
    rw [List.take_add_one,hd,List.flatMap_append,List.mem_append,hm]
    simp
   have hb:∀ n∈ns,0<=n/\n<16:=fun n hn'=>by
    obtain ⟨d',hd',hn2⟩:=List.mem_flatMap.mp ((hm n).mp hn')
    have z:=hnr d' (List.mem_of_mem_take hd')
    exact Zcc z.1 z.2 n hn2
   have hkl:kvs.length<sizeLine:=by
    have e:=congrArg List.length hkn
    rw [List.length_map,List.length_map] at e
    have:=len16 hnd hb
    exact Nat.lt_of_le_of_lt (show kvs.length<=100 by omega) (by decide)
   cases d with
   | save s0 p o n =>
    have et:H' t=some (.tup [.str "save", .int s0,.int p,.int o,.int n]):=et
    walk_at "K'"
    all_goals first|exact absurd (by assumption) (show ¬ ("save" : Str) = "note" by decide)|exact absurd (by assumption) (show ¬ ("save" : Str) = "move" by decide)|skip
    refine Zbt hk hkl ?_
    obtain ⟨ns',e1,e2,e3⟩:=Zeu hkn hnd s0 (.bl true)
    have et2:(upd H' FD (.dK (putK kvs (Sum.inl s0) (.bl true)))) t=some (.tup [.str "save", .int s0,.int p,.int o,.int n]):=by rw [Zaf (ZaF et hk (by intro z;cases z))];exact et
    have fin:(Same H (upd H' FD (.dK (putK kvs (Sum.inl s0) (.bl true))))/\(∃ (kvs':List (Key×V)) (ns:List Int),(upd H' FD (.dK (putK kvs (Sum.inl s0) (.bl true)))) FD=some (.dK kvs')/\kvs'.map (·.1)=ns.map Sum.inl/\ns.Nodup/\∀ n,n∈ns ↔ n∈(ds.take (i+1)).flatMap touchD)/\∃ v2,([some (.ref KL),some (.ref FD),some (.ref t)]:St)=[some (.ref KL),some (.ref FD),v2]):=⟨s1.wr hFD,⟨_,ns',Zab,e1,e2,fun n=>by rw [e3,eds];show _ ↔ _\/n∈[s0];rw [List.mem_singleton];exact or_comm⟩,_,rfl⟩
    walk_at "K'"
    all_goals first|exact absurd (by assumption) (show ¬ ("save" : Str) = "move" by decide)|exact fin
   | note s0 n =>
    have et:H' t=some (.tup [.str "note", .int s0,.int n]):=et
    have fin:(Same H H'/\(∃ (kvs:List (Key×V)) (ns:List Int),H' FD=some (.dK kvs)/\kvs.map (·.1)=ns.map Sum.inl/\ns.Nodup/\∀ n,n∈ns ↔ n∈(ds.take (i+1)).flatMap touchD)/\∃ v2,([some (.ref KL),some (.ref FD),some (.ref t)]:St)=[some (.ref KL),some (.ref FD),v2]):=⟨s1,⟨kvs,ns,hk,hkn,hnd,fun n=>by rw [eds];exact ⟨.inl,fun z=>z.elim id fun z=>nomatch z⟩⟩,_,rfl⟩
    walk_at "K'"
    all_goals first|exact absurd rfl (by assumption)|exact absurd (by assumption) (show ¬ ("note" : Str) = "move" by decide)|exact fin
   | move s0 t0 kk =>
    have et:H' t=some (.tup [.str "move", .int s0,.int t0,.int kk]):=et
    walk_at "K'"
    all_goals first|exact absurd (by assumption) (show ¬ ("move" : Str) = "note" by decide)|skip
    refine Zbt hk hkl ?_
    obtain ⟨ns',e1,e2,e3⟩:=Zeu hkn hnd s0 (.bl true)
    have et2:(upd H' FD (.dK (putK kvs (Sum.inl s0) (.bl true)))) t=some (.tup [.str "move", .int s0,.int t0,.int kk]):=by rw [Zaf (ZaF et hk (by intro z;cases z))];exact et
    walk_at "K'"
    all_goals first|exact absurd rfl (by assumption)|skip
    have hkl2:(putK kvs (Sum.inl s0:Key) (.bl true)).length<sizeLine:=by
     have e:=congrArg List.length e1
     rw [List.length_map,List.length_map] at e
     have e4:=len16 (l:=ns') e2 fun n hn'=>by
      rcases (e3 n).mp hn' with rfl|h
      .exact ⟨hn.1.1,hn.1.2.1⟩
      .exact hb n h
     exact Nat.lt_of_le_of_lt (show _<=100 by omega) (by decide)
    refine Zbt Zab hkl2 ?_
    obtain ⟨ns2,g1,g2,g3⟩:=Zeu e1 e2 t0 (.bl true)
    rw [Za0]
    exact ⟨s1.wr hFD,⟨_,ns2,Zab,g1,g2,fun n=>by rw [g3,e3,eds,Ziq];exact ⟨fun z=>z.elim (fun z=>.inr (.inr z)) fun z=>z.elim (fun z=>.inr (.inl z)) .inl,fun z=>z.elim (fun z=>.inr (.inr z)) fun z=>z.elim (fun z=>.inr (.inl z)) .inl⟩⟩,_,rfl⟩
  .rintro σ' H' ⟨s1,⟨kvs,ns,hk,hkn,hnd,hm⟩,v2,rfl⟩
   rw [List.length_map,<- hT.1,List.take_length] at hm
   have hb:∀ n∈ns,0<=n/\n<16:=fun n hn'=>by
    obtain ⟨d',hd',hn2⟩:=List.mem_flatMap.mp ((hm n).mp hn')
    have z:=hnr d' hd'
    exact Zcc z.1 z.2 n hn2
   walk_at "K"
   refine ZdV hk hkn (Nat.lt_of_le_of_lt (len16 hnd hb) (by decide)) fun ms hp hle q hq=>?_
   walk_at "K"
   exact k q ms _ (s1.newT hq) (s1.fresh hq) Zab (Zcu hle (hp.nodup_iff.mpr hnd)) fun n=>by rw [hp.mem_iff];exact hm n
end
structure LS (H:Hp) (cd sd:Addr) (A:Nat->Option AcI) (S:Nat->AcS) (m:Nat):Prop where
 co:∃ kvs,H cd=some (.dK kvs)/\kvs.length<=16+2*m/\∀ i x,i<16->A i=some x->valV kvs (Sum.inl (i:Int):Key)=some (.int (S i).coin)
 st:∃ kvs:List (List Key×V),H sd=some (.dT kvs)/\kvs.length<=m/\(kvs.map (·.1)).Nodup/\(∀ z∈kvs,∃ i p n:Int,z=([Sum.inl i,Sum.inl p],.int n))/\∀ i x (p:Int),i<16->A i=some x->(valV kvs ([Sum.inl (i:Int),Sum.inl p]:List Key)).getD (.int 0)=.int ((S i).store p)
theorem LS.same {H H':Hp} {cd sd:Addr} {A:Nat->Option AcI} {S:Nat->AcS} {m:Nat} (l:LS H cd sd A S m) (s:∀ b o,H b=some o->(b=cd\/b=sd)->H' b=some o):LS H' cd sd A S m :=
 ⟨let ⟨k,a,b⟩:=l.co;⟨k,s _ _ a (.inl rfl),b⟩,let ⟨k,a,b⟩:=l.st;⟨k,s _ _ a (.inr rfl),b⟩⟩
theorem LS.le {H:Hp} {cd sd:Addr} {A:Nat->Option AcI} {S:Nat->AcS} {m m':Nat} (l:LS H cd sd A S m) (h:m<=m'):LS H cd sd A S m' :=
 ⟨let ⟨k,a,b,c⟩:=l.co;⟨k,a,by omega,c⟩,let ⟨k,a,b,c⟩:=l.st;⟨k,a,by omega,c⟩⟩
def okMove (S:Nat->AcS) (d:Dd):Prop:=∀ s t k,d=.move s t k->0<=k/\k<=(S s.toNat).coin
theorem Zk3 {A:Nat->Option AcI} {S:Nat->AcS} {d:Dd} (h:∀ n,0<=(S n).coin) (o:okMove S d) (f:fitsD A d):∀ n,0<=(doneS S d n).coin:=fun n=>by
 cases d with
 | save s p o n'=>rw [Zfb];exact h n
 | move s t k =>
  obtain ⟨⟨i,x,rfl,_,_⟩,j,y,rfl,_,_⟩:=f
  obtain ⟨a,b⟩:=o _ _ _ rfl
  rw [Int.toNat_natCast] at b
  exact Zik h a b n
 | note s n'=>exact h n
theorem Zk4 {H:Hp} {cd sd:Addr} {A:Nat->Option AcI} {S:Nat->AcS} {m:Nat} {k1:List (Key×V)} (l:LS H cd sd A S m) (hk:H cd=some (.dK k1)) {i j:Nat} {many:Int} {x y:AcI} (hi:i<16) (hx:A i=some x) (hj:j<16) (hy:A j=some y) :
  ∃ v,valV (putK k1 (Sum.inl (i:Int)) (.int ((S i).coin-many))) (Sum.inl (j:Int))=some (.int v)/\LS (upd H cd (.dK (putK (putK k1 (Sum.inl (i:Int)) (.int ((S i).coin-many))) (Sum.inl (j:Int)) (.int (v+many))))) cd sd A (doneS S (.move i j many)) (m+1):=by
 obtain ⟨k1',a,b,c⟩:=l.co
 rw [hk] at a
 cases a
 obtain ⟨k2,a2,b2,n2,s2,c2⟩:=l.st
 have ne:sd≠cd:=ZaF a2 hk (by intro z;cases z)
 have key:∀ n:Nat,(Sum.inl (n:Int):Key)=Sum.inl (i:Int) ↔ n=i:=fun n=>⟨fun z=>by have:=Sum.inl.inj z;omega,fun z=>by rw [z]⟩
 have key2:∀ n:Nat,(Sum.inl (n:Int):Key)=Sum.inl (j:Int) ↔ n=j:=fun n=>⟨fun z=>by have:=Sum.inl.inj z;omega,fun z=>by rw [z]⟩
 refine ⟨(S j).coin-(if j=i then many else 0),?_,⟨_,Zab,?_,fun n z hn hz=>?_⟩,k2,by rw [Zaf ne];exact a2,by omega,n2,s2,fun n z p hn hz=>?_⟩
 .rw [ZbJ]
  by_cases e:j=i
  .rw [if_pos ((key j).mpr e),if_pos e,e]
  .rw [if_neg (fun z=>e ((key j).mp z)),if_neg e,c j y hj hy,Int.sub_zero]
 .have:=ZaY (putK k1 (Sum.inl (i:Int)) (V.int ((S i).coin-many))) (Sum.inl (j:Int)) (V.int ((S j).coin-(if j=i then many else 0)+many))
  have:=ZaY k1 (Sum.inl (i:Int)) (V.int ((S i).coin-many))
  omega
 .show _=some (V.int (moved S _ _ many n).coin)
  rw [Za7,Int.toNat_natCast,Int.toNat_natCast,ZbJ,ZbJ]
  by_cases e:n=j
  .rw [if_pos ((key2 n).mpr e),if_pos e,e]
  .rw [if_neg (fun z=>e ((key2 n).mp z)),if_neg e]
   by_cases e2:n=i
   .rw [if_pos ((key n).mpr e2),if_pos e2,e2,Int.add_zero]
   .rw [if_neg (fun z=>e2 ((key n).mp z)),if_neg e2,c n z hn hz,Int.sub_zero,Int.add_zero]
 .rw [c2 n z p hn hz]
  show _=V.int ((moved S _ _ many n).store p)
  rw [Za7]
theorem Zk5 {H:Hp} {cd sd:Addr} {A:Nat->Option AcI} {S:Nat->AcS} {m:Nat} {k2:List (List Key×V)} (l:LS H cd sd A S m) (hk:H sd=some (.dT k2)) (i:Nat) (p o n:Int) :
  LS (upd H sd (.dT (putK k2 ([Sum.inl (i:Int),Sum.inl p]:List Key) (.int n)))) cd sd A (doneS S (.save i p o n)) (m+1):=by
 obtain ⟨k1,a,b,c⟩:=l.co
 obtain ⟨k2',a2,b2,n2,s2,c2⟩:=l.st
 rw [hk] at a2
 cases a2
 have ne:cd≠sd:=ZaF a hk (by intro z;cases z)
 refine ⟨⟨k1,by rw [Zaf ne];exact a,by omega,fun j z hj hz=>?_⟩,_,Zab,Nat.le_trans (ZaY ..) (by omega),ZeS _ n2,(fun z hz=>(ZfX hz).elim (fun e=>⟨_,_,_,e⟩) (s2 z)),fun j z q hj hz=>?_⟩
 .rw [c j z hj hz,Zfb]
 .show _=V.int ((setS S _ _ j).store q)
  rw [Int.toNat_natCast,ZbJ]
  unfold setS
  by_cases e:j=i
  .subst e
   rw [if_pos rfl]
   show _=V.int (putFn _ p n q)
   unfold putFn
   by_cases e2:q=p
   .subst e2
    rw [if_pos rfl,if_pos rfl]
    rfl
   .rw [if_neg (fun z=>e2 (by simpa using z)),if_neg e2]
    exact c2 j z q hj hz
  .rw [if_neg e,if_neg (fun z=>e (by have:=Sum.inl.inj (List.cons.inj z).1;omega))]
   exact c2 j z q hj hz
def Zff (K:PySem.W.Frag):Sp:=fun vs H Q _=>∃ (sl cd sd pl:Addr) (c:Int) (A:Nat->Option AcI) (S:Nat->AcS) (m:Nat) (ss:List Nat) (ps:List Int),vs=[.int c,.ref sl,.ref cd,.ref sd,.ref pl]/\LS H cd sd A S m/\m<=1000/\(∀ i,0<=(S i).coin)/\H sl=some (.lst (slotV ss))/\2<=ss.length/\ss.length<=5/\hasAll A ss/\H pl=some (.lst (ps.map V.int))/\ps.length=3 /\
 ∀ t d H',Same H H'->H t=none->H' t=some (.tup (tellV d))->fitsD A d->rightD S d->okMove S d->(near d/\∀ s p o n,d=.save s p o n->0<=s/\s<16)->Q (.ref t) H'
section
variable {P:Program} {w:World} {K:PySem.W.Frag} {mg:Str->Option Value} {base:Heap}
theorem ZaA:FnScope ["_law_cell", "_law_slots", "_law_coins", "_law_stores", "_law_places", "_law_mixed_here", "_law_way", "_law_slot", "_law_rest", "_law_taker", "_law_many", "_law_place", "_law_new"] ["_law_cell", "_law_slots", "_law_coins", "_law_stores", "_law_places"] (Zad ZcH):=by walk_at "c"
theorem ZfE    (D:ZaS K mg "_law_deed_by" ZcH) (c_Lmixed:Cal P w K mg base 1 "_law_mixed" Zc2) (c_Lwide:Cal P w K mg base 1 "_law_wide" spWide) (n_len:mg "len" = none):Cal P w K mg base 2 "_law_deed_by" (Zff K):=by
 refine Zbj D ZaA (fun vs H Q E h=>?_) (by walk_at "b") (fun f cdv A outer s H vs Q E hr h=>?_)
 .obtain ⟨sl,cd,sd,pl,c,A,S,m,ss,ps,rfl,_⟩:=h;rfl
 .obtain ⟨sl,cd,sd,pl,c,Ar,S,m,ss,ps,rfl,l,hm,hcn,hsl,h2,h5,hA,hpl,hp3,k⟩:=h
  refine ⟨_,(Zac (Zaw (i:=5) ZaA.nd rfl (by first|exact Or.inl rfl|exact Or.inr rfl) (Zas Zba (ZaC c_Lmixed (hr.mono (by decide)) rfl (Zaa (pv 0) Zag)) Zah))
   (Zac (Zaw (i:=6) ZaA.nd rfl (by first|exact Or.inl rfl|exact Or.inr rfl) (Zas ZaQ (pv 5) Zah))
   (Zac (Zaw (i:=7) ZaA.nd rfl (by first|exact Or.inl rfl|exact Or.inr rfl) (Zav ZaE (pv 1) (Zas ZaQ (Zas Zba (pv 5) Zah) (Zap ZbH rfl n_len PySem.boot_len (Zaa (pv 1) Zag))) (fun _ _=>rfl)))
   (Zac (Zaw (i:=8) ZaA.nd rfl (by first|exact Or.inl rfl|exact Or.inr rfl) (Zas Zba (Zas Zba (pv 5) Zah) (Zap ZbH rfl n_len PySem.boot_len (Zaa (pv 1) Zag))))
   (Zac (Zbe (Zaq Zbq (pv 6) Zah (nomark _)) (Zae (Zao (Zbh (Zaa Zbb (Zaa (pv 7) (Zaa (ZaC c_Lwide (hr.mono (by decide)) rfl (Zaa (pv 0) Zag)) Zag)))))) ZaD)
   (Zac (Zbe (Zaq Zbq (pv 6) Zah (nomark _)) (Zac (Zaw (i:=9) ZaA.nd rfl (by first|exact Or.inl rfl|exact Or.inr rfl) (Zav ZaE (pv 1) (Zas ZaQ (pv 8) (Zap ZbH rfl n_len PySem.boot_len (Zaa (pv 1) Zag))) (fun _ _=>rfl)))
   (Zac (Zaw (i:=10) ZaA.nd rfl (by first|exact Or.inl rfl|exact Or.inr rfl) (ZbV (ZbT hr) (pv 2) (pv 7) (fun _ _=>rfl)))
   (Zac (Zgc (Zbe (Zaq Zj3 (Zas ZaQ (Zas Zba (pv 8) Zah) Zah) Zah (nomark _)) (Zae (Zaw (i:=10) ZaA.nd rfl (by first|exact Or.inl rfl|exact Or.inr rfl) (Zas ZaQ (ZaC c_Lwide (hr.mono (by decide)) rfl (Zaa (pv 0) Zag)) (Zas ZbU (pv 10) Zah)))) ZaD))
   (Zae (Zao (Zbh (Zaa Zbb (Zaa (pv 7) (Zaa (pv 9) (Zaa (pv 10) Zag)))))))))) ZaD)
   (Zac (Zaw (i:=11) ZaA.nd rfl (by first|exact Or.inl rfl|exact Or.inr rfl) (Zav ZaE (Zas ZjJ (pv 4) (Zbc (Zaa (Zas ZaQ (pv 0) (Zas ZdP Zah Zah)) Zag))) (Zas ZaQ (pv 8) Zah) (fun _ _=>rfl)))
   (Zac (Zaw (i:=12) ZaA.nd rfl (by first|exact Or.inl rfl|exact Or.inr rfl) Zah)
   (Zac (Zgc (Zbe (Zaq Zj3 (Zas ZaQ (Zas Zba (pv 8) Zah) Zah) Zah (nomark _)) (Zae (Zaw (i:=12) ZaA.nd rfl (by first|exact Or.inl rfl|exact Or.inr rfl) (ZaC c_Lwide (hr.mono (by decide)) rfl (Zaa (pv 0) Zag)))) ZaD))
   (Zae (Zao (Zbh (Zaa Zbb (Zaa (pv 7) (Zaa (pv 11) (Zaa (ZiN (ZbT hr) (pv 3) (Zbh (Zaa (pv 7) (Zaa (pv 11) Zag))) Zah ⟨rfl,rfl,rfl,rfl⟩) (Zaa (pv 12) Zag))))))))))))))))),?_⟩
  walk_at "nx"
  obtain ⟨k1,hcd,hkl,hcv⟩:=l.co
  obtain ⟨k2,hsd,hkl2,_,_,hsv⟩:=l.st
  have hlen:(slotV ss).length=ss.length:=List.length_map ..
  have hsq:SqL K H sl (slotV ss):=Zal hsl
  have sz:=PySem.sizeLine_eq
  walk_at "K"
  first|refine Zaj fun zQ zq=>⟨_,rfl,fun z z0 z1=>zq _ _ ?_⟩|refine ⟨_,rfl,fun z z0 z1=>?_⟩
  walk_at "K"
  obtain ⟨zz,hzz,zz0⟩:∃ zz:Int,z / 4=zz/\0<=zz:=⟨_,rfl,by omega⟩
  rw [hzz]
  clear hzz
  walk_at "K"
  obtain ⟨i,hi,ei⟩:=Zig (ss:=ss) (j:=zz / 4 % ((slotV ss).length:Nat)) (by apply Int.emod_nonneg;omega) (by rw [<- hlen];apply Int.emod_lt_of_pos;omega)
  obtain ⟨hi16,x,hx⟩:=hA i hi
  refine Zbd hsq ei ?_
  walk_at "K"
  .walk_at "K"
   first|refine Zaj fun zQ zq=>⟨_,rfl,fun w w0 w1=>zq _ _ ?_⟩|refine ⟨_,rfl,fun w w0 w1=>?_⟩
   walk_at "K"
   refine ⟨show 3<=sizeLine by decide,fun t ht=>?_⟩
   exact k t (.note i w) _ (Same.new ht) ht Zab trivial trivial (fun _ _ _ e=>by cases e) ⟨trivial,fun _ _ _ _ e=>by cases e⟩
  walk_at "K"
  .walk_at "K"
   obtain ⟨j,hj,ej⟩:=Zig (ss:=ss) (j:=zz / 4 / ((slotV ss).length:Nat) % ((slotV ss).length:Nat)) (by apply Int.emod_nonneg;omega) (by rw [<- hlen];apply Int.emod_lt_of_pos;omega)
   obtain ⟨hj16,y,hy⟩:=hA j hj
   refine Zbd hsq ej ?_
   walk_at "K"
   have dg:DGet H cd (.int (i:Int)) (some (.int (S i).coin)):=by
    have:=DGet.k (k:=Sum.inl (i:Int)) hcd
    rw [hcv i x hi16 hx] at this
    exact this
   first|refine Zaj fun zQ zq=>⟨cd,_,rfl,dg,zq _ _ ?_⟩|refine ⟨cd,_,rfl,dg,?_⟩
   have hc:=hcn i
   walk_at "K"
   refine Zgb (fun σ' H'=>H=H'/\∃ many,0<=many/\many<=(S i).coin/\σ'=[some (.int c),some (.ref sl),some (.ref cd),some (.ref sd),some (.ref pl),some (.int zz),some (.int (zz % 4)),some (.int (i:Int)),some (.int (zz / 4 / ((slotV ss).length:Nat))),some (.int (j:Int)),some (.int many),none,none]) ?_ ?_
   .walk_at "K'"
    .first|refine Zaj fun zQ zq=>⟨_,rfl,fun w w0 w1=>zq _ _ ?_⟩|refine ⟨_,rfl,fun w w0 w1=>?_⟩
     walk_at "K"
     have m0:0<=w % ((S i).coin+1):=Int.emod_nonneg _ (by omega)
     have m1:w % ((S i).coin+1)<=(S i).coin:=by have:=Int.emod_lt_of_pos w (show 0<(S i).coin+1 by omega);omega
     exact ⟨rfl,_,m0,m1,rfl⟩
    .exact ⟨rfl,_,hc,Int.le_refl _,rfl⟩
   rintro σ' H' ⟨rfl,many,m0,m1,rfl⟩
   dsimp only
   walk_at "K"
   refine ⟨show 4<=sizeLine by decide,fun t ht=>?_⟩
   exact k t (.move i j many) _ (Same.new ht) ht Zab ⟨⟨i,x,rfl,hi16,hx⟩,j,y,rfl,hj16,hy⟩ trivial (fun _ _ _ e=>by cases e;exact ⟨m0,by rw [Int.toNat_natCast];exact m1⟩) ⟨⟨by omega,by omega,by omega,by omega⟩,fun _ _ _ _ e=>by cases e⟩
  .walk_at "K"
   refine ⟨show 1<=sizeLine by decide,fun z1 hz1=>?_⟩
   refine ZjM (xs:=ps.map V.int) (ys:=[_]) ((Same.new hz1) _ _ hpl) Zab (by rw [List.length_map,hp3];show 3+1<=_;decide) fun z2 hz2=>?_
   have sm:=(Same.new hz1 (o:=.lst [V.int (c % 2 ^ Int.toNat 64)])).newT hz2 (o:=.lst (ps.map V.int++[V.int (c % 2 ^ Int.toNat 64)]))
   have hz3:(upd (upd H z1 (.lst [V.int (c % 2 ^ Int.toNat 64)])) z2 (.lst (ps.map V.int++[V.int (c % 2 ^ Int.toNat 64)]))) z2=some (.lst ((ps++[c % 2 ^ Int.toNat 64]).map V.int)):=by rw [Zab,List.map_append];rfl
   generalize upd (upd H z1 _) z2 _=H2 at sm hz3
   (revert H2 sm hz3;refine keepIt ?_;intro H2 sm hz3)
   walk_at "K"
   obtain ⟨pv,e1,e2⟩:=ZfV (xs:=ps++[c % 2 ^ Int.toNat 64]) (i:=zz / 4 / ((slotV ss).length:Nat) % 4) (by omega) (by rw [List.length_append,hp3];show _<((3+1:Nat):Int);omega)
   have e3:((ps++[c % 2 ^ Int.toNat 64]).map V.int)[(zz / 4 / ((slotV ss).length:Nat) % 4).toNat]?=some (.int pv):=by rw [List.getElem?_map,e2];rfl
   refine Zbd (Zal hz3) (Zb8 e3 (by omega)) ?_
   walk_at "K"
   refine Zgb (fun σ' H'=>H2=H'/\∃ w,σ'=[some (.int c),some (.ref sl),some (.ref cd),some (.ref sd),some (.ref pl),some (.int zz),some (.int (zz % 4)),some (.int (i:Int)),some (.int (zz / 4 / ((slotV ss).length:Nat))),none,none,some (.int pv),some (.int w)]) ?_ ?_
   .walk_at "K'"
    .first|refine Zaj fun zQ zq=>⟨_,rfl,fun w w0 w1=>zq _ _ ?_⟩|refine ⟨_,rfl,fun w w0 w1=>?_⟩
     walk_at "K"
     exact ⟨rfl,_,rfl⟩
    .exact ⟨rfl,_,rfl⟩
   rintro σ' H' ⟨rfl,w,rfl⟩
   dsimp only
   walk_at "K"
   first|refine Zaj fun zQ zq=>⟨sd,rfl,.inr ⟨_,.inl (sm _ _ hsd)⟩,zq _ _ ?_⟩|refine ⟨sd,rfl,.inr ⟨_,.inl (sm _ _ hsd)⟩,?_⟩
   walk_at "K"
   refine ⟨show 2<=sizeLine by decide,fun q1 hq1=>?_⟩
   have sm2:=sm.newT hq1 (o:=.tup [.int (i:Int),.int pv])
   have gq1:(upd H2 q1 (.tup [.int (i:Int),.int pv])) q1=some (.tup [.int (i:Int),.int pv]):=Zab
   generalize upd H2 q1 _=H3 at sm2 gq1
   (revert H3 sm2 gq1;refine keepIt ?_;intro H3 sm2 gq1)
   walk_at "K"
   refine ⟨_,DGet.t (k:=[Sum.inl (i:Int),Sum.inl pv]) (sm2 _ _ hsd) gq1,?_⟩
   rw [hsv i x pv hi16 hx]
   walk_at "K"
   refine ⟨show 5<=sizeLine by decide,fun t ht=>?_⟩
   exact k t (.save i pv ((S i).store pv) w) _ (sm2.newT ht) (sm2.fresh ht) Zab ⟨i,x,rfl,hi16,hx⟩ rfl (fun _ _ _ e=>by cases e) ⟨trivial,fun s p o n e=>by cases e;exact ⟨by omega,by omega⟩⟩
end
theorem ZjA {σ:St} {H:Hp} {Q:VK} (q:∀ p,H p=none->Q (.ref p) (upd H p (.dT []))):tDNewT σ H Q:=q
def FirstAt (H:Hp) (FD:Addr) (A:Nat->Option AcI) (S0:Nat->AcS):Prop:=∃ kv0,H FD=some (.dK kv0)/\kv0.length<=16/\∀ i x,i<16->A i=some x->valV kv0 (Sum.inl (i:Int):Key)=some (.int (S0 i).coin)
theorem FirstAt.same {H H':Hp} {FD:Addr} {A:Nat->Option AcI} {S0:Nat->AcS} (h:FirstAt H FD A S0) (s:Same H H'):FirstAt H' FD A S0:=let ⟨k,a,b⟩:=h;⟨k,s _ _ a,b⟩
def Zit (K:PySem.W.Frag):Sp:=fun vs H Q _=>∃ (KL FD:Addr) (ds:List Dd) (ts:List Addr) (A:Nat->Option AcI) (S0:Nat->AcS),vs=[.ref KL,.ref FD]/\H KL=some (.lst (ts.map V.ref))/\TupsAt H ds ts/\ts.length<=100/\FirstAt H FD A S0/\(∀ i p,(S0 i).store p=0)/\(∀ d∈ds,fitsD A d) /\
 ∀ T CD SD H',Same H H'->H T=none->H CD=none->H SD=none->H' T=some (.tup [.ref CD,.ref SD])->LS H' CD SD A (runS S0 ds) ds.length->Q (.ref T) H'
section
variable {P:Program} {w:World} {K:PySem.W.Frag} {mg:Str->Option Value} {base:Heap}
theorem Zc4:FnScope ["_law_kept", "_law_first", "_law_coins", "_law_stores", "_law_told"] ["_law_kept", "_law_first"] (Zad Zfu):=by walk_at "c"
theorem ZjB    (D:ZaS K mg "_law_done" Zfu) (n_dict:mg "dict" = none):Cal P w K mg base 1 "_law_done" (Zit K):=by
 refine Zbj D Zc4 (fun vs H Q E h=>?_) (by walk_at "b") (fun f cdv A outer s H vs Q E hr h=>?_)
 .obtain ⟨KL,FD,ds,ts,A,S0,rfl,_⟩:=h;rfl
 .obtain ⟨KL,FD,ds,ts,Ar,S0,rfl,hL,hT,htl,⟨kv0,hFD,hkl0,hv0⟩,hz0,hfit,k⟩:=h
  refine ⟨_,(Zac (Zaw (i:=2) Zc4.nd rfl (by first|exact Or.inl rfl|exact Or.inr rfl) (ZbF Zjs rfl n_dict PyProof.Rows.boot_dict (Zaa (pv 1) Zag)))
   (Zac (Zaw (i:=3) Zc4.nd rfl (by first|exact Or.inl rfl|exact Or.inr rfl) ZiM)
   (Zac (ZbD PassesOwn.never rfl (ZaR (pv 0)) (Zat (i:=4) Zc4.nd rfl (by first|exact Or.inl rfl|exact Or.inr rfl))
   (Zac (Zbe (Zaq Zbq (Zav Zax (pv 4) Zah (fun _ _=>rfl)) Zbb (nomark _)) (Zae (ZbK (ZbT hr) (pv 3) (Zbh (Zaa (Zav Zax (pv 4) Zah (fun _ _=>rfl)) (Zaa (Zav Zax (pv 4) Zah (fun _ _=>rfl)) Zag))) (Zav Zax (pv 4) Zah (fun _ _=>rfl)) rfl)) ZaD)
   (Zae (Zbe (Zaq Zbq (Zav Zax (pv 4) Zah (fun _ _=>rfl)) Zbb (nomark _)) (Zac (ZbK (ZbT hr) (pv 2) (Zav Zax (pv 4) Zah (fun _ _=>rfl)) (Zas Zhc (ZbV (ZbT hr) (pv 2) (Zav Zax (pv 4) Zah (fun _ _=>rfl)) (fun _ _=>rfl)) (Zav Zax (pv 4) Zah (fun _ _=>rfl))) rfl)
   (Zae (ZbK (ZbT hr) (pv 2) (Zav Zax (pv 4) Zah (fun _ _=>rfl)) (Zas ZbU (ZbV (ZbT hr) (pv 2) (Zav Zax (pv 4) Zah (fun _ _=>rfl)) (fun _ _=>rfl)) (Zav Zax (pv 4) Zah (fun _ _=>rfl))) rfl))) ZaD))))
   (Zae (Zao (Zbh (Zaa (pv 2) (Zaa (pv 3) Zag)))))))),?_⟩
  walk_at "nx"
  walk_at "K"
  refine Zjt hFD fun CD hCD=>?_
  walk_at "K"
  refine ZjA fun SD hSD=>?_
  have s0:=(Same.new hCD (o:=.dK kv0)).newT hSD (o:=.dT [])
  have eCD:(upd (upd H CD (.dK kv0)) SD (.dT [])) CD=some (.dK kv0):=(Same.new hSD) _ _ Zab
  have eSD:(upd (upd H CD (.dK kv0)) SD (.dT [])) SD=some (.dT []):=Zab
  have nSD:=(Same.new hCD (o:=.dK kv0)).fresh hSD
  generalize upd (upd H CD (.dK kv0)) SD (.dT [])=H0 at s0 eCD eSD |-
  (revert H0 s0 eCD eSD;refine keepIt ?_;intro H0 s0 eCD eSD)
  have l0:LS H0 CD SD Ar S0 0:=⟨⟨kv0,eCD,by omega,hv0⟩,[],eSD,Nat.le_refl _,List.nodup_nil,(fun _ z=>nomatch z),fun i x p _ _=>by rw [hz0];rfl⟩
  walk_at "K"
  refine ZbG (ZaP ?_)
  walk_at "K"
  refine ⟨KL,rfl,⟨_,Zal (s0 _ _ hL)⟩,Za9 (xs:=ts.map V.ref) (fun i σ' H'=>Same H H'/\LS H' CD SD Ar (runS S0 (ds.take i)) i/\∃ v,σ'=[some (.ref KL),some (.ref FD),some (.ref CD),some (.ref SD),v]) ⟨s0,l0,_,rfl⟩ (fun i σ' H' _ ⟨e,_⟩=>Zal (e _ _ hL)) ?_ ?_⟩
  .rintro i x σ' H' hx ⟨s1,l,v,rfl⟩
   rw [List.getElem?_map] at hx
   obtain ⟨t,ht,rfl⟩:=Option.map_eq_some_iff.mp hx
   obtain ⟨hi,ei⟩:=List.getElem?_eq_some_iff.mp ht
   have h1:=hT.1
   obtain ⟨d,hd⟩:∃ d,ds[i]?=some d:=⟨_,List.getElem?_eq_getElem (by omega)⟩
   have et:=s1 _ _ (hT.2 i d t hd ht)
   have hf:=hfit d (List.mem_of_getElem? hd)
   have eds:runS S0 (ds.take (i+1))=doneS (runS S0 (ds.take i)) d:=by
    rw [List.take_add_one,hd]
    exact Zcz _ _ _
   obtain ⟨k1,hcd,hkl1,hcv⟩:=l.co
   obtain ⟨k2,hsd,hkl2,_⟩:=l.st
   have sz:=PySem.sizeLine_eq
   cases d with
   | save s0' p o n =>
    have et:H' t=some (.tup [.str "save", .int s0',.int p,.int o,.int n]):=et
    obtain ⟨a,x,rfl,ha,hxa⟩:=hf
    walk_at "K'"
    all_goals first|exact absurd (by assumption) (show ¬ ("save" : Str) = "move" by decide)|exact absurd rfl (by assumption)|skip
    refine ⟨show 2<=sizeLine by decide,fun q1 hq1=>?_⟩
    have sm:=Same.new hq1 (o:=.tup [.int (a:Int),.int p])
    have gq:(upd H' q1 (.tup [.int (a:Int),.int p])) q1=some (.tup [.int (a:Int),.int p]):=Zab
    generalize upd H' q1 _=H2 at sm gq |-
    (revert H2 sm gq;refine keepIt ?_;intro H2 sm gq)
    first|refine Zaj fun zQ zq=>⟨SD,_,rfl,DPut.t (k:=[Sum.inl (a:Int),Sum.inl p]) (sm _ _ hsd) gq (by omega),zq _ _ ?_⟩|refine ⟨SD,_,rfl,DPut.t (k:=[Sum.inl (a:Int),Sum.inl p]) (sm _ _ hsd) gq (by omega),?_⟩
    have L3:=Zk5 (l.same fun b o h _=>sm b o h) (sm _ _ hsd) a p o n
    have et2:(upd H2 SD (.dT (putK k2 ([Sum.inl (a:Int),Sum.inl p]:List Key) (.int n)))) t=some (.tup [.str "save", .int (a:Int),.int p,.int o,.int n]):=by rw [Zaf (ZaF (sm _ _ et) (sm _ _ hsd) (by intro z;cases z))];exact sm _ _ et
    have s3:Same H (upd H2 SD (.dT (putK k2 ([Sum.inl (a:Int),Sum.inl p]:List Key) (.int n)))):=(s1.trans sm).wr nSD
    generalize upd H2 SD _=H3 at L3 et2 s3 |-
    (revert H3 L3 et2 s3;refine keepIt ?_;intro H3 L3 et2 s3)
    dsimp only
    walk_at "K'"
    all_goals first|exact absurd (by assumption) (show ¬ ("save" : Str) = "move" by decide)|skip
    rw [eds]
    exact ⟨s3,L3,_,rfl⟩
   | note s0' n =>
    have et:H' t=some (.tup [.str "note", .int s0',.int n]):=et
    walk_at "K'"
    all_goals first|exact absurd (by assumption) (show ¬ ("note" : Str) = "save" by decide)|exact absurd (by assumption) (show ¬ ("note" : Str) = "move" by decide)|skip
    rw [eds]
    exact ⟨s1,l.le (Nat.le_succ i),_,rfl⟩
   | move s0' t0 kk =>
    have et:H' t=some (.tup [.str "move", .int s0',.int t0,.int kk]):=et
    obtain ⟨⟨a,x,rfl,ha,hxa⟩,b,y,rfl,hb,hyb⟩:=hf
    walk_at "K'"
    all_goals first|exact absurd (by assumption) (show ¬ ("move" : Str) = "save" by decide)|exact absurd rfl (by assumption)|skip
    have dg:DGet H' CD (.int (a:Int)) (some (.int (runS S0 (ds.take i) a).coin)):=by
     have:=DGet.k (k:=Sum.inl (a:Int)) hcd
     rw [hcv a x ha hxa] at this
     exact this
    first|refine Zaj fun zQ zq=>⟨CD,_,rfl,dg,zq _ _ ?_⟩|refine ⟨CD,_,rfl,dg,?_⟩
    walk_at "K"
    refine Zbt hcd (by omega) ?_
    obtain ⟨v',hv,L2⟩:=Zk4 (many:=kk) l hcd ha hxa hb hyb
    have g1:(upd H' CD (.dK (putK k1 (Sum.inl (a:Int)) (.int ((runS S0 (ds.take i) a).coin-kk))))) CD=some (.dK (putK k1 (Sum.inl (a:Int)) (.int ((runS S0 (ds.take i) a).coin-kk)))):=Zab
    have et2:(upd H' CD (.dK (putK k1 (Sum.inl (a:Int)) (.int ((runS S0 (ds.take i) a).coin-kk))))) t=some (.tup [.str "move", .int (a:Int),.int (b:Int),.int kk]):=by rw [Zaf (ZaF et hcd (by intro z;cases z))];exact et
    have fr1:∀ o,upd (upd H' CD (.dK (putK k1 (Sum.inl (a:Int)) (.int ((runS S0 (ds.take i) a).coin-kk))))) CD o=upd H' CD o:=fun o=>Za0 ..
    generalize upd H' CD (.dK (putK k1 (Sum.inl (a:Int)) (.int ((runS S0 (ds.take i) a).coin-kk))))=H1 at g1 fr1 et2 |-
    (revert H1 g1 fr1 et2;refine keepIt ?_;intro H1 g1 fr1 et2)
    dsimp only
    walk_at "K"
    first|refine Zaj fun zQ zq=>⟨CD,.int v',rfl,by have:=DGet.k (k:=Sum.inl (b:Int)) g1;rw [hv] at this;exact this,zq _ _ ?_⟩|refine ⟨CD,.int v',rfl,by have:=DGet.k (k:=Sum.inl (b:Int)) g1;rw [hv] at this;exact this,?_⟩
    walk_at "K"
    refine Zbt g1 (Nat.lt_of_le_of_lt (ZaY ..) (by omega)) ?_
    rw [fr1,eds]
    exact ⟨s1.wr hCD,L2,_,rfl⟩
  .rintro σ' H' ⟨s1,l,v,rfl⟩
   rw [List.length_map,<- hT.1,List.take_length] at l
   walk_at "K"
   refine ⟨show 2<=sizeLine by decide,fun T hTn=>?_⟩
   exact k T CD SD _ (s1.newT hTn) (s1.fresh hTn) hCD nSD Zab (l.same fun b o h _=>(Same.new hTn) b o h)
end
theorem rd_slT {K:PySem.W.Frag} {a:Addr} {xs:List V} {lo hi:Option Int} {H:Hp} {Q:VK} (h:SqT K H a xs) (n:¬ (HT.sIx xs.length 0 lo=0/\HT.sIx xs.length xs.length hi=xs.length)) (q:∀ p,H p=none->Q (.ref p) (upd H p (.tup (cutV xs lo hi)))):rSlT K (.ref a) lo hi H Q:=⟨a,xs,rfl,h,n,q⟩
noncomputable def numsD:Dd->List Int
 | .save s p o n=>[s,p,o,n]
 | .move s t k=>[s,t,k]
 | .note s n=>[s,n]
theorem ZjC (d:Dd):cutV (tellV d) (some 1) none=(numsD d).map V.int:=by cases d<;>rfl
theorem ZjD (d:Dd):¬ (HT.sIx (tellV d).length 0 (some 1)=0/\HT.sIx (tellV d).length (tellV d).length none=(tellV d).length):=by
 cases d with
 | save=>exact fun z=>absurd (show HT.sIx 5 0 (some 1)=0 from z.1) (by decide)
 | move=>exact fun z=>absurd (show HT.sIx 4 0 (some 1)=0 from z.1) (by decide)
 | note=>exact fun z=>absurd (show HT.sIx 3 0 (some 1)=0 from z.1) (by decide)
theorem ZfF {κ:Type} [DecidableEq κ]:∀ {kvs:List (κ×V)},(kvs.map (·.1)).Nodup->∀ {n:Nat} {k:κ} {v:V},kvs[n]?=some (k,v)->valV kvs k=some v
 | [],_,n,k,v,h=>by simp at h
 | z::r,hn,n,k,v,h=>by
  rw [List.map_cons,List.nodup_cons] at hn
  cases n with
  | zero=>cases h;exact ZaL rfl
  | succ n =>
   have h:r[n]?=some (k,v):=h
   rw [ZaJ (fun e=>hn.1 (by rw [e];exact List.mem_map.mpr ⟨_,List.mem_of_getElem? h,rfl⟩))]
   exact ZfF hn.2 h
theorem Zgq {κ:Type} [DecidableEq κ]:∀ {kvs:List (κ×V)} {k:κ} {v:V},valV kvs k=some v->(k,v)∈kvs
 | [],k,v,h=>by rw [ZfO] at h;cases h
 | z::r,k,v,h=>by
  by_cases e:z.1=k
  .rw [ZaL e] at h
   cases h
   rw [<- e]
   exact List.mem_cons_self
  .rw [ZaJ e] at h
   exact List.mem_cons_of_mem _ (Zgq h)
theorem fm2 (f:Int->Int):∀ l:List Int,(l.flatMap fun z=>[z,f z]).length=2*l.length
 | []=>rfl
 | a::l=>by rw [List.flatMap_cons,List.length_append,fm2 f l];show 2+_=2*(l.length+1);omega
noncomputable def pickP (i:Int) (z:List Key×V):Option Int:=match z with
 | ([Sum.inl a,Sum.inl q],.int v)=>if a=i/\v≠0 then some q else none
 | _=>none
theorem ZdK {i q:Int} {z:List Key×V} (h:pickP i z=some q):∃ v,z=([Sum.inl i,Sum.inl q],.int v)/\v≠0:=by
 unfold pickP at h
 split at h
 .rename_i a q' v
  split at h
  .rename_i hc
   cases h
   exact ⟨v,by rw [hc.1],hc.2⟩
  .cases h
 .cases h
theorem ZfG (i a q v:Int):pickP i (([Sum.inl a,Sum.inl q]:List Key),.int v)=if a=i/\v≠0 then some q else none:=rfl
theorem ZgZ {k2:List (List Key×V)} (hn:(k2.map (·.1)).Nodup) (i:Int):(k2.filterMap (pickP i)).Nodup:=by
 rw [List.nodup_iff_pairwise_ne] at hn |-
 rw [List.pairwise_map] at hn
 refine List.Pairwise.filterMap _ (fun a a' haa b hb b' hb' e=>?_) hn
 obtain ⟨v,rfl,_⟩:=ZdK hb
 obtain ⟨v',rfl,_⟩:=ZdK hb'
 exact haa (by rw [e])
theorem ZjE {k2:List (List Key×V)} (hn:(k2.map (·.1)).Nodup) {i:Nat} {f:Int->Int} (h:∀ p:Int,(valV k2 ([Sum.inl (i:Int),Sum.inl p]:List Key)).getD (.int 0)=.int (f p)) (q:Int):q∈k2.filterMap (pickP i) ↔ f q≠0:=by
 constructor
 .intro hq
  obtain ⟨z,hz,e⟩:=List.mem_filterMap.mp hq
  obtain ⟨v,rfl,hv⟩:=ZdK e
  obtain ⟨n,hn'⟩:=List.mem_iff_getElem?.mp hz
  have e2:=h q
  rw [ZfF hn hn'] at e2
  have e2:V.int v=.int (f q):=e2
  cases e2
  exact hv
 .intro hq
  have e2:=h q
  cases hv:valV k2 ([Sum.inl (i:Int),Sum.inl q]:List Key) with
  | none =>
   rw [hv] at e2
   have e2:V.int 0=.int (f q):=e2
   have e2:(0:Int)=f q:=by injection e2
   exact absurd e2.symm hq
  | some w =>
   rw [hv] at e2
   have e2:w=.int (f q):=e2
   subst e2
   exact List.mem_filterMap.mpr ⟨_,Zgq hv,by rw [ZfG,if_pos ⟨rfl,hq⟩]⟩
theorem ZjW {k2:List (List Key×V)} {i:Nat} {f:Int->Int} (h:∀ p:Int,(valV k2 ([Sum.inl (i:Int),Sum.inl p]:List Key)).getD (.int 0)=.int (f p)) {q:Int} (hq:f q≠0):valV k2 ([Sum.inl (i:Int),Sum.inl q]:List Key)=some (.int (f q)):=by
 have e2:=h q
 cases hv:valV k2 ([Sum.inl (i:Int),Sum.inl q]:List Key) with
 | none =>
  rw [hv] at e2
  have e2:V.int 0=.int (f q):=e2
  have e2:(0:Int)=f q:=by injection e2
  exact absurd e2.symm hq
 | some w =>
  rw [hv] at e2
  have e2:w=.int (f q):=e2
  rw [e2]
def Zgr (K:PySem.W.Frag):Sp:=fun vs H Q _=>∃ (i:Nat) (cd sd:Addr) (pu:Int) (A:Nat->Option AcI) (S:Nat->AcS) (m:Nat) (x:AcI),vs=[.int (i:Int),.ref cd,.ref sd,.int pu]/\LS H cd sd A S m/\m<64/\i<16/\A i=some x /\
 ∀ (q:Addr) (L:List Int) (H':Hp),Same H H'->H q=none->Supp (S i).store L->L.length<64->H' q=some (.lst ((Zid 0 (S i).coin pu [] (S i).store L).map V.int))->Q (.ref q) H'
def Ziu (K:PySem.W.Frag):Sp:=fun vs H Q _=>∃ (TL KL:Addr) (ds:List Dd) (ts us:List Addr),vs=[.ref TL,.ref KL]/\H TL=some (.lst (ts.map V.ref))/\TupsAt H ds ts/\H KL=some (.lst (us.map V.ref))/\TupsAt H ds us/\ts.length<=100/\∀ H',Same H H'->Q (.bl true) H'
section
variable {P:Program} {w:World} {K:PySem.W.Frag} {mg:Str->Option Value} {base:Heap}
theorem Zb6:FnScope ["_law_slot", "_law_coins", "_law_stores", "_law_purse", "_law_some", "_law_found", "_law_place"] ["_law_slot", "_law_coins", "_law_stores", "_law_purse"] (Zad Zc1):=by walk_at "c"
theorem Ziv    (D:ZaS K mg "_law_plain" Zc1) (n_sorted:mg "sorted" = none) (n_len:mg "len" = none):Cal P w K mg base 1 "_law_plain" (Zgr K):=by
 refine Zbj D Zb6 (fun vs H Q E h=>?_) (by walk_at "b") (fun f cdv A outer s H vs Q E hr h=>?_)
 .obtain ⟨i,cd,sd,pu,A,S,m,x,rfl,_⟩:=h;rfl
 .obtain ⟨i,cd,sd,pu,Ar,S,m,x,rfl,l,hm,hi,hx,k⟩:=h
  refine' ⟨_,?der,?_⟩
  case der=>refine' Zac ?h18 ?h19;(case h18=>exact (Zaw (i:=4) Zb6.nd rfl (by first|exact Or.inl rfl|exact Or.inr rfl) (Zap (Zdn rfl) rfl n_sorted PyProof.Rows.boot_sorted (Zaa (Zjq ["_law_at", "_law_place"] rfl (show CompScope (Zad Zc1) ["_law_slot", "_law_coins", "_law_stores", "_law_purse", "_law_some", "_law_found", "_law_place"] ["_law_at", "_law_place"] _ from ⟨rfl,by decide +kernel,by decide +kernel,by decide +kernel,by decide +kernel,by decide +kernel⟩) (pv 2) (fun _ _ _ _ _=>(show PG _ _ (gTup K 2 _) from ZfL rfl (Za8 (Zat (i:=0) (show (["_law_at", "_law_place", "_law_slot", "_law_coins", "_law_stores", "_law_purse", "_law_some", "_law_found", ""]:List Str).Nodup by decide +kernel) rfl (Or.inl rfl) (.inr rfl)) (Za8 (Zat (i:=1) (show (["_law_at", "_law_place", "_law_slot", "_law_coins", "_law_stores", "_law_purse", "_law_some", "_law_found", ""]:List Str).Nodup by decide +kernel) rfl (Or.inl rfl) (.inr rfl)) ZdY)))) (fun _ _ _ _ _=>(Zfn (PW.pt (Zcr (Zaq Zbq (pv 0) (pv 2) (nomark _)) (Zce (Zaq Zhg (ZbV (ZbT hr) (pv 4) (Zbh (Zaa (pv 0) (Zaa (pv 1) Zag))) (fun _ _=>rfl)) Zah (nomark _))))))) (fun _ _ _ _ _=>(pv 1))) Zag))));case h19=>refine' Zac ?h16 ?h17;(case h16=>refine' Zaw (i:=5) ?h12 ?h13 ?h14 ?h15;(case h12=>exact Zb6.nd);(case h13=>rfl);(case h14=>(first|exact Or.inl rfl|exact Or.inr rfl));case h15=>refine' Zbc ?h11;case h11=>refine' Zaa ?h9 ?h10;(case h9=>exact Zah);case h10=>refine' Zaa ?h7 ?h8;(case h7=>exact (ZbV (ZbT hr) (pv 1) (pv 0) (fun _ _=>rfl)));case h8=>refine' Zaa ?h5 ?h6;(case h5=>exact (pv 3));case h6=>refine' Zaa ?h3 ?h4;(case h3=>exact Zah);case h4=>refine' Zaa ?h1 ?h2;(case h1=>exact (Zap ZbH rfl n_len PySem.boot_len (Zaa (pv 4) Zag)));case h2=>exact Zag);case h17=>exact (Zac (ZbD PassesOwn.never rfl (ZaR (pv 4)) (Zat (i:=6) Zb6.nd rfl (by first|exact Or.inl rfl|exact Or.inr rfl)) (Zae (Zaw (i:=5) Zb6.nd rfl (by first|exact Or.inl rfl|exact Or.inr rfl) (Zas ZjJ (pv 5) (Zbc (Zaa (pv 6) (Zaa (ZbV (ZbT hr) (pv 2) (Zbh (Zaa (pv 0) (Zaa (pv 6) Zag))) (fun _ _=>rfl)) Zag))))))) (Zae (Zao (pv 5))))
  walk_at "nx"
  obtain ⟨k1,hcd,hkl1,hcv⟩:=l.co
  obtain ⟨k2,hsd,hkl2,hnd,hsh,hsv⟩:=l.st
  have hsv:=fun p=>hsv i x p hi hx
  walk_at "K"
  refine Zjr fun NF=>?_
  walk_at "K"
  first|refine Zaj fun zQ zq=>⟨sd,k2,rfl,hsd,fun nf o p hp=>zq _ _ ?_⟩|refine ⟨sd,k2,rfl,hsd,fun nf o p hp=>?_⟩
  obtain ⟨np,hpH⟩:=Zc3 hp
  obtain ⟨PV,hPV⟩:∃ PV:Nat->Hp->Prop,PV=fun (n:Nat) (H':Hp)=>(∀ b u,H b=some u->b≠sd->H' b=some u)/\H' sd=some (.frz o (.dT k2))/\H' p=some (.lst (((k2.take n).filterMap (pickP (i:Int))).map V.int)):=⟨_,rfl⟩
  refine Zh7 (kvs:=k2) PV (by rw [hPV];exact ⟨fun b u hb nb=>by rw [Zaf (Zai hb hpH),Zaf nb];exact hb,by rw [Zaf (Ne.symm np),Zab],Zab⟩) (fun n H' e=>by rw [hPV] at e;exact e.2.1) (fun z hz=>by obtain ⟨a,b,c,rfl⟩:=hsh z hz;exact ⟨a,b,rfl⟩) ?_ ?_
  .intro n a q v H' hz hI
   rw [hPV] at hI
   obtain ⟨hk',hfz,hL'⟩:=hI
   obtain ⟨a',q',v',e⟩:=hsh _ (List.mem_of_getElem? hz)
   cases e
   have hval:=ZfF hnd hz
   have hlt:=(List.getElem?_eq_some_iff.mp hz).1
   have est:(k2.take (n+1)).filterMap (pickP (i:Int))=(k2.take n).filterMap (pickP (i:Int))++(if a=(i:Int)/\v'≠0 then [q] else []):=by
    rw [List.take_add_one,hz,List.filterMap_append]
    congr 1
    show ([_]:List _).filterMap _=_
    by_cases hc:a=(i:Int)/\v'≠0
    .rw [List.filterMap_cons,ZfG,if_pos hc,if_pos hc]
     rfl
    .rw [List.filterMap_cons,ZfG,if_neg hc,if_neg hc]
     rfl
   have hyl:(((k2.take n).filterMap (pickP (i:Int))).map V.int).length<sizeLine:=by
    rw [List.length_map]
    refine Nat.lt_of_le_of_lt (Nat.le_trans (List.length_filterMap_le ..) (show _<=100 by rw [List.length_take];omega)) (by decide)
   have no:∀ {H3:Hp},(∀ b u,H' b=some u->H3 b=some u)->¬ (a=(i:Int)/\v'≠0)->PV (n+1) H3:=fun {H3} s hc=>by
    rw [hPV]
    refine ⟨fun b u hb nb=>s _ _ (hk' b u hb nb),s _ _ hfz,?_⟩
    rw [est,if_neg hc,List.append_nil]
    exact s _ _ hL'
   have ye:∀ {H3:Hp},(∀ b u,H' b=some u->H3 b=some u)->a=(i:Int)/\v'≠0->PV (n+1) (upd H3 p (.lst (((k2.take n).filterMap (pickP (i:Int))).map V.int++[.int q]))):=fun {H3} s hc=>by
    rw [hPV]
    refine ⟨fun b u hb nb=>by rw [Zaf (Zai hb hpH)];exact s _ _ (hk' b u hb nb),by rw [Zaf (Ne.symm np)];exact s _ _ hfz,?_⟩
    rw [est,if_pos hc,Zab,List.map_append]
    rfl
   by_cases ha:a=(i:Int)
   .walk_at "K'"
    all_goals first|exact absurd ha (by assumption)|skip
    refine ⟨show 2<=sizeLine by decide,fun t ht=>?_⟩
    have st:=Same.new ht (o:=.tup [.int a,.int q])
    have gt:(upd H' t (.tup [.int a,.int q])) t=some (.tup (([Sum.inl a,Sum.inl q]:List Key).map kV)):=Zab
    generalize upd H' t _=H3 at st gt |-
    (revert H3 st gt;refine keepIt ?_;intro H3 st gt)
    walk_at "K"
    first|refine Zaj fun zQ zq=>⟨sd,.int v',rfl,by have:=DGet.frzT (st _ _ hfz) gt;rw [hval] at this;exact this,zq _ _ ?_⟩|refine ⟨sd,.int v',rfl,by have:=DGet.frzT (st _ _ hfz) gt;rw [hval] at this;exact this,?_⟩
    walk_at "K'"
    .rename_i hv
     exact ⟨_,st _ _ hL',hyl,ye (fun b u h=>st b u h) ⟨ha,hv⟩,_,_,rfl⟩
    .rename_i hv
     exact ⟨no (fun b u h=>st b u h) (fun z=>z.2 hv),_,_,rfl⟩
   .walk_at "K'"
    all_goals first|exact absurd (by assumption) ha|exact ⟨no (fun b u h=>h) (fun z=>ha z.1),_,_,rfl⟩
  .intro H' hI
   rw [hPV] at hI
   obtain ⟨hk',hfz,hL'⟩:=hI
   rw [List.take_length] at hL'
   refine ZkV nf hfz ?_
   have s1:Same H (upd H' sd (.dT k2)):=fun b u hb=>by
    by_cases e:b=sd
    .subst e
     rw [Zab,<- hb,hsd]
    .rw [Zaf e];exact hk' b u hb e
   have hL1:(upd H' sd (.dT k2)) p=some (.lst ((k2.filterMap (pickP (i:Int))).map V.int)):=by rw [Zaf np];exact hL'
   generalize upd H' sd (.dT k2)=H1 at s1 hL1 |-
   (revert H1 s1 hL1;refine keepIt ?_;intro H1 s1 hL1)
   have hlen:(k2.filterMap (pickP (i:Int))).length<64:=Nat.lt_of_le_of_lt (List.length_filterMap_le ..) (by omega)
   have hmem:=ZjE hnd hsv
   walk_at "K"
   refine ZgJ (Zal hL1) hlen fun ms hpm hle q hq=>?_
   have hsup:Supp (S i).store ms:=⟨Zcu hle (hpm.nodup_iff.mpr (ZgZ hnd _)),fun z=>by rw [hpm.mem_iff];exact hmem z⟩
   have s2:=s1.newT hq (o:=.lst (ms.map V.int))
   have hms:(upd H1 q (.lst (ms.map V.int))) q=some (.lst (ms.map V.int)):=Zab
   have hml:ms.length<64:=by rw [hpm.length_eq];exact hlen
   have nq:=s1.fresh hq
   generalize upd H1 q _=H2 at s2 hms |-
   (revert H2 s2 hms;refine keepIt ?_;intro H2 s2 hms)
   walk_at "K"
   first|refine Zaj fun zQ zq=>⟨cd,.int (S i).coin,rfl,by have:=DGet.k (k:=Sum.inl (i:Int)) (s2 _ _ hcd);rw [hcv i x hi hx] at this;exact this,zq _ _ ?_⟩|refine ⟨cd,.int (S i).coin,rfl,by have:=DGet.k (k:=Sum.inl (i:Int)) (s2 _ _ hcd);rw [hcv i x hi hx] at this;exact this,?_⟩
   walk_at "K"
   refine ⟨show 5<=sizeLine by decide,fun F0 hF0=>?_⟩
   rw [List.length_map]
   have nF0:=s2.fresh hF0
   have s3:=s2.newT hF0 (o:=.lst [.int 0,.int (S i).coin,.int pu,.int 0,.int (ms.length:Int)])
   have s23:=Same.new hF0 (o:=.lst [.int 0,.int (S i).coin,.int pu,.int 0,.int (ms.length:Int)])
   have eF0:(upd H2 F0 (.lst [.int 0,.int (S i).coin,.int pu,.int 0,.int (ms.length:Int)])) F0=some (.lst (([0,(S i).coin,pu,0,(ms.length:Int)]++(ms.take 0).flatMap fun z=>[z,(S i).store z]).map V.int)):=Zab
   generalize upd H2 F0 _=H3 at s3 s23 eF0 |-
   (revert H3 s3 s23 eF0;refine keepIt ?_;intro H3 s3 s23 eF0)
   have hms3:=s23 _ _ hms
   walk_at "K"
   refine ZbG (ZaP ?_)
   walk_at "K"
   refine ⟨q,rfl,⟨_,Zal hms3⟩,Za9 (xs:=ms.map V.int) (fun j σ' H'=>Same H3 H'/\∃ F v,H F=none/\H' F=some (.lst (([0,(S i).coin,pu,0,(ms.length:Int)]++(ms.take j).flatMap fun z=>[z,(S i).store z]).map V.int))/\σ'=[some (.int (i:Int)),some (.ref cd),some (.ref sd),some (.int pu),some (.ref q),some (.ref F),v]) ⟨Same.refl _,F0,_,nF0,eF0,rfl⟩ (fun j σ' H' _ ⟨e,_⟩=>Zal (e _ _ hms3)) ?_ ?_⟩
   .rintro j x0 σ' H' hx0 ⟨s4,F,v,nF,eF,rfl⟩
    rw [List.getElem?_map] at hx0
    obtain ⟨z,hz,rfl⟩:=Option.map_eq_some_iff.mp hx0
    have hjl:=(List.getElem?_eq_some_iff.mp hz).1
    have hzn:=(hsup.2 z).mp (List.mem_of_getElem? hz)
    have s04:=s3.trans s4
    have ez:(ms.take (j+1)).flatMap (fun z=>[z,(S i).store z])=(ms.take j).flatMap (fun z=>[z,(S i).store z])++[z,(S i).store z]:=by
     rw [List.take_add_one,hz,List.flatMap_append]
     simp
    have hBl:(([0,(S i).coin,pu,0,(ms.length:Int)]++(ms.take j).flatMap fun z=>[z,(S i).store z]).map V.int).length+2<=sizeLine:=by
     rw [List.length_map,List.length_append,fm2,List.length_take]
     exact Nat.le_trans (show _<=200 by show 5+2*min j ms.length+2<=200;omega) (by decide)
    walk_at "K"
    refine ⟨show 2<=sizeLine by decide,fun t ht=>?_⟩
    have st:=Same.new ht (o:=.tup [.int (i:Int),.int z])
    have gt:(upd H' t (.tup [.int (i:Int),.int z])) t=some (.tup (([Sum.inl (i:Int),Sum.inl z]:List Key).map kV)):=Zab
    generalize upd H' t _=H5 at st gt |-
    (revert H5 st gt;refine keepIt ?_;intro H5 st gt)
    walk_at "K"
    first|refine Zaj fun zQ zq=>⟨sd,.int ((S i).store z),rfl,by have:=DGet.t (st _ _ (s04 _ _ hsd)) gt;rw [ZjW hsv hzn] at this;exact this,zq _ _ ?_⟩|refine ⟨sd,.int ((S i).store z),rfl,by have:=DGet.t (st _ _ (s04 _ _ hsd)) gt;rw [ZjW hsv hzn] at this;exact this,?_⟩
    walk_at "K"
    refine ⟨show 2<=sizeLine by decide,fun l1 hl1=>?_⟩
    have su:=st.newT hl1 (o:=.lst [.int z,.int ((S i).store z)])
    refine ZjM (su _ _ eF) Zab hBl fun F2 hF2=>?_
    have sv:=su.newT hF2 (o:=.lst (([0,(S i).coin,pu,0,(ms.length:Int)]++(ms.take j).flatMap fun z=>[z,(S i).store z]).map V.int++[.int z,.int ((S i).store z)]))
    have nF2:=(s04.trans su).fresh hF2
    walk_at "K"
    refine ⟨s4.trans sv,F2,_,nF2,?_,rfl⟩
    rw [Zab,ez]
    simp only [List.map_append,List.append_assoc]
    rfl
   .rintro σ' H' ⟨s4,F,v,nF,eF,rfl⟩
    rw [List.length_map,List.take_length] at eF
    walk_at "K"
    refine k F ms H' (s3.trans s4) nF hsup hml ?_
    rw [eF]
    rfl
theorem ZbC:FnScope ["_law_told", "_law_kept", "_law_deed", "_law_number"] ["_law_told", "_law_kept"] (Zad ZbR):=by walk_at "c"
theorem ZdN    (D:ZaS K mg "_law_kept_right" ZbR) (n_isinstance:mg "isinstance" = none) (n_list:mg "list" = none) (n_tuple:mg "tuple" = none) (n_bool:mg "bool" = none) (n_int:mg "int" = none):Cal P w K mg base 1 "_law_kept_right" (Ziu K):=by
 refine Zbj D ZbC (fun vs H Q E h=>?_) (by walk_at "b") (fun f cdv A outer s H vs Q E hr h=>?_)
 .obtain ⟨TL,KL,ds,ts,us,rfl,_⟩:=h;rfl
 .obtain ⟨TL,KL,ds,ts,us,rfl,hTL,hT,hKL,hU,htl,k⟩:=h
  refine ⟨_,(Zac (Zbe (PW.pt (Zj1 (ZdO (Zc5 (Zap ZbZ rfl n_isinstance PyProof.Rows.boot_isinstance (Zaa (pv 0) (Zaa (ZcL rfl n_list PyProof.Rows.boot_list) Zag))))) (Zg7 (Zaq (ZeP hr.units) (pv 0) (pv 1) (nomark _))))) (Zae (Zao ZcB)) ZaD)
   (Zac (ZbD PassesOwn.never rfl (ZaR (pv 0)) (Zat (i:=2) ZbC.nd rfl (by first|exact Or.inl rfl|exact Or.inr rfl))
   (Zac (Zbe (ZdO (Zc5 (Zap ZbZ rfl n_isinstance PyProof.Rows.boot_isinstance (Zaa (pv 2) (Zaa (ZcL rfl n_tuple PyProof.Rows.boot_tuple) Zag))))) (Zae (Zao ZcB)) ZaD)
   (Zae (ZbD PassesOwn.never rfl (pi_tup (Zd0 sl_tup (pv 2) (ZdZ Zah) Zhp)) (Zat (i:=3) ZbC.nd rfl (by first|exact Or.inl rfl|exact Or.inr rfl))
   (Zae (Zbe (PW.pt (Zj1 (ZdO (Zc5 (Zap ZbZ rfl n_isinstance PyProof.Rows.boot_isinstance (Zaa (pv 3) (Zaa (ZcL rfl n_int PyProof.Rows.boot_int) Zag))))) (Zg7 (Zc5 (Zap ZbZ rfl n_isinstance PyProof.Rows.boot_isinstance (Zaa (pv 3) (Zaa (ZcL rfl n_bool PyProof.Rows.boot_bool) Zag))))))) (Zae (Zao ZcB)) ZaD))))))
   (Zae (Zao ZcB)))),?_⟩
  walk_at "nx"
  have dT:=hT.dv (K:=K) hTL
  have dU:=hU.dv (K:=K) hKL
  walk_at "K"
  refine Zdj dT dU (Zgj ds) ?_
  walk_at "K"
  refine ZbG (ZaP ?_)
  walk_at "K"
  refine ⟨TL,rfl,⟨_,Zal hTL⟩,Za9 (xs:=ts.map V.ref) (fun i σ' H'=>Same H H'/\∃ v1 v2,σ'=[some (.ref TL),some (.ref KL),v1,v2]) ⟨Same.refl _,_,_,rfl⟩ (fun i σ' H' _ ⟨e,_⟩=>Zal (e _ _ hTL)) ?_ ?_⟩
  .rintro i x σ' H' hx ⟨s1,v1,v2,rfl⟩
   rw [List.getElem?_map] at hx
   obtain ⟨t,ht,rfl⟩:=Option.map_eq_some_iff.mp hx
   obtain ⟨hi,ei⟩:=List.getElem?_eq_some_iff.mp ht
   have h1:=hT.1
   obtain ⟨d,hd⟩:∃ d,ds[i]?=some d:=⟨_,List.getElem?_eq_getElem (by omega)⟩
   have et:=s1 _ _ (hT.2 i d t hd ht)
   have hSt:SqT K H' t (tellV d):=ZbY et
   walk_at "K"
   dsimp only
   refine ZbG (Zkq ?_)
   walk_at "K"
   refine rd_slT hSt (ZjD d) fun u hu=>?_
   rw [ZjC]
   have s2:=Same.new hu (o:=.tup ((numsD d).map V.int))
   have gu:(upd H' u (.tup ((numsD d).map V.int))) u=some (.tup ((numsD d).map V.int)):=Zab
   generalize upd H' u _=H2 at s2 gu |-
   (revert H2 s2 gu;refine keepIt ?_;intro H2 s2 gu)
   refine ⟨u,rfl,⟨_,ZbY gu⟩,Zj2 (xs:=(numsD d).map V.int) (fun i σ' H3=>H3=H2/\∃ v4,σ'=[some (.ref TL),some (.ref KL),some (.ref t),v4]) ⟨rfl,_,rfl⟩ (fun i σ' H3 _ ⟨e,_⟩=>by rw [e];exact ZbY gu) ?_ ?_⟩
   .rintro i xx σ' H3 hxx ⟨rfl,v4,rfl⟩
    rw [List.getElem?_map] at hxx
    obtain ⟨c,hc,rfl⟩:=Option.map_eq_some_iff.mp hxx
    walk_at "K"
    exact ⟨rfl,_,rfl⟩
   .rintro σ' H3 ⟨rfl,v4,rfl⟩
    exact ⟨s1.trans s2,_,_,rfl⟩
  .rintro σ' H' ⟨s1,v1,v2,rfl⟩
   walk_at "K"
   exact k H' s1
end
theorem TupsAt.keepS {H H':Hp} {ds:List Dd} {ts:List Addr} (h:TupsAt H ds ts) (s:Same H H'):TupsAt H' ds ts:=⟨h.1,fun n d t e1 e2=>s _ _ (h.2 n d t e1 e2)⟩
def Zgs (K:PySem.W.Frag) (cJ cS cM cN:Addr):Sp:=fun vs H Q _=>∃ (j dx R L KL:Addr) (A:Nat->Option AcI) (es:List DI) (ds:List Dd) (us:List Addr) (tn:Int),vs=[.ref j,.ref KL,.int tn]/\Jr cJ cS cM cN H j dx R L A es/\(es.map fun e=>e.d)=ds/\ds.length<=100/\Zek ds/\H KL=some (.lst (us.map V.ref))/\TupsAt H ds us/\∀ H',Same H H'->Q (.bl true) H'
section
variable {P:Program} {w:World} {K:PySem.W.Frag} {mg:Str->Option Value} {base:Heap}
theorem ZcJ:FnScope ["_law_journal", "_law_kept", "_law_turn", "_law_k", "_law_way"] ["_law_journal", "_law_kept", "_law_turn"] (Zad Zds):=by walk_at "c"
theorem Zg0   {cJournal:Addr} (D:ZaS K mg "_law_speaks" Zds) (tJournal:T_Journal K mg cJournal) (m_Journal_told:MCal P w K mg base 2 cJournal "told" (Zfy cJournal cSave cMove cNote)) (m_Journal_worth:MCal P w K mg base 2 cJournal "worth" (Zgl cJournal cSave cMove cNote)) (m_Journal_touched:MCal P w K mg base 2 cJournal "touched" (Zel cJournal cSave cMove cNote)) (c_Lkept_right:Cal P w K mg base 1 "_law_kept_right" (Ziu K)) (c_Lwhole:Cal P w K mg base 1 "_law_whole" Zij) (c_Ltouched:Cal P w K mg base 1 "_law_touched" (Zev K)) (c_Lworth:Cal P w K mg base 1 "_law_worth" (Zgp K)) (n_range:mg "range" = none):Cal P w K mg base 3 "_law_speaks" (Zgs K cJournal cSave cMove cNote):=by
 refine Zbj D ZcJ (fun vs H Q E h=>?_) (by walk_at "b") (fun f cdv A outer s H vs Q E hr h=>?_)
 .obtain ⟨j,dx,R,L,KL,A,es,ds,us,tn,rfl,_⟩:=h;rfl
 .obtain ⟨j,dx,R,L,KL,Ar,es,ds,us,tn,rfl,J,hes,hdl,hnr,hKL,hU,k⟩:=h
  refine ⟨_,(Zac (ZbD PassesOwn.never rfl (Zc6 rfl n_range (Zaa Zah Zag)) (Zat (i:=3) ZcJ.nd rfl (by first|exact Or.inl rfl|exact Or.inr rfl))
   (Zac (Zaw (i:=4) ZcJ.nd rfl (by first|exact Or.inl rfl|exact Or.inr rfl) (Zas ZaQ (Zas ZbU (pv 3) (pv 2)) Zah))
   (Zac (Zbe (PW.pt (Zcr (Zaq Zbq (pv 4) Zah (nomark _)) (Zce (ZdO (Zc5 (ZaC c_Lkept_right (hr.mono (by decide)) rfl (Zaa (Zbs m_Journal_told (hr.mono (by decide)) (pv 0)) (Zaa (pv 1) Zag)))))))) (Zae (Zao ZcB)) ZaD)
   (Zac (Zbe (PW.pt (Zcr (Zaq Zbq (pv 4) Zah (nomark _)) (Zce (ZdO (Zc5 (ZaC c_Lwhole (hr.mono (by decide)) rfl (Zaa (Zbs m_Journal_worth (hr.mono (by decide)) (pv 0)) (Zaa (ZaC c_Lworth (hr.mono (by decide)) rfl (Zaa (pv 1) Zag)) Zag)))))))) (Zae (Zao ZcB)) ZaD)
   (Zae (Zbe (PW.pt (Zcr (Zaq Zbq (pv 4) Zah (nomark _)) (Zce (Zaq (ZeP hr.units) (Zbs m_Journal_touched (hr.mono (by decide)) (pv 0)) (ZaC c_Ltouched (hr.mono (by decide)) rfl (Zaa (pv 1) Zag)) (nomark _))))) (Zae (Zao ZcB)) ZaD))))))
   (Zae (Zao ZcB))),?_⟩
  walk_at "nx"
  have hel:es.length<=100:=by rw [<- hes,List.length_map] at hdl;exact hdl
  walk_at "K"
  refine ZbG (Zea ?_)
  walk_at "K"
  first|refine Zaj fun zQ zq=>⟨_,rfl,by decide,by decide,zq _ _ ?_⟩|refine ⟨_,rfl,by decide,by decide,?_⟩
  refine Zew (n:=3) (fun i σ' H'=>Same H H'/\∃ v1 v2,σ'=[some (.ref j),some (.ref KL),some (.int tn),v1,v2]) ⟨Same.refl _,_,_,rfl⟩ ?_ ?_
  .rintro i σ' H1 hi ⟨s1,v1,v2,rfl⟩
   have J1:=J.same s1
   have hKL1:=s1 _ _ hKL
   have hU1:=hU.keepS s1
   have hul:us.length<=100:=by rw [<- hU.1];exact hdl
   have hr:=Int.emod_nonneg (0+(i:Int)+tn) (show (3:Int)≠0 by decide)
   have hr2:=Int.emod_lt_of_pos (0+(i:Int)+tn) (show (0:Int)<3 by decide)
   generalize (0+(i:Int)+tn) % 3=way at hr hr2
   (revert way hr hr2;refine keepIt ?_;intro way hr hr2)
   walk_at "K'"
   .refine ZaV J1.ob rfl ?_
    walk_at "K"
    first|refine Zaj fun zQ zq=>⟨j,dx,R,L,Ar,es,rfl,J1,by omega,fun tq ts HQ sQ htq etq tp=>zq _ _ ?_⟩|refine ⟨j,dx,R,L,Ar,es,rfl,J1,by omega,fun tq ts HQ sQ htq etq tp=>?_⟩
    rw [hes] at tp
    walk_at "K"
    first|refine Zaj fun zQ zq=>⟨tq,KL,ds,ts,us,rfl,etq,tp,sQ _ _ hKL1,hU1.keepS sQ,by rw [<- tp.1];exact hdl,fun H2 s2=>zq _ _ ?_⟩|refine ⟨tq,KL,ds,ts,us,rfl,etq,tp,sQ _ _ hKL1,hU1.keepS sQ,by rw [<- tp.1];exact hdl,fun H2 s2=>?_⟩
    walk_at "K'"
    all_goals first|(exfalso;omega)|exact ⟨(s1.trans sQ).trans s2,_,_,rfl⟩
   .refine ZaV J1.ob rfl ?_
    walk_at "K"
    first|refine Zaj fun zQ zq=>⟨j,dx,R,L,Ar,es,rfl,J1,by omega,fun H2 s2=>zq _ _ ?_⟩|refine ⟨j,dx,R,L,Ar,es,rfl,J1,by omega,fun H2 s2=>?_⟩
    walk_at "K"
    first|refine Zaj fun zQ zq=>⟨KL,ds,us,rfl,s2 _ _ hKL1,hU1.keepS s2,hul,fun H3 s3=>zq _ _ ?_⟩|refine ⟨KL,ds,us,rfl,s2 _ _ hKL1,hU1.keepS s2,hul,fun H3 s3=>?_⟩
    walk_at "K"
    first|refine Zaj fun zQ zq=>⟨_,_,rfl,zq _ _ ?_⟩|refine ⟨_,_,rfl,?_⟩
    rw [decide_eq_true (show ((es.map fun e=>worthD e.d).sum:Int)=(ds.map worthD).sum by rw [<- hes,List.map_map];rfl)]
    walk_at "K'"
    all_goals first|(exfalso;omega)|exact ⟨(s1.trans s2).trans s3,_,_,rfl⟩
   .refine ZaV J1.ob rfl ?_
    walk_at "K"
    first|refine Zaj fun zQ zq=>⟨j,dx,R,L,Ar,es,rfl,J1,by omega,by rw [hes];exact hnr,fun q ms H2 s2 hq eq r1 m1=>zq _ _ ?_⟩|refine ⟨j,dx,R,L,Ar,es,rfl,J1,by omega,by rw [hes];exact hnr,fun q ms H2 s2 hq eq r1 m1=>?_⟩
    walk_at "K"
    first|refine Zaj fun zQ zq=>⟨KL,ds,us,rfl,s2 _ _ hKL1,hU1.keepS s2,hul,hnr,fun q2 ms2 H3 s3 hq2 eq2 r2 m2=>zq _ _ ?_⟩|refine ⟨KL,ds,us,rfl,s2 _ _ hKL1,hU1.keepS s2,hul,hnr,fun q2 ms2 H3 s3 hq2 eq2 r2 m2=>?_⟩
    have e:ms=ms2:=ZbO r1 r2 fun n=>(m1 n).trans (by rw [hes];exact (m2 n).symm)
    subst e
    refine Zdj (d:=.lst (Dt.ints ms)) (Zb9 (Zal (s3 _ _ eq))) (Zb9 (Zal eq2)) (by simp [Dt.dep,Zet]) ?_
    walk_at "K'"
    all_goals first|(exfalso;omega)|exact ⟨(s1.trans s2).trans s3,_,_,rfl⟩
   .exact ⟨s1,_,_,rfl⟩
  .rintro σ' H1 ⟨s1,v1,v2,rfl⟩
   walk_at "K"
   exact k H1 s1
end
theorem ar1 {m e i:Nat} (h1:e<=i) (h2:m<=64*i) (h3:i<63):m+e<=1000000:=by omega
theorem ar2 {m e i:Nat} (h1:e<=i) (h2:m<=64*i) (h3:i<63):m+e<=64*(i+1):=by omega
theorem ar3 {m i:Nat} (h2:m<=64*i) (h3:i<63):m<=1000000:=by omega
theorem ar4 {m i:Nat} (h2:m<=64*i):m+1<=64*(i+1):=by omega
theorem ar5 {e i k:Nat} (h1:e<=i) (h3:i<63) (hk:1000<k):e<k:=by omega
theorem ar6 {n e i:Nat} (h1:e<=i):min n e<=i+1:=by omega
theorem ar8 {z:Int} (h:0<=z):z=((z.toNat:Nat):Int):=by omega
theorem ar9 (e:Nat):((e:Nat):Int)+1≠0/\0<((e:Nat):Int)+1:=by omega
def HeldV (K:PySem.W.Frag) (Hs:Hp) (v:V):Prop:=∃ u a b c d D1 D2,v=.ref u/\Hs u=some (.tup [.ref a,.ref b,.ref c,.ref d])/\DV K Hs D1 (.ref a)/\DV K Hs D1 (.ref b)/\D1.dep<=64/\DV K Hs D2 (.ref c)/\DV K Hs D2 (.ref d)/\D2.dep<=64
theorem HeldV.keep {K:PySem.W.Frag} {Hs Hs':Hp} {v:V} (h:HeldV K Hs v) (s:Same Hs Hs'):HeldV K Hs' v:=by
 obtain ⟨u,a,b,c,d,D1,D2,e,h1,h2,h3,h4,h5,h6,h7⟩:=h
 exact ⟨u,a,b,c,d,D1,D2,e,s _ _ h1,DV.keep s h2,DV.keep s h3,h4,DV.keep s h5,DV.keep s h6,h7⟩
structure KJ (K:PySem.W.Frag) (C cJ cS cM cN:Addr) (HB Hs H:Hp) (j dx R L:Addr) (A:Nat->Option AcI) (S0:Nat->AcS) (es:List DI) (m:Nat) (kp hl:Addr) (ts:List Addr) (hs:List V):Prop where
 wk:Wk K C cJ cS cM cN (fun _=>none) H j dx R L A S0 es m
 sb:Same HB Hs
 pr:Prot A [L,kp,hl] Hs H
 hk:H kp=some (.lst (ts.map V.ref))
 tk:TupsAt H (es.map (·.d)) ts
 hh:H hl=some (.lst hs)
 dh:∀ v∈hs,HeldV K Hs v
 nk:NL A R L kp
 nh:NL A R L hl
 kh:kp≠hl
 na:Zek (es.map (·.d))
section
variable {K:PySem.W.Frag} {C cJ cS cM cN:Addr} {HB Hs H H':Hp} {j dx R L kp hl:Addr} {A:Nat->Option AcI} {S0:Nat->AcS} {es:List DI} {m:Nat} {ts:List Addr} {hs:List V}
theorem KJ.same (I:KJ K C cJ cS cM cN HB Hs H j dx R L A S0 es m kp hl ts hs) (s:Same H H'):KJ K C cJ cS cM cN HB Hs H' j dx R L A S0 es m kp hl ts hs :=
 ⟨I.wk.same s,I.sb,I.pr.same s,s _ _ I.hk,I.tk.mono fun b xs h=>s _ _ h,s _ _ I.hh,I.dh,I.nk,I.nh,I.kh,I.na⟩
theorem KJ.fit (I:KJ K C cJ cS cM cN HB Hs H j dx R L A S0 es m kp hl ts hs):∀ d∈es.map (·.d),fitsD A d:=fun d hd=>by
 obtain ⟨e,he,rfl⟩:=List.mem_map.mp hd
 exact (I.wk.jr.de e he).2
theorem KJ.cut (I:KJ K C cJ cS cM cN HB Hs H j dx R L A S0 es m kp hl ts hs) {n m':Nat} {H2:Hp} {kp2:Addr} (k:∀ b,Out A b->b≠L->H' b=H b) (W':Wk K C cJ cS cM cN (fun _=>none) H' j dx R L A S0 (es.take n) m') (s:Same H' H2) (h1:H' kp2=none) (h3:H2 kp2=some (.lst ((ts.take n).map V.ref))):KJ K C cJ cS cM cN HB Hs H2 j dx R L A S0 (es.take n) m' kp2 hl (ts.take n) hs:=by
 have p1:Prot A [L,kp,hl] Hs H':=I.pr.step fun b h1 h2=>k b h1 fun z=>h2 (by simp [z])
 have hh1:H' hl=some (.lst hs):=by rw [k _ (I.wk.ro.outL I.hh) I.nh.1];exact I.hh
 have p2:Prot A [L,kp2,hl] Hs H':=p1.to fun b hb=>by
  rcases List.mem_cons.mp hb with rfl|hb
  .exact .inl (by simp)
  rcases List.mem_cons.mp hb with rfl|hb
  .exact .inr h1
  rw [List.mem_singleton.mp hb]
  exact .inl (by simp)
 have t1:TupsAt H' (es.map (·.d)) ts:=I.tk.mono fun b xs h=>by rw [k b (I.wk.ro.outT h) (ZaF h I.wk.jr.li (by intro z;cases z))];exact h
 refine ⟨W'.same s,I.sb,p2.same s,h3,?_,s _ _ hh1,I.dh,NL.new W'.ro W'.jr h1,I.nh,Ne.symm (Zai hh1 h1),fun d hd=>I.na d ?_⟩
 .rw [List.map_take]
  exact (t1.take n).mono fun b xs h=>s _ _ h
 .rw [List.map_take] at hd
  exact List.mem_of_mem_take hd
theorem KJ.grow (I:KJ K C cJ cS cM cN HB Hs H j dx R L A S0 es m kp hl ts hs) {e:DI} {m':Nat} {H1:Hp} {t:Addr} (ht:H t=some (.tup (tellV e.d))) (hn:near e.d/\∀ s p o n,e.d=.save s p o n->0<=s/\s<16) (s:Same (upd H kp (.lst (ts.map V.ref++[.ref t]))) H1) (k:∀ b,Out A b->b≠L->H' b=H1 b) (W':Wk K C cJ cS cM cN (fun _=>none) H' j dx R L A S0 (es++[e]) m') :
  KJ K C cJ cS cM cN HB Hs H' j dx R L A S0 (es++[e]) m' kp hl (ts++[t]) hs:=by
 have W1:=(I.wk.lst (ys:=ts.map V.ref++[.ref t]) I.hk I.nk).same s
 have p1:Prot A [L,kp,hl] Hs H':=((I.pr.wr (o:=.lst (ts.map V.ref++[.ref t])) (by simp)).same s).step fun b h1 h2=>k b h1 fun z=>h2 (by simp [z])
 have hk1:H1 kp=some (.lst (ts.map V.ref++[.ref t])):=s _ _ Zab
 have hh1:H1 hl=some (.lst hs):=s _ _ (by rw [Zaf (Ne.symm I.kh)];exact I.hh)
 have mv:∀ b xs,H b=some (.tup xs)->H' b=some (.tup xs):=fun b xs h=>by
  have h2:H1 b=some (.tup xs):=s _ _ (by rw [Zaf (ZaF h I.hk (by intro z;cases z))];exact h)
  rw [k b (W1.ro.outT h2) (ZaF h2 W1.jr.li (by intro z;cases z))]
  exact h2
 have em:(es++[e]).map (·.d)=es.map (·.d)++[e.d]:=by rw [List.map_append];rfl
 refine ⟨W',I.sb,p1,?_,?_,?_,I.dh,I.nk,I.nh,I.kh,?_⟩
 .rw [k _ (W1.ro.outL hk1) I.nk.1,hk1,List.map_append];rfl
 .rw [em];exact (I.tk.mono mv).snoc (mv _ _ ht)
 .rw [k _ (W1.ro.outL hh1) I.nh.1];exact hh1
 .rw [em]
  intro d hd
  rcases List.mem_append.mp hd with hd|hd
  .exact I.na d hd
  .rw [List.mem_singleton.mp hd];exact hn
theorem KJ.held (I:KJ K C cJ cS cM cN HB Hs H j dx R L A S0 es m kp hl ts hs) {u q1 q2 q3 q4:Addr} {ms:List Int} {us:List Addr} (hu:H u=some (.tup [.ref q1,.ref q2,.ref q3,.ref q4])) (h1:H q1=some (.lst (us.map V.ref))) (t1:TupsAt H (es.map (·.d)) us) (h2:H q2=some (.lst (ts.map V.ref))) (h3:H q3=some (.lst (ms.map V.int))) (h4:H q4=some (.lst (ms.map V.int)))
  (n:∀ b∈[q1,q2,q3,q4],b≠L/\b≠kp/\b≠hl) :
  ∃ Hs',KJ K C cJ cS cM cN HB Hs' (upd H hl (.lst (hs++[.ref u]))) j dx R L A S0 es m kp hl ts (hs++[.ref u]):=by
 have inH:∀ b o,H b=some o->Out A b->b≠L/\b≠kp/\b≠hl->hold A [L,kp,hl] H b=some o:=fun b o h h1 h2=>by
  rw [ZfA h1 (by simp [h2.1,h2.2.1,h2.2.2])];exact h
 have tu:∀ b xs,H b=some (.tup xs)->hold A [L,kp,hl] H b=some (.tup xs):=fun b xs h=>inH b _ h (I.wk.ro.outT h) ⟨ZaF h I.wk.jr.li (by intro z;cases z),ZaF h I.hk (by intro z;cases z),ZaF h I.hh (by intro z;cases z)⟩
 have ls:∀ b∈[q1,q2,q3,q4],∀ xs,H b=some (.lst xs)->hold A [L,kp,hl] H b=some (.lst xs):=fun b hb xs h=>inH b _ h (I.wk.ro.outL h) (n b hb)
 have ss:Same Hs (hold A [L,kp,hl] H):=fun b o h=>by
  rw [ZfA (I.pr.ou b o h).1 (I.pr.ou b o h).2];exact I.pr.sm b o h
 refine ⟨hold A [L,kp,hl] H,I.wk.lst I.hh I.nh,fun b o h=>ss b o (I.sb b o h),Zfc.wr (by simp),?_,?_,Zab,?_,I.nk,I.nh,I.kh,I.na⟩
 .rw [Zaf I.kh];exact I.hk
 .exact I.tk.mono fun b xs h=>by rw [Zaf (ZaF h I.hh (by intro z;cases z))];exact h
 .intro v hv
  rcases List.mem_append.mp hv with hv|hv
  .exact (I.dh v hv).keep ss
  .rw [List.mem_singleton.mp hv]
   exact ⟨u,q1,q2,q3,q4,_,.lst (Dt.ints ms),rfl,tu _ _ hu,(t1.mono tu).dv (ls q1 (by simp) _ h1),(I.tk.mono tu).dv (ls q2 (by simp) _ h2),Zgj _,Zb9 (Zal (ls q3 (by simp) _ h3)),Zb9 (Zal (ls q4 (by simp) _ h4)),by simp [Dt.dep,Zet]⟩
end
structure Be (K:PySem.W.Frag) (C:Addr) (H0 H:Hp) (R FD:Addr) (pu:Int) (A:Nat->Option AcI) (S:Nat->AcS):Prop where
 ro:Rooms K C H R A S 0
 ap:∀ j y,j<16->A j=some y->y.pr≠R
 sv:∀ j,0<=(S j).coin/\(S j).count=0/\(S j).store=(fun _=>0)/\(S j).rows=[]
 pu:∀ j y,A j=some y->(S j).purse=pu
 ou:Out A FD
 sa:Same H0 H
theorem Be.add {K:PySem.W.Frag} {C:Addr} {H0 H H':Hp} {R FD:Addr} {pu:Int} {A:Nat->Option AcI} {S:Nat->AcS} (B:Be K C H0 H R FD pu A S) {kv:List (Key×V)} (hF:H FD=some (.dK kv)) {i:Nat} (hi:i<16) {x:AcI} {c:Int} (hc:0<=c)
  (e5:H' R=some (.lst (((List.range 16).map fun j=>roomV (A j)).set i (.ref x.a)))) (e6:Acc K C H' x ⟨c,pu,0,[],fun _=>0⟩ 0)
  (fr:∀ b o,H b=some o->b≠R->H' b=some o) (n3:H x.a=none) (n4:H x.st=none) (n5:H x.pr=none) (sm:Same H0 H') :
  Be K C H0 H' R FD pu (setO A i x) (setS S i ⟨c,pu,0,[],fun _=>0⟩):=by
 have hR:=B.ro.ob
 refine ⟨B.ro.add hi e5 e6 (fun b o h h1 _=>fr b o h h1) (fun j y hj hy=>?_) (fun j y hj hy=>B.ap j y hj hy) n3 n4,fun j y hj hy=>?_,fun j=>?_,fun j y hy=>?_,fun j y hj hy=>?_,sm⟩
 .obtain ⟨kvs,g,_⟩:=(B.ro.ac j y hj hy).sto
  rw [g]
  exact fr _ _ g (ZaF g hR (by intro z;cases z))
 .rcases Zbg j y hy with ⟨rfl,rfl⟩|⟨z,gy⟩
  .exact Ne.symm (Zai hR n5)
  .exact B.ap j y hj gy
 .unfold setS
  by_cases z:j=i
  .rw [if_pos z];exact ⟨hc,rfl,rfl,rfl⟩
  .rw [if_neg z];exact B.sv j
 .unfold setS
  rcases Zbg j y hy with ⟨rfl,rfl⟩|⟨z,gy⟩
  .rw [if_pos rfl]
  .rw [if_neg z];exact B.pu j y gy
 .rcases Zbg j y hy with ⟨rfl,rfl⟩|⟨z,gy⟩
  .exact ⟨Zai hF n3,Zai hF n4⟩
  .exact B.ou j y hj gy
theorem Be.put {K:PySem.W.Frag} {C:Addr} {H0 H:Hp} {R FD:Addr} {pu:Int} {A:Nat->Option AcI} {S:Nat->AcS} (B:Be K C H0 H R FD pu A S) {kv kv2:List (Key×V)} (hF:H FD=some (.dK kv)) (h0:H0 FD=none):Be K C H0 (upd H FD (.dK kv2)) R FD pu A S:=by
 have im:SameI H (upd H FD (.dK kv2)):=SameI.upd hF Zdk
 refine ⟨⟨by rw [Zaf (ZaF B.ro.ob hF (by intro z;cases z))];exact B.ro.ob,fun j y hj hy=>?_,B.ro.da,B.ro.ds⟩,B.ap,B.sv,B.pu,B.ou,B.sa.wr h0⟩
 have h:=B.ro.ac j y hj hy
 obtain ⟨xs,g1,g2⟩:=h.pg
 obtain ⟨kvs,g3,g4⟩:=h.sto
 exact ⟨by rw [Zaf (Ne.symm (B.ou j y hj hy).1)];exact h.ob,⟨xs,by rw [Zaf (ZaF g1 hF (by intro z;cases z))];exact g1,g2.keep im⟩,kvs,by rw [Zaf (Ne.symm (B.ou j y hj hy).2)];exact g3,g4⟩
theorem Ziw {κ:Type} [DecidableEq κ] (kvs:List (κ×V)) (k:κ) (v:V):(putK kvs k v).length<=kvs.length+1:=by
 unfold putK
 split
 .rw [List.length_map];omega
 .rw [List.length_append];exact Nat.le_refl _
section
end
def spLaw (K:PySem.W.Frag):Sp:=fun vs H Q _=>∃ (a:Addr) (ns:List Int),vs=[.ref a]/\SqL K H a (ns.map V.int)/\ns.length<=63/\∀ H',Q (.bl true) H'
section
variable {P:Program} {w:World} {K:PySem.W.Frag} {mg:Str->Option Value} {base:Heap}
theorem ZaN:FnScope ["_law_script", "_law_slots", "_law_cell", "_law_places", "_law_first", "_law_rooms", "_law_purse", "_law_k", "_law_journal", "_law_kept", "_law_held", "_law_mixed_here", "_law_coins", "_law_stores", "_law_mark", "_law_slot", "_law_told", "_law_copy_of", "_law_touched_here", "_law_touched_copy"] ["_law_script"] (Zad ZkW):=by walk_at "c"
theorem ok_law   {cAccount:Addr} {cJournal:Addr} {f:Addr} {fd:FuncData} (F:Fun K "law" "law" ZkW f fd) (tAccount:T_Account K mg cAccount) (tJournal:T_Journal K mg cJournal) (i_Account:ICal P w K mg base 1 "Account" cAccount (spInit K cAccount)) (i_Journal:ICal P w K mg base 1 "Journal" cJournal (Zia cJournal)) (m_Journal_back:MCal P w K mg base 3 cJournal "back" (spBack K cAccount cJournal cSave cMove cNote)) (m_Journal_write:MCal P w K mg base 3 cJournal "write" (Zib K cAccount cJournal cSave cMove cNote)) (m_Account_plain:MCal P w K mg base 2 cAccount "plain" (Zgm K cAccount)) (m_Journal_touched:MCal P w K mg base 2 cJournal "touched" (Zel cJournal cSave cMove cNote)) (m_Journal_told:MCal P w K mg base 2 cJournal "told" (Zfy cJournal cSave cMove cNote)) (c_Lslots_by:Cal P w K mg base 2 "_law_slots_by" (Zie K)) (c_Lcell_at:Cal P w K mg base 1 "_law_cell_at" (spCell K)) (c_Lspeaks:Cal P w K mg base 3 "_law_speaks" (Zgs K cJournal cSave cMove cNote)) (c_Lmixed:Cal P w K mg base 1 "_law_mixed" Zc2) (c_Ldone:Cal P w K mg base 1 "_law_done" (Zit K)) (c_Ldeed_by:Cal P w K mg base 2 "_law_deed_by" (Zff K)) (c_Lmade:Cal P w K mg base 3 "_law_made" (spMade K cSave cMove cNote)) (c_Lplain:Cal P w K mg base 1 "_law_plain" (Zgr K)) (c_Ltouched:Cal P w K mg base 1 "_law_touched" (Zev K)) (c_Lwide:Cal P w K mg base 1 "_law_wide" spWide) (n_range:mg "range" = none) (n_len:mg "len" = none) (n_list:mg "list" = none):FnOk P w K mg base CX0 4 f fd ["_law_script"] (spLaw K):=by
 refine F.ok (N:=["_law_script", "_law_slots", "_law_cell", "_law_places", "_law_first", "_law_rooms", "_law_purse", "_law_k", "_law_journal", "_law_kept", "_law_held", "_law_mixed_here", "_law_coins", "_law_stores", "_law_mark", "_law_slot", "_law_told", "_law_copy_of", "_law_touched_here", "_law_touched_copy"]) ZaN (fun vs H Q E h=>?_) (fun cdv A outer s H vs Q E hr h=>?_)
 .obtain ⟨a,ns,rfl,_⟩:=h;rfl
 .obtain ⟨a,ns,rfl,hS,hlen,k⟩:=h
  refine ⟨_,(Zac (Zaw (i:=1) ZaN.nd rfl (by first|exact Or.inl rfl|exact Or.inr rfl) (ZaC c_Lslots_by (hr.mono (by decide)) rfl (Zaa (pv 0) Zag)))
   (Zac (Zaw (i:=2) ZaN.nd rfl (by first|exact Or.inl rfl|exact Or.inr rfl) (ZaC c_Lcell_at (hr.mono (by decide)) rfl (Zaa (pv 0) (Zaa Zah Zag))))
   (Zac (Zaw (i:=3) ZaN.nd rfl (by first|exact Or.inl rfl|exact Or.inr rfl) (Zbc (Zaa (Zas ZaQ (pv 2) (Zas Zhc (Zas ZdP Zah Zah) Zah)) (Zaa (Zas ZbU (Zas ZaQ (pv 2) (Zas Zhc (Zas ZdP Zah Zah) Zah)) Zah) (Zaa (Zas ZaQ (ZaC c_Lmixed (hr.mono (by decide)) rfl (Zaa (pv 2) Zag)) Zah) Zag)))))
   (Zac (Zaw (i:=4) ZaN.nd rfl (by first|exact Or.inl rfl|exact Or.inr rfl) Zd5)
   (Zac (Zaw (i:=5) ZaN.nd rfl (by first|exact Or.inl rfl|exact Or.inr rfl) (Zas op_rep (Zbc (Zaa Zg6 Zag)) Zah))
   (Zac (Zaw (i:=6) ZaN.nd rfl (by first|exact Or.inl rfl|exact Or.inr rfl) (Zas ZaQ (ZaC c_Lcell_at (hr.mono (by decide)) rfl (Zaa (pv 0) (Zaa Zah Zag))) (Zas ZdP Zah Zah)))
   (Zac (ZbD PassesOwn.never rfl (Zc6 rfl n_range (Zaa (Zap ZbH rfl n_len PySem.boot_len (Zaa (pv 1) Zag)) Zag)) (Zat (i:=7) ZaN.nd rfl (by first|exact Or.inl rfl|exact Or.inr rfl))
   (Zac (ZbK (ZbT hr) (pv 4) (Zav ZaE (pv 1) (pv 7) (fun _ _=>rfl)) (Zas ZaQ (Zas ZcK (Zas ZbU (ZaC c_Lwide (hr.mono (by decide)) rfl (Zaa (ZaC c_Lcell_at (hr.mono (by decide)) rfl (Zaa (pv 0) (Zaa Zah Zag))) Zag)) (pv 7)) (Zas ZbU (Zas ZbU (Zas ZcK (pv 7) (pv 7)) (pv 7)) Zah)) (Zas ZdP Zah Zah)) rfl)
   (Zac (Zgc (Zbe (Zaq Zbq (pv 7) Zah (nomark _)) (Zae (ZbK (ZbT hr) (pv 4) (Zav ZaE (pv 1) (pv 7) (fun _ _=>rfl)) Zah rfl)) ZaD))
   (Zae (Zg9 (Zdi i_Account (hr.mono (by decide)) rfl (Zaa (ZbV (ZbT hr) (pv 4) (Zav ZaE (pv 1) (pv 7) (fun _ _=>rfl)) (fun _ _=>rfl)) (Zaa (pv 6) (Zaa (Zbc Zag) Zag)))) (pg_sub (pv 5) (Zav ZaE (pv 1) (pv 7) (fun _ _=>rfl)) ZiJ))))))
   (Zac (Zaw (i:=8) ZaN.nd rfl (by first|exact Or.inl rfl|exact Or.inr rfl) (Zdi i_Journal (hr.mono (by decide)) rfl (Zaa (pv 5) Zag)))
   (Zac (Zaw (i:=9) ZaN.nd rfl (by first|exact Or.inl rfl|exact Or.inr rfl) (Zbc Zag))
   (Zac (Zaw (i:=10) ZaN.nd rfl (by first|exact Or.inl rfl|exact Or.inr rfl) (Zbc Zag))
   (Zac (ZbD PassesOwn.never rfl (ZaR (Zd0 Zhs (pv 0) (ZdZ Zah) (ZdZ Zah))) (Zat (i:=2) ZaN.nd rfl (by first|exact Or.inl rfl|exact Or.inr rfl))
   (Zac (Zaw (i:=11) ZaN.nd rfl (by first|exact Or.inl rfl|exact Or.inr rfl) (ZaC c_Lmixed (hr.mono (by decide)) rfl (Zaa (pv 2) Zag)))
   (Zac (Zg9 (ZaC c_Ldone (hr.mono (by decide)) rfl (Zaa (pv 9) (Zaa (pv 4) Zag))) (ZfL (n:=2) rfl (Za8 (Zat (i:=12) ZaN.nd rfl (by first|exact Or.inl rfl|exact Or.inr rfl)) (Za8 (Zat (i:=13) ZaN.nd rfl (by first|exact Or.inl rfl|exact Or.inr rfl)) ZdY))))
   (Zac (Zgc (Zbe (Zaq Zbq (Zas ZaQ (pv 11) Zah) Zah (nomark _)) (Zac (Zaw (i:=14) ZaN.nd rfl (by first|exact Or.inl rfl|exact Or.inr rfl) (Zas ZaQ (Zas Zba (pv 11) Zah) (Zas ZbU (Zap ZbH rfl n_len PySem.boot_len (Zaa (pv 9) Zag)) Zah)))
   (Zac (Zay (ZcD m_Journal_back (hr.mono (by decide)) (pv 8) (Zaa (pv 14) Zag)))
   (Zae (Zaw (i:=9) ZaN.nd rfl (by first|exact Or.inl rfl|exact Or.inr rfl) (Zd0 Zhs (pv 9) Zhp (ZdZ (pv 14))))))) (Zac (Zay (Zd2 PySem.F.plainAttrs_list PySem.F.slot_list_append PySem.F.type_list_append Zbi (pv 9) (Zaa (ZaC c_Ldeed_by (hr.mono (by decide)) rfl (Zaa (pv 2) (Zaa (pv 1) (Zaa (pv 12) (Zaa (pv 13) (Zaa (pv 3) Zag)))))) Zag)))
   (Zae (Zay (ZcD m_Journal_write (hr.mono (by decide)) (pv 8) (Zaa (ZaC c_Lmade (hr.mono (by decide)) rfl (Zaa (Zav ZaE (pv 9) (pe_un un_neg Zah) (fun _ _=>rfl)) Zag)) Zag)))))))
   (Zac (Zbe (ZdO (Zc5 (ZaC c_Lspeaks (hr.mono (by decide)) rfl (Zaa (pv 8) (Zaa (pv 9) (Zaa (Zas ZaQ (Zas Zba (pv 11) Zah) Zah) Zag)))))) (Zae (Zao ZcB)) ZaD)
   (Zac (Zg9 (ZaC c_Ldone (hr.mono (by decide)) rfl (Zaa (pv 9) (Zaa (pv 4) Zag))) (ZfL (n:=2) rfl (Za8 (Zat (i:=12) ZaN.nd rfl (by first|exact Or.inl rfl|exact Or.inr rfl)) (Za8 (Zat (i:=13) ZaN.nd rfl (by first|exact Or.inl rfl|exact Or.inr rfl)) ZdY))))
   (Zac (ZbD PassesOwn.never rfl (ZaR (pv 1)) (Zat (i:=15) ZaN.nd rfl (by first|exact Or.inl rfl|exact Or.inr rfl))
   (Zae (Zbe (Zaq (ZeP hr.units) (Zbs m_Account_plain (hr.mono (by decide)) (Zav ZaE (pv 5) (pv 15) (fun _ _=>rfl))) (ZaC c_Lplain (hr.mono (by decide)) rfl (Zaa (pv 15) (Zaa (pv 12) (Zaa (pv 13) (Zaa (pv 6) Zag))))) (nomark _)) (Zae (Zao ZcB)) ZaD)))
   (Zac (Zay (Zd2 PySem.F.plainAttrs_list PySem.F.slot_list_append PySem.F.type_list_append Zbi (pv 10) (Zaa (Zbh (Zaa (Zbs m_Journal_told (hr.mono (by decide)) (pv 8)) (Zaa (ZbF ZhJ rfl n_list PyProof.Rows.boot_list (Zaa (pv 9) Zag)) (Zaa (Zbs m_Journal_touched (hr.mono (by decide)) (pv 8)) (Zaa (ZaC c_Ltouched (hr.mono (by decide)) rfl (Zaa (pv 9) Zag)) Zag))))) Zag)))
   (Zac (Zay (Zd2 PySem.F.plainAttrs_list PySem.F.slot_list_append PySem.F.type_list_append Zbi (Zbs m_Journal_touched (hr.mono (by decide)) (pv 8)) (Zaa Zah Zag)))
   (Zae (Zay (Zd2 PySem.F.plainAttrs_list PySem.F.slot_list_append PySem.F.type_list_append Zbi (Zbs m_Journal_told (hr.mono (by decide)) (pv 8)) (Zaa Zah Zag)))))))))))))
   (Zac (ZbD PassesOwn.never rfl (ZaR (pv 10)) (ZfL (n:=4) rfl (Za8 (Zat (i:=16) ZaN.nd rfl (by first|exact Or.inl rfl|exact Or.inr rfl)) (Za8 (Zat (i:=17) ZaN.nd rfl (by first|exact Or.inl rfl|exact Or.inr rfl)) (Za8 (Zat (i:=18) ZaN.nd rfl (by first|exact Or.inl rfl|exact Or.inr rfl)) (Za8 (Zat (i:=19) ZaN.nd rfl (by first|exact Or.inl rfl|exact Or.inr rfl)) ZdY)))))
   (Zae (Zbe (PW.pt (Zj1 (Zaq (ZeP hr.units) (pv 16) (pv 17) (nomark _)) (Zg7 (Zaq (ZeP hr.units) (pv 18) (pv 19) (nomark _))))) (Zae (Zao ZcB)) ZaD)))
   (Zae (Zao (ZaC c_Lspeaks (hr.mono (by decide)) rfl (Zaa (pv 8) (Zaa (pv 9) (Zaa Zah Zag)))))))))))))))))),?_⟩
  walk_at "nx"
  generalize hT1:tFor (iRng1 _) _ _=T1
  (revert T1 hT1;refine keepIt ?_;intro T1 hT1)
  generalize hT2:tFor (iList _ _) _ _=T2
  (revert T2 hT2;refine keepIt ?_;intro T2 hT2)
  generalize hT3:tSeq (tFor (iList _ _) _ _) _=T3
  (revert T3 hT3;refine keepIt ?_;intro T3 hT3)
  walk_at "K"
  first|refine Zaj fun zQ zq=>⟨a,ns,rfl,hS,fun sl ss H1 s1 hsl0 h2 h5 h16 hnd hsl=>zq _ _ ?_⟩|refine ⟨a,ns,rfl,hS,fun sl ss H1 s1 hsl0 h2 h5 h16 hnd hsl=>?_⟩
  have hS1:=s1.seq hS
  have hsl:H1 sl=some (.lst (slotV ss)):=hsl
  walk_at "K"
  first|refine Zaj fun zQ zq=>⟨a,ns,1,rfl,by decide,hS1,fun c1=>zq _ _ ?_⟩|refine ⟨a,ns,1,rfl,by decide,hS1,fun c1=>?_⟩
  walk_at "K"
  first|refine Zaj fun zQ zq=>⟨_,rfl,fun w1 _ _=>zq _ _ ?_⟩|refine ⟨_,rfl,fun w1 _ _=>?_⟩
  walk_at "K"
  refine ⟨show 3<=sizeLine by decide,fun pl hpl0=>?_⟩
  obtain ⟨ps,hps⟩:∃ ps:List Int,ps=[c1 % (2 ^ Int.toNat 64-1),c1 % (2 ^ Int.toNat 64-1)+1,w1 % 5]:=⟨_,rfl⟩
  have hp3:ps.length=3:=by rw [hps];rfl
  have s2:=Same.new hpl0 (o:=.lst (ps.map V.int))
  have epl:HO.lst [V.int (c1 % (2 ^ Int.toNat 64-1)),V.int (c1 % (2 ^ Int.toNat 64-1)+1),V.int (w1 % 5)]=.lst (ps.map V.int):=by rw [hps];rfl
  rw [epl]
  have hpl:(upd H1 pl (.lst (ps.map V.int))) pl=some (.lst (ps.map V.int)):=Zab
  generalize upd H1 pl _=H2 at s2 hpl |-
  (revert H2 s2 hpl;refine keepIt ?_;intro H2 s2 hpl)
  clear epl hps
  have hS2:=s2.seq hS1
  have hsl2:=s2 _ _ hsl
  walk_at "K"
  rename_i FD hFD
  have s3:=Same.new hFD (o:=.dK [])
  have gFD:(upd H2 FD (.dK [])) FD=some (.dK []):=Zab
  generalize upd H2 FD _=H2b at s3 gFD |-
  (revert H2b s3 gFD;refine keepIt ?_;intro H2b s3 gFD)
  walk_at "K"
  refine ⟨show 1<=sizeLine by decide,fun z hz=>?_⟩
  walk_at "K"
  first|refine Zaj fun zQ zq=>⟨z,16,[.non],rfl,rfl,Zab,by decide,by decide,by decide,fun R hR0=>zq _ _ ?_⟩|refine ⟨z,16,[.non],rfl,rfl,Zab,by decide,by decide,by decide,fun R hR0=>?_⟩
  have e16:(List.replicate (Int.toNat 16) [V.non]).flatten=(List.range 16).map fun i=>roomV ((fun _=>none:Nat->Option AcI) i):=rfl
  rw [e16]
  have nR:=Zc3 hR0
  have sm0:Same H2 (upd (upd H2b z (.lst [.non])) R (.lst ((List.range 16).map fun i=>roomV ((fun _=>none:Nat->Option AcI) i)))):=(s3.newT hz).newT hR0
  have sm1:Same H2b (upd (upd H2b z (.lst [.non])) R (.lst ((List.range 16).map fun i=>roomV ((fun _=>none:Nat->Option AcI) i)))):=(Same.new hz).newT hR0
  have f3:(upd (upd H2b z (.lst [.non])) R (.lst ((List.range 16).map fun i=>roomV ((fun _=>none:Nat->Option AcI) i)))) R=some (.lst ((List.range 16).map fun i=>roomV ((fun _=>none:Nat->Option AcI) i))):=Zab
  generalize upd (upd H2b z (.lst [.non])) R _=H3 at sm0 sm1 f3
  (revert H3 sm0 sm1 f3;refine keepIt ?_;intro H3 sm0 sm1 f3)
  have hRN:H2 R=none:=s3.fresh nR.2
  have gF3:=sm1 _ _ gFD
  walk_at "K"
  first|refine Zaj fun zQ zq=>⟨a,ns,3,rfl,by decide,sm0.seq hS2,fun c3=>zq _ _ ?_⟩|refine ⟨a,ns,3,rfl,by decide,sm0.seq hS2,fun c3=>?_⟩
  walk_at "K"
  generalize c3 % 2 ^ Int.toNat 64=pu
  (revert pu;refine keepIt ?_;intro pu)
  have B0:Be K cAccount H2 H3 R FD pu (fun _=>none) (fun _=>⟨0,0,0,[],fun _=>0⟩):=⟨Rooms.empty f3 _,fun _ _ _ h=>(nomatch h),fun _=>⟨Int.le_refl _,rfl,rfl,rfl⟩,fun _ _ h=>(nomatch h),fun _ _ _ h=>(nomatch h),sm0⟩
  have hsl3:SqL K H3 sl (slotV ss):=Zal (sm0 _ _ hsl2)
  have hvl:(slotV ss).length=ss.length:=List.length_map ..
  walk_at "K"
  generalize hD:Ends.mk _ _ _ _=D0
  (revert D0 hD;refine keepIt ?_;intro D0 hD)
  subst hT1
  refine ZbG (Zea ?_)
  walk_at "K"
  first|refine Zaj fun zQ zq=>⟨_,rfl,by omega,by omega,zq _ _ ?_⟩|refine ⟨_,rfl,by omega,by omega,?_⟩
  have ent:(((slotV ss).length:Nat):Int).toNat=ss.length:=by rw [hvl];omega
  rw [ent]
  obtain ⟨PV,hPV⟩:∃ PV:Nat->St->Hp->Prop,PV=(fun i σ' H'=>∃ A S v7,Be K cAccount H2 H' R FD pu A S/\(∃ kv,H' FD=some (.dK kv)/\kv.length<=2*i/\∀ j x,A j=some x->valV kv (Sum.inl (j:Int):Key)=some (.int (S j).coin))/\(∀ j,(∃ x,A j=some x) ↔ j∈ss.take i)/\σ'=[some (.ref a),some (.ref sl),some (.int c1),some (.ref pl),some (.ref FD),some (.ref R),some (.int pu),v7,none,none,none,none,none,none,none,none,none,none,none,none]):=⟨_,rfl⟩
  refine Zew (n:=ss.length) PV ?_ ?_ ?_
  .rw [hPV]
   exact ⟨_,_,_,B0,⟨[],gF3,Nat.le_refl _,fun _ _ h=>(nomatch h)⟩,fun j=>by simp,rfl⟩
  .intro i σ' H' hi hI
   rw [hPV] at hI
   obtain ⟨Ar,S,v7,B,⟨kv,hkv,hkl,hkc⟩,hAi,rfl⟩:=hI
   have hs16:=h16 _ (List.getElem_mem hi)
   have esl:atI (slotV ss) (i:Int)=some (.int ((ss[i]:Nat):Int)):=Zb8 (i:=i) (by unfold slotV;rw [List.getElem?_map,List.getElem?_eq_getElem hi];rfl) rfl
   have htk:ss.take (i+1)=ss.take i++[ss[i]]:=List.take_succ_eq_append_getElem hi
   generalize ss[i]=t0 at hs16 esl htk
   (revert t0 hs16 esl htk;refine keepIt ?_;intro t0 hs16 esl htk)
   have hS':=B.sa.seq hS2
   have big:(100:Nat)<sizeLine:=by decide
   rw [Int.zero_add]
   walk_at "K"
   first|refine Zaj fun zQ zq=>⟨a,ns,2,rfl,by decide,hS',fun c2=>zq _ _ ?_⟩|refine ⟨a,ns,2,rfl,by decide,hS',fun c2=>?_⟩
   walk_at "K"
   first|refine Zaj fun zQ zq=>⟨_,rfl,fun w2 _ _=>zq _ _ ?_⟩|refine ⟨_,rfl,fun w2 _ _=>?_⟩
   have cm:CMul (w2+(i:Int)) ((i:Int)*(i:Int)+(i:Int)+1):=by
    have q1:(i:Int)*(i:Int)<=4*4:=Int.mul_le_mul (by omega) (by omega) (by omega) (by omega)
    have q2:0<=(i:Int)*(i:Int):=Int.mul_nonneg (by omega) (by omega)
    exact .inr ⟨by omega,by omega⟩
   walk_at "K"
   refine rd_I cm ?_
   walk_at "K"
   have hc:0<=(w2+(i:Int))*((i:Int)*(i:Int)+(i:Int)+1) % 2 ^ Int.toNat 61:=Int.emod_nonneg _ (by decide)
   generalize (w2+(i:Int))*((i:Int)*(i:Int)+(i:Int)+1) % 2 ^ Int.toNat 61=coin at hc |-
   clear cm
   refine Zbd (Zal (B.sa _ _ hsl2)) esl ?_
   refine Zbt hkv (by omega) ?_
   have B1:=B.put (kv2:=putK kv (Sum.inl (t0:Int)) (.int coin)) hkv hFD
   have e1:(upd H' FD (.dK (putK kv (Sum.inl (t0:Int)) (.int coin)))) FD=some (.dK (putK kv (Sum.inl (t0:Int)) (.int coin))):=Zab
   have hl1:=Ziw kv (Sum.inl (t0:Int):Key) (.int coin)
   have hv1:∀ key:Key,valV (putK kv (Sum.inl (t0:Int)) (.int coin)) key=if key=Sum.inl (t0:Int) then some (.int coin) else valV kv key:=fun key=>ZbJ ..
   generalize upd H' FD _=Ha at B1 e1 |-
   (revert Ha B1 e1;refine keepIt ?_;intro Ha B1 e1)
   generalize putK kv (Sum.inl (t0:Int)) (.int coin)=kv1 at e1 hl1 hv1
   (revert kv1 e1 hl1 hv1;refine keepIt ?_;intro kv1 e1 hl1 hv1)
   walk_at "K"
   refine Zgb (fun σ' H'=>σ'=[some (.ref a),some (.ref sl),some (.int c1),some (.ref pl),some (.ref FD),some (.ref R),some (.int pu),some (.int (i:Int)),none,none,none,none,none,none,none,none,none,none,none,none]/\Be K cAccount H2 H' R FD pu Ar S/\∃ kv2 cn,0<=cn/\H' FD=some (.dK kv2)/\kv2.length<=2*(i+1)/\∀ key:Key,valV kv2 key=if key=Sum.inl (t0:Int) then some (.int cn) else valV kv key) ?_ ?_
   .dsimp only
    walk_at "K'"
    .refine Zbd (Zal (B1.sa _ _ hsl2)) esl ?_
     refine Zbt e1 (by omega) ?_
     have hl2:=Ziw kv1 (Sum.inl (t0:Int):Key) (.int 0)
     exact ⟨rfl,B1.put e1 hFD,_,0,Int.le_refl _,Zab,by omega,fun key=>by rw [ZbJ,hv1];split<;>rfl⟩
    .exact ⟨rfl,B1,kv1,coin,hc,e1,by omega,hv1⟩
   .clear B hkv B1 e1 hl1 hv1 hc
    rintro σ' Hb ⟨rfl,B,kv2,cn,hc,e2,hl2,hv2⟩
    have hS':=B.sa.seq hS2
    dsimp only
    walk_at "K"
    refine Zbd (Zal (B.sa _ _ hsl2)) esl ?_
    first|refine Zaj fun zQ zq=>⟨FD,.int cn,rfl,by have:=DGet.k (k:=Sum.inl (t0:Int)) e2;rw [hv2,if_pos rfl] at this;exact this,zq _ _ ?_⟩|refine ⟨FD,.int cn,rfl,by have:=DGet.k (k:=Sum.inl (t0:Int)) e2;rw [hv2,if_pos rfl] at this;exact this,?_⟩
    walk_at "K"
    refine ⟨by decide,fun e he=>?_⟩
    have sE:=Same.new he (o:=.lst [])
    have ge:(upd Hb e (.lst [])) e=some (.lst []):=Zab
    generalize upd Hb e _=He at sE ge
    (revert He sE ge;refine keepIt ?_;intro He sE ge)
    walk_at "K"
    intro x dx hx hdx hxd
    have smx:Same He (upd (upd He dx (.own x)) x (.ins cAccount dx [])):=(Same.new hdx).newT (by rw [Zaf (Ne.symm hxd)];exact hx)
    first|refine Zaj fun zQ zq=>⟨x,dx,e,cn,pu,[],[],rfl,Zab,smx.seq (Zal ge),⟨rfl,fun i r v h=>by simp at h⟩,fun pr st H3' hpr hst hps AC kp=>zq _ _ ⟨rfl,?_⟩⟩|refine ⟨x,dx,e,cn,pu,[],[],rfl,Zab,smx.seq (Zal ge),⟨rfl,fun i r v h=>by simp at h⟩,fun pr st H3' hpr hst hps AC kp=>⟨rfl,?_⟩⟩
    have sF:=Same.made hx hdx kp
    have sEF:=sE.trans sF
    have hRo:H3' R=some (.lst ((List.range 16).map fun j=>roomV (Ar j))):=sEF _ _ B.ro.ob
    have hslF:SqL K H3' sl (slotV ss):=Zal (sEF _ _ (B.sa _ _ hsl2))
    have nx:Hb x=none:=sE.fresh hx
    have nst:Hb st=none:=sE.fresh (smx.fresh hst)
    have npr:Hb pr=none:=sE.fresh (smx.fresh hpr)
    have hob:=AC.ob
    have nRx:x≠R:=ZaF hob hRo (by intro z;cases z)
    have hRlen:((List.range 16).map fun j=>roomV (Ar j)).length=16:=by rw [List.length_map,List.length_range]
    walk_at "K"
    refine Zbd hslF esl ?_
    refine ZkC hRo (ZkD (j:=t0) rfl (by rw [hRlen];exact hs16)) ?_
    have B2:=B.add e2 (x:=⟨x,dx,pr,st⟩) (c:=cn) (H':=upd H3' R (.lst (((List.range 16).map fun j=>roomV (Ar j)).set t0 (.ref x)))) hs16 hc Zab
     (by
      obtain ⟨xs,g1,g2⟩:=AC.pg
      obtain ⟨kvs,g3,g4⟩:=AC.sto
      refine ⟨by rw [Zaf nRx];exact hob,⟨xs,by rw [Zaf (Ne.symm (Zai B.ro.ob npr))];exact g1,?_⟩,kvs,by rw [Zaf (Ne.symm (Zai B.ro.ob nst))];exact g3,g4⟩
      exact g2.keep (SameI.upd hRo ZcE))
     (fun b o h h3=>by rw [Zaf h3];exact sEF _ _ h)
     nx nst npr ((B.sa.trans sEF).wr hRN)
    show PV _ _ _
    rw [hPV]
    refine ⟨_,_,_,B2,⟨kv2,by rw [Zaf (ZaF (sEF _ _ e2) hRo (by intro z;cases z))];exact sEF _ _ e2,hl2,fun j y hy=>?_⟩,fun j=>?_,rfl⟩
    .rw [hv2]
     unfold setS
     rcases Zbg j y hy with ⟨rfl,rfl⟩|⟨z,gy⟩
     .rw [if_pos rfl,if_pos rfl]
     .rw [if_neg (fun q=>z (by have:=Sum.inl.inj q;omega)),if_neg z]
      exact hkc j y gy
    .rw [htk,List.mem_append,List.mem_singleton,<- hAi j]
     unfold setO
     by_cases z:j=t0
     .rw [if_pos z];exact ⟨fun _=>.inr z,fun _=>⟨_,rfl⟩⟩
     .rw [if_neg z];exact ⟨fun q=>.inl q,fun q=>q.resolve_right z⟩
  .intro σ' H5 hI
   rw [hPV] at hI
   obtain ⟨Ar,S,v7,B,⟨kv,hkv,hkl,hkc⟩,hAi,rfl⟩:=hI
   subst hD
   clear hPV B0 gF3 f3 sm1
   rw [List.take_length] at hAi
   have hA:hasAll Ar ss:=fun i hi=>⟨h16 i hi,(hAi i).mpr hi⟩
   have F5:FirstAt H5 FD Ar S:=⟨kv,hkv,by omega,fun i x _ hx=>hkc i x hx⟩
   dsimp only
   walk_at "K"
   intro j dx hj hdx hne
   first|refine Zaj fun zQ zq=>⟨j,dx,R,rfl,Zab,fun L hL=>zq _ _ ⟨rfl,?_⟩⟩|refine ⟨j,dx,R,rfl,Zab,fun L hL=>⟨rfl,?_⟩⟩
   have nLj:=Zc3 hL
   have nLd:=Zc3 nLj.2
   have s6:Same H5 (upd (upd (upd (upd H5 dx (.own j)) j (.ins cJournal dx [])) L (.lst [])) j (.ins cJournal dx (jF R L))):=fun b u e=>by
    have n1:b≠j:=Zai e hj
    rw [Zaf n1,Zaf (Zai e nLd.2),Zaf n1,Zaf (Zai e hdx)]
    exact e
   have gj:(upd (upd (upd (upd H5 dx (.own j)) j (.ins cJournal dx [])) L (.lst [])) j (.ins cJournal dx (jF R L))) j=some (.ins cJournal dx (jF R L)):=Zab
   have gL:(upd (upd (upd (upd H5 dx (.own j)) j (.ins cJournal dx [])) L (.lst [])) j (.ins cJournal dx (jF R L))) L=some (.lst []):=by rw [Zaf nLj.1];exact Zab
   have hLN:=nLd.2
   generalize upd (upd (upd (upd H5 dx (.own j)) j (.ins cJournal dx [])) L (.lst [])) j _=H6 at s6 gj gL
   (revert H6 s6 gj gL;refine keepIt ?_;intro H6 s6 gj gL)
   have r5:=B.ro
   have r6:=r5.same s6
   have J6:Jr cJournal cSave cMove cNote H6 j dx R L Ar []:=⟨gj,gL,fun e he=>by simp at he,Ne.symm (Zai r5.ob hLN),fun i x hi hx=>let ⟨_,g,_⟩:=(r5.ac i x hi hx).pg;Ne.symm (Zai g hLN)⟩
   have s26:=B.sa.trans s6
   have W6:Wk K cAccount cJournal cSave cMove cNote (fun _=>none) H6 j dx R L Ar S [] 0:=⟨J6,r6,trivial,fun q i=>by rw [show (([]:List DI).map (·.d)).take q=[] from List.take_nil];exact (B.sv i).1,fun b o _ _ h=>(nomatch h)⟩
   clear gj gL r6 r5 J6
   walk_at "K"
   refine ⟨by decide,fun kp hkp=>?_⟩
   have sK:=Same.new hkp (o:=.lst [])
   have gK:(upd H6 kp (.lst [])) kp=some (.lst []):=Zab
   generalize upd H6 kp _=H7 at sK gK
   (revert H7 sK gK;refine keepIt ?_;intro H7 sK gK)
   have W7:=W6.same sK
   walk_at "K"
   refine ⟨by decide,fun hl hhl=>?_⟩
   have sL:=Same.new hhl (o:=.lst [])
   have gHl:(upd H7 hl (.lst [])) hl=some (.lst []):=Zab
   generalize upd H7 hl _=H8 at sL gHl
   (revert H8 sL gHl;refine keepIt ?_;intro H8 sL gHl)
   have W8:=W7.same sL
   have s28:=(s26.trans sK).trans sL
   have hS8:=s28.seq hS2
   have nz:∀ i p,(S i).store p=0:=fun i p=>by rw [(B.sv i).2.2.1]
   have nr:∀ (ds:List Dd) i,(runS S ds i).count=0/\(runS S ds i).rows=[]:=fun ds i=>⟨(ZdJ ds S i).2.1.trans (B.sv i).2.1,(ZdJ ds S i).2.2.trans (B.sv i).2.2.2⟩
   have npu:∀ (ds:List Dd) i x,Ar i=some x->(runS S ds i).purse=pu:=fun ds i x hx=>(ZdJ ds S i).1.trans (B.pu i x hx)
   walk_at "K"
   generalize hD:Ends.mk _ _ _ _=D0
   (revert D0 hD;refine keepIt ?_;intro D0 hD)
   subst hT2
   refine ZbG (ZaP ?_)
   walk_at "K"
   intro u hu
   obtain ⟨ms,hms,hml⟩:=Zih ns (some 4) (some 104)
   rw [hms]
   have s9:=Same.new hu (o:=.lst (ms.map V.int))
   have gu:(upd H8 u (.lst (ms.map V.int))) u=some (.lst (ms.map V.int)):=Zab
   generalize upd H8 u _=H9 at s9 gu
   (revert H9 s9 gu;refine keepIt ?_;intro H9 s9 gu)
   have W9:=W8.same s9
   have hkp9:=s9 _ _ (sL _ _ gK)
   have hhl9:=s9 _ _ gHl
   have nkp:=NL.new W6.ro W6.jr hkp
   have nhl:=NL.new W7.ro W7.jr hhl
   have nkh:kp≠hl:=Zai gK hhl
   have P0:=Zfc (A:=Ar) (ex:=[L,kp,hl]) (H:=H9)
   have inH:∀ b o,H9 b=some o->Out Ar b->b≠L->b≠kp->b≠hl->hold Ar [L,kp,hl] H9 b=some o:=fun b o h h1 h2 h3 h4=>by
    rw [ZfA h1 (by simp [h2,h3,h4])];exact h
   have old:∀ b o,H5 b=some o->Out Ar b->hold Ar [L,kp,hl] H9 b=some o:=fun b o h h1=>inH b o (s9 _ _ (sL _ _ (sK _ _ (s6 _ _ h)))) h1 (Zai h hLN) (Zai (s6 _ _ h) hkp) (Zai (sK _ _ (s6 _ _ h)) hhl)
   have hslB:hold Ar [L,kp,hl] H9 sl=some (.lst (slotV ss)):=old sl _ (B.sa _ _ hsl2) (B.ro.outL (B.sa _ _ hsl2))
   have hplB:hold Ar [L,kp,hl] H9 pl=some (.lst (ps.map V.int)):=old pl _ (B.sa _ _ hpl) (B.ro.outL (B.sa _ _ hpl))
   have hFDB:hold Ar [L,kp,hl] H9 FD=some (.dK kv):=old FD _ hkv B.ou
   have huB:hold Ar [L,kp,hl] H9 u=some (.lst (ms.map V.int)):=inH u _ gu (W9.ro.outL gu) (Ne.symm (Zai W8.jr.li hu)) (Ne.symm (Zai (sL _ _ gK) hu)) (Ne.symm (Zai gHl hu))
   have I9:KJ K cAccount cJournal cSave cMove cNote (hold Ar [L,kp,hl] H9) (hold Ar [L,kp,hl] H9) H9 j dx R L Ar S [] 0 kp hl [] []:=⟨W9,Same.refl _,P0,hkp9,TupsAt.nil,hhl9,fun v hv=>by simp at hv,nkp,nhl,nkh,fun d hd=>by simp at hd⟩
   generalize hold Ar [L,kp,hl] H9=HB at I9 hslB hplB hFDB huB
   (revert HB I9 hslB hplB hFDB huB;refine keepIt ?_;intro HB I9 hslB hplB hFDB huB)
   clear P0 inH old
   obtain ⟨PV,hPV⟩:∃ PV:Nat->St->Hp->Prop,PV=(fun i σ' H'=>∃ Hs es m kp ts hs c2 v11 v12 v13 v14 v15,KJ K cAccount cJournal cSave cMove cNote HB Hs H' j dx R L Ar S es m kp hl ts hs/\es.length<=i/\m<=64*i/\hs.length<=i/\σ'=[some (.ref a),some (.ref sl),c2,some (.ref pl),some (.ref FD),some (.ref R),some (.int pu),v7,some (.ref j),some (.ref kp),some (.ref hl),v11,v12,v13,v14,v15,none,none,none,none]):=⟨_,rfl⟩
   refine ⟨u,rfl,⟨_,Zal gu⟩,Za9 (xs:=ms.map V.int) PV (by rw [hPV];exact ⟨_,[],0,kp,[],_,_,_,_,_,_,_,I9,Nat.zero_le _,Nat.zero_le _,Nat.zero_le _,rfl⟩) (fun i σ' H' _ hz=>by rw [hPV] at hz;obtain ⟨_,_,_,_,_,_,_,_,_,_,_,_,I,_⟩:=hz;exact Zal (I.pr.sm _ _ (I.sb _ _ huB))) ?_ ?_⟩
   .clear I9 hkp9 hhl9 nkp nhl nkh W9 W8 W7 W6 gHl gK hhl hkp hu
    intro i xx σ' H' hxx hz
    rw [hPV] at hz
    obtain ⟨Hs,es,m,kp,ts,hs,c2,v11,v12,v13,v14,v15,I,hel,hm,hhs,rfl⟩:=hz
    rw [List.getElem?_map] at hxx
    obtain ⟨c,hc,rfl⟩:=Option.map_eq_some_iff.mp hxx
    obtain ⟨hi,_⟩:=List.getElem?_eq_some_iff.mp hc
    have hi9:i<63:=Nat.lt_of_lt_of_le hi (Nat.le_trans hml hlen)
    have hts:ts.length=es.length:=by have:=I.tk.1;rw [List.length_map] at this;exact this.symm
    have big:(1000:Nat)<sizeLine:=by decide
    have F0:FirstAt H' FD Ar S:=⟨kv,I.pr.sm _ _ (I.sb _ _ hFDB),by omega,fun i x _ hx=>hkc i x hx⟩
    walk_at "K"
    first|refine Zaj fun zQ zq=>⟨_,rfl,fun z z0 z1=>zq _ _ ?_⟩|refine ⟨_,rfl,fun z z0 z1=>?_⟩
    walk_at "K"
    first|refine Zaj fun zQ zq=>⟨kp,FD,_,ts,Ar,S,rfl,I.hk,I.tk,by omega,F0,nz,I.fit,fun T CD SD Ha sa nT nCD nSD gT l=>zq _ _ ?_⟩|refine ⟨kp,FD,_,ts,Ar,S,rfl,I.hk,I.tk,by omega,F0,nz,I.fit,fun T CD SD Ha sa nT nCD nSD gT l=>?_⟩
    have Ia:=I.same sa
    clear I F0 nT
    refine Zdl (ZbY gT) rfl (Zca ?_)
    walk_at "K"
    clear gT
    have hkS:SqL K Ha kp (ts.map V.ref):=Zal Ia.hk
    have hkl:(ts.map V.ref).length=es.length:=by rw [List.length_map,hts]
    walk_at "K"
    obtain ⟨PC,hPC⟩:∃ PC:St->Hp->Prop,PC=(fun σ' H4=>∃ Hs2 es2 m2 kp2 ts2 v12 v13 v14,KJ K cAccount cJournal cSave cMove cNote HB Hs2 H4 j dx R L Ar S es2 m2 kp2 hl ts2 hs/\es2.length<=i+1/\m2<=64*(i+1)/\σ'=[some (.ref a),some (.ref sl),some (.int c),some (.ref pl),some (.ref FD),some (.ref R),some (.int pu),v7,some (.ref j),some (.ref kp2),some (.ref hl),some (.int z),v12,v13,v14,v15,none,none,none,none]):=⟨_,rfl⟩
    refine Zgb PC ?_ ?_
    .dsimp only
     walk_at "K"
     .rw [hkl]
      have q0:0<=z / 4 % ((es.length:Nat)+1:Int):=Int.emod_nonneg _ (ar9 _).1
      have q1:z / 4 % ((es.length:Nat)+1:Int)<(es.length:Nat)+1:=Int.emod_lt_of_pos _ (ar9 _).2
      generalize z / 4 % ((es.length:Nat)+1:Int)=mk at q0 q1 |-
      (revert mk q0 q1;refine keepIt ?_;intro mk q0 q1)
      walk_at "K"
      refine ZaV Ia.wk.jr.ob rfl ?_
      walk_at "K"
      first|refine Zaj fun zQ zq=>⟨j,dx,R,L,Ar,S,m,es,mk,rfl,Ia.wk.jr,Ia.wk.ro,Ia.wk.ri,ar1 hel hm hi9,fun H2' k2 r2 ri2 J2=>zq _ _ ?_⟩|refine ⟨j,dx,R,L,Ar,S,m,es,mk,rfl,Ia.wk.jr,Ia.wk.ro,Ia.wk.ri,ar1 hel hm hi9,fun H2' k2 r2 ri2 J2=>?_⟩
      obtain ⟨n,rfl⟩:∃ n:Nat,mk=(n:Int):=⟨mk.toNat,ar8 q0⟩
      rw [Int.toNat_natCast] at r2 ri2 J2
      have W2:=Ia.wk.back k2 r2 ri2 J2
      have hk2:H2' kp=some (.lst (ts.map V.ref)):=by rw [k2 _ (Ia.wk.ro.outL Ia.hk) Ia.nk.1];exact Ia.hk
      walk_at "K"
      intro kp2 hkp2
      rw [ZhC,<- List.map_take]
      have sb:=Same.new hkp2 (o:=.lst ((ts.take n).map V.ref))
      have I2:=Ia.cut (n:=n) k2 W2 sb hkp2 Zab
      have hel2:(es.take n).length<=i+1:=by rw [List.length_take];exact ar6 hel
      have hm2:m+es.length<=64*(i+1):=ar2 hel hm hi9
      show PC _ _
      rw [hPC]
      exact ⟨Hs,_,_,_,_,_,_,_,I2,hel2,hm2,rfl⟩
     .walk_at "K"
      refine ⟨ZbN (Zal Ia.hk),?_⟩
      walk_at "K"
      first|refine Zaj fun zQ zq=>⟨sl,CD,SD,pl,c,Ar,_,_,ss,ps,rfl,l,by rw [List.length_map];omega,Ia.wk.now,Ia.pr.sm _ _ (Ia.sb _ _ hslB),h2,h5,hA,Ia.pr.sm _ _ (Ia.sb _ _ hplB),hp3,fun t d Hb sb nt gt fit rgt okm nr2=>zq _ _ ?_⟩|refine ⟨sl,CD,SD,pl,c,Ar,_,_,ss,ps,rfl,l,by rw [List.length_map];omega,Ia.wk.now,Ia.pr.sm _ _ (Ia.sb _ _ hslB),h2,h5,hA,Ia.pr.sm _ _ (Ia.sb _ _ hplB),hp3,fun t d Hb sb nt gt fit rgt okm nr2=>?_⟩
      have Ib:=Ia.same sb
      walk_at "K"
      refine ZbI Ib.hk (by omega) ?_
      have W1:=Ib.wk.lst (ys:=ts.map V.ref++[.ref t]) Ib.hk Ib.nk
      have gt1:(upd Hb kp (.lst (ts.map V.ref++[.ref t]))) t=some (.tup (tellV d)):=by rw [Zaf (ZaF gt Ib.hk (by intro z;cases z))];exact gt
      have hk1:(upd Hb kp (.lst (ts.map V.ref++[.ref t]))) kp=some (.lst (ts.map V.ref++[.ref t])):=Zab
      generalize hHb1:upd Hb kp (.lst (ts.map V.ref++[.ref t]))=Hb1 at W1 gt1 hk1 |-
      (revert Hb1 hHb1 W1 gt1 hk1;refine keepIt ?_;intro Hb1 hHb1 W1 gt1 hk1)
      walk_at "K"
      refine ZaV W1.jr.ob rfl ?_
      walk_at "K"
      refine Zbd (Zal hk1) (Zkw (n:=ts.length) (by rw [List.getElem?_append_right (by rw [List.length_map];exact Nat.le_refl _),List.length_map,Nat.sub_self];rfl) (by rw [List.length_append,List.length_map];rfl)) ?_
      walk_at "K"
      first|refine Zaj fun zQ zq=>⟨t,d,rfl,ZbY gt1,fun o dxo Hc sc ho0 ho=>zq _ _ ?_⟩|refine ⟨t,d,rfl,ZbY gt1,fun o dxo Hc sc ho0 ho=>?_⟩
      have W2:=W1.same sc
      walk_at "K"
      first|refine Zaj fun zQ zq=>⟨j,dx,R,L,Ar,_,m,es,⟨o,dxo,d⟩,rfl,W2.jr,W2.ro,ho,fit,ar3 hm hi9,ar5 hel hi9 (by decide),fun Hd kd rd Jd=>zq _ _ ?_⟩|refine ⟨j,dx,R,L,Ar,_,m,es,⟨o,dxo,d⟩,rfl,W2.jr,W2.ro,ho,fit,ar3 hm hi9,ar5 hel hi9 (by decide),fun Hd kd rd Jd=>?_⟩
      have WD:=W2.write kd rd Jd rgt (Zk3 W2.now okm fit)
      subst hHb1
      have I2:=Ib.grow (e:=⟨o,dxo,d⟩) gt nr2 sc kd WD
      have hel2:(es++[(⟨o,dxo,d⟩:DI)]).length<=i+1:=by rw [List.length_append];exact Nat.succ_le_succ hel
      have hm2:m+1<=64*(i+1):=ar4 hm
      walk_at "K"
      show PC _ _
      rw [hPC]
      exact ⟨Hs,_,_,_,_,_,_,_,I2,hel2,hm2,rfl⟩
    .clear Ia l hkS
     intro σ' H4 hz
     rw [hPC] at hz
     obtain ⟨Hs2,es2,m2,kp2,ts2,v12,v13,v14,I2,hel2,hm2,rfl⟩:=hz
     clear hPC
     have hts2:ts2.length=es2.length:=by have:=I2.tk.1;rw [List.length_map] at this;exact this.symm
     dsimp only
     walk_at "K"
     first|refine Zaj fun zQ zq=>⟨j,dx,R,L,kp2,Ar,es2,_,ts2,_,rfl,I2.wk.jr,rfl,by rw [List.length_map];omega,I2.na,I2.hk,I2.tk,fun H5' s5=>zq _ _ ?_⟩|refine ⟨j,dx,R,L,kp2,Ar,es2,_,ts2,_,rfl,I2.wk.jr,rfl,by rw [List.length_map];omega,I2.na,I2.hk,I2.tk,fun H5' s5=>?_⟩
     have I3:=I2.same s5
     have F3:FirstAt H5' FD Ar S:=⟨kv,I3.pr.sm _ _ (I3.sb _ _ hFDB),by omega,fun i x _ hx=>hkc i x hx⟩
     clear I2
     walk_at "K"
     first|refine Zaj fun zQ zq=>⟨kp2,FD,_,ts2,Ar,S,rfl,I3.hk,I3.tk,by omega,F3,nz,I3.fit,fun T2 CD2 SD2 H6' s6' nT2 nCD2 nSD2 gT2 l2=>zq _ _ ?_⟩|refine ⟨kp2,FD,_,ts2,Ar,S,rfl,I3.hk,I3.tk,by omega,F3,nz,I3.fit,fun T2 CD2 SD2 H6' s6' nT2 nCD2 nSD2 gT2 l2=>?_⟩
     have I4:=I3.same s6'
     clear I3 F3 nT2
     refine Zdl (ZbY gT2) rfl (Zca ?_)
     walk_at "K"
     walk_at "K"
     generalize hD2:Ends.mk _ _ _ _=D2
     (revert D2 hD2;refine keepIt ?_;intro D2 hD2)
     refine ZbG (ZaP ?_)
     walk_at "K"
     have r4:=I4.wk.ro.tight nz
     have hdl:(es2.map (·.d)).length<64:=by rw [List.length_map];omega
     have hsl4:=I4.pr.sm _ _ (I4.sb _ _ hslB)
     refine ⟨sl,rfl,⟨_,Zal hsl4⟩,Za9 (xs:=slotV ss) (fun n σ' H7=>Same H6' H7/\∃ v,σ'=[some (.ref a),some (.ref sl),some (.int c),some (.ref pl),some (.ref FD),some (.ref R),some (.int pu),v7,some (.ref j),some (.ref kp2),some (.ref hl),some (.int z),some (.ref CD2),some (.ref SD2),v14,v,none,none,none,none]) ⟨Same.refl _,_,rfl⟩ (fun n σ' H7 _ ⟨e,_⟩=>Zal (e _ _ hsl4)) ?_ ?_⟩
     .rintro n x0 σ' H7 hx0 ⟨s7,v,rfl⟩
      unfold slotV at hx0
      rw [List.getElem?_map] at hx0
      obtain ⟨i0,hi0,rfl⟩:=Option.map_eq_some_iff.mp hx0
      obtain ⟨hi16,x,hx⟩:=hA i0 (List.mem_of_getElem? hi0)
      have r7:=r4.same s7
      have ax:AcAt K cAccount H7 x.a x.dx x.pr x.st (runS S (es2.map (·.d)) i0).coin pu 0 [] (runS S (es2.map (·.d)) i0).store (es2.map (·.d)).length:=by
       have q:=r7.ac i0 x hi16 hx
       unfold Acc at q
       rw [(nr _ i0).1,(nr _ i0).2,npu _ i0 x hx] at q
       exact q
      have l7:=l2.same fun b o h _=>s7 b o h
      walk_at "K"
      refine Zbd (Zal r7.ob) (r7.at hi16 hx) ?_
      refine ZaV ax.ob rfl ?_
      walk_at "K"
      first|refine Zaj fun zQ zq=>⟨x.a,x.dx,x.pr,x.st,_,_,_,_,_,rfl,ax,hdl,fun q1 L1 H8 s8 nq1 su1 hL1 gq1=>zq _ _ ?_⟩|refine ⟨x.a,x.dx,x.pr,x.st,_,_,_,_,_,rfl,ax,hdl,fun q1 L1 H8 s8 nq1 su1 hL1 gq1=>?_⟩
      have l8:=l7.same fun b o h _=>s8 b o h
      walk_at "K"
      first|refine Zaj fun zQ zq=>⟨i0,CD2,SD2,pu,Ar,_,_,x,rfl,l8,hdl,hi16,hx,fun q2 L2 H9' s9' nq2 su2 hL2 gq2=>zq _ _ ?_⟩|refine ⟨i0,CD2,SD2,pu,Ar,_,_,x,rfl,l8,hdl,hi16,hx,fun q2 L2 H9' s9' nq2 su2 hL2 gq2=>?_⟩
      have eL:L1=L2:=ZbO su1.1 su2.1 fun n=>(su1.2 n).trans (su2.2 n).symm
      subst eL
      refine Zdj (d:=.lst (Dt.ints _)) (Zb9 (Zal (s9' _ _ gq1))) (Zb9 (Zal gq2)) (by simp [Dt.dep,Zet]) ?_
      walk_at "K"
      exact ⟨(s7.trans s8).trans s9',_,rfl⟩
     .rintro σ' H7 ⟨s7,v,rfl⟩
      have I5:=I4.same s7
      clear I4 r4 hsl4 l2
      subst hD2
      dsimp only
      walk_at "K"
      refine ⟨ZbN (Zal I5.hh),?_⟩
      walk_at "K"
      refine ZaV I5.wk.jr.ob rfl ?_
      walk_at "K"
      first|refine Zaj fun zQ zq=>⟨j,dx,R,L,Ar,es2,rfl,I5.wk.jr,by omega,fun q1 us Ha1 sa1 nq1 gq1 tq1=>zq _ _ ?_⟩|refine ⟨j,dx,R,L,Ar,es2,rfl,I5.wk.jr,by omega,fun q1 us Ha1 sa1 nq1 gq1 tq1=>?_⟩
      have I6:=I5.same sa1
      walk_at "K"
      refine Zeb (Zal I6.hk) fun q2 nq2=>?_
      have sa2:=Same.new nq2 (o:=.lst (ts2.map V.ref))
      have gq2:(upd Ha1 q2 (.lst (ts2.map V.ref))) q2=some (.lst (ts2.map V.ref)):=Zab
      generalize upd Ha1 q2 _=Ha2 at sa2 gq2 |-
      (revert Ha2 sa2 gq2;refine keepIt ?_;intro Ha2 sa2 gq2)
      have I7:=I6.same sa2
      walk_at "K"
      refine ZaV I7.wk.jr.ob rfl ?_
      walk_at "K"
      first|refine Zaj fun zQ zq=>⟨j,dx,R,L,Ar,es2,rfl,I7.wk.jr,by omega,I7.na,fun q3 ms3 Ha3 sa3 nq3 gq3 r3 m3=>zq _ _ ?_⟩|refine ⟨j,dx,R,L,Ar,es2,rfl,I7.wk.jr,by omega,I7.na,fun q3 ms3 Ha3 sa3 nq3 gq3 r3 m3=>?_⟩
      have I8:=I7.same sa3
      walk_at "K"
      first|refine Zaj fun zQ zq=>⟨kp2,_,ts2,rfl,I8.hk,I8.tk,by omega,I8.na,fun q4 ms4 Ha4 sa4 nq4 gq4 r4 m4=>zq _ _ ?_⟩|refine ⟨kp2,_,ts2,rfl,I8.hk,I8.tk,by omega,I8.na,fun q4 ms4 Ha4 sa4 nq4 gq4 r4 m4=>?_⟩
      have e34:ms3=ms4:=ZbO r3 r4 fun n=>(m3 n).trans (m4 n).symm
      subst e34
      have I9:=I8.same sa4
      walk_at "K"
      refine ⟨show 4<=sizeLine by decide,fun u4 nu4=>?_⟩
      have sa5:=Same.new nu4 (o:=.tup [.ref q1,.ref q2,.ref q3,.ref q4])
      have gu4:(upd Ha4 u4 (.tup [.ref q1,.ref q2,.ref q3,.ref q4])) u4=some (.tup [.ref q1,.ref q2,.ref q3,.ref q4]):=Zab
      generalize upd Ha4 u4 _=Ha5 at sa5 gu4 |-
      (revert Ha5 sa5 gu4;refine keepIt ?_;intro Ha5 sa5 gu4)
      have I10:=I9.same sa5
      have s45:=sa4.trans sa5
      have s35:=sa3.trans s45
      have s25:=sa2.trans s35
      have fr:∀ {Hx:Hp} {b:Addr},KJ K cAccount cJournal cSave cMove cNote HB Hs2 Hx j dx R L Ar S es2 m2 kp2 hl ts2 hs->Hx b=none->b≠L/\b≠kp2/\b≠hl:=fun J h=>⟨Ne.symm (Zai J.wk.jr.li h),Ne.symm (Zai J.hk h),Ne.symm (Zai J.hh h)⟩
      obtain ⟨Hs3,I11⟩:=I10.held gu4 (s25 _ _ gq1) (tq1.keepS s25) (s35 _ _ gq2) (s45 _ _ gq3) (sa5 _ _ gq4) (fun b hb=>by
       rcases List.mem_cons.mp hb with rfl|hb
       .exact fr I5 nq1
       rcases List.mem_cons.mp hb with rfl|hb
       .exact fr I6 nq2
       rcases List.mem_cons.mp hb with rfl|hb
       .exact fr I7 nq3
       rw [List.mem_singleton.mp hb]
       exact fr I8 nq4)
      walk_at "K"
      refine ZbI I10.hh (by omega) ?_
      clear I5 I6 I7 I8 I9 I10 fr
      generalize upd Ha5 hl _=Ha6 at I11 |-
      (revert Ha6 I11;refine keepIt ?_;intro Ha6 I11)
      walk_at "K"
      refine ZaV I11.wk.jr.ob rfl ?_
      walk_at "K"
      first|refine Zaj fun zQ zq=>⟨j,dx,R,L,Ar,es2,rfl,I11.wk.jr,by omega,I11.na,fun q5 ms5 Ha7 sa7 nq5 gq5 r5 m5=>zq _ _ ?_⟩|refine ⟨j,dx,R,L,Ar,es2,rfl,I11.wk.jr,by omega,I11.na,fun q5 ms5 Ha7 sa7 nq5 gq5 r5 m5=>?_⟩
      walk_at "K"
      refine ⟨ZbN (Zal gq5),?_⟩
      walk_at "K"
      refine ZbI gq5 ?_ ?_
      .rw [List.length_map]
       have hb5:=len16 (l:=ms5) (List.nodup_iff_pairwise_ne.mpr (r5.imp fun h=>by omega)) fun n hn=>by
        obtain ⟨d',hd',hn2⟩:=List.mem_flatMap.mp ((m5 n).mp hn)
        have zz:=I11.na d' hd'
        exact Zcc zz.1 zz.2 n hn2
       omega
      have sa8:=sa7.wr nq5 (o:=.lst (ms5.map V.int++[.int 17]))
      generalize upd Ha7 q5 _=Ha8 at sa8 |-
      (revert Ha8 sa8;refine keepIt ?_;intro Ha8 sa8)
      have I12:=I11.same sa8
      clear I11
      walk_at "K"
      refine ZaV I12.wk.jr.ob rfl ?_
      walk_at "K"
      first|refine Zaj fun zQ zq=>⟨j,dx,R,L,Ar,es2,rfl,I12.wk.jr,by omega,fun q6 us6 Ha9 sa9 nq6 gq6 tq6=>zq _ _ ?_⟩|refine ⟨j,dx,R,L,Ar,es2,rfl,I12.wk.jr,by omega,fun q6 us6 Ha9 sa9 nq6 gq6 tq6=>?_⟩
      walk_at "K"
      refine ⟨ZbN (Zal gq6),?_⟩
      walk_at "K"
      refine ZbI gq6 (by have:=tq6.1;rw [List.length_map] at this |-;omega) ?_
      have sa10:=sa9.wr nq6 (o:=.lst (us6.map V.ref++[.int 17]))
      generalize upd Ha9 q6 _=Ha10 at sa10 |-
      (revert Ha10 sa10;refine keepIt ?_;intro Ha10 sa10)
      have I13:=I12.same sa10
      walk_at "K"
      show PV _ _ _
      rw [hPV]
      exact ⟨_,_,_,_,_,_,_,_,_,_,_,_,I13,hel2,hm2,by rw [List.length_append];exact Nat.succ_le_succ hhs,rfl⟩
   .clear I9 hkp9 hhl9 nkp nhl nkh W9 W8 W7 W6 gHl gK hhl hkp hu
    intro σ' H' hz
    rw [hPV] at hz
    obtain ⟨Hs,es,m,kp,ts,hs,c2,v11,v12,v13,v14,v15,I,hel,hm,hhs,rfl⟩:=hz
    subst hD
    subst hT3
    rw [List.length_map] at hel hm hhs
    dsimp only
    walk_at "K"
    generalize hD3:Ends.mk _ _ _ _=D3
    (revert D3 hD3;refine keepIt ?_;intro D3 hD3)
    refine ZbG (ZaP ?_)
    walk_at "K"
    refine ⟨hl,rfl,⟨_,Zal I.hh⟩,Za9 (xs:=hs) (fun n σ' H7=>H7=H'/\∃ w1 w2 w3 w4,σ'=[some (.ref a),some (.ref sl),c2,some (.ref pl),some (.ref FD),some (.ref R),some (.int pu),v7,some (.ref j),some (.ref kp),some (.ref hl),v11,v12,v13,v14,v15,w1,w2,w3,w4]) ⟨rfl,_,_,_,_,rfl⟩ (fun n σ' H7 _ ⟨e,_⟩=>by rw [e];exact Zal I.hh) ?_ ?_⟩
    .rintro n x0 σ' H7 hx0 ⟨rfl,w1,w2,w3,w4,rfl⟩
     obtain ⟨u4,q1,q2,q3,q4,D1,D2,rfl,gu4,dv1,dv2,dd1,dv3,dv4,dd2⟩:=I.dh x0 (List.mem_of_getElem? hx0)
     have gu5:=I.pr.sm _ _ gu4
     refine Zdl (ZbY gu5) rfl (Zca ?_)
     walk_at "K"
     refine Zdj (DV.keep I.pr.sm dv1) (DV.keep I.pr.sm dv2) dd1 ?_
     walk_at "K"
     refine Zdj (DV.keep I.pr.sm dv3) (DV.keep I.pr.sm dv4) dd2 ?_
     walk_at "K"
     exact ⟨rfl,_,_,_,_,rfl⟩
    .rintro σ' H7 ⟨rfl,w1,w2,w3,w4,rfl⟩
     subst hD3
     dsimp only
     walk_at "K"
     first|refine Zaj fun zQ zq=>⟨j,dx,R,L,kp,Ar,es,_,ts,_,rfl,I.wk.jr,rfl,by rw [List.length_map];omega,I.na,I.hk,I.tk,fun H8 s8=>zq _ _ ?_⟩|refine ⟨j,dx,R,L,kp,Ar,es,_,ts,_,rfl,I.wk.jr,rfl,by rw [List.length_map];omega,I.na,I.hk,I.tk,fun H8 s8=>?_⟩
     exact k H8
end
end My
open PySem PySem.W PyProof.Rows
local macro_rules|`(tactic| walk_at "vals")=>`(tactic| first
 | exact L2.ZiT
 | (refine L2.ZiU ?_;walk_at "vals")
 | (refine L2.ZiV ?_;walk_at "vals")
 | fail)
abbrev My.PP:=PySem.Challenge.rw_meterhouse_k26_journal_told_replayed.prog
local macro_rules|`(tactic| walk_at "D")=>`(tactic| (dsimp only [L2.KOf];refine' L2.ZiQ (by assumption) (by assumption) ?a ?l ?c ?k;(case a=>k_is);(case l=>k_is);(case c=>k_is);(case k=>k_is)))
local macro_rules|`(tactic| walk_at "E")=>`(tactic| (dsimp only [L2.KOf];refine' L2.ZhK ?a ?i ?l ?c ?k;(case a=>k_is);(case i=>k_is);(case l=>k_is);(case c=>k_is);(case k=>k_is)))
theorem My.naK {K:PySem.W.Frag} {C:Addr} {a:Str} (h:PySem.W.findIn K (.ref C) a=some none):L2.NoAttr K C a:=h
theorem My.clK {K:PySem.W.Frag} {h:Heap} {mg:Str->Option Value} {C:Addr} {x:Str} (X:K.In h) (G:h.Ns mainGlobals mg) (aC:PySem.W.nsIn K mainGlobals x=some (some (.ref C))) (pg:PySem.W.plainGet K C Str.empty=true) (hd:PySem.W.hasDictIn K C=true) (po:PySem.W.plainOver K C=true) (sa:PySem.W.findIn K (.ref C) "__setattr__" = some (some (.builtin "object.__setattr__"))) (mk:PySem.W.makesIn K C=true) (kc:PySem.W.keepIn K (.ref C)=true):L2.ClsF K mg x C:=⟨⟨pg,hd,po,sa⟩,mk,kc,PySem.W.mg_of X G aC⟩
local macro_rules|`(tactic| walk_at "T")=>`(tactic| (dsimp only [L2.KOf];refine' My.clK (by assumption) (by assumption) ?a ?b ?c ?d ?e ?f ?g;(case a=>k_is);(case b=>k_is);(case c=>k_is);(case d=>k_is);(case e=>k_is);(case f=>k_is);(case g=>k_is)))
local macro_rules|`(tactic| walk_at "A")=>`(tactic| (dsimp only [L2.KOf];refine' My.naK ?a;(case a=>k_is)))
local macro_rules|`(tactic| walk_at "N")=>`(tactic| (refine' PySem.W.mg_none_of (by assumption) (by assumption) ?a;(case a=>k_is)))
set_option maxRecDepth 100000 in
set_option maxHeartbeats 0 in
theorem PySem.Challenge.cw_meterhouse_k26_journal_told_replayed_holds : PySem.Challenge.rw_meterhouse_k26_journal_told_replayed.Holds := by
 refine Qhd ?_
 k_fill
 refine L2.ZiP (l:=PySem.Challenge.rw_meterhouse_k26_journal_told_replayed) (n:=63) (k:=4) (x := "_law_script") (CX:=L2.CX0) (sp:=My.spLaw) rfl (by decide) rfl ⟨rfl,by decide,by decide⟩ (fun w h Y=>PySem.W.kIn_of Y) ?F ?S ?C
 case F =>
  intro w mg fa h KX G hmg
  have D_row_numbers:L2.ZaS (L2.KOf KX) mg "row_numbers" My.ZbP:=by walk_at "D"
  have D_shift_coin:L2.ZaS (L2.KOf KX) mg "shift_coin" My.Zb1:=by walk_at "D"
  have D_Lcell_at:L2.ZaS (L2.KOf KX) mg "_law_cell_at" My.ZcG:=by walk_at "D"
  have D_Lmixed:L2.ZaS (L2.KOf KX) mg "_law_mixed" My.Zef:=by walk_at "D"
  have D_Lwide:L2.ZaS (L2.KOf KX) mg "_law_wide" My.Zfs:=by walk_at "D"
  have D_Lslots_by:L2.ZaS (L2.KOf KX) mg "_law_slots_by" My.ZbQ:=by walk_at "D"
  have D_Lmade:L2.ZaS (L2.KOf KX) mg "_law_made" My.Zft:=by walk_at "D"
  have D_Lwhole:L2.ZaS (L2.KOf KX) mg "_law_whole" My.Zeg:=by walk_at "D"
  have D_Lworth:L2.ZaS (L2.KOf KX) mg "_law_worth" My.Zcx:=by walk_at "D"
  have D_Ltouched:L2.ZaS (L2.KOf KX) mg "_law_touched" My.ZcI:=by walk_at "D"
  have D_Ldeed_by:L2.ZaS (L2.KOf KX) mg "_law_deed_by" My.ZcH:=by walk_at "D"
  have D_Ldone:L2.ZaS (L2.KOf KX) mg "_law_done" My.Zfu:=by walk_at "D"
  have D_Lplain:L2.ZaS (L2.KOf KX) mg "_law_plain" My.Zc1:=by walk_at "D"
  have D_Lkept_right:L2.ZaS (L2.KOf KX) mg "_law_kept_right" My.ZbR:=by walk_at "D"
  have D_Lspeaks:L2.ZaS (L2.KOf KX) mg "_law_speaks" My.Zds:=by walk_at "D"
  have D_law:L2.ZaS (L2.KOf KX) mg "law" My.ZkW:=by walk_at "D"
  obtain ⟨cAccount,tAccount,D_Account___init__,D_Account_keep,D_Account_plain⟩:∃ C,My.T_Account (L2.KOf KX) mg C/\L2.Zan (L2.KOf KX) C "__init__" "Account.__init__" My.Za3/\L2.Zan (L2.KOf KX) C "keep" "Account.keep" My.Zbw/\L2.Zan (L2.KOf KX) C "plain" "Account.plain" My.Zbm:=⟨126,⟨by walk_at "T", by walk_at "A", by walk_at "A", by walk_at "A", by walk_at "A", by walk_at "A"⟩,by walk_at "E", by walk_at "E", by walk_at "E"⟩
  obtain ⟨cSave,tSave,D_Save___init__,D_Save_do,D_Save_undo,D_Save_told,D_Save_worth,D_Save_touched⟩:∃ C,My.T_Save (L2.KOf KX) mg C/\L2.Zan (L2.KOf KX) C "__init__" "Save.__init__" My.Zbn/\L2.Zan (L2.KOf KX) C "do" "Save.do" My.Zdt/\L2.Zan (L2.KOf KX) C "undo" "Save.undo" My.Zcg/\L2.Zan (L2.KOf KX) C "told" "Save.told" My.Zch/\L2.Zan (L2.KOf KX) C "worth" "Save.worth" My.Zb2/\L2.Zan (L2.KOf KX) C "touched" "Save.touched" My.Zbx:=⟨238,⟨by walk_at "T", by walk_at "A", by walk_at "A", by walk_at "A", by walk_at "A"⟩,by walk_at "E", by walk_at "E", by walk_at "E", by walk_at "E", by walk_at "E", by walk_at "E"⟩
  obtain ⟨cMove,tMove,D_Move___init__,D_Move_do,D_Move_undo,D_Move_told,D_Move_touched,D_Move_worth⟩:∃ C,My.T_Move (L2.KOf KX) mg C/\L2.Zan (L2.KOf KX) C "__init__" "Move.__init__" My.Zbo/\L2.Zan (L2.KOf KX) C "do" "Move.do" My.Zdu/\L2.Zan (L2.KOf KX) C "undo" "Move.undo" My.Zci/\L2.Zan (L2.KOf KX) C "told" "Move.told" My.Zcj/\L2.Zan (L2.KOf KX) C "touched" "Move.touched" My.Zby/\L2.Zan (L2.KOf KX) C "worth" "Deed.worth" My.Zb4:=⟨285,⟨by walk_at "T", by walk_at "A", by walk_at "A", by walk_at "A"⟩,by walk_at "E", by walk_at "E", by walk_at "E", by walk_at "E", by walk_at "E", by walk_at "E"⟩
  obtain ⟨cNote,tNote,D_Note___init__,D_Note_told,D_Note_do,D_Note_undo,D_Note_worth,D_Note_touched⟩:∃ C,My.T_Note (L2.KOf KX) mg C/\L2.Zan (L2.KOf KX) C "__init__" "Note.__init__" My.Zbp/\L2.Zan (L2.KOf KX) C "told" "Note.told" My.Zck/\L2.Zan (L2.KOf KX) C "do" "Deed.do" My.Zdv/\L2.Zan (L2.KOf KX) C "undo" "Deed.undo" My.Zcl/\L2.Zan (L2.KOf KX) C "worth" "Deed.worth" My.Zb3/\L2.Zan (L2.KOf KX) C "touched" "Deed.touched" My.Zbz:=⟨311,⟨by walk_at "T", by walk_at "A", by walk_at "A"⟩,by walk_at "E", by walk_at "E", by walk_at "E", by walk_at "E", by walk_at "E", by walk_at "E"⟩
  obtain ⟨cJournal,tJournal,D_Journal___init__,D_Journal_write,D_Journal_mark,D_Journal_back,D_Journal_told,D_Journal_worth,D_Journal_touched⟩:∃ C,My.T_Journal (L2.KOf KX) mg C/\L2.Zan (L2.KOf KX) C "__init__" "Journal.__init__" My.Za2/\L2.Zan (L2.KOf KX) C "write" "Journal.write" My.Zbl/\L2.Zan (L2.KOf KX) C "mark" "Journal.mark" My.Zbu/\L2.Zan (L2.KOf KX) C "back" "Journal.back" My.Zbv/\L2.Zan (L2.KOf KX) C "told" "Journal.told" My.ZaT/\L2.Zan (L2.KOf KX) C "worth" "Journal.worth" My.ZaO/\L2.Zan (L2.KOf KX) C "touched" "Journal.touched" My.Za6:=⟨76,⟨by walk_at "T", by walk_at "A", by walk_at "A"⟩,by walk_at "E", by walk_at "E", by walk_at "E", by walk_at "E", by walk_at "E", by walk_at "E", by walk_at "E"⟩
  have n_list:mg "list" = none:=by walk_at "N"
  have n_sorted:mg "sorted" = none:=by walk_at "N"
  have n_len:mg "len" = none:=by walk_at "N"
  have n_set:mg "set" = none:=by walk_at "N"
  have n_max:mg "max" = none:=by walk_at "N"
  have n_sum:mg "sum" = none:=by walk_at "N"
  have n_range:mg "range" = none:=by walk_at "N"
  have n_isinstance:mg "isinstance" = none:=by walk_at "N"
  have n_int:mg "int" = none:=by walk_at "N"
  have n_bool:mg "bool" = none:=by walk_at "N"
  have n_dict:mg "dict" = none:=by walk_at "N"
  have n_tuple:mg "tuple" = none:=by walk_at "N"
  have g_FREED:L2.ZfT mg "FREED" (.int 4):=by
   refine' L2.ZgG KX G ?a
   (case a=>k_is)
  obtain ⟨fl,fd,FL,ml⟩:=D_law
  have e0:=hmg.symm.trans ml
  cases e0
  refine ⟨fd,L2.ZgH FL,fun base KB GB=>?_⟩
  have c_row_numbers:=My.ZdM (P:=My.PP) (w:=w) (base:=base)  D_row_numbers
  have i_Account:=My.Zcn (P:=My.PP) (w:=w) (base:=base)  D_Account___init__ tAccount   n_list
  have m_Account_keep:=My.Zdx (P:=My.PP) (w:=w) (base:=base)  D_Account_keep tAccount
  have m_Account_plain:=My.ZcY (P:=My.PP) (w:=w) (base:=base)  D_Account_plain tAccount   c_row_numbers n_sorted n_len
  have c_shift_coin:=My.Zei (P:=My.PP) (w:=w) (base:=base)  D_shift_coin tAccount
  have i_Save:=My.ZcP (P:=My.PP) (w:=w) (base:=base)  D_Save___init__ tSave
  have i_Move:=My.ZcR (P:=My.PP) (w:=w) (base:=base)  D_Move___init__ tMove
  have i_Note:=My.ZcT (P:=My.PP) (w:=w) (base:=base)  D_Note___init__ tNote
  have m_Save_do:=My.ZgT (P:=My.PP) (w:=w) (base:=base)  D_Save_do tSave tAccount m_Account_keep
  have m_Move_do:=My.ZgV (P:=My.PP) (w:=w) (base:=base)  D_Move_do tMove   c_shift_coin
  have m_Note_do:=My.ZgX (P:=My.PP) (w:=w) (base:=base) (cAccount:=cAccount) D_Note_do tNote
  have m_Save_undo:=My.ZeX (P:=My.PP) (w:=w) (base:=base)  D_Save_undo tSave tAccount m_Account_keep
  have m_Move_undo:=My.ZeZ (P:=My.PP) (w:=w) (base:=base)  D_Move_undo tMove   c_shift_coin
  have m_Note_undo:=My.Ze1 (P:=My.PP) (w:=w) (base:=base) (cAccount:=cAccount) D_Note_undo tNote
  have m_Save_told:=My.Ze6 (P:=My.PP) (w:=w) (base:=base)  D_Save_told tSave
  have m_Move_told:=My.Ze8 (P:=My.PP) (w:=w) (base:=base)  D_Move_told tMove
  have m_Note_told:=My.Zfa (P:=My.PP) (w:=w) (base:=base)  D_Note_told tNote
  have m_Save_worth:=My.Zen (P:=My.PP) (w:=w) (base:=base)  D_Save_worth tSave   g_FREED
  have m_Move_worth:=My.Zep (P:=My.PP) (w:=w) (base:=base)  D_Move_worth tMove
  have m_Note_worth:=My.Zer (P:=My.PP) (w:=w) (base:=base)  D_Note_worth tNote
  have m_Save_touched:=My.ZdE (P:=My.PP) (w:=w) (base:=base)  D_Save_touched tSave
  have m_Move_touched:=My.ZdG (P:=My.PP) (w:=w) (base:=base)  D_Move_touched tMove   n_sorted n_set
  have m_Note_touched:=My.ZdI (P:=My.PP) (w:=w) (base:=base)  D_Note_touched tNote
  have i_Journal:=My.Zcp (P:=My.PP) (w:=w) (base:=base)  D_Journal___init__ tJournal
  have m_Journal_mark:=My.Zdz (P:=My.PP) (w:=w) (base:=base)  D_Journal_mark tJournal   n_len
  have m_Journal_write:=My.ZcV (P:=My.PP) (w:=w) (base:=base)  D_Journal_write tJournal tSave tMove tNote tAccount m_Save_do m_Move_do m_Note_do
  have m_Journal_back:=My.ZdA (P:=My.PP) (w:=w) (base:=base)  D_Journal_back tJournal tSave tMove tNote tAccount m_Save_undo m_Move_undo m_Note_undo  n_len n_max
  have m_Journal_told:=My.ZdC (P:=My.PP) (w:=w) (base:=base)  D_Journal_told tJournal tSave tMove tNote m_Save_told m_Move_told m_Note_told
  have m_Journal_worth:=My.ZcX (P:=My.PP) (w:=w) (base:=base)  D_Journal_worth tJournal tSave tMove tNote m_Save_worth m_Move_worth m_Note_worth  n_sum
  have m_Journal_touched:=My.ZcA (P:=My.PP) (w:=w) (base:=base)  D_Journal_touched tJournal tSave tMove tNote m_Save_touched m_Move_touched m_Note_touched  n_sorted n_set
  have c_Lcell_at:=My.ZfC (P:=My.PP) (w:=w) (base:=base)  D_Lcell_at    n_len
  have c_Lmixed:=My.Zin (P:=My.PP) (w:=w) (base:=base)  D_Lmixed
  have c_Lwide:=My.Zjx (P:=My.PP) (w:=w) (base:=base)  D_Lwide
  have c_Lslots_by:=My.Zfe (P:=My.PP) (w:=w) (base:=base)  D_Lslots_by    c_Lmixed c_Lcell_at n_range
  have c_Lmade:=My.Zjz (P:=My.PP) (w:=w) (base:=base)  D_Lmade tSave tMove tNote i_Save i_Move i_Note
  have c_Lwhole:=My.Zip (P:=My.PP) (w:=w) (base:=base)  D_Lwhole    n_isinstance n_int n_bool
  have c_Lworth:=My.Zis (P:=My.PP) (w:=w) (base:=base)  D_Lworth    n_len
  have c_Ltouched:=My.ZfD (P:=My.PP) (w:=w) (base:=base)  D_Ltouched    n_sorted
  have c_Ldeed_by:=My.ZfE (P:=My.PP) (w:=w) (base:=base)  D_Ldeed_by    c_Lmixed c_Lwide n_len
  have c_Ldone:=My.ZjB (P:=My.PP) (w:=w) (base:=base)  D_Ldone    n_dict
  have c_Lplain:=My.Ziv (P:=My.PP) (w:=w) (base:=base)  D_Lplain    n_sorted n_len
  have c_Lkept_right:=My.ZdN (P:=My.PP) (w:=w) (base:=base)  D_Lkept_right    n_isinstance n_list n_tuple n_bool n_int
  have c_Lspeaks:=My.Zg0 (P:=My.PP) (w:=w) (base:=base)  D_Lspeaks tJournal m_Journal_told m_Journal_worth m_Journal_touched  c_Lkept_right c_Lwhole c_Ltouched c_Lworth n_range
  exact My.ok_law  FL tAccount tJournal i_Account i_Journal m_Journal_back m_Journal_write m_Account_plain m_Journal_touched m_Journal_told  c_Lslots_by c_Lcell_at c_Lspeaks c_Lmixed c_Ldone c_Ldeed_by c_Lmade c_Lplain c_Ltouched c_Lwide n_range n_len n_list
 case S=>exact fun K H a ns hl hO hS=>⟨a,ns,rfl,hS,hl,fun _=>rfl⟩
 case C=>exact fun _ _ _ _ z=>z
