import PyProof.Rows.All
import Wide.All
import OpenK.KLine
import OpenK.KOwn
import KE.KItem
import KE.KDictList
import KE.KRevIter
import KE.KTryMore
import KE.RegKIsAll
import KE.KIntText
import KE.IntTextLaws
import Wide.FinOn
import Lean
import PyProof.EqAt
import PyProof.EqKinds
import PyProof.TupleCall
import PySem.Challenge.RW_meterhouse_k68_whole_from_text_to_paper
set_option Elab.async false
set_option linter.all false
set_option maxRecDepth 100000
set_option genInjectivity false
set_option maxHeartbeats 4000000
local macro_rules|`(tactic|ext)=>`(tactic|walk_at"K")
local macro_rules|`(tactic|left)=>`(tactic|walk_at"nx")
local macro_rules|`(tactic|symm)=>`(tactic|walk_at"G")
local macro_rules|`(tactic|right)=>`(tactic|walk_at"W")
set_option compiler.extract_closed false
set_option hygiene false
local macro_rules|`(tactic|walk_at"p")=>`(tactic|exact⟨rfl,by decide +kernel,by decide +kernel,by decide +kernel,by decide +kernel,by decide +kernel⟩)|`(tactic|walk_at"I")=>`(tactic|intro pins s U H Q I h)|`(tactic|walk_at"J")=>`(tactic|intro pins s U H x y v u Q I rx ry h)|`(tactic|walk_at"V")=>`(tactic|intro pins s U H xs us Q I r h)|`(tactic|walk_at"B")=>`(tactic|intro pins s U H D I h)|`(tactic|walk_at"L")=>`(tactic|(intro vs H Q E h;first|(cases h;subst_vars;rfl)|((repeat obtain⟨_,h⟩:=h);subst_vars;rfl)))|`(tactic|walk_at"G")=>`(tactic|intro f cdv A outer s H vs Q E hr h)
set_option hygiene true
namespace PySem.W.Fast
open Lean
local macro_rules|`(command|#synth $s:str)=>do
 let mut o:=#[]
 let f (n:Name):MacroM (TSyntax `command):=do
  let i:=mkIdent (.mkSimple s!"tw{n.hash}")
  `(command|theorem $i:ident : True := trivial)
 let p::ws:=s.getString.splitOn " "|Macro.throwUnsupported
 if p="P" then return mkNullNode (← ws.toArray.mapM λw=>f (.str `PySem.Challenge w))
 for w in ws do
  let r:=w.splitOn "-"
  for k in [r[0]!.toNat!:r.getLast!.toNat!+1] do o:=o.push (← f (.str `Qhd s!"{p}_{k}"))
 return mkNullNode o
#synth"P pw_meterhouse_k68_whole_from_text_to_paper rw_meterhouse_k68_whole_from_text_to_paper"
#synth"env 41"
#synth"heap 39 46 1772"
#synth"o 43-1771"
#synth"sts 49 64 79 94 109 124 139 154 169 184 199 214 232 269 345 376 427 488 546 603 653 682 755 841 881 967 983 988 1068 1124 1175 1205 1423 1494 1559 1574 1632 1714"
#synth"tree 47 63 78 93 108 123 138 153 168 183 198 213 231 265 344 375 426 487 545 602 652 681 754 840 878 966 982 985 1067 1123 1174 1204 1337 1419 1493 1558 1571 1631 1713 1771"
#synth"view 39"
end PySem.W.Fast
section
namespace L2
open PySem PySem.W
def liveO:Obj->Option Obj
  |⟨_,_,.freed,_⟩=>none
  |o=>some o
noncomputable def pickL(os:List Obj):List Addr->Nat->List (Option Obj):=
  List.rec (motive:=λ_=>List Addr->Nat->List (Option Obj)) (λas _=>as.map λ_=>none)
    (λo _ ih as i=>List.rec (motive:=λ_=>List (Option Obj)) [] (λa r _=>bif Nat.beq a i then liveO o::ih r (Nat.succ i)else ih as (Nat.succ i)) as) os
theorem pickL_at:∀(os:List Obj)(L:List (Addr×Obj))(i:Nat),pickL os (L.map (·.1)) i=L.map (λp=>some p.2)->∀p∈L,∃k ob,p.1=i+k/\os[k]?=some ob/\liveO ob=some p.2
  |[],L,i,h=>by
   cases L with
   |nil=>intro p hp; cases hp
   |cons q r=>exact nomatch (List.cons.inj h).1
  |o::os,L,i,h=>by
   cases L with
   |nil=>intro p hp; cases hp
   |cons q r=>
    have h:(bif Nat.beq q.1 i then liveO o::pickL os (r.map (·.1)) (Nat.succ i)else pickL os ((q::r).map (·.1)) (Nat.succ i))=some q.2::r.map (λp=>some p.2):=h;cases e:Nat.beq q.1 i with
    |true=>
     rw[e,cond_true]at h;obtain⟨h1,h2⟩:=List.cons.inj h;intro p hp;rcases List.mem_cons.mp hp with rfl |hp
     · exact⟨0,o,Nat.eq_of_beq_eq_true e,rfl,h1⟩
     · obtain⟨k,ob,e1,e2,e3⟩:=pickL_at os r (Nat.succ i) h2 p hp
       exact⟨k+1,ob,by rw[e1]; exact(Nat.succ_add i k).trans (Nat.add_succ i k).symm,e2,e3⟩
    |false=>
     rw[e,cond_false]at h;intro p hp;obtain⟨k,ob,e1,e2,e3⟩:=pickL_at os (q::r) (Nat.succ i) h p hp;exact⟨k+1,ob,by rw[e1]; exact(Nat.succ_add i k).trans (Nat.add_succ i k).symm,e2,e3⟩
def pick_in{K:Params->Frag}{as:List Addr}(e:∀P,as=(K P).map (·.1))(w:World)(s:Shared)(x:pickL s.heap.objs.toList as 0=(K w.params).map λp=>some p.2):InK K w s.heap:=by
  refine InK.of e w s ?_;rw[e w.params]at x ⊢;rw[List.map_map];refine List.map_congr_left λp hp=>?_;obtain⟨k,ob,e1,e2,e3⟩:=pickL_at _ _ 0 x p hp;show s.heap.get? p.1=some p.2;unfold Heap.get?;rw[e1,Nat.zero_add,← Array.getElem?_toList,e2];obtain⟨c,d,da,sl⟩:=ob;cases da<;>exact e3
noncomputable def pHook(K:Params->Frag)(as:List Addr)(e:∀P,as=(K P).map (·.1))(_:Unit):Hook:=
  ⟨List (Option Obj),λs=>pickL s.heap.objs.toList as 0,λw=>(K w.params).map λp=>some p.2,InK K,pick_in e,InK.keeps⟩
end L2
local macro_rules |`(tactic|o_head ($_ $k $a $p))=>`(tactic|o_head (L2.pHook $k $a $p Unit.unit))
open PySem PySem.W PyProof.Rows
set_option maxHeartbeats 0 in
open_top Qhd for PySem.Challenge.rw_meterhouse_k68_whole_from_text_to_paper
end
open Lean in
def cvP:Nat->Term->MacroM (TSyntax `rcasesPat)
 |0,_=>Macro.throwUnsupported
 |n+1,p=>do match p with
  |`(⟨$ps,*⟩)=>do
   let qs<-ps.getElems.mapM (cvP n);let qs<-qs.mapM fun q=>`(Lean.Parser.Tactic.rcasesPatLo|$q:rcasesPat)
   `(rcasesPat|⟨$qs,*⟩)
  |`(_)=>`(rcasesPat|_)
  |_=>`(rcasesPat|$(⟨p⟩):ident)
local macro_rules|`(tactic|let $p:term:=$e)=>do
 let q<-cvP 9 p
 `(tactic|obtain $q:rcasesPat:=$e)
local macro_rules|`(())=>`(by omega)
local macro_rules|`(nofun)=>`(by first|decide|(intro z;cases z)|(intro z;exact absurd z (by decide)))
local macro_rules|`(tactic|exists $e:term)=>`(tactic|(ext;refine $e))
local macro_rules|`(tactic|omega)=>`(tactic|first|lia|omega (splitNatSub:=true))
noncomputable section
noncomputable section
section
open PySem
abbrev Xs:=Bool->Shared->Prop
abbrev Xq:=Str
abbrev Xk:=List Env
abbrev Xj:=List (Str×Value)
abbrev Xi:=Expr
abbrev Xh:=List Value->Prop
abbrev Xf:=Int->Int
abbrev Xd:=List Expr
abbrev Xc:=Array Value
abbrev Xb:=Option Addr
abbrev Xa:=List Addr
abbrev XZ:=Array (Option Value)
abbrev XY:=Around
abbrev XX:=List (Int×Value)
abbrev XV:=List (List Nat)
abbrev XT:=Heap
abbrev XS:=Option Int
abbrev XR:=Value
abbrev XQ:=Nat->List Int
abbrev XO:=World
abbrev XN:=List Str
abbrev XM:=Shared
abbrev XJ:=List Nat
abbrev XI:=Program
abbrev XH:=List Value
abbrev XG:=List (Addr×Obj)
abbrev XE:=Value->Shared->Prop
abbrev XD:=List Int
abbrev XB:=Addr
abbrev XA:=Str->Option Value
end
abbrev Ya:=@List.length_map
abbrev Yb:=@List.getElem?_map
abbrev Yc:=@List.length_append
abbrev Yd:=@List.getElem?_eq_getElem
abbrev Ye:=@List.mem_singleton
abbrev Yf:=@List.getElem?_eq_some_iff
abbrev Yg:=@PySem.wpAny_bind
abbrev Yh:=@List.mem_cons
abbrev Yi:=@List.length_cons
abbrev Yj:=@Nat.le_trans
abbrev Yk:=@Nat.le_refl
abbrev Yl:=@PySem.Heap.get?_push_of_some
abbrev Ym:=@List.take_succ_eq_append_getElem
abbrev Yn:=@List.mem_of_getElem?
abbrev Yo:=@List.mem_cons_of_mem
abbrev Yp:=@PySem.wpAny_pure
abbrev Yq:=@Bool.and_eq_true
abbrev Yr:=@decide_eq_true_eq
abbrev Ys:=@PySem.boot_len
abbrev Yt:=@Int.toNat_natCast
abbrev Yu:=@Option.map_eq_some_iff
abbrev Yv:=@List.getElem?_append_right
abbrev Yw:=@List.mem_append
abbrev Yx:=@List.size_toArray
abbrev Yy:=@PySem.F.plainAttrs_list
abbrev Yz:=@List.map_cons
abbrev YA:=@List.map_append
abbrev YB:=@List.getD_eq_getElem?_getD
abbrev YC:=@Bool.false_ne_true
abbrev YD:=@decide_eq_false
abbrev YE:=@PySem.Heap.lt_size
abbrev YF:=@List.mem_map
abbrev YG:=@decide_eq_true
abbrev YH:=@PySem.F.type_list_append
abbrev YI:=@PySem.F.slot_list_append
abbrev YJ:=@PySem.Heap.get?_push_size
abbrev YK:=@List.take_length
abbrev YL:=@List.not_mem_nil
abbrev YM:=@PyProof.Rows.boot_str
abbrev YN:=@List.length_take
abbrev YO:=@Nat.zero_le
abbrev YQ:=@List.append_assoc
abbrev YR:=@Ne.symm
abbrev YS:=@Nat.lt_of_lt_of_le
abbrev YT:=@List.nodup_cons
abbrev YU:=@PySem.F.plainAttrs_str
abbrev YV:=@PySem.PassesOwn.never
abbrev YW:=@Nat.ne_of_lt
abbrev YX:=@List.getElem?_append_left
abbrev YY:=@Nat.le_of_ble_eq_true
abbrev YZ:=@List.append_nil
abbrev Y0:=@List.getElem?_range
abbrev Y1:=@List.mem_cons_self
abbrev Y2:=@Option.some.inj
abbrev Y3:=@congrArg
abbrev Y4:=@Nat.lt_of_le_of_lt
abbrev Y5:=@List.mem_append_right
abbrev Y6:=@List.mem_range
abbrev Y7:=@List.all_eq_true
abbrev Y8:=@Nat.mod_two_eq_zero_or_one
abbrev Y9:=@Int.le_refl
abbrev Yaa:=@List.length_range
abbrev Yab:=@List.sum_cons
abbrev Yac:=@List.length_nil
abbrev Yad:=@List.getElem_mem
abbrev Yae:=@Array.length_toList
abbrev Yaf:=@PySem.F.type_str_join
abbrev Yag:=@PySem.F.slot_str_join
abbrev Yah:=@or_false
abbrev Yai:=@PyProof.Rows.callWith_type1
abbrev Yaj:=@List.set_cons_zero
abbrev Yak:=@Int.natCast_nonneg
abbrev Yal:=@beq_self_eq_true
abbrev Yam:=@Nat.sub_self
abbrev Yan:=@Nat.le_of_lt
abbrev Yao:=@List.map_map
abbrev Yap:=@List.lookup_cons
abbrev Yaq:=@Nat.le_succ
abbrev Yar:=@List.getElem?_toArray
abbrev Yas:=@List.getElem?_eq_none
abbrev Yat:=@Int.lt_trans
abbrev Yau:=@PySem.wpAny_truthy_bool
abbrev Yav:=@PySem.wpAny_newObj_type
abbrev Yaw:=@List.length_drop
abbrev Yax:=@List.eq_nil_of_length_eq_zero
abbrev Yay:=@PySem.Heap.get?_update_self
abbrev Yaz:=@List.getElem?_cons_succ
abbrev YaA:=@List.flatMap_cons
abbrev YaB:=@List.take_of_length_le
abbrev YaC:=@Nat.lt_succ_self
abbrev YaD:=@List.pairwise_cons
abbrev YaE:=@Bool.true_and
abbrev YaF:=@PySem.wpAny_call_entry
abbrev YaG:=@PySem.wpAny_holding
abbrev YaH:=@List.nil_append
abbrev YaI:=@List.find?_cons
abbrev YaJ:=@PySem.W.mg_of
abbrev YaK:=@List.map_congr_left
abbrev YaL:=@List.length_reverse
abbrev YaM:=@List.filterMap_cons
abbrev YaN:=@Bool.false_and
abbrev YaO:=@PySem.F.type_str_split
abbrev YaP:=@PySem.F.slot_str_split
abbrev YaQ:=@PyProof.Rows.boot_list
abbrev YaR:=@PySem.Heap.SameBut.update
abbrev YaS:=@PySem.W.methodCall_KW
abbrev YaT:=@PyProof.Rows.boot_sum
abbrev YaU:=@Nat.sub_zero
abbrev YaV:=@Nat.pow_succ
abbrev YaW:=@Nat.lt_or_ge
abbrev YaX:=@List.map_nil
abbrev YaY:=@Array.getElem?_toList
abbrev YaZ:=@PySem.wpAny_mono
abbrev Ya0:=@beq_iff_eq
abbrev Ya1:=@Nat.lt_irrefl
abbrev Ya2:=@Bool.not_eq_true'
abbrev Ya3:=@PySem.wpAny_Call_Name_kw
abbrev Ya4:=@List.mem_iff_getElem
abbrev Ya5:=@List.getElem?_set_ne
abbrev Ya6:=@PySem.wpAny_passesOwn
abbrev Ya7:=@PySem.wpAny_ite_split
abbrev Ya8:=@PyProof.Rows.F.plain_set_update_loop
abbrev Ya9:=@List.findIdx?_eq_none_iff
abbrev Yba:=@List.filter_cons
abbrev Ybb:=@beq_eq_false_iff_ne
abbrev Ybc:=@PySem.mem_of_lookup
abbrev Ybd:=@List.replicate_succ
abbrev Ybe:=@List.length_pos_iff
abbrev Ybf:=@PyProof.Rows.boot_sorted
abbrev Ybg:=@Nat.lt_trans
abbrev Ybh:=@PySem.Around.under_plainId
abbrev Ybi:=@PySem.W.callWith_K
abbrev Ybj:=@List.prefix_rfl
abbrev Ybk:=@List.mem_filter
abbrev Ybl:=@List.map_singleton
abbrev Ybm:=@List.findIdx?_eq_some_iff_getElem
abbrev Ybn:=@Bool.eq_iff_iff
abbrev Ybo:=@PySem.wpAny_of_eq
abbrev Ybp:=@List.getElem?_set_self
abbrev Ybq:=@PySem.F.called_set
abbrev Ybr:=@if_true
abbrev Ybs:=@PyProof.Rows.slot_tuple_getitem
abbrev Ybt:=@PySem.codeAny_builtin
abbrev Ybu:=@Nat.mul_comm
abbrev Ybv:=@List.length_filter_le
abbrev Ybw:=@PySem.Calls.spliced_cons
abbrev Ybx:=@List.nodup_range
abbrev Yby:=@List.any_eq_true
abbrev Ybz:=@Array.toList_inj
abbrev YbA:=@PySem.Calls.callWith_builtin
abbrev YbB:=@PyProof.Rows.boot_isinstance
abbrev YbC:=@PySem.Heap.size_push
abbrev YbD:=@PySem.codeAny_mono
abbrev YbE:=@PySem.builtinLookup_eq_fast
abbrev YbF:=@PySem.W.callWith_K0
abbrev YbG:=@Nat.min_eq_left
abbrev YbH:=@List.length_set
abbrev YbI:=@List.flatMap_append
abbrev YbJ:=@Bool.or_eq_true
abbrev YbK:=@Nat.ne_of_gt
abbrev YbL:=@List.mem_filterMap
abbrev YbM:=@List.getElem?_drop
abbrev YbN:=@List.all_map
abbrev YbO:=@Int.add_zero
abbrev YbP:=@List.take_zero
abbrev YbQ:=@List.pairwise_iff_getElem
abbrev YbR:=@Classical.byContradiction
abbrev YbS:=@PySem.call_meets
abbrev YbT:=@PySem.F.type_list_extend
abbrev YbU:=@PySem.F.slot_list_extend
abbrev YbV:=@Option.isSome_iff_exists
abbrev YbW:=@Nat.lt_succ_of_lt
abbrev YbX:=@List.pairwise_map
abbrev YbY:=@List.foldl_append
abbrev YbZ:=@List.flatten_cons
abbrev Yb0:=@decide_eq_false_iff_not
abbrev Yb1:=@List.map_take
abbrev Yb2:=@List.map_drop
abbrev Yb3:=@List.any_cons
abbrev Yb4:=@decide_eq_decide
abbrev Yb5:=@List.mem_flatMap
abbrev Yb6:=@List.isEmpty_iff
abbrev Yb7:=@List.cons_append
abbrev Yb8:=@List.drop_eq_nil_of_le
abbrev Yb9:=@PySem.F.slot_dict_pop
abbrev Yca:=@PySem.F.slot_dict_get
abbrev Ycb:=@PyProof.Rows.boot_set
abbrev Ycc:=@Option.map_some
abbrev Ycd:=@Nat.div_add_mod
abbrev Yce:=@List.take_append_drop
abbrev Ycf:=@List.range_succ
abbrev Ycg:=@List.mem_iff_getElem?
abbrev Ych:=@List.length_replicate
abbrev Yci:=@List.foldl_cons
abbrev Ycj:=@PySem.Calls.spliced_nil
abbrev Yck:=@PySem.wpAny_callSpecial?_slot
abbrev Ycl:=@Nat.add_le_add_right
abbrev Ycm:=@List.mem_append_left
abbrev Ycn:=@PyProof.Rows.F.entry_set_update_loop
abbrev Yco:=@Bool.and_false
abbrev Ycp:=@ne_true_of_eq_false
abbrev Ycq:=@PySem.W.plainGet_of
abbrev Ycr:=@Nat.add_mul
abbrev Ycs:=@List.length_flatMap
abbrev Yct:=@PySem.Heap.get?_update_other
abbrev Ycu:=@PySem.wpAny_specialOf
abbrev Ycv:=@PySem.wpAny_execs_nil
abbrev Ycw:=@PySem.typeLookup_type
abbrev Ycx:=@PySem.call_meetsIn
abbrev Ycy:=@List.prefix_append
abbrev Ycz:=@List.getElem?_take
abbrev YcA:=@PySem.sizeLine_eq
abbrev YcB:=@List.ext_getElem?
abbrev YcC:=@PySem.Calls.evalArgs_plain
abbrev YcD:=@PySem.isSubtype_type
abbrev YcE:=@Nat.succ_mul
abbrev YcF:=@Nat.pow_zero
abbrev YcG:=@Nat.le_of_eq
abbrev YcH:=@List.sum_nil
abbrev YcI:=@Int.zero_add
abbrev YcJ:=@Nat.succ_le_succ
abbrev YcK:=@Nat.min_le_right
abbrev YcL:=@Nat.min_eq_right
abbrev YcM:=@Nat.le_add_right
abbrev YcN:=@List.range'_succ
abbrev YcO:=@List.drop_length
abbrev YcP:=@List.dropLast_concat_getLast
abbrev YcQ:=@PySem.tupleKind_room_in1
abbrev YcR:=@PySem.plainId_quiet
abbrev YcS:=@Nat.not_lt_zero
abbrev YcT:=@Nat.min_le_left
abbrev YcU:=@Nat.div_one
abbrev YcV:=@List.sum_append
abbrev YcW:=@List.of_mem_zip
abbrev YcX:=@List.forIn_cons
abbrev YcY:=@PySem.F.args_str_split_2
abbrev YcZ:=@Array.getD_eq_getD_getElem?
abbrev Yc0:=@Int.fdiv_eq_ediv_of_nonneg
abbrev Yc1:=@PySem.wpAny_storeSet_of
abbrev Yc2:=@PySem.wpAny_pyIter_list
abbrev Yc3:=@PySem.typeIs_str
abbrev Yc4:=@PySem.F.slot_dict_getitem
abbrev Yc6:=@List.take_left
abbrev Yc7:=@List.nodup_nil
abbrev Yc8:=@List.forIn_nil
abbrev Yc9:=@List.drop_zero
abbrev Yda:=@List.drop_left
abbrev Ydb:=@List.drop_eq_getElem_cons
abbrev Ydc:=@PySem.F.entry_str_split
abbrev Ydd:=@PySem.F.type_tuple_index
abbrev Yde:=@PySem.F.slot_tuple_index
abbrev Ydf:=@PySem.F.plainAttrs_tuple
abbrev Ydg:=PySem.W.Frag
end
namespace L2
open PySem PySem.Spec PyProof.Rows
abbrev Key:=Sum Int Str
abbrev Xo:=List (Key×Value)
noncomputable def keyIs:Key->Value->Bool
 |.inl k,v=>Value.isInt k v
 |.inr x,v=>Value.isStrOf x v
noncomputable def keyH(w:XO):Key->Int
 |.inl k=>hashInt k
 |.inr x=>hashStr w x
def Zbb:∀{k:Key}{v:XR},keyIs k v=true->(∃i t,k=Sum.inl i/\v=Value.int i t)\/(∃x t,k=Sum.inr x/\v=Value.str x t)
 |.inl i,v,h=>by
  let⟨t,e⟩:=Value.isInt_shape (k:=i) (v:=v) h;exact .inl ⟨i,t,rfl,e⟩
 |.inr x,v,h=>by
  let⟨t,e⟩:=Value.isStrOf_shape (x:=x) (v:=v) h;exact .inr ⟨x,t,rfl,e⟩
def ZkR(i:Int)(t:Tok):keyIs (.inl i) (.int i t)=true:=by simp[keyIs,Value.isInt]
def ZeM(x:Str)(t:Tok):keyIs (.inr x) (.str x t)=true:=by simp[keyIs,Value.isStrOf]
def key_ll(a b:Int):decide ((Sum.inl a:Key)=Sum.inl b)=(a==b):=by
 by_cases e:a=b
 .subst e;simp
 .have h:¬(Sum.inl a:Key)=Sum.inl b:=λq=>e (Sum.inl.inj q);rw[YD h];exact(Ybb.mpr e).symm
def key_rr(a b:Str):decide ((Sum.inr a:Key)=Sum.inr b)=decide (a=b):=by
 by_cases e:a=b
 .subst e;simp
 .have h:¬(Sum.inr a:Key)=Sum.inr b:=λq=>e (Sum.inr.inj q);rw[YD h,YD e]
def key_lr(a:Int)(b:Str):decide ((Sum.inl a:Key)=Sum.inr b)=false:=YD (λq=>nomatch q)
def key_rl(a:Str)(b:Int):decide ((Sum.inr a:Key)=Sum.inl b)=false:=YD (λq=>nomatch q)
noncomputable def Za2(prog:XI)(w:XO):PySem.KeyKind prog w Key where
 is:=keyIs
 hash:=keyH w
 inj:=λv a b ha hb=>by
  rcases Zbb ha with⟨i,t,rfl,rfl⟩|⟨x,t,rfl,rfl⟩
  .rcases Zbb hb with⟨j,u,rfl,e⟩|⟨y,u,rfl,e⟩
   .injection e with e1 _;rw[e1]
   .exact nomatch e
  .rcases Zbb hb with⟨j,u,rfl,e⟩|⟨y,u,rfl,e⟩
   .exact nomatch e
   .injection e with e1 _;rw[e1]
 byValue:=λk v h=>by
  rcases Zbb h with⟨i,t,rfl,rfl⟩|⟨x,t,rfl,rfl⟩<;>rfl
 pyHash:=λhv h=>by
  rcases Zbb hv with⟨i,t,rfl,rfl⟩|⟨x,t,rfl,rfl⟩
  .exact wpAny_pyHash_int h
  .exact wpAny_pyHash_str h
 eqBool:=λhu hv h=>by
  rcases Zbb hu with⟨i,t,rfl,rfl⟩|⟨x,t,rfl,rfl⟩
  .rcases Zbb hv with⟨j,u,rfl,rfl⟩|⟨y,u,rfl,rfl⟩
   .rw [key_ll]at h;exact wpAny_eqBool_int h
   .rw [key_lr]at h;exact SeqAt.EqAt.int_str i t y u _ _ _ _ h
  .rcases Zbb hv with⟨j,u,rfl,rfl⟩|⟨y,u,rfl,rfl⟩
   .rw [key_rl]at h;exact SeqAt.EqAt.str_int x t j u _ _ _ _ h
   .rw [key_rr]at h;exact wpAny_eqBool_str h
 «strs»:=λk x t v h=>by
  rcases Zbb h with⟨i,u,rfl,e⟩|⟨y,u,rfl,e⟩
  .exact nomatch e
  .injection e with e1 _;subst e1;cases v<;>rfl
def ZiZ(prog:XI)(w:XO)(k:Key)(v:XR):(Za2 prog w).is k v=keyIs k v:=rfl
def Zmj(prog:XI)(w:XO)(i:Int)(t:Tok):(Za2 prog w).is (.inl i) (.int i t)=true:=ZkR i t
def Zmk(prog:XI)(w:XO)(x:Str)(t:Tok):(Za2 prog w).is (.inr x) (.str x t)=true:=ZeM x t
set_option genInjectivity true in
inductive V where
 |non|bl (b:Bool)|int (i:Int)|str (x:Str)|byt (b:Array UInt8)|flt (b:UInt64)|ref (a:XB)|ty (n:String)
 deriving DecidableEq
abbrev Xl:=List (Str×V)
abbrev Xe:=List (List Key×V)
abbrev XU:=List (Key×V)
abbrev XF:=List V
def RelV:V->Value->Prop
 |.non,u=>u=Value.none
 |.bl b,u=>u=Value.bool b
 |.int i,u=>∃t,u=Value.int i t
 |.str x,u=>∃t,u=Value.str x t
 |.byt b,u=>∃t,u=Value.bytes b t
 |.flt b,u=>∃t,u=Value.float b t
 |.ref a,u=>u=Value.ref a
 |.ty n,u=>u=Value.type n
abbrev Vals:List V->List Value->Prop:=Paired RelV
def Vals.length{xs:XF}{us:XH}(r:Vals xs us):xs.length=us.length:=Paired.length r
theorem Vals.get:∀{xs:XF}{us:XH}{i:Nat}{x:V},Vals xs us->xs[i]?=some x->∃u,us[i]?=some u/\RelV x u
 |_,_,_,_,.nil,e=>by simp at e
 |_,_,0,_,.cons r _,e=>by simp at e;subst e;exact⟨_,rfl,r⟩
 |_,_,i+1,x,.cons _ t,e=>by
  let⟨u,h1,h2⟩:=Vals.get (i:=i) (x:=x) t (by simpa using e);exact⟨u,by simpa using h1,h2⟩
theorem Vals.set{x:V}{u:XR}(r:RelV x u):∀{xs:XF}{us:XH}(i:Nat),Vals xs us->Vals (xs.set i x) (us.set i u)
 |_,_,_,.nil=>.nil
 |_,_,0,.cons _ t=>.cons r t
 |_,_,i+1,.cons q t=>.cons q (Vals.set r i t)
theorem Vals.append:∀{xs ys:XF}{us ws:XH},Vals xs us->Vals ys ws->Vals (xs++ys) (us++ws)
 |_,_,_,_,.nil,s=>s
 |_,_,_,_,.cons r t,s=>.cons r (Vals.append t s)
theorem Vals.take:∀{xs:XF}{us:XH}(n:Nat),Vals xs us->Vals (xs.take n) (us.take n)
 |_,_,0,_=>.nil
 |_,_,_+1,.nil=>.nil
 |_,_,n+1,.cons r t=>.cons r (Vals.take n t)
theorem Vals.drop:∀{xs:XF}{us:XH}(n:Nat),Vals xs us->Vals (xs.drop n) (us.drop n)
 |_,_,0,r=>r
 |_,_,_+1,.nil=>.nil
 |_,_,n+1,.cons _ t=>Vals.drop n t
def RelO:Option V->Option Value->Prop
 |some v,some u=>RelV v u
 |none,none=>True
 |_,_=>False
def KV{κ:Type}:List (κ×V)->List (κ×Value)->Prop:=Paired λ(p:κ×V)(q:κ×Value)=>p.1=q.1/\RelV p.2 q.2
noncomputable def kV:Key->V
 |.inl i=>.int i
 |.inr x=>.str x
inductive HO where
 |lst (xs:XF)
 |tup (xs:XF)
 |dK (kvs:XU)|dT (kvs:Xe)
 |set (S:Int->Bool) (n:Nat)
 |ins (C dx:XB) (fs:Xl)
 |own (x:XB)
 |xd (fs:Xl)
 |met (f x:XB)
 |rng (lo hi:Int)
 |frz (o:Obj) (u:HO)
 |tbl (ps:Xc)
 |ext (φ:Heap->Prop)
abbrev Hp:=Addr->Option HO
abbrev Xn:=Bool->Hp->Prop
noncomputable def upd(H:Hp)(a:XB)(o:HO):Hp:=λb=>if b=a then some o else H b
def Zad{H:Hp}{a:XB}{o:HO}:upd H a o a=some o:=by unfold upd;rw[if_pos rfl]
def Zaj{H:Hp}{a b:XB}{o:HO}(h:b≠a):upd H a o b=H b:=by unfold upd;rw[if_neg h]
def ZaO{H:Hp}{a:XB}{o u:HO}:upd (upd H a o) a u=upd H a u:=by
 funext b;unfold upd;split<;>rfl
def Za3{H:Hp}{a b:XB}{o u:HO}(h:H a=some o)(h':H b=some u)(d:o≠u):a≠b:=by
 intro e;subst e;rw[h]at h';exact d (Y2 h')
def Zai{H:Hp}{a b:XB}{o:HO}(h:H a=some o)(h':H b=none):a≠b:=by
 intro e;subst e;rw[h]at h';cases h'
section
variable(P:XI)(w:XO)
def ObjOk(H:Hp)(h:XT)(a:XB):HO->Prop
 |.lst xs=>xs.length<=sizeLine/\∃(its:XH)(n:Nat),Vals xs its/\h.get? a=some {cls:=.type "list",data:=.seq its.toArray n}
 |.tup xs=>xs.length<=sizeLine/\∃its:List Value,Vals xs its/\IsTup h a its.toArray
 |.dK kvs=>kvs.length<=sizeLine/\(a==sysModules)=false/\∃vs,KV kvs vs/\h.DictOf (Za2 P w) a vs
 |.dT kvs=>kvs.length<=sizeLine/\(a==sysModules)=false/\∃xs:List (List Key×Addr×Value),
  Paired (λ(p:List Key×V)(q:List Key×Addr×Value)=>p.1=q.1/\H q.2.1=some (.tup (p.1.map kV))/\RelV p.2 q.2.2) kvs xs/\
  ∃o es ep,h.get? a=some o/\o.ExactDict/\o.data=.dict es ep/\es.toList=xs.map (entryOfKey (tupleKind (Za2 P w)))/\(xs.map (·.1)).Nodup
 |.set S n=>h.SetOf (intKind P w) a S n
 |.ins C dx fs=>H dx=some (.own a)/\fs.length<=1000/\dx≠a/\h.get? a=some (PySem.W.instObj C dx)/\
  ∃mA,h.Ns1 dx mA/\(∀f,RelO (fs.lookup f) (mA f))/\PySem.Within mA (fs.map (·.1))
 |.own _=>∃o,h.get? a=some o
 |.xd fs=>∃mA,h.Ns1 a mA/\∀f,RelO (fs.lookup f) (mA f)
 |.rng lo hi=>∃t u v,h.get? a=some {cls:=.type "range",data:=.fields #[.int lo t,.int hi u,.int 1 v]}
 |.frz o u=>h.get? a=some o/\ObjOk H h a u
 |.tbl ps=>h.get? a=some {cls:=.none,data:=.fields ps}
 |.met f x=>h.get? a=some (PySem.W.methodObj (.ref f) (.ref x))
 |.ext φ=>φ h/\(∃o,h.get? a=some o)/\∀h1 h2:Heap,φ h1->(∀o,h1.get? a=some o->h2.get? a=some o)->φ h2
def HOk(H:Hp)(h:XT):Prop:=∀a o,H a=some o->ObjOk P w H h a o
end
section
variable{P:XI}{w:XO}{H H':Hp}{h h':XT}{a:XB}{o:HO}
theorem ObjOk.lt(x:ObjOk P w H h a o):a<h.objs.size:=by
 cases o with
 |lst xs=>let⟨_,_,_,_,e⟩:=x;exact YE e
 |tup xs=>let⟨_,_,_,p⟩:=x;exact p.lt
 |dK kvs=>let⟨_,_,_,_,o,_,_,e,_⟩:=x;exact YE e
 |dT kvs=>let⟨_,_,_,_,o,_,_,e,_⟩:=x;exact YE e
 |set S n=>let⟨o,_,_,_,e,_⟩:=x;exact YE e
 |ins C dx fs=>let⟨_,_,_,e,_⟩:=x;exact YE e
 |own y=>let⟨_,e⟩:=x;exact YE e
 |xd fs=>let⟨_,⟨_,_,_,e,_⟩,_⟩:=x;exact YE e
 |rng lo hi=>let⟨_,_,_,e⟩:=x;exact YE e
 |frz ob u=>let⟨e,_⟩:=x;exact YE e
 |tbl ps=>exact YE (show h.get? a=some _ from x)
 |met f y=>exact YE (show h.get? a=some _ from x)
 |ext φ=>let⟨_,⟨_,e⟩,_⟩:=x;exact YE e
theorem Paired.mapP{α β:Type}{F G:α->β->Prop}:∀{l₁:List α}{l₂:List β},Paired F l₁ l₂->(∀a b,F a b->G a b)->Paired G l₁ l₂
 |_,_,.nil,_=>.nil
 |_,_,.cons r t,f=>.cons (f _ _ r) (Paired.mapP t f)
def ObjOk.stay(x:ObjOk P w H h a o)(k:∀b u,(b=a\/H b=some (.own a))->h.get? b=some u->h'.get? b=some u)(ho:∀b,H b=some (.own a)->H' b=some (.own a))(ht:∀b xs,H b=some (.tup xs)->H' b=some (.tup xs)):ObjOk P w H' h' a o:=by
 induction o with
 |lst xs=>let⟨z,its,n,r,e⟩:=x;exact⟨z,its,n,r,k _ _ (.inl rfl) e⟩
 |tup xs=>let⟨z,its,r,ob,e,c⟩:=x;exact⟨z,its,r,ob,k _ _ (.inl rfl) e,c⟩
 |dK kvs=>let⟨z,y,vs,r,ob,es,ep,e,c⟩:=x;exact⟨z,y,vs,r,ob,es,ep,k _ _ (.inl rfl) e,c⟩
 |dT kvs=>
  let⟨z,y,xs,r,ob,es,ep,e,c⟩:=x;exact⟨z,y,xs,Paired.mapP r λp q z=>⟨z.1,ht _ _ z.2.1,z.2.2⟩,ob,es,ep,k _ _ (.inl rfl) e,c⟩
 |set S n=>let⟨ob,es,ep,t,e,c⟩:=x;exact⟨ob,es,ep,t,k _ _ (.inl rfl) e,c⟩
 |ins C dx fs=>
  let⟨d,z,ne,e,mA,⟨od,es,ep,e2,c⟩,r⟩:=x;exact⟨ho _ d,z,ne,k _ _ (.inl rfl) e,mA,⟨od,es,ep,k _ _ (.inr d) e2,c⟩,r⟩
 |own y=>let⟨ob,e⟩:=x;exact⟨ob,k _ _ (.inl rfl) e⟩
 |xd fs=>let⟨mA,⟨od,es,ep,e,c⟩,r⟩:=x;exact⟨mA,⟨od,es,ep,k _ _ (.inl rfl) e,c⟩,r⟩
 |rng lo hi=>let⟨t,u,v,e⟩:=x;exact⟨t,u,v,k _ _ (.inl rfl) e⟩
 |frz ob u ih=>let⟨e,q⟩:=x;exact⟨k _ _ (.inl rfl) e,ih q⟩
 |tbl ps=>
  have e:h.get? a=some {cls:=.none,data:=.fields ps}:=x;show h'.get? a=some {cls:=.none,data:=.fields ps};exact k a _ (.inl rfl) e
 |met f y=>
  have e:h.get? a=some (PySem.W.methodObj (.ref f) (.ref y)):=x;show h'.get? a=some (PySem.W.methodObj (.ref f) (.ref y));exact k a _ (.inl rfl) e
 |ext φ=>let⟨p,⟨o,e⟩,st⟩:=x;exact⟨st _ _ p λo q=>k _ _ (.inl rfl) q,⟨o,k _ _ (.inl rfl) e⟩,st⟩
def HOk.lt(x:HOk P w H h)(e:H a=some o):a<h.objs.size:=(x a o e).lt
def HOk.fresh(x:HOk P w H h)(e:h.objs.size<=a):H a=none:=by
 cases q:H a with
 |none=>rfl
 |some u=>exact absurd (YS (x.lt q) e) (Ya1 _)
def HOk.kept(x:HOk P w H h)(k:∀b u,h.get? b=some u->h'.get? b=some u):HOk P w H h':=λa o e=>
 (x a o e).stay (λb u _ q=>k b u q) (λ_ q=>q) λ_ _ q=>q
def HOk.laid(x:HOk P w H h)(k:∀b u,h.get? b=some u->h'.get? b=some u)(hp:h.objs.size<=a)(new:ObjOk P w (upd H a o) h' a o):HOk P w (upd H a o) h':=λb u e=>by
 have hn:=x.fresh hp;by_cases hb:b=a
 .subst hb;rw[Zad]at e;cases e;exact new
 .rw [Zaj hb]at e;exact(x b u e).stay (λc v _ q=>k c v q) (λc q=>by rw[Zaj (Zai q hn)];exact q) λc xs q=>by rw[Zaj (Zai q hn)];exact q
end
def Rd(H:Hp)(a:XB)(u:HO):Prop:=H a=some u\/∃o,H a=some (.frz o u)
def Rd.ok{P:XI}{w:XO}{H:Hp}{h:XT}{a:XB}{u:HO}(r:Rd H a u)(x:HOk P w H h):ObjOk P w H h a u:=by
 rcases r with r|⟨o,r⟩
 .exact x a u r
 .obtain ⟨_,q⟩:=x a _ r;exact q
def Mut:Option HO->Prop
 |some (.lst _)=>True
 |some (.dK _)=>True
 |some (.dT _)=>True
 |some (.set _ _)=>True
 |some (.ins _ _ _)=>True
 |some (.ext _)=>True
 |_=>False
section
variable{P:XI}{w:XO}{H:Hp}{h h':XT}{x e:XB}{o':HO}
def HOk.write(ok:HOk P w H h)(mu:Mut (H x))(he:e=x\/H e=some (.own x))(k:∀b u,b≠e->h.get? b=some u->h'.get? b=some u)(heo:∃u,h'.get? e=some u)(new:ObjOk P w (upd H x o') h' x o'):HOk P w (upd H x o') h':=λb u q=>by
 have nown:∀c y,H c=some (.own y)->c≠x:=λc y r z=>by subst z;rw[r]at mu;exact mu
 have ntup:∀c xs,H c=some (.tup xs)->c≠x:=λc xs r z=>by subst z;rw[r]at mu;exact mu
 by_cases hb:b=x
 .subst hb;rw[Zad]at q;cases q;exact new
 .rw [Zaj hb]at q;by_cases hbe:b=e
  .have q':H b=some (.own x):=by
    rcases he with z|z
    .exact absurd (hbe.trans z) hb
    .rw [hbe];exact z
   rw[q]at q';cases q';let⟨v,hv⟩:=heo;exact⟨v,by rw[hbe];exact hv⟩
  .refine (ok b u q).stay (λc v hc r=>k c v ?_ r) (λc r=>by rw[Zaj (nown c b r)];exact r) λc xs r=>by rw[Zaj (ntup c xs r)];exact r
   rcases hc with rfl|hc
   .exact hbe
   .rintro rfl;rcases he with z|z
    .exact nown c b hc z
    .rw [hc]at z;cases z;exact hb rfl
end
structure Un(fs ex:Xa)(H H':Hp)(h h':XT):Prop where
 keep:∀b o,h.get? b=some o->H b=none->b∉fs->b∉ex->h'.get? b=some o
 slot:∀b o,h.get? b=some o->H b=none->b∈fs->b∉ex->∃sl,h'.get? b=some {o with slots:=sl}
 free:∀b o,h.get? b=some o->H b=none->b∉ex->H' b=none
 there:∀b o,h.get? b=some o->b∉ex->∃o',h'.get? b=some o'
 tups:∀b xs,H b=some (.tup xs)->H' b=some (.tup xs)
 frzs:∀b o u,H b=some (.frz o u)->H' b=some (.frz o u)
 tbls:∀b ps,H b=some (.tbl ps)->∃more,H' b=some (.tbl (ps++more))
section
variable{fs fs' ex ex':Xa}{H H1 H2:Hp}{h h1 h2 h':XT}{a x e:XB}{o:HO}
def Un.any(u:Un fs ex H H1 h h1){b:XB}{ob:Obj}(q:h.get? b=some ob)(n:H b=none)(hx:b∉ex):∃sl,h1.get? b=some {ob with slots:=sl}:=by
 by_cases hb:b∈fs
 .exact u.slot b ob q n hb hx
 .exact ⟨ob.slots,u.keep b ob q n hb hx⟩
def Un.kept(k:∀b u,h.get? b=some u->h'.get? b=some u):Un fs ex H H h h':=
 ⟨λb ob q _ _ _=>k b ob q,λb ob q _ _ _=>⟨ob.slots,k b ob q⟩,λ_ _ _ n _=>n,λb ob q _=>⟨ob,k b ob q⟩,λ_ _ q=>q,λ_ _ _ q=>q,λ_ ps q=>⟨#[],by rw[q];simp⟩⟩
def Un.refl:Un fs ex H H h h:=Un.kept λ_ _ q=>q
def Un.laid(k:∀b u,h.get? b=some u->h'.get? b=some u)(hp:h.objs.size<=a)(hn:H a=none):Un fs ex H (upd H a o) h h' where
 keep:=λb u q _ _ _=>k b u q
 slot:=λb u q _ _ _=>⟨u.slots,k b u q⟩
 free:=λb u q n _=>by rw[Zaj (YW (YS (YE q) hp))];exact n
 there:=λb u q _=>⟨u,k b u q⟩
 tups:=λb xs q=>by rw[Zaj (Zai q hn)];exact q
 frzs:=λb u xs q=>by rw[Zaj (Zai q hn)];exact q
 tbls:=λb ps q=>⟨#[],by rw[Zaj (Zai q hn),q];simp⟩
def Un.write(mu:Mut (H x))(he:e=x\/H e=some (.own x))(k:∀b u,b≠e->h.get? b=some u->h'.get? b=some u)(heo:∃u,h'.get? e=some u):Un fs ex H (upd H x o) h h':=by
 have hx:∀b,H b=none->b≠x:=λb n z=>by subst z;rw[n]at mu;exact mu
 have hb:∀b,H b=none->b≠e:=λb n z=>by
  subst z;rcases he with r|r
  .exact hx b n r
  .rw [n]at r;cases r
 have hm:∀b u,H b=some u->¬Mut (some u)->b≠x:=λb u q nm z=>by subst z;rw[q]at mu;exact nm mu
 refine⟨λb u q n _ _=>k b u (hb b n) q,λb u q n _ _=>⟨u.slots,k b u (hb b n) q⟩,λb u q n _=>by rw[Zaj (hx b n)];exact n,λb u q _=>?_,
  λb xs q=>by rw[Zaj (hm b _ q λz=>z)];exact q,λb u xs q=>by rw[Zaj (hm b _ q λz=>z)];exact q,λb ps q=>⟨#[],by rw[Zaj (hm b _ q λz=>z),q];simp⟩⟩
 by_cases hbe:b=e
 .subst hbe;exact heo
 .exact ⟨u,k b u hbe q⟩
end
noncomputable def trk(h:XT)(H:Hp):List Addr:=(List.range h.objs.size).filter λa=>(H a).isSome
noncomputable def hidT(h:XT)(H:Hp):Heap:=PySem.W.hideAll h (trk h H)
def Zpt(h:XT)(H:Hp):(hidT h H).objs.size=h.objs.size:=PySem.W.hideAll_size _ _
def Zr9{h:XT}{H:Hp}{b:XB}{o:Obj}(e:h.get? b=some o)(n:H b=none):(hidT h H).get? b=some o:=
 PySem.W.hideAll_get _ e λhm=>by
  have q:(H b).isSome=true:=(Ybk.mp hm).2;rw[n]at q;simp at q
def ZuM{h:XT}{H:Hp}{b:XB}{o:Obj}(e:(hidT h H).get? b=some o):h.get? b=some o/\H b=none:=by
 have e':h.get? b=some o:=PySem.W.of_hideAll (trk h H) e;refine⟨e',?_⟩;cases q:H b with
 |none=>rfl
 |some x=>
  have hm:b∈trk h H:=Ybk.mpr ⟨Y6.mpr (YE e'),by simp[q]⟩;have z:(hidT h H).get? b=none:=PySem.W.hideAll_none (trk h H) hm;rw[z]at e;cases e
noncomputable def ZuN(g h:XT)(L:XB):List (Addr×Obj):=(List.range h.objs.size).filterMap λa=>if a=L\/(g.get? a).isSome=true then none else(h.get? a).map λo=>(a,o)
noncomputable def rest(g h:XT)(L d:XB):List (Addr×Obj):=(ZuN g h L).filter λp=>decide (p.1≠d)
structure Mod(K:Ydg)(mg:XA)(base:XT):Prop where
 kin:K.In base
 glob:base.Ns mainGlobals mg
 blt:∃mb,base.Ns builtinsNs mb/\∀x:Str,x≠"__name__"->mb x=bootBuiltins x
 nolimit:base.NoLimit
structure Cx where
 prog:Program
 w:World
 K:Ydg
 mg:Str->Option Value
 base:Heap
 A:Around
 N:List Str
 s₀:Shared
 H₀:Hp
 env:Env
 outer:List Env
 stack:List Env
 ex:List Addr
 fn:Str->Bool
 calm:Bool
 pn:List (Addr×Obj)
 xe:Value->Shared->Prop
noncomputable def frs(l:Xk):List Addr:=l.filterMap (·.frame)
noncomputable abbrev Cx.fs(X:Cx):List Addr:=frs X.outer
def Vis(sc:Scope)(x:Str):Prop:=sc.names.lookup x=some .local\/sc.names.lookup x=some .cell\/sc.names.lookup x=some .free
def Loc(sc:Scope)(x:Str):Prop:=sc.names.lookup x=some .local\/sc.names.lookup x=some .cell
def Look(env:Env)(h:XT)(m:XA)(x:Str)(u:XR):Prop:=
 (env.kindOf x=some .local/\m x=some u)\/((env.kindOf x=some .cell\/env.kindOf x=some .free)/\∃c,env.cells.lookup x=some c/\h.IsCell c (some u))
structure Cx.Ok(X:Cx):Prop where
 mod:Mod X.K X.mg X.base
 kind:X.env.scope.kind=.function
 glob:X.env.globals=mainGlobals
 blt:X.env.builtins=builtinsNs
 above:X.s₀.heap.objs.size<=X.env.locals
 inj:∀x y c,X.env.cells.lookup x=some c->X.env.cells.lookup y=some c->x=y
 has:∀x,(X.env.kindOf x=some .cell\/X.env.kindOf x=some .free)->∃c,X.env.cells.lookup x=some c
 cab:∀x c,X.fn x=true->X.env.cells.lookup x=some c->X.s₀.heap.objs.size<=c
 hd:X.calm=true->X.A.handled=none
 frames:X.A.frames=some X.stack
 stk:X.stack=X.outer\/(X.stack=X.env::X.outer/\X.env.frame=some X.env.locals)
 exf:∀b∈X.ex,b≠X.env.locals/\∀x c,X.env.cells.lookup x=some c->c≠b
 bs:∀b o,X.base.get? b=some o->X.s₀.heap.get? b=some o/\X.H₀ b=none
 bsz:X.base.objs.size<=X.s₀.heap.objs.size
 noex:∀b o,X.base.get? b=some o->b∉X.ex
 exfs:∀b∈X.ex,b∉X.fs
 funs:X.s₀.heap.FunFrames X.base X.outer
 frf:∀b∈X.fs,X.H₀ b=none
structure Inv(X:Cx)(pins:XG)(U:List (Option V))(H:Hp)(s:XM):Prop where
 ok:X.Ok
 os:s.os=X.s₀.os
 bare:AllBare s.gens
 base:Un X.fs X.ex X.H₀ H X.s₀.heap s.heap
 loc:∃m,s.heap.Ns X.env.locals m/\∀(i:Nat)(x:Str)(v:V),X.N[i]?=some x->U[i]?=some (some v)->Vis X.env.scope x->∃u,RelV v u/\Look X.env s.heap m x u
 cell:∀x c,X.env.cells.lookup x=some c->∃v,s.heap.IsCell c v
 free:H X.env.locals=none
 freeC:∀x c,X.env.cells.lookup x=some c->H c=none
 pin:∀p∈X.pn++pins,s.heap.get? p.1=some p.2/\H p.1=none/\p.1≠X.env.locals/\p.1∉X.fs/\∀v,p.2.data≠.cell v
 hok:HOk X.prog X.w H s.heap
 len:U.length=X.N.length
section
variable{X:Cx}{pins:XG}{U:List (Option V)}{H H':Hp}{s:XM}{h':XT}
def Cx.Ok.nofr(ok:X.Ok){b:XB}{o:Obj}(e:X.base.get? b=some o):b∉X.fs:=λhb=>by
 have:=(ok.funs.mem hb).1;rw[e]at this;cases this
def Inv.bs(I:Inv X pins U H s):∀b o,X.base.get? b=some o->s.heap.get? b=some o/\H b=none:=λb o e=>
 ⟨I.base.keep b o (I.ok.bs b o e).1 (I.ok.bs b o e).2 (I.ok.nofr e) (I.ok.noex b o e),I.base.free b o (I.ok.bs b o e).1 (I.ok.bs b o e).2 (I.ok.noex b o e)⟩
def Inv.bk(I:Inv X pins U H s):∀b o,X.base.get? b=some o->s.heap.get? b=some o:=λb o e=>(I.bs b o e).1
def Inv.mod(I:Inv X pins U H s):Mod X.K X.mg X.base:=I.ok.mod
def Inv.kIn(I:Inv X pins U H s):X.K.In s.heap:=I.ok.mod.kin.keeps I.bk
def Inv.lt(I:Inv X pins U H s):X.env.locals<s.heap.objs.size:=let⟨_,hn,_⟩:=I.loc;hn.lt
def Inv.sz(I:Inv X pins U H s):X.s₀.heap.objs.size<=s.heap.objs.size:=Yj I.ok.above (Yan I.lt)
def Inv.nofs(I:Inv X pins U H s){a:XB}(h:s.heap.objs.size<=a):a∉X.fs:=λhb=>by
 let⟨_,o,ho,_⟩:=I.ok.funs.mem hb;exact absurd (YS (YE ho) (Yj I.sz h)) (Ya1 _)
def Inv.cne(I:Inv X pins U H s):∀x c,X.env.cells.lookup x=some c->c≠X.env.locals:=λx c e z=>by
 let⟨v,o,ho,hd⟩:=I.cell x c e;let⟨m,⟨o',es,ep,ho',hd',_⟩,_⟩:=I.loc;rw[z,ho']at ho;cases ho;rw[hd']at hd;cases hd
theorem Inv.funs(I:Inv X pins U H s):s.heap.FunFrames X.base X.outer:=by
 have all:∀(l:Xk),(∀b∈frs l,b∈X.fs)->X.s₀.heap.FunFrames X.base l->s.heap.FunFrames X.base l:=by
  intro l;induction l with
  |nil=>intro _ _;trivial
  |cons env r ih=>
   intro hs hl;let⟨hk,⟨L,o,hf,hn,ho,hd⟩,hr⟩:=hl;have hL:L∈X.fs:=hs L (by unfold frs;rw[YaM,hf];exact Y1);let⟨sl,e⟩:=I.base.slot L o ho (I.ok.frf L hL) hL λz=>I.ok.exfs L z hL;exact⟨hk,⟨L,_,hf,hn,e,hd⟩,ih (λb hb=>hs b (by unfold frs;rw[YaM,hf];exact Yo _ hb)) hr⟩
 exact all X.outer (λ_ hb=>hb) I.ok.funs
def Inv.stack(I:Inv X pins U H s):s.heap.FunFrames X.base X.stack:=by
 rcases I.ok.stk with e|⟨e,hf⟩
 .rw [e];exact I.funs
 .rw [e];let⟨m,hn,_⟩:=I.loc;refine .cons (by rw[I.ok.kind];decide) hf hn ?_ I.funs;exact Heap.get?_none_of_le (Yj I.ok.bsz I.ok.above)
def Inv.stkSub(I:Inv X pins U H s):∀b∈frs X.stack,b∈X.env.locals::X.fs:=λb hb=>by
 rcases I.ok.stk with e|⟨e,hf⟩
 .rw [e]at hb;exact Yo _ hb
 .rw [e]at hb;unfold frs at hb;rw[YaM,hf]at hb;exact hb
def Inv.stkFree(I:Inv X pins U H s):∀b∈frs X.stack,H b=none:=λb hb=>by
 rcases Yh.mp (I.stkSub b hb)with e|hb
 .rw [e];exact I.free
 .obtain ⟨_,o,ho,_⟩:=I.ok.funs.mem hb;exact I.base.free b o ho (I.ok.frf b hb) λz=>I.ok.exfs b z hb
def Inv.step{g':Array GenState}{t':Nat}{d':Drawn}{ch:Xa}(I:Inv X pins U H s)(hch:∀b∈ch,(b∈X.ex\/X.s₀.heap.objs.size<=b)/\b≠X.env.locals/\(∀x c,X.env.cells.lookup x=some c->c≠b)/\∀p∈X.pn++pins,p.1≠b)(keep:∀b o,b≠X.env.locals->b∉X.fs->b∉ch->s.heap.get? b=some o->H b=none->h'.get? b=some o)(slot:∀b o,b≠X.env.locals->b∈X.fs->b∉ch->s.heap.get? b=some o->H b=none->∃sl,h'.get? b=some {o with slots:=sl})(free:∀b o,b∉ch->s.heap.get? b=some o->H b=none->H' b=none)(there:∀b o,b∉ch->s.heap.get? b=some o->∃o',h'.get? b=some o')(tups:∀b xs,H b=some (.tup xs)->H' b=some (.tup xs))(frzs:∀b o u,H b=some (.frz o u)->H' b=some (.frz o u))(tbls:∀b ps,H b=some (.tbl ps)->∃more,H' b=some (.tbl (ps++more)))(ns:∀m,s.heap.Ns X.env.locals m->h'.Ns X.env.locals m)(hok:HOk X.prog X.w H' h')(hg:AllBare g') :
  Inv X pins U H' {s with heap:=h',gens:=g',drawn:=d',toks:=t'}:=by
 have neL:∀b o,X.s₀.heap.get? b=some o->b≠X.env.locals:=λb o e=>YW (YS (YE e) I.ok.above);have neC:∀b o,X.s₀.heap.get? b=some o->b∉X.ex->b∉ch:=λb o e hx hb=>by
  rcases(hch b hb).1 with z|z
  .exact hx z
  .exact absurd (YS (YE e) z) (Ya1 _)
 have cellK:∀x c,X.env.cells.lookup x=some c->∀v,s.heap.IsCell c v->h'.IsCell c v:=λx c e v ⟨o,ho,hd⟩=>by
  have nch:c∉ch:=λz=>(hch c z).2.2.1 x c e rfl;by_cases hc:c∈X.fs
  .obtain ⟨sl,q⟩:=slot c o (I.cne x c e) hc nch ho (I.freeC x c e);exact⟨_,q,hd⟩
  .exact ⟨o,keep c o (I.cne x c e) hc nch ho (I.freeC x c e),hd⟩
 refine⟨I.ok,I.os,hg,⟨λb o e n hb hx=>?_,λb o e n hb hx=>?_,λb o e n hx=>?_,λb o e hx=>?_,λb xs e=>tups b xs (I.base.tups b xs e),λb o xs e=>frzs b o xs (I.base.frzs b o xs e),λb ps e=>?_⟩,?_,λx c e=>?_,?_,λx c e=>?_,λp hp=>?_,hok,I.len⟩
 .exact keep b o (neL b o e) hb (neC b o e hx) (I.base.keep b o e n hb hx) (I.base.free b o e n hx)
 .obtain ⟨sl,e1⟩:=I.base.slot b o e n hb hx;let⟨sl',e2⟩:=slot b _ (neL b o e) hb (neC b o e hx) e1 (I.base.free b o e n hx);exact⟨sl',e2⟩
 .obtain ⟨o',e1⟩:=I.base.there b o e hx;exact free b o' (neC b o e hx) e1 (I.base.free b o e n hx)
 .obtain ⟨o',e1⟩:=I.base.there b o e hx;exact there b o' (neC b o e hx) e1
 .obtain ⟨m1,e1⟩:=I.base.tbls b ps e;let⟨m2,e2⟩:=tbls b _ e1;exact⟨m1++m2,by rw[e2,Array.append_assoc]⟩
 .obtain ⟨m,hn,hl⟩:=I.loc;refine⟨m,ns m hn,λi x v e1 e2 e3=>?_⟩;let⟨u,r,l⟩:=hl i x v e1 e2 e3;refine⟨u,r,?_⟩;rcases l with l|⟨k,c,e,z⟩
  .exact .inl l
  .exact .inr ⟨k,c,e,cellK x c e _ z⟩
 .obtain ⟨v,z⟩:=I.cell x c e;exact⟨v,cellK x c e v z⟩
 .obtain ⟨m,⟨o,_,_,ho,_⟩,_⟩:=I.loc;exact free _ o (λz=>(hch _ z).2.1 rfl) ho I.free
 .obtain ⟨v,o,ho,hd⟩:=I.cell x c e;exact free c o (λz=>(hch c z).2.2.1 x c e rfl) ho (I.freeC x c e)
 .obtain ⟨e,n,ne,nf,d⟩:=I.pin p hp;have nch:p.1∉ch:=λz=>(hch p.1 z).2.2.2 p hp rfl;exact⟨keep p.1 p.2 ne nf nch e n,free p.1 p.2 nch e n,ne,nf,d⟩
def Inv.un{t':Nat}(I:Inv X pins U H s)(u:Un X.fs [] H H' s.heap h')(hok:HOk X.prog X.w H' h'):Inv X pins U H' {s with heap:=h',toks:=t'}:=by
 let⟨m,⟨o,es,ep,ho,r⟩,_⟩:=id I.loc;let⟨sl,hL⟩:=u.any ho I.free (by simp)
 exact I.step (g':=s.gens) (d':=s.drawn) (ch:=[]) (λ_ z=>nomatch z) (λb o _ hb _ e n=>u.keep b o e n hb (by simp)) (λb o _ hb _ e n=>u.slot b o e n hb (by simp)) (λb o _ e n=>u.free b o e n (by simp)) (λb o _ e=>u.there b o e (by simp)) u.tups u.frzs u.tbls (λm' hm=>by
  let⟨o',es',ep',ho',r'⟩:=hm;rw[ho]at ho';cases ho';exact⟨_,es',ep',hL,r'⟩) hok I.bare
def Inv.call{g':Array GenState}{t':Nat}{d':Drawn}{ch:Xa}(I:Inv X pins U H s)(u:Un (frs X.stack) ch H H' s.heap h')(hok:HOk X.prog X.w H' h')(hg:AllBare g')(hch:∀b∈ch,(b∈X.ex\/X.s₀.heap.objs.size<=b)/\b≠X.env.locals/\(∀x c,X.env.cells.lookup x=some c->c≠b)/\∀p∈X.pn++pins,p.1≠b) :
  Inv X pins U H' {s with heap:=h',gens:=g',drawn:=d',toks:=t'}:=by
 let⟨m,⟨o,es,ep,ho,r⟩,_⟩:=id I.loc;let⟨sl,hL⟩:=u.any ho I.free λz=>(hch _ z).2.1 rfl
 exact I.step (ch:=ch) hch (λb o hL hb hc e n=>u.keep b o e n (λz=>(Yh.mp (I.stkSub b z)).elim hL hb) hc) (λb o _ _ hc e n=>u.any e n hc) (λb o hc e n=>u.free b o e n hc) (λb o hc e=>u.there b o e hc) u.tups u.frzs u.tbls (λm' hm=>by
  let⟨o',es',ep',ho',r'⟩:=hm;rw[ho]at ho';cases ho';exact⟨_,es',ep',hL,r'⟩) hok hg
def Inv.turned{t':Nat}{it:XB}(I:Inv X pins U H s)(k:∀b o,b≠it->s.heap.get? b=some o->h'.get? b=some o)(hn:H it=none)(hL:it≠X.env.locals)(h1:it∈X.ex\/X.s₀.heap.objs.size<=it)(h2:∀x c,X.env.cells.lookup x=some c->c≠it)(h3:∀p∈X.pn++pins,p.1≠it):Inv X pins U H {s with heap:=h',toks:=t'}:=by
 have nit:∀b u,H b=some u->b≠it:=λb u e z=>by rw[z,hn]at e;cases e
 refine I.step (g':=s.gens) (d':=s.drawn) (ch:=[it]) (λb hb=>?_) (λb o _ _ hc e _=>k b o (λz=>hc (by simp[z])) e) (λb o _ _ hc e _=>⟨o.slots,k b o (λz=>hc (by simp[z])) e⟩) (λ_ _ _ _ n=>n)
  (λb o hc e=>⟨o,k b o (λz=>hc (by simp[z])) e⟩) (λ_ _ e=>e) (λ_ _ _ e=>e) (λb ps e=>⟨#[],by rw[e];simp⟩) (λm hm=>?_) (λb u e=>?_) I.bare
 .have e:b=it:=by simpa using hb
  subst e;exact⟨h1,hL,h2,h3⟩
 .obtain ⟨o,es,ep,ho,r⟩:=hm;exact⟨o,es,ep,k _ o (YR hL) ho,r⟩
 .refine (I.hok b u e).stay (λc v hc q=>k c v ?_ q) (λ_ q=>q) λ_ _ q=>q;rcases hc with z|z
  .rw [z];exact nit b u e
  .exact nit c _ z
def Inv.tok(I:Inv X pins U H s)(t:Nat):Inv X pins U H {s with toks:=t}:=I.un (h':=s.heap) (t':=t) Un.refl I.hok
def Inv.kept{t':Nat}(I:Inv X pins U H s)(k:∀b u,s.heap.get? b=some u->h'.get? b=some u):Inv X pins U H {s with heap:=h',toks:=t'}:=I.un (Un.kept k) (I.hok.kept k)
def Inv.laid{a:XB}{o:HO}{t':Nat}(I:Inv X pins U H s)(k:∀b u,s.heap.get? b=some u->h'.get? b=some u)(hp:s.heap.objs.size<=a)(new:ObjOk X.prog X.w (upd H a o) h' a o) :
  Inv X pins U (upd H a o) {s with heap:=h',toks:=t'}:=I.un (Un.laid k hp (I.hok.fresh hp)) (I.hok.laid k hp new)
def Inv.write{x e:XB}{o:HO}{t':Nat}(I:Inv X pins U H s)(mu:Mut (H x))(he:e=x\/H e=some (.own x))(k:∀b u,b≠e->s.heap.get? b=some u->h'.get? b=some u)(heo:∃u,h'.get? e=some u)(new:ObjOk X.prog X.w (upd H x o) h' x o):Inv X pins U (upd H x o) {s with heap:=h',toks:=t'}:=I.un (Un.write mu he k heo) (I.hok.write mu he k heo new)
def Inv.pins_of{pins':XG}(I:Inv X pins U H s)(h:∀p∈pins',s.heap.get? p.1=some p.2/\H p.1=none/\p.1≠X.env.locals/\p.1∉X.fs/\∀v,p.2.data≠.cell v):Inv X pins' U H s:=
 ⟨I.ok,I.os,I.bare,I.base,I.loc,I.cell,I.free,I.freeC,λp hp=>(Yw.mp hp).elim (λz=>I.pin p (Ycm _ z)) (h p),I.hok,I.len⟩
def Znn{N:XN}(hN:N.Nodup){i j:Nat}{x:Str}(a:N[i]?=some x)(b:N[j]?=some x):i=j:=by
 let⟨h1,e1⟩:=Yf.mp a;let⟨h2,e2⟩:=Yf.mp b;exact(List.getElem_inj hN).mp (e1.trans e2.symm)
def ZkS{M:Model}{A:XY}{E:XE}{i:Nat}{x:Str}{v:V}{u:XR}{Q:Unit->Shared->Prop}(I:Inv X pins U H s)(hN:X.N.Nodup)(hi:X.N[i]?=some x)(hx:Loc X.env.scope x)(r:RelV v u)(h:∀s',Inv X pins (U.set i (some v)) H s'->(∃a,Heap.SameBut a s.heap s'.heap/\(a=X.env.locals\/X.env.cells.lookup x=some a))->Q ⟨⟩ s')(hf:X.fn x=true\/X.env.scope.names.lookup x=some .local:=by first|exact .inl rfl|exact .inr rfl|assumption):wpAny M A (storeName X.env x u) Q E s:=by
 let⟨m,hn,hl⟩:=id I.loc;have hcls:(X.env.scope.kind==.class||(X.env.scope.kind==.module&&X.env.locals != X.env.globals))=false:=by rw[I.ok.kind];rfl
 have hiU:i<U.length:=by rw[I.len];exact(Yf.mp hi).1
 have cne:=I.cne;have tracked:∀{a:XB}{h':XT},(∃o,s.heap.get? a=some o/\H a=none)->Heap.SameBut a s.heap h'->HOk X.prog X.w H h':=λ{a h'} ha hs b ob e=>by
  let⟨_,_,hfree⟩:=ha;refine(I.hok b ob e).stay (λc w' hc q=>(hs.2 c ?_).trans q) (λ_ q=>q) λ_ _ q=>q;rintro rfl;rcases hc with rfl|hc
  .rw [hfree]at e;cases e
  .rw [hfree]at hc;cases hc
 rcases hx with hk|hk
 .refine wpAny_storeName_local hk hn (λh' hn' hs=>?_) hcls;let⟨oL,_,_,hoL,_⟩:=id hn;refine h _ ⟨I.ok,I.os,I.bare,⟨λb o e n hb hx=>?_,λb o e n hb hx=>?_,I.base.free,λb o e hx=>?_,I.base.tups,I.base.frzs,I.base.tbls⟩,⟨_,hn',λj y v' e1 e2 e3=>?_⟩,λy c e=>?_,I.free,I.freeC,λp hp=>?_,tracked ⟨oL,hoL,I.free⟩ hs,by simpa using I.len⟩ ⟨_,hs,.inl rfl⟩
  .exact (hs.2 b (YW (YS (YE e) I.ok.above))).trans (I.base.keep b o e n hb hx)
  .obtain ⟨sl,e1⟩:=I.base.slot b o e n hb hx;exact⟨sl,(hs.2 b (YW (YS (YE e) I.ok.above))).trans e1⟩
  .obtain ⟨o',e1⟩:=I.base.there b o e hx;exact⟨o',(hs.2 b (YW (YS (YE e) I.ok.above))).trans e1⟩
  .by_cases hj:j=i
   .subst hj;rw[hi]at e1;cases e1;rw[Ybp hiU]at e2;cases e2;exact⟨u,r,.inl ⟨hk,by simp⟩⟩
   .rw [Ya5 (YR hj)]at e2;let⟨u',r',q⟩:=hl j y v' e1 e2 e3;refine⟨u',r',?_⟩;rcases q with⟨k,e⟩|⟨k,c,e,z⟩
    .refine .inl ⟨k,?_⟩;have:y≠x:=λe=>hj (Znn hN e1 (e▸hi));simp[this,e]
    .exact .inr ⟨k,c,e,z.sameBut hs (cne y c e)⟩
  .obtain ⟨w',z⟩:=I.cell y c e;exact⟨w',z.sameBut hs (cne y c e)⟩
  .obtain ⟨e,n,ne,nf,d⟩:=I.pin p hp;exact⟨(hs.2 p.1 ne).trans e,n,ne,nf,d⟩
 .have hfn:X.fn x=true:=by
   rcases hf with z|z
   .exact z
   .rw [z]at hk;cases hk
  let⟨c,hc⟩:=I.ok.has x (.inl hk);let⟨w',z⟩:=I.cell x c hc;refine wpAny_storeName_cell I.ok.kind hk hc z (λh' hc' hs=>?_);let⟨oc,hoc,hocd⟩:=id z;refine h {s with heap:=h'} ⟨I.ok,I.os,I.bare,⟨λb o e n hb hx=>?_,λb o e n hb hx=>?_,I.base.free,λb o e hx=>?_,I.base.tups,I.base.frzs,I.base.tbls⟩,⟨m,hn.sameBut hs (YR (cne x c hc)),λj y v' e1 e2 e3=>?_⟩,λy c' e=>?_,I.free,I.freeC,λp hp=>?_,tracked ⟨oc,hoc,I.freeC x c hc⟩ hs,by simpa using I.len⟩ ⟨c,hs,.inr hc⟩
  .exact (hs.2 b (YW (YS (YE e) (I.ok.cab x c hfn hc)))).trans (I.base.keep b o e n hb hx)
  .obtain ⟨sl,e1⟩:=I.base.slot b o e n hb hx;exact⟨sl,(hs.2 b (YW (YS (YE e) (I.ok.cab x c hfn hc)))).trans e1⟩
  .obtain ⟨o',e1⟩:=I.base.there b o e hx;exact⟨o',(hs.2 b (YW (YS (YE e) (I.ok.cab x c hfn hc)))).trans e1⟩
  .by_cases hj:j=i
   .subst hj;rw[hi]at e1;cases e1;rw[Ybp hiU]at e2;cases e2;exact⟨u,r,.inr ⟨.inl hk,c,hc,hc'⟩⟩
   .rw [Ya5 (YR hj)]at e2;let⟨u',r',q⟩:=hl j y v' e1 e2 e3;refine⟨u',r',?_⟩;rcases q with q|⟨k,c',e,z'⟩
    .exact .inl q
    .refine .inr ⟨k,c',e,z'.sameBut hs ?_⟩;rintro rfl;exact hj (Znn hN e1 (I.ok.inj _ _ _ e hc▸hi))
  .by_cases hcc:c'=c
   .subst hcc;exact⟨_,hc'⟩
   .obtain ⟨w2,z2⟩:=I.cell y c' e;exact⟨w2,z2.sameBut hs hcc⟩
  .obtain ⟨e,n,ne,nf,d⟩:=I.pin p hp;refine⟨(hs.2 p.1 ?_).trans e,n,ne,nf,d⟩;intro q;rw[q,hoc]at e;have q':oc=p.2:=Y2 e;exact d w' (by rw[<- q'];exact hocd)
def Zno{M:Model}{A:XY}{E:XE}{i:Nat}{x:Str}{v:V}{u:XR}{Q:Unit->Shared->Prop}(I:Inv X pins U H s)(hN:X.N.Nodup)(hi:X.N[i]?=some x)(hx:Loc X.env.scope x)(r:RelV v u)(h:∀s',Inv X pins (U.set i (some v)) H s'->Q ⟨⟩ s')(hf:X.fn x=true\/X.env.scope.names.lookup x=some .local:=by first|exact .inl rfl|exact .inr rfl|assumption):wpAny M A (storeName X.env x u) Q E s:=
 ZkS I hN hi hx r (λs' I' _=>h s' I') hf
def Inv.call'{s':XM}{ch:Xa}(I:Inv X pins U H s)(ho:s'.os=s.os)(u:Un (frs X.stack) ch H H' s.heap s'.heap)(hok:HOk X.prog X.w H' s'.heap)(hg:AllBare s'.gens)(hch:∀b∈ch,(b∈X.ex\/X.s₀.heap.objs.size<=b)/\b≠X.env.locals/\(∀x c,X.env.cells.lookup x=some c->c≠b)/\∀p∈X.pn++pins,p.1≠b):Inv X pins U H' s':=by
 let⟨h',g',d',t',o'⟩:=s';have e:o'=s.os:=ho;subst e;exact I.call (g':=g') (t':=t') (d':=d') u hok hg hch
end
abbrev XK:=Value->Option Addr->Hp->Prop
abbrev St:=List (Option V)
abbrev Xp:=St->Hp->Prop
abbrev VK:=V->Hp->Prop
abbrev Xm:=V->List V->Hp->VK->Prop
abbrev TE:=St->Hp->VK->Prop
abbrev TT:=St->Hp->(Bool->Hp->Prop)->Prop
abbrev TA:=St->Hp->(List V->Hp->Prop)->Prop
structure Ends where
 nx:St->Hp->Prop
 rt:VK
 bk:St->Hp->Prop:=λ_ _=>False
 ct:St->Hp->Prop:=λ_ _=>False
abbrev TS:=Ends->St->Hp->Prop
def EP(X:Cx)(pins:XG)(U:St)(Q:VK)(u:XR)(s':XM):Prop:=∃v H',Inv X pins U H' s'/\RelV v u/\Q v H'
def TP(X:Cx)(pins:XG)(U:St)(Q:Xn)(b:Bool)(s':XM):Prop:=∃H',Inv X pins U H' s'/\Q b H'
def AP(X:Cx)(pins:XG)(U:St)(Q:List V->Hp->Prop)(us:XH)(s':XM):Prop:=∃vs H',Inv X pins U H' s'/\Vals vs us/\Q vs H'
def SP(X:Cx)(pins:XG)(D:Ends)(f:Flow)(s':XM):Prop:=
 match f with
 |.next=>∃U' H',Inv X pins U' H' s'/\D.nx U' H'
 |.brk=>∃U' H',Inv X pins U' H' s'/\D.bk U' H'
 |.cont=>∃U' H',Inv X pins U' H' s'/\D.ct U' H'
 |.ret u=>∃v U' H',Inv X pins U' H' s'/\RelV v u/\D.rt v H'
def PE(X:Cx)(e:Xi)(t:TE):Prop:=
 ∀(pins:XG)(s:XM)(U:St)(H:Hp)(Q:VK),Inv X pins U H s->t U H Q->wpAny (model X.prog X.w) X.A (eval e X.env) (EP X pins U Q) X.xe s
def PT(X:Cx)(e:Xi)(t:TT):Prop:=
 ∀(pins:XG)(s:XM)(U:St)(H:Hp)(Q:Xn),Inv X pins U H s->t U H Q->wpAny (model X.prog X.w) X.A (isTrue e X.env (eval e X.env)) (TP X pins U Q) X.xe s
def PW(X:Cx)(e:Xi)(t:TT):Prop:=
 ∀(whole:Sem Value)(pins:XG)(s:XM)(U:St)(H:Hp)(Q:Xn),Inv X pins U H s->t U H Q->wpAny (model X.prog X.w) X.A (isTrue e X.env whole) (TP X pins U Q) X.xe s
def PW.pt{X:Cx}{e:Xi}{t:TT}(h:PW X e t):PT X e t:=h _
def PA(X:Cx)(es:Xd)(t:TA):Prop:=
 ∀(pos:Pos)(pins:XG)(s:XM)(U:St)(H:Hp)(Q:List V->Hp->Prop),Inv X pins U H s->t U H Q->wpAny (model X.prog X.w) X.A (spliced (backTo pos (starEach es X.env))) (AP X pins U Q) X.xe s
def PS(X:Cx)(st:Stmt)(t:TS):Prop:=
 ∀(pins:XG)(s:XM)(U:St)(H:Hp)(D:Ends),Inv X pins U H s->t D U H->wpAny (model X.prog X.w) X.A (exec st X.env) (SP X pins D) X.xe s
def PSs(X:Cx)(st:List Stmt)(t:TS):Prop:=
 ∀(pins:XG)(s:XM)(U:St)(H:Hp)(D:Ends),Inv X pins U H s->t D U H->wpAny (model X.prog X.w) X.A (execs st X.env) (SP X pins D) X.xe s
def thn{α:Type}{t:Sem α}{Q Q':α->Shared->Prop}{M:Model}{A:XY}{E:XE}{s:XM}(h:wpAny M A t Q E s)(hQ:∀a s,Q a s->Q' a s):wpAny M A t Q' E s:=YaZ h hQ λ_ _ x=>x
section
variable{X:Cx}
def tVar(i:Nat):TE:=λU H Q=>∃v,U[i]?=some (some v)/\Q v H
def tC(v:V):TE:=λ_ H Q=>Q v H
def pe_var{i:Nat}{x:Str}{pos:Pos}(hN:X.N[i]?=some x)(hv:Vis X.env.scope x)(hd:(x==("__debug__":Xq))=false:=by decide)(hcd:(x==("__classdict__":Xq))=false:=by decide):PE X (.Name x pos) (tVar i):=by
 walk_at"I";let⟨v,e,h⟩:=h;let⟨m,hn,hl⟩:=I.loc;let⟨u,r,l⟩:=hl i x v hN e hv;have fin:EP X pins U Q u s:=⟨v,H,I,r,h⟩;rcases l with⟨hk,hm⟩|⟨hk,c,hc,hcell⟩
 .exact wpAny_Name (wpAny_loadName_local I.ok.kind hk hn hm fin) hd
 .rcases hk with hk|hk
  .exact wpAny_Name (wpAny_loadName_cell I.ok.kind hk hc hcell fin) hd
  .exact wpAny_Name (wpAny_loadName_free I.ok.kind hk hc hcell fin hcd) hd
def Zag{i j pos}:PE X (.Constant (.int i) j pos) (tC (.int i)):=λ_ _ _ H _ I h=>wpAny_Constant_int ⟨.int i,H,I.tok _,⟨_,rfl⟩,h⟩
def ZcD{b j pos}:PE X (.Constant (.bool b) j pos) (tC (.bl b)):=λ_ _ _ H _ I h=>Constant_bool ⟨.bl b,H,I,rfl,h⟩
def Zbl{j pos}:PE X (.Constant .none j pos) (tC .non):=λ_ _ _ H _ I h=>Constant_none ⟨.non,H,I,rfl,h⟩
def Zav{x j pos}:PE X (.Constant (.str x) j pos) (tC (.str x)):=λ_ _ _ H _ I h=>Calls.Constant_str ⟨.str x,H,I.tok _,⟨_,rfl⟩,h⟩
def Gl(X:Cx)(x:Str):Prop:=X.env.kindOf x=some .globalImplicit
def Zg9{E:XE}{pins:XG}{s:XM}{U:St}{H:Hp}{x:Str}{u:XR}{pos:Pos}{Q:XE}(I:Inv X pins U H s)(hg:Gl X x)(hm:X.mg x=some u)(h:Q u s)(hd:(x==("__debug__":Xq))=false:=by decide):wpAny (model X.prog X.w) X.A (eval (.Name x pos) X.env) Q E s:=
 Calls.Name_function_global I.ok.kind hg (Calls.loadGlobal_global (by rw[I.ok.glob];exact I.mod.glob.keeps I.bk) hm h) hd
def Zf3{E:XE}{pins:XG}{s:XM}{U:St}{H:Hp}{x:Str}{u:XR}{pos:Pos}{Q:XE}(I:Inv X pins U H s)(hg:Gl X x)(hm:X.mg x=none)(hv:bootBuiltins x=some u)(h:Q u s)(hn:x≠"__name__":=by decide)(hd:(x==("__debug__":Xq))=false:=by decide):wpAny (model X.prog X.w) X.A (eval (.Name x pos) X.env) Q E s:=by
 let⟨mb,h1,h2⟩:=I.mod.blt;exact Calls.Name_function_global I.ok.kind hg (Calls.loadGlobal_builtin (by rw[I.ok.glob];exact I.mod.glob.keeps I.bk) hm (by rw[I.ok.blt];exact h1.keeps I.bk) ((h2 x hn).trans hv) h) hd
def ZuO{x:Str}{v:V}{u:XR}{pos:Pos}(hg:Gl X x)(hm:X.mg x=some u)(r:RelV v u)(hd:(x==("__debug__":Xq))=false:=by decide):PE X (.Name x pos) (tC v):=
 λ_ _ _ H _ I h=>Zg9 I hg hm ⟨v,H,I,r,h⟩ hd
def ZuP{x:Str}{v:V}{u:XR}{pos:Pos}(hg:Gl X x)(hm:X.mg x=none)(hv:bootBuiltins x=some u)(r:RelV v u)(hn:x≠"__name__":=by decide)(hd:(x==("__debug__":Xq))=false:=by decide):PE X (.Name x pos) (tC v):=
 λ_ _ _ H _ I h=>Zf3 I hg hm hv ⟨v,H,I,r,h⟩ hn hd
variable{a b:Xi}{ta tb:TE}{pos:Pos}
def PC(X:Cx)(op:CmpOp)(a b:Xi)(t:TE):Prop:=
 ∀(pins:XG)(s:XM)(U:St)(H:Hp)(Q:VK),Inv X pins U H s->t U H Q->
  wpAny (model X.prog X.w) X.A (eval a X.env) (λv s₁=>wpAny (model X.prog X.w) X.A (eval b X.env) (λu s₂=>wpAny (model X.prog X.w) X.A (compareOp op v u) (EP X pins U Q) X.xe s₂) X.xe s₁) X.xe s
def tB(t:TE):TT:=λU H Q=>t U H λx H1=>∃c,x=.bl c/\Q c H1
def pt_cmp{op:CmpOp}{t:TE}(h:PC X op a b t)(h1:behindInMarks op b=false:=by first|exact nobehind _ nofun nofun|rfl):PT X (.Compare a [op] [b] pos) (tB t):=by
 intro pins s U H Q I hw;refine wpAny_isTrue_Compare1 (thn (h pins s U H _ I hw) λv s1 h1=>thn h1 λu s2 h2=>thn h2 λc s3 hzq=>?_) h1;let⟨x,H1,I1,r1,q1⟩:=hzq;let⟨d,rfl,q⟩:=q1;cases r1;exact Yau ⟨H1,I1,q⟩
def ZbN{e:Xi}{t:TE}(h:PE X e t)(he:∀whole,isTrue e X.env whole=(do let v<- whole;standAt e.pos;holding [v] (truthy v)):=by intro _;rfl):PT X e (tB t):=by
 intro pins s U H Q I hw;refine isTrue_plain (thn (h pins s U H _ I hw) λv s1 hzq=>?_) (he _);let⟨x,H1,I1,r1,q1⟩:=hzq;let⟨d,rfl,q⟩:=q1;cases r1;exact Yau ⟨H1,I1,q⟩
variable{tA tB':TT}{rest:Xd}
def tAnd(t u:TT):TT:=λU H Q=>t U H λc H1=>if c=true then u U H1 Q else Q false H1
def tOr(t u:TT):TT:=λU H Q=>t U H λc H1=>if c=true then Q true H1 else u U H1 Q
def tNot(t:TT):TT:=λU H Q=>t U H λc H1=>Q (!c) H1
def Zha(ha:PT X a tA):PW X (.BoolOp .And [a] pos) tA:=by
 intro wh pins s U H Q I h;refine isTrue_and (thn (ha pins s U H Q I h) λc s1 e=>?_);cases c with
 |true=>exact isTrue_and_nil e
 |false=>exact e
def ZcL(ha:PT X a tA):PW X (.BoolOp .Or [a] pos) tA:=by
 intro wh pins s U H Q I h;refine isTrue_or (thn (ha pins s U H Q I h) λc s1 e=>?_);cases c with
 |false=>exact isTrue_or_nil e
 |true=>exact e
def ZkT(ha:PT X a tA)(hb:PW X (.BoolOp .And (b::rest) pos) tB'):PW X (.BoolOp .And (a::b::rest) pos) (tAnd tA tB'):=by
 intro wh pins s U H Q I h;refine isTrue_and (thn (ha pins s U H _ I h) λc s1 hzq=>?_);let⟨H1,I1,q1⟩:=hzq;cases c with
 |true=>exact hb wh pins s1 U H1 Q I1 q1
 |false=>exact⟨H1,I1,q1⟩
def Zd0(ha:PT X a tA)(hb:PW X (.BoolOp .Or (b::rest) pos) tB'):PW X (.BoolOp .Or (a::b::rest) pos) (tOr tA tB'):=by
 intro wh pins s U H Q I h;refine isTrue_or (thn (ha pins s U H _ I h) λc s1 hzq=>?_);let⟨H1,I1,q1⟩:=hzq;cases c with
 |true=>exact⟨H1,I1,q1⟩
 |false=>exact hb wh pins s1 U H1 Q I1 q1
def ZbP(ha:PT X a tA):PT X (.UnaryOp .Not a pos) (tNot tA):=by
 walk_at"I";exact isTrue_not (ha pins s U H (λc H1=>Q (!c) H1) I h)
def tAndV(ta tb:TE):TE:=λU H Q=>ta U H λx H1=>∃c,x=.bl c/\if c=true then tb U H1 Q else Q (.bl false) H1
def tOrV(ta tb:TE):TE:=λU H Q=>ta U H λx H1=>∃c,x=.bl c/\if c=true then Q (.bl true) H1 else tb U H1 Q
def Zhb{op}{t:TE}(h:PE X a t):PE X (.BoolOp op [a] pos) t:=λpins s U H Q I hw=>BoolOp_one (h pins s U H Q I hw)
def ZkU(ha:PE X a ta)(hb:PE X (.BoolOp .And (b::rest) pos) tb):PE X (.BoolOp .And (a::b::rest) pos) (tAndV ta tb):=by
 walk_at"I";refine BoolOp_and (thn (ha pins s U H _ I h) λv s1 hzq=>?_);let⟨x,H1,I1,r1,q1⟩:=hzq;let⟨c,rfl,q1⟩:=q1;cases r1;refine Yau ?_;cases c with
 |true=>exact hb pins s1 U H1 Q I1 q1
 |false=>exact⟨.bl false,H1,I1,rfl,q1⟩
def pe_or(ha:PE X a ta)(hb:PE X (.BoolOp .Or (b::rest) pos) tb):PE X (.BoolOp .Or (a::b::rest) pos) (tOrV ta tb):=by
 walk_at"I";refine BoolOp_or (thn (ha pins s U H _ I h) λv s1 hzq=>?_);let⟨x,H1,I1,r1,q1⟩:=hzq;let⟨c,rfl,q1⟩:=q1;cases r1;refine Yau ?_;cases c with
 |false=>exact hb pins s1 U H1 Q I1 q1
 |true=>exact⟨.bl true,H1,I1,rfl,q1⟩
def tIf(t:TT)(ta tb:TE):TE:=λU H Q=>t U H λc H1=>if c=true then ta U H1 Q else tb U H1 Q
def Zjz{c:Xi}(hc:PT X c tA)(ha:PE X a ta)(hb:PE X b tb):PE X (.IfExp c a b pos) (tIf tA ta tb):=by
 walk_at"I";refine wpAny_IfExp (thn (hc pins s U H _ I h) λd s1 hzq=>?_);let⟨H1,I1,q1⟩:=hzq;cases d with
 |true=>exact ha pins s1 U H1 Q I1 q1
 |false=>exact hb pins s1 U H1 Q I1 q1
end
def SqL(K:Ydg)(H:Hp)(a:XB)(xs:XF):Prop:=
 Rd H a (.lst xs)\/
  ∃(o:Obj)(its:Xc)(n:Nat),K.lookup a=some o/\o.cls=.type "list"/\o.dict=none/\o.data=.seq its n/\its.size<=sizeLine/\Vals xs its.toList
def SqT(K:Ydg)(H:Hp)(a:XB)(xs:XF):Prop:=
 Rd H a (.tup xs)\/
  ∃(o:Obj)(its:Xc)(n:Nat),K.lookup a=some o/\o.cls=.type "tuple"/\o.data=.seq its n/\its.size<=sizeLine/\Vals xs its.toList
noncomputable def absV:Value->Option V
 |.none=>some .non
 |.bool b=>some (.bl b)
 |.int i _=>some (.int i)
 |.str x _=>some (.str x)
 |.bytes b _=>some (.byt b)
 |.float b _=>some (.flt b)
 |.ref a=>some (.ref a)
 |.type n=>some (.ty n)
 |_=>none
def RelV.abs{x:V}{u:XR}(r:RelV x u):absV u=some x:=by
 cases x with
 |non=>cases r;rfl
 |bl _=>cases r;rfl
 |int _=>let⟨t,rfl⟩:=r;rfl
 |str _=>let⟨t,rfl⟩:=r;rfl
 |byt _=>let⟨t,rfl⟩:=r;rfl
 |flt _=>let⟨t,rfl⟩:=r;rfl
 |ref _=>cases r;rfl
 |ty _=>cases r;rfl
def RelV.inj{x y:V}{u:XR}(r:RelV x u)(q:RelV y u):x=y:=Y2 (r.abs.symm.trans q.abs)
theorem Vals.inj:∀{xs ys:XF}{us:XH},Vals xs us->Vals ys us->xs=ys
 |_,_,_,.nil,.nil=>rfl
 |_,_,_,.cons r t,.cons r' t'=>by rw[r.inj r',Vals.inj t t']
section
variable{X:Cx}{pins:XG}{U:St}{H:Hp}{s:XM}{a:XB}{xs ys:XF}
def Inv.list(I:Inv X pins U H s)(h:SqL X.K H a xs):∃its:List Value,Vals xs its/\PlainL s.heap a its.toArray/\xs.length<=sizeLine:=by
 rcases h with h|⟨o,its,n,hk,hc,hd,hs,hz,r⟩
 .obtain ⟨z,its,n,r,e⟩:=h.ok I.hok;exact⟨its,r,⟨_,n,e,rfl,rfl,rfl⟩,z⟩
 .refine ⟨its.toList,r,⟨o,n,I.kIn a o hk,hc,hd,by simpa using hs⟩,?_⟩;have e:=r.length;simp only[Yae]at e;omega
def Inv.tuple(I:Inv X pins U H s)(h:SqT X.K H a xs):∃its:List Value,Vals xs its/\IsTup s.heap a its.toArray/\xs.length<=sizeLine:=by
 rcases h with h|⟨o,its,n,hk,hc,hs,hz,r⟩
 .obtain ⟨z,its,r,p⟩:=h.ok I.hok;exact⟨its,r,p,z⟩
 .refine ⟨its.toList,r,⟨o,I.kIn a o hk,hc,n,by simpa using hs⟩,?_⟩;have e:=r.length;simp only[Yae]at e;omega
def Inv.list_inj(I:Inv X pins U H s)(h:SqL X.K H a xs)(h':SqL X.K H a ys):xs=ys:=by
 let⟨its,r,⟨o,n,e,_,_,d⟩,_⟩:=I.list h;let⟨its',r',⟨o',n',e',_,_,d'⟩,_⟩:=I.list h';rw[e]at e';cases e';rw[d]at d';injection d' with d1 _;have:its=its':=by simpa using Y3 Array.toList d1
 subst this;exact r.inj r'
def Inv.tuple_inj(I:Inv X pins U H s)(h:SqT X.K H a xs)(h':SqT X.K H a ys):xs=ys:=by
 let⟨its,r,⟨o,e,_,n,d⟩,_⟩:=I.tuple h;let⟨its',r',⟨o',e',_,n',d'⟩,_⟩:=I.tuple h';rw[e]at e';cases e';rw[d]at d';injection d' with d1 _;have:its=its':=by simpa using Y3 Array.toList d1
 subst this;exact r.inj r'
end
noncomputable abbrev Cx.wish(X:Cx)(E:XE):Cx:={X with xe:=E}
noncomputable abbrev Cx.nox(X:Cx):Cx:=X.wish λ_ _=>False
def Cx.Ok.wish{X:Cx}(ok:X.Ok)(E:XE):(X.wish E).Ok:=
 ⟨ok.mod,ok.kind,ok.glob,ok.blt,ok.above,ok.inj,ok.has,ok.cab,ok.hd,ok.frames,ok.stk,ok.exf,ok.bs,ok.bsz,ok.noex,ok.exfs,ok.funs,ok.frf⟩
def Cx.Ok.unwish{X:Cx}{E:XE}(ok:(X.wish E).Ok):X.Ok:=
 ⟨ok.mod,ok.kind,ok.glob,ok.blt,ok.above,ok.inj,ok.has,ok.cab,ok.hd,ok.frames,ok.stk,ok.exf,ok.bs,ok.bsz,ok.noex,ok.exfs,ok.funs,ok.frf⟩
section
variable{X:Cx}{pins:XG}{U:St}{H:Hp}{s:XM}{E:XE}
def Inv.wish(I:Inv X pins U H s)(E:XE):Inv (X.wish E) pins U H s:=⟨I.ok.wish E,I.os,I.bare,I.base,I.loc,I.cell,I.free,I.freeC,I.pin,I.hok,I.len⟩
def Inv.unwish(I:Inv (X.wish E) pins U H s):Inv X pins U H s:=⟨I.ok.unwish,I.os,I.bare,I.base,I.loc,I.cell,I.free,I.freeC,I.pin,I.hok,I.len⟩
theorem SP.unwish{D:Ends}{f:Flow}{s':XM}(h:SP (X.wish E) pins D f s'):SP X pins D f s':=by
 cases f with
 |next=>let⟨U',H',I,q⟩:=h;exact⟨U',H',I.unwish,q⟩
 |brk=>let⟨U',H',I,q⟩:=h;exact⟨U',H',I.unwish,q⟩
 |cont=>let⟨U',H',I,q⟩:=h;exact⟨U',H',I.unwish,q⟩
 |ret u=>let⟨v,U',H',I,r,q⟩:=h;exact⟨v,U',H',I.unwish,r,q⟩
def PSs.nox{st:List Stmt}{t:TS}(h:PSs X.nox st t):PSs X st t:=λpins s U H D I hw=>
 YaZ (h pins s U H D (I.wish _) hw) (λ_ _ q=>q.unwish) λ_ _ z=>False.elim z
end
section
variable{X:Cx}{st:Stmt}{rest:List Stmt}{t u:TS}{e:Xi}{te:TE}{pos:Pos}
def tNext:TS:=λD U H=>D.nx U H
def tSeq(t u:TS):TS:=λD U H=>t {D with nx:=u D} U H
def Zat:PSs X [] tNext:=λ_ _ U H _ I h=>Ycv ⟨U,H,I,h⟩
def Zac(h1:PS X st t)(h2:PSs X rest u):PSs X (st::rest) (tSeq t u):=by
 walk_at"B";refine wpAny_execs_cons (thn (h1 pins s U H {D with nx:=u D} I h) λf s1 q=>?_);cases f with
 |next=>
  let⟨U',H',I',q⟩:=q;exact h2 pins s1 U' H' D I' q
 |ret v=>exact q
 |brk=>exact q
 |cont=>exact q
def Zaf(h1:PS X st t):PSs X [st] t:=by
 walk_at"B";refine wpAny_execs_cons (thn (h1 pins s U H D I h) λf s1 q=>?_);cases f with
 |next=>exact Ycv q
 |ret v=>exact q
 |brk=>exact q
 |cont=>exact q
def Zpu:PS X (.Pass pos) tNext:=λ_ _ U H _ I h=>wpAny_Pass ⟨U,H,I,h⟩
def Inv.quiet{pins:XG}{U:St}{H:Hp}{s:XM}(I:Inv X pins U H s):interactive X.env=false:=by simp[interactive,I.ok.kind]
def tDrop(te:TE):TS:=λD U H=>te U H λ_ H1=>D.nx U H1
def Zay(he:PE X e te)(hs:swapsWith e none pos.line X.env=pure false:=by rfl):PS X (.Expr e pos) (tDrop te):=by
 walk_at"B";exact wpAny_Expr_any (thn (he pins s U H _ I h) λv s1 ⟨x,H1,I1,r1,q1⟩=>⟨U,H1,I1,q1⟩) I.quiet hs
def tRet(te:TE):TS:=λD U H=>te U H D.rt
def Zak(he:PE X e te):PS X (.Return (some e) pos) (tRet te):=by
 walk_at"B";exact wpAny_Return_some (thn (he pins s U H _ I h) λv s1 ⟨x,H1,I1,r1,q1⟩=>⟨x,U,H1,I1,r1,q1⟩)
def Wb{X:Cx}{e}{te:TE}{pos}(he:PE X e te):PSs X [.Return (some e) pos] (tRet te):=Zaf (Zak he)
def tRetN:TS:=λD _ H=>D.rt .non H
def ZuQ:PS X (.Return none pos) tRetN:=λ_ _ U H _ I h=>wpAny_Return_none ⟨.non,U,H,I,rfl,h⟩
def tIfS(c:TT)(t u:TS):TS:=λD U H=>c U H λb H1=>if b=true then t D U H1 else u D U H1
def ZaG{c:Xi}{a b:List Stmt}{tc:TT}(hc:PT X c tc)(ha:PSs X a t)(hb:PSs X b u):PS X (.If c a b pos) (tIfS tc t u):=by
 walk_at"B";refine wpAny_If (thn (hc pins s U H _ I h) λd s1 hzq=>?_);let⟨H1,I1,q1⟩:=hzq;cases d with
 |true=>exact ha pins s1 U H1 D I1 q1
 |false=>exact hb pins s1 U H1 D I1 q1
end
abbrev TG:=V->St->Hp->(St->Hp->Prop)->Prop
abbrev TGs:=List V->St->Hp->(St->Hp->Prop)->Prop
def PG(X:Cx)(target:Xi)(t:TG):Prop:=
 ∀(pins:XG)(s:XM)(U:St)(H:Hp)(v:V)(u:XR)(Q:Xp),Inv X pins U H s->RelV v u->t v U H Q->
  wpAny (model X.prog X.w) X.A (assign target X.env u) (λ_ s'=>∃U' H',Inv X pins U' H' s'/\Q U' H') X.xe s
def PGs(X:Cx)(ts:Xd)(t:TGs):Prop:=
 ∀(pins:XG)(s:XM)(U:St)(H:Hp)(vs:XF)(us:XH)(Q:Xp),Inv X pins U H s->Vals vs us->t vs U H Q->
  wpAny (model X.prog X.w) X.A (assignInOrder ((assignEach ts X.env).map (·.2)) us) (λ_ s'=>∃U' H',Inv X pins U' H' s'/\Q U' H') X.xe s
abbrev TSet:=V->V->V->Hp->(Hp->Prop)->Prop
def PSet(X:Cx)(t:TSet):Prop:=
 ∀(pins:XG)(s:XM)(U:St)(H:Hp)(o i v:V)(ov iv u:XR)(Q:Hp->Prop),Inv X pins U H s->RelV o ov->RelV i iv->RelV v u->t o i v H Q->
  wpAny (model X.prog X.w) X.A (setItem ov iv u) (λ_ s'=>∃H',Inv X pins U H' s'/\Q H') X.xe s
section
variable{X:Cx}{pos:Pos}
def gName(i:Nat):TG:=λv U H Q=>Q (U.set i (some v)) H
def Zbi{i:Nat}{x:Str}(hN:X.N.Nodup)(hi:X.N[i]?=some x)(hx:Loc X.env.scope x)(hf:X.fn x=true\/X.env.scope.names.lookup x=some .local:=by first|exact .inl rfl|exact .inr rfl|assumption):PG X (.Name x pos) (gName i):=by
 intro pins s U H v u Q I r h;exact wpAny_assign_Name (Zno I hN hi hx r (λs' I'=>⟨_,H,I',h⟩) hf)
noncomputable def gNil:TGs:=λvs U H Q=>vs=[]/\Q U H
noncomputable def gCons(t:TG)(u:TGs):TGs:=λvs U H Q=>∃v r,vs=v::r/\t v U H λU' H'=>u r U' H' Q
def ZuR:PGs X [] gNil:=by
 intro pins s U H vs us Q I r h;let⟨e,h⟩:=h;subst e;cases r;exact assignInOrder_nil ⟨U,H,I,h⟩
def ZeN{e:Xi}{es:Xd}{t:TG}{u:TGs}(h1:PG X e t)(h2:PGs X es u)(hs:(assignEach (e::es) X.env).map (·.2)=assign e X.env::(assignEach es X.env).map (·.2):=by rfl):PGs X (e::es) (gCons t u):=by
 intro pins s U H vs us Q I r h;let⟨v,vr,e1,h⟩:=h;subst e1;cases r with
 |cons r rr=>
  rw[hs];refine assignInOrder_cons (thn (h1 pins s U H _ _ _ I r h) λ_ s1 hzq=>?_);let⟨U1,H1,I1,q1⟩:=hzq;exact h2 pins s1 U1 H1 _ _ Q I1 rr q1
def gTup(K:Ydg)(n:Nat)(t:TGs):TG:=λv U H Q=>∃a xs,v=.ref a/\SqT K H a xs/\xs.length=n/\t xs U H Q
def pg_tup{es:Xd}{k:Nat}{t:TGs}{n:Nat}(hc:X.calm=true)(h:PGs X es t)(hn:(assignEach es X.env).length=n:=by rfl)(hst:(assignEach es X.env).findIdx? (·.1)=none:=by rfl):PG X (.Tuple es k pos) (gTup X.K n t):=by
 intro pins s U H v u Q I r hw;let⟨a,xs,e1,hq,hl,hw⟩:=hw;subst e1;cases r;let⟨its,rv,ht,hz⟩:=I.tuple hq;refine assign_Tuple_tuple (I.ok.hd hc) ht (by simp[hn,<- hl,rv.length]) hst λh' hx=>?_;have I1:Inv X pins U H {s with heap:=h'}:=I.kept (t':=s.toks) λb o e=>hx b o (YW (YE e)) e;exact h pins _ U H xs _ Q I1 (by simpa using rv) hw
def gSub(to ti:TE)(t:TSet):TG:=λv U H Q=>to U H λo H1=>ti U H1 λi H2=>t o i v H2 λH3=>Q U H3
def Zpv{o i:Xi}{to ti:TE}{t:TSet}(ho:PE X o to)(hi:PE X i ti)(hs:PSet X t)(ha:∀v,assign (.Subscript o i pos) X.env v=(do
   let ov<- holding [v] (eval o X.env);let iv<- holding [v,ov] (eval i X.env)
   standAt pos
   holding [v,ov,iv] (setItem ov iv v)
   release [v,ov,iv] []):=by intro _;rfl):PG X (.Subscript o i pos) (gSub to ti t):=by
 intro pins s U H v u Q I r h;rw[ha];refine Yg (YaG (thn (ho pins s U H _ I h) λov s1 hzq=>?_));let⟨x,H1,I1,r1,q1⟩:=hzq;refine Yg (YaG (thn (hi pins s1 U H1 _ I1 q1) λiv s2 hzq=>?_));let⟨y,H2,I2,r2,q2⟩:=hzq;refine Yg (wpAny_standAt (Yg (YaG (thn (hs pins s2 U H2 x y v ov iv u _ I2 r1 r2 r q2) λ_ s3 hzq=>?_))));let⟨H3,I3,q3⟩:=hzq;exact wpAny_release ⟨U,H3,I3,q3⟩
def tAsg(te:TE)(g:TG):TS:=λD U H=>te U H λx H1=>g x U H1 D.nx
def Znp{tg e:Xi}{te:TE}{g:TG}(he:PE X e te)(hg:PG X tg g)(hs:swapsWithSole [tg] e pos.line X.env=pure false:=by rfl)(hw:swappedStores [tg] e X.env=pure none:=by rfl)(h1:(assignEach [tg] X.env).map (·.2)=[assign tg X.env]:=by rfl):PS X (.Assign [tg] e pos) (tAsg te g):=by
 walk_at"B";refine wpAny_Assign_stores (thn (he pins s U H _ I h) λv s1 hzq=>?_) hs hw;let⟨x,H1,I1,r1,q1⟩:=hzq;rw[h1];exact thn (hg pins s1 U H1 x v _ I1 r1 q1) λ_ s2 q=>q
def Zhc{i:Nat}{x:Str}{e:Xi}{te:TE}{pos':Pos}(hN:X.N.Nodup)(hi:X.N[i]?=some x)(hx:Loc X.env.scope x)(he:PE X e te)(hs:swapsWith e (some (.Name x pos')) pos.line X.env=pure false:=by rfl)(hf:X.fn x=true\/X.env.scope.names.lookup x=some .local:=by first|exact .inl rfl|exact .inr rfl|assumption) :
  PS X (.Assign [.Name x pos'] e pos) (tAsg te (gName i)):=by
 walk_at"B";refine wpAny_Assign_Name (thn (he pins s U H _ I h) λv s1 hzq=>?_) hs;let⟨y,H1,I1,r1,q1⟩:=hzq;exact Zno I1 hN hi hx r1 (λs2 I2=>⟨_,H1,I2,q1⟩) hf
end
section
variable{X:Cx}{pos:Pos}
def tWhile(c:TT)(tb:TS):TS:=λD U H=>∃W:Nat->St->Hp->Prop,(∃m,W m U H)/\∀m U H,W m U H->
 c U H λb H1=>if b=true then ∃N:St->Hp->Prop,(∀U' H',N U' H'->∃m',m'<m/\W m' U' H')/\tb {D with nx:=N,ct:=N,bk:=D.nx} U H1 else D.nx U H1
def ZjA{c:Xi}{body:List Stmt}{tc:TT}{tb:TS}(hp:PassesOwn (model X.prog X.w) X.A X.env X.xe)(hc:PT X c tc)(hb:PSs X body tb):PS X (.While c body [] pos) (tWhile tc tb):=by
 walk_at"B";let⟨W,⟨m0,w0⟩,turn⟩:=h;refine wpAny_While (codeAny_whileLoop (λn s'=>∃U' H',Inv X pins U' H' s'/\W n U' H') ?_ m0 ⟨U,H,I,w0⟩);rintro n s1 ⟨U1,H1,I1,w1⟩;refine Ya6 hp (thn (hc pins s1 U1 H1 _ I1 (turn n U1 H1 w1)) λb s2 hzq=>?_);let⟨H2,I2,q2⟩:=hzq;cases b with
 |true=>
  let⟨N,hN,q2⟩:=q2;rw[if_pos rfl];refine Ya6 hp (thn (hb pins s2 U1 H2 _ I2 q2) λf s3 q3=>?_);cases f with
  |next=>
   let⟨U3,H3,I3,n3⟩:=q3;let⟨m',hm,w3⟩:=hN U3 H3 n3;exact⟨m',hm,U3,H3,I3,w3⟩
  |cont=>
   let⟨U3,H3,I3,n3⟩:=q3;let⟨m',hm,w3⟩:=hN U3 H3 n3;exact⟨m',hm,U3,H3,I3,w3⟩
  |brk=>exact q3
  |ret v=>exact q3
 |false=>
  rw[if_neg YC];exact Ycv ⟨U1,H2,I2,q2⟩
end
structure It where
 go:Nat->Hp->Prop
 yld:Nat->Hp->V->Hp->Prop
 stop:Nat->Hp->Prop
abbrev Xr:=It->Hp->Prop
def FpOk(X:Cx)(pins:XG)(H:Hp)(b:XB):Prop:=
 H b=none/\b≠X.env.locals/\b∉X.fs/\(b∈X.ex\/X.s₀.heap.objs.size<=b)/\(∀x c,X.env.cells.lookup x=some c->c≠b)/\∀p∈X.pn++pins,p.1≠b
def Inv.fpOk{X:Cx}{pins:XG}{U:St}{H H':Hp}{s:XM}{b:XB}(I:Inv X pins U H s)(hb:s.heap.objs.size<=b)(hn:H' b=none):FpOk X pins H' b:=by
 refine⟨hn,YbK (YS I.lt hb),I.nofs hb,.inr (Yj I.sz hb),λx c e z=>?_,λp hp z=>?_⟩
 .obtain ⟨v,q⟩:=I.cell x c e;exact absurd (YS q.lt (by rw[z];exact hb)) (Ya1 _)
 .exact absurd (YS (YE (I.pin p hp).1) (by rw[z];exact hb)) (Ya1 _)
structure Turn(P:XI)(w:XO)(K:Ydg)(tg:Xi)(J:It)(fp:Xa)(it:XB)(tn:Nat->Heap->Prop):Prop where
 mem:it∈fp
 obj:∀i h,tn i h->∀b∈fp,∃o,h.get? b=some o/\∀v,o.data≠.cell v
 keep:∀i h h',tn i h->(∀b∈fp,∀o,h.get? b=some o->h'.get? b=some o)->tn i h'
 item:∀(X:Cx),X.prog=P->X.w=w->X.K=K->X.calm=true->∀(i:Nat)(pins:XG)(s:XM)(U:St)(H:Hp)(E:XE),Inv X pins U H s->(∀b∈fp,FpOk X pins H b)->tn i s.heap->J.go i H->
  wpAny (model P w) X.A (pyNext (.ref it)) (λr s1=>∃u,r=some u/\wpAny (model P w) X.A (letOwnedTupleGo tg (.ref it) u) (λ_ s2=>∃x H',Inv X pins U H' s2/\RelV x u/\J.yld i H x H'/\tn (i+1) s2.heap/\∀b∈fp,H' b=none) E s1) E s
 done:∀(X:Cx),X.prog=P->X.w=w->X.K=K->X.calm=true->∀(i:Nat)(pins:XG)(s:XM)(U:St)(H:Hp)(E:XE),Inv X pins U H s->(∀b∈fp,FpOk X pins H b)->tn i s.heap->J.stop i H->
  wpAny (model P w) X.A (pyNext (.ref it)) (λr s1=>r=none/\Inv X pins U H s1) E s
 self:∀(A:XY)(i:Nat)(s:XM)(Q:XE)(E:XE),tn i s.heap->Q (.ref it) s->wpAny (model P w) A (pyIter (.ref it)) Q E s
abbrev TI:=St->Hp->(It->Hp->Prop)->Prop
def PIE(X:Cx)(pins:XG)(U:St)(tg:Xi)(R:Xr)(itv:XR)(s2:XM):Prop:=
 ∃(it:XB)(fp:Xa)(tn:Nat->Heap->Prop)(J:It)(H':Hp),itv=.ref it/\Inv X pins U H' s2/\Turn X.prog X.w X.K tg J fp it tn/\tn 0 s2.heap/\(∀b∈fp,FpOk X pins H' b)/\R J H'
def PI(X:Cx)(tg iter:Xi)(wi:TI):Prop:=
 ∀(pins:XG)(s:XM)(U:St)(H:Hp)(R:Xr),Inv X pins U H s->wi U H R->
  wpAny (model X.prog X.w) X.A (eval iter X.env) (λv s1=>wpAny (model X.prog X.w) X.A (pyIter v) (PIE X pins U tg R) X.xe s1) X.xe s
def Zpw{M:Model}{A:XY}{E:XE}{s:XM}{tg:Xi}{it:XB}{u:XR}{o:Obj}{n:String}{vs:Xc}{Q:Unit->Shared->Prop}(ho:s.heap.get? it=some o)(hc:o.cls=.type n)(hd:o.data=.fields vs)(hn:["enumerate","zip","dict_itemiterator","dict_reverseitemiterator","odict_iterator","itertools.zip_longest","itertools.pairwise"].contains n=false)(hQ:Q ⟨⟩ s):wpAny M A (letOwnedTupleGo tg (.ref it) u) Q E s:=by
 unfold letOwnedTupleGo
 cases tg<;>first
  |exact Yp hQ
  |(cases u<;>first
   |exact Yp hQ
   |(refine Yg (wpAny_load ho ?_)
     rw[hc,hd];show wpAny M A (if(["enumerate","zip","dict_itemiterator","dict_reverseitemiterator","odict_iterator","itertools.zip_longest","itertools.pairwise"].contains n&&vs[0]?==some (rawInt _))=true then _ else _) Q E s;rw[if_neg (by intro h;rw[hn,YaN]at h;cases h)];exact Yp hQ))
noncomputable def Itl(K:Ydg)(a:XB):It:=
 ⟨λi H=>∃xs x,SqL K H a xs/\xs[i]?=some x,λi H x H'=>H'=H/\∀xs,SqL K H a xs->xs[i]?=some x,λi H=>∃xs,SqL K H a xs/\xs.length<=i⟩
noncomputable def Itt(K:Ydg)(a:XB):It:=
 ⟨λi H=>∃xs x,SqT K H a xs/\xs[i]?=some x,λi H x H'=>H'=H/\∀xs,SqT K H a xs->xs[i]?=some x,λi H=>∃xs,SqT K H a xs/\xs.length<=i⟩
noncomputable def Itr(lo:Int)(n:Nat):It:=⟨λi _=>i<n,λi H x H'=>H'=H/\x=.int (lo+i),λi _=>n<=i⟩
def Zpx{P:XI}{w:XO}{K:Ydg}{tg:Xi}(a it:XB):Turn P w K tg (Itl K a) [it] it (λi h=>h.IsListIter it a i) where
 mem:=by simp
 obj:=λi h st b hb=>by
  have e:b=it:=by simpa using hb
  subst e;let⟨o,e,c,d⟩:=st;exact⟨o,e,λv z=>by rw[d]at z;cases z⟩
 keep:=λi h h' st k=>st.at λo e=>k it (by simp) o e
 item:=by
  intro X hP hw hK hc i pins s U H E I hf st hg;subst hP hw hK;let⟨xs,x,hq,hx⟩:=hg;let⟨its,rv,p,hz⟩:=I.list hq;let⟨u,hu,ru⟩:=rv.get hx;let⟨f0,f1,f2,f3,f4,f5⟩:=hf it (by simp);refine wpAny_pyNext_list_item st p.isList (x:=u) (by simpa using hu) λh' st' sb=>?_;have I1:Inv X pins U H {s with heap:=h'}:=I.turned (t':=s.toks) (λb o hb e=>(sb.2 b hb).trans e) f0 f1 f3 f4 f5;let⟨o,e,c,d⟩:=id st';exact⟨u,rfl,Zpw (s:={s with heap:=h'}) e c d nofun ⟨x,H,I1,ru,⟨rfl,λys hy=>by rw[I.list_inj hy hq];exact hx⟩,st',λb hb=>(hf b hb).1⟩⟩
 done:=by
  intro X hP hw hK hc i pins s U H E I hf st hg;subst hP hw hK;let⟨xs,hq,hx⟩:=hg;let⟨its,rv,p,hz⟩:=I.list hq;let⟨f0,f1,f2,f3,f4,f5⟩:=hf it (by simp);have hl:=rv.length;exact wpAny_pyNext_list_end (I.ok.hd hc) st p.isList (by simp;omega) λh' eb=>⟨rfl,I.turned (t':=s.toks) (λb o hb e=>eb b o hb e) f0 f1 f3 f4 f5⟩
 self:=λ_ _ _ _ _ st h=>wpAny_pyIter_listiter st h
def Zou{P:XI}{w:XO}{K:Ydg}{tg:Xi}(a it:XB):Turn P w K tg (Itt K a) [it] it (λi h=>h.IsTupleIter it a i) where
 mem:=by simp
 obj:=λi h st b hb=>by
  have e:b=it:=by simpa using hb
  subst e;let⟨o,e,c,d⟩:=st;exact⟨o,e,λv z=>by rw[d]at z;cases z⟩
 keep:=λi h h' st k=>st.at λo e=>k it (by simp) o e
 item:=by
  intro X hP hw hK hc i pins s U H E I hf st hg;subst hP hw hK;let⟨xs,x,hq,hx⟩:=hg;let⟨its,rv,p,hz⟩:=I.tuple hq;let⟨u,hu,ru⟩:=rv.get hx;let⟨f0,f1,f2,f3,f4,f5⟩:=hf it (by simp);refine wpAny_pyNext_tuple_item st (show s.heap.IsTuple a its.toArray from p) (x:=u) (by simpa using hu) λh' st' sb=>?_;have I1:Inv X pins U H {s with heap:=h'}:=I.turned (t':=s.toks) (λb o hb e=>(sb.2 b hb).trans e) f0 f1 f3 f4 f5;let⟨o,e,c,d⟩:=id st';exact⟨u,rfl,Zpw (s:={s with heap:=h'}) e c d nofun ⟨x,H,I1,ru,⟨rfl,λys hy=>by rw[I.tuple_inj hy hq];exact hx⟩,st',λb hb=>(hf b hb).1⟩⟩
 done:=by
  intro X hP hw hK hc i pins s U H E I hf st hg;subst hP hw hK;let⟨xs,hq,hx⟩:=hg;let⟨its,rv,p,hz⟩:=I.tuple hq;let⟨f0,f1,f2,f3,f4,f5⟩:=hf it (by simp);have hl:=rv.length;exact wpAny_pyNext_tuple_end (I.ok.hd hc) st (show s.heap.IsTuple a its.toArray from p) (by simp;omega) λh' eb=>⟨rfl,I.turned (t':=s.toks) (λb o hb e=>eb b o hb e) f0 f1 f3 f4 f5⟩
 self:=λ_ _ _ _ _ st h=>wpAny_pyIter_tupleiter st h
def Zov{P:XI}{w:XO}{K:Ydg}{tg:Xi}(it:XB)(lo:Int)(n:Nat):Turn P w K tg (Itr lo n) [it] it (λi h=>IsRangeIter h it (lo+(i:Nat)*1) ((n:Int)-(i:Nat)) 1) where
 mem:=by simp
 obj:=λi h st b hb=>by
  have e:b=it:=by simpa using hb
  subst e
  exact⟨_,st,λv z=>by
   have z':Data.fields _=Data.cell v:=z;cases z'⟩
 keep:=λi h h' st k=>k it (by simp) _ st
 item:=by
  intro X hP hw hK hc i pins s U H E I hf st hg;subst hP hw hK;let⟨f0,f1,f2,f3,f4,f5⟩:=hf it (by simp);have W:=Walks.range (prog:=X.prog) (w:=X.w) (I.ok.hd hc) it lo 1 n;refine W.item i s _ _ hg st λv h' tk hv st' kk=>?_;let⟨t,rfl⟩:=hv;have I1:Inv X pins U H {s with heap:=h',toks:=tk}:=I.turned (λb o hb e=>kk b o (by simpa using hb) e) f0 f1 f3 f4 f5;refine⟨_,rfl,Zpw (s:={s with heap:=h',toks:=tk}) (n:="range_iterator") st' rfl rfl nofun ⟨.int (lo+i),H,I1,⟨t,?_⟩,⟨rfl,rfl⟩,st',λb hb=>(hf b hb).1⟩⟩;rw[Int.mul_one]
 done:=by
  intro X hP hw hK hc i pins s U H E I hf st hg;subst hP hw hK;let⟨f0,f1,f2,f3,f4,f5⟩:=hf it (by simp);exact wpAny_pyNext_range_end (I.ok.hd hc) st (by have:n<=i:=hg;omega) λh' eb=>⟨rfl,I.turned (t':=s.toks) (λb o hb e=>eb b o hb e) f0 f1 f3 f4 f5⟩
 self:=λ_ _ _ _ _ st h=>wpAny_pyIter_rangeiter st h
section
variable{X:Cx}{tg:Xi}
def iList(K:Ydg)(tl:TE):TI:=λU H R=>tl U H λx H1=>∃a,x=.ref a/\(∃xs,SqL K H1 a xs)/\R (Itl K a) H1
def iTup(K:Ydg)(tl:TE):TI:=λU H R=>tl U H λx H1=>∃a,x=.ref a/\(∃xs,SqT K H1 a xs)/\R (Itt K a) H1
def Zbc{l:Xi}{tl:TE}(hl:PE X l tl):PI X tg l (iList X.K tl):=by
 intro pins s U H R I h;refine thn (hl pins s U H _ I h) λv s1 ⟨x,H1,I1,r1,q1⟩=>?_;let⟨a,e,⟨xs,hq⟩,q⟩:=q1;subst e;cases r1;let⟨its,rv,p,hz⟩:=I1.list hq;refine Yc2 p.isList ?_;refine⟨s1.heap.objs.size,[s1.heap.objs.size],_,_,H1,rfl,I1.kept (t':=s1.toks) λb o e=>Yl _ e,Zpx a _,⟨_,YJ _ rfl,rfl,rfl⟩,λb hb=>?_,q⟩;have e:b=s1.heap.objs.size:=by simpa using hb
 subst e;exact I1.fpOk (Yk _) (I1.hok.fresh (Yk _))
def Zuc{l:Xi}{tl:TE}(hl:PE X l tl):PI X tg l (iTup X.K tl):=by
 intro pins s U H R I h;refine thn (hl pins s U H _ I h) λv s1 ⟨x,H1,I1,r1,q1⟩=>?_;let⟨a,e,⟨xs,hq⟩,q⟩:=q1;subst e;cases r1;let⟨its,rv,p,hz⟩:=I1.tuple hq;refine wpAny_pyIter_tuple (show s1.heap.IsTuple a its.toArray from p) ?_;refine⟨s1.heap.objs.size,[s1.heap.objs.size],_,_,H1,rfl,I1.kept (t':=s1.toks) λb o e=>Yl _ e,Zou a _,⟨_,YJ _ rfl,rfl,rfl⟩,λb hb=>?_,q⟩;have e:b=s1.heap.objs.size:=by simpa using hb
 subst e;exact I1.fpOk (Yk _) (I1.hok.fresh (Yk _))
def Znq{pins:XG}{U:St}{H:Hp}{s:XM}{R:Xr}{E:XE}{lo hi:Int}{t u v:Tok}{tk:Nat}(I:Inv X pins U H s)(h1:-(2^62)<=lo)(h2:lo<2^62)(h3:-(2^62)<=hi)(h4:hi<2^62)(q:R (Itr lo (hi-lo).toNat) H):wpAny (model X.prog X.w) X.A (pyIter (.ref s.heap.objs.size)) (PIE X pins U tg R) E {s with heap:=s.heap.push {cls:=.type "range",data:=.fields #[.int lo t,.int hi u,.int 1 v]},toks:=tk}:=by
 refine wpAny_pyIter_range (IsRange.new ..) (small_one h1 h2 h3 h4) ?_;have I1:Inv X pins U H {s with heap:=s.heap.push {cls:=.type "range",data:=.fields #[.int lo t,.int hi u,.int 1 v]},toks:=tk}:=I.kept λb o e=>Yl _ e;refine⟨(s.heap.push {cls:=.type "range",data:=.fields #[.int lo t,.int hi u,.int 1 v]}).objs.size,[(s.heap.push {cls:=.type "range",data:=.fields #[.int lo t,.int hi u,.int 1 v]}).objs.size],_,_,H,rfl,I1.kept (t':=tk) λb o e=>Yl _ e,Zov _ lo (hi-lo).toNat,?_,λb hb=>?_,q⟩
 .have e1:lo+((0:Nat):Int)*1=lo:=by simp
  have e2:(((hi-lo).toNat:Nat):Int)-((0:Nat):Int)=Builtin.Range.rangeSize lo hi 1:=by rw[rangeSize_one];split<;>omega
  show IsRangeIter _ _ (lo+((0:Nat):Int)*1) ((((hi-lo).toNat:Nat):Int)-((0:Nat):Int)) 1;rw[e1,e2];exact YJ _ rfl
 .have e:b=(s.heap.push {cls:=.type "range",data:=.fields #[.int lo t,.int hi u,.int 1 v]}).objs.size:=by simpa using hb
  subst e;exact I1.fpOk (Yk _) (I1.hok.fresh (Yk _))
def iRng1(ta:TA):TI:=λU H R=>ta U H λvs H1=>∃j:Int,vs=[.int j]/\-(2^62)<=j/\j<2^62/\R (Itr 0 j.toNat) H1
def iRng2(ta:TA):TI:=λU H R=>ta U H λvs H1=>∃i j:Int,vs=[.int i,.int j]/\(-(2^62)<=i/\i<2^62/\-(2^62)<=j/\j<2^62)/\R (Itr i (j-i).toNat) H1
def ZcM{a:Xi}{ta:TA}{p pos:Pos}(hg:Gl X "range")(hm:X.mg "range"=none)(ha:PA X [a] ta)(hs:starEach [a] X.env=[(false,eval a X.env)]:=by rfl):PI X tg (.Call (.Name "range" p) [a] [] pos) (iRng1 ta):=by
 intro pins s U H R I h;refine Call_ (Zf3 I hg hm boot_range (Yai (thn (ha pos pins s U H _ I h) λus s1 hzq=>?_) hs rfl));let⟨vs,H1,I1,r1,q1⟩:=hzq;let⟨j,e,q1,q2,q⟩:=q1;subst e;cases r1 with
 |cons r rr=>
  cases rr;let⟨t,rfl⟩:=r;exact call_range_1 (Znq I1 () () q1 q2 (by simpa using q))
def Zpy{a b:Xi}{ta:TA}{p pos:Pos}(hg:Gl X "range")(hm:X.mg "range"=none)(ha:PA X [a,b] ta)(hs:starEach [a,b] X.env=[(false,eval a X.env),(false,eval b X.env)]:=by rfl)(hs2:starEach [b] X.env=[(false,eval b X.env)]:=by rfl) :
  PI X tg (.Call (.Name "range" p) [a,b] [] pos) (iRng2 ta):=by
 intro pins s U H R I h;refine Call_ (Zf3 I hg hm boot_range (Yai (thn (ha pos pins s U H _ I h) λus s1 hzq=>?_) (by rw[hs,hs2]) (by rw[hs2];rfl)));let⟨vs,H1,I1,r1,q1⟩:=hzq;let⟨i,j,e,⟨q1,q2,q3,q4⟩,q⟩:=q1;subst e;cases r1 with
 |cons r rr=>
  cases rr with
  |cons r' rr=>
   cases rr;let⟨t,rfl⟩:=r;let⟨t',rfl⟩:=r';exact call_range_2 (Znq I1 q1 q2 q3 q4 q)
def tFor(wi:TI)(g:TG)(tb:TS):TS:=λD U H=>wi U H λJ H1=>∃W:Nat->Nat->St->Hp->Prop,(∃m,W 0 m U H1)/\∀i m U H,W i m U H->
 (J.stop i H/\D.nx U H)\/(J.go i H/\∃N:St->Hp->Prop,(∀U' H',N U' H'->∃m',m'<m/\W (i+1) m' U' H')/\∀x H',J.yld i H x H'->g x U H' λU2 H2=>tb {D with nx:=N,ct:=N,bk:=D.nx} U2 H2)
noncomputable def pinsAt(fp:Xa)(h:XT):List (Addr×Obj):=fp.filterMap λb=>(h.get? b).map λo=>(b,o)
def ZdR{fp:Xa}{h:XT}{b:XB}{o:Obj}(hb:b∈fp)(e:h.get? b=some o):(b,o)∈pinsAt fp h:=YbL.mpr ⟨b,hb,by rw[e];rfl⟩
def Zpz{fp:Xa}{h:XT}{p:Addr×Obj}(hp:p∈pinsAt fp h):p.1∈fp/\h.get? p.1=some p.2:=by
 let⟨b,hb,e⟩:=YbL.mp hp;cases q:h.get? b with
 |none=>rw[q]at e;cases e
 |some o=>
  rw[q]at e;have e':(b,o)=p:=Y2 e;subst e';exact⟨hb,q⟩
def Inv.pinned{pins:XG}{U:St}{H:Hp}{s:XM}{fp:Xa}(I:Inv X pins U H s)(hf:∀b∈fp,FpOk X pins H b)(ho:∀b∈fp,∃o,s.heap.get? b=some o/\∀v,o.data≠.cell v):Inv X (pins++pinsAt fp s.heap) U H s:=
 I.pins_of λp hp=>(Yw.mp hp).elim (λz=>I.pin p (Y5 _ z)) λz=>by
  let⟨hb,e⟩:=Zpz z;let⟨f0,f1,f2,_⟩:=hf p.1 hb;let⟨o,e',d⟩:=ho p.1 hb;rw[e]at e';cases e';exact⟨e,f0,f1,f2,d⟩
def Inv.unpinned{pins pl:XG}{U:St}{H:Hp}{s:XM}(I:Inv X (pins++pl) U H s):Inv X pins U H s:=I.pins_of λp hp=>I.pin p (Y5 _ (Ycm _ hp))
def ZbQ{iter:Xi}{body:List Stmt}{wi:TI}{g:TG}{tb:TS}{pos:Pos}(hp:PassesOwn (model X.prog X.w) X.A X.env X.xe)(hc:X.calm=true)(hi:PI X tg iter wi)(hg:PG X tg g)(hb:PSs X body tb)(hs:∀x,foldedSetIterable iter X.env x=pure x:=by intro _;rfl):PS X (.For tg iter body [] pos) (tFor wi g tb):=by
 walk_at"B";refine wpAny_For (thn (hi pins s U H _ I h) λv s1 h1=>thn h1 λitv s2 h2=>?_) hs;let⟨it,fp,tn,J,H2,e,I2,T,st2,f2,W,⟨m0,w0⟩,turn⟩:=h2;subst e;have stat:∀{H':Hp},(∀b∈fp,H' b=none)->∀b∈fp,FpOk X pins H' b:=λhn b hb=>⟨hn b hb,(f2 b hb).2⟩;refine codeAny_forLoop_any (λn s'=>∃i U' H',Inv X pins U' H' s'/\tn i s'.heap/\(∀b∈fp,H' b=none)/\W i n U' H') ?_ m0 ⟨0,U,H2,I2,st2,λb hb=>(f2 b hb).1,w0⟩;rintro n s3 ⟨i,U3,H3,I3,st3,fr3,w3⟩;rcases turn i n U3 H3 w3 with⟨stop,qn⟩|⟨go,N,hN,step⟩
 .refine Ya6 hp (thn (T.done X rfl rfl rfl hc i pins s3 U3 H3 X.xe I3 (stat fr3) st3 stop) λr s4 hzq=>?_);let⟨hr,I4⟩:=hzq;subst hr;exact Ycv ⟨U3,H3,I4,qn⟩
 .refine Ya6 hp (thn (T.item X rfl rfl rfl hc i pins s3 U3 H3 X.xe I3 (stat fr3) st3 go) λr s4 hzq=>?_);let⟨u,hr,h4⟩:=hzq;subst hr;refine Ya6 hp (thn h4 λ_ s5 hzq=>?_);let⟨x,H5,I5,r5,y5,st5,fr5⟩:=hzq;have I5':=I5.pinned (stat fr5) (T.obj _ _ st5);refine Ya6 hp (thn (hg _ s5 U3 H5 x u _ I5' r5 (step x H5 y5)) λ_ s6 hzq=>?_);let⟨U6,H6,I6,q6⟩:=hzq;refine Ya6 hp (thn (hb _ s6 U6 H6 _ I6 q6) λf s7 q7=>?_);have again:∀{U7:St}{H7:Hp},Inv X (pins++pinsAt fp s5.heap) U7 H7 s7->N U7 H7->∃m,m<n/\∃i U' H',Inv X pins U' H' s7/\tn i s7.heap/\(∀b∈fp,H' b=none)/\W i m U' H':=λ{U7 H7} I7 n7=>by
   let⟨m',hm,w7⟩:=hN U7 H7 n7;refine⟨m',hm,i+1,U7,H7,I7.unpinned,T.keep _ _ _ st5 λb hb o e=>(I7.pin (b,o) (Y5 _ (Y5 _ (ZdR hb e)))).1,λb hb=>?_,w7⟩;let⟨o,e,d⟩:=T.obj _ _ st5 b hb;exact(I7.pin (b,o) (Y5 _ (Y5 _ (ZdR hb e)))).2.1
  cases f with
  |next=>let⟨U7,H7,I7,n7⟩:=q7;exact again I7 n7
  |cont=>let⟨U7,H7,I7,n7⟩:=q7;exact again I7 n7
  |brk=>let⟨U7,H7,I7,q7⟩:=q7;exact⟨U7,H7,I7.unpinned,q7⟩
  |ret v=>let⟨x7,U7,H7,I7,r7,q7⟩:=q7;exact⟨x7,U7,H7,I7.unpinned,r7,q7⟩
end
def ZbF{K:Ydg}{a:XB}{xs:XF}{g:TG}{tb:TS}{D:Ends}{U:St}{H:Hp}(Pv:Nat->St->Hp->Prop)(h0:Pv 0 U H)(hl:∀i U H,i<=xs.length->Pv i U H->SqL K H a xs)(hs:∀i x U H,xs[i]?=some x->Pv i U H->g x U H λU2 H2=>tb {D with nx:=Pv (i+1),ct:=Pv (i+1),bk:=D.nx} U2 H2)(hd:∀U H,Pv xs.length U H->D.nx U H) :
  ∃W:Nat->Nat->St->Hp->Prop,(∃m,W 0 m U H)/\∀i m U H,W i m U H->
   ((Itl K a).stop i H/\D.nx U H)\/((Itl K a).go i H/\∃N:St->Hp->Prop,(∀U' H',N U' H'->∃m',m'<m/\W (i+1) m' U' H')/\∀x H',(Itl K a).yld i H x H'->g x U H' λU2 H2=>tb {D with nx:=N,ct:=N,bk:=D.nx} U2 H2):=by
 refine⟨λi m U H=>m=xs.length-i/\i<=xs.length/\Pv i U H,⟨xs.length,by simp,YO _,h0⟩,?_⟩;rintro i m U H ⟨rfl,hi,p⟩;have q:=hl i U H hi p;by_cases hlt:i<xs.length
 .refine .inr ⟨⟨xs,xs[i],q,by simp[hlt]⟩,Pv (i+1),λU' H' p'=>⟨xs.length-(i+1),Nat.sub_lt_sub_left hlt (Nat.lt_succ_self i),rfl,hlt,p'⟩,λx H' y=>?_⟩;let⟨e,y⟩:=y;subst e;exact hs i x U _ (y xs q) p
 .have e:i=xs.length:=();subst e;exact .inl ⟨⟨xs,q,Yk _⟩,hd U H p⟩
def Zdk{lo:Int}{n:Nat}{g:TG}{tb:TS}{D:Ends}{U:St}{H:Hp}(Pv:Nat->St->Hp->Prop)(h0:Pv 0 U H)(hs:∀i U H,i<n->Pv i U H->g (.int (lo+i)) U H λU2 H2=>tb {D with nx:=Pv (i+1),ct:=Pv (i+1),bk:=D.nx} U2 H2)(hd:∀U H,Pv n U H->D.nx U H) :
  ∃W:Nat->Nat->St->Hp->Prop,(∃m,W 0 m U H)/\∀i m U H,W i m U H->
   ((Itr lo n).stop i H/\D.nx U H)\/((Itr lo n).go i H/\∃N:St->Hp->Prop,(∀U' H',N U' H'->∃m',m'<m/\W (i+1) m' U' H')/\∀x H',(Itr lo n).yld i H x H'->g x U H' λU2 H2=>tb {D with nx:=N,ct:=N,bk:=D.nx} U2 H2):=by
 refine⟨λi m U H=>m=n-i/\i<=n/\Pv i U H,⟨n,by simp,YO _,h0⟩,?_⟩;rintro i m U H ⟨rfl,hi,p⟩;by_cases hlt:i<n
 .refine .inr ⟨hlt,Pv (i+1),λU' H' p'=>⟨n-(i+1),Nat.sub_lt_sub_left hlt (Nat.lt_succ_self i),rfl,hlt,p'⟩,λx H' y=>?_⟩;let⟨e,y⟩:=y;subst e y;exact hs i U _ hlt p
 .have e:i=n:=();subst e;exact .inl ⟨Yk _,hd U H p⟩
abbrev R2:=V->V->Hp->VK->Prop
def OpR(X:Cx)(f:Value->Value->Sem Value)(r:R2):Prop:=
 ∀(pins:XG)(s:XM)(U:St)(H:Hp)(x y:V)(v u:XR)(Q:VK),Inv X pins U H s->RelV x v->RelV y u->r x y H Q->
  wpAny (model X.prog X.w) X.A (f v u) (EP X pins U Q) X.xe s
def UnR(X:Cx)(f:Value->Sem Value)(r:V->Hp->VK->Prop):Prop:=
 ∀(pins:XG)(s:XM)(U:St)(H:Hp)(x:V)(v:XR)(Q:VK),Inv X pins U H s->RelV x v->r x H Q->
  wpAny (model X.prog X.w) X.A (f v) (EP X pins U Q) X.xe s
def CallR(X:Cx)(f:XR)(r:List V->Hp->VK->Prop):Prop:=
 ∀(pins:XG)(s:XM)(U:St)(H:Hp)(xs:XF)(us:XH)(Q:VK),Inv X pins U H s->Vals xs us->r xs H Q->
  wpAny (model X.prog X.w) X.A (call f us) (EP X pins U Q) X.xe s
def tOp(r:R2)(ta tb:TE):TE:=λU H Q=>ta U H λx H1=>tb U H1 λy H2=>r x y H2 Q
def tUn(r:V->Hp->VK->Prop)(ta:TE):TE:=λU H Q=>ta U H λx H1=>r x H1 Q
def rI(C:Int->Int->Prop)(g:Int->Int->V):R2:=λx y H Q=>∃i j,x=.int i/\y=.int j/\C i j/\Q (g i j) H
def rI0(g:Int->Int->V):R2:=λx y H Q=>∃i j,x=.int i/\y=.int j/\Q (g i j) H
def rU(g:Int->V):V->Hp->VK->Prop:=λx H Q=>∃i,x=.int i/\Q (g i) H
section
variable{X:Cx}{a b c:Xi}{ta tb tc:TE}{pos:Pos}
def binT(ha:PE X a ta)(hb:PE X b tb){pins:XG}{s:XM}{U:St}{H:Hp}{R:V->V->Hp->Prop}(I:Inv X pins U H s)(h:ta U H λx H1=>tb U H1 λy H2=>R x y H2){Q:XE}{f:Value->Value->Sem Value}(hf:∀v u s2 x y H2,Inv X pins U H2 s2->RelV x v->RelV y u->R x y H2->wpAny (model X.prog X.w) X.A (f v u) Q X.xe s2) :
  wpAny (model X.prog X.w) X.A (eval a X.env) (λv s₁=>wpAny (model X.prog X.w) X.A (eval b X.env) (λu s₂=>wpAny (model X.prog X.w) X.A (f v u) Q X.xe s₂) X.xe s₁) X.xe s:=by
 refine thn (ha pins s U H _ I h) λv s1 ⟨x,H1,I1,r1,q1⟩=>?_;refine thn (hb pins s1 U H1 _ I1 q1) λu s2 ⟨y,H2,I2,r2,q2⟩=>?_;exact hf v u s2 x y H2 I2 r1 r2 q2
def Zaw{op:Operator}{r:R2}(ho:OpR X (binaryOp op) r)(ha:PE X a ta)(hb:PE X b tb):PE X (.BinOp a op b pos) (tOp r ta tb):=by
 walk_at"I";exact wpAny_BinOp (binT ha hb I h λv u s2 x y H2 I2 rx ry q=>ho pins s2 U H2 x y v u Q I2 rx ry q)
def ZfB{op:UnaryOp}{r:V->Hp->VK->Prop}(ho:UnR X (unaryOp op) r)(ha:PE X a ta):PE X (.UnaryOp op a pos) (tUn r ta):=by
 walk_at"I";exact UnaryOp_ (thn (ha pins s U H _ I h) λv s1 ⟨x,H1,I1,r1,q1⟩=>ho pins s1 U H1 x v Q I1 r1 q1)
def opI{f:Value->Value->Sem Value}{C:Int->Int->Prop}{g:Int->Int->Int}(rule:∀(i j:Int)(t u:Tok)(s:XM)(Q:XE)(E:XE),C i j->Q (.int (g i j) s.toks) {s with toks:=s.toks+1}->wpAny (model X.prog X.w) X.A (f (.int i t) (.int j u)) Q E s) :
  OpR X f (rI C λi j=>.int (g i j)):=by
 walk_at"J";let⟨i,j,rfl,rfl,hc,q⟩:=h;let⟨t,rfl⟩:=rx;let⟨t',rfl⟩:=ry;exact rule i j t t' s _ _ hc ⟨.int (g i j),H,I.tok _,⟨_,rfl⟩,q⟩
def opI0{f:Value->Value->Sem Value}{g:Int->Int->Int}(rule:∀(i j:Int)(t u:Tok)(s:XM)(Q:XE)(E:XE),Q (.int (g i j) s.toks) {s with toks:=s.toks+1}->wpAny (model X.prog X.w) X.A (f (.int i t) (.int j u)) Q E s) :
  OpR X f (rI0 λi j=>.int (g i j)):=by
 walk_at"J";let⟨i,j,rfl,rfl,q⟩:=h;let⟨t,rfl⟩:=rx;let⟨t',rfl⟩:=ry;exact rule i j t t' s _ _ ⟨.int (g i j),H,I.tok _,⟨_,rfl⟩,q⟩
def opB0{f:Value->Value->Sem Value}{g:Int->Int->Bool}(rule:∀(i j:Int)(t u:Tok)(s:XM)(Q:XE)(E:XE),Q (.bool (g i j)) s->wpAny (model X.prog X.w) X.A (f (.int i t) (.int j u)) Q E s) :
  OpR X f (rI0 λi j=>.bl (g i j)):=by
 walk_at"J";let⟨i,j,rfl,rfl,q⟩:=h;let⟨t,rfl⟩:=rx;let⟨t',rfl⟩:=ry;exact rule i j t t' s _ _ ⟨.bl (g i j),H,I,rfl,q⟩
def CPow(i j:Int):Prop:=0<=j/\j<=1000000/\i.natAbs<2^64
def CMul(i j:Int):Prop:=(-(2^64)<i/\i<2^64)\/(-(2^64)<j/\j<2^64)
def CMul.ok{i j:Int}(h:CMul i j):IntMulOk i j:=by
 rcases h with⟨h1,h2⟩|⟨h1,h2⟩
 .exact .of_left (intBits_le_64 h1 h2)
 .exact .of_right (intBits_le_64 h1 h2)
def Zow(k:Nat):(0:Int)<=2^k:=by
 rw[two_pow_cast];exact Yak _
def Za0:OpR X (binaryOp .Add) (rI0 λi j=>.int (i+j)):=opI0 λ_ _ _ _ _ _ _ q=>add_int q
def ZeO:OpR X (binaryOp .Sub) (rI0 λi j=>.int (i-j)):=opI0 λ_ _ _ _ _ _ _ q=>sub_int q
def Zda:OpR X (binaryOp .Mult) (rI CMul λi j=>.int (i*j)):=opI λ_ _ _ _ _ _ _ hc q=>mul_int q hc.ok
def ZaR:OpR X (binaryOp .Mod) (rI (λ_ j=>0<j) λi j=>.int (i%j)):=opI λi j _ _ _ _ _ hc q=>by
 have h1:(0:Int)<j:=hc;exact mod_int' () (by rw[Int.fmod_eq_emod_of_nonneg i ()];exact q)
def ZeP:OpR X (binaryOp .Pow) (rI CPow λi j=>.int (i^j.toNat)):=opI λ_ _ _ _ _ _ _ hc q=>pow_int_small hc.1 hc.2.1 hc.2.2 q
def op_shr:OpR X (binaryOp .RShift) (rI (λ_ j=>0<=j) λi j=>.int (i/2^j.toNat)):=opI λi j _ _ _ _ _ hc q=>
 rshift_int hc (by rw[Yc0 i (Zow _)];exact q)
def op_and:OpR X (binaryOp .BitAnd) (rI0 λi j=>.int (Builtin.bitAnd i j)):=opI0 λ_ _ _ _ _ _ _ q=>and_int q
def op_xor:OpR X (binaryOp .BitXor) (rI0 λi j=>.int (Builtin.bitXor i j)):=opI0 λ_ _ _ _ _ _ _ q=>xor_int q
def unI{f:Value->Sem Value}{g:Xf}(rule:∀(i:Int)(t:Tok)(s:XM)(Q:XE)(E:XE),Q (.int (g i) s.toks) {s with toks:=s.toks+1}->wpAny (model X.prog X.w) X.A (f (.int i t)) Q E s) :
  UnR X f (rU λi=>.int (g i)):=by
 intro pins s U H x v Q I rx h;let⟨i,rfl,q⟩:=h;let⟨t,rfl⟩:=rx;exact rule i t s _ _ ⟨.int (g i),H,I.tok _,⟨_,rfl⟩,q⟩
def ZcN:UnR X (unaryOp .USub) (rU λi=>.int (-i)):=unI λ_ _ _ _ _ q=>neg_int q
end
noncomputable def scal:V->V->Bool
 |.non,.non=>true|.non,.int _=>true|.int _,.non=>true|.non,.bl _=>true|.bl _,.non=>true|.non,.str _=>true|.str _,.non=>true
 |.int _,.int _=>true|.bl _,.bl _=>true|.str _,.str _=>true|.byt _,.byt _=>true
 |.int _,.str _=>true|.str _,.int _=>true|.bl _,.str _=>true|.str _,.bl _=>true
 |_,_=>false
def rEq:R2:=λx y H Q=>scal x y=true/\Q (.bl (decide (x=y))) H
def rNe:R2:=λx y H Q=>scal x y=true/\Q (.bl (!decide (x=y))) H
def ZpA{i j:Int}:decide (V.int i=V.int j)=(i==j):=by
 rw[Ybn];simp
def Zud{i j:Bool}:decide (V.bl i=V.bl j)=(i==j):=by
 rw[Ybn];simp
def ZpB{i j:Str}:decide (V.str i=V.str j)=(i==j):=by
 rw[Ybn];simp
def ZpC{i j:Array UInt8}:decide (V.byt i=V.byt j)=(i.toList==j.toList):=by
 rw[Ybn];cases i;cases j;simp
section
variable{X:Cx}{a b c:Xi}{ta tb tc:TE}{pos:Pos}
def Za7{pins:XG}{U:St}{H:Hp}{s:XM}{Q:VK}{k k':Bool}(I:Inv X pins U H s)(q:Q (.bl k) H)(e:k=k'):EP X pins U Q (.bool k') s:=by
 subst e;exact⟨.bl k,H,I,rfl,q⟩
def Zbf:OpR X (compareOp .Eq) rEq:=by
 walk_at"J";let⟨hs,q⟩:=h;cases x with
 |non=>
  cases rx;cases y with
  |non=>cases ry;exact PySem.EqNone.eq_none_none (Za7 I q (by simp))
  |bl j=>cases ry;exact PySem.EqNone.eq_none_bool (Za7 I q (by simp))
  |int j=>let⟨t',rfl⟩:=ry;exact PySem.EqNone.eq_none_int (Za7 I q (by simp))
  |str j=>let⟨t',rfl⟩:=ry;exact PySem.EqNone.eq_none_str (Za7 I q (by simp))
  |_=>exact absurd (show false=true from hs) YC
 |bl i=>
  cases rx;cases y with
  |non=>cases ry;exact PySem.EqNone.eq_bool_none (Za7 I q (by simp))
  |bl j=>cases ry;exact eq_bool (Za7 I q Zud)
  |str j=>let⟨t',rfl⟩:=ry;exact PySem.EqMixed.eq_bool_str (Za7 I q (by simp))
  |_=>exact absurd (show false=true from hs) YC
 |int i=>
  let⟨t,rfl⟩:=rx;cases y with
  |non=>cases ry;exact PySem.EqNone.eq_int_none (Za7 I q (by simp))
  |int j=>let⟨t',rfl⟩:=ry;exact eq_int (Za7 I q ZpA)
  |str j=>let⟨t',rfl⟩:=ry;exact PySem.EqMixed.eq_int_str (Za7 I q (by simp))
  |_=>exact absurd (show false=true from hs) YC
 |str i=>
  let⟨t,rfl⟩:=rx;cases y with
  |non=>cases ry;exact PySem.EqNone.eq_str_none (Za7 I q (by simp))
  |bl j=>cases ry;exact PySem.EqMixed.eq_str_bool (Za7 I q (by simp))
  |int j=>let⟨t',rfl⟩:=ry;exact PySem.EqMixed.eq_str_int (Za7 I q (by simp))
  |str j=>let⟨t',rfl⟩:=ry;exact eq_str (Za7 I q ZpB)
  |_=>exact absurd (show false=true from hs) YC
 |byt i=>
  let⟨t,rfl⟩:=rx;cases y with
  |byt j=>let⟨t',rfl⟩:=ry;exact PySem.W.eq_bytes (Za7 I q ZpC)
  |_=>exact absurd (show false=true from hs) YC
 |_=>cases y<;>exact absurd (show false=true from hs) YC
def ZfC:OpR X (compareOp .NotEq) rNe:=by
 walk_at"J";let⟨hs,q⟩:=h;cases x with
 |non=>
  cases rx;cases y with
  |non=>cases ry;exact PySem.EqNone.ne_none_none (Za7 I q (by simp))
  |bl j=>cases ry;exact PySem.EqNone.ne_none_bool (Za7 I q (by simp))
  |int j=>let⟨t',rfl⟩:=ry;exact PySem.EqNone.ne_none_int (Za7 I q (by simp))
  |str j=>let⟨t',rfl⟩:=ry;exact PySem.EqNone.ne_none_str (Za7 I q (by simp))
  |_=>exact absurd (show false=true from hs) YC
 |bl i=>
  cases rx;cases y with
  |non=>cases ry;exact PySem.EqNone.ne_bool_none (Za7 I q (by simp))
  |bl j=>cases ry;exact ne_bool (Za7 I q (Y3 not Zud))
  |str j=>let⟨t',rfl⟩:=ry;exact PySem.EqMixed.ne_bool_str (Za7 I q (by simp))
  |_=>exact absurd (show false=true from hs) YC
 |int i=>
  let⟨t,rfl⟩:=rx;cases y with
  |non=>cases ry;exact PySem.EqNone.ne_int_none (Za7 I q (by simp))
  |int j=>let⟨t',rfl⟩:=ry;exact ne_int (Za7 I q (Y3 not ZpA))
  |str j=>let⟨t',rfl⟩:=ry;exact PySem.EqMixed.ne_int_str (Za7 I q (by simp))
  |_=>exact absurd (show false=true from hs) YC
 |str i=>
  let⟨t,rfl⟩:=rx;cases y with
  |non=>cases ry;exact PySem.EqNone.ne_str_none (Za7 I q (by simp))
  |bl j=>cases ry;exact PySem.EqMixed.ne_str_bool (Za7 I q (by simp))
  |int j=>let⟨t',rfl⟩:=ry;exact PySem.EqMixed.ne_str_int (Za7 I q (by simp))
  |str j=>let⟨t',rfl⟩:=ry;exact ne_str (Za7 I q (Y3 not ZpB))
  |_=>exact absurd (show false=true from hs) YC
 |byt i=>
  let⟨t,rfl⟩:=rx;cases y with
  |byt j=>let⟨t',rfl⟩:=ry;exact PySem.W.ne_bytes (Za7 I q (Y3 not ZpC))
  |_=>exact absurd (show false=true from hs) YC
 |_=>cases y<;>exact absurd (show false=true from hs) YC
def ZfD:OpR X (compareOp .Lt) (rI0 λi j=>.bl (decide (i<j))):=opB0 λ_ _ _ _ _ _ _ q=>lt_int q
def ZeQ:OpR X (compareOp .LtE) (rI0 λi j=>.bl (decide (i<=j))):=opB0 λ_ _ _ _ _ _ _ q=>le_int q
def ZfE:OpR X (compareOp .Gt) (rI0 λi j=>.bl (decide (j<i))):=opB0 λ_ _ _ _ _ _ _ q=>gt_int q
def Zsa:OpR X (compareOp .GtE) (rI0 λi j=>.bl (decide (j<=i))):=opB0 λ_ _ _ _ _ _ _ q=>ge_int q
def ZpD:OpR X (compareOp .In) (λx y H Q=>∃i j,x=.str i/\y=.str j/\Q (.bl (!(Builtin.Str.occurrences j i 0 j.length 1).isEmpty)) H):=by
 walk_at"J";let⟨i,j,rfl,rfl,q⟩:=h;let⟨t,rfl⟩:=rx;let⟨t',rfl⟩:=ry;exact in_str (Za7 I q rfl)
def op_isN:OpR X (compareOp .Is) (λx y H Q=>y=.non/\Q (.bl (decide (x=.non))) H):=by
 walk_at"J";let⟨rfl,q⟩:=h;cases ry;refine is_none_gen (Za7 I q ?_)
 cases x<;>first
  |(cases rx;rfl)
  |(let⟨t,rfl⟩:=rx;rfl)
def ZuS:OpR X (compareOp .IsNot) (λx y H Q=>y=.non/\Q (.bl (!decide (x=.non))) H):=by
 walk_at"J";let⟨rfl,q⟩:=h;cases ry;refine isnot_none_gen (Za7 I q ?_)
 cases x<;>first
  |(cases rx;rfl)
  |(let⟨t,rfl⟩:=rx;rfl)
def nomark(b:Xi){op:CmpOp}(h:op≠.In:=by decide)(h2:op≠.NotIn:=by decide):behindInMarks op b=false:=by
 have e1:(op==CmpOp.In)=false:=by cases op<;>first|rfl|exact absurd rfl h
 have e2:(op==CmpOp.NotIn)=false:=by cases op<;>first|rfl|exact absurd rfl h2
 cases b<;>simp[behindInMarks,e1,e2]
def ZbB{op:CmpOp}{r:R2}(ho:OpR X (compareOp op) r)(ha:PE X a ta)(hb:PE X b tb)(hm:behindInMarks op b=false:=by exact nomark _):PE X (.Compare a [op] [b] pos) (tOp r ta tb):=by
 walk_at"I";exact wpAny_Compare1 (binT ha hb I h λv u s2 x y H2 I2 rx ry q=>ho pins s2 U H2 x y v u Q I2 rx ry q) hm
def tTest(t:TE):TT:=λU H Q=>t U H λx H'=>∃k,x=.bl k/\Q k H'
def Zas{op:CmpOp}{r:R2}(ho:OpR X (compareOp op) r)(ha:PE X a ta)(hb:PE X b tb)(hm:behindInMarks op b=false:=by exact nomark _):PT X (.Compare a [op] [b] pos) (tTest (tOp r ta tb)):=by
 walk_at"I";refine wpAny_isTrue_Compare1 (thn (ha pins s U H _ I h) λv s1 ⟨x,H1,I1,r1,q1⟩=>thn (hb pins s1 U H1 _ I1 q1) λu s2 ⟨y,H2,I2,r2,q2⟩=>thn (ho pins s2 U H2 x y v u _ I2 r1 r2 q2) λc s3 ⟨z,H3,I3,r3,k,e,q3⟩=>?_) hm;subst e;cases r3;exact Yau ⟨H3,I3,q3⟩
def tChain(r r':R2)(ta tb tc:TE):TE:=λU H Q=>ta U H λx H1=>tb U H1 λy H2=>r x y H2 λz H3=>∃k,z=.bl k/\
 (if k=true then tc U H3 λw' H4=>r' y w' H4 Q else Q (.bl false) H3)
def ZgR{op op':CmpOp}{r r':R2}(ho:OpR X (compareOp op) r)(ho':OpR X (compareOp op') r')(ha:PE X a ta)(hb:PE X b tb)(hc:PE X c tc)(hm:lastMarks [op,op'] [b,c]=false:=by with_unfolding_all rfl):PE X (.Compare a [op,op'] [b,c] pos) (tChain r r' ta tb tc):=by
 walk_at"I";refine Compare_chain (thn (ha pins s U H _ I h) λv s1 ⟨x,H1,I1,r1,q1⟩=>chain_link (thn (hb pins s1 U H1 _ I1 q1) λu s2 ⟨y,H2,I2,r2,q2⟩=>thn (ho pins s2 U H2 x y v u _ I2 r1 r2 q2) λd s3 ⟨z,H3,I3,r3,k,e,q3⟩=>?_)) hm;subst e;cases r3;refine Yau ?_;cases k with
 |false=>exact ite_ff ⟨.bl false,H3,I3,rfl,q3⟩
 |true=>exact ite_tt (chain_last (thn (hc pins s3 U H3 _ I3 q3) λw' s4 ⟨z',H4,I4,r4,q4⟩=>ho' pins s4 U H4 y z' u w' Q I4 r2 r4 q4))
def ZgS{op op':CmpOp}{r r':R2}(ho:OpR X (compareOp op) r)(ho':OpR X (compareOp op') r')(ha:PE X a ta)(hb:PE X b tb)(hc:PE X c tc)(hm:lastMarks [op,op'] [b,c]=false:=by with_unfolding_all rfl):PT X (.Compare a [op,op'] [b,c] pos) (tTest (tChain r r' ta tb tc)):=by
 walk_at"I";refine isTrue_chain (thn (ha pins s U H _ I h) λv s1 ⟨x,H1,I1,r1,q1⟩=>test_link (thn (hb pins s1 U H1 _ I1 q1) λu s2 ⟨y,H2,I2,r2,q2⟩=>thn (ho pins s2 U H2 x y v u _ I2 r1 r2 q2) λd s3 ⟨z,H3,I3,r3,k,e,q3⟩=>?_)) hm;subst e;cases r3;refine Yau ?_;cases k with
 |false=>
  let⟨k',e',q'⟩:=q3;cases e';exact ite_ff ⟨H3,I3,q'⟩
 |true=>
  refine ite_tt (test_last (thn (hc pins s3 U H3 _ I3 q3) λw' s4 ⟨z',H4,I4,r4,q4⟩=>thn (ho' pins s4 U H4 y z' u w' _ I4 r2 r4 q4) λd' s5 hzq=>?_));let⟨z2,H5,I5,r5,k2,e2,q5⟩:=hzq;subst e2;cases r5;exact Yau ⟨H5,I5,q5⟩
def line63:(sizeLine:Nat)<2^63:=by rw[sizeLine_eq];decide
def Zox:OpR X (binaryOp .Add) (λx y H Q=>∃i j,x=.str i/\y=.str j/\i.length+j.length<=sizeLine/\Q (.str (i++j)) H):=by
 walk_at"J";let⟨i,j,rfl,rfl,hz,q⟩:=h;let⟨t,rfl⟩:=rx;let⟨t',rfl⟩:=ry;exact add_str (λt' tk=>⟨.str (i++j),H,I.tok _,⟨_,rfl⟩,q⟩) hz
def vals1{x:V}{us:XH}(r:Vals [x] us):∃u,us=[u]/\RelV x u:=by
 cases r with
 |cons r1 r2=>cases r2;exact⟨_,rfl,r1⟩
def vals2{x y:V}{us:XH}(r:Vals [x,y] us):∃u w',us=[u,w']/\RelV x u/\RelV y w':=by
 cases r with
 |cons r1 r2=>
  cases r2 with
  |cons r3 r4=>cases r4;exact⟨_,_,rfl,r1,r3⟩
def ZpE(hc:X.calm=true):CallR X (.builtin "max") (λxs H Q=>∃i j,xs=[.int i,.int j]/\Q (.int (if j>i then j else i)) H):=by
 walk_at"V";let⟨i,j,rfl,q⟩:=h;let⟨u,w',rfl,⟨t,rfl⟩,⟨t',rfl⟩⟩:=vals2 r;refine max_two_ints (I.ok.hd hc) λh' tk k=>⟨_,H,I.kept k,?_,q⟩;by_cases hj:j>i
 .rw [if_pos hj,if_pos hj];exact⟨_,rfl⟩
 .rw [if_neg hj,if_neg hj];exact⟨_,rfl⟩
def ZpF(hc:X.calm=true):CallR X (.builtin "min") (λxs H Q=>∃i j,xs=[.int i,.int j]/\Q (.int (if j<i then j else i)) H):=by
 walk_at"V";let⟨i,j,rfl,q⟩:=h;let⟨u,w',rfl,⟨t,rfl⟩,⟨t',rfl⟩⟩:=vals2 r;refine min_two_ints (I.ok.hd hc) λh' tk k=>⟨_,H,I.kept k,?_,q⟩;by_cases hj:j<i
 .rw [if_pos hj,if_pos hj];exact⟨_,rfl⟩
 .rw [if_neg hj,if_neg hj];exact⟨_,rfl⟩
def ZkV:CallR X (.type "str") (λxs H Q=>∃i,xs=[.int i]/\i.natAbs.log2<1920/\Q (.str (toString i)) H):=by
 walk_at"V";let⟨i,rfl,hz,q⟩:=h;let⟨u,rfl,t,rfl⟩:=vals1 r;exact PySem.P.str_of_int hz ⟨.str _,H,I.tok _,⟨_,rfl⟩,q⟩
end
structure ObjM(h:XT)(x dx C:XB)(mA:XA):Prop where
 obj:h.get? x=some (PySem.W.instObj C dx)
 ns:h.Ns1 dx mA
 ne:dx≠x
def ZpG{h:XT}{dx:XB}{mA:XA}(n:h.Ns1 dx mA):∃od,h.get? dx=some od/\∀name,PySem.W.lookIn name od=some (mA name):=by
 let⟨o,es,ep,ho,hd,hk,_,hm⟩:=n;refine⟨o,ho,λname=>?_⟩;have e:=hm name;unfold nsFind findBy at e;rw[<- Array.find?_toList]at e;unfold PySem.W.lookIn;rw[hd];dsimp only;split
 .rename_i y q;rw[q]at e;exact Y3 some e
 .rename_i q;rw[q]at e;have a:es.toList.any (·.refKey)=false:=by
   rw[List.any_eq_false];intro y hy;let⟨z,t,hkey⟩:=hk y (Array.mem_toList_iff.mp hy);simp[DictEntry.refKey,hkey]
  have a':¬es.toList.any (·.refKey)=true:=by rw[a];exact YC
  rw[if_neg a'];exact Y3 some e
def ObjM.look{h:XT}{x dx C:XB}{mA:XA}(I:ObjM h x dx C mA):∃od,PySem.W.InstAt h x (PySem.W.instObj C dx) C (some od)/\∀name,PySem.W.lookIn name od=some (mA name):=
 let⟨od,ho,hl⟩:=ZpG I.ns
 ⟨od,⟨I.obj,rfl,rfl,ho⟩,hl⟩
section
variable{prog:XI}{w:XO}{A:XY}{E:XE}{s:XM}{K:Ydg}{x dx C f:XB}{mA:XA}{name:Str}{v:XR}
def ZuT{expr:Bool}{Q:XE}(X:K.In s.heap)(I:ObjM s.heap x dx C mA)(hg:PySem.W.plainGet K C name=true)(hh:PySem.W.hasDictIn K C=true)(ha:PySem.W.findIn K (.ref C) name=some none)(hv:mA name=some v)(hv':PySem.W.handedIn v=true)(h:Q v {s with toks:=s.toks+1}) :
  wpAny (model prog w) A (getAttr (.ref x) name expr) Q E s:=by
 let⟨od,J,hl⟩:=I.look;exact PySem.W.get_value X J (Ycq hg).1 (PySem.W.findObj_own hh ha rfl (by rw[hl,hv])) hv' h
def Zsb{pl:Sem Bool}{Q:Value×List Value->Shared->Prop}(X:K.In s.heap)(I:ObjM s.heap x dx C mA)(hg:PySem.W.plainGet K C name=true)(hf:PySem.W.findIn K (.ref C) name=some (some (.ref f)))(ht:PySem.W.isFn K (.ref f)=true)(hv:mA name=none)(h:Q (.ref f,[.ref x]) s) :
  wpAny (model prog w) A (getMethod (.ref x) name pl) Q E s:=by
 let⟨od,J,hl⟩:=I.look;exact PySem.W.method_fn X J (Ycq hg).1 (Ycq hg).2 hf (Ya0.mp ht) (by show(PySem.W.lookIn name od).map (·.isSome)=some false;rw[hl,hv];rfl) h
def ZuU{ns:XN}{Q:Unit->Shared->Prop}(X:K.In s.heap)(I:ObjM s.heap x dx C mA)(hs:PySem.W.findIn K (.ref C) "__setattr__"=some (some (.builtin "object.__setattr__")))(hp:PySem.W.plainOver K C=true)(ht:PySem.W.takerIn K C name=some none)(hh:PySem.W.hasDictIn K C=true)(hw:PySem.Within mA ns)(hsz:ns.length<=sizeLine)(h:∀h',ObjM h' x dx C (λy=>if y=name then some v else mA y)->Heap.SameBut dx s.heap h'->Q ⟨⟩ {s with heap:=h',toks:=s.toks+2}) :
  wpAny (model prog w) A (setAttr (.ref x) name v) Q E s:=by
 let⟨od,J,hl⟩:=I.look;refine PySem.W.set_plain X J hs (PySem.W.osa_open (s:={s with toks:=s.toks+1}) (r:=none) X J hp ht λb=>?_);let⟨cd,hc,hd'⟩:=PySem.W.any_some hh;have hx:s.heap.get? x=some ⟨.ref C,some dx,.plain,#[]⟩:=I.obj;refine Yg (Yp (Yg (Yg (wpAny_loadPart hx (Yg (PySem.W.Looks.here (s:={s with toks:=s.toks+1}) (PySem.W.looks_clsIn X hc) ?_))))));rw[hd'];refine Yp (a:=some dx) (Yg (Yp (Yg ?_)));refine wpAny_nsSet1 (s:={s with toks:=s.toks+1}) I.ns λh' hn2 hs2=>?_;let⟨oD,esD,epD,hoD,hdD,hcD⟩:=hn2.count (PySem.Within.cons name v hw);refine Yg (wpAny_lookBehind hoD (by rw[hdD];exact pastItsLine_dict (Yj hcD (by rw[Yi];omega))) ?_);exact Yp (h _ ⟨(hs2.2 _ (YR I.ne)).trans I.obj,hn2,I.ne⟩ hs2)
def Zsc{R:Result->Shared->Prop}{vs:XH}{kw:Xj}(X:K.In s.heap)(hm:PySem.W.makesIn K C=true)(hi:PySem.W.findIn K (.ref C) "__init__"=some (some (.ref f)))(hf:PySem.W.typeIn K (.ref f)=some (.type "function"))(h:codeAny (model prog w) (A.under (.builtin "type.__call__" ⟨.ref C::vs,kw⟩)) (.call (.ref f) ⟨.ref (s.heap.objs.size+1)::vs,kw⟩) (PySem.W.InitBack (s.heap.objs.size+1) R) {s with heap:=(s.heap.push PySem.W.emptyDict).push (PySem.W.instObj C s.heap.objs.size)}) :
  codeAny (model prog w) A (.call (.ref C) ⟨vs,kw⟩) R s:=by
 let⟨hh,g,d,t,os⟩:=s;exact PySem.W.make_core (PySem.W.makes_of X hm) (PySem.W.looks_findIn X hi) (λself=>PySem.W.bind_fn X self hf) (.inl rfl) h
end
noncomputable def putF(f:Str)(v:V):List (Str×V)->List (Str×V)
 |[]=>[(f,v)]
 |(g,x)::r=>if g=f then(g,v)::r else(g,x)::putF f v r
theorem Zhd(f g:Str)(v:V):∀fs:List (Str×V),(putF f v fs).lookup g=if g=f then some v else fs.lookup g
 |[]=>by
  show List.lookup g [(f,v)]=_;by_cases h:g=f
  .have hb:(g==f)=true:=Ya0.mpr h;simp only[List.lookup,hb,if_pos h]
  .have hb:(g==f)=false:=Ybb.mpr h;simp only[List.lookup,hb,if_neg h]
 |(k,x)::r=>by
  have ih:=Zhd f g v r;rw[show putF f v ((k,x)::r)=(if k=f then(k,v)::r else(k,x)::putF f v r)from rfl];by_cases hk:k=f
  .rw [if_pos hk];by_cases h:g=k
   .have hb:(g==k)=true:=Ya0.mpr h;simp only[List.lookup,hb,if_pos (h.trans hk)]
   .have hb:(g==k)=false:=Ybb.mpr h;simp only[List.lookup,hb,if_neg (λe:g=f=>h (e.trans hk.symm))]
  .rw [if_neg hk];by_cases h:g=k
   .have hb:(g==k)=true:=Ya0.mpr h;simp only[List.lookup,hb,if_neg (λe:g=f=>hk (h.symm.trans e))]
   .have hb:(g==k)=false:=Ybb.mpr h;simp only[List.lookup,hb];exact ih
theorem Zhe(f:Str)(v:V):∀fs:List (Str×V),f∈(putF f v fs).map (·.1)/\∀g,g∈fs.map (·.1)->g∈(putF f v fs).map (·.1)
 |[]=>⟨by simp[putF],λg h=>by simp at h⟩
 |(k,x)::r=>by
  let⟨i1,i2⟩:=Zhe f v r;rw[show putF f v ((k,x)::r)=(if k=f then(k,v)::r else(k,x)::putF f v r)from rfl];by_cases hk:k=f
  .rw [if_pos hk];subst hk;exact⟨by simp,λg h=>by simpa using h⟩
  .rw [if_neg hk];refine⟨?_,λg h=>?_⟩
   .rw [Yz];exact Yo _ i1
   .rw [Yz]at h |-;rcases Yh.mp h with e|e
    .exact Yh.mpr (.inl e)
    .exact Yo _ (i2 g e)
theorem Zhf(f:Str)(v:V):∀fs:List (Str×V),(putF f v fs).length<=fs.length+1
 |[]=>by simp[putF]
 |(k,x)::r=>by
  have ih:=Zhf f v r;rw[show putF f v ((k,x)::r)=(if k=f then(k,v)::r else(k,x)::putF f v r)from rfl];by_cases hk:k=f
  .rw [if_pos hk,Yi,Yi];omega
  .rw [if_neg hk,Yi,Yi];omega
def RelO.some_of{v:V}{o:Option Value}(r:RelO (some v) o):∃u,o=some u/\RelV v u:=by
 cases o with
 |none=>exact(show False from r).elim
 |some u=>exact⟨u,rfl,r⟩
def RelO.none_of{o:Option Value}(r:RelO none o):o=none:=by
 cases o with
 |none=>rfl
 |some u=>exact(show False from r).elim
def ZpH{v:V}{u:XR}(r:RelV v u):PySem.W.handedIn u=true:=by
 cases v with
 |non=>cases (show u=Value.none from r);rfl
 |bl b=>cases (show u=Value.bool b from r);rfl
 |int i=>let⟨t,e⟩:=(show ∃t,u=Value.int i t from r);cases e;rfl
 |str x=>let⟨t,e⟩:=(show ∃t,u=Value.str x t from r);cases e;rfl
 |byt b=>let⟨t,e⟩:=(show ∃t,u=Value.bytes b t from r);cases e;rfl
 |flt b=>let⟨t,e⟩:=(show ∃t,u=Value.float b t from r);cases e;rfl
 |ref a=>cases (show u=Value.ref a from r);rfl
 |ty n=>cases (show u=Value.type n from r);rfl
section
variable{P:XI}{w:XO}{H H':Hp}{h h':XT}{a C dx:XB}{fs fs':Xl}
def Zml(hok:HOk P w H h)(e:H a=some (.ins C dx fs)):∃mA,ObjM h a dx C mA/\(∀f,RelO (fs.lookup f) (mA f))/\PySem.Within mA (fs.map (·.1))/\fs.length<=1000/\H dx=some (.own a):=by
 let⟨d,z,ne,ob,mA,n,r,q⟩:=(show ObjOk P w H h a (.ins C dx fs)from hok a _ e);exact⟨mA,⟨ob,n,ne⟩,r,q,z,d⟩
end
structure Cls(K:Ydg)(C:XB):Prop where
 pg:PySem.W.plainGet K C Str.empty=true
 hd:PySem.W.hasDictIn K C=true
 po:PySem.W.plainOver K C=true
 sa:PySem.W.findIn K (.ref C) "__setattr__"=some (some (.builtin "object.__setattr__"))
def Cls.get{K:Ydg}{C:XB}(c:Cls K C)(f:Str):PySem.W.plainGet K C f=true:=c.pg
def NoAttr(K:Ydg)(C:XB)(f:Str):Prop:=PySem.W.findIn K (.ref C) f=some none
def NoAttr.taker{K:Ydg}{C:XB}{f:Str}(n:NoAttr K C f):PySem.W.takerIn K C f=some none:=by
 unfold PySem.W.takerIn;rw[show PySem.W.findIn K (.ref C) f=some none from n];rfl
structure Meth(K:Ydg)(C:XB)(m:Str)(f:XB):Prop where
 at_:PySem.W.findIn K (.ref C) m=some (some (.ref f))
 fn:PySem.W.isFn K (.ref f)=true
 kp:PySem.W.keepIn K (.ref f)=true
section
variable{X:Cx}{pins:XG}{U:St}{H:Hp}{s:XM}{a C dx:XB}{fs:Xl}{f:Str}{v:V}{A:XY}{E:XE}
def Zi0{b:Bool}{Q:XE}(I:Inv X pins U H s)(e:H a=some (.ins C dx fs))(c:Cls X.K C)(n:NoAttr X.K C f)(l:fs.lookup f=some v)(h:∀u s',Inv X pins U H s'->RelV v u->Q u s'):wpAny (model X.prog X.w) A (getAttr (.ref a) f b) Q E s:=by
 let⟨mA,O,r,_,_,_⟩:=Zml I.hok e;let⟨u,hu,ru⟩:=RelO.some_of (v:=v) (o:=mA f) (by rw[<- l];exact r f);exact ZuT I.kIn O (c.get f) c.hd n hu (ZpH ru) (h u _ (I.tok _) ru)
def ZcO{m:Str}{g:XB}{pl:Sem Bool}{Q:Value×List Value->Shared->Prop}(I:Inv X pins U H s)(e:H a=some (.ins C dx fs))(c:Cls X.K C)(k:Meth X.K C m g)(l:fs.lookup m=none)(h:Q (.ref g,[.ref a]) s):wpAny (model X.prog X.w) A (getMethod (.ref a) m pl) Q E s:=by
 let⟨mA,O,r,_,_,_⟩:=Zml I.hok e;have hn:mA m=none:=RelO.none_of (by rw[<- l];exact r m);exact Zsb I.kIn O (c.get m) k.at_ k.fn hn h
def Zi1{y:V}{u:XR}{Q:Unit->Shared->Prop}(I:Inv X pins U H s)(e:H a=some (.ins C dx fs))(c:Cls X.K C)(n:NoAttr X.K C f)(hl:fs.length<1000)(ry:RelV y u)(h:∀s',Inv X pins U (upd H a (.ins C dx (putF f y fs))) s'->Q ⟨⟩ s'):wpAny (model X.prog X.w) A (setAttr (.ref a) f u) Q E s:=by
 let⟨mA,O,r,wi,_,ho⟩:=Zml I.hok e;have hz:(fs.map (·.1)).length<=sizeLine:=by rw[Ya,sizeLine_eq];omega
 refine ZuU I.kIn O c.sa c.po n.taker c.hd wi hz λh' O' sb=>h _ ?_;have hd:∃o,h'.get? dx=some o:=let⟨o,_,_,e',_⟩:=O'.ns;⟨o,e'⟩;refine I.write (x:=a) (e:=dx) (by rw[e];exact True.intro) (.inr ho) (λb q hb z=>(sb.2 b hb).trans z) hd ?_;refine⟨by rw[Zaj O.ne];exact ho,?_,O.ne,O'.obj,_,O'.ns,λg=>?_,λg hg=>?_⟩
 .have:=Zhf f y fs;omega
 .show RelO ((putF f y fs).lookup g) (if g=f then some u else mA g);rw[Zhd];by_cases q:g=f
  .rw [if_pos q,if_pos q];exact ry
  .rw [if_neg q,if_neg q];exact r g
 .by_cases q:g=f
  .rw [q];exact(Zhe f y fs).1
  .refine (Zhe f y fs).2 g (wi g λz=>hg ?_);show(if g=f then some u else mA g)=none;rw[if_neg q];exact z
def Inv.made(I:Inv X pins U H s):Inv X pins U (upd (upd H s.heap.objs.size (.own (s.heap.objs.size+1))) (s.heap.objs.size+1) (.ins C s.heap.objs.size []))
  {s with heap:=(s.heap.push PySem.W.emptyDict).push (PySem.W.instObj C s.heap.objs.size)}:=by
 have e1:(s.heap.push PySem.W.emptyDict).get? s.heap.objs.size=some PySem.W.emptyDict:=YJ s.heap rfl;have e2:((s.heap.push PySem.W.emptyDict).push (PySem.W.instObj C s.heap.objs.size)).get? (s.heap.objs.size+1)=some (PySem.W.instObj C s.heap.objs.size):=by
  have:=YJ (s.heap.push PySem.W.emptyDict) (o:=PySem.W.instObj C s.heap.objs.size) rfl;rwa[YbC]at this
 have e3:(s.heap.push PySem.W.emptyDict).Ns s.heap.objs.size (λ_=>none):=⟨PySem.W.emptyDict,#[],_,e1,rfl,(λe he=>absurd he (by simp)),λ_=>rfl⟩;have I1:=I.laid (a:=s.heap.objs.size) (o:=.own (s.heap.objs.size+1)) (h':=s.heap.push PySem.W.emptyDict) (t':=s.toks) (λb u q=>Yl _ q) (Yk _) ⟨_,e1⟩;refine I1.laid (a:=s.heap.objs.size+1) (o:=.ins C s.heap.objs.size []) (t':=s.toks) (λb u q=>Yl _ q) (YcG (YbC _ _)) ?_;have ne:s.heap.objs.size≠s.heap.objs.size+1:=YW (YaC _);refine⟨by rw[Zaj ne,Zad],YO _,ne,e2,λ_=>none,(Heap.Ns1.of_empty e3).at λo q=>Yl _ q,λ_=>True.intro,λy hy=>absurd rfl hy⟩
def ZuV{prog:XI}{w:XO}{env:Env}{e:Xi}{f:Str}{pos:Pos}{s:XM}{Q:XE}(hb:attributeBase e f env (eval e env)=eval e env)(h:wpAny (model prog w) A (eval e env) (λo s₁=>wpAny (model prog w) A (getAttr o f true) Q E s₁) E s):wpAny (model prog w) A (eval (.Attribute e f pos) env) Q E s:=
 Attribute_any_ h (by rw[arm_eval_Attribute,hb])
end
def tFld(K:Ydg)(ta:TE)(f:Str):TE:=λU H Q=>ta U H λx H1=>∃a C dx fs v,x=.ref a/\H1 a=some (.ins C dx fs)/\Cls K C/\NoAttr K C f/\fs.lookup f=some v/\Q v H1
def sFld(K:Ydg)(ta tv:TE)(f:Str):TS:=λD U H=>tv U H λy H1=>ta U H1 λx H2=>∃a C dx fs,x=.ref a/\H2 a=some (.ins C dx fs)/\Cls K C/\NoAttr K C f/\fs.length<1000/\
 D.nx U (upd H2 a (.ins C dx (putF f y fs)))
def InOp(X:Cx)(op:Operator)(rd:V->V->Hp->VK->Prop):Prop:=
 ∀(pins:XG)(s:XM)(U:St)(H:Hp)(x y:V)(u v:XR)(Q:VK),Inv X pins U H s->RelV x u->RelV y v->rd x y H Q->wpAny (model X.prog X.w) X.A (inplaceOp op u v) (EP X pins U Q) X.xe s
def ZpI(K:Ydg)(ta tv:TE)(rd:V->V->Hp->VK->Prop)(f:Str):TS:=λD U H=>ta U H λx H1=>∃a C dx fs v,x=.ref a/\H1 a=some (.ins C dx fs)/\Cls K C/\NoAttr K C f/\fs.lookup f=some v/\
 tv U H1 λy H2=>rd v y H2 λz H3=>∃dx' fs',H3 a=some (.ins C dx' fs')/\fs'.length<1000/\D.nx U (upd H3 a (.ins C dx' (putF f z fs')))
section
variable{X:Cx}{o e value:Xi}{f:Str}{pos pos' tpos:Pos}{ta tv:TE}
def Zap(he:PE X e ta)(hb:attributeBase e f X.env (eval e X.env)=eval e X.env:=by rfl):PE X (.Attribute e f pos) (tFld X.K ta f):=by
 walk_at"I";refine ZuV hb (thn (he pins s U H _ I h) λu s1 hzq=>?_);let⟨x,H1,I1,rx,a,C,dx,fs,v,ex,ea,c,n,l,q⟩:=hzq;subst ex;obtain rfl:u=Value.ref a:=rx;exact Zi0 I1 ea c n l λu' s2 I2 ru=>⟨v,H1,I2,ru,q⟩
def ZaS(ha:PE X o ta)(hv:PE X value tv)(hs:swapsWith value (some (.Attribute o f pos')) pos.line X.env=pure false):PS X (.Assign [.Attribute o f pos'] value pos) (sFld X.K ta tv f):=by
 walk_at"B";refine plainObj_wpAny_Assign_Attribute (thn (hv pins s U H _ I h) λu s1 ⟨y,H1,I1,ry,q⟩=>thn (ha pins s1 U H1 _ I1 q) λov s2 hzq=>?_) hs;let⟨x,H2,I2,rx,a,C,dx,fs,ex,ea,c,n,l,q2⟩:=hzq;subst ex;obtain rfl:ov=Value.ref a:=rx;exact Zi1 I2 ea c n l ry λs3 I3=>⟨U,_,I3,q2⟩
def ZbZ{op:Operator}{rd:V->V->Hp->VK->Prop}(ha:PE X o ta)(hv:PE X value tv)(hop:InOp X op rd):PS X (.AugAssign (.Attribute o f tpos) op value pos) (ZpI X.K ta tv rd f):=by
 walk_at"B";refine wpAny_AugAssign_AttributeAny (thn (ha pins s U H _ I h) λov s1 hzq=>?_);let⟨x,H1,I1,rx,a,C,dx,fs,v,ex,ea,c,n,l,q⟩:=hzq;subst ex;obtain rfl:ov=Value.ref a:=rx;refine Zi0 I1 ea c n l λu s2 I2 ru=>thn (hv pins s2 U H1 _ I2 q) λw3 s3 ⟨y,H2,I3,ry,q3⟩=>thn (hop pins s3 U H2 v y u w3 _ I3 ru ry q3) λw4 s4 ⟨z,H3,I4,rz,dx',fs',ea',l',q4⟩=>?_;exact Zi1 I4 ea' c n l' rz λs5 I5=>⟨U,_,I5,q4⟩
def rAdd:V->V->Hp->VK->Prop:=λx y H Q=>∃i j,x=.int i/\y=.int j/\Q (.int (i+j)) H
def rSub:V->V->Hp->VK->Prop:=λx y H Q=>∃i j,x=.int i/\y=.int j/\Q (.int (i-j)) H
def Zi2:InOp X .Add rAdd:=by
 rintro pins s U H x y u v Q I rx ry ⟨i,j,rfl,rfl,q⟩;let⟨t,rfl⟩:=(show ∃t,u=Value.int i t from rx);let⟨t',rfl⟩:=(show ∃t',v=Value.int j t' from ry);exact PyProof.Rows.iadd_int ⟨.int (i+j),H,I.tok _,⟨_,rfl⟩,q⟩
def Zue:InOp X .Sub rSub:=by
 rintro pins s U H x y u v Q I rx ry ⟨i,j,rfl,rfl,q⟩;let⟨t,rfl⟩:=(show ∃t,u=Value.int i t from rx);let⟨t',rfl⟩:=(show ∃t',v=Value.int j t' from ry);exact PyProof.Rows.isub_int ⟨.int (i-j),H,I.tok _,⟨_,rfl⟩,q⟩
end
section
variable{X:Cx}{pins:XG}{U:St}{H:Hp}{s:XM}{A:XY}{E Q:XE}{c:XR}{b:Bool}
end
structure Room(k:Nat)(A:XY):Prop where
 hd:A.handled=none
 dp:A.depth+3*k+5<recursionLimit
 un:A.units+16*k+200<cLine
def Room.mono{j k:Nat}{A:XY}(r:Room k A)(h:j<=k):Room j A:=⟨r.hd,by have:=r.dp;omega,by have:=r.un;omega⟩
def Room.deeper{k:Nat}{A:XY}(r:Room (k+1) A)(env:Env):Room k (A.deeper env):=
 ⟨r.hd,by have:=r.dp;show A.depth+1+3*k+5<_;omega,by have:=r.un;show A.units+3+16*k+200<_;omega⟩
def Zoy{A:XY}{C:XB}{us:XH}{kw:Xj}:(A.under (.builtin "type.__call__" ⟨.ref C::us,kw⟩)).depth=A.depth+1:=by
 first|rfl|simp[Around.under,Code.weight,Code.isCreation,Code.isGuard,Code.isCaller,Code.frames,Code.isFrame,guardIds]
def Zoz{A:XY}{C:XB}{us:XH}{kw:Xj}:(A.under (.builtin "type.__call__" ⟨.ref C::us,kw⟩)).units=A.units+1:=by
 first|rfl|simp[Around.under,Code.cUnits,Code.frames,Code.isFrame]
def Room.make{k:Nat}{A:XY}(r:Room (k+1) A)(C:XB)(us:XH)(kw:Xj):Room k (A.under (.builtin "type.__call__" ⟨.ref C::us,kw⟩)):=
 ⟨r.hd,by have:=r.dp;rw[Zoy];omega,by have:=r.un;rw[Zoz];omega⟩
def Room.depth{k:Nat}{A:XY}(r:Room k A):A.depth<recursionLimit:=by have:=r.dp;omega
def Room.units{k:Nat}{A:XY}(r:Room k A):A.units+64<cLine:=by have:=r.un;omega
def tNil:TA:=λ_ H Q=>Q [] H
def tCons(ta:TE)(tr:TA):TA:=λU H Q=>ta U H λx H1=>tr U H1 λxs H2=>Q (x::xs) H2
section
variable{X:Cx}{e:Xi}{es:Xd}{te:TE}{t:TA}{pos:Pos}
def Zab:PA X [] tNil:=λ_ _ _ _ H Q I h=>Ycj ⟨[],H,I,.nil,h⟩
def Zaa(ha:PE X e te)(hr:PA X es t)(hs:starEach (e::es) X.env=(false,eval e X.env)::starEach es X.env:=by rfl):PA X (e::es) (tCons te t):=by
 intro pos pins s U H Q I h;rw[hs];show wpAny _ _ (spliced ((false,eval e X.env)::backTo pos (starEach es X.env))) _ _ s;refine Ybw (thn (ha pins s U H _ I h) λu s1 hzq=>?_);let⟨x,H1,I1,r1,q1⟩:=hzq;exact thn (hr pos pins s1 U H1 _ I1 q1) λus s2 ⟨xs,H2,I2,r2,q2⟩=>⟨x::xs,H2,I2,.cons r1 r2,q2⟩
def Wa{X:Cx}{e}{te:TE}(ha:PE X e te)(hs:starEach [e] X.env=(false,eval e X.env)::starEach [] X.env:=by rfl):PA X [e] (tCons te tNil):=Zaa ha Zab hs
def tTup(t:TA):TE:=λU H Q=>t U H λxs H1=>xs.length<=sizeLine/\∀p,H1 p=none->Q (.ref p) (upd H1 p (.tup xs))
def tLst(t:TA):TE:=λU H Q=>t U H λxs H1=>xs.length<=sizeLine/\∀p,H1 p=none->Q (.ref p) (upd H1 p (.lst xs))
def ZaH{x1}(h:PA X es t):PE X (.Tuple es x1 pos) (tTup t):=by
 intro pins s U H Q I hq;refine wpAny_Tuple_spliced (thn (h pos pins s U H _ I hq) λus s1 ⟨xs,H1,I1,r,z,q⟩=>⟨by rw[<- r.length];exact z,?_⟩);have hf:H1 s1.heap.objs.size=none:=I1.hok.fresh (Yk _);refine⟨.ref s1.heap.objs.size,upd H1 s1.heap.objs.size (.tup xs),I1.laid (t':=s1.toks) (λb u e=>Yl _ e) (Yk _) ?_,rfl,q _ hf⟩;exact⟨z,us,r,⟨_,YJ _ rfl,rfl,_,rfl⟩⟩
def ZaI(h:PA X es t):PE X (.List es pos) (tLst t):=by
 intro pins s U H Q I hq;refine wpAny_List_spliced (thn (h pos pins s U H _ I hq) λus s1 ⟨xs,H1,I1,r,z,q⟩=>⟨by rw[<- r.length];exact z,?_⟩);have hf:H1 s1.heap.objs.size=none:=I1.hok.fresh (Yk _);refine⟨.ref s1.heap.objs.size,upd H1 s1.heap.objs.size (.lst xs),I1.laid (t':=s1.toks) (λb u e=>Yl _ e) (Yk _) ?_,rfl,q _ hf⟩;exact⟨z,us,0,r,YJ _ rfl⟩
end
abbrev Sp:=List V->Hp->VK->XK->Prop
abbrev CXT:=List Env->Hp->Shared->XK->Value->Shared->Prop
structure Env0(P:XI)(w:XO)(K:Ydg)(mg:XA)(base:XT)(A:XY)(outer:Xk)(s:XM)(H:Hp):Prop where
 frames:A.frames=some outer
 mod:Mod K mg base
 bs:∀b o,base.get? b=some o->s.heap.get? b=some o/\H b=none
 bsz:base.objs.size<=s.heap.objs.size
 funs:s.heap.FunFrames base outer
 frf:∀b∈frs outer,H b=none
 hok:HOk P w H s.heap
 bare:AllBare s.gens
def CE(outer:Xk)(P:XI)(w:XO)(H:Hp)(s:XM)(Q:VK)(u:XR)(s':XM):Prop:=
 ∃v H',s'.os=s.os/\AllBare s'.gens/\Un (frs outer) [] H H' s.heap s'.heap/\HOk P w H' s'.heap/\RelV v u/\Q v H'
def CR(CX:CXT)(outer:Xk)(P:XI)(w:XO)(H:Hp)(s:XM)(Q:VK)(E:XK)(r:Result)(s':XM):Prop:=
 match r with
 |.ok (.ret u)=>CE outer P w H s Q u s'
 |.ok _=>False
 |.error e=>CX outer H s E e s'
structure FnOk(P:XI)(w:XO)(K:Ydg)(mg:XA)(base:XT)(CX:CXT)(k:Nat)(f:XB)(fd:FuncData)(ps:XN)(sp:Sp):Prop where
 len:∀vs H Q E,sp vs H Q E->vs.length=ps.length
 run:∀(A:XY)(outer:Xk)(s:XM)(H:Hp)(args:Args)(us:XH)(vs:XF)(Q:VK)(E:XK),Room k A->Env0 P w K mg base A outer s H->BindsTo s fd args (ps.zip us)->Vals vs us->sp vs H Q E->
  codeAny (model P w) A (.call (.ref f) args) (CR CX outer P w H s Q E) s
def FnOk.mono{P:XI}{w:XO}{K:Ydg}{mg:XA}{base:XT}{CX:CXT}{j k:Nat}{f:XB}{fd:FuncData}{ps:XN}{sp:Sp}(F:FnOk P w K mg base CX j f fd ps sp)(h:j<=k) :
  FnOk P w K mg base CX k f fd ps sp:=⟨F.len,λA outer s H args us vs Q E hr=>F.run A outer s H args us vs Q E (hr.mono h)⟩
def Env0.make{P:XI}{w:XO}{K:Ydg}{mg:XA}{base:XT}{A:XY}{outer:Xk}{s:XM}{H:Hp}(e:Env0 P w K mg base A outer s H)(C:XB)(us:XH)(kw:Xj) :
  Env0 P w K mg base (A.under (.builtin "type.__call__" ⟨.ref C::us,kw⟩)) outer s H:=⟨by first|exact e.frames|(simpa[Around.under,Code.envs,Code.isFrame,pushEnvs]using e.frames),e.mod,e.bs,e.bsz,e.funs,e.frf,e.hok,e.bare⟩
section
variable{X:Cx}{pins:XG}{U:St}{H:Hp}{s s':XM}
def Inv.env0(I:Inv X pins U H s):Env0 X.prog X.w X.K X.mg X.base X.A X.stack s H:=
 ⟨I.ok.frames,I.ok.mod,I.bs,Yj I.ok.bsz I.sz,I.stack,I.stkFree,I.hok,I.bare⟩
def Inv.after{Q:VK}{u:XR}(I:Inv X pins U H s)(h:CE X.stack X.prog X.w H s Q u s'):EP X pins U Q u s':=by
 let⟨v,H',os,bare,un,hok,r,q⟩:=h;let⟨hh,g,d,t,os'⟩:=s';obtain rfl:os'=s.os:=os;exact⟨v,H',I.call (h':=hh) (g':=g) (d':=d) (t':=t) (ch:=[]) un hok bare (λb z=>absurd z (by simp)),r,q⟩
end
def tCall(sp:Sp)(dvs:XF)(E:XK)(t:TA):TE:=λU H Q=>t U H λvs H1=>sp (vs++dvs) H1 Q E
def tMeth(C:XB)(m:Str)(sp:Sp)(dvs:XF)(E:XK)(ta:TE)(t:TA):TE:=λU H Q=>ta U H λx H1=>∃a dx fs,x=.ref a/\H1 a=some (.ins C dx fs)/\fs.lookup m=none/\
 t U H1 λvs H2=>sp (x::(vs++dvs)) H2 Q E
def tMake(C:XB)(sp:Sp)(dvs:XF)(E:XK)(t:TA):TE:=λU H Q=>t U H λvs H1=>∀x dx,H1 x=none->H1 dx=none->dx≠x->
 sp (.ref x::(vs++dvs)) (upd (upd H1 dx (.own x)) x (.ins C dx [])) (λv H2=>v=.non/\Q (.ref x) H2) E
def Binds(K:Ydg)(fd:FuncData)(ps:XN)(ds:XH):Prop:=
 ∀(s:XM)(us:XH),K.In s.heap->(us++ds).length=ps.length->BindsTo s fd ⟨us,[]⟩ (ps.zip (us++ds))
def Binds.all{K:Ydg}{fd:FuncData}{ps:XN}(h:∀us:List Value,us.length=ps.length->bindArgs fd ⟨us,[]⟩=pure (ps.zip us)):Binds K fd ps []:=λs us _ hl=>by
 rw[YZ]at hl |-;exact .of_eq (h us hl)
def ZeR(CX:CXT)(X:Cx)(E:XK):Prop:=∀(pins:XG)(U:St)(H:Hp)(s:XM)(e:XR)(s':XM),Inv X pins U H s->CX X.stack H s E e s'->X.xe e s'
section
variable{X:Cx}{CX:CXT}{k:Nat}{f C:XB}{fd:FuncData}{ps:XN}{sp:Sp}{dvs:XF}{ds:XH}{E:XK}{x m:Str}{p pos apos:Pos}{e o:Xi}{es:Xd}{ta:TE}{t:TA}
def Zhg{pins:XG}{U:St}{H:Hp}{s:XM}{Q:VK}{us:XH}{vs:XF}(F:FnOk X.prog X.w X.K X.mg X.base CX k f fd ps sp)(hr:Room k X.A)(hb:Binds X.K fd ps ds)(hd:Vals dvs ds)(hx:ZeR CX X E)(I:Inv X pins U H s)(r:Vals vs us)(h:sp (vs++dvs) H Q E):wpAny (model X.prog X.w) X.A (call (.ref f) us) (EP X pins U Q) X.xe s:=by
 have r2:Vals (vs++dvs) (us++ds):=r.append hd;have hl:(us++ds).length=ps.length:=by rw[<- r2.length];exact F.len _ _ _ _ h
 refine wpAny_call (YbD (F.run X.A X.stack s H ⟨us,[]⟩ (us++ds) (vs++dvs) Q E hr I.env0 (hb s us I.kIn hl) r2 h) λr s' hq=>?_);cases r with
 |error e=>exact hx pins U H s e s' I hq
 |ok fl=>
  cases fl with
  |ret u=>exact I.after hq
  |next=>exact False.elim hq
  |brk=>exact False.elim hq
  |cont=>exact False.elim hq
def ZpJ(F:FnOk X.prog X.w X.K X.mg X.base CX k f fd ps sp)(hr:Room k X.A)(hg:Gl X x)(hm:X.mg x=some (.ref f))(hk:PySem.W.keepIn X.K (.ref f)=true)(hb:Binds X.K fd ps ds)(hd:Vals dvs ds)(hx:ZeR CX X E)(ha:PA X (e::es) t)(hdb:(x==("__debug__":Xq))=false:=by decide)(he:starEach (e::es) X.env=(false,eval e X.env)::starEach es X.env:=by rfl)(hpl:(backTo pos (starEach es X.env)).any (·.1)=false:=by rfl) :
  PE X (.Call (.Name x p) (e::es) [] pos) (tCall sp dvs E t):=by
 walk_at"I";refine Ya3 (Zg9 I hg hm ?_ hdb);refine Ybi (h₀:=X.base) I.ok.mod.kin hk (thn (ha pos pins s U H _ I h) λus s1 ⟨vs,H1,I1,r,q⟩=>⟨I1.kIn,?_⟩) he hpl;exact Zhg F hr hb hd hx I1 r q
def Zsd(F:FnOk X.prog X.w X.K X.mg X.base CX k f fd ps sp)(hr:Room k X.A)(hg:Gl X x)(hm:X.mg x=some (.ref f))(hk:PySem.W.keepIn X.K (.ref f)=true)(hb:Binds X.K fd ps ds)(hd:Vals dvs ds)(hx:ZeR CX X E)(hdb:(x==("__debug__":Xq))=false:=by decide):PE X (.Call (.Name x p) [] [] pos) (tCall sp dvs E tNil):=by
 walk_at"I";refine Ya3 (Zg9 I hg hm ?_ hdb);exact YbF I.kIn hk (Zhg (us:=[]) F hr hb hd hx I .nil h)
def ZpK{pl:Sem Bool}(he:PE X o ta)(c:Cls X.K C)(hm:Meth X.K C m f)(F:FnOk X.prog X.w X.K X.mg X.base CX k f fd ps sp)(hr:Room k X.A)(hb:Binds X.K fd ps ds)(hd:Vals dvs ds)(hx:ZeR CX X E)(ha:PA X (e::es) t)(hst:starEach (e::es) X.env=(false,eval e X.env)::starEach es X.env:=by rfl)(hpl:(backTo pos (starEach es X.env)).any (·.1)=false:=by rfl)(ht:eval (.Call (.Attribute o m apos) (e::es) [] pos) X.env=(do
   let ov<- eval o X.env
   standAt apos.atName
   let(f,first)<- holding [ov] (getMethod ov m pl)
   callWith pos f first (backTo pos (starEach (e::es) X.env)) (backToKw pos (keywordEach [] X.env))):=by rfl) :
  PE X (.Call (.Attribute o m apos) (e::es) [] pos) (tMeth C m sp dvs E ta t):=by
 walk_at"I";refine YaS (pl:=pl) (thn (he pins s U H _ I h) λu s1 hzq=>?_) ht;let⟨x,H1,I1,rx,a,dx,fs,ex,ea,l,q⟩:=hzq;subst ex;obtain rfl:u=Value.ref a:=rx;refine ZcO I1 ea c hm l ?_;refine Ybi (first:=[.ref a]) (h₀:=X.base) I.ok.mod.kin hm.kp (thn (ha pos pins s1 U H1 _ I1 q) λus s2 ⟨vs,H2,I2,r,q2⟩=>⟨I2.kIn,?_⟩) hst hpl;exact Zhg (us:=.ref a::us) (vs:=.ref a::vs) F hr hb hd hx I2 (.cons rfl r) q2
def Zse{pl:Sem Bool}(he:PE X o ta)(c:Cls X.K C)(hm:Meth X.K C m f)(F:FnOk X.prog X.w X.K X.mg X.base CX k f fd ps sp)(hr:Room k X.A)(hb:Binds X.K fd ps ds)(hd:Vals dvs ds)(hx:ZeR CX X E)(ht:eval (.Call (.Attribute o m apos) [] [] pos) X.env=(do
   let ov<- eval o X.env
   standAt apos.atName
   let(f,first)<- holding [ov] (getMethod ov m pl)
   callWith pos f first (backTo pos (starEach [] X.env)) (backToKw pos (keywordEach [] X.env))):=by rfl) :
  PE X (.Call (.Attribute o m apos) [] [] pos) (tMeth C m sp dvs E ta tNil):=by
 walk_at"I";refine YaS (pl:=pl) (thn (he pins s U H _ I h) λu s1 hzq=>?_) ht;let⟨x,H1,I1,rx,a,dx,fs,ex,ea,l,q⟩:=hzq;subst ex;obtain rfl:u=Value.ref a:=rx;refine ZcO I1 ea c hm l ?_;exact YbF (first:=[.ref a]) I1.kIn hm.kp (Zhg (us:=[.ref a]) (vs:=[.ref a]) F hr hb hd hx I1 (.cons rfl .nil) q)
structure Mk(K:Ydg)(C f:XB):Prop where
 makes:PySem.W.makesIn K C=true
 init:PySem.W.findIn K (.ref C) "__init__"=some (some (.ref f))
 fn:PySem.W.isFn K (.ref f)=true
 kp:PySem.W.keepIn K (.ref C)=true
def Znr{pins:XG}{U:St}{H:Hp}{s:XM}{Q:VK}{us:XH}{vs:XF}(M:Mk X.K C f)(F:FnOk X.prog X.w X.K X.mg X.base CX k f fd ps sp)(hr:Room (k+1) X.A)(hb:Binds X.K fd ps ds)(hd:Vals dvs ds)(hx:ZeR CX X E)(I:Inv X pins U H s)(r:Vals vs us)(h:∀x dx,H x=none->H dx=none->dx≠x->sp (.ref x::(vs++dvs)) (upd (upd H dx (.own x)) x (.ins C dx [])) (λv H2=>v=.non/\Q (.ref x) H2) E) :
  wpAny (model X.prog X.w) X.A (call (.ref C) us) (EP X pins U Q) X.xe s:=by
 have hq:=h (s.heap.objs.size+1) s.heap.objs.size (I.hok.fresh (Yaq _)) (I.hok.fresh (Yk _)) (YW (YaC _));have I2:=Inv.made (C:=C) I;have r2:Vals (V.ref (s.heap.objs.size+1)::(vs++dvs)) (Value.ref (s.heap.objs.size+1)::(us++ds)):=.cons rfl (r.append hd);have hl:(Value.ref (s.heap.objs.size+1)::us++ds).length=ps.length:=by
  have e:=r2.length;rw[F.len _ _ _ _ hq]at e;exact e.symm
 refine wpAny_call (Zsc (f:=f) I.kIn M.makes M.init (Ya0.mp M.fn) (YbD (F.run _ X.stack _ _ ⟨Value.ref (s.heap.objs.size+1)::us,[]⟩ (Value.ref (s.heap.objs.size+1)::(us++ds)) _ _ E (hr.make C us []) (I2.env0.make C us []) (hb _ (Value.ref (s.heap.objs.size+1)::us) I2.kIn hl) r2 hq) λr s' hq'=>?_));cases r with
 |error e=>exact hx pins U _ _ e s' I2 hq'
 |ok fl=>
  cases fl with
  |ret u=>
   let⟨v,H',I3,rv,ev,q3⟩:=I2.after hq';subst ev;exact⟨rv,⟨V.ref (s.heap.objs.size+1),H',I3,rfl,q3⟩⟩
  |next=>exact False.elim hq'
  |brk=>exact False.elim hq'
  |cont=>exact False.elim hq'
def ZpL(M:Mk X.K C f)(F:FnOk X.prog X.w X.K X.mg X.base CX k f fd ps sp)(hr:Room (k+1) X.A)(hg:Gl X x)(hm:X.mg x=some (.ref C))(hb:Binds X.K fd ps ds)(hd:Vals dvs ds)(hx:ZeR CX X E)(ha:PA X (e::es) t)(hdb:(x==("__debug__":Xq))=false:=by decide)(he:starEach (e::es) X.env=(false,eval e X.env)::starEach es X.env:=by rfl)(hpl:(backTo pos (starEach es X.env)).any (·.1)=false:=by rfl) :
  PE X (.Call (.Name x p) (e::es) [] pos) (tMake C sp dvs E t):=by
 walk_at"I";refine Ya3 (Zg9 I hg hm ?_ hdb);refine Ybi (h₀:=X.base) I.ok.mod.kin M.kp (thn (ha pos pins s U H _ I h) λus s1 ⟨vs,H1,I1,r,q⟩=>⟨I1.kIn,?_⟩) he hpl;exact Znr M F hr hb hd hx I1 r q
def Zsf(M:Mk X.K C f)(F:FnOk X.prog X.w X.K X.mg X.base CX k f fd ps sp)(hr:Room (k+1) X.A)(hg:Gl X x)(hm:X.mg x=some (.ref C))(hb:Binds X.K fd ps ds)(hd:Vals dvs ds)(hx:ZeR CX X E)(hdb:(x==("__debug__":Xq))=false:=by decide):PE X (.Call (.Name x p) [] [] pos) (tMake C sp dvs E tNil):=by
 walk_at"I";refine Ya3 (Zg9 I hg hm ?_ hdb);exact YbF I.kIn M.kp (Znr (us:=[]) M F hr hb hd hx I .nil h)
end
section
variable{X:Cx}{CX:CXT}{k:Nat}{f C:XB}{fd:FuncData}{ps ks:XN}{sp:Sp}{E:XK}{x m:Str}{p pos apos kpos:Pos}{e o:Xi}{es:Xd}{kws:List Keyword}{te ta:TE}{t tk:TA}{nm:Option Str}
variable{g:List Value->List Value->List Value}{gV:List V->List V->List V}
end
structure FnScope(N P:XN)(sc:Scope):Prop where
 kind:sc.kind=.function
 co:sc.isCoroutine=false
 gen:sc.isGenerator=false
 nd:N.Nodup
 pre:N.take P.length=P
 par:∀x∈P,sc.names.lookup x=some .local\/sc.names.lookup x=some .cell
 nofree:∀y∈sc.names,y.2≠.free
theorem ZkW{kindOf:Str->Option NameKind}{x:Str}:∀{binds:Xj}{m:XA},(∀v,(x,v)∉binds)->bindL kindOf binds m x=m x
 |[],_,_=>rfl
 |(n,v)::r,m,h=>by
  unfold bindL;rw[ZkW λw hw=>h w (Yo _ hw)];split
  .have:x≠n:=by rintro rfl;exact h v Y1
   simp[this]
  .rfl
theorem ZkX{kindOf:Str->Option NameKind}{x:Str}:∀{binds:Xj}{m:XA},(∀v,(x,v)∉binds)->bindC kindOf binds m x=m x
 |[],_,_=>rfl
 |(n,v)::r,m,h=>by
  unfold bindC;rw[ZkX λw hw=>h w (Yo _ hw)];split
  .rfl
  .have:x≠n:=by rintro rfl;exact h v Y1
   simp[this]
theorem ZkY{kindOf:Str->Option NameKind}{x:Str}{v:XR}:∀{P:XN}{vs:XH}{i:Nat}{m:XA},P.Nodup->P[i]?=some x->vs[i]?=some v->kindOf x=some .local->
  bindL kindOf (P.zip vs) m x=some v
 |[],_,_,_,_,h,_,_=>by simp at h
 |_::_,[],_,_,_,_,h,_=>by simp at h
 |p::P,w::vs,0,m,nd,h1,h2,hk=>by
  simp at h1 h2;subst h1;subst h2;show bindL kindOf ((p,w)::P.zip vs) m p=_;unfold bindL;rw[ZkW λv hv=>(YT.mp nd).1 (YcW hv).1,if_pos hk];simp
 |p::P,w::vs,i+1,m,nd,h1,h2,hk=>by
  show bindL kindOf ((p,w)::P.zip vs) m x=_;unfold bindL;exact ZkY (i:=i) (YT.mp nd).2 (by simpa using h1) (by simpa using h2) hk
theorem ZkZ{kindOf:Str->Option NameKind}{x:Str}{v:XR}:∀{P:XN}{vs:XH}{i:Nat}{m:XA},P.Nodup->P[i]?=some x->vs[i]?=some v->kindOf x≠some .local->
  bindC kindOf (P.zip vs) m x=some v
 |[],_,_,_,_,h,_,_=>by simp at h
 |_::_,[],_,_,_,_,h,_=>by simp at h
 |p::P,w::vs,0,m,nd,h1,h2,hk=>by
  simp at h1 h2;subst h1;subst h2;show bindC kindOf ((p,w)::P.zip vs) m p=_;unfold bindC;rw[ZkX λv hv=>(YT.mp nd).1 (YcW hv).1,if_neg hk];simp
 |p::P,w::vs,i+1,m,nd,h1,h2,hk=>by
  show bindC kindOf ((p,w)::P.zip vs) m x=_;unfold bindC;exact ZkZ (i:=i) (YT.mp nd).2 (by simpa using h1) (by simpa using h2) hk
noncomputable def start(N:XN)(vs:XF):St:=vs.map some++List.replicate (N.length-vs.length) none
noncomputable def cxOf(CX:CXT)(P:XI)(w:XO)(K:Ydg)(mg:XA)(base:XT)(N:XN)(qual:Str)(scope:Scope)(f:XB)(cd:XR)(A:XY)(outer:Xk)(s:XM)(H:Hp)(E:XK):Cx where
 prog:=P
 w:=w
 K:=K
 mg:=mg
 base:=base
 A:=A.deeper (envOfC qual scope s.heap.objs.size f cd)
 N:=N
 s₀:=s
 H₀:=H
 env:=envOfC qual scope s.heap.objs.size f cd
 outer:=outer
 stack:=envOfC qual scope s.heap.objs.size f cd::outer
 ex:=[]
 calm:=true
 fn:=λ_=>true
 pn:=[]
 xe:=λe s'=>wpAny (model P w) (A.deeper (envOfC qual scope s.heap.objs.size f cd)) (leaving (envOfC qual scope s.heap.objs.size f cd) e) (λ_ s''=>CX outer H s E e s'') (λe' s''=>CX outer H s E e' s'') s'
def Zns{sc:Scope}{n:Nat}{x:Str}(h:sc.names.lookup x=some .cell):∃c,(cellsFrom n sc.names []).lookup x=some c:=by
 have q:=PySem.W.cellsFrom_some sc.names n [] (.inl h);exact YbV.mp q
def ZpM{CX:CXT}{P:XI}{w:XO}{K:Ydg}{mg:XA}{base:XT}{N ps:XN}{qual:Str}{scope:Scope}{f:XB}{cd:XR}{A:XY}{outer:Xk}{s s1:XM}{H:Hp}{E:XK}{us:XH}{vs:XF}(S:FnScope N ps scope)(hd:A.handled=none)(e0:Env0 P w K mg base A outer s H)(hl:vs.length=ps.length)(r:Vals vs us)(x:InCallC s s.heap.objs.size (bindL (envOfC qual scope s.heap.objs.size f cd).kindOf (ps.zip us) λ_=>none) (cellsFrom (s.heap.objs.size+1) scope.names []) (bindC (envOfC qual scope s.heap.objs.size f cd).kindOf (ps.zip us) λ_=>none) s1) :
  Inv (cxOf CX P w K mg base N qual scope f cd A outer s H E) [] (start N vs) H s1:=by
 have hpl:ps.length<=N.length:=by have:=Y3 List.length S.pre;rw[YN]at this;omega
 let⟨h1,tk,rfl,hk⟩:=x.done;have noA:∀b:Addr,b∉(cxOf CX P w K mg base N qual scope f cd A outer s H E).ex:=λb z=>absurd (show b∈([]:Xa)from z) (by simp);refine⟨⟨e0.mod,S.kind,rfl,rfl,Yk _,λy z c h1 h2=>?_,λy hy=>?_,λy c _ h=>?_,λ_=>hd,Around.frames_deeper e0.frames,.inr ⟨rfl,rfl⟩,λb z=>absurd z (noA b),e0.bs,e0.bsz,λb _ _=>noA b,λb z=>absurd z (noA b),e0.funs,e0.frf⟩,rfl,e0.bare,Un.kept hk,⟨_,x.toInCall.ns,λi y v h1 h2 h3=>?_⟩,λy c h=>⟨_,x.cell y c h⟩,e0.hok.fresh (Yk _),λy c h=>?_,λp hp=>absurd (show p∈([]:XG)from hp) (by simp),e0.hok.kept hk,?_⟩
 .exact name_of_addr x.apart (Ybc h1) (Ybc h2)
 .have hy:scope.names.lookup y=some .cell\/scope.names.lookup y=some .free:=hy;rcases hy with hy|hy
  .exact Zns hy
  .exact absurd rfl (S.nofree _ (Ybc hy))
 .exact Yan (x.above y c (Ybc h))
 .have hi:i<vs.length:=by
   unfold start at h2;by_cases hi:i<vs.length
   .exact hi
   .rw [Yv (by simpa using hi)]at h2;rw[List.getElem?_replicate]at h2;split at h2<;>cases h2
  have ha:vs[i]?=some v:=by
   unfold start at h2;rw[YX (by simpa using hi),Yb]at h2;cases e:vs[i]? with
   |none=>rw[e]at h2;cases h2
   |some a=>rw[e]at h2;cases h2;rfl
  let⟨u,hu,rv⟩:=r.get ha;have hp:ps[i]?=some y:=by
   rw[<- S.pre,List.getElem?_take_of_lt ()];exact h1
  have ndP:ps.Nodup:=by rw[<- S.pre];exact S.nd.sublist (List.take_sublist _ _)
  refine⟨u,rv,?_⟩;rcases S.par y (Yn hp)with k|k
  .exact .inl ⟨k,ZkY ndP hp hu k⟩
  .obtain ⟨c,e⟩:=Zns (n:=s.heap.objs.size+1) k;refine .inr ⟨.inl k,c,e,?_⟩;have q:=x.cell y c e;rw[ZkZ ndP hp hu (by show scope.names.lookup y≠_;rw[k];decide)]at q;exact q
 .exact e0.hok.fresh (Yan (x.above y c (Ybc h)))
 .unfold start;show _=N.length;rw[Yc,Ya,Ych];omega
def fn_of{CX:CXT}{P:XI}{w:XO}{K:Ydg}{mg:XA}{base:XT}{k:Nat}{f:XB}{name qual:Str}{params:Arguments}{body:List Stmt}{scope:Scope}{dV kV doc pm cdv ct oc:XR}{an od:Xb}{osl:XZ}{N ps:XN}{sp:Sp}(lk:K.lookup f=some ⟨oc,od,.func (PySem.W.fnOf name qual params body scope dV kV doc pm an cdv ct),osl⟩)(hcd:PySem.W.codeIn K cdv qual=true)(S:FnScope N ps scope)(len:∀vs H Q E,sp vs H Q E->vs.length=ps.length)(hbody:∀(A:XY)(outer:Xk)(s:XM)(H:Hp)(vs:XF)(Q:VK)(E:XK),Room k (A.deeper (envOfC qual scope s.heap.objs.size f cdv))->sp vs H Q E->∃t,PSs (cxOf CX P w K mg base N qual scope f cdv A outer s H E) body t/\t {nx:=λ_ H'=>Q .non H',rt:=Q} (start N vs) H) :
  FnOk P w K mg base CX (k+1) f (PySem.W.fnOf name qual params body scope dV kV doc pm an cdv ct) ps sp:=by
 refine⟨len,λA outer s H args us vs Q E hr e0 hb r hsp=>?_⟩;have hl:=len _ _ _ _ hsp;have KX:K.In s.heap:=e0.mod.kin.keeps λb o e=>(e0.bs b o e).1;have lim:s.heap.NoLimit:=e0.mod.nolimit.keeps λb o e=>(e0.bs b o e).1;have hkind:∀y∈ps.zip us,scope.names.lookup y.1=some .local\/(scope.names.lookup y.1=some .cell/\((cellsFrom (s.heap.objs.size+1) scope.names []).lookup y.1).isSome=true):=λ⟨n,v⟩ hy=>by
  rcases S.par n (YcW hy).1 with q|q
  .exact .inl q
  .exact .inr ⟨q,PySem.W.cellsFrom_some _ _ _ (.inl q)⟩
 refine codeAny_call_function hr.depth (KX _ _ lk) rfl S.co S.gen rfl (PySem.W.codeRec_of KX hcd) (hb _ _ _ _ ?_);refine wpAny_newFunctionEnv_cells S.kind hkind λenv he s1 x=>?_;subst he;refine⟨lim.keeps x.toInCall.keep,codeAny_func ?_⟩;let⟨t,ht,hq⟩:=hbody A outer s H vs Q E (hr.deeper _) hsp;have I:Inv (cxOf CX P w K mg base N qual scope f cdv A outer s H E) [] (start N vs) H s1:=ZpM S hr.hd e0 hl r x;refine YaZ (ht [] s1 (start N vs) H _ I hq) (λfl s' hs=>?_) λe s' hs=>hs
 have fin:∀{U':St}{H':Hp}{v:V}{u:XR},Inv (cxOf CX P w K mg base N qual scope f cdv A outer s H E) [] U' H' s'->RelV v u->Q v H'->CE outer P w H s Q u s':=
  λ{U' H' v u} J rv q=>⟨v,H',J.os,J.bare,J.base,J.hok,rv,q⟩
 cases fl with
 |ret u=>
  let⟨v,U',H',J,rv,q⟩:=hs;exact fin J rv q
 |next=>
  let⟨U',H',J,q⟩:=hs;exact fin (v:=V.non) (u:=Value.none) J rfl q
 |brk=>
  let⟨_,_,_,q⟩:=hs;exact False.elim q
 |cont=>
  let⟨_,_,_,q⟩:=hs;exact False.elim q
section
variable{X:Cx}{x:Str}{p pos:Pos}{e:Xi}{es:Xd}{t:TA}{id T:String}{r:List V->Hp->VK->Prop}
def tCB(r:List V->Hp->VK->Prop)(t:TA):TE:=λU H Q=>t U H λvs H1=>r vs H1 Q
def Zau(hc:CallR X (.builtin id) r)(hg:Gl X x)(hm:X.mg x=none)(hv:bootBuiltins x=some (.builtin id))(ha:PA X (e::es) t)(hn:x≠"__name__":=by decide)(hdb:(x==("__debug__":Xq))=false:=by decide)(he:starEach (e::es) X.env=(false,eval e X.env)::starEach es X.env:=by rfl)(hpl:(backTo pos (starEach es X.env)).any (·.1)=false:=by rfl):PE X (.Call (.Name x p) (e::es) [] pos) (tCB r t):=by
 walk_at"I";refine Ya3 (Zf3 I hg hm hv ?_ hn hdb);exact PyProof.Rows.callWith_builtin1 (thn (ha pos pins s U H _ I h) λus s1 ⟨vs,H1,I1,r1,q1⟩=>hc pins s1 U H1 vs us Q I1 r1 q1) he hpl
def ZaJ(hc:CallR X (.type T) r)(hg:Gl X x)(hm:X.mg x=none)(hv:bootBuiltins x=some (.type T))(ha:PA X (e::es) t)(hn:x≠"__name__":=by decide)(hdb:(x==("__debug__":Xq))=false:=by decide)(he:starEach (e::es) X.env=(false,eval e X.env)::starEach es X.env:=by rfl)(hpl:(backTo pos (starEach es X.env)).any (·.1)=false:=by rfl):PE X (.Call (.Name x p) (e::es) [] pos) (tCB r t):=by
 walk_at"I";refine Ya3 (Zf3 I hg hm hv ?_ hn hdb);exact Yai (thn (ha pos pins s U H _ I h) λus s1 ⟨vs,H1,I1,r1,q1⟩=>hc pins s1 U H1 vs us Q I1 r1 q1) he hpl
end
end L2
namespace HT
open PySem PyProof.Rows
section
open PySem.SeqAt
open PySem.AutoSeq1 (wpAny_loadPart')
open PySem.MeetsSeq PySem.MeetsSeq2 PySem.MeetsSeq3
end
section
variable{prog:XI}{w:XO}{A:XY}{E:XE}{s:XM}
noncomputable def sIx(n d:Nat):Option Int->Nat
 |none=>d
 |some v=>if v<0 then(v+(n:Int)).toNat else min v.toNat n
def Zsg(n d:Nat):sIx n d none=d:=rfl
def ZpN(n d k:Nat):sIx n d (some (k:Int))=min k n:=by
 show(if(k:Int)<0 then((k:Int)+(n:Int)).toNat else min (k:Int).toNat n)=min k n;rw[if_neg (),Yt]
def sIx_le(n d:Nat)(hd:d<=n)(o:XS):sIx n d o<=n:=by
 cases o with
 |none=>exact hd
 |some v=>
  show(if v<0 then(v+(n:Int)).toNat else min v.toNat n)<=n;by_cases hv:v<0
  .rw [if_pos hv];omega
  .rw [if_neg hv];exact YcK _ _
def Zp8(v:Int)(n:Nat)(h:¬v<0):min v (n:Int)=((min v.toNat n:Nat):Int):=by
 obtain ⟨k,rfl⟩:=Int.eq_ofNat_of_zero_le (Int.not_lt.mp h);cases Nat.le_total k n with
 |inl h=>rw[Int.toNat_natCast,Nat.min_eq_left h,Int.min_eq_left (Int.ofNat_le.2 h)]
 |inr h=>rw[Int.toNat_natCast,Nat.min_eq_right h,Int.min_eq_right (Int.ofNat_le.2 h)]
def ZpO(v:Int)(n d:Nat):(if v<0 then max (v+(n:Int)) 0 else min v (n:Int))=((sIx n d (some v):Nat):Int):=by
 show(if v<0 then max (v+(n:Int)) 0 else min v (n:Int))=(((if v<0 then(v+(n:Int)).toNat else min v.toNat n):Nat):Int);by_cases hv:v<0
 .simp only[if_pos hv];exact (Int.ofNat_toNat _).symm
 .simp only[if_neg hv];exact Zp8 v n hv
def ZoA(lo hi:XS)(n:Nat):Builtin.Slice.sliceAdjust lo hi 1 (n:Int)=(((sIx n 0 lo:Nat):Int),((sIx n n hi:Nat):Int)):=by
 have h1:¬((1:Int)<0):=();unfold Builtin.Slice.sliceAdjust;simp only[h1,if_false];refine Prod.ext ?_ ?_
 .cases lo with
  |none=>rfl
  |some v=>exact ZpO v n 0
 .cases hi with
  |none=>rfl
  |some v=>exact ZpO v n n
def ZoB(i j:Nat):Builtin.Slice.slicePlaces (i:Int) (j:Int) 1=j-i:=by
 unfold Builtin.Slice.slicePlaces;have h1:(1:Int)>0:=();simp only[h1,Ybr,Int.ediv_one];split<;>omega
def Zi3{v:XR}{o:XS}{Q:Option Int->Shared->Prop}(p:IsPart v o)(h:Q o s):wpAny (model prog w) A (Builtin.Slice.slicePartIndex v) Q E s:=by
 cases p with
 |none=>exact slicePart_none h
 |int i t=>exact slicePart_int h
def Zgy{sl:XB}{vl vu:XR}{lo hi:XS}{n:Nat}{Q:Int×Int×Nat->Shared->Prop}(hs:s.heap.IsSliceOf sl vl vu .none)(pl:IsPart vl lo)(pu:IsPart vu hi)(h:Q (((sIx n 0 lo:Nat):Int),1,sIx n n hi-sIx n 0 lo) s):wpAny (model prog w) A (Builtin.Slice.sliceApplied (.ref sl) (pure (n:Int))) Q E s:=by
 let⟨os,hos,hcs,hds⟩:=id hs;unfold Builtin.Slice.sliceApplied Builtin.Slice.sliceFields;refine Yg (Yg (wpAny_field hos hds (x:=vl) rfl (Yg (wpAny_field hos hds (x:=vu) rfl (Yg (wpAny_field hos hds (x:=.none) rfl (Yp ?_)))))));refine Yg (slicePart_none ?_);show wpAny _ _ (if((1:Int)==0)=true then _ else _) _ _ s;rw[if_neg nofun];refine Yg (Zi3 pl (Yg (Zi3 pu (Yg (Yp ?_)))));show wpAny _ _ (match Builtin.Slice.sliceAdjust lo hi 1 (n:Int)with|(lo,hi)=>pure (lo,(1:Int),Builtin.Slice.slicePlaces lo hi 1)) _ _ s;rw[ZoA lo hi n];show wpAny _ _ (pure (((sIx n 0 lo:Nat):Int),(1:Int),Builtin.Slice.slicePlaces ((sIx n 0 lo:Nat):Int) ((sIx n n hi:Nat):Int) 1)) _ _ s;rw[ZoB];exact Yp h
def Zsh(xs:Xc)(i k:Nat):((List.range k).filterMap λ(m:Nat)=>xs[((i:Int)+(m:Int)*1).toNat]?).toArray=((xs.toList.drop i).take k).toArray:=by
 have e:(λ(m:Nat)=>xs[((i:Int)+(m:Int)*1).toNat]?)=λm=>xs[i+m]?:=by
  funext m;have:((i:Int)+(m:Int)*1).toNat=i+m:=();rw[this]
 rw[e];have:=pick_run xs i k;rw[List.filterMap_map]at this;have e2:((λx=>xs[x]?)∘λx=>i+x)=λm=>xs[i+m]?:=rfl;rw[e2]at this;rw[this]
def ZfF{t sl:XB}{items:Xc}{vl vu:XR}{lo hi:XS}{Q:XE}(ht:IsTup s.heap t items)(hs:s.heap.IsSliceOf sl vl vu .none)(pl:IsPart vl lo)(pu:IsPart vu hi)(hw:¬(sIx items.size 0 lo=0/\sIx items.size items.size hi=items.size))(h:Q (.ref s.heap.objs.size) {s with heap:=s.heap.push {cls:=.type "tuple",data:=.seq ((items.toList.drop (sIx items.size 0 lo)).take (sIx items.size items.size hi-sIx items.size 0 lo)).toArray}})(hsz:items.size<=sizeLine):wpAny (model prog w) A (getItem (.ref t) (.ref sl)) Q E s:=by
 have htake:sizeOk (.seq ((items.toList.drop (sIx items.size 0 lo)).take (sIx items.size items.size hi-sIx items.size 0 lo)).toArray):=by
  show((items.toList.drop (sIx items.size 0 lo)).take (sIx items.size items.size hi-sIx items.size 0 lo)).toArray.size<=sizeLine;rw[Yx,YN,Yaw,Yae];exact Nat.le_trans (Nat.min_le_right _ _) (Nat.le_trans (Nat.sub_le _ _) hsz)
 have hj:sIx items.size items.size hi<=items.size:=sIx_le _ _ (Yk _) hi;let⟨os,hos,hcs,hds⟩:=id hs;have hTs:s.TypeIs (.ref sl) "slice":=⟨os,hos,hcs⟩;unfold getItem;try with_reducible refine YaG ?_
 first|refine Yg (Yp ?_)|skip
 refine Yg (wpAny_sequenceKey ht.typeIs nofun ?_);refine Yg (Yck (name:=Str.ofString "__getitem__") ht.typeIs Ybs (YaF Ybs ht.typeIs entry_tuple_getitem ?_ (args_tuple_getitem _ _)));show wpAny _ _ (Builtin.Tuple.tupleItemsOf (.ref t) >>=_) _ _ s;refine Yg (tupleItemsOf_ ht ?_);refine Yg (wpAny_typeOf hTs ?_);rw[if_pos nofun];refine Yg (Zgy hs pl pu ?_);have hno:¬((((sIx items.size 0 lo:Nat):Int)==0&&(1:Int)==1&&(sIx items.size items.size hi-sIx items.size 0 lo)==items.size)=true):=by
  intro q;rw[Yq,Yq]at q;have q1:((sIx items.size 0 lo:Nat):Int)=0:=eq_of_beq q.1.1;have q2:sIx items.size items.size hi-sIx items.size 0 lo=items.size:=eq_of_beq q.2;exact hw ⟨(),()⟩
 show wpAny _ _ (if(((sIx items.size 0 lo:Nat):Int)==0&&(1:Int)==1&&(sIx items.size items.size hi-sIx items.size 0 lo)==items.size)=true then _ else _) _ _ s;rw[if_neg hno,Zsh]
 first
  |exact Yg (m:=Builtin.Tuple.tupleExact _) (Yav (Yp ⟨_,rfl,Yp h⟩) htake)
  |exact Yg (m:=Builtin.Tuple.tupleExact _) (Yav (Yg (Yp (Yp ⟨_,rfl,Yp h⟩))) htake)
  |exact Yg (Yg (m:=Builtin.Tuple.tupleExact _) (Yav (Yp (Yp ⟨_,rfl,Yp h⟩)) htake))
  |exact Yg (Yg (m:=Builtin.Tuple.tupleExact _) (Yav (Yp ⟨_,rfl,Yp h⟩) htake))
end
end HT
namespace L2
open PySem PySem.Spec PyProof.Rows
abbrev TO:=St->Hp->(Option Int->Hp->Prop)->Prop
def PO(X:Cx)(e:Option Expr)(t:TO):Prop:=
 ∀(pins:XG)(s:XM)(U:St)(H:Hp)(Q:Option Int->Hp->Prop),Inv X pins U H s->t U H Q->
  wpAny (model X.prog X.w) X.A (evalPart e X.env) (λu s'=>∃o H',Inv X pins U H' s'/\IsPart u o/\Q o H') X.xe s
def ZpP:TO:=λ_ H Q=>Q none H
def tPart(t:TE):TO:=λU H Q=>t U H λx H1=>∃i,x=.int i/\Q (some i) H1
section
variable{X:Cx}{e:Xi}{te:TE}{lo hi:Option Expr}{tl th:TO}{pos p2:Pos}
def Zdl:PO X none ZpP:=by
 walk_at"I";rw[evalPart_none];exact Yp ⟨none,H,I,.none,h⟩
def ZbR(h:PE X e te):PO X (some e) (tPart te):=by
 intro pins s U H Q I hw;rw[evalPart_some];refine thn (h pins s U H _ I hw) λu s1 ⟨x,H1,I1,r1,q1⟩=>?_;let⟨i,rfl,q⟩:=q1;let⟨t,rfl⟩:=r1;exact⟨some i,H1,I1,.int i t,q⟩
def SlR(X:Cx)(r:V->Option Int->Option Int->Hp->VK->Prop):Prop:=
 ∀(pins:XG)(s:XM)(U:St)(H:Hp)(x:V)(v vl vu:XR)(lo hi:XS)(sl:XB)(Q:VK),Inv X pins U H s->RelV x v->s.heap.IsSliceOf sl vl vu .none->IsPart vl lo->IsPart vu hi->r x lo hi H Q->
  ∃T id,typeLookup (.type T) "__getitem__"=pure (some (.builtin id))/\s.TypeIs v T/\wpAny (model X.prog X.w) X.A (getItem v (.ref sl)) (EP X pins U Q) X.xe s
def tSl(r:V->Option Int->Option Int->Hp->VK->Prop)(te:TE)(tl th:TO):TE:=λU H Q=>te U H λx H1=>tl U H1 λl H2=>th U H2 λu H3=>r x l u H3 Q
def ZbS{r:V->Option Int->Option Int->Hp->VK->Prop}(hr:SlR X r)(he:PE X e te)(hl:PO X lo tl)(hu:PO X hi th):PE X (.Subscript e (.Slice lo hi none p2) pos) (tSl r te tl th):=by
 walk_at"I";refine Subscript_ (thn (he pins s U H _ I h) λv s1 hzq=>?_);let⟨x,H1,I1,r1,q1⟩:=hzq;refine wpAny_Slice (thn (hl pins s1 U H1 _ I1 q1) λvl s2 ⟨l,H2,I2,pl,q2⟩=>thn (hu pins s2 U H2 _ I2 q2) λvu s3 hzq=>?_);let⟨u,H3,I3,pu,q3⟩:=hzq;rw[evalPart_none];refine Yp ?_;have I4:Inv X pins U H3 {s3 with heap:=s3.heap.push {cls:=.type "slice",data:=.fields #[vl,vu,.none]}}:=I3.kept (t':=s3.toks) λb ob q=>Yl _ q;let⟨T,id,hT,ht,hg⟩:=hr pins {s3 with heap:=s3.heap.push {cls:=.type "slice",data:=.fields #[vl,vu,.none]}} U H3 x v vl vu l u s3.heap.objs.size Q I4 r1 (Heap.IsSliceOf.new ..) pl pu q3;show wpAny (model X.prog X.w) X.A (subscriptTail e (.Slice lo hi none p2) v (.ref s3.heap.objs.size)) (EP X pins U Q) X.xe {s3 with heap:=s3.heap.push {cls:=.type "slice",data:=.fields #[vl,vu,.none]}};exact tail_any (ops:=[.ref s3.heap.objs.size,v]) ht hT hg (by with_unfolding_all rfl)
noncomputable def cutV(xs:XF)(lo hi:XS):List V:=(xs.drop (HT.sIx xs.length 0 lo)).take (HT.sIx xs.length xs.length hi-HT.sIx xs.length 0 lo)
def Zhh(xs:XF)(lo hi:XS):(cutV xs lo hi).length<=xs.length:=by
 unfold cutV;rw[YN,Yaw];exact Nat.le_trans (Nat.min_le_right _ _) (Nat.sub_le _ _)
def rSlT(K:Ydg):V->Option Int->Option Int->Hp->VK->Prop:=λx lo hi H Q=>∃a xs,x=.ref a/\SqT K H a xs/\
 ¬(HT.sIx xs.length 0 lo=0/\HT.sIx xs.length xs.length hi=xs.length)/\∀p,H p=none->Q (.ref p) (upd H p (.tup (cutV xs lo hi)))
def sl_tup:SlR X (rSlT X.K):=by
 intro pins s U H x v vl vu lo hi sl Q I rx hs pl pu h;let⟨a,xs,rfl,hx,hw,q⟩:=h;cases rx;let⟨its,r,ht,hz⟩:=I.tuple hx;have hlen:its.toArray.size=xs.length:=by rw[Yx];exact r.length.symm
 refine⟨"tuple",_,Ybs.lookup,ht.typeIs,?_⟩;refine HT.ZfF ht hs pl pu (by rw[hlen];exact hw) ?_ (by rw[hlen];exact hz);rw[hlen];refine⟨.ref s.heap.objs.size,_,I.laid (t':=s.toks) (o:=.tup (cutV xs lo hi)) (λb ob q=>Yl _ q) (Yk _) ?_,rfl,q _ (I.hok.fresh (Yk _))⟩;exact⟨Yj (Zhh xs lo hi) hz,_,(r.drop (HT.sIx xs.length 0 lo)).take (HT.sIx xs.length xs.length hi-HT.sIx xs.length 0 lo),IsTup.new _ _⟩
end
noncomputable def ixN(n:Nat)(i:Int):Option Nat:=if 0<=i then(if i<n then some i.toNat else none)else if -(n:Int)<=i then some (i+n).toNat else none
noncomputable def atI{α:Type}(xs:List α)(i:Int):Option α:=(ixN xs.length i).bind λj=>xs[j]?
def ZpQ{n:Nat}{i:Int}{j:Nat}(h:ixN n i=some j):seqIndex? i n=some j/\j<n/\-(n:Int)<=i/\i<n:=by
 unfold ixN at h;by_cases h0:0<=i
 .rw [if_pos h0]at h;by_cases h1:i<n
  .rw [if_pos h1]at h;have e:i.toNat=j:=Y2 h;exact⟨by rw[seqIndex_of h0 h1,e],(),(),h1⟩
  .rw [if_neg h1]at h;cases h
 .rw [if_neg h0]at h;by_cases h1:-(n:Int)<=i
  .rw [if_pos h1]at h;have e:(i+n).toNat=j:=Y2 h;exact⟨by rw[seqIndex_neg () h1,e],(),h1,()⟩
  .rw [if_neg h1]at h;cases h
def Zmm{α:Type}{xs:List α}{i:Int}{v:α}(h:atI xs i=some v):∃j,seqIndex? i xs.length=some j/\xs[j]?=some v/\j<xs.length/\-(xs.length:Int)<=i/\i<xs.length:=by
 unfold atI at h;cases e:ixN xs.length i with
 |none=>rw[e]at h;cases h
 |some j=>
  rw[e]at h;let⟨h1,h2,h3,h4⟩:=ZpQ e;exact⟨j,h1,h,h2,h3,h4⟩
def Zeo{α:Type}{xs:List α}{j:Nat}{v:α}(h:xs[j]?=some v):atI xs (j:Int)=some v:=by
 have hj:j<xs.length:=(Yf.mp h).1;have e:ixN xs.length (j:Int)=some j:=by
  unfold ixN;rw[if_pos (),if_pos ()];simp
 unfold atI;rw[e];exact h
def Zsi{α:Type}(xs:List α)(v:α):atI (xs++[v]) (-1)=some v:=by
 have hl:(xs++[v]).length=xs.length+1:=by simp
 have e:ixN (xs++[v]).length (-1)=some xs.length:=by
  unfold ixN;rw[hl,if_neg nofun,if_pos ()];congr 1;omega
 unfold atI;rw[e];show(xs++[v])[xs.length]?=some v;simp
def ZpR(b:Xi):Prop:=∀o i,subscripted b false o i=operate [o,i] (getItem o i)
def IxR(X:Cx)(r:R2):Prop:=
 ∀(value slice:Xi)(pins:XG)(s:XM)(U:St)(H:Hp)(x y:V)(v u:XR)(Q:VK),Inv X pins U H s->RelV x v->RelV y u->r x y H Q->
  subscripted slice false v u=operate [v,u] (getItem v u)->wpAny (model X.prog X.w) X.A (subscriptTail value slice v u) (EP X pins U Q) X.xe s
def MtR(X:Cx)(id:String)(r:Xm):Prop:=
 ∀(pins:XG)(s:XM)(U:St)(H:Hp)(x:V)(xs:XF)(v:XR)(us:XH)(Q:VK),Inv X pins U H s->RelV x v->Vals xs us->r x xs H Q->
  wpAny (model X.prog X.w) X.A (call (.builtin id) (v::us)) (EP X pins U Q) X.xe s
section
variable{X:Cx}{a b:Xi}{ta tb:TE}{pos:Pos}
def ZcE{r:R2}(hr:IxR X r)(ha:PE X a ta)(hb:PE X b tb)(hs:ZpR b):PE X (.Subscript a b pos) (tOp r ta tb):=by
 walk_at"I";exact Subscript_ (binT ha hb I h λv u s2 x y H2 I2 rx ry q=>hr a b pins s2 U H2 x y v u Q I2 rx ry q (hs _ _))
def rIxL(K:Ydg):R2:=λx y H Q=>∃p xs i v,x=.ref p/\y=.int i/\SqL K H p xs/\atI xs i=some v/\Q v H
def rIxT(K:Ydg):R2:=λx y H Q=>∃p xs i v,x=.ref p/\y=.int i/\SqT K H p xs/\atI xs i=some v/\Q v H
def rIxS:R2:=λx y H Q=>∃z i c,x=.str z/\y=.int i/\z.length<=sizeLine/\atI z.cps.toList i=some c/\Q (.str ⟨#[c]⟩) H
def Zan:IxR X (rIxL X.K):=by
 intro value slice pins s U H x y v u Q I rx ry h hs;let⟨p,xs,i,z,rfl,rfl,hq,he,q⟩:=h;cases rx;let⟨t,rfl⟩:=ry;let⟨its,r,pl,hz⟩:=I.list hq;let⟨j,h1,h2,h3,h4,h5⟩:=Zmm he;let⟨w,ew,rw'⟩:=r.get h2;have hl:=r.length;have hn:=line63;have fin:EP X pins U Q w s:=⟨z,H,I,rw',q⟩;by_cases h0:0<=i
 .have hj:i.toNat=j:=by
   rw[seqIndex_of h0 h5]at h1;exact Y2 h1
  exact item_listR pl.isList h0 () (by rw[hj];simpa using ew) fin hs
 .have hj:(i+(its.toArray.size:Int)).toNat=j:=by
   rw[seqIndex_neg () h4]at h1;rw[Yx,<- hl];exact Y2 h1
  exact subscriptTail_builtinR (x:=w) pl.isList.typeIs slot_list_getitem.lookup
   (wpAny_getItem_list_neg (Q:=λr s'=>r=w/\EP X pins U Q r s') pl.isList () (by rw[Yx]<;>omega) () (by rw[hj];simpa using ew) ⟨rfl,fin⟩) hs
def ZaK:IxR X (rIxT X.K):=by
 intro value slice pins s U H x y v u Q I rx ry h hs;let⟨p,xs,i,z,rfl,rfl,hq,he,q⟩:=h;cases rx;let⟨t,rfl⟩:=ry;let⟨its,r,pl,hz⟩:=I.tuple hq;let⟨j,h1,h2,h3,h4,h5⟩:=Zmm he;let⟨w,ew,rw'⟩:=r.get h2;have hl:=r.length;have hn:=line63;have fin:EP X pins U Q w s:=⟨z,H,I,rw',q⟩
 exact subscriptTail_builtinR (x:=w) pl.typeIs slot_tuple_getitem.lookup
  (getItem_tuple (j:=j) (Q:=λr s'=>r=w/\EP X pins U Q r s') pl () () (by rw[Yx,<- hl];exact h1) (by simpa using ew) ⟨rfl,fin⟩) hs
def ix_str:IxR X rIxS:=by
 intro value slice pins s U H x y v u Q I rx ry h hs;let⟨z,i,c,rfl,rfl,hz,he,q⟩:=h;let⟨t,rfl⟩:=rx;let⟨t',rfl⟩:=ry;let⟨j,h1,h2,h3,h4,h5⟩:=Zmm he;have hl:z.cps.toList.length=z.length:=by simp[Str.length]
 rw[hl]at h1 h4 h5;have hn:=line63
 exact tail_any (Yc3 s z t) slot_str_getitem.lookup (getItem_str (c:=c) (by
  have e1:decide (i < -(2^63:Int))=false:=YD ();have e2:decide (i>=2^63)=false:=YD ();rw[e1,e2,Bool.or_false]) (by rw[h1];simpa using h2) ⟨.str ⟨#[c]⟩,H,I.tok _,⟨_,rfl⟩,q⟩) hs
def ZoC(its:XH)(n j:Nat)(u:XR):Obj.mapSeq (·.setIfInBounds j u) {cls:=.type "list",data:=.seq its.toArray n}={cls:=.type "list",data:=.seq (its.set j u).toArray n}:=by
 simp[Obj.mapSeq]
def Inv.lst{pins:XG}{U:St}{H:Hp}{s:XM}{p:XB}{xs:XF}(I:Inv X pins U H s)(h:H p=some (.lst xs)) :
  ∃(its:XH)(n:Nat),Vals xs its/\s.heap.get? p=some {cls:=.type "list",data:=.seq its.toArray n}/\xs.length<=sizeLine:=by
 let⟨z,its,n,r,e⟩:=I.hok p _ h;exact⟨its,n,r,e,z⟩
def Inv.lstUpd{pins:XG}{U:St}{H:Hp}{s:XM}{p:XB}{xs ys:XF}{its its':XH}{n n':Nat}{f:Obj->Obj}(I:Inv X pins U H s)(h:H p=some (.lst xs))(ho:s.heap.get? p=some {cls:=.type "list",data:=.seq its.toArray n})(hf:f {cls:=.type "list",data:=.seq its.toArray n}={cls:=.type "list",data:=.seq its'.toArray n'})(r:Vals ys its')(hz:ys.length<=sizeLine)(t:Nat) :
  Inv X pins U (upd H p (.lst ys)) {s with heap:=s.heap.update p f,toks:=t}:=by
 have e:(s.heap.update p f).get? p=some {cls:=.type "list",data:=.seq its'.toArray n'}:=by
  rw[Yay f ho (by rw[hf]<;>rfl),hf]
 refine I.write (x:=p) (e:=p) (by rw[h];trivial) (.inl rfl) (λb u hb q=>(Yct _ _ (YR hb)).trans q) ⟨_,e⟩ ?_;exact⟨hz,its',n',r,e⟩
def rSetL:V->V->V->Hp->(Hp->Prop)->Prop:=λo i v H Q=>∃p xs k j,o=.ref p/\i=.int k/\H p=some (.lst xs)/\ixN xs.length k=some j/\Q (upd H p (.lst (xs.set j v)))
def ZjB:PSet X rSetL:=by
 intro pins s U H o i v ov iv u Q I ro ri rv h;let⟨p,xs,k,j,rfl,rfl,hp,hj,q⟩:=h;cases ro;let⟨t,rfl⟩:=ri;let⟨its,n,r,ho,hz⟩:=I.lst hp;let⟨h1,h2,h3,h4⟩:=ZpQ hj;have hl:=r.length;have hn:=line63
 have I':Inv X pins U (upd H p (.lst (xs.set j v))) {s with heap:=s.heap.update p (Obj.mapSeq (·.setIfInBounds j u))}:=
  I.lstUpd hp ho (ZoC its n j u) (r.set rv j) (by rw[YbH];exact hz) s.toks
 by_cases h0:0<=k
 .have hk:k.toNat=j:=by
   rw[seqIndex_of h0 h4]at h1;exact Y2 h1
  exact PySem.W.ki_setAt ho h0 () (by rw[Yx,<- hl];exact h4) (by rw[hk];exact⟨_,I',q⟩)
 .have hk:(k+(its.toArray.size:Int)).toNat=j:=by
   rw[seqIndex_neg () h3]at h1;rw[Yx,<- hl];exact Y2 h1
  exact PySem.W.ki_setBack ho () (by rw[Yx,<- hl];exact h3) () (by rw[hk];exact⟨_,I',q⟩)
def Zk0(lo hi:XS)(n:Nat):(sliceBounds lo hi none n).1=((HT.sIx n 0 lo:Nat):Int)/\(sliceBounds lo hi none n).2.1=((HT.sIx n n hi:Nat):Int)/\(sliceBounds lo hi none n).2.2=1:=by
 refine⟨?_,?_,rfl⟩
 .cases lo with
  |none=>simp[sliceBounds,HT.sIx]
  |some i=>
   simp only[sliceBounds,HT.sIx,Option.getD_none,show(1:Int)>0 by decide,Ybr];by_cases h:i<0
   .simp only[h,Ybr];rw[Int.min_eq_left (Int.add_le_of_le_sub_right (Int.sub_self (n:Int)▸Int.le_of_lt h)),Int.ofNat_toNat,Int.max_comm]
   .simp only[h,if_false];rw[HT.Zp8 _ _ h];exact Int.max_eq_right (Int.natCast_nonneg _)
 .cases hi with
  |none=>simp[sliceBounds,HT.sIx]
  |some i=>
   simp only[sliceBounds,HT.sIx,Option.getD_none,show(1:Int)>0 by decide,Ybr];by_cases h:i<0
   .simp only[h,Ybr];rw[Int.min_eq_left (Int.add_le_of_le_sub_right (Int.sub_self (n:Int)▸Int.le_of_lt h)),Int.ofNat_toNat,Int.max_comm]
   .simp only[h,if_false];rw[HT.Zp8 _ _ h];exact Int.max_eq_right (Int.natCast_nonneg _)
def ZjC(its:XH)(lo hi:XS):slicePick its.toArray lo hi none=((its.drop (HT.sIx its.length 0 lo)).take (HT.sIx its.length its.length hi-HT.sIx its.length 0 lo)).toArray:=by
 let⟨h1,h2,h3⟩:=Zk0 lo hi its.toArray.size;unfold slicePick;rw[h1,h2,h3];simp only[sliceRange_one,pick_run,Yx]<;>rfl
def rSlL(K:Ydg):V->Option Int->Option Int->Hp->VK->Prop:=λx lo hi H Q=>∃a xs,x=.ref a/\SqL K H a xs/\∀p,H p=none->Q (.ref p) (upd H p (.lst (cutV xs lo hi)))
def ZcF:SlR X (rSlL X.K):=by
 intro pins s U H x v vl vu lo hi sl Q I rx hs pl pu h;let⟨a,xs,rfl,hx,q⟩:=h;cases rx;let⟨its,r,ht,hz⟩:=I.list hx;have hlen:=r.length;refine⟨"list",_,slot_list_getitem.lookup,ht.isList.typeIs,?_⟩;refine wpAny_getItem_list_slice ht.isList hs pl pu .none (by simp) ?_ (by rw[Yx]<;>omega);rw[ZjC,<- hlen];refine⟨.ref s.heap.objs.size,_,I.laid (t':=s.toks) (o:=.lst (cutV xs lo hi)) (λb ob q=>Yl _ q) (Yk _) ?_,rfl,q _ (I.hok.fresh (Yk _))⟩;exact⟨Yj (Zhh xs lo hi) hz,_,0,(r.drop (HT.sIx xs.length 0 lo)).take (HT.sIx xs.length xs.length hi-HT.sIx xs.length 0 lo),YJ _ rfl⟩
noncomputable def flatV:V->Bool
 |.non=>true
 |.bl _=>true
 |.int _=>true
 |.str _=>true
 |_=>false
noncomputable def eqV:V->V->Bool
 |.non,.non=>true
 |.bl a,.bl b=>a==b
 |.bl a,.int b=>(if a then 1 else 0)==b
 |.int a,.bl b=>a==(if b then 1 else 0)
 |.int a,.int b=>a==b
 |.str a,.str b=>a==b
 |_,_=>false
def eqAt_V{A:XY}{s:XM}{y x:V}{u v:XR}(ry:RelV y u)(rx:RelV x v)(fy:flatV y=true)(fx:flatV x=true):SeqAt.EqAt A s u v (eqV y x):=by
 cases y with
 |non=>
  cases ry;cases x with
  |non=>cases rx;exact SeqAt.EqAt.same _
  |bl b=>cases rx;exact SeqAt.EqAt.none_bool b
  |int b=>let⟨t,rfl⟩:=rx;exact SeqAt.EqAt.none_int b t
  |str b=>let⟨t,rfl⟩:=rx;exact SeqAt.EqAt.none_str b t
  |_=>exact absurd (show false=true from fx) YC
 |bl a=>
  cases ry;cases x with
  |non=>cases rx;exact SeqAt.EqAt.bool_none a
  |bl b=>cases rx;exact SeqAt.EqAt.bool_bool a b
  |int b=>let⟨t,rfl⟩:=rx;exact SeqAt.EqAt.bool_int a b t
  |str b=>let⟨t,rfl⟩:=rx;exact SeqAt.EqAt.bool_str a b t
  |_=>exact absurd (show false=true from fx) YC
 |int a=>
  let⟨t',rfl⟩:=ry;cases x with
  |non=>cases rx;exact SeqAt.EqAt.int_none a t'
  |bl b=>cases rx;exact SeqAt.EqAt.int_bool a t' b
  |int b=>let⟨t,rfl⟩:=rx;exact SeqAt.EqAt.int_int a t' b t
  |str b=>let⟨t,rfl⟩:=rx;exact SeqAt.EqAt.int_str a t' b t
  |_=>exact absurd (show false=true from fx) YC
 |str a=>
  let⟨t',rfl⟩:=ry;cases x with
  |non=>cases rx;exact SeqAt.EqAt.str_none a t'
  |bl b=>cases rx;exact SeqAt.EqAt.str_bool a t' b
  |int b=>let⟨t,rfl⟩:=rx;exact SeqAt.EqAt.str_int a t' b t
  |str b=>let⟨t,rfl⟩:=rx;exact SeqAt.EqAt.str_str a t' b t
  |_=>exact absurd (show false=true from fx) YC
 |_=>exact absurd (show false=true from fy) YC
noncomputable def eqU(x:V)(u:XR):Bool:=match u with
 |.none=>eqV .non x
 |.bool b=>eqV (.bl b) x
 |.int i _=>eqV (.int i) x
 |.str z _=>eqV (.str z) x
 |_=>false
def Zuf{x y:V}{u:XR}(r:RelV y u)(f:flatV y=true):eqU x u=eqV y x:=by
 cases y with
 |non=>cases r;rfl
 |bl b=>cases r;rfl
 |int i=>let⟨t,rfl⟩:=r;rfl
 |str z=>let⟨t,rfl⟩:=r;rfl
 |_=>exact absurd (show false=true from f) YC
theorem Zhi{x:V}:∀{xs:XF}{us:XH},Vals xs us->xs.all flatV=true->us.any (eqU x)=xs.any λy=>eqV y x
 |_,_,.nil,_=>rfl
 |y::xs,u::us,.cons r t,f=>by
  rw[List.all_cons,Yq]at f;rw[Yb3,Yb3,Zuf r f.1,Zhi t f.2]
theorem ZeS{A:XY}{s:XM}{x:V}{v:XR}(rx:RelV x v)(fx:flatV x=true):∀{xs:XF}{us:XH},Vals xs us->xs.all flatV=true->∀u∈us,SeqAt.EqAt A s u v (eqU x u)
 |_,_,.nil,_=>λu hu=>by cases hu
 |y::xs,u::us,.cons r t,f=>λu' hu=>by
  rw[List.all_cons,Yq]at f;rcases Yh.mp hu with rfl|hu
  .rw [Zuf r f.1];exact eqAt_V r rx f.1 fx
  .exact ZeS rx fx t f.2 u' hu
noncomputable def inV(x:V)(xs:XF):Bool:=xs.any λy=>eqV y x
def rIn(K:Ydg)(neg:Bool):R2:=λx y H Q=>∃p xs,y=.ref p/\(SqL K H p xs\/SqT K H p xs)/\flatV x=true/\xs.all flatV=true/\Q (.bl (if neg then !inV x xs else inV x xs)) H
def ZcP:OpR X (compareOp .In) (rIn X.K false):=by
 walk_at"J";let⟨p,xs,rfl,hq,fx,fs,q⟩:=h;cases ry;rcases hq with hq|hq
 .obtain ⟨its,r,pl,hz⟩:=I.list hq;refine SeqAt.in_listAt (eqU x) pl.isList (λw hw=>ZeS rx fx r fs w (by simpa using hw)) ⟨.bl _,H,I,rfl,?_⟩;rw[show its.toArray.any (eqU x)=its.any (eqU x)by simp,Zhi r fs];exact q
 .obtain ⟨its,r,pl,hz⟩:=I.tuple hq;refine SeqAt.in_tupleAt (eqU x) pl (λw hw=>ZeS rx fx r fs w (by simpa using hw)) ⟨.bl _,H,I,rfl,?_⟩;rw[show its.toArray.any (eqU x)=its.any (eqU x)by simp,Zhi r fs];exact q
def Zdm:OpR X (compareOp .NotIn) (rIn X.K true):=by
 walk_at"J";let⟨p,xs,rfl,hq,fx,fs,q⟩:=h;cases ry;rcases hq with hq|hq
 .obtain ⟨its,r,pl,hz⟩:=I.list hq;refine SeqAt.notIn_listAt (eqU x) pl.isList (λw hw=>ZeS rx fx r fs w (by simpa using hw)) ⟨.bl _,H,I,rfl,?_⟩;rw[show its.toArray.any (eqU x)=its.any (eqU x)by simp,Zhi r fs];exact q
 .obtain ⟨its,r,pl,hz⟩:=I.tuple hq;refine SeqAt.notIn_tupleAt (eqU x) pl (λw hw=>ZeS rx fx r fs w (by simpa using hw)) ⟨.bl _,H,I,rfl,?_⟩;rw[show its.toArray.any (eqU x)=its.any (eqU x)by simp,Zhi r fs];exact q
def Zk1:CallR X (.builtin "len") (λxs H Q=>∃p ys,xs=[.ref p]/\(SqL X.K H p ys\/SqT X.K H p ys)/\Q (.int ys.length) H):=by
 walk_at"V";let⟨p,ys,rfl,hq,q⟩:=h;let⟨u,rfl,rx⟩:=vals1 r;cases rx;have hn:=line63;rcases hq with hq|hq
 .obtain ⟨its,r',pl,hz⟩:=I.list hq;have hlen:=r'.length;exact Calls.call_len_list pl.isList (by simp only[Yx]<;>omega) ⟨.int ys.length,H,I.tok _,⟨s.toks+1,by rw[Yx,hlen]⟩,q⟩
 .obtain ⟨its,r',pl,hz⟩:=I.tuple hq;have hlen:=r'.length;exact len_tuple pl (by simp only[Yx]<;>omega) ⟨.int ys.length,H,I.tok _,⟨s.toks+1,by rw[Yx,hlen]⟩,q⟩
def Zk2:CallR X (.builtin "len") (λxs H Q=>∃z,xs=[.str z]/\z.length<=sizeLine/\Q (.int z.length) H):=by
 walk_at"V";let⟨z,rfl,hz,q⟩:=h;let⟨u,rfl,t,rfl⟩:=vals1 r;have hn:=line63;exact len_str () ⟨.int z.length,H,I.tok _,⟨_,rfl⟩,q⟩
def CallR.or{f:XR}{r r':List V->Hp->VK->Prop}(h:CallR X f r)(h':CallR X f r'):CallR X f (λxs H Q=>r xs H Q\/r' xs H Q):=by
 intro pins s U H xs us Q I rs q;rcases q with q|q
 .exact h pins s U H xs us Q I rs q
 .exact h' pins s U H xs us Q I rs q
def Zk3:CallR X (.type "list") (λxs H Q=>∃p ys,xs=[.ref p]/\(SqL X.K H p ys\/SqT X.K H p ys)/\∀l,H l=none->Q (.ref l) (upd H l (.lst ys))):=by
 walk_at"V";let⟨p,ys,rfl,hq,q⟩:=h;let⟨u,rfl,rx⟩:=vals1 r;cases rx
 have fin:∀(its:XH),Vals ys its->ys.length<=sizeLine->∀(h':XT)(c':Nat),(∀b o',s.heap.get? b=some o'->h'.get? b=some o')->
   h'.get? s.heap.objs.size=some {cls:=.type "list",dict:=none,data:=.seq its.toArray c',slots:=#[]}->EP X pins U Q (.ref s.heap.objs.size) {s with heap:=h'}:=λits r' hz h' c' kp e=>
  ⟨.ref s.heap.objs.size,_,I.laid (t':=s.toks) kp (Yk _) (show ObjOk X.prog X.w _ h' _ (.lst ys)from⟨hz,its,c',r',e⟩),rfl,q _ (I.hok.fresh (Yk _))⟩
 rcases hq with hq|hq
 .obtain ⟨its,r',pl,hz⟩:=I.list hq;have hlen:=r'.length;let⟨o,ho,hc,n,hd⟩:=pl.isList;exact call_list_seq p (.inl rfl) ho hc hd (λh' c' kp e=>fin its r' hz h' c' kp e) (by simp only[Yx]<;>omega)
 .obtain ⟨its,r',pl,hz⟩:=I.tuple hq;have hlen:=r'.length;let⟨o,ho,hc,n,hd⟩:=pl;exact call_list_seq p (.inr rfl) ho hc hd (λh' c' kp e=>fin its r' hz h' c' kp e) (by simp only[Yx]<;>omega)
def tyV(K:Ydg)(T:String)(x:V)(H:Hp):Prop:=match x with
 |.str _=>T="str"
 |.int _=>T="int"
 |.ref p=>(T="list"/\∃xs,SqL K H p xs)\/(T="tuple"/\∃o,K.lookup p=some o/\o.cls=.type "tuple"/\o.dict=none)\/
  (T="dict"/\((∃kvs,H p=some (.dK kvs))\/∃kvs,H p=some (.dT kvs)))\/(T="set"/\∃S n,H p=some (.set S n))
 |_=>False
def Zug{pins:XG}{U:St}{H:Hp}{s:XM}{T:String}{x:V}{v:XR}(I:Inv X pins U H s)(r:RelV x v)(ty:tyV X.K T x H) :
  s.TypeIs v T/\∀a,v=.ref a->∃ob,s.heap.get? a=some ob/\ob.dict=none:=by
 cases x with
 |str z=>
  let⟨t,rfl⟩:=r;cases (show T="str"from ty);exact⟨Yc3 s z t,λ_ e=>nomatch e⟩
 |int i=>
  let⟨t,rfl⟩:=r;cases (show T="int"from ty);exact⟨typeIs_int s i t,λ_ e=>nomatch e⟩
 |ref p=>
  cases r;rcases ty with⟨rfl,xs,hq⟩|⟨rfl,o,hk,hc,hd⟩|⟨rfl,hk⟩|⟨rfl,S,n,hk⟩
  .obtain ⟨its,_,pl,_⟩:=I.list hq;refine⟨pl.isList.typeIs,λa e=>?_⟩;cases e;let⟨o,n,e,c,hd,_⟩:=pl;exact⟨o,e,hd⟩
  .refine ⟨⟨o,I.kIn p o hk,hc⟩,λa e=>?_⟩;cases e;exact⟨o,I.kIn _ o hk,hd⟩
  .have z:∃o,s.heap.get? p=some o/\o.ExactDict:=by
    rcases hk with⟨kvs,hk⟩|⟨kvs,hk⟩
    .obtain ⟨_,_,_,_,o,_,_,e,ex,_⟩:=I.hok p _ hk;exact⟨o,e,ex⟩
    .obtain ⟨_,_,_,_,o,_,_,e,ex,_⟩:=I.hok p _ hk;exact⟨o,e,ex⟩
   let⟨o,e,ex⟩:=z;refine⟨⟨o,e,ex.1⟩,λa e2=>?_⟩;cases e2;exact⟨o,e,ex.2.1⟩
  .obtain ⟨o,_,_,_,e,ex,_⟩:=I.hok p _ hk;refine⟨⟨o,e,ex.1⟩,λa e2=>?_⟩;cases e2;exact⟨o,e,ex.2.1⟩
 |_=>exact False.elim ty
def tBM0(K:Ydg)(T:String)(r:Xm)(to:TE):TE:=λU H Q=>to U H λx H1=>tyV K T x H1/\r x [] H1 Q
def tBM(K:Ydg)(T:String)(r:Xm)(to:TE)(t:TA):TE:=λU H Q=>to U H λx H1=>tyV K T x H1/\t U H1 λxs H2=>r x xs H2 Q
variable{o e:Xi}{es:Xd}{to:TE}{t:TA}{name:Str}{apos cpos:Pos}{T id:String}{r:Xm}
def ZpS(pa:PlainAttrs T)(slot:Slot T name id)(hty:typeOf (.builtin id)=pure (.type "method_descriptor"))(hm:MtR X id r)(ho:PE X o to)(hbase:attributeBase o name X.env (eval o X.env)=eval o X.env:=by rfl)(hline:(apos.endLine==cpos.line)=true:=by rfl):PE X (.Call (.Attribute o name apos) [] [] cpos) (tBM0 X.K T r to):=by
 walk_at"I";refine wpAny_Call_method0_late hbase hline (thn (ho pins s U H _ I h) λv s1 hzq=>?_);let⟨x,H1,I1,r1,ty,q1⟩:=hzq;let⟨h1,h2⟩:=Zug I1 r1 ty;exact⟨T,id,pa,slot,hty,h1,h2,YbA rfl (PySem.evalArgs_none (hm pins s1 U H1 x [] v [] Q I1 r1 .nil q1))⟩
def Zbj(pa:PlainAttrs T)(slot:Slot T name id)(hty:typeOf (.builtin id)=pure (.type "method_descriptor"))(hm:MtR X id r)(ho:PE X o to)(ha:PA X (e::es) t)(hbase:attributeBase o name X.env (eval o X.env)=eval o X.env:=by rfl)(hfew:((backTo cpos (starEach (e::es) X.env)).all (λx=>!x.1)&&(backToKw cpos (keywordEach [] X.env)).all (λx=>x.1.isSome) && decide ((e::es).length+([]:List Keyword).length+(if([]:List Keyword).isEmpty then 0 else 1)<30))=true:=by rfl)(hline:(apos.endLine==cpos.line)=true:=by rfl)(hs:starEach (e::es) X.env=(false,eval e X.env)::starEach es X.env:=by rfl)(hplain:(backTo cpos (starEach es X.env)).any (·.1)=false:=by rfl) :
  PE X (.Call (.Attribute o name apos) (e::es) [] cpos) (tBM X.K T r to t):=by
 walk_at"I";refine wpAny_Call_method_late hbase hfew hline rfl (thn (ho pins s U H _ I h) λv s1 hzq=>?_);let⟨x,H1,I1,r1,ty,q1⟩:=hzq;let⟨h1,h2⟩:=Zug I1 r1 ty;refine⟨T,id,pa,slot,hty,h1,h2,?_⟩;have hA:=ha cpos pins s1 U H1 _ I1 q1;rw[hs]at hA |-;refine YbA (by show(false||(backTo cpos (starEach es X.env)).any (·.1))=false;rw[hplain]<;>rfl) (YcC ?_);exact thn hA λus s2 ⟨vs,H2,I2,r2,q2⟩=>hm pins s2 U H2 x vs v us Q I2 r1 r2 q2
end
def MtM(X:Cx)(id:String)(r:Xm):Prop:=
 ∀(pins:XG)(s:XM)(U:St)(H:Hp)(x:V)(xs:XF)(v:XR)(us:XH)(Q:VK),Inv X pins U H s->RelV x v->Vals xs us->r x xs H Q->
  wpAny (model X.prog X.w) X.A (call (.builtin id) (v::us)) (EP X pins U Q) X.xe s
def Vals.one{x:V}{us:XH}(h:Vals [x] us):∃u,us=[u]/\RelV x u:=by
 cases h with
 |cons r t=>cases t;exact⟨_,rfl,r⟩
def Vals.zero:∀{us:XH},Vals [] us->us=[]
 |_,.nil=>rfl
theorem Vals.dropLast{xs:XF}{us:XH}(h:Vals xs us):Vals xs.dropLast us.dropLast:=by
 induction h with
 |nil=>exact .nil
 |cons r t ih=>
  cases t with
  |nil=>exact .nil
  |cons q t'=>exact .cons r ih
theorem Vals.rep{xs:XF}{us:XH}(h:Vals xs us):∀k:Nat,Vals (List.replicate k xs).flatten (List.replicate k us).flatten
 |0=>.nil
 |k+1=>by
  rw[Ybd,Ybd,YbZ,YbZ];exact Vals.append h (Vals.rep h k)
def ZoD{α:Type}(l:List α):l.eraseIdx (l.length-1)=l.dropLast:=by
 induction l with
 |nil=>rfl
 |cons a r ih=>
  cases r with
  |nil=>rfl
  |cons b r=>
   have e:(a::b::r).length-1=((b::r).length-1)+1:=by
    rfl
   rw[e,List.eraseIdx_cons_succ,ih];all_goals rfl
theorem Zk4(its:XH):∀(k:Nat)(acc:XH),
  List.foldl (λx1 x2=>x1++x2) acc.toArray (List.replicate k its.toArray)=(acc++(List.replicate k its).flatten).toArray
 |0,acc=>by simp
 |k+1,acc=>by
  have e:acc.toArray++its.toArray=(acc++its).toArray:=by simp
  have e2:(acc++its)++(List.replicate k its).flatten=acc++(List.replicate (k+1) its).flatten:=by
   rw[Ybd,YbZ,YQ]
  rw[<- e2,<- Zk4 its k (acc++its),<- e,Ybd,Yci]
section
variable{X:Cx}{pins:XG}{U:St}{H:Hp}{s:XM}{l b:XB}{xs ys zs:XF}
def Inv.lset{its its':XH}{n:Nat}{f:Array Value->Array Value}{t':Nat}(I:Inv X pins U H s)(hH:H l=some (.lst xs))(e:s.heap.get? l=some {cls:=.type "list",data:=.seq its.toArray n})(hf:f its.toArray=its'.toArray)(hv:Vals ys its')(hz:ys.length<=sizeLine) :
  Inv X pins U (upd H l (.lst ys)) {s with heap:=s.heap.update l (Obj.mapSeq f),toks:=t'}:=by
 have q:=PySem.IsL.update e f;rw[hf]at q;refine I.write (x:=l) (e:=l) (by rw[hH];exact trivial) (.inl rfl) (λb' u hb hu=>(Yct s.heap (Obj.mapSeq f) (YR hb)).trans hu) ⟨_,q⟩ ?_;exact⟨hz,its',_,hv,q⟩
def Inv.lnew{its:XH}{t':Nat}(I:Inv X pins U H s)(hv:Vals ys its)(hz:ys.length<=sizeLine) :
  Inv X pins U (upd H s.heap.objs.size (.lst ys)) {s with heap:=s.heap.push {cls:=.type "list",data:=.seq its.toArray},toks:=t'}:=
 I.laid (λ_ _ q=>Yl _ q) (Yk _) ⟨hz,its,0,hv,YJ _ rfl⟩
def Inv.fresh(I:Inv X pins U H s):H s.heap.objs.size=none:=I.hok.fresh (Yk _)
def Inv.lstM(I:Inv X pins U H s)(hH:H l=some (.lst xs)):xs.length<=sizeLine/\∃(its:XH)(n:Nat),Vals xs its/\xs.length=its.length/\s.heap.get? l=some {cls:=.type "list",data:=.seq its.toArray n}:=by
 let⟨z,its,n,r,e⟩:=I.hok l _ hH;exact⟨z,its,n,r,r.length,e⟩
def Znt{n:Nat}(h:n<=sizeLine):Builtin.List.listTooLong n=false:=by
 unfold Builtin.List.listTooLong;exact YD ()
end
section
variable{X:Cx}
def ZpT:V->List V->Hp->VK->Prop:=λx vs H Q=>∃l xs y,x=.ref l/\vs=[y]/\H l=some (.lst xs)/\xs.length<sizeLine/\Q .non (upd H l (.lst (xs++[y])))
def ZaT:MtM X "list.append" ZpT:=by
 intro pins s U H x vs v us Q I rx rv h;let⟨l,xs,y,rfl,rfl,hH,hz,q⟩:=h;cases rx;let⟨u,rfl,ru⟩:=rv.one;let⟨z,its,n,r,hl,e⟩:=I.lstM hH;refine YbS F.slot_list_append ⟨_,e,rfl⟩ F.entry_list_append (F.args_list_append_2 _ _) (PySem.list_append l its.toArray n u (by rw[Yx];omega)) ⟨e,?_⟩;refine⟨.non,_,I.lset (its':=its++[u]) hH e (by simp) (r.append (.cons ru .nil)) ?_,rfl,q⟩;rw[Yc,List.length_singleton];omega
def ZpU:V->List V->Hp->VK->Prop:=λx vs H Q=>∃l b xs zs,x=.ref l/\vs=[.ref b]/\H l=some (.lst xs)/\H b=some (.lst zs)/\xs.length+zs.length<=sizeLine/\Q .non (upd H l (.lst (xs++zs)))
def Zhj:MtM X "list.extend" ZpU:=by
 intro pins s U H x vs v us Q I rx rv h;let⟨l,b,xs,zs,rfl,rfl,hH,hB,hz,q⟩:=h;cases rx;let⟨u,rfl,ru⟩:=rv.one;cases ru;let⟨z,its,n,r,hl,e⟩:=I.lstM hH;let⟨z2,its2,n2,r2,hl2,e2⟩:=I.lstM hB;have hsz:its.toArray.size+its2.toArray.size<=sizeLine:=by rw[Yx,Yx];omega
 have hlong:¬(!its.toArray.isEmpty&&Builtin.List.listTooLong (its.toArray.size+its2.toArray.size))=true:=by
  rw[Znt hsz,Yco];exact YC
 refine YbS F.slot_list_extend ⟨_,e,rfl⟩ F.entry_list_extend (F.args_list_extend_2 _ _)
  (AutoSeq1.list_extend_list_list_0 l its.toArray n b its2.toArray n2 hlong (by rw[Yx];omega) ()) ⟨e,e2,?_⟩
 refine⟨.non,_,I.lset (its':=its++its2) hH e (by simp) (r.append r2) ?_,rfl,q⟩;rw[Yc];omega
def rPop:V->List V->Hp->VK->Prop:=λx vs H Q=>∃l xs y,x=.ref l/\vs=[]/\H l=some (.lst xs)/\xs[xs.length-1]?=some y/\Q y (upd H l (.lst xs.dropLast))
def Zuh:MtM X "list.pop" rPop:=by
 intro pins s U H x vs v us Q I rx rv h;let⟨l,xs,y,rfl,rfl,hH,hy,q⟩:=h;cases rx;have hus:=rv.zero;subst hus;let⟨z,its,n,r,hl,e⟩:=I.lstM hH;let⟨u,hu,ru⟩:=r.get hy;have hy':its.toArray[its.toArray.size-1]?=some u:=by
  show its.toArray[its.length-1]?=some u;rw[<- YaY,<- hl];exact hu
 refine YbS F.slot_list_pop ⟨_,e,rfl⟩ F.entry_list_pop (F.args_list_pop_1 _) (MeetsSeq.list_pop_last l its.toArray n u hy' (by rw[Yx];omega)) ⟨e,?_⟩;refine⟨y,_,I.lset (its':=its.dropLast) hH e ?_ r.dropLast ?_,ru,q⟩
 .show its.toArray.eraseIdxIfInBounds (its.toArray.size-1)=its.dropLast.toArray;rw[Yx,List.eraseIdxIfInBounds_toArray,ZoD]
 .rw [List.length_dropLast];omega
def rCat:R2:=λx y H Q=>∃l b xs zs,x=.ref l/\y=.ref b/\H l=some (.lst xs)/\H b=some (.lst zs)/\xs.length+zs.length<=sizeLine/\∀p,H p=none->Q (.ref p) (upd H p (.lst (xs++zs)))
def Zk5:OpR X (binaryOp .Add) rCat:=by
 walk_at"J";let⟨l,b,xs,zs,rfl,rfl,hH,hB,hz,q⟩:=h;cases rx;cases ry;let⟨z,its,n,r,hl,e⟩:=I.lstM hH;let⟨z2,its2,n2,r2,hl2,e2⟩:=I.lstM hB;refine PySem.P.add_list e e2 ?_ (by rw[Yx,Yx];omega);have ea:its.toArray++its2.toArray=(its++its2).toArray:=by simp
 rw[ea];exact⟨.ref _,_,I.lnew (t':=s.toks) (r.append r2) (by rw[Yc];omega),rfl,q _ I.fresh⟩
def rRep:R2:=λx y H Q=>∃l k xs,x=.ref l/\y=.int k/\H l=some (.lst xs)/\-(2^63)<=k/\k<2^63/\xs.length*k.toNat<=sizeLine/\
 ∀p,H p=none->Q (.ref p) (upd H p (.lst (List.replicate k.toNat xs).flatten))
def ZuX{α:Type}(xs:List α)(k:Nat):(List.replicate k xs).flatten.length=k*xs.length:=by
 induction k with
 |zero=>simp
 |succ k ih=>rw[Ybd,YbZ,Yc,ih,YcE,Nat.add_comm]
def Zui:OpR X (binaryOp .Mult) rRep:=by
 walk_at"J";let⟨l,k,xs,rfl,rfl,hH,h1,h2,hz,q⟩:=h;cases rx;let⟨t,rfl⟩:=ry;let⟨z,its,n,r,hl,e⟩:=I.lstM hH;have hlen:its.toArray.size*k.toNat<=sizeLine:=by rw[Yx,<- hl];exact hz
 have hcap:¬its.toArray.size*k.toNat>(2^63-1)/8:=by
  have:(sizeLine:Nat)<=(2^63-1)/8:=nofun;omega
 have hfit:¬(!Builtin.List.listFitsIndex k)=true:=by
  rw[fitsIndex_both h1 h2];exact YC
 have hlong:¬Builtin.List.listTooLong (its.toArray.size*k.toNat)=true:=by
  rw[Znt hlen];exact YC
 have hnew:List.foldl (λx1 x2=>x1++x2) #[] (List.replicate (if its.toArray.isEmpty=true then 0 else k.toNat) its.toArray)=(List.replicate k.toNat its).flatten.toArray:=by
  have f0:∀m:Nat,List.foldl (λx1 x2=>x1++x2) #[] (List.replicate m its.toArray)=(List.replicate m its).flatten.toArray:=λm=>by
   have:=Zk4 its m [];rw[YaH]at this;exact this
  rw[f0];cases its with
  |nil=>simp
  |cons a r'=>rw[if_neg (by simp)]
 refine wpAny_binaryOp_repeat_ref (T:="list") (U:="int") nofun ⟨_,e,rfl⟩ (λs'=>typeIs_int s' k t) noFill_list_mul F.fills_int_mul F.slot_int_rmul repeat_list F.slot_int_index.lookup
  (YbS F.slot_int_rmul (typeIs_int s k t) F.entry_int_rmul (F.args_int_rmul_2 _ _) (int___rmul___int_list k t l its.toArray n) ⟨e,rfl,⟨_,e,rfl⟩,YbS F.slot_list_mul ⟨_,e,rfl⟩ F.entry_list_mul (F.args_list_mul_2 _ _) (AutoListH.list___mul___list_int_3 l its.toArray n k t hfit hcap hlong) ⟨e,?_⟩⟩)
 rw[hnew];exact⟨.ref _,_,I.lnew (t':=s.toks) (r.rep k.toNat) (by rw[ZuX,Ybu];exact hz),rfl,q _ I.fresh⟩
end
section
variable{prog:XI}{w:XO}{A:XY}{E:XE}{s:XM}
end
section
variable{X:Cx}
end
section
variable{κ:Type} [DecidableEq κ]
noncomputable def valV(kvs:List (κ×V))(k:κ):Option V:=(kvs.find? λkv=>decide (kv.1=k)).map (·.2)
noncomputable def putK(kvs:List (κ×V))(k:κ)(v:V):List (κ×V):=
 if(kvs.any λkv=>decide (kv.1=k))=true then kvs.map (λkv=>if kv.1=k then(kv.1,v)else kv)else kvs++[(k,v)]
noncomputable def dropK(kvs:List (κ×V))(k:κ):List (κ×V):=kvs.filter λkv=>decide (kv.1≠k)
def Zsj{k:κ}:valV ([]:List (κ×V)) k=none:=rfl
def Zbu{p:κ×V}{r:List (κ×V)}{k:κ}(e:p.1=k):valV (p::r) k=some p.2:=by simp[valV,YaI,e]
def Zbm{p:κ×V}{r:List (κ×V)}{k:κ}(e:¬p.1=k):valV (p::r) k=valV r k:=by simp[valV,YaI,e]
theorem Zct(k:κ):∀kvs:List (κ×V),(kvs.any λkv=>decide (kv.1=k))=(valV kvs k).isSome
 |[]=>rfl
 |p::r=>by
  rw[Yb3];by_cases e:p.1=k
  .simp only[Zbu e,YG e,Bool.true_or,Option.isSome_some]
  .rw [Zbm e,YD e,Bool.false_or];exact Zct k r
theorem Znu(k j:κ)(y:V):∀kvs:List (κ×V),valV (kvs.map λkv=>if kv.1=k then(kv.1,y)else kv) j=(valV kvs j).map λx=>if j=k then y else x
 |[]=>rfl
 |p::r=>by
  have ih:=Znu k j y r;rw[Yz];by_cases h:p.1=k
  .rw [if_pos h];by_cases e:p.1=j
   .rw [Zbu (p:=(p.1,y)) e,Zbu e,Ycc,if_pos (e.symm.trans h)]
   .rw [Zbm (p:=(p.1,y)) e,Zbm e,ih]
  .rw [if_neg h];by_cases e:p.1=j
   .rw [Zbu (p:=p) e,Zbu e,Ycc,if_neg (λz=>h (e.trans z))]
   .rw [Zbm (p:=p) e,Zbm e,ih]
theorem Zk6(k j:κ)(y:V):∀kvs:List (κ×V),valV kvs k=none->valV (kvs++[(k,y)]) j=if j=k then some y else valV kvs j
 |[],_=>by
  by_cases e:k=j
  .rw [if_pos e.symm];exact Zbu (p:=(k,y)) e
  .rw [if_neg (λz=>e z.symm)];exact Zbm (p:=(k,y)) e
 |p::r,hn=>by
  rw[Yb7];have hk:¬p.1=k:=λz=>by rw[Zbu z]at hn;cases hn
  rw[Zbm hk]at hn;have ih:=Zk6 k j y r hn;by_cases e:p.1=j
  .rw [Zbu e,Zbu e,if_neg (λz=>hk (e.trans z))]
  .rw [Zbm e,Zbm e,ih]
def Zsk(kvs:List (κ×V))(k j:κ)(y:V):valV (putK kvs k y) j=if j=k then some y else valV kvs j:=by
 unfold putK;by_cases a:(kvs.any λkv=>decide (kv.1=k))=true
 .rw [if_pos a,Znu];rw[Zct]at a;by_cases e:j=k
  .obtain ⟨x,hx⟩:=YbV.mp a;rw[if_pos e,e,hx,Ycc,if_pos rfl]
  .rw [if_neg e];cases valV kvs j with
   |none=>rfl
   |some x=>rw[Ycc,if_neg e]
 .rw [if_neg a];refine Zk6 k j y kvs ?_;rw[Zct]at a;cases q:valV kvs k with
  |none=>rfl
  |some x=>rw[q]at a;exact(a rfl).elim
def Zep(kvs:List (κ×V))(k:κ)(v:V):(putK kvs k v).length<=kvs.length+1:=by
 unfold putK;split
 .rw [Ya];omega
 .rw [Yc,Yi,Yac];omega
def Zsl{kvs:List (κ×V)}{k:κ}(v:V)(h:valV kvs k=none):putK kvs k v=kvs++[(k,v)]:=by
 unfold putK;rw[Zct,h];exact if_neg nofun
def RelO.isSome_eq{o:Option V}{u:Option Value}(r:RelO o u):o.isSome=u.isSome:=by
 cases o with
 |none=>cases u with
  |none=>rfl
  |some _=>exact(show False from r).elim
 |some _=>cases u with
  |none=>exact(show False from r).elim
  |some _=>rfl
theorem RelO.getD{o:Option V}{u:Option Value}{d:V}{d':XR}(r:RelO o u)(rd:RelV d d'):RelV (o.getD d) (u.getD d'):=by
 cases o with
 |none=>cases u with
  |none=>exact rd
  |some _=>exact(show False from r).elim
 |some _=>cases u with
  |none=>exact(show False from r).elim
  |some _=>exact r
def KV.val{kvs:List (κ×V)}{vs:List (κ×Value)}(r:KV kvs vs)(k:κ):RelO (valV kvs k) (valueAt vs k):=by
 unfold KV at r;induction r with
 |nil=>exact True.intro
 |@cons p q ps qs h t ih=>
  let⟨h1,h2⟩:=h;by_cases e:p.1=k
  .have e':q.1=k:=h1.symm.trans e;have b:valueAt (q::qs) k=some q.2:=by simp[valueAt,YaI,e']
   rw[Zbu e,b];exact h2
  .have e':¬q.1=k:=λz=>e (h1.trans z);have b:valueAt (q::qs) k=valueAt qs k:=by simp[valueAt,YaI,e']
   rw[Zbm e,b];exact ih
theorem KV.any{kvs:List (κ×V)}{vs:List (κ×Value)}(r:KV kvs vs)(k:κ):(kvs.any λkv=>decide (kv.1=k))=vs.any λkv=>decide (kv.1=k):=by
 unfold KV at r;induction r with
 |nil=>rfl
 |cons h t ih=>rw[Yb3,Yb3,ih,h.1]
def KV.repl{kvs:List (κ×V)}{vs:List (κ×Value)}(r:KV kvs vs)(k:κ){y:V}{u:XR}(ry:RelV y u) :
  KV (kvs.map λkv=>if kv.1=k then(kv.1,y)else kv) (vs.map λkv=>if kv.1=k then(kv.1,u)else kv):=by
 unfold KV at r |-;induction r with
 |nil=>exact .nil
 |@cons p q ps qs h t ih=>
  rw[Yz,Yz];refine .cons ?_ ih;let⟨h1,h2⟩:=h;by_cases e:p.1=k
  .rw [if_pos e,if_pos (h1.symm.trans e)];exact⟨h1,ry⟩
  .rw [if_neg e,if_neg (λz=>e (h1.trans z))];exact⟨h1,h2⟩
def KV.put{kvs:List (κ×V)}{vs:List (κ×Value)}(r:KV kvs vs)(k:κ){y:V}{u:XR}(ry:RelV y u):KV (putK kvs k y) (stored vs k u):=by
 unfold putK stored;rw[r.any k];by_cases e:(vs.any λkv=>decide (kv.1=k))=true
 .rw [if_pos e,if_pos e];exact r.repl k ry
 .rw [if_neg e,if_neg e];exact Paired.snoc r ⟨rfl,ry⟩
def KV.drop{kvs:List (κ×V)}{vs:List (κ×Value)}(r:KV kvs vs)(k:κ):KV (dropK kvs k) (without vs k):=by
 unfold KV at r |-;unfold dropK without;induction r with
 |nil=>exact .nil
 |@cons p q ps qs h t ih=>
  let⟨h1,h2⟩:=h;rw[Yba,Yba];by_cases e:p.1=k
  .have a:¬decide (p.1≠k)=true:=by simp[e]
   have b:¬decide (q.1≠k)=true:=by simp[h1.symm.trans e]
   rw[if_neg a,if_neg b];exact ih
  .have e':¬q.1=k:=λz=>e (h1.trans z);have a:decide (p.1≠k)=true:=by simp[e]
   have b:decide (q.1≠k)=true:=by simp[e']
   rw[if_pos a,if_pos b];exact .cons ⟨h1,h2⟩ ih
def KV.keys{kvs:List (κ×V)}{vs:List (κ×Value)}(r:KV kvs vs):kvs.map (·.1)=vs.map (·.1):=by
 unfold KV at r;induction r with
 |nil=>rfl
 |cons h t ih=>rw[Yz,Yz,ih,h.1]
def KV.length{kvs:List (κ×V)}{vs:List (κ×Value)}(r:KV kvs vs):kvs.length=vs.length:=Paired.length r
def ZjD(kvs:List (κ×V))(k:κ):(dropK kvs k).length<=kvs.length:=Ybv _ _
end
def Zmn{P:XI}{w:XO}{k:Key}{u:XR}(r:RelV (kV k) u):(Za2 P w).is k u=true:=by
 cases k with
 |inl i=>let⟨t,e⟩:=(show ∃t,u=Value.int i t from r);subst e;exact Zmj P w i t
 |inr x=>let⟨t,e⟩:=(show ∃t,u=Value.str x t from r);subst e;exact Zmk P w x t
theorem Zk7{P:XI}{w:XO}:∀{ks:List Key}{us:XH},Vals (ks.map kV) us->ItemsAre (Za2 P w) ks us
 |[],_,r=>by rw[YaX]at r;cases r;exact .nil
 |k::ks,_,r=>by
  rw[Yz]at r;cases r with
  |cons h t=>exact .cons (Zmn h) (Zk7 t)
abbrev KT(H:Hp):List (List Key×V)->List (List Key×Addr×Value)->Prop:=Paired λp q=>p.1=q.1/\H q.2.1=some (.tup (p.1.map kV))/\RelV p.2 q.2.2
def KT.val{H:Hp}{kvs:Xe}{xs:List (List Key×Addr×Value)}(r:KT H kvs xs)(k:List Key):RelO (valV kvs k) ((atKey xs k).map (·.2)):=by
 induction r with
 |nil=>exact True.intro
 |@cons p q ps qs h t ih=>
  let⟨h1,_,h2⟩:=h;by_cases e:p.1=k
  .have e':q.1=k:=h1.symm.trans e;have b:atKey (q::qs) k=some q.2:=by simp[atKey,YaI,e']
   rw[Zbu e,b];exact h2
  .have e':¬q.1=k:=λz=>e (h1.trans z);have b:atKey (q::qs) k=atKey qs k:=by simp[atKey,YaI,e']
   rw[Zbm e,b];exact ih
def KT.repl{H:Hp}{kvs:Xe}{xs:List (List Key×Addr×Value)}(r:KT H kvs xs)(k:List Key){y:V}{u:XR}(ry:RelV y u) :
  KT H (kvs.map λkv=>if kv.1=k then(kv.1,y)else kv) (xs.map (putAt k u)):=by
 induction r with
 |nil=>exact .nil
 |@cons p q ps qs h t ih=>
  rw[Yz,Yz];refine .cons ?_ ih;let⟨h1,h2,h3⟩:=h;unfold putAt;by_cases e:p.1=k
  .rw [if_pos e,if_pos (h1.symm.trans e)];exact⟨h1,h2,ry⟩
  .rw [if_neg e,if_neg (λz=>e (h1.trans z))];exact⟨h1,h2,h3⟩
def KT.put{H:Hp}{kvs:Xe}{xs:List (List Key×Addr×Value)}(r:KT H kvs xs)(k:List Key){b:XB}{y:V}{u:XR}(hb:H b=some (.tup (k.map kV)))(ry:RelV y u) :
  KT H (putK kvs k y) (storedH xs k b u):=by
 have e:(kvs.any λkv=>decide (kv.1=k))=(atKey xs k).isSome:=by
  rw[Zct,(r.val k).isSome_eq,Option.isSome_map]
 unfold putK storedH;rw[e];by_cases q:(atKey xs k).isSome=true
 .rw [if_pos q,if_pos q];exact r.repl k ry
 .rw [if_neg q,if_neg q];exact Paired.snoc r ⟨rfl,hb,ry⟩
def KT.keeps{H H':Hp}{kvs:Xe}{xs:List (List Key×Addr×Value)}(r:KT H kvs xs)(ht:∀b ys,H b=some (.tup ys)->H' b=some (.tup ys)):KT H' kvs xs:=
 Paired.mapP r λ_ _ z=>⟨z.1,ht _ _ z.2.1,z.2.2⟩
section
variable{P:XI}{w:XO}{H:Hp}{h:XT}{a:XB}
def rd_of{u:HO}(ok:HOk P w H h)(e:Rd H a u):ObjOk P w H h a u:=e.ok ok
def ZoE{kvs:XU}(ok:HOk P w H h)(e:Rd H a (.dK kvs)):kvs.length<=sizeLine/\(a==sysModules)=false/\∃vs,KV kvs vs/\h.DictOf (Za2 P w) a vs:=
 show ObjOk P w H h a (.dK kvs)from rd_of ok e
def ZoF{kvs:XU}(ok:HOk P w H h)(e:H a=some (.dK kvs)):kvs.length<=sizeLine/\(a==sysModules)=false/\∃vs,KV kvs vs/\h.DictOf (Za2 P w) a vs:=ZoE ok (.inl e)
def Znv{ks:List Key}(ok:HOk P w H h)(e:H a=some (.tup (ks.map kV))):(tupleKind (Za2 P w)).is h ks a:=by
 let⟨_,its,r,o,h1,h2,n,h3⟩:=(show ObjOk P w H h a (.tup (ks.map kV))from ok a _ e);exact⟨o,its.toArray,n,h1,h2,h3,by simpa using Zk7 r⟩
def ZpV{kvs:Xe}(ok:HOk P w H h)(e:Rd H a (.dT kvs)):kvs.length<=sizeLine/\(a==sysModules)=false/\
  ∃xs,KT H kvs xs/\h.DictOfH (tupleKind (Za2 P w)) a xs:=by
 let⟨z,y,xs,r,o,es,ep,h1,h2,h3,h4,h5⟩:=(show ObjOk P w H h a (.dT kvs)from rd_of ok e);refine⟨z,y,xs,r,o,es,ep,h1,h2,h3,h4,λx hx=>?_,h5⟩;have all:∀{l:Xe}{m:List (List Key×Addr×Value)},KT H l m->∀x∈m,(tupleKind (Za2 P w)).is h x.1 x.2.1:=by
  intro l m q;induction q with
  |nil=>intro x hx;exact nomatch hx
  |@cons p q ps qs hq t ih=>
   intro x hx;rcases Yh.mp hx with e|hx
   .subst e;exact Znv ok (by rw[<- hq.1];exact hq.2.1)
   .exact ih x hx
 exact all r x hx
def dt_of{kvs:Xe}(ok:HOk P w H h)(e:H a=some (.dT kvs)):kvs.length<=sizeLine/\(a==sysModules)=false/\
  ∃xs,KT H kvs xs/\h.DictOfH (tupleKind (Za2 P w)) a xs:=ZpV ok (.inl e)
end
def DGet(H:Hp)(a:XB)(y:V)(r:Option V):Prop:=
 (∃kvs k,Rd H a (.dK kvs)/\y=kV k/\r=valV kvs k)\/∃kvs k b,Rd H a (.dT kvs)/\y=.ref b/\H b=some (.tup (k.map kV))/\r=valV kvs k
def DPut(H:Hp)(a:XB)(y v:V)(H':Hp):Prop:=
 (∃kvs k,H a=some (.dK kvs)/\y=kV k/\kvs.length<sizeLine/\H'=upd H a (.dK (putK kvs k v)))\/
 ∃kvs k b,H a=some (.dT kvs)/\y=.ref b/\H b=some (.tup (k.map kV))/\kvs.length<sizeLine/\H'=upd H a (.dT (putK kvs k v))
def DGet.k{H:Hp}{a:XB}{kvs:XU}{k:Key}(e:H a=some (.dK kvs)):DGet H a (kV k) (valV kvs k):=.inl ⟨kvs,k,.inl e,rfl,rfl⟩
def DPut.k{H:Hp}{a:XB}{kvs:XU}{k:Key}{v:V}(e:H a=some (.dK kvs))(hl:kvs.length<sizeLine):DPut H a (kV k) v (upd H a (.dK (putK kvs k v))):=.inl ⟨kvs,k,e,rfl,hl,rfl⟩
section
variable{X:Cx}{pins:XG}{U:St}{H:Hp}{s:XM}{a:XB}{y v:V}{u r:XR}{o:Option V}{A:XY}{E:XE}
def Inv.big(I:Inv X pins U H s):sysModules<s.heap.objs.size:=by
 have h:mainGlobals<s.heap.objs.size:=(I.mod.glob.keeps I.bk).lt;exact Ybg nofun h
def ZpW{Q:XE}(hu:A.units+1<cLine)(I:Inv X pins U H s)(g:DGet H a y (some v))(ry:RelV y u)(h:∀w' s',Inv X pins U H s'->RelV v w'->Q w' s') :
  wpAny (model X.prog X.w) A (getItem (.ref a) u) Q E s:=by
 rcases g with⟨kvs,k,e,ey,l⟩|⟨kvs,k,b,e,ey,eb,l⟩
 .subst ey;let⟨z,hd,vs,rel,dd⟩:=ZoE I.hok e;let⟨w',hw,rw'⟩:=RelO.some_of (v:=v) (o:=valueAt vs k) (by rw[l];exact rel.val k);exact wpAny_getItem_of (Zmn ry) dd.mapOf hw (h w' _ (I.tok _) rw')
 .subst ey;cases (show u=Value.ref b from ry);let⟨z,hd,xs,rel,dd⟩:=ZpV I.hok e;let⟨w',hw,rw'⟩:=RelO.some_of (v:=v) (o:=(atKey xs k).map (·.2)) (by rw[l];exact rel.val k);let⟨p,hp,hp2⟩:=Yu.mp hw;refine wpAny_getItem_heap (YcQ hu) (Znv I.hok eb) dd hp ?_;rw[hp2];exact h w' _ (I.tok _) rw'
def ZjE{h':XT}{t':Nat}{ob:HO}(I:Inv X pins U H s)(mu:Mut (H a))(hs:Heap.SameBut a s.heap h')(he:∃q,h'.get? a=some q)(new:ObjOk X.prog X.w (upd H a ob) h' a ob) :
  Inv X pins U (upd H a ob) {s with heap:=h',toks:=t'}:=
 I.write (x:=a) (e:=a) mu (.inl rfl) (λb q hb z=>(hs.2 b hb).trans z) he new
def ZpX{P:XI}{w:XO}{H':Hp}{h':XT}{kvs:XU}{vs:Xo}(z:kvs.length<=sizeLine)(hd:(a==sysModules)=false)(rel:KV kvs vs)(dd:h'.DictOf (Za2 P w) a vs) :
  ObjOk P w H' h' a (.dK kvs):=⟨z,hd,vs,rel,dd⟩
def ZpY{H':Hp}{Q:Unit->Shared->Prop}(hu:A.units+1<cLine)(I:Inv X pins U H s)(g:DPut H a y v H')(ry:RelV y u)(rv:RelV v r)(h:∀s',Inv X pins U H' s'->Q ⟨⟩ s') :
  wpAny (model X.prog X.w) A (setItem (.ref a) u r) Q E s:=by
 rcases g with⟨kvs,k,e,ey,l,eH⟩|⟨kvs,k,b,e,ey,eb,l,eH⟩
 .subst ey eH;let⟨z,hd,vs,rel,dd⟩:=ZoF I.hok e;have hz:vs.length<=sizeLine:=by rw[<- rel.length];exact z
  have hl:(putK kvs k v).length<=sizeLine:=by have:=Zep kvs k v;omega
  refine wpAny_setItem_pairs (hsz:=hz) (Zmn ry) dd λh' dd' hs=>h _ ?_;have he:∃q,h'.get? a=some q:=let⟨q,_,_,hq,_⟩:=dd';⟨q,hq⟩;exact ZjE I (by rw[e];exact True.intro) hs he (ZpX hl hd (rel.put k rv) dd')
 .subst ey eH;cases (show u=Value.ref b from ry);let⟨z,hd,xs,rel,dd⟩:=dt_of I.hok e;have hz:xs.length<=sizeLine:=by rw[<- Paired.length rel];exact z
  have hl:(putK kvs k v).length<=sizeLine:=by have:=Zep kvs k v;omega
  refine wpAny_setItem_heap (hsz:=hz) (YcQ hu) (Znv I.hok eb) dd λh' dd' hs=>h _ ?_;let⟨q,es,ep,hq,h2,h3,h4,_,h5⟩:=dd';refine ZjE I (by rw[e];exact True.intro) hs ⟨q,hq⟩ ⟨hl,hd,_,(rel.put k eb rv).keeps λc ys ec=>?_,q,es,ep,hq,h2,h3,h4,h5⟩;rw[Zaj (Za3 ec e (λz=>nomatch z))];exact ec
end
section
variable{X:Cx}{pins:XG}{U:St}{H:Hp}{s:XM}{a:XB}{kvs:XU}{k:Key}{u:XR}{A:XY}{E:XE}
def d_pop{v:V}{more:XH}{Q:XE}(I:Inv X pins U H s)(e:H a=some (.dK kvs))(ry:RelV (kV k) u)(l:valV kvs k=some v)(hm:more=[]\/∃x,more=[x])(h:∀w' s',Inv X pins U (upd H a (.dK (dropK kvs k))) s'->RelV v w'->Q w' s'):wpAny (model X.prog X.w) A (call (.builtin "dict.pop") (.ref a::u::more)) Q E s:=by
 let⟨z,hd,vs,rel,dd⟩:=ZoF I.hok e;let⟨w',hw,rw'⟩:=RelO.some_of (v:=v) (o:=valueAt vs k) (by rw[<- l];exact rel.val k);have hp:(keyPart u).isSome=true:=by
  cases k with
  |inl i=>let⟨t,q⟩:=(show ∃t,u=Value.int i t from ry);subst q;rfl
  |inr x=>let⟨t,q⟩:=(show ∃t,u=Value.str x t from ry);subst q;rfl
 have ha:argsOk "dict.pop" ⟨.ref a::u::more,[]⟩:=by
  rcases hm with q|⟨x,q⟩
  .subst q;exact PySem.F.args_dict_pop_2 _ _
  .subst q;exact PySem.F.args_dict_pop_3 _ _ _
 refine Ycx Yb9 dd.typeIs PySem.F.entry_dict_pop ha (meets_dict_pop_there (Za2 X.prog X.w) a (Zmn ry) more hm hp)
  ⟨vs,w',dd,by rw[<- rel.length];exact z,hw,λh' dd' hs=>h w' _ ?_ rw'⟩
 have he:∃q,h'.get? a=some q:=let⟨q,_,_,hq,_⟩:=dd';⟨q,hq⟩;exact ZjE I (by rw[e];exact True.intro) hs he (ZpX (Yj (ZjD kvs k) z) hd (rel.drop k) dd')
def d_popD{r:XR}{Q:XE}(I:Inv X pins U H s)(e:H a=some (.dK kvs))(ry:RelV (kV k) u)(l:valV kvs k=none)(h:∀s',Inv X pins U H s'->Q r s') :
  wpAny (model X.prog X.w) A (call (.builtin "dict.pop") [.ref a,u,r]) Q E s:=by
 let⟨z,hd,vs,rel,dd⟩:=ZoF I.hok e;have hn:valueAt vs k=none:=RelO.none_of (by rw[<- l];exact rel.val k);have hp:(keyPart u).isSome=true:=by
  cases k with
  |inl i=>let⟨t,q⟩:=(show ∃t,u=Value.int i t from ry);subst q;rfl
  |inr x=>let⟨t,q⟩:=(show ∃t,u=Value.str x t from ry);subst q;rfl
 exact Ycx Yb9 dd.typeIs PySem.F.entry_dict_pop (PySem.F.args_dict_pop_3 _ _ _) (meets_dict_pop_default (Za2 X.prog X.w) a (Zmn ry) hd hp r) ⟨vs,dd,hn,h _ (I.tok _)⟩
def d_len{Q:XE}(I:Inv X pins U H s)(e:Rd H a (.dK kvs))(h:∀t s',Inv X pins U H s'->Q (.int kvs.length t) s'):wpAny (model X.prog X.w) A (call (.builtin "len") [.ref a]) Q E s:=by
 let⟨z,hd,vs,rel,dd⟩:=ZoE I.hok e;refine call_len_dict hd dd (by rw[<- rel.length];rw[sizeLine_eq]at z;omega) ?_;rw[<- rel.length];exact h _ _ (I.tok _)
end
def NoSl(i:Xi):Prop:=∀ov iv,subscripted i false ov iv=operate [ov,iv] (getItem ov iv)
def ZpZ{prog:XI}{w:XO}{A:XY}{E:XE}{s:XM}{env:Env}{value slice:Xi}{pos:Pos}{T id:String}{Q:XE}(hl:typeLookup (.type T) "__getitem__"=pure (some (.builtin id)))(hs:NoSl slice)(h:wpAny (model prog w) A (eval value env) (λo s₁=>wpAny (model prog w) A (eval slice env) (λi s₂=>s₂.TypeIs o T/\wpAny (model prog w) A (getItem o i) Q E s₂) E s₁) E s) :
  wpAny (model prog w) A (eval (.Subscript value slice pos) env) Q E s:=by
 refine Subscript_ (YaZ h (λo s₁ h₁=>YaZ h₁ (λi s₂ h₂=>?_) λ_ _ x=>x) λ_ _ x=>x);let⟨hT,h₂⟩:=h₂;unfold subscriptTail;refine Yg ?_;rw[getitemInPython_of_ne hT.not_modules];refine Yg (Ycu hT hl ?_);have fin:wpAny (model prog w) A (subscripted slice false o i) (λr s₃=>wpAny (model prog w) A (letTemporaryGo value o r >>=λ_=>pure r) Q E s₃) E s₂:=by
  rw[hs o i];exact wpAny_operating (YaZ h₂ (λr s₃ h₃=>Yg (wpAny_letTemporaryGo (Yp h₃))) λ_ _ x=>x)
 first
  |exact Yp (Yg fin)
  |exact Yg (Yp (Yg fin))
  |exact Yg fin
def Zmo{X:Cx}{pins:XG}{U:St}{H:Hp}{s:XM}{a:XB}{y:V}{o:Option V}(I:Inv X pins U H s)(g:DGet H a y o):s.TypeIs (.ref a) "dict":=by
 rcases g with⟨kvs,k,e,_,_⟩|⟨kvs,k,b,e,_,_,_⟩
 .obtain ⟨_,_,vs,_,dd⟩:=ZoE I.hok e;exact dd.typeIs
 .obtain ⟨_,_,xs,_,dd⟩:=ZpV I.hok e;exact dd.typeIs
def tDGet(td ty:TE):TE:=λU H Q=>td U H λx H1=>ty U H1 λy H2=>∃a v,x=.ref a/\DGet H2 a y (some v)/\Q v H2
def sDPut(td ty tv:TE):TS:=λD U H=>tv U H λv H1=>td U H1 λx H2=>ty U H2 λy H3=>∃a H4,x=.ref a/\DPut H3 a y v H4/\D.nx U H4
section
variable{X:Cx}{o i e value:Xi}{pos pos' tpos:Pos}{td ty tv:TE}
def ZuY(hu:X.A.units+1<cLine)(ho:PE X o td)(hi:PE X i ty)(hs:NoSl i):PE X (.Subscript o i pos) (tDGet td ty):=by
 walk_at"I";refine ZpZ Yc4.lookup hs (thn (ho pins s U H _ I h) λu s1 ⟨x,H1,I1,rx,q1⟩=>thn (hi pins s1 U H1 _ I1 q1) λiv s2 hzq=>?_);let⟨y,H2,I2,ry,a,v,ex,g,q2⟩:=hzq;subst ex;obtain rfl:u=Value.ref a:=rx;exact⟨Zmo I2 g,ZpW hu I2 g ry λw' s3 I3 rw'=>⟨v,H2,I3,rw',q2⟩⟩
def Zp0(hu:X.A.units+1<cLine)(ho:PE X o td)(hi:PE X i ty)(hv:PE X value tv)(hs:swapsWith value (some (.Subscript o i pos')) pos.line X.env=pure false) :
  PS X (.Assign [.Subscript o i pos'] value pos) (sDPut td ty tv):=by
 walk_at"B";refine wpAny_Assign_Subscript (thn (hv pins s U H _ I h) λr s1 ⟨v,H1,I1,rv,q1⟩=>thn (ho pins s1 U H1 _ I1 q1) λu s2 ⟨x,H2,I2,rx,q2⟩=>thn (hi pins s2 U H2 _ I2 q2) λiv s3 hzq=>?_) hs;let⟨y,H3,I3,ry,a,H4,ex,g,q3⟩:=hzq;subst ex;obtain rfl:u=Value.ref a:=rx;exact ZpY hu I3 g ry rv λs4 I4=>⟨U,H4,I4,q3⟩
end
def Zsm{P:XI}{w:XO}{H:Hp}(h:XT)(hb:sysModules<h.objs.size):ObjOk P w H (h.push {cls:=.type "dict",data:=.dict #[]}) h.objs.size (.dK []):=
 ⟨YO _,Ybb.mpr (YR (YW hb)),[],.nil,Heap.DictOf.new h⟩
def tDNewK:TE:=λ_ H Q=>∀p,H p=none->Q (.ref p) (upd H p (.dK []))
section
variable{X:Cx}{pos:Pos}
def Znw:PE X (.Dict [] [] pos) tDNewK:=λpins s U H Q I h=>
 wpAny_Dict_empty ⟨.ref s.heap.objs.size,_,I.laid (a:=s.heap.objs.size) (o:=.dK []) (t':=s.toks) (λ_ _ q=>Yl _ q) (Yk _) (Zsm s.heap I.big),rfl,h _ (I.hok.fresh (Yk _))⟩
end
structure M2(X:Cx)(o:Xi)(m:Str)(apos:Pos)(e f:Xi)(cpos:Pos):Prop where
 base:attributeBase o m X.env (eval o X.env)=eval o X.env
 few:((backTo cpos (starEach [e,f] X.env)).all (λx=>!x.1)&&(backToKw cpos (keywordEach [] X.env)).all (λx=>x.1.isSome) && decide (([e,f]:Xd).length+([]:List Keyword).length+(if([]:List Keyword).isEmpty then 0 else 1)<30))=true
 line:(apos.endLine==cpos.line)=true
 trees:backTo cpos (starEach [e,f] X.env)=[(false,eval e X.env),(false,eval f X.env)]
def IsD(H:Hp)(a:XB):Prop:=(∃kvs,Rd H a (.dK kvs))\/∃kvs,Rd H a (.dT kvs)
def Zuj{X:Cx}{pins:XG}{U:St}{H:Hp}{s:XM}{a:XB}(I:Inv X pins U H s)(d:IsD H a) :
  s.TypeIs (.ref a) "dict"/\(∀b,Value.ref a=.ref b->∃ob,s.heap.get? b=some ob/\ob.dict=none)/\(a==sysModules)=false:=by
 rcases d with⟨kvs,e⟩|⟨kvs,e⟩
 .obtain ⟨_,hd,vs,_,dd⟩:=ZoE I.hok e;refine⟨dd.typeIs,λb q=>?_,hd⟩;cases q;let⟨ob,_,_,h1,h2,_⟩:=dd;exact⟨ob,h1,h2.2.1⟩
 .obtain ⟨_,hd,xs,_,dd⟩:=ZpV I.hok e;refine⟨dd.typeIs,λb q=>?_,hd⟩;cases q;let⟨ob,_,_,h1,h2,_⟩:=dd;exact⟨ob,h1,h2.2.1⟩
section
variable{X:Cx}{pins:XG}{U:St}{H:Hp}{s:XM}{a:XB}{y d:V}{u r:XR}{o:Option V}{A:XY}{E:XE}
def d_get2{Q:XE}(hu:A.units+1<cLine)(I:Inv X pins U H s)(g:DGet H a y o)(ry:RelV y u)(rd:RelV d r)(h:∀w' s',Inv X pins U H s'->RelV (o.getD d) w'->Q w' s') :
  wpAny (model X.prog X.w) A (call (.builtin "dict.get") [.ref a,u,r]) Q E s:=by
 rcases g with⟨kvs,k,e,ey,l⟩|⟨kvs,k,b,e,ey,eb,l⟩
 .subst ey;let⟨z,hd,vs,rel,dd⟩:=ZoE I.hok e;refine Ycx Yca dd.typeIs PySem.F.entry_dict_get (PySem.F.args_dict_get_3 _ _ _) (meets_dict_get_default (Za2 X.prog X.w) a (Zmn ry) hd r) ⟨_,dd.mapOf,h _ _ (I.tok _) ?_⟩;rw[l];exact(rel.val k).getD rd
 .subst ey;cases (show u=Value.ref b from ry);let⟨z,hd,xs,rel,dd⟩:=ZpV I.hok e;refine Ycx Yca dd.typeIs PySem.F.entry_dict_get (PySem.F.args_dict_get_3 _ _ _) (meetsH_dict_get_default (tupleKind (Za2 X.prog X.w)) a b hd r) ⟨YcQ hu,k,xs,Znv I.hok eb,dd,h _ _ (I.tok _) ?_⟩;rw[l];exact(rel.val k).getD rd
end
def tDGet2(td ty tx:TE):TE:=λU H Q=>td U H λx H1=>∃a,x=.ref a/\IsD H1 a/\ty U H1 λy H2=>tx U H2 λz H3=>∃o,DGet H3 a y o/\Q (o.getD z) H3
def tDPop2(td ty tx:TE):TE:=λU H Q=>td U H λx H1=>∃a,x=.ref a/\IsD H1 a/\ty U H1 λy H2=>tx U H2 λz H3=>∃kvs k,H3 a=some (.dK kvs)/\y=kV k/\
 (∀v,valV kvs k=some v->Q v (upd H3 a (.dK (dropK kvs k))))/\(valV kvs k=none->Q z H3)
section
variable{X:Cx}{o e f:Xi}{apos cpos:Pos}{td ty tx:TE}
def Znx(hu:X.A.units+1<cLine)(ho:PE X o td)(he:PE X e ty)(hf:PE X f tx)(m:M2 X o "get" apos e f cpos):PE X (.Call (.Attribute o "get" apos) [e,f] [] cpos) (tDGet2 td ty tx):=by
 walk_at"I";refine wpAny_Call_method m.base m.few m.line PySem.F.plainAttrs_dict Yca PySem.F.type_dict_get (thn (ho pins s U H _ I h) λu s1 hzq=>?_);let⟨x,H1,I1,rx,a,ex,d,q1⟩:=hzq;subst ex;obtain rfl:u=Value.ref a:=rx;let⟨t1,t2,_⟩:=Zuj I1 d;refine⟨t1,t2,?_⟩;rw[m.trees];refine YbA rfl (YcC (Ybw (thn (he pins s1 U H1 _ I1 q1) λiv s2 ⟨y,H2,I2,ry,q2⟩=>Ybw (thn (hf pins s2 U H2 _ I2 q2) λfv s3 ⟨z,H3,I3,rz,ov,g,q3⟩=>Ycj ?_))));exact d_get2 hu I3 g ry rz λw' s4 I4 rw'=>⟨_,H3,I4,rw',q3⟩
def Zsn(ho:PE X o td)(he:PE X e ty)(hf:PE X f tx)(m:M2 X o "pop" apos e f cpos):PE X (.Call (.Attribute o "pop" apos) [e,f] [] cpos) (tDPop2 td ty tx):=by
 walk_at"I";refine wpAny_Call_method m.base m.few m.line PySem.F.plainAttrs_dict Yb9 PySem.F.type_dict_pop (thn (ho pins s U H _ I h) λu s1 hzq=>?_);let⟨x,H1,I1,rx,a,ex,d,q1⟩:=hzq;subst ex;obtain rfl:u=Value.ref a:=rx;let⟨t1,t2,_⟩:=Zuj I1 d;refine⟨t1,t2,?_⟩;rw[m.trees];refine YbA rfl (YcC (Ybw (thn (he pins s1 U H1 _ I1 q1) λiv s2 ⟨y,H2,I2,ry,q2⟩=>Ybw (thn (hf pins s2 U H2 _ I2 q2) λfv s3 ⟨z,H3,I3,rz,kvs,k,ea,ey,q3,q4⟩=>Ycj ?_))));subst ey;cases l:valV kvs k with
 |some v=>exact d_pop I3 ea ry l (.inr ⟨fv,rfl⟩) λw' s4 I4 rw'=>⟨v,_,I4,rw',q3 v l⟩
 |none=>exact d_popD I3 ea ry l λs4 I4=>⟨z,H3,I4,rz,q4 l⟩
end
section
variable{X:Cx}{pins:XG}{U:St}{H:Hp}{s:XM}{a:XB}{kvs:XU}{A:XY}{E:XE}
end
section
variable{X:Cx}{pins:XG}{U:St}{H:Hp}{s:XM}{a:XB}{y:V}{u:XR}{A:XY}{E:XE}
end
end L2
namespace Att
open PySem PySem.W PySem.Calls PyProof.Rows
def Zhk{P:Params}{h:XT}:∀(ns:XD)(vs:XH),WellAll P h vs (ns.map WData.int)->IntsAre vs ns:=by
 intro ns;induction ns with
 |nil=>
  intro vs w;rw[YaX]at w;cases w;exact .nil
 |cons n ns ih=>
  intro vs w;rw[Yz]at w;cases w with
  |cons a b=>
   cases a;exact .cons _ _ (ih _ b)
def Zk8{l:OpenLaw}{n:Nat}(hn:l.most=some n){P:Params}{h:XT}{args:List WData}{vals:XH}(hpre:l.row.toRowW.claim.pre args=true)(hwl:WellAll P h vals args) :
  ∃a vs ns,vals=[Value.ref a]/\args=[WData.list (ns.map WData.int)]/\h.get? a=some {cls:=.type "list",data:=.seq vs.toArray}/\IntsAre vs ns/\ns.length<=n:=by
 have hsh:WShape.hasAll [] args [.list .int]=true:=(pre_splitW hpre).1;have hc:l.pre.holds [] {args:=args}=true:=(pre_splitW hpre).2;let⟨d,r,rfl,h1,h2⟩:=hasAllW_cons hsh;obtain rfl:=hasAllW_nil h2;let⟨xs,rfl,h3⟩:=hasW_list h1;let⟨ns,rfl⟩:=items_int h3;have hlen:ns.length<=n:=by
  unfold OpenLaw.pre at hc;have h4:(WTm.not (.lt (.lit (.int (n:Int))) (.len (.arg 0)))).holds [] {args:=[.list (ns.map .int)]}=true:=by
   have h4:=(holds_andW hc).1;rw[hn]at h4;exact h4
  have h5:=condW_of h4 (w_not (w_lt w_lit (w_len_list (w_arg rfl))));rw[Ya]at h5;refine Nat.le_of_not_lt λq=>?_;have q':(n:Int)<((ns.length:Nat):Int):=()
  first
   |(rw[YG q']at h5;exact absurd h5 nofun)
   |(simp at h5;omega)
 cases hwl with
 |cons w1 w2=>
  cases w2;cases w1 with
  |list ho hall=>exact⟨_,_,ns,rfl,rfl,ho,Zhk ns _ hall,hlen⟩
def Zk9(l:OpenLaw)(args:List WData):l.row.toRowW.claim.post args (.bool true) args=true:=
 postW_of (r:=l.row.toRowW) (X:=(true==true))
  (show WShape.has [] (.bool true) .bool=true by first|rfl|decide|simp[WShape.has,WShape.arms,WShape.armsAll])
  (show(WTm.eq .res (.lit (.bool true))).value [] {args:=args,res:=some (.bool true),after:=args}=some (.bool (true==true))from w_eq_bool (w_res rfl) w_lit) rfl
def Zmp{l:OpenLaw}{n:Nat}{q:XI}{loose:XN}{XP:(Str->Option Value)->Heap->Prop}{YP:World->Heap->Prop}{d:DefRec}(hn:l.most=some n)(hdf:d.params.defaults=[])(call:∀(w:XO)(s₀ s₁:XM)(mg mb:XA)(fa:XB)(o:Obj)(pm cd doc:XR)(a:XB)(vs:XH)(ns:XD),Ground q loose [] XP w s₀ mg mb s₁.heap->YP w s₁.heap->s₁.heap.get? fa=some o->o.data=.func (docDef d.name d.params d.body d.scope pm cd doc)->s₁.heap.CodeRec cd d.name->mg d.name=some (.ref fa)->s₁.heap.get? a=some {cls:=.type "list",data:=.seq vs.toArray}->IntsAre vs ns->ns.length<=n->s₁.gens=#[]->codeAny (model l.prog w) callerA (.call (.ref fa) ⟨[.ref a],[]⟩) (λr s'=>r=.ok (.ret (.bool true))/\OldK s₁.heap s'.heap/\s'.os=s₁.os/\AllBare s'.gens) s₁) :
  WalkO q loose XP YP l.row.toRowW d [] (λf vs=>PySem.call f vs):=by
 intro w s₀ s₁ mg mb G Y fa o pm cd doc dV kV ho hd hcd hD hmg hg args vals as hpre hlay hrd hwl hlo;obtain rfl:dV=.none:=Dflts.none hD hdf;obtain rfl:kV=.none:=Dflts.noKw hD;let⟨a,vs,ns,rfl,rfl,hobj,hints,hlen⟩:=Zk8 hn hpre hwl;refine enter_call (YbD (call w s₀ s₁ mg mb fa o pm cd doc a vs ns G Y ho (fd_plain hd) hcd hmg hobj hints hlen hg) λr s' hq=>?_);let⟨rfl,h2,h3,h4⟩:=hq;exact⟨.inl ⟨.bool true,.bool true,[],rfl,λ_=>rfl,.bool true,Zk9 l _,λ_=>⟨List.Pairwise.nil,λ_ hm=>(nomatch hm)⟩⟩,h2,h3,h4⟩
section
variable{prog:XI}{w:XO}{A:XY}{E:XE}{s:XM}{K:Frag}
end
end Att
namespace L2
open PySem PySem.Spec PyProof.Rows
theorem Zhl:∀{vs:XH}{ns:XD},IntsAre vs ns->Vals (ns.map V.int) vs
 |_,_,.nil=>.nil
 |_,_,.cons n t h=>.cons ⟨t,rfl⟩ (Zhl h)
def Only(H:Hp):Prop:=∀b,H b=none\/∃o xs,H b=some (.frz o (.lst xs))
def Zso{P:XI}{w:XO}{K:Ydg}{mg mb:XA}{CX:CXT}{k:Nat}{fa a:XB}{fd:FuncData}{x:Str}{sp:Sp}{s₁:XM}{vs:XH}{ns:XD}(KX:K.In s₁.heap)(hns:s₁.heap.Ns mainGlobals mg)(hb:s₁.heap.Ns builtinsNs mb)(hbb:∀x:Str,x≠"__name__"->mb x=bootBuiltins x)(hlim:s₁.heap.NoLimit)(hg:s₁.gens=#[])(ha:s₁.heap.get? a=some {cls:=.type "list",data:=.seq vs.toArray})(hi:IntsAre vs ns)(hl:ns.length<=sizeLine)(hr:Room k callerA)(F:∀base:Heap,K.In base->base.Ns mainGlobals mg->FnOk P w K mg base CX k fa fd [x] sp)(hbind:∀(s:XM)(u:XR),BindsTo s fd ⟨[u],[]⟩ [(x,u)])(hsp:∀H:Hp,Only H->SqL K H a (ns.map V.int)->sp [.ref a] H (λv _=>v=.bl true) λ_ _ _=>False)(hCX:∀H e s',CX [] H s₁ (λ_ _ _=>False) e s'->False) :
  codeAny (model P w) callerA (.call (.ref fa) ⟨[.ref a],[]⟩) (λr s'=>r=.ok (.ret (.bool true))/\OldK s₁.heap s'.heap/\s'.os=s₁.os/\AllBare s'.gens) s₁:=by
 have rv:=Zhl hi;have lenV:=hi.length
 have core:∀H:Hp,Only H->SqL K H a (ns.map V.int)->HOk P w H s₁.heap->(∀b,H b≠none->b=a)->(H a≠none->K.lookup a=none)->
   codeAny (model P w) callerA (.call (.ref fa) ⟨[.ref a],[]⟩) (λr s'=>r=.ok (.ret (.bool true))/\OldK s₁.heap s'.heap/\s'.os=s₁.os/\AllBare s'.gens) s₁:=by
  intro H hO hS hok hA hK;have base_of:∀{b:XB}{o:Obj},s₁.heap.get? b=some o->H b=none->(hidT s₁.heap H).get? b=some o:=λe n=>Zr9 e n;have noA:∀{b:XB}{o:Obj}{es:Array DictEntry}{ep:Nat},s₁.heap.get? b=some o->o.data=.dict es ep->H b=none:=λ{b o es ep} e d=>by
   cases q:H b with
   |none=>rfl
   |some u=>
    have e':b=a:=hA b (by rw[q];simp);subst e';rw[ha]at e;cases e;have d':Data.seq vs.toArray _=Data.dict es ep:=d;cases d'
  have nsK:∀{b:XB}{m:XA},s₁.heap.Ns b m->(hidT s₁.heap H).Ns b m:=λ{b m} ⟨o,es,ep,e,d,r⟩=>⟨o,es,ep,base_of e (noA e d),d,r⟩
  have hKb:K.In (hidT s₁.heap H):=λb o e=>base_of (KX b o e) (by
   cases q:H b with
   |none=>rfl
   |some u=>
    have e':b=a:=hA b (by rw[q];simp);subst e';rw[hK (by rw[q];simp)]at e;cases e)
  have hM:Mod K mg (hidT s₁.heap H):=⟨hKb,nsK hns,⟨mb,nsK hb,hbb⟩,let⟨mc,h1,h2⟩:=hlim;⟨mc,nsK h1,h2⟩⟩;have e0:Env0 P w K mg (hidT s₁.heap H) callerA [] s₁ H:=⟨rfl,hM,λb o e=>ZuM e,YcG (Zpt _ _),trivial,λb hb=>absurd (show b∈([]:Xa)from hb) (by simp),hok,.of_eq hg⟩;refine YbD ((F _ hKb (nsK hns)).run callerA [] s₁ H ⟨[.ref a],[]⟩ [.ref a] [.ref a] _ _ hr e0 (hbind s₁ (.ref a)) (.cons rfl .nil) (hsp H hO hS)) λr s' h=>?_;cases r with
  |error e=>exact(hCX H e s' h).elim
  |ok fl=>
   cases fl with
   |next=>exact False.elim h
   |brk=>exact False.elim h
   |cont=>exact False.elim h
   |ret u=>
    let⟨v,H',os,bare,un,hok',r',q⟩:=h;have q':v=.bl true:=q;subst q';obtain rfl:u=Value.bool true:=r';refine⟨rfl,OldK.of_keep λb o e=>?_,os,bare⟩;cases q:H b with
    |none=>exact un.keep b o e q (by intro z;exact absurd (show b∈([]:Xa)from z) (by simp)) (by simp)
    |some u=>
     rcases hO b with z|⟨ob,xs,z⟩
     .rw [q]at z;cases z
     .have z2:=un.frzs b ob _ z;let⟨e1,_⟩:=hok b _ z;let⟨e2,_⟩:=hok' b _ z2;rw[e]at e1;cases e1;exact e2
 cases hk:K.lookup a with
 |some o=>
  have e:=KX a o hk;rw[ha]at e;cases e;refine core (λ_=>none) (λ_=>.inl rfl) (.inr ⟨_,vs.toArray,_,hk,rfl,rfl,rfl,by rw[Yx,lenV];exact hl,by simpa using rv⟩) (λb u z=>by have z':(none:Option HO)=some u:=z;cases z') (λb z=>absurd rfl z) λz=>absurd rfl z
 |none=>
  refine core (λb=>if b=a then some (.frz {cls:=.type "list",data:=.seq vs.toArray} (.lst (ns.map V.int)))else none) (λb=>?_) (.inl (.inr ⟨{cls:=.type "list",data:=.seq vs.toArray},if_pos rfl⟩)) (λb u z=>?_) (λb z=>?_) λ_=>hk
  .by_cases hb:b=a
   .exact .inr ⟨_,_,if_pos hb⟩
   .exact .inl (if_neg hb)
  .by_cases hb:b=a
   .have z':=(if_pos hb).symm.trans z;cases z';subst hb;exact⟨ha,by rw[Ya];exact hl,vs,_,rv,ha⟩
   .have z':=(if_neg hb).symm.trans z;cases z'
  .by_cases hb:b=a
   .exact hb
   .exact absurd (if_neg hb) z
noncomputable abbrev KOf{K:Ydg}{h:XT}(_:K.In h):Ydg:=K
def ZuZ{l:PySem.W.OpenLaw}{n k:Nat}{q:XI}{loose:XN}{XP:(Str->Option Value)->Heap->Prop}{YP:World->Heap->Prop}{d:DefRec}{K:Params->Ydg}{CX:World->CXT}{sp:World->Sp}{x:Str}(hn:l.most=some n)(hn2:n<=sizeLine)(hdf:d.params.defaults=[])(hr:Room k callerA)(hY:∀(w:XO)(h:XT),YP w h->(K w.params).In h)(F:∀(w:XO)(mg:XA)(fa:XB)(h:XT),(K w.params).In h->h.Ns mainGlobals mg->mg d.name=some (.ref fa)->∃fd:FuncData,(∀(s:XM)(u:XR),BindsTo s fd ⟨[u],[]⟩ [(x,u)])/\∀base:Heap,(K w.params).In base->base.Ns mainGlobals mg->FnOk l.prog w (K w.params) mg base (CX w) k fa fd [x] (sp w))(hsp:∀(w:XO)(H:Hp)(a:XB)(ns:XD),ns.length<=n->Only H->SqL (K w.params) H a (ns.map V.int)->sp w [.ref a] H (λv _=>v=.bl true) λ_ _ _=>False)(hCX:∀(w:XO)(H:Hp)(s:XM)(e:XR)(s':XM),CX w [] H s (λ_ _ _=>False) e s'->False) :
  PySem.W.WalkO q loose XP YP l.row.toRowW d [] (λf vs=>PySem.call f vs):=by
 refine Att.Zmp hn hdf λw s₀ s₁ mg mb fa o pm cd doc a vs ns G Y ho hd hcd hmg hobj hints hlen hg=>?_;have KX:=hY w _ Y;let⟨fd,hb,hF⟩:=F w mg fa _ KX G.T.g hmg;exact Zso KX G.T.g G.T.b G.T.builtins G.T.nolimit hg hobj hints (Yj hlen hn2) hr hF hb (λH hO hS=>hsp w H a ns hlen hO hS) λH e s'=>hCX w H s₁ e s'
def Zsp{l:PySem.W.OpenLaw}{n k:Nat}{q:XI}{loose:XN}{XP:(Str->Option Value)->Heap->Prop}{YP:World->Heap->Prop}{d:DefRec}{K:Params->Ydg}{CX:CXT}{sp:Ydg->Sp}{x:Str}(hn:l.most=some n)(hn2:n<=sizeLine)(hdf:d.params.defaults=[])(hr:Room k callerA)(hY:∀(w:XO)(h:XT),YP w h->(K w.params).In h)(F:∀(w:XO)(mg:XA)(fa:XB)(h:XT),(K w.params).In h->h.Ns mainGlobals mg->mg d.name=some (.ref fa)->∃fd:FuncData,(∀(s:XM)(u:XR),BindsTo s fd ⟨[u],[]⟩ [(x,u)])/\∀base:Heap,(K w.params).In base->base.Ns mainGlobals mg->FnOk l.prog w (K w.params) mg base CX k fa fd [x] (sp (K w.params)))(hsp:∀(K:Ydg)(H:Hp)(a:XB)(ns:XD),ns.length<=n->Only H->SqL K H a (ns.map V.int)->sp K [.ref a] H (λv _=>v=.bl true) λ_ _ _=>False)(hCX:∀(H:Hp)(s:XM)(e:XR)(s':XM),CX [] H s (λ_ _ _=>False) e s'->False) :
  PySem.W.WalkO q loose XP YP l.row.toRowW d [] (λf vs=>PySem.call f vs):=
 ZuZ (K:=K) (CX:=λ_=>CX) (sp:=λw=>sp (K w.params)) hn hn2 hdf hr hY F (λw H a ns h1 h2 h3=>hsp (K w.params) H a ns h1 h2 h3) λ_ H s e s'=>hCX H s e s'
noncomputable def Zaz(s:Stmt)(j:Nat):Stmt:=match s with
 |.ClassDef _ _ _ body _ _ _ _ _ _ _=>body.getD j (.Pass ⟨0,0,0,0⟩)
 |_=>.Pass ⟨0,0,0,0⟩
noncomputable def Zbd(s:Stmt):Arguments:=match s with
 |.FunctionDef _ a _ _ _ _ _ _ _ _=>a
 |_=>{posonlyargs:=[],args:=[],vararg:=none,kwonlyargs:=[],kw_defaults:=[],kwarg:=none,defaults:=[]}
noncomputable def ZaV(s:Stmt):List Stmt:=match s with
 |.FunctionDef _ _ b _ _ _ _ _ _ _=>b
 |_=>[]
noncomputable def Zae(s:Stmt):Scope:=match s with
 |.FunctionDef _ _ _ _ _ _ sc _ _ _=>sc
 |_=>{kind:=.function,names:=[],isGenerator:=false,isCoroutine:=false}
abbrev CX0:CXT:=λ_ _ _ _ _ _=>False
noncomputable abbrev E0:XK:=λ_ _ _=>False
def pass0{X:Cx}:ZeR CX0 X E0:=λ_ _ _ _ _ _ _ h=>h.elim
structure Fun(K:Ydg)(x qual:Str)(st:Stmt)(f:XB)(fd:FuncData):Prop where
 ex:∃(oc:XR)(od:Xb)(kV doc pm:XR)(an:Xb)(cdv ct:XR)(osl:XZ),
  fd=PySem.W.fnOf x qual (Zbd st) (ZaV st) (Zae st) .none kV doc pm an cdv ct/\K.lookup f=some ⟨oc,od,.func fd,osl⟩/\PySem.W.codeIn K cdv qual=true
 kp:PySem.W.keepIn K (.ref f)=true
section
variable{P:XI}{w:XO}{K:Ydg}{mg:XA}{base:XT}
def Fun.ok{x qual:Str}{st:Stmt}{f:XB}{fd:FuncData}{N ps:XN}{k:Nat}{sp:Sp}(F:Fun K x qual st f fd)(S:FnScope N ps (Zae st))(len:∀vs H Q E,sp vs H Q E->vs.length=ps.length)(hbody:∀(cdv:XR)(A:XY)(outer:Xk)(s:XM)(H:Hp)(vs:XF)(Q:VK)(E:XK),Room k (A.deeper (envOfC qual (Zae st) s.heap.objs.size f cdv))->sp vs H Q E->∃t,PSs (cxOf CX0 P w K mg base N qual (Zae st) f cdv A outer s H E).nox (ZaV st) t/\t {nx:=λ_ H'=>Q .non H',rt:=Q} (start N vs) H):FnOk P w K mg base CX0 (k+1) f fd ps sp:=by
 let⟨oc,od,kV,doc,pm,an,cdv,ct,osl,rfl,lk,hcd⟩:=F.ex;refine fn_of lk hcd S len λA outer s H vs Q E hr hsp=>?_;let⟨t,h,q⟩:=hbody cdv A outer s H vs Q E hr hsp;exact⟨t,h.nox,q⟩
def Fun.binds{x qual:Str}{st:Stmt}{f:XB}{fd:FuncData}{ps:XN}(F:Fun K x qual st f fd)(h:∀(kV doc pm:XR)(an:Xb)(cdv ct:XR)(us:XH),us.length=ps.length->bindArgs (PySem.W.fnOf x qual (Zbd st) (ZaV st) (Zae st) .none kV doc pm an cdv ct) ⟨us,[]⟩=pure (ps.zip us)):Binds K fd ps []:=by
 let⟨oc,od,kV,doc,pm,an,cdv,ct,osl,rfl,lk,hcd⟩:=F.ex;exact .all (h kV doc pm an cdv ct)
def Zp1{x qual:Str}{st:Stmt}{f:XB}{oc:XR}{od an:Xb}{osl:XZ}{kV doc pm cdv ct:XR}(l:K.lookup f=some ⟨oc,od,.func (PySem.W.fnOf x qual (Zbd st) (ZaV st) (Zae st) .none kV doc pm an cdv ct),osl⟩)(c:PySem.W.codeIn K cdv qual=true)(k:PySem.W.keepIn K (.ref f)=true):Fun K x qual st f (PySem.W.fnOf x qual (Zbd st) (ZaV st) (Zae st) .none kV doc pm an cdv ct):=⟨⟨oc,od,kV,doc,pm,an,cdv,ct,osl,rfl,l,c⟩,k⟩
end
def Zp2{A:XY}{k:Nat}(hr:Room k A):A.units+1<cLine:=Y4 (Nat.add_le_add_left (by decide:1<=64) _) hr.units
section
variable{X:Cx}
def pv(i:Nat){x:Str}{pos:Pos}(hN:X.N[i]?=some x:=by rfl)(hv:Vis X.env.scope x:=by first|exact Or.inl rfl|exact Or.inr (Or.inl rfl)|exact Or.inr (Or.inr rfl))(hd:(x==("__debug__":Xq))=false:=by decide)(hcd:(x==("__classdict__":Xq))=false:=by decide):PE X (.Name x pos) (tVar i):=pe_var hN hv hd hcd
def Zp3:CallR X (.builtin "len") (λxs H Q=>∃a kvs,xs=[V.ref a]/\H a=some (.dK kvs)/\Q (.int kvs.length) H):=by
 walk_at"V";let⟨a,kvs,rfl,ha,q⟩:=h;let⟨u,rfl,ru⟩:=vals1 r;cases ru;exact d_len I (.inl ha) λt s' I'=>⟨.int kvs.length,H,I',⟨t,rfl⟩,q⟩
end
def iteF{A B:Prop}(h:B):if false=true then A else B:=by
 rw[if_neg YC];exact h
def iteT{A B:Prop}(h:A):if true=true then A else B:=by
 rw[if_pos rfl];exact h
def Same(H H':Hp):Prop:=∀b o,H b=some o->H' b=some o
def Same.refl(H:Hp):Same H H:=λ_ _ h=>h
def Same.trans{H H1 H2:Hp}(a:Same H H1)(b:Same H1 H2):Same H H2:=λc o h=>b c o (a c o h)
def Same.seq{K:Ydg}{H H':Hp}{a:XB}{xs:XF}(e:Same H H')(h:SqL K H a xs):SqL K H' a xs:=by
 rcases h with(h|⟨o,h⟩)|h
 .exact .inl (.inl (e _ _ h))
 .exact .inl (.inr ⟨o,e _ _ h⟩)
 .exact .inr h
section
variable{κ:Type} [DecidableEq κ]
def ZgT{kvs:List (κ×V)}{k:κ}(h:valV kvs k=none):¬k∈kvs.map (·.1):=by
 intro m;let⟨p,hp,e⟩:=YF.mp m;have q:(kvs.any λkv=>decide (kv.1=k))=true:=Yby.mpr ⟨p,hp,YG e⟩;rw[Zct,h]at q;exact absurd q (by simp)
def Zu0{kvs:List (κ×V)}{k:κ}{v:V}(h:valV kvs k=some v):k∈kvs.map (·.1):=by
 have q:(kvs.any λkv=>decide (kv.1=k))=true:=by
  rw[Zct,h];all_goals rfl
 let⟨p,hp,e⟩:=Yby.mp q;exact YF.mpr ⟨p,hp,of_decide_eq_true e⟩
theorem Zp4:∀{l:List κ}{k:κ},l.Nodup->¬k∈l->(l++[k]).Nodup
 |[],k,_,_=>by simp
 |a::r,k,h,hk=>by
  let⟨h1,h2⟩:=YT.mp h;show(a::(r++[k])).Nodup;refine YT.mpr ⟨λm=>?_,Zp4 h2 λm=>hk (Yh.mpr (Or.inr m))⟩;rcases Yw.mp m with q|q
  .exact h1 q
  .exact hk (Yh.mpr (Or.inl (Ye.mp q).symm))
def Zu1{kvs:List (κ×V)}{k:κ}(v:V)(hn:(kvs.map (·.1)).Nodup)(h:valV kvs k=none):((putK kvs k v).map (·.1)).Nodup:=by
 rw[Zsl v h,YA];exact Zp4 hn (ZgT h)
def Zla{p:κ×V}{r:List (κ×V)}{k:κ}(e:p.1=k):dropK (p::r) k=dropK r k:=by
 unfold dropK;rw[Yba,if_neg (by simp[e])]
def Zlb{p:κ×V}{r:List (κ×V)}{k:κ}(e:¬p.1=k):dropK (p::r) k=p::dropK r k:=by
 unfold dropK;rw[Yba,if_pos (by simp[e])]
def Zlc{kvs:List (κ×V)}{k:κ}{p:κ×V}(h:p∈dropK kvs k):p∈kvs:=(Ybk.mp h).1
theorem ZjF:∀{kvs:List (κ×V)}{k:κ},(kvs.map (·.1)).Nodup->((dropK kvs k).map (·.1)).Nodup
 |[],_,_=>Yc7
 |p::r,k,h=>by
  have h:(p.1::r.map (·.1)).Nodup:=h;let⟨h1,h2⟩:=YT.mp h;by_cases e:p.1=k
  .rw [Zla e];exact ZjF h2
  .rw [Zlb e];show(p.1::(dropK r k).map (·.1)).Nodup;refine YT.mpr ⟨λm=>h1 ?_,ZjF h2⟩;let⟨q,hq,eq⟩:=YF.mp m;exact YF.mpr ⟨q,Zlc hq,eq⟩
end
noncomputable def hid(own:XN)(x:Str):Str:=if own.contains x=true then""else x
structure CompScope(sc:Scope)(N own:XN)(scope:Scope):Prop where
 kind:scope.kind=.function
 nocell:∀y∈scope.names,y.2≠.cell
 names:∀y∈scope.names,y.2=.local->scope.names.lookup y.1=some .local
 free:∀y∈scope.names,y.2=.free->sc.names.lookup y.1=some .cell\/sc.names.lookup y.1=some .free
 dis:∀x∈N,scope.names.lookup x=some .local->own.contains x=true
 no:scope.names.lookup ("":Xq)=none
noncomputable def cxComp(X:Cx)(own:XN)(scope:Scope)(cl:List (Str×Addr))(C:XB)(s:XM)(H:Hp)(ex:Xa):Cx:=
 {X with N:=own++X.N.map (hid own),s₀:=s,H₀:=H,env:=compEnvC scope cl C X.env,outer:=X.stack,stack:=X.stack,ex:=ex,fn:=λ_=>false,pn:=[],xe:=λ_ _=>False}
theorem Zld{κ:Type} [BEq κ] [LawfulBEq κ] {β:Type}:∀{l:List (κ×β)}{x:κ}{v:β},l.lookup x=some v->(x,v)∈l
 |[],_,_,h=>by simp at h
 |(y,u)::r,x,v,h=>by
  rw[Yap]at h;cases e:x==y with
  |true=>
   rw[e]at h;cases h;rw[eq_of_beq e];exact Y1
  |false=>
   rw[e]at h;exact Yo _ (Zld h)
def ZoG{scope:Scope}{env:Env}(h:∀y∈scope.names,y.2=.free->∃c,env.cells.lookup y.1=some c) :
  ∃cl,closureFor scope env=pure cl/\(∀x c,cl.lookup x=some c->env.cells.lookup x=some c)/\∀y∈scope.names,y.2=.free->∃c,cl.lookup y.1=some c:=by
 have gen:∀(names:List (Str×NameKind))(acc:List (Str×Addr)),(∀y∈names,y.2=.free->∃c,env.cells.lookup y.1=some c)->(∀x c,acc.lookup x=some c->env.cells.lookup x=some c)->
   ∃cl,(forIn names acc λ(x:Str×NameKind)(r:List (Str×Addr))=>if(x.2==NameKind.free)=true then(do let a<- cellOf env x.1;pure (ForInStep.yield ((x.1,a)::r)))else pure (ForInStep.yield r):Sem (List (Str×Addr)))=pure cl/\(∀x c,cl.lookup x=some c->env.cells.lookup x=some c)/\
    (∀y∈names,y.2=.free->∃c,cl.lookup y.1=some c)/\∀x c,acc.lookup x=some c->∃c',cl.lookup x=some c':=by
  intro names;induction names with
  |nil=>intro acc _ ha;exact⟨acc,by simp[Yc8],ha,λy hy=>by simp at hy,λx c e=>⟨c,e⟩⟩
  |cons y r ih=>
   intro acc hn ha;rw[YcX];by_cases hf:y.2=.free
   .obtain ⟨c,hc⟩:=hn y Y1 hf;have e1:(y.2==NameKind.free)=true:=by rw[hf];rfl
    have ce:cellOf env y.1=pure c:=by unfold cellOf;rw[hc]
    let⟨cl,h1,h2,h3,h4⟩:=ih ((y.1,c)::acc) (λz hz=>hn z (Yo _ hz)) (λx c' e=>by
     rw[Yap]at e;cases q:x==y.1 with
     |true=>rw[q]at e;cases e;rw[eq_of_beq q];exact hc
     |false=>rw[q]at e;exact ha x c' e)
    refine⟨cl,?_,h2,?_,?_⟩
    .rw [if_pos e1,ce];simpa using h1
    .intro z hz zf;rcases Yh.mp hz with rfl|hz
     .exact h4 z.1 c (by rw[Yap];simp)
     .exact h3 z hz zf
    .intro x c' e;cases q:x==y.1 with
     |true=>exact h4 x c (by rw[Yap,q])
     |false=>exact h4 x c' (by rw[Yap,q];exact e)
   .have e1:¬(y.2==NameKind.free)=true:=by intro z;exact hf (by simpa using z)
    let⟨cl,h1,h2,h3,h4⟩:=ih acc (λz hz=>hn z (Yo _ hz)) ha;refine⟨cl,?_,h2,?_,h4⟩
    .rw [if_neg e1];simpa using h1
    .intro z hz zf;rcases Yh.mp hz with rfl|hz
     .exact absurd zf hf
     .exact h3 z hz zf
 let⟨cl,h1,h2,h3,_⟩:=gen scope.names [] h (λx c e=>by simp at e);refine⟨cl,?_,h2,h3⟩;unfold closureFor;simpa using h1
theorem ZcW{scope:Scope}{env:Env}:∀{names:List (Str×NameKind)}{x:Str},(∀y∈names,y.2≠.cell)->
  (names.map λ(n,k)=>if(k==NameKind.free&&env.scope.kind==.function&&env.kindOf n==some .cell)=true then(n,NameKind.cell)else(n,k)).lookup x=some .local->names.lookup x=some .local
 |[],_,_,h=>by simp at h
 |(n,k)::r,x,hc,h=>by
  rw[Yz,Yap]at h;rw[Yap];by_cases q:(k==NameKind.free&&env.scope.kind==.function&&env.kindOf n==some .cell)=true
  .simp only[q,Ybr]at h;cases e:x==n with
   |true=>rw[e]at h;cases h
   |false=>rw[e]at h;exact ZcW (scope:=scope) (env:=env) (λy hy=>hc y (Yo _ hy)) h
  .simp only[q]at h;cases e:x==n with
   |true=>simpa[e]using h
   |false=>
    have h':(r.map λ(n,k)=>if(k==NameKind.free&&env.scope.kind==.function&&env.kindOf n==some .cell)=true then(n,NameKind.cell)else(n,k)).lookup x=some .local:=by simpa[e]using h
    exact ZcW (scope:=scope) (env:=env) (λy hy=>hc y (Yo _ hy)) h'
theorem ZcX{scope:Scope}{env:Env}:∀{names:List (Str×NameKind)}{x:Str},(∀y∈names,y.2≠.cell)->
  ((names.map λ(n,k)=>if(k==NameKind.free&&env.scope.kind==.function&&env.kindOf n==some .cell)=true then(n,NameKind.cell)else(n,k)).lookup x=some .cell\/(names.map λ(n,k)=>if(k==NameKind.free&&env.scope.kind==.function&&env.kindOf n==some .cell)=true then(n,NameKind.cell)else(n,k)).lookup x=some .free)->(x,NameKind.free)∈names
 |[],_,_,h=>by simp at h
 |(n,k)::r,x,hc,h=>by
  rw[Yz,Yap]at h;by_cases q:(k==NameKind.free&&env.scope.kind==.function&&env.kindOf n==some .cell)=true
  .have kf:k=.free:=by
    simp only[Yq,Ya0]at q;exact q.1.1
   simp only[q,Ybr]at h;cases e:x==n with
   |true=>rw[eq_of_beq e,kf];exact Y1
   |false=>
    rw[e]at h;exact Yo _ (ZcX (scope:=scope) (env:=env) (λy hy=>hc y (Yo _ hy)) h)
  .simp only[q]at h;cases e:x==n with
   |true=>
    have h':k=.cell\/k=.free:=by simpa[e]using h
    rcases h' with z|z
    .exact absurd z (hc (n,k) Y1)
    .rw [eq_of_beq e,z];exact Y1
   |false=>
    have h':((r.map λ(n,k)=>if(k==NameKind.free&&env.scope.kind==.function&&env.kindOf n==some .cell)=true then(n,NameKind.cell)else(n,k)).lookup x=some .cell\/(r.map λ(n,k)=>if(k==NameKind.free&&env.scope.kind==.function&&env.kindOf n==some .cell)=true then(n,NameKind.cell)else(n,k)).lookup x=some .free):=by simpa[e]using h
    exact Yo _ (ZcX (scope:=scope) (env:=env) (λy hy=>hc y (Yo _ hy)) h')
theorem Zdn{env:Env}:∀{names:List (Str×NameKind)}{x:Str},names.lookup x=none->
  (names.map λ(n,k)=>if(k==NameKind.free&&env.scope.kind==.function&&env.kindOf n==some .cell)=true then(n,NameKind.cell)else(n,k)).lookup x=none
 |[],_,_=>rfl
 |(n,k)::r,x,h=>by
  rw[Yap]at h;rw[Yz,Yap];cases e:x==n with
  |true=>rw[e]at h;cases h
  |false=>
   rw[e]at h;by_cases q:(k==NameKind.free&&env.scope.kind==.function&&env.kindOf n==some .cell)=true
   .simp only[q,Ybr,e];exact Zdn h
   .simp only[q,e];simpa[e]using Zdn (env:=env) h
def Inv.block{X:Cx}{pins:XG}{U:St}{H:Hp}{s:XM}{own:XN}{scope:Scope}{cl:List (Str×Addr)}{fp:Xa}{h':XT}(I:Inv X pins U H s)(S:CompScope X.env.scope X.N own scope)(c1:∀x c,cl.lookup x=some c->X.env.cells.lookup x=some c)(c2:∀y∈scope.names,y.2=.free->∃c,cl.lookup y.1=some c)(f:∀b∈fp,FpOk X pins H b)(fo:∀b∈fp,b<s.heap.objs.size)(ns:h'.Ns s.heap.objs.size (λ_=>none))(k:∀b o,s.heap.get? b=some o->h'.get? b=some o){t':Nat} :
  Inv (cxComp X own scope cl s.heap.objs.size s H fp) [] (List.replicate own.length none++U) H {s with heap:=h',toks:=t'}:=by
 have kd:∀x,(compEnvC scope cl s.heap.objs.size X.env).kindOf x=some .cell\/(compEnvC scope cl s.heap.objs.size X.env).kindOf x=some .free->(x,NameKind.free)∈scope.names:=λx h=>ZcX (scope:=scope) (env:=X.env) S.nocell h;have okY:(cxComp X own scope cl s.heap.objs.size s H fp).Ok:=by
  refine⟨I.ok.mod,S.kind,I.ok.glob,I.ok.blt,Yk _,λx y c hx hy=>I.ok.inj x y c (c1 x c hx) (c1 y c hy),λx hx=>?_,λx c hf=>(nomatch hf),I.ok.hd,I.ok.frames,.inl rfl,λb hb=>⟨?_,λx c hc=>?_⟩,I.bs,Yj I.ok.bsz I.sz,λb o e hb=>?_,λb hb hfs=>?_,I.stack,I.stkFree⟩
  .exact c2 (x,.free) (kd x hx) rfl
  .exact YW (fo b hb)
  .exact (f b hb).2.2.2.2.1 x c (c1 x c hc)
  .rcases (f b hb).2.2.2.1 with z|z
   .exact I.ok.noex b o e z
   .exact absurd (YS (YE e) (Yj I.ok.bsz z)) (Ya1 _)
  .obtain ⟨_,f1,f2,_⟩:=f b hb;rcases Yh.mp (I.stkSub b hfs)with z|z
   .exact f1 z
   .exact f2 z
 refine⟨okY,rfl,I.bare,Un.kept k,⟨_,ns,λi x v e1 e2 e3=>?_⟩,λx c hc=>?_,I.hok.fresh (Yk _),λx c hc=>I.freeC x c (c1 x c hc),λp hp=>by simp[cxComp]at hp,I.hok.kept k,?_⟩
 .by_cases hi:i<own.length
  .have e2':(List.replicate own.length (none:Option V)++U)[i]?=some (some v):=e2;rw[YX (by simpa using hi),List.getElem?_replicate,if_pos hi]at e2';cases e2'
  .have hle:own.length<=i:=Nat.le_of_not_lt hi;have e2':U[i-own.length]?=some (some v):=by
    have e2':(List.replicate own.length (none:Option V)++U)[i]?=some (some v):=e2;rw[Yv (by simpa using hle)]at e2';simpa using e2'
   have e1'':(X.N.map (hid own))[i-own.length]?=some x:=by
    have e1':(own++X.N.map (hid own))[i]?=some x:=e1;rwa[Yv hle]at e1'
   rw[Yb]at e1'';let⟨y,e1',ey⟩:=Yu.mp e1'';have hy:own.contains y=false:=by
    cases hc:own.contains y with
    |false=>rfl
    |true=>
     unfold hid at ey;rw[if_pos hc]at ey;subst ey;have e3':(scope.names.map λ(n,k)=>if(k==NameKind.free&&X.env.scope.kind==.function&&X.env.kindOf n==some .cell)=true then(n,NameKind.cell)else(n,k)).lookup ("":Xq)≠none:=by
      rcases e3 with z|z|z<;>(intro q;have z':(scope.names.map λ(n,k)=>if(k==NameKind.free&&X.env.scope.kind==.function&&X.env.kindOf n==some .cell)=true then(n,NameKind.cell)else(n,k)).lookup ("":Xq)=_:=z;rw[q]at z';cases z')
     exact absurd (Zdn S.no) e3'
   have exy:y=x:=by
    unfold hid at ey;rw[if_neg (by rw[hy];exact YC)]at ey;exact ey
   subst exy;have hm:y∈X.N:=Yn e1';have h3:(compEnvC scope cl s.heap.objs.size X.env).kindOf y=some .cell\/(compEnvC scope cl s.heap.objs.size X.env).kindOf y=some .free:=by
    rcases e3 with z|z
    .have:=S.dis y hm (ZcW (scope:=scope) (env:=X.env) S.nocell z);rw[hy]at this;cases this
    .exact z
   have hfree:=kd y h3;let⟨c,hc⟩:=c2 (y,.free) hfree rfl;have hout:=S.free (y,.free) hfree rfl;let⟨m,hn,hl⟩:=I.loc;let⟨u,r,l⟩:=hl _ y v e1' e2' (hout.elim (λz=>.inr (.inl z)) (λz=>.inr (.inr z)));refine⟨u,r,.inr ⟨h3,c,hc,?_⟩⟩;rcases l with⟨kl,_⟩|⟨_,c',hc',hcell⟩
   .rcases hout with z|z
    .rw [show X.env.kindOf y=X.env.scope.names.lookup y from rfl,z]at kl;cases kl
    .rw [show X.env.kindOf y=X.env.scope.names.lookup y from rfl,z]at kl;cases kl
   .rw [c1 y c hc]at hc';cases hc';let⟨o,ho,hd⟩:=hcell;exact⟨o,k c o ho,hd⟩
 .obtain ⟨v,o,ho,hd⟩:=I.cell x c (c1 x c hc);exact⟨v,o,k c o ho,hd⟩
 .show (List.replicate own.length (none:Option V)++U).length=(own++X.N.map (hid own)).length;rw[Yc,Yc,Ych,Ya,I.len]
def PIf(X:Cx)(ifs:Xd)(tc:TT):Prop:=
 ∀(pins:XG)(s:XM)(U:St)(H:Hp)(Q:Xn),Inv X pins U H s->tc U H Q->
  wpAny (model X.prog X.w) X.A (forIn ifs true λc r=>if r=true then do let ok<- isTrue c X.env (eval c X.env);pure (ForInStep.yield ok)else pure (ForInStep.yield r)) (TP X pins U Q) X.xe s
def tNoIf:TT:=λ_ H Q=>Q true H
def ZbI{X:Cx}:PIf X [] tNoIf:=by
 walk_at"I";rw[Yc8];exact Yp ⟨H,I,h⟩
def Zp5{X:Cx}{c:Xi}{tc:TT}(hc:PT X c tc):PIf X [c] tc:=by
 walk_at"I";rw[YcX];simp only[Ybr];refine Yg (Yg (thn (hc pins s U H Q I h) λb s1 q=>Yp ?_));simp only[Yc8];exact Yp q
def tLoopC(k:Nat)(g:TG)(tc:TT)(te:TE)(J:It)(p:XB)(R:Hp->Prop)(U:St)(H:Hp):Prop:=
 ∃W:Nat->Nat->St->Hp->Prop,(∃m,W 0 m (List.replicate k none++U) (upd H p (.lst [])))/\∀i m U' H',W i m U' H'->
  (J.stop i H'/\R H')\/(J.go i H'/\∃N:St->Hp->Prop,(∀U2 H2,N U2 H2->∃m',m'<m/\W (i+1) m' U2 H2)/\∀x H1,J.yld i H' x H1->g x U' H1 λU2 H2=>tc U2 H2 λb H3=>if b=true then te U2 H3 λv H4=>∃ys,H4 p=some (.lst ys)/\ys.length<sizeLine/\N U2 (upd H4 p (.lst (ys++[v])))else N U2 H3)
def tComp(k:Nat)(wi:TI)(g:TG)(tc:TT)(te:TE):TE:=λU H Q=>wi U H λJ H1=>∀p,H1 p=none->tLoopC k g tc te J p (λH'=>Q (.ref p) H') U H1
def Zle{X:Cx}{tg elt iter:Xi}{ifs:Xd}{scope:Scope}{pos:Pos}{own:XN}{wi:TI}{g:TG}{tc:TT}{te:TE}{pins:XG}{U:St}{H:Hp}{s:XM}{use:Option (Value->Sem Unit)}{Q:XE}{R:Addr->Hp->Prop}(hc:X.calm=true)(S:CompScope X.env.scope X.N own scope)(hi:PI X tg iter wi)(hg:∀cl C s₀ H₀ ex,PG (cxComp X own scope cl C s₀ H₀ ex) tg g)(ht:∀cl C s₀ H₀ ex,PIf (cxComp X own scope cl C s₀ H₀ ex) ifs tc)(he:∀cl C s₀ H₀ ex,PE (cxComp X own scope cl C s₀ H₀ ex) elt te)(hs:∀x,foldedSetIterable iter X.env x=pure x)(I:Inv X pins U H s)(h:wi U H λJ H1=>∀p,H1 p=none->tLoopC own.length g tc te J p (R p) U H1)(fin:∀(p:XB)(H':Hp)(s':XM)(C:XB)(m:XA),Inv X pins U H' s'->FpOk X pins H' C->s'.heap.Ns C m->R p H'->compPost (model X.prog X.w) X.A X.xe use Q (.ref p) C (.ok .next) s') :
  wpAny (model X.prog X.w) X.A (comprehension (.ListComp elt [⟨tg,iter,ifs,0⟩] scope pos) scope X.env (firstIterPos [⟨tg,iter,ifs,0⟩] pos) (newList []) false (eval iter X.env) use) Q X.xe s:=by
 let⟨cl,hcl,c1,c2⟩:=ZoG (scope:=scope) (env:=X.env) λy hy hf=>I.ok.has y.1 (S.free y hy hf);refine wpAny_comprehension_free (use:=use) rfl hs hcl S.kind S.names (thn (hi pins s U H _ I h) λxv s1 h1=>thn h1 λitv s2 h2=>?_);let⟨it,fp,tn,J,H2,e,I2,T,st2,f2,q2⟩:=h2;subst e;refine Yav ?_;have hp:H2 s2.heap.objs.size=none:=I2.hok.fresh (Yk _);let⟨W,⟨m0,w0⟩,turn⟩:=q2 _ hp;generalize hP:s2.heap.objs.size=P at hp W w0 turn |-;have kP:∀b u,s2.heap.get? b=some u->(s2.heap.push {cls:=.type "list",dict:=none,data:=.seq ([]:XH).toArray}).get? b=some u:=λb u e=>Yl _ e
 have I3:Inv X pins U (upd H2 P (.lst [])) {s2 with heap:=s2.heap.push {cls:=.type "list",dict:=none,data:=.seq ([]:XH).toArray},toks:=s2.toks}:=
  I2.laid (a:=P) (o:=.lst []) (t':=s2.toks) kP (by rw[hP];exact Yk _) ⟨YO _,[],0,.nil,by rw[<- hP];exact YJ _ rfl⟩
 have fP:∀b∈fp,b≠P:=λb hb z=>by
  let⟨o,ho,_⟩:=T.obj _ _ st2 b hb;have q:=YE ho;rw[hP,z]at q;exact Ya1 _ q
 have f3:∀b∈fp,FpOk X pins (upd H2 P (.lst [])) b:=λb hb=>⟨by rw[Zaj (fP b hb)];exact(f2 b hb).1,(f2 b hb).2⟩;have st3:tn 0 (s2.heap.push {cls:=.type "list",dict:=none,data:=.seq ([]:XH).toArray}):=T.keep _ _ _ st2 λb _ o e=>kP b o e;generalize hS3:({s2 with heap:=s2.heap.push {cls:=.type "list",dict:=none,data:=.seq ([]:XH).toArray},toks:=s2.toks}:XM)=s3 at I3;have st3':tn 0 s3.heap:=by rw[<- hS3];exact st3
 have fo:∀b∈fp,b<s3.heap.objs.size:=λb hb=>by
  let⟨o,ho,_⟩:=T.obj _ _ st3' b hb;exact YE ho
 refine wpAny_newFunctionEnv S.nocell (by intro y hy;simp at hy) (λh4 hns hsb=>?_) S.kind;try dsimp only at hns hsb |-
 have k4:∀b o,s3.heap.get? b=some o->h4.get? b=some o:=λb o e=>hsb.extBut b o (YW (YE e)) (Yl _ e);have I4:=Inv.block (own:=own) (h':=h4) (t':=s3.toks+([]:Xj).length) I3 S c1 c2 f3 fo (by simpa using hns) k4;have fpY:∀{H':Hp},(∀b∈fp,H' b=none)->∀b∈fp,FpOk (cxComp X own scope cl s3.heap.objs.size s3 (upd H2 P (.lst [])) fp) [] H' b:=λhn b hb=>by
  refine⟨hn b hb,YW (fo b hb),?_,.inl hb,λx c hx=>(f3 b hb).2.2.2.2.1 x c (c1 x c hx),λp hp=>by simp[cxComp]at hp⟩;intro hfs;rcases Yh.mp (I3.stkSub b hfs)with z|z
  .exact (f3 b hb).2.1 z
  .exact (f3 b hb).2.2.1 z
 have loop:codeAny (model X.prog X.w) X.A (.compLoop (.ListComp elt [⟨tg,iter,ifs,0⟩] scope pos) 0 (.ref it) (.ref P) (compEnvC scope cl s3.heap.objs.size X.env)) (compPost (model X.prog X.w) X.A X.xe use Q (.ref P) s3.heap.objs.size) {s3 with heap:=h4,toks:=s3.toks+([]:Xj).length}:=by
  refine codeAny_loop rfl (λn s'=>∃i U' H',Inv (cxComp X own scope cl s3.heap.objs.size s3 (upd H2 P (.lst [])) fp) [] U' H' s'/\tn i s'.heap/\(∀b∈fp,H' b=none)/\W i n U' H') ?_ m0 ⟨0,_,_,I4,T.keep _ _ _ st3' λb _ o e=>k4 b o e,λb hb=>(f3 b hb).1,w0⟩;rintro n s5 ⟨i,U5,H5,I5,st5,fr5,w5⟩;show wpAny _ _ ((compTurn (.ListComp elt [⟨tg,iter,ifs,0⟩] scope pos) 0 (.ref it) (.ref P) (compEnvC scope cl s3.heap.objs.size X.env)).onRaise (λx=>do noteFrame x (compEnvC scope cl s3.heap.objs.size X.env);theTreesLotGoes x)) _ _ s5;refine wpAny_noted ?_;rw[compTurn_list];have nE:∀{α:Type}{t:Sem α}{QQ:α->Shared->Prop}{E':XE}{ss:XM},wpAny (model X.prog X.w) X.A t QQ (λ_ _=>False) ss->wpAny (model X.prog X.w) X.A t QQ E' ss:=λh=>YaZ h (λ_ _ q=>q) λ_ _ z=>z.elim;refine Yg (wpAny_standAt (Yg ?_));rcases turn i n U5 H5 w5 with⟨stop,qn⟩|⟨go,N,hN,step⟩
  .refine thn (T.done (cxComp X own scope cl s3.heap.objs.size s3 (upd H2 P (.lst [])) fp) rfl rfl rfl hc i [] s5 U5 H5 _ I5 (fpY fr5) st5 stop) λr s6 ⟨hr,I6⟩=>?_;subst hr;refine Yp ?_;have back:∀h',Heap.SameBut s3.heap.objs.size s6.heap h'->Inv X pins U H5 {s6 with heap:=h'}:=λh' sb=>by
    have nC:∀b o,s3.heap.get? b=some o->b≠s3.heap.objs.size:=λb o e=>YW (YE e);have nH:∀b u,H5 b=some u->b≠s3.heap.objs.size:=λb u e z=>by
     have:H5 s3.heap.objs.size=none:=I6.free;rw[z,this]at e;cases e
    refine I3.call' (s':={s6 with heap:=h'}) (ch:=fp) I6.os ⟨λb o e n hb hx=>?_,λb o e n hb hx=>?_,I6.base.free,λb o e hx=>?_,I6.base.tups,I6.base.frzs,I6.base.tbls⟩ ?_ I6.bare λb hb=>?_
    .exact (sb.2 b (nC b o e)).trans (I6.base.keep b o e n hb hx)
    .obtain ⟨sl,z⟩:=I6.base.slot b o e n hb hx;exact⟨sl,(sb.2 b (nC b o e)).trans z⟩
    .obtain ⟨o',z⟩:=I6.base.there b o e hx;exact⟨o',(sb.2 b (nC b o e)).trans z⟩
    .intro b u e;refine(I6.hok b u e).stay (λc v hc q=>(sb.2 c ?_).trans q) (λ_ q=>q) λ_ _ q=>q;rcases hc with z|z
     .rw [z];exact nH b u e
     .exact nH c _ z
    .obtain ⟨_,g1,g2,g3,g4,g5⟩:=f3 b hb;exact⟨g3,g1,g4,g5⟩
   let⟨m,hn,_⟩:=I6.loc;exact fin P H5 s6 s3.heap.objs.size m (back s6.heap (.refl ..)) (I3.fpOk (Yk _) I6.free) hn qn
  .refine thn (T.item (cxComp X own scope cl s3.heap.objs.size s3 (upd H2 P (.lst [])) fp) rfl rfl rfl hc i [] s5 U5 H5 _ I5 (fpY fr5) st5 go) λr s6 ⟨u,hr,h6⟩=>?_;subst hr;refine Yg (thn h6 λ_ s7 hzq=>?_);let⟨x,H7,I7,r7,y7,st7,fr7⟩:=hzq;have I7':=I7.pinned (fpY fr7) (T.obj _ _ st7);refine Yg (nE (thn (hg cl s3.heap.objs.size s3 (upd H2 P (.lst [])) fp _ s7 U5 H7 x u _ I7' r7 (step x H7 y7)) λ_ s8 hzq=>?_));let⟨U8,H8,I8,q8⟩:=hzq;have again:∀{s9:XM}{H9:Hp},Inv (cxComp X own scope cl s3.heap.objs.size s3 (upd H2 P (.lst [])) fp) ([]++pinsAt fp s7.heap) U8 H9 s9->N U8 H9->∃m,m<n/\∃i U' H',Inv (cxComp X own scope cl s3.heap.objs.size s3 (upd H2 P (.lst [])) fp) [] U' H' s9/\tn i s9.heap/\(∀b∈fp,H' b=none)/\W i m U' H':=λ{s9 H9} I9 n9=>by
    let⟨m',hm,w9⟩:=hN U8 H9 n9;refine⟨m',hm,i+1,U8,H9,I9.unpinned,T.keep _ _ _ st7 λb hb o e=>(I9.pin (b,o) (Y5 _ (Y5 _ (ZdR hb e)))).1,λb hb=>?_,w9⟩;let⟨o,e,d⟩:=T.obj _ _ st7 b hb;exact(I9.pin (b,o) (Y5 _ (Y5 _ (ZdR hb e)))).2.1
   refine Yg (nE (thn (ht cl s3.heap.objs.size s3 (upd H2 P (.lst [])) fp _ s8 U8 H8 _ I8 q8) λok s9 hzq=>?_));let⟨H9,I9,q9⟩:=hzq;cases ok with
   |false=>
    rw[if_neg nofun]at q9;exact Yp ⟨rfl,again I9 q9⟩
   |true=>
    rw[if_pos rfl]at q9;refine Yg (Yg (nE (thn (he cl s3.heap.objs.size s3 (upd H2 P (.lst [])) fp _ s9 U8 H9 _ I9 q9) λy s10 hzq=>?_)));let⟨v,H10,I10,r10,ys,e10,l10,q10⟩:=hzq;refine Yg (nE (thn (ZaT (X:=cxComp X own scope cl s3.heap.objs.size s3 (upd H2 P (.lst [])) fp) _ s10 U8 H10 (.ref P) [v] (.ref P) [y] (λ_ H'=>N U8 H') I10 rfl (.cons r10 .nil) ⟨P,ys,v,rfl,rfl,e10,l10,q10⟩) λ_ s11 hzq=>?_));let⟨_,H11,I11,_,q11⟩:=hzq;exact Yp (Yp ⟨rfl,again I11 q11⟩)
 have lself:=T.self X.A 0 ({s3 with heap:=h4,toks:=s3.toks+([]:Xj).length}:XM) (λit' s'=>codeAny (model X.prog X.w) X.A (.compLoop (.ListComp elt [⟨tg,iter,ifs,0⟩] scope pos) 0 it' (.ref P) (compEnvC scope cl s3.heap.objs.size X.env)) (compPost (model X.prog X.w) X.A X.xe use Q (.ref P) s3.heap.objs.size) s')
  (notedBy (model X.prog X.w) X.A (compEnvC scope cl s3.heap.objs.size X.env) λx s'=>compPost (model X.prog X.w) X.A X.xe use Q (.ref P) s3.heap.objs.size (.error x) s') (T.keep _ _ _ st3' λb _ o e=>k4 b o e) loop
 exact codeAny_compStart_list loop lself
def ZbJ{X:Cx}{tg elt iter:Xi}{ifs:Xd}{scope:Scope}{pos:Pos}(own:XN){wi:TI}{g:TG}{tc:TT}{te:TE}(hc:X.calm=true)(S:CompScope X.env.scope X.N own scope)(hi:PI X tg iter wi)(hg:∀cl C s₀ H₀ ex,PG (cxComp X own scope cl C s₀ H₀ ex) tg g)(ht:∀cl C s₀ H₀ ex,PIf (cxComp X own scope cl C s₀ H₀ ex) ifs tc)(he:∀cl C s₀ H₀ ex,PE (cxComp X own scope cl C s₀ H₀ ex) elt te)(hs:∀x,foldedSetIterable iter X.env x=pure x:=by intro _;rfl) :
  PE X (.ListComp elt [⟨tg,iter,ifs,0⟩] scope pos) (tComp own.length wi g tc te):=by
 walk_at"I";rw[eval_ListComp];refine Zle (use:=none) (R:=λp H'=>Q (.ref p) H') hc S hi hg ht he hs I h λp H' s' C m I' f hn q=>?_;let⟨f0,f1,f2,f3,f4,f5⟩:=f;exact⟨m,hn,λh' sb=>⟨.ref p,H',I'.turned (t':=s'.toks) (λb o hb e=>(sb.2 b hb).trans e) f0 f1 f3 f4 f5,rfl,q⟩⟩
def Zp6{X:Cx}{tg elt iter:Xi}{ifs:Xd}{scope:Scope}{pos:Pos}(own:XN){wi:TI}{g:TG}{tc:TT}{te:TE}{i:Nat}{x:Str}{pos' spos:Pos}(hN:X.N.Nodup)(hx0:X.N[i]?=some x)(hx:X.env.scope.names.lookup x=some .local)(hc:X.calm=true)(S:CompScope X.env.scope X.N own scope)(hi:PI X tg iter wi)(hg:∀cl C s₀ H₀ ex,PG (cxComp X own scope cl C s₀ H₀ ex) tg g)(ht:∀cl C s₀ H₀ ex,PIf (cxComp X own scope cl C s₀ H₀ ex) ifs tc)(he:∀cl C s₀ H₀ ex,PE (cxComp X own scope cl C s₀ H₀ ex) elt te)(hsw:swapsWith (.ListComp elt [⟨tg,iter,ifs,0⟩] scope pos) (some (.Name x pos')) spos.line X.env=pure true:=by rfl)(hs:∀x,foldedSetIterable iter X.env x=pure x:=by intro _;rfl) :
  PS X (.Assign [.Name x pos'] (.ListComp elt [⟨tg,iter,ifs,0⟩] scope pos) spos) (tAsg (tComp own.length wi g tc te) (gName i)):=by
 walk_at"B";rw[exec_Assign_Name_used _ _ _ _ hsw];refine Yg (wpAny_standAt (Yg ?_));show wpAny _ X.A (do let _<- comprehension (.ListComp elt [⟨tg,iter,ifs,0⟩] scope pos) scope X.env _ (newList []) false (eval iter X.env) (some (assign (.Name x pos') X.env))) _ _ s;refine Yg (thn (Zle (use:=some (assign (.Name x pos') X.env)) (Q:=λ_ s'=>SP X pins D .next s') (R:=λp H'=>D.nx (U.set i (some (.ref p))) H') hc S hi hg ht he hs I h λp H' s' C m I' f hn q=>?_) λ_ s' hq=>Yp (Yp hq));let⟨f0,f1,f2,f3,f4,f5⟩:=f;show wpAny _ X.A (assign (.Name x pos') X.env (.ref p)) _ _ s';refine wpAny_assign_Name (ZkS I' hN hx0 (.inl hx) (v:=.ref p) rfl (λs2 I2 hzq=>?_) (.inr hx));let⟨a,sb,ha⟩:=hzq;have hCa:C≠a:=by
  rcases ha with z|z
  .rw [z];exact f1
  .exact λe=>f4 x a z e.symm
 exact⟨m,hn.sameBut sb hCa,λh' sb'=>⟨_,H',I2.turned (t':=s2.toks) (λb o hb e=>(sb'.2 b hb).trans e) f0 f1 f3 f4 f5,q⟩⟩
def ZaC(K:Ydg)(mg:XA)(x:Str)(st:Stmt):Prop:=∃f fd,Fun K x x st f fd/\mg x=some (.ref f)
def Zsq{K:Ydg}{h:XT}{mg:XA}{x:Str}{st:Stmt}{f:XB}{oc:XR}{od an:Xb}{osl:XZ}{kV doc pm cdv ct:XR}(X:K.In h)(G:h.Ns mainGlobals mg)(a:PySem.W.nsIn K mainGlobals x=some (some (.ref f)))(l:K.lookup f=some ⟨oc,od,.func (PySem.W.fnOf x x (Zbd st) (ZaV st) (Zae st) .none kV doc pm an cdv ct),osl⟩)(c:PySem.W.codeIn K cdv x=true)(k:PySem.W.keepIn K (.ref f)=true):ZaC K mg x st:=
 ⟨f,_,Zp1 l c k,YaJ X G a⟩
def CalF(P:XI)(w:XO)(K:Ydg)(mg:XA)(base:XT)(k:Nat)(f:XB)(sp:Sp):Prop:=
 ∃fd ps,FnOk P w K mg base CX0 k f fd ps sp/\PySem.W.keepIn K (.ref f)=true/\Binds K fd ps []
def Cal(P:XI)(w:XO)(K:Ydg)(mg:XA)(base:XT)(k:Nat)(x:Str)(sp:Sp):Prop:=
 ∃f,mg x=some (.ref f)/\CalF P w K mg base k f sp
section
variable{P:XI}{w:XO}{K:Ydg}{mg:XA}{base:XT}
def CalF.mono{j k:Nat}{f:XB}{sp:Sp}(c:CalF P w K mg base j f sp)(h:j<=k):CalF P w K mg base k f sp:=
 let⟨fd,ps,F,kp,b⟩:=c
 ⟨fd,ps,F.mono h,kp,b⟩
def Cal.mono{j k:Nat}{x:Str}{sp:Sp}(c:Cal P w K mg base j x sp)(h:j<=k):Cal P w K mg base k x sp:=
 let⟨f,m,c⟩:=c
 ⟨f,m,c.mono h⟩
def Zax{x:Str}{st:Stmt}{k:Nat}{sp:Sp}(N:XN)(D:ZaC K mg x st)(hbody:∀(f:XB)(cdv:XR)(A:XY)(outer:Xk)(s:XM)(H:Hp)(vs:XF)(Q:VK)(E:XK),Room k (A.deeper (envOfC x (Zae st) s.heap.objs.size f cdv))->sp vs H Q E->∃t,PSs (cxOf CX0 P w K mg base N x (Zae st) f cdv A outer s H E).nox (ZaV st) t/\t {nx:=λ_ H'=>Q .non H',rt:=Q} (start N vs) H)(ps:XN:=N)(S:FnScope N ps (Zae st):=by walk_at"c")(len:∀vs H Q E,sp vs H Q E->vs.length=ps.length:=by walk_at"L")(hb:∀(kV doc pm:XR)(an:Xb)(cdv ct:XR)(us:XH),us.length=ps.length->bindArgs (PySem.W.fnOf x x (Zbd st) (ZaV st) (Zae st) .none kV doc pm an cdv ct) ⟨us,[]⟩=pure (ps.zip us):=by walk_at"b"):Cal P w K mg base (k+1) x sp:=by
 let⟨f,fd,F,m⟩:=D;exact⟨f,m,fd,ps,F.ok S len (hbody f),F.kp,F.binds hb⟩
end
section
variable{X:Cx}{k:Nat}{x:Str}{sp:Sp}{p pos:Pos}{e func:Xi}{es:Xd}{t:TA}{tf:TE}
def Zdo(c:Cal X.prog X.w X.K X.mg X.base k x sp)(hr:Room k X.A)(hg:Gl X x)(ha:PA X (e::es) t)(hdb:(x==("__debug__":Xq))=false:=by decide)(he:starEach (e::es) X.env=(false,eval e X.env)::starEach es X.env:=by rfl)(hpl:(backTo pos (starEach es X.env)).any (·.1)=false:=by rfl) :
  PE X (.Call (.Name x p) (e::es) [] pos) (tCall sp [] E0 t):=by
 let⟨f,m,fd,ps,F,kp,b⟩:=c;exact ZpJ F hr hg m kp b .nil pass0 ha hdb he hpl
def Zu2(c:Cal X.prog X.w X.K X.mg X.base k x sp)(hr:Room k X.A)(hg:Gl X x)(hdb:(x==("__debug__":Xq))=false:=by decide) :
  PE X (.Call (.Name x p) [] [] pos) (tCall sp [] E0 tNil):=by
 let⟨f,m,fd,ps,F,kp,b⟩:=c;exact Zsd F hr hg m kp b .nil pass0 hdb
def tCallV(P:XI)(w:XO)(K:Ydg)(mg:XA)(base:XT)(k:Nat)(tf:TE)(t:TA):TE:=λU H Q=>tf U H λv H1=>∃f sp,v=.ref f/\CalF P w K mg base k f sp/\t U H1 λvs H2=>sp vs H2 Q E0
def ZjG(hr:Room k X.A)(hf:PE X func tf)(ha:PA X (e::es) t)(hc:eval (.Call func (e::es) [] pos) X.env=(do callWith pos (<- eval func X.env) [] (backTo pos (starEach (e::es) X.env)) (backToKw pos (keywordEach [] X.env))):=by rfl)(he:starEach (e::es) X.env=(false,eval e X.env)::starEach es X.env:=by rfl)(hpl:(backTo pos (starEach es X.env)).any (·.1)=false:=by rfl) :
  PE X (.Call func (e::es) [] pos) (tCallV X.prog X.w X.K X.mg X.base k tf t):=by
 walk_at"I";refine Call_ (thn (hf pins s U H _ I h) λu s1 ⟨v,H1,I1,r,f,sp,ev,⟨fd,ps,F,kp,b⟩,q⟩=>?_) hc;subst ev;obtain rfl:u=Value.ref f:=r;refine Ybi (h₀:=X.base) I.ok.mod.kin kp (thn (ha pos pins s1 U H1 _ I1 q) λus s2 ⟨vs,H2,I2,r2,q2⟩=>⟨I2.kIn,?_⟩) he hpl;exact Zhg (dvs:=[]) (E:=E0) F hr b .nil pass0 I2 r2 (by rw[YZ];exact q2)
end
def CDivW(i j:Int):Prop:=0<j/\j<2^200
section
variable{X:Cx}
def ZoH{n:Nat}(h:n<2^200):n.log2<9000:=by
 by_cases z:n=0
 .subst z;decide
 .have:=(Nat.log2_lt z).mpr h;omega
def ZaP:OpR X (binaryOp .FloorDiv) (rI CDivW λi j=>.int (i/j)):=opI λi j _ _ _ _ _ hc q=>by
 refine floordiv_int (by have:=hc.1;omega) ?_ (.inl (PyProof.noPylong_of_log2 (ZoH ?_)))
 .rw [Yc0 _ (Int.le_of_lt hc.1)];exact q
 .have h1:=hc.1;have h2:=hc.2;have e:((j.natAbs:Nat):Int)=j:=Int.natAbs_of_nonneg (Int.le_of_lt h1);have:((j.natAbs:Nat):Int)<((2^200:Nat):Int):=by rw[e];exact h2
  exact Int.ofNat_lt.mp this
end
noncomputable def isiV:V->String->Option Bool
 |.str _,"str"=>some true
 |_,_=>none
section
variable{X:Cx}
def Zsr:CallR X (.builtin "isinstance") (λxs H Q=>∃x T b,xs=[x,.ty T]/\isiV x T=some b/\Q (.bl b) H):=by
 walk_at"V";let⟨x,T,b,rfl,e,q⟩:=h;let⟨u,v,rfl,ru,rv⟩:=vals2 r;obtain rfl:v=Value.type T:=rv;unfold isiV at e
 split at e<;>first
  |(cases e;let⟨t,rfl⟩:=ru;exact IsiPair.str_str ⟨.bl true,H,I,rfl,q⟩)
  |cases e
end
def ZfG(P:XI)(w:XO)(K:Ydg)(a:XB)(vs:Xo):Prop:=∀h:Heap,K.In h->h.DictOf (Za2 P w) a vs
def Zss{P:XI}{w:XO}{K:Ydg}{a:XB}{vs:Xo}{es:Array DictEntry}{ep:Nat}(l:K.lookup a=some ⟨.type "dict",none,.dict es ep,#[]⟩)(hk:∀e∈es.toList,∃k,keyIs k e.key=true/\e.hash=keyH w k)(hp:Pairs (Za2 P w) es.toList vs)(nd:(vs.map (·.1)).Nodup):ZfG P w K a vs:=λh X=>
 ⟨_,es,ep,X _ _ l,⟨rfl,rfl,rfl⟩,rfl,λe he=>hk e (Array.mem_toList_iff.mpr he),hp,nd⟩
def tDGetK(P:XI)(w:XO)(K:Ydg)(td ty:TE):TE:=λU H Q=>td U H λx H1=>ty U H1 λy H2=>∃a vs k u v,x=.ref a/\y=kV k/\ZfG P w K a vs/\valueAt vs k=some u/\RelV v u/\Q v H2
def Zuk{P:XI}{w:XO}{k:Key}{u:XR}(r:RelV (kV k) u):(Za2 P w).is k u=true:=by
 cases k with
 |inl i=>let⟨t,rfl⟩:=r;exact ZkR i t
 |inr x=>let⟨t,rfl⟩:=r;exact ZeM x t
section
variable{X:Cx}{o i:Xi}{td ty:TE}{pos:Pos}
def Zst(ho:PE X o td)(hi:PE X i ty)(hs:NoSl i):PE X (.Subscript o i pos) (tDGetK X.prog X.w X.K td ty):=by
 walk_at"I";refine ZpZ Yc4.lookup hs (thn (ho pins s U H _ I h) λu s1 ⟨x,H1,I1,rx,q1⟩=>thn (hi pins s1 U H1 _ I1 q1) λiv s2 hzq=>?_);let⟨y,H2,I2,ry,a,vs,k,w',v,ex,ey,D,hv,rv,q2⟩:=hzq;subst ex ey;obtain rfl:u=Value.ref a:=rx;have dd:=D s2.heap I2.kIn;exact⟨dd.typeIs,wpAny_getItem_of (Zuk ry) dd.mapOf hv ⟨v,H2,I2.tok _,rv,q2⟩⟩
end
section
variable{U:St}{H:Hp}{Q:VK}{D:Ends}{i:Nat}{v:V}
def rd_C(q:Q v H):tC v U H Q:=q
def rd_V(e:U[i]?=some (some v))(q:Q v H):tVar i U H Q:=⟨v,e,q⟩
def rd_op{r:R2}{ta tb:TE}(q:ta U H λx H1=>tb U H1 λy H2=>r x y H2 Q):tOp r ta tb U H Q:=q
def rd_un{r:V->Hp->VK->Prop}{ta:TE}(q:ta U H λx H1=>r x H1 Q):tUn r ta U H Q:=q
def rd_I{C:Int->Int->Prop}{g:Int->Int->V}{a b:Int}(c:C a b)(q:Q (g a b) H):rI C g (.int a) (.int b) H Q:=⟨a,b,rfl,rfl,c,q⟩
def rd_I0{g:Int->Int->V}{a b:Int}(q:Q (g a b) H):rI0 g (.int a) (.int b) H Q:=⟨a,b,rfl,rfl,q⟩
def rd_U{g:Int->V}{a:Int}(q:Q (g a) H):rU g (.int a) H Q:=⟨a,rfl,q⟩
def rd_eqI{a b:Int}(q:Q (.bl (decide (a=b))) H):rEq (.int a) (.int b) H Q:=by
 refine⟨rfl,?_⟩;have e:decide (V.int a=V.int b)=decide (a=b):=Yb4.mpr ⟨λh=>V.int.inj h,λh=>by rw[h]⟩;rw[e];exact q
def rd_neI{a b:Int}(q:Q (.bl (!decide (a=b))) H):rNe (.int a) (.int b) H Q:=by
 refine⟨rfl,?_⟩;have e:decide (V.int a=V.int b)=decide (a=b):=Yb4.mpr ⟨λh=>V.int.inj h,λh=>by rw[h]⟩;rw[e];exact q
def rd_eqS{a b:Str}(q:Q (.bl (decide (a=b))) H):rEq (.str a) (.str b) H Q:=by
 refine⟨rfl,?_⟩;have e:decide (V.str a=V.str b)=decide (a=b):=Yb4.mpr ⟨λh=>V.str.inj h,λh=>by rw[h]⟩;rw[e];exact q
def rd_neS{a b:Str}(q:Q (.bl (!decide (a=b))) H):rNe (.str a) (.str b) H Q:=by
 refine⟨rfl,?_⟩;have e:decide (V.str a=V.str b)=decide (a=b):=Yb4.mpr ⟨λh=>V.str.inj h,λh=>by rw[h]⟩;rw[e];exact q
def Zul{te:TE}{g:TG}(q:te U H λx H1=>g x U H1 D.nx):tAsg te g D U H:=q
def Zeq{R:Xp}(q:R (U.set i (some v)) H):gName i v U H R:=q
def Zum{te:TE}(q:te U H D.rt):tRet te D U H:=q
def Zu3(q:D.nx U H):tNext D U H:=q
def Zp7{te:TE}(q:te U H λ_ H1=>D.nx U H1):tDrop te D U H:=q
def rd_ifS{c:TT}{t u:TS}(q:c U H λb H1=>if b=true then t D U H1 else u D U H1):tIfS c t u D U H:=q
def rd_if{c:TT}{ta tb:TE}(q:c U H λb H1=>if b=true then ta U H1 Q else tb U H1 Q):tIf c ta tb U H Q:=q
def Zp8{te:TE}{R:Xn}(q:te U H λx H'=>∃k,x=.bl k/\R k H'):tTest te U H R:=q
def rd_B{te:TE}{R:Xn}(q:te U H λx H'=>∃k,x=.bl k/\R k H'):tB te U H R:=q
def rd_bl{b:Bool}{R:Bool->Prop}(q:R b):∃k,V.bl b=.bl k/\R k:=⟨b,rfl,q⟩
def rd_and{t u:TT}{R:Xn}(q:t U H λc H1=>if c=true then u U H1 R else R false H1):tAnd t u U H R:=q
def rd_or{t u:TT}{R:Xn}(q:t U H λc H1=>if c=true then R true H1 else u U H1 R):tOr t u U H R:=q
def rd_not{t:TT}{R:Xn}(q:t U H λc H1=>R (!c) H1):tNot t U H R:=q
def Zu4{ta tb:TE}(q:ta U H λx H1=>∃c,x=.bl c/\if c=true then tb U H1 Q else Q (.bl false) H1):tAndV ta tb U H Q:=q
def rd_orV{ta tb:TE}(q:ta U H λx H1=>∃c,x=.bl c/\if c=true then Q (.bl true) H1 else tb U H1 Q):tOrV ta tb U H Q:=q
def Zp9{ta:TE}{tr:TA}{R:List V->Hp->Prop}(q:ta U H λx H1=>tr U H1 λxs H2=>R (x::xs) H2):tCons ta tr U H R:=q
def Zhm{R:List V->Hp->Prop}(q:R [] H):tNil U H R:=q
def Zu5{sp:Sp}{t:TA}(q:t U H λvs H1=>sp vs H1 Q E0):tCall sp [] E0 t U H Q:=by
 unfold tCall;have e:(λ(vs:XF) H1=>sp (vs++[]) H1 Q E0)=λvs H1=>sp vs H1 Q E0:=by funext vs H1;rw[YZ]
 rw[e];exact q
def rd_CB{r:List V->Hp->VK->Prop}{t:TA}(q:t U H λvs H1=>r vs H1 Q):tCB r t U H Q:=q
def Zsu{r r':R2}{ta tb tc:TE}(q:ta U H λx H1=>tb U H1 λy H2=>r x y H2 λz H3=>∃k,z=.bl k/\if k=true then tc U H3 λu H4=>r' y u H4 Q else Q (.bl false) H3):tChain r r' ta tb tc U H Q:=q
def rd_tup{t:TA}(q:t U H λxs H1=>xs.length<=sizeLine/\∀p,H1 p=none->Q (.ref p) (upd H1 p (.tup xs))):tTup t U H Q:=q
def rd_lst{t:TA}(q:t U H λxs H1=>xs.length<=sizeLine/\∀p,H1 p=none->Q (.ref p) (upd H1 p (.lst xs))):tLst t U H Q:=q
def ZfH{c A B:Prop} [Decidable c] (h1:c->A) (h2:¬c->B):if decide c=true then A else B:=by
 by_cases h:c
 .rw [if_pos (YG h)];exact h1 h
 .rw [if_neg (by rw[YD h];exact YC)];exact h2 h
def ZdS{c A B:Prop} [Decidable c] (h1:¬c->A) (h2:c->B):if(!decide c)=true then A else B:=by
 by_cases h:c
 .rw [YG h];exact iteF (h2 h)
 .rw [YD h];exact iteT (h1 h)
def ZbA{u:V}(e:u=v)(q:Q v H):Q u H:=by rw[e];exact q
end
def ZaM(mg:XA)(x:Str)(v:V):Prop:=∃u,mg x=some u/\RelV v u
section
variable{X:Cx}{x:Str}{v:V}{T:String}{pos:Pos}
def ZaW(hg:Gl X x)(h:ZaM X.mg x v)(hd:(x==("__debug__":Xq))=false:=by decide):PE X (.Name x pos) (tC v):=
 let⟨_,m,r⟩:=h
 ZuO hg m r hd
def Zqa(hg:Gl X x)(hm:X.mg x=none)(hv:bootBuiltins x=some (.type T))(hn:x≠"__name__":=by decide)(hd:(x==("__debug__":Xq))=false:=by decide):PE X (.Name x pos) (tC (.ty T)):=
 ZuP hg hm hv rfl hn hd
end
noncomputable def sEnt(w:XO)(p:Str×Tok×Value):DictEntry:=⟨PyData.keyHash w.params p.1,.str p.1 p.2.1,p.2.2⟩
noncomputable def entsOf(es:Array DictEntry):List (Str×Tok×Value):=es.toList.filterMap λe=>match e.key with|.str x t=>some (x,t,e.val)|_=>none
theorem Zi4{P:XI}{w:XO}:∀l:List (Str×Tok×Value),Pairs (Za2 P w) (l.map (sEnt w)) (l.map λp=>((Sum.inr p.1:Key),p.2.2))
 |[]=>.nil
 |p::r=>.cons (ZeM p.1 p.2.1) rfl (Zi4 r)
theorem Zlf:∀{l:XN},l.Nodup->(l.map λx=>(Sum.inr x:Key)).Nodup
 |[],_=>Yc7
 |x::r,h=>by
  have h1:=YT.mp h;rw[Yz,YT];refine⟨λhm=>?_,Zlf h1.2⟩;let⟨y,hy,e⟩:=YF.mp hm;cases e;exact h1.1 hy
def Zqb{P:XI}{w:XO}{K:Ydg}{a:XB}{es:Array DictEntry}{ep:Nat}(l:K.lookup a=some ⟨.type "dict",none,.dict es ep,#[]⟩)(he:es=((entsOf es).map (sEnt w)).toArray)(nd:((entsOf es).map (·.1)).Nodup):ZfG P w K a ((entsOf es).map λp=>((Sum.inr p.1:Key),p.2.2)):=by
 have e:es.toList=(entsOf es).map (sEnt w):=by rw[he];simp[<- he]
 refine Zss l (λe' he'=>?_) (by rw[e];exact Zi4 _) ?_
 .rw [e]at he';let⟨p,_,rfl⟩:=YF.mp he';exact⟨.inr p.1,ZeM p.1 p.2.1,rfl⟩
 .rw [Yao];have:((λx:Key×Value=>x.1)∘λp:Str×Tok×Value=>((Sum.inr p.1:Key),p.2.2))=(λx=>(Sum.inr x:Key))∘(λp:Str×Tok×Value=>p.1):=rfl;rw[this,<- Yao];exact Zlf nd
def SqL.updN{K:Ydg}{H:Hp}{a p:XB}{xs:XF}{o:HO}(h:SqL K H a xs)(n:H p=none):SqL K (upd H p o) a xs:=by
 rcases h with(h|⟨ob,h⟩)|h
 .exact .inl (.inl (by rw[Zaj (Zai h n)];exact h))
 .exact .inl (.inr ⟨ob,by rw[Zaj (Zai h n)];exact h⟩)
 .exact .inr h
def SqT.updN{K:Ydg}{H:Hp}{a p:XB}{xs:XF}{o:HO}(h:SqT K H a xs)(n:H p=none):SqT K (upd H p o) a xs:=by
 rcases h with(h|⟨ob,h⟩)|h
 .exact .inl (.inl (by rw[Zaj (Zai h n)];exact h))
 .exact .inl (.inr ⟨ob,by rw[Zaj (Zai h n)];exact h⟩)
 .exact .inr h
def Same.tup{K:Ydg}{H H':Hp}{a:XB}{xs:XF}(e:Same H H')(h:SqT K H a xs):SqT K H' a xs:=by
 rcases h with(h|⟨o,h⟩)|h
 .exact .inl (.inl (e _ _ h))
 .exact .inl (.inr ⟨o,e _ _ h⟩)
 .exact .inr h
def Same.new{H:Hp}{p:XB}{o:HO}(n:H p=none):Same H (upd H p o):=λb u e=>by rw[Zaj (Zai e n)];exact e
def Same.newT{H H':Hp}{p:XB}{o:HO}(s:Same H H')(n:H' p=none):Same H (upd H' p o):=s.trans (Same.new n)
def Zmq{K:Ydg}{H:Hp}{p:XB}{xs:XF}:SqL K (upd H p (.lst xs)) p xs:=.inl (.inl Zad)
def Zqc{K:Ydg}{H:Hp}{p:XB}{xs:XF}:SqT K (upd H p (.tup xs)) p xs:=.inl (.inl Zad)
def Zal{K:Ydg}{H:Hp}{p:XB}{xs:XF}(h:H p=some (.lst xs)):SqL K H p xs:=.inl (.inl h)
def Zb0{K:Ydg}{H:Hp}{p:XB}{xs:XF}(h:H p=some (.tup xs)):SqT K H p xs:=.inl (.inl h)
def ZaL{α:Type}{xs:List α}{i:Nat}{j:Int}{v:α}(h:xs[i]?=some v)(e:j=(i:Int)):atI xs j=some v:=by rw[e];exact Zeo h
def Zqd{ns:XF}{n:Nat}:cutV ns none (some (n:Int))=ns.take n:=by
 have e:HT.sIx ns.length ns.length (some (n:Int))=min n ns.length:=HT.ZpN _ _ _;have e0:HT.sIx ns.length 0 none=0:=rfl;unfold cutV;rw[e,e0,Yc9,YaU,List.take_eq_take_iff];omega
section
variable{U:St}{H:Hp}{Q:VK}{K:Ydg}{p a b:XB}{xs ys:XF}{v:V}
def ZaA{i:Int}(h:SqL K H p xs)(e:atI xs i=some v)(q:Q v H):rIxL K (.ref p) (.int i) H Q:=⟨p,xs,i,v,rfl,rfl,h,e,q⟩
def Zlg{i:Int}(h:SqT K H p xs)(e:atI xs i=some v)(q:Q v H):rIxT K (.ref p) (.int i) H Q:=⟨p,xs,i,v,rfl,rfl,h,e,q⟩
def Zun{lo hi:XS}(h:SqL K H a xs)(q:∀p,H p=none->Q (.ref p) (upd H p (.lst (cutV xs lo hi)))):rSlL K (.ref a) lo hi H Q:=⟨a,xs,rfl,h,q⟩
def rd_sl{r:V->Option Int->Option Int->Hp->VK->Prop}{te:TE}{tl th:TO}(q:te U H λx H1=>tl U H1 λl H2=>th U H2 λu H3=>r x l u H3 Q):tSl r te tl th U H Q:=q
def Zqe{R:Option Int->Hp->Prop}(q:R none H):ZpP U H R:=q
def Zu6{R:Option Int->Hp->Prop}{t:TE}(q:t U H λx H1=>∃i,x=.int i/\R (some i) H1):tPart t U H R:=q
def rd_ei{R:Int->Prop}{i:Int}(q:R i):∃j,V.int i=.int j/\R j:=⟨i,rfl,q⟩
def Zlh(h1:H a=some (.lst xs))(h2:H b=some (.lst ys))(hz:xs.length+ys.length<=sizeLine)(q:∀p,H p=none->Q (.ref p) (upd H p (.lst (xs++ys)))):rCat (.ref a) (.ref b) H Q:=⟨a,b,xs,ys,rfl,rfl,h1,h2,hz,q⟩
def ZgU{te:TE}{R:Hp->Prop}(hl:SqL K H a xs)(hp:H p=none)(hn:ys.length=xs.length)(hz:xs.length<=sizeLine)(he:∀(i:Nat)(x y:V)(H':Hp)(Q:VK),xs[i]?=some x->ys[i]?=some y->Same H H'->Q y H'->te (some x::U) H' Q)(fin:R (upd H p (.lst ys))) :
  tLoopC 1 (gName 0) tNoIf te (Itl K a) p R U H:=by
 refine⟨λi m U' H'=>m=xs.length-i/\i<=xs.length/\H'=upd H p (.lst (ys.take i))/\∃v,U'=v::U,⟨xs.length,(),YO _,rfl,none,rfl⟩,?_⟩;rintro i m U' H' ⟨rfl,hi,rfl,v,rfl⟩;have hs:SqL K (upd H p (.lst (ys.take i))) a xs:=hl.updN hp;by_cases hlt:i<xs.length
 .refine .inr ⟨⟨xs,xs[i],hs,by simp[hlt]⟩,λU2 H2=>H2=upd H p (.lst (ys.take (i+1)))/\∃v,U2=v::U,λU2 H2 ⟨e,v',e'⟩=>⟨xs.length-(i+1),Nat.sub_lt_sub_left hlt (Nat.lt_succ_self i),rfl,hlt,e,v',e'⟩,λx H1 ⟨e,y⟩=>?_⟩;subst e;have hx:=y xs hs;refine Zeq ?_;simp only[tNoIf,Ybr,Yaj];have hyl:i<ys.length:=();refine he i x ys[i] _ _ hx (by simp[hyl]) (Same.new hp) ?_;refine⟨ys.take i,Zad,?_,?_,some x,rfl⟩
  .rw [YN];omega
  .rw [ZaO,Ym hyl]
 .have e:i=xs.length:=();subst e;refine .inl ⟨⟨xs,hs,Yk _⟩,?_⟩;rw[<- hn,YK];exact fin
end
def iteNT{A B:Prop}(h:B):if(!true)=true then A else B:=iteF h
def iteNF{A B:Prop}(h:A):if(!false)=true then A else B:=iteT h
section
variable{U:St}{H:Hp}{Q:VK}{D:Ends}
def Zbk{k:Nat}{wi:TI}{g:TG}{tc:TT}{te:TE}(q:wi U H λJ H1=>∀p,H1 p=none->tLoopC k g tc te J p (λH'=>Q (.ref p) H') U H1):tComp k wi g tc te U H Q:=q
def ZaY{K:Ydg}{tl:TE}{R:Xr}(q:tl U H λx H1=>∃a,x=.ref a/\(∃xs,SqL K H1 a xs)/\R (Itl K a) H1):iList K tl U H R:=q
def Zmr{K:Ydg}{tl:TE}{R:Xr}(q:tl U H λx H1=>∃a,x=.ref a/\(∃xs,SqT K H1 a xs)/\R (Itt K a) H1):iTup K tl U H R:=q
def ZdT{ta:TA}{R:Xr}(q:ta U H λvs H1=>∃j:Int,vs=[.int j]/\-(2^62)<=j/\j<2^62/\R (Itr 0 j.toNat) H1):iRng1 ta U H R:=q
def ZbT{wi:TI}{g:TG}{tb:TS}(q:wi U H λJ H1=>∃W:Nat->Nat->St->Hp->Prop,(∃m,W 0 m U H1)/\∀i m U H,W i m U H->(J.stop i H/\D.nx U H)\/(J.go i H/\∃N:St->Hp->Prop,(∀U' H',N U' H'->∃m',m'<m/\W (i+1) m' U' H')/\∀x H',J.yld i H x H'->g x U H' λU2 H2=>tb {D with nx:=N,ct:=N,bk:=D.nx} U2 H2)):tFor wi g tb D U H:=q
end
section
variable{CX:CXT}{P:XI}{w:XO}{K:Ydg}{mg:XA}{base:XT}{N:XN}{q:Str}{sc:Scope}{f:XB}{cd:XR}{A:XY}{outer:Xk}{s:XM}{H:Hp}{E:XK}
def nox_K:(cxOf CX P w K mg base N q sc f cd A outer s H E).nox.K=K:=rfl
def nox_P:(cxOf CX P w K mg base N q sc f cd A outer s H E).nox.prog=P:=rfl
def nox_w:(cxOf CX P w K mg base N q sc f cd A outer s H E).nox.w=w:=rfl
def nox_mg:(cxOf CX P w K mg base N q sc f cd A outer s H E).nox.mg=mg:=rfl
def Zsv:(cxOf CX P w K mg base N q sc f cd A outer s H E).nox.base=base:=rfl
end
def ZoI{K:Ydg}{h:XT}{mg:XA}{x:Str}{i:Int}{t:Tok}(X:K.In h)(G:h.Ns mainGlobals mg)(a:PySem.W.nsIn K mainGlobals x=some (some (.int i t))):ZaM mg x (.int i):=⟨_,YaJ X G a,t,rfl⟩
def ZfI{K:Ydg}{h:XT}{mg:XA}{x i:Str}{t:Tok}(X:K.In h)(G:h.Ns mainGlobals mg)(a:PySem.W.nsIn K mainGlobals x=some (some (.str i t))):ZaM mg x (.str i):=⟨_,YaJ X G a,t,rfl⟩
def ZfJ{K:Ydg}{h:XT}{mg:XA}{x:Str}{i:XB}(X:K.In h)(G:h.Ns mainGlobals mg)(a:PySem.W.nsIn K mainGlobals x=some (some (.ref i))):ZaM mg x (.ref i):=⟨_,YaJ X G a,rfl⟩
def ZoJ{K:Ydg}{x qual p:Str}{st:Stmt}{f:XB}{fd:FuncData}(F:Fun K x qual st f fd)(hb:∀(kV doc pm:XR)(an:Xb)(cdv ct u:XR),bindArgs (PySem.W.fnOf x qual (Zbd st) (ZaV st) (Zae st) .none kV doc pm an cdv ct) ⟨[u],[]⟩=pure [(p,u)]:=by intros;rfl):∀(s:XM)(u:XR),BindsTo s fd ⟨[u],[]⟩ [(p,u)]:=by
 let⟨oc,od,kV,doc,pm,an,cdv,ct,osl,rfl,lk,hcd⟩:=F.ex;exact λs u=>.of_eq (hb kV doc pm an cdv ct u)
section
variable{U:St}{H:Hp}{Q:VK}{D:Ends}{i:Nat}{x:V}
end
abbrev RC:=List V->Hp->VK->Prop
def rMax2:RC:=λxs H Q=>∃i j,xs=[.int i,.int j]/\Q (.int (if j>i then j else i)) H
def rMin2:RC:=λxs H Q=>∃i j,xs=[.int i,.int j]/\Q (.int (if j<i then j else i)) H
def rIsi:RC:=λxs H Q=>∃x T b,xs=[x,.ty T]/\isiV x T=some b/\Q (.bl b) H
def rLenS(K:Ydg):RC:=λxs H Q=>∃p ys,xs=[.ref p]/\(SqL K H p ys\/SqT K H p ys)/\Q (.int ys.length) H
section
variable{X:Cx}{H:Hp}{Q:VK}{K:Ydg}
def cn_max(hc:X.calm=true):CallR X (.builtin "max") rMax2:=ZpE hc
def Zuo(hc:X.calm=true):CallR X (.builtin "min") rMin2:=ZpF hc
def cn_isi:CallR X (.builtin "isinstance") rIsi:=Zsr
def ZaN:CallR X (.builtin "len") (rLenS X.K):=Zk1
def Zu7{a b:Int}(q:Q (.int (if b>a then b else a)) H):rMax2 [.int a,.int b] H Q:=⟨a,b,rfl,q⟩
def Zqf{a b:Int}(q:Q (.int (if b<a then b else a)) H):rMin2 [.int a,.int b] H Q:=⟨a,b,rfl,q⟩
def Zqg{p:XB}{xs:XF}(h:SqL K H p xs)(q:Q (.int xs.length) H):rLenS K [.ref p] H Q:=⟨p,xs,rfl,.inl h,q⟩
def Zu8{p:XB}{xs:XF}(h:SqT K H p xs)(q:Q (.int xs.length) H):rLenS K [.ref p] H Q:=⟨p,xs,rfl,.inr h,q⟩
end
section
variable{U:St}{H:Hp}{Q:VK}{K:Ydg}{p:XB}{xs:XF}{v:V}
def rd_bm{T:String}{r:Xm}{to:TE}{t:TA}(q:to U H λx H1=>tyV K T x H1/\t U H1 λxs H2=>r x xs H2 Q):tBM K T r to t U H Q:=q
def rd_bm0{T:String}{r:Xm}{to:TE}(q:to U H λx H1=>tyV K T x H1/\r x [] H1 Q):tBM0 K T r to U H Q:=q
def Za9(h:SqL K H p xs):tyV K "list" (.ref p) H:=.inl ⟨rfl,_,h⟩
def ZaZ(h:H p=some (.lst xs))(hz:xs.length<sizeLine)(q:Q .non (upd H p (.lst (xs++[v])))):ZpT (.ref p) [v] H Q:=⟨p,xs,v,rfl,rfl,h,hz,q⟩
def Zup(h:H p=some (.lst (xs++[v])))(q:Q v (upd H p (.lst xs))):rPop (.ref p) [] H Q:=by
 refine⟨p,xs++[v],v,rfl,rfl,h,by simp,?_⟩;rw[List.dropLast_concat];exact q
end
def TupK(K:Ydg)(a:XB)(xs:XF):Prop:=∃(o:Obj)(its:Xc)(n:Nat),K.lookup a=some o/\o.cls=.type "tuple"/\o.data=.seq its n/\its.size<=sizeLine/\Vals xs its.toList
def TupK.sqt{K:Ydg}{a:XB}{xs:XF}(h:TupK K a xs)(H:Hp):SqT K H a xs:=.inr h
def Zms{K:Ydg}{a:XB}{xs:XF}{d:Xb}{its:Xc}{n:Nat}{sl:XZ}(l:K.lookup a=some ⟨.type "tuple",d,.seq its n,sl⟩)(v:Vals xs its.toList)(z:its.size<=sizeLine):TupK K a xs:=⟨_,its,n,l,rfl,rfl,z,v⟩
noncomputable def inS(x:Str)(xs:XN):Bool:=xs.any λy=>y==x
def Zmt(x:Str)(xs:XN):inV (.str x) (xs.map V.str)=inS x xs:=by
 unfold inV inS;rw[List.any_map];rfl
section
variable{U:St}{H:Hp}{Q:VK}{K:Ydg}{p:XB}
def Zny{x:Str}{xs:XN}(h:SqT K H p (xs.map V.str))(q:Q (.bl (inS x xs)) H):rIn K false (.str x) (.ref p) H Q:=by
 refine⟨p,_,rfl,.inr h,rfl,?_,?_⟩
 .rw [YbN];exact Y7.mpr λ_ _=>rfl
 .rw [if_neg nofun,Zmt];exact q
def ZoK{te:TE}{R:Hp->Prop}{lo:Int}{n:Nat}{ys:XF}(hp:H p=none)(hn:ys.length=n)(hz:n<=sizeLine)(he:∀(i:Nat)(y:V)(H':Hp)(Q:VK),i<n->ys[i]?=some y->Same H H'->Q y H'->te (some (.int (lo+i))::U) H' Q)(fin:R (upd H p (.lst ys))) :
  tLoopC 1 (gName 0) tNoIf te (Itr lo n) p R U H:=by
 refine⟨λi m U' H'=>m=n-i/\i<=n/\H'=upd H p (.lst (ys.take i))/\∃v,U'=v::U,⟨n,(),YO _,rfl,none,rfl⟩,?_⟩;rintro i m U' H' ⟨rfl,hi,rfl,v,rfl⟩;by_cases hlt:i<n
 .refine .inr ⟨hlt,λU2 H2=>H2=upd H p (.lst (ys.take (i+1)))/\∃v,U2=v::U,λU2 H2 ⟨e,v',e'⟩=>⟨n-(i+1),Nat.sub_lt_sub_left hlt (Nat.lt_succ_self i),rfl,hlt,e,v',e'⟩,λx H1 ⟨e,y⟩=>?_⟩;subst e y;refine Zeq ?_;simp only[tNoIf,Ybr,Yaj];have hyl:i<ys.length:=();refine he i ys[i] _ _ hlt (by simp[hyl]) (Same.new hp) ?_;refine⟨ys.take i,Zad,?_,?_,some _,rfl⟩
  .rw [YN];omega
  .rw [ZaO,Ym hyl]
 .have e:i=n:=();subst e;refine .inl ⟨Yk _,?_⟩;rw[<- hn,YK];exact fin
end
def CalD(P:XI)(w:XO)(K:Ydg)(mg:XA)(base:XT)(k:Nat)(x:Str)(sp:Sp)(dvs:XF):Prop:=
 ∃f fd ps ds,mg x=some (.ref f)/\FnOk P w K mg base CX0 k f fd ps sp/\PySem.W.keepIn K (.ref f)=true/\Binds K fd ps ds/\Vals dvs ds
def Zu9{X:Cx}{k:Nat}{x:Str}{sp:Sp}{dvs:XF}{p pos:Pos}{e:Xi}{es:Xd}{t:TA}(c:CalD X.prog X.w X.K X.mg X.base k x sp dvs)(hr:Room k X.A)(hg:Gl X x)(ha:PA X (e::es) t)(hdb:(x==("__debug__":Xq))=false:=by decide)(he:starEach (e::es) X.env=(false,eval e X.env)::starEach es X.env:=by rfl)(hpl:(backTo pos (starEach es X.env)).any (·.1)=false:=by rfl) :
  PE X (.Call (.Name x p) (e::es) [] pos) (tCall sp dvs E0 t):=by
 let⟨f,fd,ps,ds,m,F,kp,b,v⟩:=c;exact ZpJ F hr hg m kp b v pass0 ha hdb he hpl
def rIsiA(K:Ydg):RC:=rIsi
def Zmu{X:Cx}:CallR X (.builtin "isinstance") (rIsiA X.K):=cn_isi
section
variable{H:Hp}{Q:VK}{K:Ydg}
def Zva{x:V}{T:String}{b:Bool}(e:isiV x T=some b)(q:Q (.bl b) H):rIsiA K [x,.ty T] H Q:=⟨x,T,b,rfl,e,q⟩
end
noncomputable def cV:Expr->Option V
 |.Constant (.int i) _ _=>some (.int i)
 |.Constant (.str x) _ _=>some (.str x)
 |_=>none
noncomputable def cVs:List Expr->Option (List V)
 |[]=>some []
 |e::es=>match cV e,cVs es with
  |some v,some vs=>some (v::vs)
  |_,_=>none
def tVals(vs:XF):TA:=λ_ H Q=>Q vs H
def pe_cV{X:Cx}{e:Xi}{v:V}(h:cV e=some v):PE X e (tC v)/\∀es,starEach (e::es) X.env=(false,eval e X.env)::starEach es X.env:=by
 unfold cV at h;split at h
 .cases h;exact⟨Zag,λ_=>rfl⟩
 .cases h;exact⟨Zav,λ_=>rfl⟩
 .cases h
theorem ZjH{X:Cx}:∀{es:Xd}{vs:XF},cVs es=some vs->PA X es (tVals vs)
 |[],vs,h=>by
  cases h;exact λ_ _ _ _ H Q I h=>Ycj ⟨[],H,I,.nil,h⟩
 |e::es,vs,h=>by
  unfold cVs at h;cases he:cV e with
  |none=>rw[he]at h;cases h
  |some v=>
   cases hs:cVs es with
   |none=>rw[he,hs]at h;cases h
   |some us=>
    rw[he,hs]at h;cases h;let⟨h1,h2⟩:=pe_cV (X:=X) he;exact Zaa h1 (ZjH hs) (h2 es)
def Zqi{U:St}{H:Hp}{vs:XF}{R:List V->Hp->Prop}(q:R vs H):tVals vs U H R:=q
section
variable{U:St}{H:Hp}{Q:VK}{P:XI}{w:XO}{K:Ydg}{td ty:TE}
end
def rDK(P:XI)(w:XO)(K:Ydg):R2:=λx y H Q=>∃a vs k u v,x=.ref a/\y=kV k/\ZfG P w K a vs/\valueAt vs k=some u/\RelV v u/\Q v H
def Zf4{X:Cx}{o i:Xi}{td ty:TE}{pos:Pos}(ho:PE X o td)(hi:PE X i ty)(hs:NoSl i):PE X (.Subscript o i pos) (tOp (rDK X.prog X.w X.K) td ty):=Zst ho hi hs
section
variable{H:Hp}{Q:VK}{P:XI}{w:XO}{K:Ydg}
def Zmv{a:XB}{vs:Xo}{x:Str}{u:XR}{v:V}(dk:ZfG P w K a vs)(hv:valueAt vs (.inr x)=some u)(r:RelV v u)(q:Q v H):rDK P w K (.ref a) (.str x) H Q:=⟨a,vs,.inr x,u,v,rfl,rfl,dk,hv,r,q⟩
end
section
variable{CX:CXT}{P:XI}{w:XO}{K:Ydg}{mg:XA}{base:XT}{N:XN}{q:Str}{sc:Scope}{f:XB}{cd:XR}{A:XY}{outer:Xk}{s:XM}{H:Hp}{E:XK}
def cxOf_K:(cxOf CX P w K mg base N q sc f cd A outer s H E).K=K:=rfl
def cxOf_P:(cxOf CX P w K mg base N q sc f cd A outer s H E).prog=P:=rfl
def cxOf_w:(cxOf CX P w K mg base N q sc f cd A outer s H E).w=w:=rfl
def Zvb:(cxOf CX P w K mg base N q sc f cd A outer s H E).mg=mg:=rfl
def Zqj:(cxOf CX P w K mg base N q sc f cd A outer s H E).base=base:=rfl
end
def Zsw:Vals [] []:=.nil
def Zsx{i:Int}{t:Tok}{xs:XF}{us:XH}(h:Vals xs us):Vals (.int i::xs) (.int i t::us):=.cons ⟨t,rfl⟩ h
def Zsy{x:Str}{t:Tok}{xs:XF}{us:XH}(h:Vals xs us):Vals (.str x::xs) (.str x t::us):=.cons ⟨t,rfl⟩ h
def Zmw{K:Ydg}{h:XT}{mg:XA}{x:Str}{i:XB}{xs:XF}{d:Xb}{its:Xc}{n:Nat}{sl:XZ}(X:K.In h)(G:h.Ns mainGlobals mg)(a:PySem.W.nsIn K mainGlobals x=some (some (.ref i)))(l:K.lookup i=some ⟨.type "tuple",d,.seq its n,sl⟩)(v:Vals xs its.toList)(z:its.size<=sizeLine):∃a,ZaM mg x (.ref a)/\TupK K a xs:=⟨i,ZfJ X G a,Zms l v z⟩
structure FunD(K:Ydg)(x qual:Str)(st:Stmt)(items:Xc)(f:XB)(fd:FuncData):Prop where
 ex:∃(oc:XR)(od:Xb)(T:XB)(kV doc pm:XR)(an:Xb)(cdv ct:XR)(osl:XZ)(o:Obj)(n:Nat),
  fd=PySem.W.fnOf x qual (Zbd st) (ZaV st) (Zae st) (.ref T) kV doc pm an cdv ct/\K.lookup f=some ⟨oc,od,.func fd,osl⟩/\PySem.W.codeIn K cdv qual=true/\K.lookup T=some o/\o.data=.seq items n
 kp:PySem.W.keepIn K (.ref f)=true
def Zqk(K:Ydg)(mg:XA)(x:Str)(st:Stmt)(items:Xc):Prop:=∃f fd,FunD K x x st items f fd/\mg x=some (.ref f)
def Zql{K:Ydg}{h:XT}{mg:XA}{x:Str}{st:Stmt}{f T:XB}{oc c2:XR}{od an d2:Xb}{osl s2:XZ}{kV doc pm cdv ct:XR}{items:Xc}{n:Nat}(X:K.In h)(G:h.Ns mainGlobals mg)(a:PySem.W.nsIn K mainGlobals x=some (some (.ref f)))(l:K.lookup f=some ⟨oc,od,.func (PySem.W.fnOf x x (Zbd st) (ZaV st) (Zae st) (.ref T) kV doc pm an cdv ct),osl⟩)(c:PySem.W.codeIn K cdv x=true)(k:PySem.W.keepIn K (.ref f)=true)(d:K.lookup T=some ⟨c2,d2,.seq items n,s2⟩):Zqk K mg x st items:=
 ⟨f,_,⟨⟨oc,od,T,kV,doc,pm,an,cdv,ct,osl,_,n,rfl,l,c,d,rfl⟩,k⟩,YaJ X G a⟩
section
variable{P:XI}{w:XO}{K:Ydg}{mg:XA}{base:XT}
def FunD.fn{x qual:Str}{st:Stmt}{items:Xc}{f:XB}{fd:FuncData}{N ps:XN}{k:Nat}{sp:Sp}(F:FunD K x qual st items f fd)(S:FnScope N ps (Zae st))(len:∀vs H Q E,sp vs H Q E->vs.length=ps.length)(hbody:∀(cdv:XR)(A:XY)(outer:Xk)(s:XM)(H:Hp)(vs:XF)(Q:VK)(E:XK),Room k (A.deeper (envOfC qual (Zae st) s.heap.objs.size f cdv))->sp vs H Q E->∃t,PSs (cxOf CX0 P w K mg base N qual (Zae st) f cdv A outer s H E).nox (ZaV st) t/\t {nx:=λ_ H'=>Q .non H',rt:=Q} (start N vs) H):FnOk P w K mg base CX0 (k+1) f fd ps sp:=by
 let⟨oc,od,T,kV,doc,pm,an,cdv,ct,osl,o,n,rfl,lk,hcd,lt,ld⟩:=F.ex;refine fn_of lk hcd S len λA outer s H vs Q E hr hsp=>?_;let⟨t,h,q⟩:=hbody cdv A outer s H vs Q E hr hsp;exact⟨t,h.nox,q⟩
def FunD.binds{x qual:Str}{st:Stmt}{items:Xc}{f:XB}{fd:FuncData}{ps:XN}(F:FunD K x qual st items f fd)(ds:XH)(h:∀(T:XB)(kV doc pm:XR)(an:Xb)(cdv ct:XR)(us:XH),(us++ds).length=ps.length->∃k:Option (Array Value)->Sem (List (Str×Value)),bindArgs (PySem.W.fnOf x qual (Zbd st) (ZaV st) (Zae st) (.ref T) kV doc pm an cdv ct) ⟨us,[]⟩=seqItems? (.ref T) >>=k/\k (some items)=pure (ps.zip (us++ds))):Binds K fd ps ds:=by
 let⟨oc,od,T,kV,doc,pm,an,cdv,ct,osl,o,n,rfl,lk,hcd,lt,ld⟩:=F.ex;intro s us X hl;let⟨k,h1,h2⟩:=h T kV doc pm an cdv ct us hl;exact BindsTo.of_defaults (fd:=PySem.W.fnOf x qual (Zbd st) (ZaV st) (Zae st) (.ref T) kV doc pm an cdv ct) rfl (X _ _ lt) ld h1 h2
end
end L2
namespace L2
open PySem PySem.Spec PyProof.Rows PySem.SeqAt
section
inductive Dt where
 |non
 |bl (b:Bool)
 |int (i:Int)
 |str (x:Str)
 |lst (ds:List Dt)
 |tup (ds:List Dt)
mutual
noncomputable def Dt.dep:Dt->Nat
 |.lst ds=>Dt.deps ds+1
 |.tup ds=>Dt.deps ds+1
 |_=>0
noncomputable def Dt.deps:List Dt->Nat
 |[]=>0
 |d::r=>max (Dt.dep d) (Dt.deps r)
end
mutual
def DV(K:Ydg)(H:Hp):Dt->V->Prop
 |.non,v=>v=.non
 |.bl b,v=>v=.bl b
 |.int i,v=>v=.int i
 |.str x,v=>v=.str x
 |.lst ds,v=>∃a xs,v=.ref a/\SqL K H a xs/\DVs K H ds xs
 |.tup ds,v=>∃a xs,v=.ref a/\SqT K H a xs/\DVs K H ds xs
def DVs(K:Ydg)(H:Hp):List Dt->List V->Prop
 |[],xs=>xs=[]
 |d::r,xs=>∃x t,xs=x::t/\DV K H d x/\DVs K H r t
end
theorem DVs.length{K:Ydg}{H:Hp}:∀{ds:List Dt}{xs:XF},DVs K H ds xs->ds.length=xs.length
 |[],xs,h=>by unfold DVs at h;subst h;rfl
 |d::r,xs,h=>by
  unfold DVs at h;let⟨x,t,rfl,_,h⟩:=h;rw[Yi,Yi,DVs.length h]
theorem DVs.get{K:Ydg}{H:Hp}:∀{ds:List Dt}{xs:XF}{i:Nat}{d:Dt}{x:V},DVs K H ds xs->ds[i]?=some d->xs[i]?=some x->DV K H d x
 |[],xs,i,d,x,h,e,_=>by simp at e
 |d0::r,xs,i,d,x,h,e1,e2=>by
  unfold DVs at h;let⟨x0,t,rfl,h0,h⟩:=h;cases i with
  |zero=>simp at e1 e2;subst e1 e2;exact h0
  |succ i=>exact DVs.get (i:=i) h (by simpa using e1) (by simpa using e2)
theorem Dt.dep_le:∀{ds:List Dt}{i:Nat}{d:Dt},ds[i]?=some d->d.dep<=Dt.deps ds
 |[],i,d,e=>by simp at e
 |d0::r,i,d,e=>by
  unfold Dt.deps;cases i with
  |zero=>simp at e;subst e;exact Nat.le_max_left _ _
  |succ i=>exact Yj (Dt.dep_le (i:=i) (by simpa using e)) (Nat.le_max_right _ _)
section
variable{X:Cx}{pins:XG}{U:St}{H:Hp}{s:XM}
end
end
section
section
variable{X:Cx}{pins:XG}{U:St}{H:Hp}{s:XM}
def Zqm(A:XY):A.in1.units=A.units+1:=rfl
end
section
variable{X:Cx}
end
section
variable{H:Hp}{Q:VK}{K:Ydg}{a b:XB}
end
end
end L2
namespace L2
open PySem PySem.Spec PyProof.Rows Builtin Builtin.Str
section
noncomputable def Its(z:Str):It:=⟨λi _=>i<z.cps.size,λi H x H'=>H'=H/\∃c,z.cps[i]?=some c/\x=.str ⟨#[c]⟩,λi _=>z.cps.size<=i⟩
def Znz{P:XI}{w:XO}{K:Ydg}{tg:Xi}(z:Str)(t:Tok)(it:XB)(T:String)(hT:T="str_ascii_iterator"\/T="str_iterator") :
  Turn P w K tg (Its z) [it] it (λi h=>i<=z.cps.size/\h.IsStrIter it T z t i) where
 mem:=by simp
 obj:=λi h st b hb=>by
  have e:b=it:=by simpa using hb
  subst e;let⟨_,o,e,c,d⟩:=st;exact⟨o,e,λv z=>by rw[d]at z;cases z⟩
 keep:=λi h h' st k=>⟨st.1,by let⟨_,o,e,c⟩:=st;exact⟨o,k it (by simp) o e,c⟩⟩
 item:=by
  intro X hP hw hK hc i pins s U H E I hf st hg;subst hP hw hK;let⟨f0,f1,f2,f3,f4,f5⟩:=hf it (by simp);have hlt:i<z.cps.size:=hg;have W:Walks X.prog X.w X.A it [it] [it] z.cps.size (SignAt z) (λi h=>h.IsStrIter it T z t i):=by
   rcases hT with rfl|rfl
   .exact Walks.strAscii (I.ok.hd hc) it z t
   .exact Walks.strWide (I.ok.hd hc) it z t
  refine W.item i s _ _ hlt st.2 λv h' tk hv st' kk=>?_;let⟨c,u,hx,rfl⟩:=hv;have I1:Inv X pins U H {s with heap:=h',toks:=tk}:=I.turned (λb o hb e=>kk b o (by simpa using hb) e) f0 f1 f3 f4 f5;let⟨o,e,c1,d⟩:=id st';refine⟨_,rfl,Zpw (s:={s with heap:=h',toks:=tk}) e c1 d (by rcases hT with rfl|rfl<;>decide) ⟨.str ⟨#[c]⟩,H,I1,⟨u,rfl⟩,⟨rfl,c,hx,rfl⟩,⟨hlt,st'⟩,λb hb=>(hf b hb).1⟩⟩
 done:=by
  intro X hP hw hK hc i pins s U H E I hf st hg;subst hP hw hK;let⟨f0,f1,f2,f3,f4,f5⟩:=hf it (by simp);have h2:z.cps.size<=i:=hg;have hx:z.cps[i]?=none:=by simp[h2]
  have st2:=st.2;rcases hT with rfl|rfl
  .exact wpAny_pyNext_ascii_end (I.ok.hd hc) st2 hx λh' eb=>⟨rfl,I.turned (t':=s.toks) (λb o hb e=>eb b o hb e) f0 f1 f3 f4 f5⟩
  .exact wpAny_pyNext_wide_end (I.ok.hd hc) st2 hx λh' eb=>⟨rfl,I.turned (t':=s.toks) (λb o hb e=>eb b o hb e) f0 f1 f3 f4 f5⟩
 self:=λ_ _ _ _ _ st h=>by
  have st2:=st.2;rcases hT with rfl|rfl
  .exact wpAny_pyIter_striter_ascii st2 h
  .exact wpAny_pyIter_striter_wide st2 h
def iStr(tl:TE):TI:=λU H R=>tl U H λx H1=>∃z,x=.str z/\R (Its z) H1
def pi_str{X:Cx}{tg l:Xi}{tl:TE}(hl:PE X l tl):PI X tg l (iStr tl):=by
 intro pins s U H R I h;refine thn (hl pins s U H _ I h) λv s1 ⟨x,H1,I1,r1,q1⟩=>?_;let⟨z,e,q⟩:=q1;subst e;let⟨t,rfl⟩:=r1;have hfp:∀o:Obj,∀b∈[s1.heap.objs.size],FpOk X pins H1 b:=λo b hb=>by
  have e:b=s1.heap.objs.size:=by simpa using hb
  subst e;exact I1.fpOk (Yk _) (I1.hok.fresh (Yk _))
 cases ha:z.cps.all (·<128)
 .refine wpAny_pyIter_wide ha ?_;exact⟨s1.heap.objs.size,[s1.heap.objs.size],_,_,H1,rfl,I1.kept (t':=s1.toks) λb o e=>Yl _ e,Znz z t _ "str_iterator" (.inr rfl),⟨YO _,_,YJ _ rfl,rfl,rfl⟩,hfp default,q⟩
 .refine wpAny_pyIter_ascii ha ?_;exact⟨s1.heap.objs.size,[s1.heap.objs.size],_,_,H1,rfl,I1.kept (t':=s1.toks) λb o e=>Yl _ e,Znz z t _ "str_ascii_iterator" (.inl rfl),⟨YO _,_,YJ _ rfl,rfl,rfl⟩,hfp default,q⟩
def Zvc{tl:TE}{U:St}{H:Hp}{R:Xr}(q:tl U H λx H1=>∃z,x=.str z/\R (Its z) H1):iStr tl U H R:=q
end
section
def rAddS:R2:=λx y H Q=>∃i j,x=.str i/\y=.str j/\i.length+j.length<=sizeLine/\Q (.str (i++j)) H
def rInS:R2:=λx y H Q=>∃i j,x=.str i/\y=.str j/\Q (.bl (!(occurrences j i 0 j.length 1).isEmpty)) H
def rStrI:RC:=λxs H Q=>∃i,xs=[.int i]/\i.natAbs.log2<1920/\Q (.str (toString i)) H
def rLenZ:RC:=λxs H Q=>∃z,xs=[.str z]/\z.length<=sizeLine/\Q (.int z.length) H
abbrev RM:=V->List V->Hp->VK->Prop
noncomputable def rSB(f:Str->Bool):RM:=λx xs H Q=>∃z,x=.str z/\xs=[]/\Q (.bl (f z)) H
noncomputable def rSplit:RM:=λx xs H Q=>∃z y,x=.str z/\xs=[.str y]/\y.length≠0/\z.length+2<=sizeLine/\(Txt.split z y).length<=sizeLine/\∀p,H p=none->Q (.ref p) (upd H p (.lst ((Txt.split z y).map V.str)))
noncomputable def rJoin(K:Ydg):RM:=λx xs H Q=>∃z p ts,x=.str z/\xs=[.ref p]/\SqL K H p (ts.map V.str)/\JoinOk z ts=true/\Q (.str (Txt.join z ts)) H
section
variable{X:Cx}
def Zdp:OpR X (binaryOp .Add) rAddS:=Zox
def op_inS:OpR X (compareOp .In) rInS:=ZpD
def Zb1:CallR X (.type "str") rStrI:=ZkV
def Zqn:CallR X (.builtin "len") rLenZ:=Zk2
def ZoL:MtR X "str.isdigit" (rSB Txt.isdigit):=by
 intro pins s U H x xs v us Q I rx rs h;let⟨z,rfl,rfl,q⟩:=h;let⟨t,rfl⟩:=rx;cases rs;exact SC.isdigit ⟨.bl _,H,I,rfl,q⟩
theorem Zli:∀{ts:XN}{us:XH},Vals (ts.map V.str) us->∃l:List (Str×Tok),us=strValues l/\l.map (·.1)=ts
 |[],_,r=>by cases r;exact⟨[],rfl,rfl⟩
 |a::ts,_,r=>by
  rw[Yz]at r;cases r with
  |cons r1 r2=>
   let⟨t,e⟩:=r1;subst e;let⟨l,e1,e2⟩:=Zli r2;subst e1;exact⟨(a,t)::l,rfl,by rw[Yz,e2]⟩
theorem Zlj:∀(l:List (Str×Tok)),Vals ((l.map (·.1)).map V.str) (strValues l)
 |[]=>.nil
 |(a,t)::l=>.cons ⟨t,rfl⟩ (Zlj l)
def Zdq:MtR X "str.join" (rJoin X.K):=by
 intro pins s U H x xs v us Q I rx rs h;let⟨z,p,ts,rfl,rfl,hq,hj,q⟩:=h;let⟨t,rfl⟩:=rx;let⟨u,rfl,e⟩:=vals1 rs;cases e;let⟨its,r',pl,hz⟩:=I.list hq;let⟨l,e1,e2⟩:=Zli r';subst e1;exact SC.join pl.isList e2 hj λt' k=>⟨.str _,H,I.tok _,⟨_,rfl⟩,q⟩
def ZeT:MtR X "str.split" rSplit:=by
 intro pins s U H x xs v us Q I rx rs h;let⟨z,y,rfl,rfl,hy,hz,hn,q⟩:=h;let⟨t,rfl⟩:=rx;let⟨u,rfl,t',rfl⟩:=vals1 rs;have hy':(y.length==0)=false:=by simpa using hy
 have fin:∀(l:List (Str×Tok))(k:Nat),l.map (·.1)=Txt.split z y->EP X pins U Q (.ref s.heap.objs.size) {s with heap:=s.heap.push {cls:=.type "list",data:=.seq (strValues l).toArray},toks:=k}:=λl k e=>by
  have hf:H s.heap.objs.size=none:=I.hok.fresh (Yk _);refine⟨.ref s.heap.objs.size,_,I.laid (o:=.lst ((Txt.split z y).map V.str)) (λb ob q=>Yl _ q) (Yk _) ?_,rfl,q _ hf⟩;refine⟨by rw[Ya];exact hn,_,0,?_,YJ _ rfl⟩;rw[<- e];exact Zlj l
 cases h1:(decide (z.length<y.length)||decide (strKind z<strKind y))
 .cases hf:(occurrences z y 0 z.length (z.length+1)).isEmpty
  .have e:Txt.split z y=partsBetween z (occurrences z y 0 z.length (z.length+1)) y.length:=(if_neg (Ycp h1)).trans (if_neg (Ycp hf));refine YbS F.slot_str_split (Yc3 _ _ _) Ydc (YcY _ _) (meets_str_split_sep z y t t' h1 hy' hf () (by rw[<- e];exact hn)) ?_;show wants (EP X pins U Q) X.xe _ {s with toks:=_,heap:=s.heap.push {cls:=.type "list",data:=.seq (strsFrom s.toks (partsBetween z (occurrences z y 0 z.length (z.length+1)) y.length)).toArray}};rw[strsFrom_eq];exact fin _ _ ((numbered_texts _ _).trans e.symm)
  .exact YbS F.slot_str_split (Yc3 _ _ _) Ydc (YcY _ _) (meets_str_split_not_found z y t t' h1 hy' hf) (fin [(z,t)] _ ((if_neg (Ycp h1)).trans (if_pos hf)).symm)
 .exact YbS F.slot_str_split (Yc3 _ _ _) Ydc (YcY _ _) (meets_str_split_cannot_occur z y t t' h1) (fin [(z,t)] _ (if_pos h1).symm)
variable{o e:Xi}{es:Xd}{to:TE}{t:TA}{apos cpos:Pos}
end
section
variable{X:Cx}{H:Hp}{Q:VK}{K:Ydg}{z y:Str}{p:XB}{ts:XN}
def Zdr(h:z.length+y.length<=sizeLine)(q:Q (.str (z++y)) H):rAddS (.str z) (.str y) H Q:=⟨z,y,rfl,rfl,h,q⟩
def rd_inS(q:Q (.bl (!(occurrences y z 0 y.length 1).isEmpty)) H):rInS (.str z) (.str y) H Q:=⟨z,y,rfl,rfl,q⟩
def Zbq{i:Int}(h:i.natAbs.log2<1920)(q:Q (.str (toString i)) H):rStrI [.int i] H Q:=⟨i,rfl,h,q⟩
def Zvd(h:z.length<=sizeLine)(q:Q (.int z.length) H):rLenZ [.str z] H Q:=⟨z,rfl,h,q⟩
def rd_sb{f:Str->Bool}(q:Q (.bl (f z)) H):rSB f (.str z) [] H Q:=⟨z,rfl,rfl,q⟩
def ZcY(hy:y.length≠0)(hz:z.length+2<=sizeLine)(hn:(Txt.split z y).length<=sizeLine)(q:∀p,H p=none->Q (.ref p) (upd H p (.lst ((Txt.split z y).map V.str)))):rSplit (.str z) [.str y] H Q:=⟨z,y,rfl,rfl,hy,hz,hn,q⟩
def Zds(h:SqL K H p (ts.map V.str))(hj:JoinOk z ts=true)(q:Q (.str (Txt.join z ts)) H):rJoin K (.str z) [.ref p] H Q:=⟨z,p,ts,rfl,rfl,h,hj,q⟩
def rd_ixS{i:Int}{c:Nat}(h:z.length<=sizeLine)(e:atI z.cps.toList i=some c)(q:Q (.str ⟨#[c]⟩) H):rIxS (.str z) (.int i) H Q:=⟨z,i,c,rfl,rfl,h,e,q⟩
end
end
section
noncomputable def dval(ds:XJ):Nat:=ds.foldl (λa c=>a*10+(c-48)) 0
noncomputable def isDig(c:Nat):Bool:=decide (48<=c)&&decide (c<=57)
noncomputable def sNum(m:Nat):List Nat:=(Nat.toDigits 10 m).map Char.toNat
def Zqo(ds:XJ)(c:Nat):dval (ds++[c])=dval ds*10+(c-48):=by
 unfold dval;rw[YbY];rfl
def ZnA:∀d:Nat,d<10->(Nat.digitChar d).toNat=48+d:=nofun
def Zhn{m:Nat}(h:m<10):sNum m=[48+m]:=by
 unfold sNum;rw[Nat.toDigits_of_lt_base h,Yz,YaX,ZnA m h]
def ZjI{m:Nat}(h:10<=m):sNum m=sNum (m/10)++[48+m%10]:=by
 have hm:m%10<10:=Nat.mod_lt m nofun;have t:Nat.toDigits 10 (m/10)++Nat.toDigits 10 (m%10)=Nat.toDigits 10 (10*(m/10)+m%10):=Nat.toDigits_append_toDigits nofun () hm;rw[Ycd]at t;unfold sNum;rw[<- t,YA,Nat.toDigits_of_lt_base hm,Yz,YaX,ZnA _ hm]
def Zho(m:Nat):sNum m≠[]:=by
 by_cases h:m<10
 .rw [Zhn h];simp
 .rw [ZjI ()];simp
def ZnB(m:Nat):∀c∈sNum m,isDig c=true:=by
 induction m using Nat.strongRecOn with
 |_ m ih=>
  intro c hc;by_cases h:m<10
  .rw [Zhn h,Ye]at hc;subst hc;simp[isDig];omega
  .rw [ZjI (),Yw,Ye]at hc;rcases hc with hc|hc
   .exact ih (m/10) () c hc
   .subst hc;simp[isDig];omega
def ZnC(m:Nat):dval (sNum m)=m:=by
 induction m using Nat.strongRecOn with
 |_ m ih=>
  by_cases h:m<10
  .rw [Zhn h];show 0*10+(48+m-48)=m;omega
  .rw [ZjI (),Zqo,ih (m/10) ()];omega
def Zqp{m:Nat}(h0:m≠0):(sNum m)[0]?≠some 48:=by
 induction m using Nat.strongRecOn with
 |_ m ih=>
  by_cases h:m<10
  .rw [Zhn h];simp;omega
  .rw [ZjI ()];have hn:=Zho (m/10);have:=ih (m/10) () ();cases e:sNum (m/10)with
   |nil=>exact absurd e hn
   |cons a r=>rw[e]at this;simpa using this
def Zqq:sNum 0=[48]:=Zhn nofun
def Zqr{k m:Nat}(hk:1<=k)(h:m<10^k):(sNum m).length<=k:=by
 unfold sNum;rw[Ya];exact digits10_le hk h
def ZbG{i:Int}(h:0<=i):Str.ofString (toString i)=⟨(sNum i.toNat).toArray⟩:=by
 let⟨m,rfl⟩:=Int.eq_ofNat_of_zero_le h;exact text_ofNat m
def in_fig(c:Nat):(!(occurrences (Str.ofString "0123456789") ⟨#[c]⟩ 0 (Str.ofString "0123456789").length 1).isEmpty)=isDig c:=by
 rw[StrLaws.found_one];have a:∀c∈[48,49,50,51,52,53,54,55,56,57],isDig c=true:=nofun;by_cases h:isDig c=true
 .rw [h];refine decide_eq_true ?_;show c∈[48,49,50,51,52,53,54,55,56,57];simp only[isDig,Bool.and_eq_true,decide_eq_true_eq]at h;have b:∀d:Fin 10,48+d.val∈[48,49,50,51,52,53,54,55,56,57]:=nofun;have:=b ⟨c-48,()⟩;rwa[show 48+(c-48)=c by omega]at this
 .exact (decide_eq_false λe=>h (a c e)).trans (Bool.eq_false_iff.mpr h).symm
end
section
def rIsN:R2:=λx y H Q=>y=.non/\Q (.bl (decide (x=.non))) H
def rNotN:R2:=λx y H Q=>y=.non/\Q (.bl (!decide (x=.non))) H
noncomputable def optV:Option Nat->V
 |none=>.non
 |some n=>.int n
section
variable{X:Cx}{U:St}{H:Hp}{Q:VK}{K:Ydg}{z y:Str}{R:Prop}
def Zce:OpR X (compareOp .Is) rIsN:=op_isN
def ZnD:OpR X (compareOp .IsNot) rNotN:=ZuS
def Zve(q:Q (.bl true) H):rIsN .non .non H Q:=⟨rfl,by rw[YG rfl];exact q⟩
def Zvf{i:Int}(q:Q (.bl false) H):rIsN (.int i) .non H Q:=⟨rfl,by rw[YD (λe=>nomatch e)];exact q⟩
def Zvg{p:XB}(q:Q (.bl false) H):rIsN (.ref p) .non H Q:=⟨rfl,by rw[YD (λe=>nomatch e)];exact q⟩
def Zsz(q:Q (.bl false) H):rNotN .non .non H Q:=⟨rfl,by rw[YG rfl];exact q⟩
def ZsA{p:XB}(q:Q (.bl true) H):rNotN (.ref p) .non H Q:=⟨rfl,by rw[YD (λe=>nomatch e)];exact q⟩
def rd_tyS(q:R):tyV K "str" (.str z) H/\R:=⟨rfl,q⟩
def Za1{i:Int}(h0:0<=i)(h:i<2^200):i.natAbs.log2<1920:=by
 by_cases e:i.natAbs=0
 .rw [e];decide
 .have:((i.natAbs:Nat):Int)<((2^200:Nat):Int):=by rw[Int.natAbs_of_nonneg h0];exact h
  have:=(Nat.log2_lt e).mpr (Int.ofNat_lt.mp this);omega
end
def Zmx(z:Str):z.cps.toList.length=z.length:=by simp[Str.length]
def ZsB{α:Type}{xs:List α}{i:Int}(h0:0<=i)(h:i<xs.length):∃c,atI xs i=some c/\xs[i.toNat]?=some c:=by
 have hl:i.toNat<xs.length:=();exact⟨xs[i.toNat],ZaL (i:=i.toNat) (by simp[hl]) (),by simp[hl]⟩
section
variable{H:Hp}{Q:VK}{z y:Str}{i:Int}{lo hi:XS}
end
def Zqs(K:Ydg):RC:=λxs H Q=>∃p ys,xs=[.ref p]/\(SqL K H p ys\/SqT K H p ys)/\∀l,H l=none->Q (.ref l) (upd H l (.lst ys))
def ZjJ{X:Cx}:CallR X (.type "list") (Zqs X.K):=Zk3
section
variable{H:Hp}{Q:VK}{K:Ydg}{p:XB}{xs:XF}
def ZgV(h:SqL K H p xs)(q:∀l,H l=none->Q (.ref l) (upd H l (.lst xs))):Zqs K [.ref p] H Q:=⟨p,xs,rfl,.inl h,q⟩
end
def Zqt{xs:XF}:cutV xs none (some (-1))=xs.dropLast:=by
 unfold cutV;rw[List.dropLast_eq_take,HT.Zsg,Yc9,YaU];have:HT.sIx xs.length xs.length (some (-1))=xs.length-1:=by
  unfold HT.sIx;simp only[];split<;>omega
 rw[this]
def ZjK{α:Type}{xs:List α}{n:Nat}{v:α}(h:xs[n]?=some v)(e:xs.length=n+1):atI xs (-1)=some v:=by
 have hn:xs≠[]:=by intro z;rw[z]at e;simp at e
 have h2:xs=xs.dropLast++[v]:=by
  have h3:=YcP hn;have h4:xs.getLast hn=v:=by
   rw[List.getLast_eq_getElem];let⟨_,q⟩:=Yf.mp h;simpa[e]using q
  rw[h4]at h3;exact h3.symm
 rw[h2];exact Zsi _ _
def ZsC{ta:TA}{U:St}{H:Hp}{R:Xr}(q:ta U H λvs H1=>∃i j:Int,vs=[.int i,.int j]/\(-(2^62)<=i/\i<2^62/\-(2^62)<=j/\j<2^62)/\R (Itr i (j-i).toNat) H1):iRng2 ta U H R:=q
structure ClsF(K:Ydg)(mg:XA)(x:Str)(C:XB):Prop where
 cl:Cls K C
 ms:PySem.W.makesIn K C=true
 kc:PySem.W.keepIn K (.ref C)=true
 mgC:mg x=some (.ref C)
def ZaF(K:Ydg)(C:XB)(m qual:Str)(st:Stmt):Prop:=∃f fd,Fun K m qual st f fd/\PySem.W.findIn K (.ref C) m=some (some (.ref f))/\PySem.W.isFn K (.ref f)=true
def MCal(P:XI)(w:XO)(K:Ydg)(mg:XA)(base:XT)(k:Nat)(C:XB)(m:Str)(sp:Sp):Prop:=
 Cls K C/\∃f fd ps,Meth K C m f/\FnOk P w K mg base CX0 k f fd ps sp/\Binds K fd ps []
def ICal(P:XI)(w:XO)(K:Ydg)(mg:XA)(base:XT)(k:Nat)(x:Str)(C:XB)(sp:Sp):Prop:=
 mg x=some (.ref C)/\∃f fd ps,Mk K C f/\FnOk P w K mg base CX0 k f fd ps sp/\Binds K fd ps []
section
variable{P:XI}{w:XO}{K:Ydg}{mg:XA}{base:XT}
def Zqu{C:XB}{m qual:Str}{st:Stmt}{f:XB}{oc:XR}{od an:Xb}{osl:XZ}{kV doc pm cdv ct:XR}(a:PySem.W.findIn K (.ref C) m=some (some (.ref f)))(i:PySem.W.isFn K (.ref f)=true)(l:K.lookup f=some ⟨oc,od,.func (PySem.W.fnOf m qual (Zbd st) (ZaV st) (Zae st) .none kV doc pm an cdv ct),osl⟩)(c:PySem.W.codeIn K cdv qual=true)(k:PySem.W.keepIn K (.ref f)=true):ZaF K C m qual st:=⟨f,_,Zp1 l c k,a,i⟩
def ZaE{C:XB}{m qual:Str}{st:Stmt}{k:Nat}{sp:Sp}(N:XN)(D:ZaF K C m qual st)(c:Cls K C)(hbody:∀(f:XB)(cdv:XR)(A:XY)(outer:Xk)(s:XM)(H:Hp)(vs:XF)(Q:VK)(E:XK),Room k (A.deeper (envOfC qual (Zae st) s.heap.objs.size f cdv))->sp vs H Q E->∃t,PSs (cxOf CX0 P w K mg base N qual (Zae st) f cdv A outer s H E).nox (ZaV st) t/\t {nx:=λ_ H'=>Q .non H',rt:=Q} (start N vs) H)(ps:XN:=N)(S:FnScope N ps (Zae st):=by walk_at"c")(len:∀vs H Q E,sp vs H Q E->vs.length=ps.length:=by walk_at"L")(hb:∀(kV doc pm:XR)(an:Xb)(cdv ct:XR)(us:XH),us.length=ps.length->bindArgs (PySem.W.fnOf m qual (Zbd st) (ZaV st) (Zae st) .none kV doc pm an cdv ct) ⟨us,[]⟩=pure (ps.zip us):=by walk_at"b"):MCal P w K mg base (k+1) C m sp:=by
 let⟨f,fd,F,a,i⟩:=D;exact⟨c,f,fd,ps,⟨a,i,F.kp⟩,F.ok S len (hbody f),F.binds hb⟩
def Zdt{C:XB}{x qual:Str}{st:Stmt}{k:Nat}{sp:Sp}(N:XN)(D:ZaF K C "__init__" qual st)(c:ClsF K mg x C)(hbody:∀(f:XB)(cdv:XR)(A:XY)(outer:Xk)(s:XM)(H:Hp)(vs:XF)(Q:VK)(E:XK),Room k (A.deeper (envOfC qual (Zae st) s.heap.objs.size f cdv))->sp vs H Q E->∃t,PSs (cxOf CX0 P w K mg base N qual (Zae st) f cdv A outer s H E).nox (ZaV st) t/\t {nx:=λ_ H'=>Q .non H',rt:=Q} (start N vs) H)(ps:XN:=N)(S:FnScope N ps (Zae st):=by walk_at"c")(len:∀vs H Q E,sp vs H Q E->vs.length=ps.length:=by walk_at"L")(hb:∀(kV doc pm:XR)(an:Xb)(cdv ct:XR)(us:XH),us.length=ps.length->bindArgs (PySem.W.fnOf "__init__" qual (Zbd st) (ZaV st) (Zae st) .none kV doc pm an cdv ct) ⟨us,[]⟩=pure (ps.zip us):=by walk_at"b"):ICal P w K mg base (k+1) x C sp:=by
 let⟨f,fd,F,a,i⟩:=D;exact⟨c.mgC,f,fd,ps,⟨c.ms,a,i,c.kc⟩,F.ok S len (hbody f),F.binds hb⟩
end
section
variable{X:Cx}{k:Nat}{C:XB}{sp:Sp}{x m:Str}{p pos apos:Pos}{e o:Xi}{es:Xd}{ta:TE}{t:TA}
def ZaB{pl:Sem Bool}(c:MCal X.prog X.w X.K X.mg X.base k C m sp)(hr:Room k X.A)(he:PE X o ta)(ha:PA X (e::es) t)(hst:starEach (e::es) X.env=(false,eval e X.env)::starEach es X.env:=by rfl)(hpl:(backTo pos (starEach es X.env)).any (·.1)=false:=by rfl)(ht:eval (.Call (.Attribute o m apos) (e::es) [] pos) X.env=(do
   let ov<- eval o X.env
   standAt apos.atName
   let(f,first)<- holding [ov] (getMethod ov m pl)
   callWith pos f first (backTo pos (starEach (e::es) X.env)) (backToKw pos (keywordEach [] X.env))):=by rfl) :
  PE X (.Call (.Attribute o m apos) (e::es) [] pos) (tMeth C m sp [] E0 ta t):=by
 let⟨cl,f,fd,ps,M,F,b⟩:=c;exact ZpK he cl M F hr b .nil pass0 ha hst hpl ht
def Zbn{pl:Sem Bool}(c:MCal X.prog X.w X.K X.mg X.base k C m sp)(hr:Room k X.A)(he:PE X o ta)(ht:eval (.Call (.Attribute o m apos) [] [] pos) X.env=(do
   let ov<- eval o X.env
   standAt apos.atName
   let(f,first)<- holding [ov] (getMethod ov m pl)
   callWith pos f first (backTo pos (starEach [] X.env)) (backToKw pos (keywordEach [] X.env))):=by rfl) :
  PE X (.Call (.Attribute o m apos) [] [] pos) (tMeth C m sp [] E0 ta tNil):=by
 let⟨cl,f,fd,ps,M,F,b⟩:=c;exact Zse he cl M F hr b .nil pass0 ht
def Zer(c:ICal X.prog X.w X.K X.mg X.base k x C sp)(hr:Room (k+1) X.A)(hg:Gl X x)(ha:PA X (e::es) t)(hdb:(x==("__debug__":Xq))=false:=by decide)(he:starEach (e::es) X.env=(false,eval e X.env)::starEach es X.env:=by rfl)(hpl:(backTo pos (starEach es X.env)).any (·.1)=false:=by rfl) :
  PE X (.Call (.Name x p) (e::es) [] pos) (tMake C sp [] E0 t):=by
 let⟨m,f,fd,ps,M,F,b⟩:=c;exact ZpL M F hr hg m b .nil pass0 ha hdb he hpl
def ZnE(c:ICal X.prog X.w X.K X.mg X.base k x C sp)(hr:Room (k+1) X.A)(hg:Gl X x)(hdb:(x==("__debug__":Xq))=false:=by decide) :
  PE X (.Call (.Name x p) [] [] pos) (tMake C sp [] E0 tNil):=by
 let⟨m,f,fd,ps,M,F,b⟩:=c;exact Zsf M F hr hg m b .nil pass0 hdb
def tMethD(T:Addr->Sp->Prop)(m:Str)(ta:TE)(t:TA):TE:=λU H Q=>ta U H λx H1=>∃a C dx fs sp,x=.ref a/\H1 a=some (.ins C dx fs)/\fs.lookup m=none/\T C sp/\t U H1 λvs H2=>sp (x::vs) H2 Q E0
def ZnF{pl:Sem Bool}{T:Addr->Sp->Prop}(c:∀C sp,T C sp->MCal X.prog X.w X.K X.mg X.base k C m sp)(hr:Room k X.A)(he:PE X o ta)(ha:PA X (e::es) t)(hst:starEach (e::es) X.env=(false,eval e X.env)::starEach es X.env:=by rfl)(hpl:(backTo pos (starEach es X.env)).any (·.1)=false:=by rfl)(ht:eval (.Call (.Attribute o m apos) (e::es) [] pos) X.env=(do
   let ov<- eval o X.env
   standAt apos.atName
   let(f,first)<- holding [ov] (getMethod ov m pl)
   callWith pos f first (backTo pos (starEach (e::es) X.env)) (backToKw pos (keywordEach [] X.env))):=by rfl) :
  PE X (.Call (.Attribute o m apos) (e::es) [] pos) (tMethD T m ta t):=by
 walk_at"I";refine YaS (pl:=pl) (thn (he pins s U H _ I h) λu s1 hz=>?_) ht;let⟨x,H1,I1,rx,a,C,dx,fs,sp,ex,ea,l,hT,q⟩:=hz;let⟨cl,f,fd,ps,M,F,b⟩:=c C sp hT;subst ex;obtain rfl:u=Value.ref a:=rx;refine ZcO I1 ea cl M l ?_;refine Ybi (first:=[.ref a]) (h₀:=X.base) I.ok.mod.kin M.kp (thn (ha pos pins s1 U H1 _ I1 q) λus s2 ⟨vs,H2,I2,r,q2⟩=>⟨I2.kIn,?_⟩) hst hpl;exact Zhg (us:=.ref a::us) (vs:=.ref a::vs) (dvs:=[]) (E:=E0) F hr b .nil pass0 I2 (.cons rfl r) (by rw[YZ];exact q2)
def ZeU{pl:Sem Bool}{T:Addr->Sp->Prop}(c:∀C sp,T C sp->MCal X.prog X.w X.K X.mg X.base k C m sp)(hr:Room k X.A)(he:PE X o ta)(ht:eval (.Call (.Attribute o m apos) [] [] pos) X.env=(do
   let ov<- eval o X.env
   standAt apos.atName
   let(f,first)<- holding [ov] (getMethod ov m pl)
   callWith pos f first (backTo pos (starEach [] X.env)) (backToKw pos (keywordEach [] X.env))):=by rfl) :
  PE X (.Call (.Attribute o m apos) [] [] pos) (tMethD T m ta tNil):=by
 walk_at"I";refine YaS (pl:=pl) (thn (he pins s U H _ I h) λu s1 hz=>?_) ht;let⟨x,H1,I1,rx,a,C,dx,fs,sp,ex,ea,l,hT,q⟩:=hz;let⟨cl,f,fd,ps,M,F,b⟩:=c C sp hT;subst ex;obtain rfl:u=Value.ref a:=rx;refine ZcO I1 ea cl M l ?_;exact YbF (first:=[.ref a]) I1.kIn M.kp (Zhg (us:=[.ref a]) (vs:=[.ref a]) (dvs:=[]) (E:=E0) F hr b .nil pass0 I1 (.cons rfl .nil) q)
end
section
variable{U:St}{H:Hp}{Q:VK}{K:Ydg}{a C dx:XB}{fs:Xl}{f m:Str}{v:V}{D:Ends}{sp:Sp}
def Zuq{ta:TE}(q:ta U H λx H1=>∃a C dx fs v,x=.ref a/\H1 a=some (.ins C dx fs)/\Cls K C/\NoAttr K C f/\fs.lookup f=some v/\Q v H1):tFld K ta f U H Q:=q
def Zah{R:V->Prop}(h:H a=some (.ins C dx fs))(c:Cls K C)(n:NoAttr K C f)(l:fs.lookup f=some v)(q:R v):∃a' C dx fs v,V.ref a=.ref a'/\H a'=some (.ins C dx fs)/\Cls K C/\NoAttr K C f/\fs.lookup f=some v/\R v:=⟨a,C,dx,fs,v,rfl,h,c,n,l,q⟩
def Zvh{ta tv:TE}(q:tv U H λy H1=>ta U H1 λx H2=>∃a C dx fs,x=.ref a/\H2 a=some (.ins C dx fs)/\Cls K C/\NoAttr K C f/\fs.length<1000/\D.nx U (upd H2 a (.ins C dx (putF f y fs)))):sFld K ta tv f D U H:=q
def ZaD{R:Hp->Prop}{y:V}(h:H a=some (.ins C dx fs))(c:Cls K C)(n:NoAttr K C f)(l:fs.length<1000)(q:R (upd H a (.ins C dx (putF f y fs)))):∃a' C dx fs,V.ref a=.ref a'/\H a'=some (.ins C dx fs)/\Cls K C/\NoAttr K C f/\fs.length<1000/\R (upd H a' (.ins C dx (putF f y fs))):=⟨a,C,dx,fs,rfl,h,c,n,l,q⟩
def Zqv{ta:TE}{t:TA}(q:ta U H λx H1=>∃a dx fs,x=.ref a/\H1 a=some (.ins C dx fs)/\fs.lookup m=none/\t U H1 λvs H2=>sp (x::(vs++[])) H2 Q E0):tMeth C m sp [] E0 ta t U H Q:=q
def Zar{R:Prop}(h:H a=some (.ins C dx fs))(l:fs.lookup m=none)(q:R):∃a' dx fs,V.ref a=.ref a'/\H a'=some (.ins C dx fs)/\fs.lookup m=none/\R:=⟨a,dx,fs,rfl,h,l,q⟩
def ZsD(q:∀p,H p=none->Q (.ref p) (upd H p (.dK []))):tDNewK U H Q:=q
def ZsE{td ty tx:TE}(q:td U H λx H1=>∃a,x=.ref a/\IsD H1 a/\ty U H1 λy H2=>tx U H2 λz H3=>∃o,DGet H3 a y o/\Q (o.getD z) H3):tDGet2 td ty tx U H Q:=q
def Zvi{kvs:XU}(h:H a=some (.dK kvs)):IsD H a:=.inl ⟨kvs,.inl h⟩
end
section
variable{U:St}{H:Hp}{Q:VK}{a:XB}{kvs:XU}{k:Key}{v:V}{R:Prop}
def Zvj{td ty:TE}(q:td U H λx H1=>ty U H1 λy H2=>∃a v,x=.ref a/\DGet H2 a y (some v)/\Q v H2):tDGet td ty U H Q:=q
def Zvk{td ty tv:TE}{D:Ends}(q:tv U H λv H1=>td U H1 λx H2=>ty U H2 λy H3=>∃a H4,x=.ref a/\DPut H3 a y v H4/\D.nx U H4):sDPut td ty tv D U H:=q
def ZnG{S:Hp->Prop}{i:Int}(h:H a=some (.dK kvs))(hl:kvs.length<sizeLine)(q:S (upd H a (.dK (putK kvs (Sum.inl i) v)))):∃a' H4,V.ref a=.ref a'/\DPut H a' (.int i) v H4/\S H4:=⟨a,_,rfl,DPut.k (k:=Sum.inl i) h hl,q⟩
end
def SqL.updI{K:Ydg}{H:Hp}{a p C dx:XB}{fs:Xl}{xs:XF}{o:HO}(h:SqL K H a xs)(n:H p=some (.ins C dx fs)):SqL K (upd H p o) a xs:=by
 rcases h with(h|⟨ob,h⟩)|h
 .exact .inl (.inl (by rw[Zaj (Za3 h n nofun)];exact h))
 .exact .inl (.inr ⟨ob,by rw[Zaj (Za3 h n nofun)];exact h⟩)
 .exact .inr h
def Same.wr{H H':Hp}{l:XB}{o:HO}(s:Same H H')(n:H l=none):Same H (upd H' l o):=λb u e=>by rw[Zaj (Zai e n)];exact s b u e
def Same.fresh{H H':Hp}{q:XB}(s:Same H H')(hq:H' q=none):H q=none:=by
 cases e:H q with
 |none=>rfl
 |some o=>rw[s _ _ e]at hq;cases hq
def rAll(K:Ydg):RC:=λxs H Q=>∃(p:XB)(bs:List Bool),xs=[.ref p]/\SqL K H p (bs.map V.bl)/\Q (.bl (bs.all id)) H
def Zvl{bs:List Bool}{us:XH}(r:Vals (bs.map V.bl) us):us=bs.map Value.bool:=by
 induction bs generalizing us with
 |nil=>cases r;rfl
 |cons b bs ih=>
  cases r with
  |cons h t=>
   have e:_=Value.bool b:=h;rw[e,ih t];rfl
def Zqw(bs:List Bool):(List.range bs.length).all (λi=>bs.getD i true)=bs.all id:=by
 rw[Ybn,Y7,Y7];constructor
 .intro h b hb;let⟨i,hi,e⟩:=Ya4.mp hb;have:=h i (Y6.mpr hi);simpa[List.getD,hi,e]using this
 .intro h i hi;have hi:=Y6.mp hi;have:=h (bs[i]) (Yad hi);simpa[List.getD,hi]using this
def Zur{X:Cx}(hc:X.calm=true):CallR X (.builtin "all") (rAll X.K):=by
 walk_at"V";let⟨p,bs,rfl,hq,q⟩:=h;let⟨u,rfl,rx⟩:=vals1 r;cases rx;let⟨its,rv,pl,hz⟩:=I.list hq;have hb:its=bs.map Value.bool:=Zvl rv;refine call_all_walk (Yc2 pl.isList ?_);have hlt:p<s.heap.objs.size:=by
  let⟨o,ho,_⟩:=pl.isList;exact YE ho
 have hh:X.A.in1.handled=none:=I.ok.hd hc;refine⟨s.heap.objs.size,_,_,_,_,_,λi=>bs.getD i true,rfl,Walks.list hh s.heap.objs.size p (YW hlt) its.toArray,⟨⟨_,YJ _ rfl,rfl,rfl⟩,pl.isList.at λo e=>Yl _ e⟩,?_,λh' tk kp=>?_⟩
 .intro i v s' Q' E' hv hQ;rw[hb]at hv;simp only[Yar,Yb]at hv;let⟨b,hb1,rfl⟩:=Yu.mp hv;have e:bs.getD i true=b:=by simp[List.getD,hb1]
  have hQ:Q' (bs.getD i true) s':=hQ;rw[e]at hQ;exact Yau hQ
 .have hn:its.toArray.size=bs.length:=by rw[hb];simp
  rw[hn,Zqw]
  exact⟨.bl (bs.all id),H,I.kept (t':=tk) λb o e=>kp b o (by
   intro z;have e':=YE e;rw[Ye.mp z]at e';exact absurd e' (Ya1 _)) (Yl _ e),rfl,q⟩
def Zus{K:Ydg}{H:Hp}{Q:VK}{p:XB}{bs:List Bool}(h:SqL K H p (bs.map V.bl))(q:Q (.bl (bs.all id)) H):rAll K [.ref p] H Q:=⟨p,bs,rfl,h,q⟩
def rIntS:RC:=λxs H Q=>∃z n,xs=[.str z]/\z.length<=640/\PySem.intText? z=some n/\Q (.int n) H
def Zqx{X:Cx}:CallR X (.type "int") rIntS:=by
 walk_at"V";let⟨z,n,rfl,hl,hn,q⟩:=h;let⟨u,rfl,rx⟩:=vals1 r;let⟨t,rfl⟩:=rx;exact PySem.W.KIN.call_text hn hl ⟨.int n,H,I.tok _,⟨_,rfl⟩,q⟩
def Zqy{H:Hp}{Q:VK}{z:Str}{n:Int}(hl:z.length<=640)(hn:PySem.intText? z=some n)(q:Q (.int n) H):rIntS [.str z] H Q:=⟨z,n,rfl,hl,hn,q⟩
noncomputable def Itp(lo:Int)(n:Nat):It:=⟨λi _=>i<n,λi H x H'=>H'=H/\x=.int (lo+i*2),λi _=>n<=i⟩
def Zmy{P:XI}{w:XO}{K:Ydg}{tg:Xi}(it:XB)(lo:Int)(n:Nat):Turn P w K tg (Itp lo n) [it] it (λi h=>IsRangeIter h it (lo+(i:Nat)*2) ((n:Int)-(i:Nat)) 2) where
 mem:=by simp
 obj:=λi h st b hb=>by
  have e:b=it:=by simpa using hb
  subst e
  exact⟨_,st,λv z=>by
   have z':Data.fields _=Data.cell v:=z;cases z'⟩
 keep:=λi h h' st k=>k it (by simp) _ st
 item:=by
  intro X hP hw hK hc i pins s U H E I hf st hg;subst hP hw hK;let⟨f0,f1,f2,f3,f4,f5⟩:=hf it (by simp);have W:=Walks.range (prog:=X.prog) (w:=X.w) (I.ok.hd hc) it lo 2 n;refine W.item i s _ _ hg st λv h' tk hv st' kk=>?_;let⟨t,rfl⟩:=hv;have I1:Inv X pins U H {s with heap:=h',toks:=tk}:=I.turned (λb o hb e=>kk b o (by simpa using hb) e) f0 f1 f3 f4 f5;exact⟨_,rfl,Zpw (s:={s with heap:=h',toks:=tk}) (n:="range_iterator") st' rfl rfl nofun ⟨.int (lo+i*2),H,I1,⟨t,rfl⟩,⟨rfl,rfl⟩,st',λb hb=>(hf b hb).1⟩⟩
 done:=by
  intro X hP hw hK hc i pins s U H E I hf st hg;subst hP hw hK;let⟨f0,f1,f2,f3,f4,f5⟩:=hf it (by simp);exact wpAny_pyNext_range_end (I.ok.hd hc) st (by have:n<=i:=hg;omega) λh' eb=>⟨rfl,I.turned (t':=s.toks) (λb o hb e=>eb b o hb e) f0 f1 f3 f4 f5⟩
 self:=λ_ _ _ _ _ st h=>wpAny_pyIter_rangeiter st h
noncomputable def twos(lo hi:Int):Nat:=((hi-lo+1)/2).toNat
def ZeV(lo hi:Int):Builtin.Range.rangeSize lo hi 2=(twos lo hi:Nat):=by
 unfold Builtin.Range.rangeSize twos;rw[if_pos nofun];split<;>omega
def Zqz{a b:Int}(ha:-(2^61)<=a)(ha':a<2^61)(hb:-(2^61)<=b)(hb':b<2^61):Builtin.Range.small a b 2=true:=by
 unfold Builtin.Range.small;rw[ZeV];unfold twos;simp only[Builtin.Range.rangeFitsLong,Yq,YbJ,Yr,Ya0,show(2:Int)>0 by decide,Ybr];refine⟨?_,?_⟩<;>(try split)<;>omega
def iRng3(ta:TA):TI:=λU H R=>ta U H λvs H1=>∃i j:Int,vs=[.int i,.int j,.int 2]/\(-(2^61)<=i/\i<2^61/\-(2^61)<=j/\j<2^61)/\R (Itp i (twos i j)) H1
def Zhp{X:Cx}{tg a b c:Xi}{ta:TA}{p pos:Pos}(hg:Gl X "range")(hm:X.mg "range"=none)(ha:PA X [a,b,c] ta)(hs:starEach [a,b,c] X.env=[(false,eval a X.env),(false,eval b X.env),(false,eval c X.env)]:=by rfl)(hs2:starEach [b,c] X.env=[(false,eval b X.env),(false,eval c X.env)]:=by rfl) :
  PI X tg (.Call (.Name "range" p) [a,b,c] [] pos) (iRng3 ta):=by
 intro pins s U H R I h;refine Call_ (Zf3 I hg hm boot_range (Yai (thn (ha pos pins s U H _ I h) λus s1 hzq=>?_) (by rw[hs,hs2]) (by rw[hs2];rfl)));let⟨vs,H1,I1,r1,q1⟩:=hzq;let⟨lo,hi,e,⟨q1,q2,q3,q4⟩,q⟩:=q1;subst e;cases r1 with
 |cons r rr=>
  cases rr with
  |cons r' rr=>
   cases rr with
   |cons r'' rr=>
    cases rr;let⟨t,rfl⟩:=r;let⟨u,rfl⟩:=r';let⟨v,rfl⟩:=r'';refine call_range_3 nofun ?_ (Or.inl (PyProof.noPylong_small nofun));refine wpAny_pyIter_range (IsRange.new ..) (Zqz q1 q2 q3 q4) ?_;have I2:Inv X pins U H1 {s1 with heap:=s1.heap.push {cls:=.type "range",data:=.fields #[.int lo t,.int hi u,.int 2 v]},toks:=s1.toks}:=I1.kept λb o e=>Yl _ e;refine⟨(s1.heap.push {cls:=.type "range",data:=.fields #[.int lo t,.int hi u,.int 2 v]}).objs.size,[(s1.heap.push {cls:=.type "range",data:=.fields #[.int lo t,.int hi u,.int 2 v]}).objs.size],_,_,H1,rfl,I2.kept (t':=s1.toks) λb o e=>Yl _ e,Zmy _ lo (twos lo hi),?_,λb hb=>?_,q⟩
    .have e1:lo+((0:Nat):Int)*2=lo:=by simp
     have e2:((twos lo hi:Nat):Int)-((0:Nat):Int)=Builtin.Range.rangeSize lo hi 2:=by rw[ZeV];omega
     show IsRangeIter _ _ (lo+((0:Nat):Int)*2) (((twos lo hi:Nat):Int)-((0:Nat):Int)) 2;rw[e1,e2];exact YJ _ rfl
    .have e:b=(s1.heap.push {cls:=.type "range",data:=.fields #[.int lo t,.int hi u,.int 2 v]}).objs.size:=by simpa using hb
     subst e;exact I2.fpOk (Yk _) (I2.hok.fresh (Yk _))
section
variable{U:St}{H:Hp}{p:XB}
def ZjL{ta:TA}{R:Xr}(q:ta U H λvs H1=>∃i j:Int,vs=[.int i,.int j,.int 2]/\(-(2^61)<=i/\i<2^61/\-(2^61)<=j/\j<2^61)/\R (Itp i (twos i j)) H1):iRng3 ta U H R:=q
def Zmz{te:TE}{R:Hp->Prop}{lo:Int}{n:Nat}{ys:XF}(hp:H p=none)(hn:ys.length=n)(hz:n<=sizeLine)(he:∀(i:Nat)(y:V)(H':Hp)(Q:VK),i<n->ys[i]?=some y->Same H H'->Q y H'->te (some (.int (lo+i*2))::U) H' Q)(fin:R (upd H p (.lst ys))) :
  tLoopC 1 (gName 0) tNoIf te (Itp lo n) p R U H:=by
 refine⟨λi m U' H'=>m=n-i/\i<=n/\H'=upd H p (.lst (ys.take i))/\∃v,U'=v::U,⟨n,(),YO _,rfl,none,rfl⟩,?_⟩;rintro i m U' H' ⟨rfl,hi,rfl,v,rfl⟩;by_cases hlt:i<n
 .refine .inr ⟨hlt,λU2 H2=>H2=upd H p (.lst (ys.take (i+1)))/\∃v,U2=v::U,λU2 H2 ⟨e,v',e'⟩=>⟨n-(i+1),Nat.sub_lt_sub_left hlt (Nat.lt_succ_self i),rfl,hlt,e,v',e'⟩,λx H1 ⟨e,y⟩=>?_⟩;subst e y;refine Zeq ?_;simp only[tNoIf,Ybr,Yaj];have hyl:i<ys.length:=();refine he i ys[i] _ _ hlt (by simp[hyl]) (Same.new hp) ?_;refine⟨ys.take i,Zad,?_,?_,some _,rfl⟩
  .rw [YN];omega
  .rw [ZaO,Ym hyl]
 .have e:i=n:=();subst e;refine .inl ⟨Yk _,?_⟩;rw[<- hn,YK];exact fin
end
section
variable{U:St}{H:Hp}{p:XB}{xs:XF}{v:V}
def Zvm{to ti:TE}{t:TSet}{Q:Xp}(q:to U H λo H1=>ti U H1 λi H2=>t o i v H2 λH3=>Q U H3):gSub to ti t v U H Q:=q
def ZmA{Q:Hp->Prop}{k:Int}{j:Nat}(h:H p=some (.lst xs))(hj:ixN xs.length k=some j)(q:Q (upd H p (.lst (xs.set j v)))):rSetL (.ref p) (.int k) v H Q:=⟨p,xs,k,j,rfl,rfl,h,hj,q⟩
def ZmB{n j:Nat}{k:Int}(e:k=(j:Int))(h:j<n):ixN n k=some j:=by
 unfold ixN;rw[if_pos (),if_pos (),e,Yt]
def Zvn{n j:Nat}{k:Int}(hk:k<0)(e:k+n=(j:Int)):ixN n k=some j:=by
 unfold ixN;rw[if_neg (),if_pos (),e,Yt]
end
section
variable{U:St}{H:Hp}{p a:XB}{K:Ydg}{xs:XF}
def ZsF{te:TE}{R:Hp->Prop}{z:Str}{ys:XF}(hp:H p=none)(hn:ys.length=z.length)(hz:z.length<=sizeLine)(he:∀(i c:Nat)(y:V)(H':Hp)(Q:VK),z.cps[i]?=some c->ys[i]?=some y->Same H H'->Q y H'->te (some (.str ⟨#[c]⟩)::U) H' Q)(fin:R (upd H p (.lst ys))) :
  tLoopC 1 (gName 0) tNoIf te (Its z) p R U H:=by
 refine⟨λi m U' H'=>m=z.length-i/\i<=z.length/\H'=upd H p (.lst (ys.take i))/\∃v,U'=v::U,⟨z.length,(),YO _,rfl,none,rfl⟩,?_⟩;rintro i m U' H' ⟨rfl,hi,rfl,v,rfl⟩;by_cases hlt:i<z.length
 .refine .inr ⟨hlt,λU2 H2=>H2=upd H p (.lst (ys.take (i+1)))/\∃v,U2=v::U,λU2 H2 ⟨e,v',e'⟩=>⟨z.length-(i+1),Nat.sub_lt_sub_left hlt (Nat.lt_succ_self i),rfl,hlt,e,v',e'⟩,λx H1 ⟨e,c,hc,ex⟩=>?_⟩;subst e ex;refine Zeq ?_;simp only[tNoIf,Ybr,Yaj];have hyl:i<ys.length:=();refine he i c ys[i] _ _ hc (by simp[hyl]) (Same.new hp) ?_;refine⟨ys.take i,Zad,?_,?_,some _,rfl⟩
  .rw [YN];omega
  .rw [ZaO,Ym hyl]
 .have e:i=z.length:=();subst e;refine .inl ⟨Yk _,?_⟩;rw[<- hn,YK];exact fin
end
section
variable{K:Ydg}{H:Hp}{Q:VK}{x y:V}{d:Dt}
def ZnH{i:Int}:DV K H (.int i) (.int i):=by unfold DV;rfl
def ZjM:DVs K H [] []:=by unfold DVs;rfl
def ZgW{d:Dt}{r:List Dt}{x:V}{t:XF}(h:DV K H d x)(h2:DVs K H r t):DVs K H (d::r) (x::t):=by unfold DVs;exact⟨x,t,rfl,h,h2⟩
def Zut{a:XB}{xs:XF}{ds:List Dt}(h:SqT K H a xs)(h2:DVs K H ds xs):DV K H (.tup ds) (.ref a):=by unfold DV;exact⟨a,xs,rfl,h,h2⟩
def Zuu{a:XB}{xs:XF}{ds:List Dt}(h:SqL K H a xs)(h2:DVs K H ds xs):DV K H (.lst ds) (.ref a):=by unfold DV;exact⟨a,xs,rfl,h,h2⟩
end
def Zvo{K:Ydg}{H:Hp}{p:XB}{xs:XF}{Q:VK}{n:Nat}(h:SqL K H p xs)(e:xs.length=n)(q:Q (.int n) H):rLenS K [.ref p] H Q:=Zqg h (by rw[e];exact q)
def ZeW{ns:XF}{n:Nat}:cutV ns (some (n:Int)) none=ns.drop n:=by
 have e:HT.sIx ns.length ns.length none=ns.length:=rfl;have e0:HT.sIx ns.length 0 (some (n:Int))=min n ns.length:=HT.ZpN _ _ _;unfold cutV;rw[e,e0];by_cases h:n<=ns.length
 .rw [YbG h,YaB (by simp)]
 .rw [YcL (),YcO,Yb8 (),List.take_nil]
def ZoM{ns:XF}{m n:Nat}:cutV ns (some (m:Int)) (some (n:Int))=(ns.drop m).take (n-m):=by
 unfold cutV;rw[HT.ZpN,HT.ZpN];by_cases h:m<=ns.length
 .rw [Nat.min_eq_left h,List.take_eq_take_iff,List.length_drop];rcases Nat.le_total n ns.length with g|g
  .rw [Nat.min_eq_left g]
  .rw [Nat.min_eq_right g,Nat.min_self,Nat.min_eq_right (Nat.sub_le_sub_right g m)]
 .have h:=Nat.le_of_not_le h;rw[Nat.min_eq_right h,List.drop_length,List.drop_eq_nil_of_le h,List.take_nil,List.take_nil]
def ZsG{U U':St}{H:Hp}{i:Nat}{v:V}{R:Xp}(e:U.set i (some v)=U')(q:R U' H):gName i v U H R:=by subst e;exact q
def Zvp{U:St}{H:Hp}{Q:VK}{C:XB}{sp:Sp}{t:TA}(q:t U H λvs H1=>∀x dx,H1 x=none->H1 dx=none->dx≠x->sp (.ref x::(vs++[])) (upd (upd H1 dx (.own x)) x (.ins C dx [])) (λv H2=>v=.non/\Q (.ref x) H2) E0):tMake C sp [] E0 t U H Q:=q
def Same.made{H H':Hp}{x dx C:XB}{o:HO}(hx:H x=none)(hd:H dx=none)(k:∀b u,(upd (upd H dx o) x (.ins C dx [])) b=some u->b≠x->H' b=some u):Same H H':=λb u e=>
 k b u (by rw[Zaj (Zai e hx),Zaj (Zai e hd)];exact e) (Zai e hx)
def Imm(u:HO):Prop:=(∃xs,u=.tup xs)\/∃o w,u=.frz o w
def SameI(H H':Hp):Prop:=∀b u,H b=some u->Imm u->H' b=some u
def SameI.trans{H H1 H2:Hp}(a:SameI H H1)(b:SameI H1 H2):SameI H H2:=λc u h i=>b c u (a c u h i) i
def Same.imm{H H':Hp}(s:Same H H'):SameI H H':=λb u h _=>s b u h
def SameI.upd{H:Hp}{a:XB}{u o:HO}(h:H a=some u)(n:¬Imm u):SameI H (upd H a o):=λb v e i=>by
 rw[Zaj (Za3 e h (λz=>n (z▸i)))];exact e
def SameI.tup{K:Ydg}{H H':Hp}{a:XB}{xs:XF}(e:SameI H H')(h:SqT K H a xs):SqT K H' a xs:=by
 rcases h with(h|⟨o,h⟩)|h
 .exact .inl (.inl (e _ _ h (.inl ⟨_,rfl⟩)))
 .exact .inl (.inr ⟨o,e _ _ h (.inr ⟨_,_,rfl⟩)⟩)
 .exact .inr h
def Za4{xs:XF}:¬Imm (.lst xs):=by rintro(⟨_,z⟩|⟨_,_,z⟩)<;>cases z
def Zhq{kvs:XU}:¬Imm (.dK kvs):=by rintro(⟨_,z⟩|⟨_,_,z⟩)<;>cases z
def Zbv{C dx:XB}{fs:Xl}:¬Imm (.ins C dx fs):=by rintro(⟨_,z⟩|⟨_,_,z⟩)<;>cases z
def SameND(H H':Hp):Prop:=∀b u,H b=some u->(∀kvs,u≠.dK kvs)->H' b=some u
def SameND.imm{H H':Hp}(s:SameND H H'):SameI H H':=λb u h i=>s b u h (by
 rintro kvs rfl;exact Zhq i)
abbrev Row:=Str×Option Int
abbrev XW:=List Row
noncomputable def rowVs:Row->List V
 |(w,none)=>[.str w]
 |(w,some n)=>[.str w,.int n]
def RowAt(K:Ydg)(H:Hp)(r:Row)(v:V):Prop:=∃t,v=.ref t/\SqT K H t (rowVs r)
def RowsAt(K:Ydg)(H:Hp)(rs:XW)(xs:XF):Prop:=rs.length=xs.length/\∀(i:Nat)(r:Row)(x:V),rs[i]?=some r->xs[i]?=some x->RowAt K H r x
def RowAt.keep{K:Ydg}{H H':Hp}{r:Row}{v:V}(h:RowAt K H r v)(s:SameI H H'):RowAt K H' r v:=let⟨t,e,q⟩:=h;⟨t,e,s.tup q⟩
def RowsAt.keep{K:Ydg}{H H':Hp}{rs:XW}{xs:XF}(h:RowsAt K H rs xs)(s:SameI H H'):RowsAt K H' rs xs:=⟨h.1,λi r x h1 h2=>(h.2 i r x h1 h2).keep s⟩
def RowsAt.nil{K:Ydg}{H:Hp}:RowsAt K H [] []:=⟨rfl,λi r x h=>by simp at h⟩
def RowsAt.cons{K:Ydg}{H:Hp}{r:Row}{rs:XW}{x:V}{xs:XF}(h1:RowAt K H r x)(h:RowsAt K H rs xs):RowsAt K H (r::rs) (x::xs):=by
 refine⟨by simp[h.1],λi r' x' e1 e2=>?_⟩;cases i with
 |zero=>cases e1;cases e2;exact h1
 |succ i=>exact h.2 i r' x' (by simpa using e1) (by simpa using e2)
noncomputable def putFn(f:Xf)(i v:Int):Int->Int:=λj=>if j=i then v else f j
def DictF(H:Hp)(d:XB)(f:Xf)(m:Nat):Prop:=∃kvs,H d=some (.dK kvs)/\kvs.length<=m/\∀i:Int,(valV kvs (Sum.inl i:Key)).getD (.int 0)=.int (f i)
def StoreAt(H:Hp)(d:XB)(f:Xf)(m:Nat):Prop:=∃kvs,H d=some (.dK kvs)/\kvs.length<=m/\(kvs.map (·.1)).Nodup/\(∀p∈kvs,∃i n:Int,p=(Sum.inl i,.int n)/\n≠0)/\∀i:Int,(valV kvs (Sum.inl i:Key)).getD (.int 0)=.int (f i)
def DictF.put{H:Hp}{d:XB}{kvs:XU}{f:Xf}{m:Nat}(hl:kvs.length<=m)(hf:∀i:Int,(valV kvs (Sum.inl i:Key)).getD (.int 0)=.int (f i))(i v:Int):DictF (upd H d (.dK (putK kvs (Sum.inl i) (.int v)))) d (putFn f i v) (m+1):=by
 refine⟨_,Zad,Yj (Zep ..) (Ycl hl 1),λj=>?_⟩;rw[Zsk];unfold putFn;by_cases e:j=i
 .subst e;rw[if_pos rfl,if_pos rfl];rfl
 .rw [if_neg (λz=>e (Sum.inl.inj z)),if_neg e];exact hf j
theorem Zlk{κ:Type} [DecidableEq κ] (k j:κ):∀kvs:List (κ×V),valV (dropK kvs k) j=if j=k then none else valV kvs j
 |[]=>by
  have:dropK ([]:List (κ×V)) k=[]:=rfl;rw[this,Zsj];split<;>rfl
 |p::r=>by
  have ih:=Zlk k j r;by_cases e:p.1=k
  .rw [Zla e,ih];by_cases z:j=k
   .rw [if_pos z,if_pos z]
   .rw [if_neg z,if_neg z,Zbm (λq=>z (q.symm.trans e))]
  .rw [Zlb e];by_cases q:p.1=j
   .rw [Zbu q,Zbu q,if_neg (λz=>e (q.trans z))]
   .rw [Zbm q,Zbm q,ih]
def ZqA{κ:Type} [DecidableEq κ] {kvs:List (κ×V)} {k:κ} (v:V) (hn:(kvs.map (·.1)).Nodup):((putK kvs k v).map (·.1)).Nodup:=by
 cases e:valV kvs k with
 |none=>exact Zu1 v hn e
 |some u=>
  have hk:(kvs.any λkv=>decide (kv.1=k))=true:=by rw[Zct,e];rfl
  unfold putK;rw[if_pos hk,Yao];have:((λx:κ×V=>x.1)∘λkv:κ×V=>if kv.1=k then(kv.1,v)else kv)=λx=>x.1:=by
   funext x;show(if x.1=k then(x.1,v)else x).1=x.1;split<;>rfl
  rw[this];exact hn
def ZsH{κ:Type} [DecidableEq κ] {kvs:List (κ×V)} {k:κ} {v:V} {p:κ×V} (h:p∈putK kvs k v):p=(k,v)\/p∈kvs:=by
 unfold putK at h;split at h
 .obtain ⟨q,hq,e⟩:=YF.mp h;by_cases z:q.1=k
  .rw [if_pos z]at e;apply Or.inl;rw[<- e,z]
  .rw [if_neg z]at e;apply Or.inr;rw[<- e];exact hq
 .rcases Yw.mp h with h|h
  .exact .inr h
  .exact .inl (Ye.mp h)
def StoreAt.put{H:Hp}{d:XB}{kvs:XU}{f:Xf}{m:Nat}(hl:kvs.length<=m)(hn:(kvs.map (·.1)).Nodup)(hz:∀p∈kvs,∃i n:Int,p=(Sum.inl i,.int n)/\n≠0)(hf:∀i:Int,(valV kvs (Sum.inl i:Key)).getD (.int 0)=.int (f i))(i v:Int)(hv:v≠0) :
  StoreAt (upd H d (.dK (putK kvs (Sum.inl i) (.int v)))) d (putFn f i v) (m+1):=by
 let⟨kvs',e1,e2,e3⟩:=DictF.put (H:=H) (d:=d) hl hf i v;rw[Zad]at e1;cases e1;refine⟨_,Zad,e2,ZqA _ hn,λp hp=>?_,e3⟩;rcases ZsH hp with rfl|hp
 .exact ⟨i,v,rfl,hv⟩
 .exact hz p hp
def StoreAt.drop{H:Hp}{d:XB}{kvs:XU}{f:Xf}{m:Nat}(hl:kvs.length<=m)(hn:(kvs.map (·.1)).Nodup)(hz:∀p∈kvs,∃i n:Int,p=(Sum.inl i,.int n)/\n≠0)(hf:∀i:Int,(valV kvs (Sum.inl i:Key)).getD (.int 0)=.int (f i))(i:Int) :
  StoreAt (upd H d (.dK (dropK kvs (Sum.inl i)))) d (putFn f i 0) (m+1):=by
 refine⟨_,Zad,Yj (ZjD ..) (Yj hl (Yaq _)),ZjF hn,λp hp=>hz p (Zlc hp),λj=>?_⟩;rw[Zlk];unfold putFn;by_cases e:j=i
 .subst e;rw[if_pos rfl,if_pos rfl];rfl
 .rw [if_neg (λz=>e (Sum.inl.inj z)),if_neg e];exact hf j
def StoreAt.same{H H':Hp}{d:XB}{f:Xf}{m:Nat}(h:StoreAt H d f m)(e:H' d=H d):StoreAt H' d f m:=let⟨kvs,a,b⟩:=h;⟨kvs,e.trans a,b⟩
def StoreAt.le{H:Hp}{d:XB}{f:Xf}{m m':Nat}(h:StoreAt H d f m)(e:m<=m'):StoreAt H d f m':=let⟨kvs,a,b,c⟩:=h;⟨kvs,a,Yj b e,c⟩
section
variable{U:St}{H:Hp}{Q:VK}{a:XB}{kvs:XU}
def ZsI{td ty tx:TE}(q:td U H λx H1=>∃a,x=.ref a/\IsD H1 a/\ty U H1 λy H2=>tx U H2 λz H3=>∃kvs k,H3 a=some (.dK kvs)/\y=kV k/\(∀v,valV kvs k=some v->Q v (upd H3 a (.dK (dropK kvs k))))/\(valV kvs k=none->Q z H3)):tDPop2 td ty tx U H Q:=q
end
section
variable{U:St}{H:Hp}{K:Ydg}{a l:XB}{xs:XF}{n:Nat}{t:TGs}{Q:Xp}{v:V}{r:XF}{g:TG}{u:TGs}
def Zvq(h:SqT K H a xs)(hl:xs.length=n)(q:t xs U H Q):gTup K n t (.ref a) U H Q:=⟨a,xs,rfl,h,hl,q⟩
def ZsJ(q:g v U H λU' H'=>u r U' H' Q):gCons g u (v::r) U H Q:=⟨v,r,rfl,q⟩
def Zvr(q:Q U H):gNil [] U H Q:=⟨rfl,q⟩
end
theorem Zll{α:Type}:∀{l:List α},l.Nodup->∀(i j:Nat)(x:α),l[i]?=some x->l[j]?=some x->i=j
 |[],_,i,j,x,h,_=>by simp at h
 |a::r,hn,0,0,x,_,_=>rfl
 |a::r,hn,0,j+1,x,h1,h2=>by
  cases h1;rw[Yaz]at h2;exact absurd (Yn h2) (YT.mp hn).1
 |a::r,hn,i+1,0,x,h1,h2=>by
  cases h2;rw[Yaz]at h1;exact absurd (Yn h1) (YT.mp hn).1
 |a::r,hn,i+1,j+1,x,h1,h2=>by
  rw[Yaz]at h1 h2;rw[Zll (YT.mp hn).2 i j x h1 h2]
section
variable{U:St}{H:Hp}{p a:XB}{K:Ydg}{xs:XF}
def compNx(Pv:Nat->Hp->Prop)(i:Nat)(U:St):St->Hp->Prop:=λU2 H2=>Pv i H2/\∃v,U2=v::U
def Zcf{tc:TT}{te:TE}{R:Hp->Prop}(Pv:Nat->Hp->Prop)(h0:Pv 0 (upd H p (.lst [])))(hl:∀i H',Pv i H'->SqL K H' a xs)(hs:∀(i:Nat)(x:V)(H':Hp),xs[i]?=some x->Pv i H'->tc (some x::U) H' λb H1=>if b=true then te (some x::U) H1 λy H2=>∃ys,H2 p=some (.lst ys)/\ys.length<sizeLine/\compNx Pv (i+1) U (some x::U) (upd H2 p (.lst (ys++[y])))else compNx Pv (i+1) U (some x::U) H1)(fin:∀H',Pv xs.length H'->R H'):tLoopC 1 (gName 0) tc te (Itl K a) p R U H:=by
 refine⟨λi m U' H'=>m=xs.length-i/\i<=xs.length/\Pv i H'/\∃v,U'=v::U,⟨xs.length,(),YO _,h0,none,rfl⟩,?_⟩;rintro i m U' H' ⟨rfl,hi,hp,v,rfl⟩;have hs':=hl i H' hp;by_cases hlt:i<xs.length
 .refine .inr ⟨⟨xs,xs[i],hs',by simp[hlt]⟩,compNx Pv (i+1) U,λU2 H2 ⟨e,v',e'⟩=>⟨xs.length-(i+1),Nat.sub_lt_sub_left hlt (Nat.lt_succ_self i),rfl,hlt,e,v',e'⟩,λx H1 ⟨e,y⟩=>?_⟩;subst e;have hx:=y xs hs';refine Zeq ?_;simp only[Yaj];exact hs i x _ hx hp
 .have e:i=xs.length:=();subst e;exact .inl ⟨⟨xs,hs',Yk _⟩,fin H' hp⟩
def ZqB{tc:TT}{te:TE}{R:Hp->Prop}{lo:Int}{n:Nat}(Pv:Nat->Hp->Prop)(h0:Pv 0 (upd H p (.lst [])))(hs:∀(i:Nat)(H':Hp),i<n->Pv i H'->tc (some (.int (lo+i))::U) H' λb H1=>if b=true then te (some (.int (lo+i))::U) H1 λy H2=>∃ys,H2 p=some (.lst ys)/\ys.length<sizeLine/\compNx Pv (i+1) U (some (.int (lo+i))::U) (upd H2 p (.lst (ys++[y])))else compNx Pv (i+1) U (some (.int (lo+i))::U) H1)(fin:∀H',Pv n H'->R H'):tLoopC 1 (gName 0) tc te (Itr lo n) p R U H:=by
 refine⟨λi m U' H'=>m=n-i/\i<=n/\Pv i H'/\∃v,U'=v::U,⟨n,(),YO _,h0,none,rfl⟩,?_⟩;rintro i m U' H' ⟨rfl,hi,hp,v,rfl⟩;by_cases hlt:i<n
 .refine .inr ⟨hlt,compNx Pv (i+1) U,λU2 H2 ⟨e,v',e'⟩=>⟨n-(i+1),Nat.sub_lt_sub_left hlt (Nat.lt_succ_self i),rfl,hlt,e,v',e'⟩,λx H1 ⟨e,y⟩=>?_⟩;subst e y;refine Zeq ?_;simp only[Yaj];exact hs i _ hlt hp
 .have e:i=n:=();subst e;exact .inl ⟨Yk _,fin H' hp⟩
def ZfK{U:St}{H:Hp}{R:Xn}(q:R true H):tNoIf U H R:=q
end
def RowsAt.snoc{K:Ydg}{H:Hp}{rs:XW}{xs:XF}{r:Row}{x:V}(h:RowsAt K H rs xs)(h1:RowAt K H r x):RowsAt K H (rs++[r]) (xs++[x]):=by
 refine⟨by simp[h.1],λi r' x' e1 e2=>?_⟩;by_cases hi:i<rs.length
 .rw [YX hi]at e1;rw[YX (by rw[<- h.1];exact hi)]at e2;exact h.2 i r' x' e1 e2
 .have hi2:i=rs.length:=by
   have:=(Yf.mp e1).1;simp at this;omega
  subst hi2;rw[Yv (Yk _),Yam]at e1;rw[Yv (by rw[h.1];exact Yk _),h.1,Yam]at e2;cases e1;cases e2;exact h1
end
end L2
namespace L2
open PySem PySem.Spec PyProof.Rows PySem.Calls PySem.W
section
variable{Pr:XI}{wo:XO}{Ar:XY}{Ex:XE}{sh:XM}{Ty:String}{ro di:XB}{cnt:Nat}{Pp:Nat->Value->Prop}{Okd:Heap->Prop}
def dcol{Rr:List Value->Shared->Prop}(Sr:KdlSrc Pr wo Ty ro di cnt Pp Okd)(h0:Ar.handled=none)(hO:Okd sh.heap)(hN:cnt<=sizeLine)(fin:∀(hp:XT)(tn:Nat)(its:Xc),(∀b u,sh.heap.get? b=some u->hp.get? b=some u)->sh.heap.objs.size<hp.objs.size->ItemsOf Pp its cnt->Rr its.toList {sh with heap:=hp,toks:=tn}) :
  wpAny (model Pr wo) Ar (collect (.ref ro)) Rr Ex sh:=by
 have lt2:=Sr.there _ hO;have lt1:sh.heap.objs.size<(sh.heap.push {cls:=.type "list",data:=.seq ([]:XH).toArray}).objs.size:=by rw[size_push'];exact YaC _
 unfold collect;refine Yg (wpAny_runValue (Ybt (entry_proto_collect') ?_));rw[Ybh (PySem.F.plain_proto_collect) (_)];show wpAny _ (Ar.in1) (newList [] >>=λq=>again (.builtin "list.__iadd__" ⟨[q,.ref ro],[]⟩)) _ _ sh;refine Yg (Yav (?_));refine Yp ⟨YcR (PySem.F.plain_list_iadd) (_),Ybt (entry_list_iadd') ?_⟩;rw[Ybh (PySem.F.plain_list_iadd) (_)];have g1:(sh.heap.push {cls:=.type "list",data:=.seq ([]:XH).toArray}).get? sh.heap.objs.size=some {cls:=.type "list",data:=.seq #[]}:=YJ _ rfl;show wpAny _ (Ar.in1) (Builtin.List.listExtendWith (.ref sh.heap.objs.size) (.ref ro) (.ref sh.heap.objs.size)) _ _ _
 have ext:=kdl_extend (A:=Ar) (s:={sh with heap:=sh.heap.push {cls:=.type "list",data:=.seq ([]:XH).toArray}})
  (R:=λ(rs:Result)(s2:XM)=>∃(hp:XT)(tn:Nat)(its:Xc)(ep:Nat),rs=.ok (.ret (.ref sh.heap.objs.size))/\s2={sh with heap:=hp,toks:=tn}/\(∀b u,sh.heap.get? b=some u->hp.get? b=some u)/\hp.get? sh.heap.objs.size=some {cls:=.type "list",dict:=none,data:=.seq its ep,slots:=#[]}/\ItemsOf Pp its cnt)
  Sr h0 (Sr.keep _ _ hO λb _ u e=>Yl _ e) sh.heap.objs.size (YbK lt2.1) (YbK lt2.2) (.ref sh.heap.objs.size) 0 g1
  (λhp tn its ep kp at1 ok=>⟨hp,tn,its,ep,rfl,rfl,λb u e=>kp b u (YW (YE e)) (Yl _ e),at1,ok⟩) hN
 refine YaZ ext (λfl s2 xx=>?_) λer s2 xx=>?_
 .cases fl with
  |done fl2=>
   let⟨hp,tn,its,ep,e1,rfl,kp,at1,ok⟩:=xx;cases e1;show wpAny _ Ar (load sh.heap.objs.size >>=_) _ _ _;exact Yg (wpAny_load at1 (Yp (fin hp tn its kp (YE at1) ok)))
  |again cc=>
   refine⟨xx.1,YbD xx.2 λrs s3 yy=>?_⟩;let⟨hp,tn,its,ep,rfl,rfl,kp,at1,ok⟩:=yy;show wpAny _ Ar (load sh.heap.objs.size >>=_) _ _ _;exact Yg (wpAny_load at1 (Yp (fin hp tn its kp (YE at1) ok)))
 .obtain ⟨_,_,_,_,e1,_⟩:=xx;cases e1
end
def Zvs(ns:XD)(R:List Int->Prop):Prop:=∀ms:List Int,ms.Perm ns->ms.Pairwise (·<=·)->R ms
def ZqC(K:Ydg):RC:=λxs H Q=>∃d ns,xs=[.ref d]/\ns.length<64/\((∃kvs:List (Key×V),H d=some (.dK kvs)/\kvs.map (·.1)=ns.map Sum.inl)\/SqL K H d (ns.map V.int))/\
 Zvs ns λms=>∀p,H p=none->Q (.ref p) (upd H p (.lst (ms.map V.int)))
def Zhr:∀{ns:XD}{us:XH},IntsAre us ns->Vals (ns.map V.int) us:=λh=>Zhl h
def ZjN:∀{ns:XD}{us:XH},Vals (ns.map V.int) us->IntsAre us ns:=by
 intro ns;induction ns with
 |nil=>intro us h;cases h;exact .nil
 |cons n r ih=>
  intro us h;cases h with
  |cons a b=>
   let⟨t,rfl⟩:=a;exact .cons _ _ (ih b)
theorem ZmC:∀(us:XH)(ns:XD),us.length=ns.length->(∀(j:Nat)(v:XR)(n:Int),us[j]?=some v->ns[j]?=some n->∃t,v=.int n t)->IntsAre us ns
 |[],[],_,_=>.nil
 |u::us,n::ns,hl,h=>by
  let⟨t,rfl⟩:=h 0 u n rfl rfl;exact .cons _ _ (ZmC us ns (by simpa using hl) λj v m h1 h2=>h (j+1) v m (by simpa using h1) (by simpa using h2))
 |[],n::ns,hl,_=>by simp at hl
 |u::us,[],hl,_=>by simp at hl
def ZqD{X:Cx}(hc:X.calm=true):CallR X (.builtin "sorted") (ZqC X.K):=by
 walk_at"V";let⟨d,ns,rfl,h64,hs,q⟩:=h;let⟨u,rfl,rx⟩:=vals1 r;cases rx;rcases hs with⟨kvs,hd,hk⟩|hl
 .obtain ⟨hz,lo,vs,hkv,hD⟩:=ZoF I.hok hd;let⟨ep,hat⟩:=hD.dictAt;have hh:X.A.in1.in1.handled=none:=I.ok.hd hc;refine Calls.call_function_entry (kind_sorted) (plain_sorted) (entry_sorted) (args_sorted1 _) ?_;unfold Builtin.«sorted»;refine Yg (m:=checkCount "sorted" 1 1 (_)) (Yp (?_));have hvl:vs.length=ns.length:=by
   have:=hkv.length;have h2:=Y3 List.length hk;rw[Ya,Ya]at h2;omega
  refine Yg (dcol (Ar:=X.A.in1) (kdl_dict (knd:=Za2 X.prog X.w) (kvs:=vs) (ep:=ep) lo) (I.ok.hd hc) hat (by rw[hvl];exact Yj (Yan h64) nofun) λhp tn its kp lt ok=>?_);have hI:IntsAre its.toList ns:=by
   refine ZmC _ _ (by rw[Yae,ok.1,hvl]) λj v n h1 h2=>?_;let⟨key,x,e1,e2⟩:=ok.2 j v (by rw[<- YaY];exact h1);have e3:(vs.map (·.1))[j]?=some key:=by rw[Yb,e1];rfl
   rw[<- hkv.keys,hk,Yb,h2]at e3;cases e3;rw[ZiZ]at e2;rcases Zbb e2 with⟨i,t,e4,rfl⟩|⟨y,t,e4,rfl⟩
   .cases e4;exact⟨t,rfl⟩
   .cases e4
  have hl2:its.toList.length<64:=by rw[Yae,ok.1,hvl];exact h64
  refine Yg (wpAny_newList (?_) (Yj (Yan hl2) nofun));have at1:(hp.push (seqObj "list" its.toList.toArray 0)).get? hp.objs.size=some (seqObj "list" its.toList.toArray 0):=YJ _ rfl;refine Yg (YaG (YaF (slot_list_sort) ⟨_,at1,rfl⟩ (entry_list_sort) (list_sort_tree at1 hI hl2 λout ms a1 a2 a3=>⟨_,rfl,?_⟩) (args_list_sort _)));refine Yp ⟨_,rfl,?_⟩;let⟨e5,at2⟩:=sortedHeap_at (out:=out) at1;have hml:ms.length<=sizeLine:=by rw[a2.length_eq];exact Yj (Yan h64) nofun
  refine⟨.ref hp.objs.size,_,I.laid (t':=tn) (λb u e=>?_) (Yan lt) (show ObjOk X.prog X.w _ _ _ (.lst (ms.map V.int))from⟨by rw[Ya];exact hml,out.toList,e5,Zhr a1,at2⟩),rfl,q ms a2 a3 _ (I.hok.fresh (Yan lt))⟩;have lb:=YE (kp b u e);rw[sortedHeap_old (YW lb) (by rw[size_push'];exact YbW lb)];exact Yl _ (kp b u e)
 .obtain ⟨its,rv,pl,hz⟩:=I.list hl;have hI:=ZjN rv;have hl2:its.length<64:=by rw[<- rv.length,Ya];exact h64
  refine sorted_ints pl.isList hI hl2 λout ms a1 a2 a3=>?_;let⟨e5,at2⟩:=sortedAll_at s.heap its out;have hml:ms.length<=sizeLine:=by rw[a2.length_eq];exact Yj (Yan h64) nofun
  exact⟨.ref (s.heap.objs.size+1),_,I.laid (t':=s.toks) (λb u e=>sortedAll_old e) (Yaq _) (show ObjOk X.prog X.w _ _ _ (.lst (ms.map V.int))from⟨by rw[Ya];exact hml,out.toList,e5,Zhr a1,at2⟩),rfl,q ms a2 a3 _ (I.hok.fresh (Yaq _))⟩
section
variable{K:Ydg}{H:Hp}{Q:VK}{d:XB}{ns:XD}
def ZoN{kvs:XU}(h:H d=some (.dK kvs))(hk:kvs.map (·.1)=ns.map Sum.inl)(h64:ns.length<64)(q:∀ms:List Int,ms.Perm ns->ms.Pairwise (·<=·)->∀p,H p=none->Q (.ref p) (upd H p (.lst (ms.map V.int)))):ZqC K [.ref d] H Q:=⟨d,ns,rfl,h64,.inl ⟨kvs,h,hk⟩,q⟩
end
def rTIdx(K:Ydg):V->List V->Hp->VK->Prop:=λx vs H Q=>∃(t:XB)(ys:XN)(y:Str)(k:Nat),x=.ref t/\vs=[.str y]/\SqT K H t (ys.map V.str)/\ys[k]?=some y/\(∀j,j<k->ys[j]?≠some y)/\Q (.int k) H
def Zlm{X:Cx}:MtM X "tuple.index" (rTIdx X.K):=by
 intro pins s U H x vs v us Q I rx rv h;let⟨t,ys,y,k,rfl,rfl,hq,hk,hno,q⟩:=h;cases rx;let⟨u,rfl,ru⟩:=rv.one;let⟨tk,rfl⟩:=ru;let⟨its,r',pl,hz⟩:=I.tuple hq;let⟨o,ho,hcls,n,hd⟩:=pl;refine YaF F.slot_tuple_index ⟨o,ho,hcls⟩ F.entry_tuple_index ?_ (F.args_tuple_index_2 _ _);unfold Builtin.«tuple.index»;refine Yg (Yp ?_);dsimp only;refine Yg (wpAny_tupleItemsOf ho hd ?_);refine Yg (Yp ?_);refine Yg (Yp ?_);rw[Nat.min_self];have hlen:ys.length=its.length:=by have:=r'.length;rwa[Ya]at this
 have hkl:k<ys.length:=(Yf.mp hk).1;refine Yg ?_;rw[Std.Legacy.Range.forIn_eq_forIn_range'];refine wpAny_forIn_list _ (λrest b s'=>b=(none,⟨⟩)/\s'=s/\∃i,i<=k/\rest=List.range' i (its.length-i)) _ ?_ ?_ _ _ ?_
 .rintro i rest b s' ⟨rfl,rfl,i',hi,e⟩;have hil:i'<its.length:=();obtain⟨m,hm⟩:∃m,its.length-i'=m+1:=⟨its.length-i'-1,(Nat.succ_pred (Nat.sub_ne_zero_of_lt hil)).symm⟩;rw[hm,YcN]at e;let⟨rfl,rfl⟩:=List.cons.inj e;obtain⟨z,hz1⟩:∃z,ys[i]?=some z:=⟨ys[i]'(),Yd _⟩;let⟨w,hw,rw'⟩:=r'.get (i:=i) (x:=.str z) (by rw[Yb,hz1];rfl);let⟨t2,rfl⟩:=rw';have hw2:its.toArray[i]?=some (.str z t2):=by rw[Yar];exact hw
  rw[hw2];dsimp only;refine Yg (wpAny_eqBool_str ?_);by_cases hzy:z=y
  .rw [YG hzy,if_pos rfl];have hik:i=k:=by
    rcases YaW i k with q1|q1
    .exact absurd (hzy▸hz1) (hno i q1)
    .omega
   subst hik;refine Yg ?_;show wpAny _ _ (mkInt (i:Int) >>=λv=>ret v) _ _ _;refine Yg (wpAny_mkInt (Yp (Yp ?_)));dsimp only;exact Yp ⟨_,rfl,.int i,H,I.tok _,⟨_,rfl⟩,q⟩
  .rw [YD hzy,if_neg nofun];refine Yp ⟨rfl,rfl,i+1,?_,by congr 1;omega⟩;rcases YaW i k with q1|q1
   .omega
   .have:i=k:=();subst this;rw[hk]at hz1;exact absurd (Y2 hz1).symm hzy
 .rintro b s' ⟨rfl,rfl,i,hi,e⟩;have:(List.range' i (its.length-i)).length=0:=by rw[<- e];rfl
  rw[List.length_range']at this;omega
 .refine ⟨rfl,rfl,0,YO _,?_⟩;simp[Std.Legacy.Range.size]
def Tup0(K:Ydg)(a:XB):Prop:=∃o,K.lookup a=some o/\o.cls=.type "tuple"/\o.dict=none
def ZsK{K:Ydg}{h:XT}{mg:XA}{x:Str}{i:XB}{xs:XF}{its:Xc}{n:Nat}{sl:XZ}(X:K.In h)(G:h.Ns mainGlobals mg)(a:PySem.W.nsIn K mainGlobals x=some (some (.ref i)))(l:K.lookup i=some ⟨.type "tuple",none,.seq its n,sl⟩)(v:Vals xs its.toList)(z:its.size<=sizeLine):∃a,ZaM mg x (.ref a)/\TupK K a xs/\Tup0 K a:=⟨i,ZfJ X G a,Zms l v z,_,l,rfl,rfl⟩
section
variable{K:Ydg}{H:Hp}{Q:VK}{t l b:XB}
def Zuv(h:Tup0 K t):tyV K "tuple" (.ref t) H:=.inr (.inl ⟨rfl,h⟩)
def Zln{ys:XN}{y:Str}{k:Nat}(h:SqT K H t (ys.map V.str))(hk:ys[k]?=some y)(hno:∀j,j<k->ys[j]?≠some y)(q:Q (.int k) H):rTIdx K (.ref t) [.str y] H Q:=⟨t,ys,y,k,rfl,rfl,h,hk,hno,q⟩
def Zhs{xs zs:XF}(h:H l=some (.lst xs))(h2:H b=some (.lst zs))(hz:xs.length+zs.length<=sizeLine)(q:Q .non (upd H l (.lst (xs++zs)))):ZpU (.ref l) [.ref b] H Q:=⟨l,b,xs,zs,rfl,rfl,h,h2,hz,q⟩
end
noncomputable def firstAt:List Str->Str->Nat
 |[],_=>0
 |a::r,x=>if a=x then 0 else firstAt r x+1
theorem Zes:∀{xs:XN}{x:Str},x∈xs->xs[firstAt xs x]?=some x/\∀j,j<firstAt xs x->xs[j]?≠some x
 |[],x,h=>by simp at h
 |a::r,x,h=>by
  unfold firstAt;by_cases e:a=x
  .rw [if_pos e];exact⟨by rw[e];rfl,λj hj=>absurd hj (YcS j)⟩
  .rw [if_neg e];have hr:x∈r:=(Yh.mp h).resolve_left (λz=>e z.symm);let⟨h1,h2⟩:=Zes hr;refine⟨by rw[Yaz];exact h1,λj hj=>?_⟩;cases j with
   |zero=>intro z;exact e (Y2 z)
   |succ j=>rw[Yaz];exact h2 j ()
theorem ZeX:∀{xs ys:XD},xs.Pairwise (·<·)->ys.Pairwise (·<·)->(∀i,i∈xs↔i∈ys)->xs=ys
 |[],[],_,_,_=>rfl
 |[],y::ys,_,_,h=>by have:=(h y).mpr (by simp);simp at this
 |x::xs,[],_,_,h=>by have:=(h x).mp (by simp);simp at this
 |x::xs,y::ys,h1,h2,h=>by
  let⟨a1,a2⟩:=YaD.mp h1;let⟨b1,b2⟩:=YaD.mp h2;have e:x=y:=by
   rcases Yh.mp ((h x).mp (by simp))with z|z
   .exact z
   .rcases Yh.mp ((h y).mpr (by simp))with w|w
    .exact w.symm
    .have:=a1 y w;have:=b1 x z;omega
  subst e;rw[ZeX a2 b2 λi=>?_];constructor
  .intro hi;rcases Yh.mp ((h i).mp (Yo _ hi))with z|z
   .have:=a1 i hi;omega
   .exact z
  .intro hi;rcases Yh.mp ((h i).mpr (Yo _ hi))with z|z
   .have:=b1 i hi;omega
   .exact z
def ZnI{ms:XD}(h:ms.Pairwise (·<=·))(hn:ms.Nodup):ms.Pairwise (·<·):=by
 induction ms with
 |nil=>exact .nil
 |cons a r ih=>
  let⟨h1,h2⟩:=YaD.mp h;let⟨n1,n2⟩:=YT.mp hn;refine YaD.mpr ⟨λb hb=>?_,ih h2 n2⟩;have:=h1 b hb;have:a≠b:=λz=>n1 (z▸hb);omega
end L2
namespace L2
open PySem PySem.Builtin PySem.Builtin.Str PySem.StrLaws
section
noncomputable def glueL(y:XJ):List (List Nat)->List Nat
 |[]=>[]
 |[p]=>p
 |p::q::r=>p++y++glueL y (q::r)
noncomputable def cutsAt(w:Nat):Nat->List (List Nat)->List Nat
 |_,[]=>[]
 |_,[_]=>[]
 |a,p::q::r=>(a+p.length)::cutsAt w (a+p.length+w) (q::r)
def Gap(w:Nat):List Nat->Prop
 |[]=>True
 |[_]=>True
 |a::b::r=>a+w<=b/\Gap w (b::r)
def Gap.tail{w a:Nat}{r:XJ}(h:Gap w (a::r)):Gap w r:=by
 cases r with
 |nil=>trivial
 |cons b r=>exact h.2
theorem Gap.ge{w a:Nat}:∀{r:XJ},Gap w (a::r)->∀b∈r,a+w<=b
 |[],_,b,hb=>by simp at hb
 |c::r,h,b,hb=>by
  rcases Yh.mp hb with rfl|hb
  .exact h.1
  .have:=Gap.ge (r:=r) h.2 b hb;have:=h.1;omega
theorem ZjO(s sub:Str)(hi limit:Nat)(w0:0<sub.length):∀(m i:Nat)(acc:Array Nat)(free:Nat)(cs:XJ),(∀j,i<=j->j<i+m->((j+sub.length<=hi/\subAt s sub j=true)↔j∈cs))->Gap sub.length cs->
  (∀c∈cs,i<=c/\c<i+m/\free<=c)->acc.size+cs.length<limit->(forIn (List.range' i m) (acc,free) (occBody s sub hi limit)).run.fst.toList=acc.toList++cs
 |0,i,acc,free,cs,_,_,hc,_=>by
  have:cs=[]:=by
   cases cs with
   |nil=>rfl
   |cons c r=>have:=hc c (by simp);omega
  subst this;rw[YZ];rfl
 |m+1,i,acc,free,cs,hat,hg,hc,hl=>by
  rw[YcN,YcX];by_cases hi':i∈cs
  .cases cs with
   |nil=>simp at hi'
   |cons c r=>
    have hci:c=i:=by
     rcases Yh.mp hi' with z|z
     .exact z.symm
     .have:=hg.ge i z;have:=(hc c (by simp)).1;omega
    subst hci;have h1:=(hat c (Yk _) ()).mpr (by simp);have h2:=(hc c (by simp)).2.2;have hcond:((acc.size<limit/\free<=c)/\c+sub.length<=hi)/\subAt s sub c=true:=⟨⟨⟨(),h2⟩,h1.1⟩,h1.2⟩;have hb:occBody s sub hi limit c (acc,free)=pure (ForInStep.yield (acc.push c,c+sub.length)):=if_pos hcond;rw[hb]
    have ih:=ZjO s sub hi limit w0 m (c+1) (acc.push c) (c+sub.length) r (λj h3 h4=>by
     rw[hat j () ()];constructor
     .intro z;rcases Yh.mp z with z|z
      .omega
      .exact z
     .exact Yo _) hg.tail (λb hb2=>by
     have:=hg.ge b hb2;have:=(hc b (Yo _ hb2)).2.1;omega) (by rw[Array.size_push];simp only[Yi]at hl;omega)
    show(forIn (List.range' (c+1) m) (acc.push c,c+sub.length) (occBody s sub hi limit)).run.fst.toList=_;rw[ih,Array.toList_push,YQ];exact Y3 _ (List.singleton_append)
  .have hn:¬(i+sub.length<=hi/\subAt s sub i=true):=λz=>hi' ((hat i (Yk _) ()).mp z);have hb:occBody s sub hi limit i (acc,free)=pure (ForInStep.yield (acc,free)):=if_neg (λz=>hn ⟨z.1.2,z.2⟩);rw[hb];show(forIn (List.range' (i+1) m) (acc,free) (occBody s sub hi limit)).run.fst.toList=_;refine ZjO s sub hi limit w0 m (i+1) acc free cs (λj h3 h4=>hat j () ()) hg (λb hb2=>?_) hl;have:=hc b hb2;have:b≠i:=λz=>hi' (z▸hb2);omega
end
section
theorem Zht{w:Nat}:∀{a:Nat}{ps:XV},∀c∈cutsAt w a ps,a<=c
 |_,[],c,h=>by simp[cutsAt]at h
 |_,[_],c,h=>by simp[cutsAt]at h
 |a,p::q::r,c,h=>by
  rcases Yh.mp h with rfl|h
  .omega
  .have:=Zht (a:=a+p.length+w) (ps:=q::r) c h;omega
theorem ZjP{w:Nat}:∀{a:Nat}{ps:XV},Gap w (cutsAt w a ps)
 |_,[]=>trivial
 |_,[_]=>trivial
 |a,p::q::r=>by
  have ih:=ZjP (w:=w) (a:=a+p.length+w) (ps:=q::r);show Gap w ((a+p.length)::cutsAt w (a+p.length+w) (q::r));cases e:cutsAt w (a+p.length+w) (q::r)with
  |nil=>trivial
  |cons b s=>
   rw[e]at ih;exact⟨Zht (a:=a+p.length+w) (ps:=q::r) b (by rw[e];simp),ih⟩
theorem ZmD{c:Nat}{y:XJ}(hy:c∉y):∀(ps:XV)(a i:Nat),(∀p∈ps,c∉p)->a<=i->((glueL (c::y) ps)[i-a]?=some c↔i∈cutsAt (y.length+1) a ps)
 |[],a,i,_,_=>by simp[glueL,cutsAt]
 |[p],a,i,h,_=>by
  simp only[glueL,cutsAt,YL,iff_false];intro z;exact h p (by simp) (Yn z)
 |p::q::r,a,i,h,hi=>by
  show(p++(c::y)++glueL (c::y) (q::r))[i-a]?=some c↔i∈(a+p.length)::cutsAt (y.length+1) (a+p.length+(y.length+1)) (q::r);have hp:c∉p:=h p (by simp);by_cases h1:i-a<p.length
  .rw [YQ,YX h1];constructor
   .intro z;exact absurd (Yn z) hp
   .intro z;rcases Yh.mp z with z|z
    .omega
    .have:=Zht (a:=a+p.length+(y.length+1)) i z;omega
  .by_cases h2:i-a<p.length+(y.length+1)
   .rw [YX (by rw[Yc,Yi];exact h2),Yv ()];by_cases h3:i-a-p.length=0
    .rw [h3];constructor
     .intro _;exact Yh.mpr (.inl ())
     .intro _;rfl
    .obtain ⟨k,hk⟩:∃k,i-a-p.length=k+1:=⟨i-a-p.length-1,(Nat.succ_pred h3).symm⟩;rw[hk,Yaz];constructor
     .intro z;exact absurd (Yn z) hy
     .intro z;rcases Yh.mp z with z|z
      .omega
      .have:=Zht (a:=a+p.length+(y.length+1)) i z;omega
   .rw [Yv (by rw[Yc,Yi];omega),Yc,Yi];have ih:=ZmD hy (q::r) (a+p.length+(y.length+1)) i (λs hs=>h s (Yo _ hs)) ();rw[show i-a-(p.length+(y.length+1))=i-(a+p.length+(y.length+1))by omega,ih];constructor
    .exact Yo _
    .intro z;rcases Yh.mp z with z|z
     .omega
     .exact z
theorem ZmE{y:XJ}:∀(ps:XV)(a i:Nat),i∈cutsAt y.length a ps->((glueL y ps).drop (i-a)).take y.length=y/\i-a+y.length<=(glueL y ps).length
 |[],a,i,h=>by simp[cutsAt]at h
 |[p],a,i,h=>by simp[cutsAt]at h
 |p::q::r,a,i,h=>by
  show((p++y++glueL y (q::r)).drop (i-a)).take y.length=y/\i-a+y.length<=(p++y++glueL y (q::r)).length;rcases Yh.mp h with rfl|h
  .rw [show a+p.length-a=p.length by omega,YQ,Yda,Yc6];refine⟨rfl,?_⟩;rw[Yc,Yc];omega
  .have hge:=Zht (a:=a+p.length+y.length) (ps:=q::r) i h;let⟨h1,h2⟩:=ZmE (q::r) (a+p.length+y.length) i h;have e:i-a=(p++y).length+(i-(a+p.length+y.length)):=by obtain ⟨k,hk⟩:=Nat.exists_eq_add_of_le hge;rw[Yc,hk,Nat.add_sub_cancel_left,Nat.add_assoc,Nat.add_assoc,Nat.add_sub_cancel_left,Nat.add_assoc]
   rw[e,List.drop_append,Yb8 (YcM _ _),YaH,Nat.add_sub_cancel_left,h1];refine⟨rfl,?_⟩;rw[Yc (as:=p++y)];omega
theorem ZfL{x:Str}{y:XJ}:∀(ps:XV)(a:Nat)(pre:XJ),ps≠[]->pre.length=a->x.cps.toList=pre++glueL y ps->partsFrom x y.length a (cutsAt y.length a ps)=ps.map λp=>(⟨p.toArray⟩:Str)
 |[],_,_,h,_,_=>absurd rfl h
 |[p],a,pre,_,ha,hx=>by
  show[strSub x a x.length]=_;have:strSub x a x.length=⟨p.toArray⟩:=by
   apply Str.ext';apply Ybz.mp;have hl:x.length=x.cps.toList.length:=by simp[Str.length]
   rw[strSub_toList,hl,hx];simp only[glueL];rw[<- ha,Yda,Yc];simp
  rw[this];rfl
 |p::q::r,a,pre,_,ha,hx=>by
  show strSub x a (a+p.length)::partsFrom x y.length (a+p.length+y.length) (cutsAt y.length (a+p.length+y.length) (q::r))=_;have hx2:x.cps.toList=(pre++p++y)++glueL y (q::r):=by
   rw[hx];show pre++(p++y++glueL y (q::r))=_;simp[YQ]
  rw[ZfL (q::r) (a+p.length+y.length) (pre++p++y) (by simp) (by rw[Yc,Yc];omega) hx2];have:strSub x a (a+p.length)=⟨p.toArray⟩:=by
   apply Str.ext';apply Ybz.mp;rw[strSub_toList,hx2,<- ha,YQ,YQ,Yda,show pre.length+p.length-pre.length=p.length by omega,Yc6]
  rw[this];rfl
theorem glue_len{y:XJ}:∀(ps:XV),(cutsAt y.length 0 ps).length*y.length<=(glueL y ps).length/\∀a,(cutsAt y.length a ps).length=(cutsAt y.length 0 ps).length
 |[]=>⟨by simp[cutsAt],λ_=>rfl⟩
 |[p]=>⟨by simp[cutsAt],λ_=>rfl⟩
 |p::q::r=>by
  let⟨h1,h2⟩:=glue_len (y:=y) (q::r);refine⟨?_,λa=>?_⟩
  .show ((0+p.length)::cutsAt y.length (0+p.length+y.length) (q::r)).length*y.length<=(p++y++glueL y (q::r)).length;rw[Yi,h2,Yc,Yc,Ycr];omega
  .show ((a+p.length)::cutsAt y.length (a+p.length+y.length) (q::r)).length=((0+p.length)::cutsAt y.length (0+p.length+y.length) (q::r)).length;rw[Yi,Yi,h2,h2 (0+p.length+y.length)]
noncomputable def mkS(p:XJ):Str:=⟨p.toArray⟩
def ZdU{c:Nat}{y:XJ}{ps:XV}(hn:ps≠[])(hy:c∉y)(hp:∀p∈ps,c∉p)(hk:Builtin.Str.strKind (mkS (c::y))=1):Txt.split (mkS (glueL (c::y) ps)) (mkS (c::y))=ps.map mkS:=by
 have hyl:(mkS (c::y)).length=(c::y).length:=by simp[mkS,Str.length]
 have hxl:(mkS (glueL (c::y) ps)).length=(glueL (c::y) ps).length:=by simp[mkS,Str.length]
 have hxc:(mkS (glueL (c::y) ps)).cps.toList=glueL (c::y) ps:=by simp[mkS]
 have hyc:(mkS (c::y)).cps.toList=c::y:=by simp[mkS]
 have hocc:occurrences (mkS (glueL (c::y) ps)) (mkS (c::y)) 0 (mkS (glueL (c::y) ps)).length ((mkS (glueL (c::y) ps)).length+1)=cutsAt (c::y).length 0 ps:=by
  rw[occ_eq,YaU];have hsub:∀j,(j+(mkS (c::y)).length<=(mkS (glueL (c::y) ps)).length/\subAt (mkS (glueL (c::y) ps)) (mkS (c::y)) j=true)↔j∈cutsAt (c::y).length 0 ps:=λj=>by
   rw[subAt_eq,hxc,hyc,hyl,hxl];constructor
   .rintro ⟨h1,h2⟩;have h3:=eq_of_beq h2;have h4:(glueL (c::y) ps)[j]?=some c:=by
     have h5:(((glueL (c::y) ps).drop j).take (c::y).length)[0]?=some c:=by rw[h3];rfl
     rw[Ycz,if_pos (by simp),YbM,Nat.add_zero]at h5;exact h5
    have:=(ZmD hy ps 0 j hp (YO _)).mp (by rw[YaU];exact h4);exact this
   .intro h1;let⟨h2,h3⟩:=ZmE (y:=c::y) ps 0 j h1;rw[YaU]at h2 h3;exact⟨h3,by rw[h2];exact Yal _⟩
  have hcl:=(glue_len (y:=c::y) ps).1;have hcm:(cutsAt (c::y).length 0 ps).length<=(glueL (c::y) ps).length:=Yj (Nat.le_mul_of_pos_right _ (by simp)) hcl;have:=ZjO (mkS (glueL (c::y) ps)) (mkS (c::y)) (mkS (glueL (c::y) ps)).length ((mkS (glueL (c::y) ps)).length+1) (by rw[hyl];simp) ((mkS (glueL (c::y) ps)).length+1) 0 #[] 0 (cutsAt (c::y).length 0 ps) (λj _ _=>hsub j) (by rw[hyl];exact ZjP) (λd hd=>⟨YO _,by have:=((hsub d).mpr hd).1;omega,YO _⟩) (by rw[hxl];show 0+(cutsAt (c::y).length 0 ps).length<_;omega);rw[this];simp
 have hpb:=ZfL (x:=mkS (glueL (c::y) ps)) (y:=c::y) ps 0 [] hn rfl (by rw[hxc];rfl);have hone:cutsAt (c::y).length 0 ps=[]->ps.map mkS=[mkS (glueL (c::y) ps)]:=λz=>by
  match ps,hn with
  |[p],_=>rfl
  |p::q::r,_=>cases z
 unfold Txt.split;rw[hocc];split
 .rename_i h1;rw[YbJ,Yr,Yr]at h1;rcases h1 with h1|h1
  .refine (hone ?_).symm;have h2:=(glue_len (y:=c::y) ps).1;cases e:cutsAt (c::y).length 0 ps with
   |nil=>rfl
   |cons a r=>
    rw[e,Yi,Ycr]at h2;rw[hyl,hxl]at h1;omega
  .rw [hk]at h1;unfold Builtin.Str.strKind at h1;split at h1
   .omega
   .split at h1<;>omega
 .split
  .rename_i h1 h2;exact(hone (Yb6.mp h2)).symm
  .rw [partsBetween_eq,hyl];exact hpb
def Zdu(y:Str):∀ts:List Str,Txt.join y ts=mkS (glueL y.cps.toList (ts.map λt=>t.cps.toList)):=by
 intro ts;have h:∀(r:XN)(acc:Array Nat),(r.foldl (λa (p:Str)=>a++y.cps++p.cps) acc).toList=glueL y.cps.toList (acc.toList::r.map λt=>t.cps.toList):=by
  intro r;induction r with
  |nil=>intro acc;rfl
  |cons t r ih=>
   intro acc;rw[Yci,ih];cases r with
   |nil=>simp[glueL]
   |cons u r=>simp[glueL,YQ]
 unfold Txt.join glued mkS;cases ts with
 |nil=>rfl
 |cons t r=>
  apply Str.ext';apply Ybz.mp;show((r.foldl (λa (p:Str)=>a++y.cps++p.cps) t.cps)).toList=_;rw[h];rfl
section
variable{X:Cx}{pins:XG}{U:St}{H:Hp}{s:XM}{a:XB}{o:Obj}{kvs:XU}
end
def Zvt{k:Key}{v:XR}{P:XI}{w:XO}(h:(Za2 P w).is k v=true):RelV (kV k) v:=by
 rw[ZiZ]at h;rcases Zbb h with⟨i,t,rfl,rfl⟩|⟨x,t,rfl,rfl⟩
 .exact ⟨t,rfl⟩
 .exact ⟨t,rfl⟩
section
variable{U:St}{H:Hp}{Q:VK}{D:Ends}{td:TE}{g:TG}{tc:TT}{te:TE}{tb:TS}{k:Nat}{a:XB}{o:Obj}{kvs:XU}{p:XB}
end
section
variable{K:Ydg}{U:St}{H:Hp}{D:Ends}{a C dx:XB}{fs:Xl}{f:Str}{i j:Int}
def ZqE{ta tv:TE}{rd:V->V->Hp->VK->Prop}(q:ta U H λx H1=>∃a C dx fs v,x=.ref a/\H1 a=some (.ins C dx fs)/\Cls K C/\NoAttr K C f/\fs.lookup f=some v/\tv U H1 λy H2=>rd v y H2 λz H3=>∃dx' fs',H3 a=some (.ins C dx' fs')/\fs'.length<1000/\D.nx U (upd H3 a (.ins C dx' (putF f z fs')))):ZpI K ta tv rd f D U H:=q
def Zcu{v:V}{R:Addr->Addr->V->Prop}(h:H a=some (.ins C dx fs))(c:Cls K C)(n:NoAttr K C f)(l:fs.lookup f=some v)(q:R a C v):∃a' C dx fs v,V.ref a=.ref a'/\H a'=some (.ins C dx fs)/\Cls K C/\NoAttr K C f/\fs.lookup f=some v/\R a' C v:=⟨a,C,dx,fs,v,rfl,h,c,n,l,q⟩
def Zvu{Q:VK}(q:Q (.int (i+j)) H):rAdd (.int i) (.int j) H Q:=⟨i,j,rfl,rfl,q⟩
def Zvv{Q:VK}(q:Q (.int (i-j)) H):rSub (.int i) (.int j) H Q:=⟨i,j,rfl,rfl,q⟩
end
def rSum(K:Ydg):RC:=λxs H Q=>∃(p:XB)(ns:XD),xs=[.ref p]/\SqL K H p (ns.map V.int)/\Q (.int ns.sum) H
def Zlo{X:Cx}(hc:X.calm=true):CallR X (.builtin "sum") (rSum X.K):=by
 walk_at"V";let⟨p,ns,rfl,hq,q⟩:=h;let⟨u,rfl,rx⟩:=vals1 r;cases rx;let⟨its,rv,pl,hz⟩:=I.list hq;have hi:=ZjN rv;have hl:s.heap.IsList p its.toArray:=pl.isList;let⟨zs,hx⟩:=hi.allInts.items;have hn:numsOf its.toArray.toList=ns:=by rw[show its.toArray.toList=its from rfl,hi.numsOf]
 rw[hx]at hl hn;rw[nums_intItems]at hn;refine sum_intListG (I.ok.hd hc) hl λh' tk t' kp=>?_;rw[preSum_eq,YaB (by simp),hn];exact⟨.int ns.sum,H,I.kept (t':=tk) kp,⟨t',rfl⟩,q⟩
def rd_sum{K:Ydg}{H:Hp}{Q:VK}{p:XB}{ns:XD}(h:SqL K H p (ns.map V.int))(q:Q (.int ns.sum) H):rSum K [.ref p] H Q:=⟨p,ns,rfl,h,q⟩
end
end L2
namespace L2
open PySem PySem.Spec PyProof.Rows PySem.Calls
section
def rInN(K:Ydg):R2:=λx y H Q=>x=.non/\∃p xs,y=.ref p/\SqL K H p xs/\(∀v∈xs,∃t ys,v=.ref t/\SqT K H t ys)/\Q (.bl false) H
theorem Zlp:∀{xs:XF}{us:XH},Vals xs us->∀u∈us,∃x∈xs,RelV x u
 |_,_,.nil,u,hu=>by cases hu
 |x::xs,v::us,.cons r t,u,hu=>by
  rcases Yh.mp hu with rfl|hu
  .exact ⟨x,by simp,r⟩
  .obtain ⟨y,hy,ry⟩:=Zlp t u hu;exact⟨y,by simp[hy],ry⟩
def op_inN{X:Cx}(hu:X.A.units+64<cLine):OpR X (compareOp .In) (rInN X.K):=by
 walk_at"J";let⟨rfl,p,xs,rfl,hq,hx,q⟩:=h;cases rx;cases ry;let⟨its,r,pl,hz⟩:=I.list hq;refine SeqAt.in_listAt (λ_=>false) pl.isList (λw hw=>?_) ⟨.bl _,H,I,rfl,?_⟩
 .obtain ⟨x,hm,rx⟩:=Zlp r w (by simpa using hw);let⟨t,ys,rfl,ht⟩:=hx x hm;cases rx;let⟨its2,r2,pt,_⟩:=I.tuple ht;exact SeqAt.EqAt.tuple_none pt (by have e:X.A.in1.units=X.A.units+1:=rfl;omega)
 .have e:its.toArray.any (λ_=>false)=false:=by simp
  rw[e];exact q
def rd_inN{K:Ydg}{H:Hp}{Q:VK}{p:XB}{xs:XF}(h:SqL K H p xs)(hx:∀v∈xs,∃t ys,v=.ref t/\SqT K H t ys)(q:Q (.bl false) H):rInN K .non (.ref p) H Q:=⟨rfl,p,xs,rfl,h,hx,q⟩
def rNotB:R2:=λx y H Q=>∃a b:Bool,x=.bl a/\y=.bl b/\Q (.bl (!(a==b))) H
def Zvw{X:Cx}:OpR X (compareOp .IsNot) rNotB:=by
 walk_at"J";let⟨a,b,rfl,rfl,q⟩:=h;cases rx;cases ry;cases a<;>cases b<;>exact Yp ⟨.bl _,H,I,rfl,q⟩
def Zvx{H:Hp}{Q:VK}{a b:Bool}(q:Q (.bl (!(a==b))) H):rNotB (.bl a) (.bl b) H Q:=⟨a,b,rfl,rfl,q⟩
section
variable{H:Hp}{Q:VK}{U:St}
end
def Za8{X:Cx}{e c:Option Expr}{pos:Pos}:PS X (.Raise e c pos) (λ_ _ _=>False):=λ_ _ _ _ _ _ h=>h.elim
def rStrA:RC:=λxs H Q=>rStrI xs H Q\/∃z,xs=[.str z]/\Q (.str z) H
def Zvy{X:Cx}:CallR X (.type "str") (λxs H Q=>∃z,xs=[.str z]/\Q (.str z) H):=by
 walk_at"V";let⟨z,rfl,q⟩:=h;let⟨u,rfl,t,rfl⟩:=vals1 r;exact PySem.P.str_of_str ⟨.str _,H,I,⟨_,rfl⟩,q⟩
def ZqF{X:Cx}:CallR X (.type "str") rStrA:=Zb1.or Zvy
section
variable{H:Hp}{Q:VK}{U:St}{K:Ydg}{p a:XB}{xs ys:XF}
def ZmF{z:Str}(q:Q (.str z) H):rStrA [.str z] H Q:=.inr ⟨z,rfl,q⟩
def ZjQ{i:Int}(h:i.natAbs.log2<1920)(q:Q (.str (toString i)) H):rStrA [.int i] H Q:=.inl (Zbq h q)
def Zhu{te:TE}{R:Hp->Prop}(hl:SqT K H a xs)(hp:H p=none)(hn:ys.length=xs.length)(hz:xs.length<=sizeLine)(he:∀(i:Nat)(x y:V)(H':Hp)(Q:VK),xs[i]?=some x->ys[i]?=some y->Same H H'->Q y H'->te (some x::U) H' Q)(fin:R (upd H p (.lst ys))) :
  tLoopC 1 (gName 0) tNoIf te (Itt K a) p R U H:=by
 refine⟨λi m U' H'=>m=xs.length-i/\i<=xs.length/\H'=upd H p (.lst (ys.take i))/\∃v,U'=v::U,⟨xs.length,(),YO _,rfl,none,rfl⟩,?_⟩;rintro i m U' H' ⟨rfl,hi,rfl,v,rfl⟩;have hs:SqT K (upd H p (.lst (ys.take i))) a xs:=hl.updN hp;by_cases hlt:i<xs.length
 .refine .inr ⟨⟨xs,xs[i],hs,by simp[hlt]⟩,λU2 H2=>H2=upd H p (.lst (ys.take (i+1)))/\∃v,U2=v::U,λU2 H2 ⟨e,v',e'⟩=>⟨xs.length-(i+1),Nat.sub_lt_sub_left hlt (Nat.lt_succ_self i),rfl,hlt,e,v',e'⟩,λx H1 ⟨e,y⟩=>?_⟩;subst e;have hx:=y xs hs;refine Zeq ?_;simp only[tNoIf,Ybr,Yaj];have hyl:i<ys.length:=();refine he i x ys[i] _ _ hx (by simp[hyl]) (Same.new hp) ?_;refine⟨ys.take i,Zad,?_,?_,some x,rfl⟩
  .rw [YN];omega
  .rw [ZaO,Ym hyl]
 .have e:i=xs.length:=();subst e;refine .inl ⟨⟨xs,hs,Yk _⟩,?_⟩;rw[<- hn,YK];exact fin
end
end
section
theorem KV.at{kvs:XU}{vs:Xo}:KV kvs vs->∀{i:Nat}{p:Key×V},kvs[i]?=some p->∃u,vs[i]?=some (p.1,u)/\RelV p.2 u:=by
 intro h;unfold KV at h;induction h with
 |nil=>intro i p e;simp at e
 |@cons a b as bs ab _ ih=>
  intro i p e;cases i with
  |zero=>
   cases e;refine⟨b.2,?_,ab.2⟩;rw[ab.1];rfl
  |succ i=>exact ih (by simpa using e)
section
variable{U:St}{H:Hp}{Q:VK}{D:Ends}{td:TE}{g:TG}{tb:TS}{a:XB}{o:Obj}{kvs:XU}
end
def rListD:RC:=λxs H Q=>∃d kvs,xs=[.ref d]/\H d=some (.dK kvs)/\∀l,H l=none->Q (.ref l) (upd H l (.lst (kvs.map λp=>kV p.1)))
def ZsL{X:Cx}(hc:X.calm=true):CallR X (.type "list") rListD:=by
 walk_at"V";let⟨d,kvs,rfl,hd,q⟩:=h;let⟨u,rfl,rx⟩:=vals1 r;cases rx;let⟨hz,lo,vs,hkv,hD⟩:=ZoF I.hok hd;let⟨ep,hat⟩:=hD.dictAt;have hvl:vs.length=kvs.length:=hkv.length.symm;refine PySem.W.kdl_call (PySem.W.kdl_dict (knd:=Za2 X.prog X.w) (kvs:=vs) (ep:=ep) lo) (I.ok.hd hc) hat () λh' tk acc c kp hS ok=>?_;refine⟨.ref s.heap.objs.size,_,I.laid (t':=tk) kp (Yk _) (show ObjOk X.prog X.w _ h' _ (.lst (kvs.map λp=>kV p.1))from⟨by rw[Ya];exact hz,acc.toList,c,?_,hS⟩),rfl,q _ (I.hok.fresh (Yk _))⟩;have hl:(kvs.map λp=>kV p.1).length=acc.toList.length:=by
  have h1:=ok.1;have h2:acc.toList.length=acc.size:=Yae;have h3:(kvs.map λp=>kV p.1).length=kvs.length:=Ya ..;omega
 have gen:∀(xs:XF)(us:XH),xs.length=us.length->(∀(j:Nat)(x:V)(u:XR),xs[j]?=some x->us[j]?=some u->RelV x u)->Vals xs us:=by
  intro xs;induction xs with
  |nil=>
   intro us h _;cases us with
   |nil=>exact .nil
   |cons u us=>simp at h
  |cons x xs ih=>
   intro us h g;cases us with
   |nil=>simp at h
   |cons u us=>exact .cons (g 0 x u rfl rfl) (ih us (by simpa using h) λj x u h1 h2=>g (j+1) x u (by simpa using h1) (by simpa using h2))
 refine gen _ _ hl λj x u h1 h2=>?_;let⟨key,y,e1,e2⟩:=ok.2 j u (by rw[<- YaY];exact h2);rw[Yb]at h1;let⟨p,hp,rfl⟩:=Yu.mp h1;let⟨z,e3,_⟩:=hkv.at hp;rw[e1]at e3;cases e3;exact Zvt e2
section
variable{U:St}{H:Hp}{Q:VK}
def ZsM{d:XB}{kvs:XU}(h:H d=some (.dK kvs))(q:∀l,H l=none->Q (.ref l) (upd H l (.lst (kvs.map λp=>kV p.1)))):rListD [.ref d] H Q:=⟨d,kvs,rfl,h,q⟩
end
end
section
section
variable{M:Model}{A:XY}{E:XE}{s:XM}{base:XT}{env:Env}{outer:Xk}{L e:XB}{Q:Unit->Shared->Prop}
end
section
variable{X:Cx}{pins:XG}{U:St}{H':Hp}{s':XM}{h':XT}{a:XB}{cls:XR}{ch:Xa}
end
end
section
section
variable{X:Cx}{pins pins':XG}{U U':St}{H:Hp}{s:XM}{E:XK}
end
section
variable{X:Cx}{pins pins':XG}{U:St}{H:Hp}{s s':XM}{E:XK}{e:XR}
end
end
section
end
section
def ZmG:typeLookup (.type "list_reverseiterator") "__length_hint__"=pure (some (.builtin "list_reverseiterator.__length_hint__")):=by
 rw[Ycw,YbE]
 kernel_rfl
def Zvz:typeLookup (.type "list_reverseiterator") "__len__"=pure none:=by
 rw[Ycw,YbE]
 kernel_rfl
section
variable{prog:XI}{w:XO}{A:XY}{E:XE}{s:XM}{r:XB}
def ZsN{Q:Xs}(hT:s.TypeIs (.ref r) "list_reverseiterator")(h:Q false s):wpAny (model prog w) A (Builtin.List.listLengthHint (.ref r)) Q E s:=by
 unfold Builtin.List.listLengthHint;refine Yg (Ycu hT Zvz ?_);dsimp only;refine Ya7 nofun (λ_=>?_);refine Ya7 nofun (λ_=>?_);refine Yg (Ycu hT ZmG ?_);generalize hid:("list_reverseiterator.__length_hint__": String)=id0
 wp_delta
 rw[show splitId id0=some ("list_reverseiterator","__length_hint__")from by subst hid;decide +kernel];subst hid;refine Yg (wpAny_isInstance (T:="list_reverseiterator") (b:=true) hT (by rw[YcD];kernel_rfl) ?_);refine Ya7 nofun (λ_=>?_);refine Ya7 (λ_=>?_) (λhab=>absurd (by decide +kernel) hab);refine Ya7 nofun (λ_=>?_);exact Yp h
def ZjR{l:XB}{items:Xc}{Q:XE}(hh:A.handled=none)(hit:s.heap.IsRevIter r l ((items.size:Int)-1))(hl:s.heap.IsList l items)(hlr:l≠r)(hn:items.size<=sizeLine)(hQ:∀h' tk acc c,(∀b o,b≠r->s.heap.get? b=some o->h'.get? b=some o)->h'.get? s.heap.objs.size=some {cls:=.type "list",dict:=none,data:=.seq acc c,slots:=#[]}->ItemsOf (λi v=>items[items.size-1-i]?=some v) acc items.size->Q (.ref s.heap.objs.size) {s with heap:=h',toks:=tk}):wpAny (model prog w) A (call (.type "list") [.ref r]) Q E s:=by
 refine callType_codes (Q₁:=λobj s₁=>s₁={s with heap:=s.heap.push {cls:=.type "list",data:=.seq #[]}}/\obj=.ref s.heap.objs.size) PySem.F.called_list (PySem.F.typeCall_list_1 _) PySem.F.entry_list_init (code_list_new _ ⟨rfl,rfl⟩) ?_;rintro obj s₁ ⟨rfl,rfl⟩;have hS:(s.heap.push {cls:=.type "list",data:=.seq #[]}).get? s.heap.objs.size=some {cls:=.type "list",data:=.seq #[]}:=YJ _ rfl;have rlt:r<s.heap.objs.size:=by let⟨o,e,_⟩:=hit;exact YE e
 have llt:l<s.heap.objs.size:=by let⟨o,e,_⟩:=hl;exact YE e
 generalize hz:s.heap.objs.size=S at hS rlt llt hQ |-;have hSr:S≠r:=YbK rlt;have hSl:S≠l:=YbK llt;refine⟨⟨_,hS,rfl⟩,PySem.F.args_list_init_2 _ _,?_⟩;have up1:∀b o,s.heap.get? b=some o->(s.heap.push {cls:=.type "list",data:=.seq #[]}).get? b=some o:=λb o e=>Yl _ e;generalize s.heap.push {cls:=.type "list",data:=.seq #[]}=h1 at hS up1 |-;show wpAny _ _ (Builtin.List.listItems (.ref S) >>=λold=>Builtin.List.listUpdate (.ref S) (λ_=>#[]) >>=λ_=>letGo old.toList.reverse >>=λ_=>Builtin.List.listExtendWith (.ref S) (.ref r) .none) _ _ _;unfold Builtin.List.listItems;refine Yg (Yg (wpAny_seqItems hS rfl (Yp ?_)));refine Yg (wpAny_updateSeq hS rfl ?_);have hS2:=Yay (Obj.mapSeq (λ_=>(#[]:Xc))) hS rfl;have up2:∀b o,b≠S->h1.get? b=some o->(h1.update S (Obj.mapSeq (λ_=>(#[]:Xc)))).get? b=some o:=λb o hb e=>by
  rw[Yct _ _ (YR hb)];exact e
 generalize h1.update S (Obj.mapSeq (λ_=>(#[]:Xc)))=h2 at hS2 up2 |-;refine Yg (wpAny_letGo ?_);have it2:h2.IsRevIter r l ((items.size:Int)-1):=hit.at λo e=>up2 _ _ (YR hSr) (up1 _ _ e);have l2:h2.IsList l items:=hl.at λo e=>up2 _ _ (YR hSl) (up1 _ _ e);have ty2:({s with heap:=h2}:XM).TypeIs (.ref r) "list_reverseiterator":=Heap.IsRevIter.typeIs (s:={s with heap:=h2}) it2;unfold Builtin.List.listExtendWith;refine Yg (wpAny_typeOf ty2 ?_);have ns:Builtin.List.listSameRef (.ref S) (.ref r)=false:=by simp[Builtin.List.listSameRef,hSr]
 rw[ns];refine Ya7 nofun (λ_=>?_);refine Yg (wpAny_pyIter_revIter (s:={s with heap:=h2}) it2 ?_);refine Yg (YaG (ZsN ty2 ?_));refine Ya7 nofun (λ_=>?_);have W:=λB:Around=>λ(hB:B.handled=none)=>Walks.listRev (prog:=prog) (w:=w) (A:=B) hB r l hlr items;have e0:(items.size:Int)-1-((0:Nat):Int)=(items.size:Int)-1:=();refine Yp ⟨YcR PySem.F.plain_extend_loop _,codeAny_extend_loopS (W A.in1.in1 hh).toS hn S ?_ .none items.size 0 _ #[] _ rfl (YO _) ⟨YO _,by rw[e0];exact it2,l2⟩ hS2 (ItemsOf.nil _) λs' acc c mv hS' ok=>?_⟩
 .simp [hSr,hSl]
 .rw [Moved.eq_with mv];refine⟨rfl,hQ s'.heap s'.toks acc c (λb o hb e=>?_) hS' ok⟩;have hbS:b≠S:=by rw[<- hz];exact YW (YE e)
  exact mv.heap b o (by simp[hb,hbS]) (up2 b o hbS (up1 b o e))
end
def ZnJ(K:Ydg)(ta:TA):TE:=λU H Q=>ta U H λvs H1=>∃b xs,vs=[.ref b]/\SqL K H1 b xs/\∀l,H1 l=none->Q (.ref l) (upd H1 l (.lst xs.reverse))
def ZoO{K:Ydg}{ta:TA}{U:St}{H:Hp}{Q:VK}(q:ta U H λvs H1=>∃b xs,vs=[.ref b]/\SqL K H1 b xs/\∀l,H1 l=none->Q (.ref l) (upd H1 l (.lst xs.reverse))):ZnJ K ta U H Q:=q
theorem ZqG:∀(xs:XF)(us:XH),xs.length=us.length->(∀(j:Nat)(x:V)(u:XR),xs[j]?=some x->us[j]?=some u->RelV x u)->Vals xs us
 |[],[],_,_=>.nil
 |[],_::_,h,_=>by simp at h
 |_::_,[],h,_=>by simp at h
 |x::xs,u::us,h,g=>.cons (g 0 x u rfl rfl) (ZqG xs us (by simpa using h) λj y v h1 h2=>g (j+1) y v (by simpa using h1) (by simpa using h2))
def ZoP{X:Cx}{a:Xi}{ta:TA}{p p2 pos pos2:Pos}(hc:X.calm=true)(hgl:Gl X "list")(hml:X.mg "list"=none)(hgr:Gl X "reversed")(hmr:X.mg "reversed"=none)(ha:PA X [a] ta)(hs:starEach [a] X.env=[(false,eval a X.env)]:=by rfl)(hs2:starEach [.Call (.Name "reversed" p2) [a] [] pos2] X.env=[(false,eval (.Call (.Name "reversed" p2) [a] [] pos2) X.env)]:=by rfl):PE X (.Call (.Name "list" p) [.Call (.Name "reversed" p2) [a] [] pos2] [] pos) (ZnJ X.K ta):=by
 walk_at"I";refine Call_ (Zf3 I hgl hml boot_list (Yai (PyProof.Rows.spliced_more (Call_ (Zf3 I hgr hmr boot_reversed (Yai (thn (ha pos2 pins s U H _ I h) λus s1 hzq=>?_) hs rfl))) hs2) hs2 rfl));let⟨vs,H1,I1,r1,q1⟩:=hzq;let⟨l,xs,e,hq,q⟩:=q1;subst e;cases r1 with
 |cons r rr=>
  cases rr;cases r;let⟨its,rv,pl,hz⟩:=I1.list hq;refine call_reversed_list pl.isList ?_;have en:its.toArray.size=xs.length:=by rw[Yx,rv.length]
  have st:(s1.heap.push (revObj l ((its.toArray.size:Int)-1))).IsRevIter s1.heap.objs.size l ((its.toArray.size:Int)-1):=⟨_,YJ _ rfl,rfl,rfl⟩;have llt:l<s1.heap.objs.size:=by let⟨_,e,_⟩:=pl.isList;exact YE e
  refine PyProof.Rows.spliced_none ?_;refine ZjR (s:={s1 with heap:=s1.heap.push (revObj l ((its.toArray.size:Int)-1))}) (I1.ok.hd hc) st (pl.isList.at λo e=>Yl _ e) (YW llt) (by rw[en];exact hz) λh' tk acc c kp hS ok=>?_;have ge:s1.heap.objs.size<=(s1.heap.push (revObj l ((its.toArray.size:Int)-1))).objs.size:=by rw[YbC];exact Yaq _
  refine⟨.ref _,_,I1.laid (t':=tk) (h':=h') (o:=.lst xs.reverse) (λb u e=>kp b u (YW (YE e)) (Yl _ e)) ge ?_,rfl,q _ (I1.hok.fresh ge)⟩;refine⟨by rw[YaL];exact hz,acc.toList,c,ZqG _ _ ?_ λj x u h1 h2=>?_,hS⟩
  .have k1:=ok.1;have k2:acc.toList.length=acc.size:=Yae;have k3:xs.reverse.length=xs.length:=YaL;omega
  .have h3:=ok.2 j u (by rw[<- YaY];exact h2);have hj:j<xs.length:=by
    have:=(Yf.mp h1).1;rwa[YaL]at this
   rw[List.getElem?_reverse hj]at h1;rw[en]at h3;let⟨v,hv,rr⟩:=rv.get h1;have h4:its[xs.length-1-j]?=some u:=by simpa using h3
   rw[hv]at h4;cases h4;exact rr
end
end L2
namespace L2
open PySem PySem.Spec PySem.Calls PyProof.Rows
section
end
section
section
variable{X:Cx}{pins:XG}{U:St}{H:Hp}{s:XM}
end
section
variable{prog:XI}{w:XO}{A:XY}{E:XE}{K:Ydg}{h:XT}{g:Array GenState}{d:Drawn}{t:Nat}{os:OsState}{x C:XB}{ox:Obj}
end
section
variable{K:Ydg}{x C:XB}
end
end
end L2
namespace L2
open PySem PySem.Spec PyProof.Rows PySem.Calls
section
section
variable{M:Model}{A:XY}{E:XE}{s:XM}{base:XT}{env:Env}{outer:Xk}{L e T:XB}{cls v:XR}{Q:Unit->Shared->Prop}
end
end
section
section
variable{X:Cx}{own:XN}{scope:Scope}{cl:List (Str×Addr)}{C:XB}{s₀:XM}{H₀:Hp}{ex:Xa}{xe':XE}{pins:XG}{U:St}{H:Hp}{s:XM}
end
end
section
section
variable{prog:XI}{w:XO}{A:XY}{R:Result->Shared->Prop}{it:XB}{fp wr:Xa}{n:Nat}{Pv:Nat->Value->Prop}{St:Nat->Heap->Prop}{val:Nat->Int}{dv:XR}
end
section
variable{prog:XI}{w:XO}{A:XY}{E:XE}{s:XM}
end
end
section
section
variable{X:Cx}{pins pins':XG}{U U':St}{H:Hp}{s:XM}{E:XK}
end
end
end L2
namespace L2
open PySem PySem.Builtin PySem.Builtin.Str PySem.StrLaws
def ZmH{c:Nat}{y:XJ}{ps:XV}(hn:ps≠[])(hcut:∀j,((glueL (c::y) ps).drop j).take (c::y).length=c::y->j∈cutsAt (c::y).length 0 ps)(hk:Builtin.Str.strKind (mkS (c::y))=1):Txt.split (mkS (glueL (c::y) ps)) (mkS (c::y))=ps.map mkS:=by
 have hyl:(mkS (c::y)).length=(c::y).length:=by simp[mkS,Str.length]
 have hxl:(mkS (glueL (c::y) ps)).length=(glueL (c::y) ps).length:=by simp[mkS,Str.length]
 have hxc:(mkS (glueL (c::y) ps)).cps.toList=glueL (c::y) ps:=by simp[mkS]
 have hyc:(mkS (c::y)).cps.toList=c::y:=by simp[mkS]
 have hocc:occurrences (mkS (glueL (c::y) ps)) (mkS (c::y)) 0 (mkS (glueL (c::y) ps)).length ((mkS (glueL (c::y) ps)).length+1)=cutsAt (c::y).length 0 ps:=by
  rw[occ_eq,YaU];have hsub:∀j,(j+(mkS (c::y)).length<=(mkS (glueL (c::y) ps)).length/\subAt (mkS (glueL (c::y) ps)) (mkS (c::y)) j=true)↔j∈cutsAt (c::y).length 0 ps:=λj=>by
   rw[subAt_eq,hxc,hyc,hyl,hxl];constructor
   .rintro ⟨_,h2⟩;exact hcut j (eq_of_beq h2)
   .intro h1;let⟨h2,h3⟩:=ZmE (y:=c::y) ps 0 j h1;rw[YaU]at h2 h3;exact⟨h3,by rw[h2];exact Yal _⟩
  have hcl:=(glue_len (y:=c::y) ps).1;have hcm:(cutsAt (c::y).length 0 ps).length<=(glueL (c::y) ps).length:=Yj (Nat.le_mul_of_pos_right _ (by simp)) hcl;have:=ZjO (mkS (glueL (c::y) ps)) (mkS (c::y)) (mkS (glueL (c::y) ps)).length ((mkS (glueL (c::y) ps)).length+1) (by rw[hyl];simp) ((mkS (glueL (c::y) ps)).length+1) 0 #[] 0 (cutsAt (c::y).length 0 ps) (λj _ _=>hsub j) (by rw[hyl];exact ZjP) (λd hd=>⟨YO _,by have:=((hsub d).mpr hd).1;omega,YO _⟩) (by rw[hxl];show 0+(cutsAt (c::y).length 0 ps).length<_;omega);rw[this];simp
 have hpb:=ZfL (x:=mkS (glueL (c::y) ps)) (y:=c::y) ps 0 [] hn rfl (by rw[hxc];rfl);have hone:cutsAt (c::y).length 0 ps=[]->ps.map mkS=[mkS (glueL (c::y) ps)]:=λz=>by
  match ps,hn with
  |[p],_=>rfl
  |p::q::r,_=>cases z
 unfold Txt.split;rw[hocc];split
 .rename_i h1;rw[YbJ,Yr,Yr]at h1;rcases h1 with h1|h1
  .refine (hone ?_).symm;have h2:=(glue_len (y:=c::y) ps).1;cases e:cutsAt (c::y).length 0 ps with
   |nil=>rfl
   |cons a r=>
    rw[e,Yi,Ycr]at h2;rw[hyl,hxl]at h1;omega
  .rw [hk]at h1;unfold Builtin.Str.strKind at h1;split at h1
   .omega
   .split at h1<;>omega
 .split
  .rename_i h1 h2;exact(hone (Yb6.mp h2)).symm
  .rw [partsBetween_eq,hyl];exact hpb
end L2
namespace L2
open PySem PySem.Spec PyProof.Rows PySem.Calls
end L2
namespace L2
open PySem PySem.Spec PyProof.Rows PySem.Calls PySem.W
section
def ZoQ:∀j:Fin 16,hashInt (j.val:Int)=(j.val:Int):=by decide +kernel
def ZfM:Slot "set_iterator" "__next__" "set_iterator.__next__":=Slot.of (owner:="set_iterator") (n:="__next__") (by rw[Ycw,YbE];kernel_rfl) (by decide +kernel) (by decide +kernel) (by decide +kernel) (by first|exact .inl (by decide +kernel)|exact .inr (by decide +kernel)) (by rw[YcD];kernel_rfl)
def ZqH:Slot "set_iterator" "__iter__" "set_iterator.__iter__":=Slot.of (owner:="set_iterator") (n:="__iter__") (by rw[Ycw,YbE];kernel_rfl) (by decide +kernel) (by decide +kernel) (by decide +kernel) (by first|exact .inl (by decide +kernel)|exact .inr (by decide +kernel)) (by rw[YcD];kernel_rfl)
def ZnK:entryFor table "set_iterator.__next__"=some Builtin.«set_iterator.__next__»:=entryFor_of_tree (by kernel_rfl)
def ZqI:entryFor table "set_iterator.__iter__"=some Builtin.«dict_keyiterator.__iter__»:=entryFor_alias (id':="dict_keyiterator.__iter__") (by kernel_rfl) rfl (by decide +kernel) (by kernel_rfl)
def ZoR:entryFor table "set.__iter__"=some Builtin.«frozenset.__iter__»:=entryFor_alias (id':="frozenset.__iter__") (by kernel_rfl) rfl (by decide +kernel) (by kernel_rfl)
def ZnL:Manifest.owners.lookup (String.ofList ['r','o','t','a','r','e','t','i','_','t','e','s'].reverse)=some Manifest.sig_set_iterator:=by kernel_rfl
def ZqJ(a:XR):argsOk "set_iterator.__next__" ⟨[a],[]⟩:=by
 unfold argsOk;rw[signature?_of (id:="set_iterator.__next__") (n:=['_','_','t','x','e','n','_','_']) (o:=['r','o','t','a','r','e','t','i','_','t','e','s']) (by kernel_rfl) ZnL];kernel_rfl
def ZsO(a:XR):argsOk "set_iterator.__iter__" ⟨[a],[]⟩:=by
 unfold argsOk;rw[signature?_of (id:="set_iterator.__iter__") (n:=['_','_','r','e','t','i','_','_']) (o:=['r','o','t','a','r','e','t','i','_','t','e','s']) (by kernel_rfl) ZnL];kernel_rfl
def Zbw{M:Model}{A:XY}{E:XE}{s:XM}{α:Type}{c:Prop} [Decidable c] {t e:Sem α} {Q:α->Shared->Prop} (h1:c->wpAny M A t Q E s) (h2:¬c->wpAny M A e Q E s):wpAny M A (if c then t else e) Q E s:=by
 by_cases h:c
 .rw [if_pos h];exact h1 h
 .rw [if_neg h];exact h2 h
noncomputable def byT(w:XO):Bool:=w.params.followText "set-order"
noncomputable def tabOf(w:XO)(pl:XJ):SetTable:=⟨7,pl.toArray,#[],0,!byT w,0,true⟩
noncomputable def setObj(w:XO)(es:XX)(ep:Nat)(pl:XJ):Obj:={cls:=.type "set",dict:=none,data:=.set es.toArray ep (tabOf w pl)}
noncomputable def siObj(d:XB)(n ep sl i:Nat):Obj:={cls:=.type "set_iterator",data:=.fields #[.int (sl:Int) 0,.int (i:Int) 0,.ref d,.int (n:Int) 0,.int (ep:Int) 0]}
noncomputable def slotAt(w:XO)(pl:XJ)(i:Nat):Nat:=if byT w then 0 else match i with|0=>0|k+1=>pl.getD k 0+1
section
variable{prog:XI}{w:XO}{A:XY}{E:XE}{s:XM}{d it:XB}{es:XX}{ep:Nat}{pl:XJ}
def ZjS{Q:Xs}(h:Q (byT w) s):wpAny (model prog w) A setsByText Q E s:=Yg (wpAny_askSetting (Yp h))
def ZmI{n sl i:Nat}{Q:XE}(hit:s.heap.get? it=some (siObj d n ep sl i))(h:Q (.ref it) s):wpAny (model prog w) A (pyIter (.ref it)) Q E s:=by
 have hT:s.TypeIs (.ref it) "set_iterator":=⟨_,hit,rfl⟩;refine wpAny_pyIter_slot hT ZqH (YaF ZqH hT ZqI ?_ (ZsO _));show wpAny _ _ (ret (.ref it)) _ _ s;exact Yp ⟨_,rfl,"set_iterator",_,hT,ZfM.lookup,h⟩
end
noncomputable def eI(n:Int)(t:Tok):Int×Value:=(n,.int n t)
def ZnM{n:Int}(h0:0<=n)(h1:n<16):∃j:Fin 16,n=(j.val:Int):=⟨⟨n.toNat,()⟩,by show n=((n.toNat:Nat):Int);omega⟩
def hash16{n:Int}(h0:0<=n)(h1:n<16):hashInt n=n:=by let⟨j,rfl⟩:=ZnM h0 h1;exact ZoQ j
section
variable{prog:XI}{w:XO}{A:XY}{E:XE}{s:XM}{d:XB}{a b:Int}{ta tb:Tok}
def ZvB{n:Int}{t:Tok}(h0:0<=n)(h1:n<16):(∃k,(intKind prog w).is k (eI n t).2=true/\(eI n t).1=(intKind prog w).hash k)/\(eI n t).2.scannable=true:=⟨⟨n,intKind_is _ _ _ _,(hash16 h0 h1).symm⟩,rfl⟩
def ZsP(v:XR){Q₁:XE}(h:Q₁ (.ref s.heap.objs.size) {s with heap:=s.heap.push (setObj w [] 0 [])}):codeAny (model prog w) A (.call (.builtin "set.__new__") ⟨[.type "set",v],[]⟩) (wants Q₁ E) s:=by
 refine codeAny_of_tree ?_;show wpAny _ A.in1 (checkBuiltinCall "set.__new__" ⟨[.type "set",v],[]⟩ >>=λ_=>again (.builtin "set.__new__" ⟨[.type "set",v],[]⟩)) _ _ s;refine Yg (Ybo (F.newCall_set_1 v) (Yp ⟨YcR (F.plain_set_new) _,Ybt (F.entry_set_new) ?_⟩));rw[Ybh (F.plain_set_new) (_)];unfold Builtin.«set.__new__»;unfold Builtin.Frozenset.newClass;have hsub:=PySem.sub_set_self;let⟨hp,g,dd,tk,os⟩:=s;dsimp only;wp_walk;refine wpAny_askSetting (Yp (?_));dsimp only;simp only[newObj];refine Yg (wpAny_alloc (Yp (?_)));exact Yp h
end
section
variable{prog:XI}{w:XO}{A:XY}{E:XE}{s:XM}{d:XB}{es:XX}{ep:Nat}{pl:XJ}
def ZsQ{Q:Xs}(hT:s.TypeIs (.ref d) "set")(h:Q false s):wpAny (model prog w) A (Builtin.List.listLengthHint (.ref d)) Q E s:=by
 unfold Builtin.List.listLengthHint;refine Yg (Ycu hT PySem.F.slot_set_len.lookup ?_);generalize hid:("set.__len__": String)=id0
 wp_delta
 rw[show splitId id0=some ("set","__len__")from by subst hid;decide +kernel];subst hid;refine Yg (wpAny_isInstance (T:="set") (b:=true) hT (by rw[YcD];kernel_rfl) ?_);refine Zbw nofun (λ_=>?_);refine Zbw (λ_=>?_) (λhab=>absurd (by decide +kernel) hab);refine Yg (wpAny_typeOf hT ?_);exact Yp h
end
section
variable{K:Ydg}{w:XO}{H:Hp}{Q:VK}{l d:XB}{a b:Int}
end
end
section
def Zhv{l:XJ}(h:l.Pairwise (·<·)){i k a b:Nat}(hik:i<k)(ha:l[i]?=some a)(hb:l[k]?=some b):a<b:=by
 let⟨h1,rfl⟩:=Yf.mp ha;let⟨h2,rfl⟩:=Yf.mp hb;exact YbQ.mp h i k h1 h2 hik
def sRa{f lo hi:Nat}(h:hi-lo<=f+1)(l:lo<hi):hi-((lo+hi)/2+1)<=f:=by
 rw[Nat.sub_add_eq];refine Nat.sub_le_of_le_add (Nat.le_trans (Nat.sub_le_sub_left ((Nat.le_div_iff_mul_le (by decide)).2 ?_) hi) h);rw[Nat.mul_two];exact Nat.add_le_add_left (Nat.le_of_lt l) _
def sRb{f lo hi:Nat}(h:hi-lo<=f+1):(lo+hi)/2-lo<=f:=Nat.sub_le_of_le_add (Nat.le_of_lt_succ ((Nat.div_lt_iff_lt_mul (by decide)).2 (Nat.mul_two _▸Nat.add_lt_add_of_lt_of_le (Nat.lt_succ_of_le (Nat.le_add_left _ _)) (Nat.le_trans (Nat.le_add_of_sub_le h) (Nat.le_of_eq (Nat.add_right_comm _ _ _))))))
def ZsR{l:XJ}(j:Nat)(hr:l.Pairwise (·<·)):∀(fuel lo hi:Nat),hi-lo<=fuel->lo<=hi->hi<=l.length->(∀i v,i<lo->l[i]?=some v->v<j)->(∀i v,hi<=i->l[i]?=some v->j<=v)->
  SetTable.below.go l.toArray j fuel lo hi<=l.length/\(∀i v,i<SetTable.below.go l.toArray j fuel lo hi->l[i]?=some v->v<j)/\∀i v,SetTable.below.go l.toArray j fuel lo hi<=i->l[i]?=some v->j<=v:=by
 intro fuel;induction fuel with
 |zero=>
  intro lo hi hf hlh hs h1 h2;have e:lo=hi:=();subst e;unfold SetTable.below.go;exact⟨hs,h1,h2⟩
 |succ fuel ih=>
  intro lo hi hf hlh hs h1 h2;unfold SetTable.below.go;by_cases hlt:lo<hi
  .rw [if_pos hlt];dsimp only;have hm:(lo+hi)/2<l.length:=();have hv:l[(lo+hi)/2]?=some l[(lo+hi)/2]:=Yd hm;have e:l.toArray.getD ((lo+hi)/2) j=l[(lo+hi)/2]:=by simp[Array.getD,hm]
   rw[e];by_cases hc:l[(lo+hi)/2]<j
   .rw [if_pos hc];refine ih _ _ (sRa hf hlt) () hs (λi v hi' hv'=>?_) h2;rcases YaW i ((lo+hi)/2)with hl|hg
    .exact Ybg (Zhv hr hl hv' hv) hc
    .have:i=(lo+hi)/2:=();subst this;rw[hv]at hv';cases hv';exact hc
   .rw [if_neg hc];refine ih _ _ (sRb hf) () () h1 (λi v hi' hv'=>?_);rcases YaW ((lo+hi)/2) i with hl|hg
    .exact Yan (Y4 (Nat.not_lt.mp hc) (Zhv hr hl hv hv'))
    .have:i=(lo+hi)/2:=();subst this;rw[hv]at hv';cases hv';exact Nat.not_lt.mp hc
  .rw [if_neg hlt];have e:lo=hi:=();subst e;exact⟨hs,h1,h2⟩
def Zi5{l:XJ}(hr:l.Pairwise (·<·))(j:Nat):SetTable.below l.toArray j<=l.length/\(∀i v,i<SetTable.below l.toArray j->l[i]?=some v->v<j)/\∀i v,SetTable.below l.toArray j<=i->l[i]?=some v->j<=v:=by
 unfold SetTable.below
 exact ZsR j hr _ _ _ (by simp) (YO _) (by simp) (λi v h=>absurd h (YcS _)) (λi v h e=>by
  have:=(Yf.mp e).1;have h:l.length<=i:=by simpa using h
  omega)
def ZnN{l:XJ}(hr:l.Pairwise (·<·)){j i:Nat}(hi:i<=l.length)(h1:∀k v,k<i->l[k]?=some v->v<j)(h2:∀k v,i<=k->l[k]?=some v->j<=v):SetTable.below l.toArray j=i:=by
 let⟨a,b,c⟩:=Zi5 hr j;rcases Nat.lt_trichotomy (SetTable.below l.toArray j) i with h|h|h
 .have hl:SetTable.below l.toArray j<l.length:=();have e:=Yd hl;have:=h1 _ _ h e;have:=c _ _ (Yk _) e;omega
 .exact h
 .have hl:i<l.length:=();have e:=Yd hl;have:=b _ _ h e;have:=h2 _ _ (Yk _) e;omega
def ZnO{α:Type}(xs:List α)(p:Nat)(x:α):SetTable.insertAt xs.toArray p x=(xs.take p++x::xs.drop p).toArray:=by
 apply Ybz.mp;simp[SetTable.insertAt];exact YaB (by rw[Yaw];exact Yk _)
def ZsS{l:XJ}(hr:l.Pairwise (·<·)){j:Nat}(hj:j∉l):(l.take (SetTable.below l.toArray j)++j::l.drop (SetTable.below l.toArray j)).Pairwise (·<·):=by
 let⟨a,b,c⟩:=Zi5 hr j;generalize SetTable.below l.toArray j=p at a b c;refine List.pairwise_append.mpr ⟨hr.sublist (List.take_sublist _ _),YaD.mpr ⟨λv hv=>?_,hr.sublist (List.drop_sublist _ _)⟩,λu hu v hv=>?_⟩
 .obtain ⟨i,hi⟩:=Ycg.mp hv;rw[YbM]at hi;have:=c _ _ (YcM _ _) hi;rcases Nat.lt_or_eq_of_le this with h|h
  .exact h
  .exact absurd (by rw[h];exact Yn hi) hj
 .obtain ⟨i,hi⟩:=Ycg.mp hu;have hip:i<p:=by
   have:=(Yf.mp hi).1;rw[YN]at this;omega
  rw[Ycz,if_pos hip]at hi;have h1:=b _ _ hip hi;rcases Yh.mp hv with rfl|hv
  .exact h1
  .obtain ⟨k,hk⟩:=Ycg.mp hv;rw[YbM]at hk;have:=c _ _ (YcM _ _) hk;omega
def ZsT{α:Type}{l:List α}{i:Nat}(hi:i<l.length):(l[i]::l.eraseIdx i).Perm l:=by
 have e:l=l.take i++l[i]::l.drop (i+1):=by rw[<- Ydb hi,Yce]
 rw[List.eraseIdx_eq_take_drop_succ];exact(List.perm_middle.symm).trans (by rw[<- e])
def ZvC{α:Type}(nx:Nat->Nat):∀(fuel k:Nat)(left:List α)(out:Array α),left.length=fuel->(pickOrder.go nx fuel k left out).toList.Perm (out.toList++left):=by
 intro fuel;induction fuel with
 |zero=>
  intro k left out h;have:left=[]:=Yax h;subst this;unfold pickOrder.go;simp
 |succ fuel ih=>
  intro k left out h;unfold pickOrder.go;have hi:nx k%left.length<left.length:=Nat.mod_lt _ ();rw[Yd hi];dsimp only;refine(ih _ _ _ (by rw[List.length_eraseIdx,if_pos hi];omega)).trans ?_;rw[Array.toList_push,YQ];exact List.Perm.append_left _ (ZsT hi)
def ZoS{α:Type}(nx:Nat->Nat)(xs:List α):(pickOrder nx xs.toArray).toList.Perm xs:=by
 unfold pickOrder;exact(ZvC nx _ 0 xs #[] (by simp)).trans (by simp)
def ZsU{l:XJ}(hr:l.Pairwise (·<·)):∀(i v:Nat),l[i]?=some v->i<=v:=by
 intro i;induction i with
 |zero=>intro v _;exact YO _
 |succ i ih=>
  intro v hv;have hl:=(Yf.mp hv).1;have e:=Yd (show i<l.length by omega);have:=ih _ e;have:=Zhv hr (YaC i) e hv;omega
def ZqK{l:XJ}(hr:l.Pairwise (·<·)){n:Nat}(h:∀v∈l,v<n):l.length<=n:=by
 cases hl:l.length with
 |zero=>exact YO _
 |succ k=>
  have e:=Yd (show k<l.length by omega);have h1:=ZsU hr _ _ e;have h2:=h _ (Yn e);omega
noncomputable def subsN:List Nat->List (List Nat)
 |[]=>[[]]
 |a::l=>subsN l++(subsN l).map (a::·)
def ZsV{pl l:XJ}(h:pl.Sublist l):pl∈subsN l:=by
 induction h with
 |slnil=>exact Ye.mpr rfl
 |cons a _ ih=>exact Ycm _ ih
 |cons_cons a _ ih=>exact Y5 _ (YF.mpr ⟨_,ih,rfl⟩)
theorem Zhw:∀(m k:Nat)(pl:XJ),pl.Pairwise (·<·)->(∀p∈pl,k<=p/\p<k+m)->pl.Sublist (List.range' k m)
 |0,k,pl,_,h=>by
  cases pl with
  |nil=>exact .slnil
  |cons p r=>have:=h p (.head _);omega
 |m+1,k,pl,hr,h=>by
  rw[YcN];cases pl with
  |nil=>exact List.nil_sublist _
  |cons p r=>
   rw[YaD]at hr;by_cases e:p=k
   .subst e;exact(Zhw m (p+1) r hr.2 λq hq=>by have:=hr.1 q hq;have:=h q (.tail _ hq);omega).cons_cons _
   .exact (Zhw m (k+1) (p::r) (YaD.mpr hr) λq hq=>by
     have h1:=h p (.head _);rcases Yh.mp hq with rfl|hq
     .omega
     .have:=hr.1 q hq;have:=h q (.tail _ hq);omega).cons _
def ZqL:∀pl∈subsN (List.range' 0 8),pl.length<=4->∀n:Fin 16,∀led:Bool,((⟨7,pl.toArray,#[],0,led,0,true⟩:SetTable).freeSlot (n.val:Int)).any (λp=>decide (p.1<8)&&!pl.contains p.1&&!p.2)=true:=by decide +kernel
def free7{pl:XJ}(hr:pl.Pairwise (·<·))(h8:∀p∈pl,p<8)(hl:pl.length<=4){n:Int}(h0:0<=n)(h1:n<16)(led:Bool):∃j,(⟨7,pl.toArray,#[],0,led,0,true⟩:SetTable).freeSlot n=some (j,false)/\j<8/\j∉pl:=by
 let⟨k,rfl⟩:=ZnM h0 h1;have f:=ZqL pl (ZsV (Zhw 8 0 pl hr λp hp=>⟨YO _,by have:=h8 p hp;omega⟩)) hl k led;cases hs:(⟨7,pl.toArray,#[],0,led,0,true⟩:SetTable).freeSlot (k.val:Int)with
 |none=>rw[hs]at f;cases f
 |some q=>
  let⟨j,b⟩:=q;rw[hs]at f;have f:(decide (j<8)&&!pl.contains j&&!b)=true:=f;rw[Yq,Yq,Yr,Ya2,Ya2]at f;let⟨⟨f1,f2⟩,rfl⟩:=f;exact⟨j,rfl,f1,λz=>by rw[List.contains_iff_mem.mpr z]at f2;cases f2⟩
end
section
def ZvD{α:Type} [DecidableEq α] {l₁ l₂:List α} (h1:l₁.Nodup) (h2:l₂.Nodup) (h:∀x,x∈l₁↔x∈l₂):l₁.Perm l₂:=by
 refine List.perm_iff_count.mpr λa=>?_;rw[List.Nodup.count h1,List.Nodup.count h2];by_cases q:a∈l₁
 .rw [if_pos q,if_pos ((h a).mp q)]
 .rw [if_neg q,if_neg (λz=>q ((h a).mpr z))]
def idx_at{hs:XD}(hn:hs.Nodup){k:Nat}{h:Int}(e:hs[k]?=some h):hs.findIdx? (λx=>x==h)=some k:=by
 let⟨hk,he⟩:=Yf.mp e;refine Ybm.mpr ⟨hk,by simp[he],λj hj=>?_⟩;have hjl:j<hs.length:=Ybg hj hk;intro z;have z:hs[j]=h:=by simpa using z
 have:=(List.getElem?_inj hjl hn).mp ((Yd hjl).trans (by rw[z,e]));omega
def idx_of{hs:XD}{k:Nat}{h:Int}(e:hs.findIdx? (λx=>x==h)=some k):hs[k]?=some h:=by
 let⟨hk,hp,_⟩:=Ybm.mp e;have hp:hs[k]=h:=by simpa using hp
 rw[Yd hk,hp]
def ZqM{t:SetTable}{pl:XJ}(ht:t.place=pl.toArray)(hd:t.dummies=#[]){j:Nat}(hj:j∉pl):t.slot j=.empty:=by
 unfold SetTable.slot;dsimp only;rw[ht,hd];have h1:¬((pl.toArray[SetTable.below pl.toArray j]?==some j)=true):=λz=>by
  have z:pl.toArray[SetTable.below pl.toArray j]?=some j:=by simpa using z
  rw[Yar]at z;exact hj (Yn z)
 rw[if_neg h1];rfl
def bits16:∀k:Fin 16,SetTable.bits (k.val:Int)=k.val:=by decide +kernel
def free31{pl:XJ}{n:Int}(h0:0<=n)(h1:n<16)(hn:n.toNat∉pl)(led:Bool):(⟨31,pl.toArray,#[],0,led,1,true⟩:SetTable).freeSlot n=some (n.toNat,false):=by
 let⟨k,rfl⟩:=ZnM h0 h1;have hk:(k.val:Int).toNat=k.val:=Yt _;rw[hk]at hn |-;have hb:=bits16 k;have hm:SetTable.bits (k.val:Int)%32=k.val:=by rw[hb];exact Nat.mod_eq_of_lt (by have:=k.isLt;omega)
 unfold SetTable.freeSlot SetTable.probe;have e:SetTable.probeStart (⟨31,pl.toArray,#[],0,led,1,true⟩:SetTable) (k.val:Int)={j:=k.val,more:=SetTable.runEnd 31 k.val-k.val,i:=k.val,perturb:=k.val,dummy:=none}:=by
  unfold SetTable.probeStart;dsimp only;rw[show(31+1:Nat)=32 from rfl,hm,hb]
 rw[e,show 10*SetTable.turns (⟨31,pl.toArray,#[],0,led,1,true⟩:SetTable).mask=459+1 from rfl];unfold SetTable.probe.go;dsimp only;rw[ZqM (pl:=pl) rfl rfl hn];rfl
noncomputable def ownA(hs:XD):Array (Option Nat):=((List.range 32).map λ(j:Nat)=>hs.findIdx? λh=>h==(j:Int)).toArray
def ZnP{hs:XD}{j:Nat}(hj:j<32):(ownA hs)[j]?=some (hs.findIdx? λh=>h==(j:Int)):=by
 unfold ownA;rw[Yar,Yb,Y0 hj];rfl
def ZvE:ownA []=Array.replicate 32 none:=by decide +kernel
def ZsW{ps:XD}{h:Int}(h0:0<=h)(h1:h<16)(hn:h∉ps):(ownA ps).setIfInBounds h.toNat (some ps.length)=ownA (ps++[h]):=by
 apply Array.ext_getElem?;intro j;have hsz:(ownA ps).size=32:=by simp[ownA]
 rw[Array.getElem?_setIfInBounds];by_cases hj:j<32
 .rw [ZnP (hs:=ps++[h]) hj];by_cases e:h.toNat=j
  .rw [if_pos e,if_pos (by rw[hsz];omega)];have ej:(j:Int)=h:=();rw[ej,List.findIdx?_append];have:ps.findIdx? (λx=>x==h)=none:=by
    rw[Ya9];intro x hx;simp;intro z;exact hn (z▸hx)
   rw[this];simp
  .rw [if_neg e,ZnP (hs:=ps) hj,List.findIdx?_append];have:([h]:XD).findIdx? (λx=>x==(j:Int))=none:=by
    rw[Ya9];intro x hx;rw[Ye.mp hx];simp;omega
   rw[this];cases ps.findIdx? λx=>x==(j:Int)<;>rfl
 .rw [if_neg ()];have h2:(ownA (ps++[h])).size=32:=by simp[ownA]
  rw[Array.getElem?_eq_none (),Array.getElem?_eq_none ()]
def ZsX{ps:XD}{i pert:Nat}(hi:i<16)(hn:(i:Int)∉ps):SetTable.layClean.free 31 (ownA ps) (SetTable.turns 31) i pert=some i:=by
 rw[show SetTable.turns 31=45+1 from rfl];unfold SetTable.layClean.free;have hr:SetTable.runEnd 31 i+1-i=10:=by unfold SetTable.runEnd;rw[if_pos ()];omega
 rw[hr];have h0:((ownA ps).getD (i+0) (some 0)).isNone=true:=by
  have e:=ZnP (hs:=ps) (j:=i) ();rw[YcZ,Nat.add_zero,e];have:ps.findIdx? (λx=>x==(i:Int))=none:=by
   rw[Ya9];intro x hx;simp;intro z;exact hn (z▸hx)
  rw[this];rfl
 have:(List.range 10).find? (λk=>((ownA ps).getD (i+k) (some 0)).isNone)=some 0:=by
  rw[show List.range 10=0::[1,2,3,4,5,6,7,8,9]from rfl,YaI,h0]
 rw[this];rfl
theorem ZnQ:∀(rest ps:XD),(ps++rest).Nodup->(∀h∈rest,0<=h/\h<16)->
  rest.foldl (λacc h=>do
   let(owner,k)<- acc;let j<- SetTable.layClean.free 31 owner (SetTable.turns 31) (SetTable.bits h%(31+1)) (SetTable.bits h)
   pure (owner.setIfInBounds j (some k),k+1)) (some (ownA ps,ps.length))=some (ownA (ps++rest),(ps++rest).length)
 |[],ps,_,_=>by simp
 |h::rest,ps,hn,hb=>by
  have hh:=hb h (.head _);have hnp:h∉ps:=λz=>(List.nodup_append.mp hn).2.2 h z h (.head _) rfl;let⟨k,rfl⟩:=ZnM hh.1 hh.2;have hbit:=bits16 k;have hm:SetTable.bits (k.val:Int)%(31+1)=k.val:=by rw[hbit];exact Nat.mod_eq_of_lt (by have:=k.isLt;omega)
  rw[Yci]
  have step:(do
   let(owner,k')<- some (ownA ps,ps.length);let j<- SetTable.layClean.free 31 owner (SetTable.turns 31) (SetTable.bits (k.val:Int)%(31+1)) (SetTable.bits (k.val:Int))
   pure (owner.setIfInBounds j (some k'),k'+1))=some (ownA (ps++[(k.val:Int)]),(ps++[(k.val:Int)]).length):=by
   show(SetTable.layClean.free 31 (ownA ps) (SetTable.turns 31) (SetTable.bits (k.val:Int)%(31+1)) (SetTable.bits (k.val:Int))).bind _=_;rw[hm,ZsX k.isLt hnp];have e:=ZsW hh.1 hh.2 hnp;rw[Yt]at e;show some ((ownA ps).setIfInBounds k.val (some ps.length),ps.length+1)=_;rw[e,Yc];rfl
  rw[step,ZnQ rest (ps++[(k.val:Int)]) (by rw[YQ];exact hn) (λx hx=>hb x (.tail _ hx)),YQ];rfl
def ZqN{hs:XD}(hn:hs.Nodup)(hb:∀h∈hs,0<=h/\h<16):SetTable.layClean 31 hs.toArray=some (ownA hs):=by
 unfold SetTable.layClean;rw[<- Array.foldl_toList];have e:=ZnQ hs [] hn hb;rw[ZvE]at e;show Option.map (·.1) (hs.foldl _ (some (Array.replicate (31+1) none,0)))=_;exact(Y3 (Option.map (·.1)) e)
noncomputable def liveL(hs:XD):List (Nat×Nat):=(List.range 32).filterMap λ(j:Nat)=>(hs.findIdx? λh=>h==(j:Int)).map (j,·)
theorem ZnR{α β:Type}{f g:α->Option β}:∀{l:List α},(∀x∈l,f x=g x)->l.filterMap f=l.filterMap g
 |[],_=>rfl
 |a::l,h=>by rw[YaM,YaM,h a (.head _),ZnR λx hx=>h x (.tail _ hx)]
def ZsY(hs:XD):((List.range 32).filterMap λj=>((ownA hs).getD j none).map (j,·))=liveL hs:=by
 unfold liveL;refine ZnR λj hj=>?_;have hj:=Y6.mp hj;rw[YcZ,ZnP hj];rfl
def ZgX{hs:XD}{p:Nat×Nat}(h:p∈liveL hs):p.1<32/\hs[p.2]?=some (p.1:Int):=by
 let⟨j,hj,e⟩:=YbL.mp h;let⟨k,hk,rfl⟩:=Yu.mp e;exact⟨Y6.mp hj,idx_of hk⟩
def ZsZ{hs:XD}(hn:hs.Nodup)(hb:∀h∈hs,0<=h/\h<16){k:Nat}{h:Int}(e:hs[k]?=some h):(h.toNat,k)∈liveL hs:=by
 have hh:=hb h (Yn e);refine YbL.mpr ⟨h.toNat,Y6.mpr (),?_⟩;rw[show((h.toNat:Nat):Int)=h by omega,idx_at hn e];rfl
def Zlq(hs:XD):(liveL hs).Pairwise λa b=>a.1<b.1:=by
 unfold liveL;refine List.Pairwise.filterMap _ (λa a' haa b hb b' hb'=>?_) List.pairwise_lt_range;let⟨k,_,rfl⟩:=Yu.mp hb;let⟨k',_,rfl⟩:=Yu.mp hb';exact haa
def ZoT{hs:XD}(hn:hs.Nodup)(hb:∀h∈hs,0<=h/\h<16):((liveL hs).map (·.2)).Perm (List.range hs.length):=by
 refine ZvD ?_ Ybx λx=>?_
 .rw [List.nodup_iff_pairwise_ne,YbX];refine(Zlq hs).imp_of_mem λ{a b} ha hb' hlt e=>?_;have h1:=(ZgX ha).2;have h2:=(ZgX hb').2;rw[e,h2]at h1;have:(b.1:Int)=a.1:=Y2 h1;omega
 .rw [Y6];constructor
  .intro h;let⟨p,hp,rfl⟩:=YF.mp h;exact(Yf.mp (ZgX hp).2).1
  .intro h;exact YF.mpr ⟨_,ZsZ hn hb (Yd h),rfl⟩
def Zs0{hs:XD}(hn:hs.Nodup)(hb:∀h∈hs,0<=h/\h<16)(f mv:Nat)(led plain:Bool):SetTable.laid 31 f mv led plain hs.toArray=some (⟨31,((liveL hs).map (·.1)).toArray,#[],f,led,mv,plain⟩,((liveL hs).map (·.2)).toArray):=by
 unfold SetTable.laid;rw[ZqN hn hb];show some (_,_)=_;rw[show(31+1:Nat)=32 from rfl,ZsY]
theorem ZnS{es:XX}:∀{L:List (Nat×Nat)},(∀p∈L,∃e,es[p.2]?=some e/\e.1.toNat=p.1)->((L.map (·.2)).filterMap λk=>es[k]?).map (λe=>e.1.toNat)=L.map (·.1)
 |[],_=>rfl
 |p::L,h=>by
  let⟨e,h1,h2⟩:=h p (.head _);rw[Yz,YaM,h1];show e.1.toNat::_=p.1::_;rw[h2,ZnS λq hq=>h q (.tail _ hq)]
def ZvF{es:XX}(hn:(es.map (·.1)).Nodup)(hb:∀e∈es,0<=e.1/\e.1<16)(h5:es.length=5)(pl:XJ)(led:Bool) :
  ∃es2:List (Int×Value),relayAll ⟨7,pl.toArray,#[],0,led,0,true⟩ es.toArray 20=(es2.toArray,⟨31,(es2.map λe=>e.1.toNat).toArray,#[],0,led,1,true⟩,false)/\es2.Perm es/\(es2.map λe=>e.1.toNat).Pairwise (·<·):=by
 have hb':∀h∈es.map (·.1),0<=h/\h<16:=λh hh=>by
  let⟨e,he,rfl⟩:=YF.mp hh;exact hb e he
 have hlm:=ZnS (es:=es) (L:=liveL (es.map (·.1))) λp hp=>by
  have h:=(ZgX hp).2;rw[Yb]at h;let⟨e,h1,h2⟩:=Yu.mp h;exact⟨e,h1,by rw[h2];exact Yt _⟩
 have hord:=ZoT hn hb';have hlen:(liveL (es.map (·.1))).length=5:=by
  have:=hord.length_eq;rw[Ya,Yaa,Ya]at this;omega
 have hl2:(((liveL (es.map (·.1))).map (·.2)).filterMap λk=>es[k]?).length=5:=by
  have:=Y3 List.length hlm;rw[Ya,Ya]at this;omega
 have hp:=relayAll_perm ⟨7,pl.toArray,#[],0,led,0,true⟩ es.toArray 20;have e:relayAll ⟨7,pl.toArray,#[],0,led,0,true⟩ es.toArray 20=((((liveL (es.map (·.1))).map (·.2)).filterMap λk=>es[k]?).toArray,⟨31,((liveL (es.map (·.1))).map (·.1)).toArray,#[],0,led,1,true⟩,false):=by
  unfold relayAll SetTable.relaid;rw[show SetTable.sizeAbove 20-1=31 by decide +kernel,show(SetTable.movedTo ⟨7,pl.toArray,#[],0,led,0,true⟩ 31)=1 from rfl,List.map_toArray];dsimp only;rw[Zs0 hn hb'];dsimp only;have he:(((liveL (es.map (·.1))).map (·.2)).toArray.filterMap λk=>es.toArray[k]?)=(((liveL (es.map (·.1))).map (·.2)).filterMap λk=>es[k]?).toArray:=by
   simp
  rw[he];have hc:coversAll ((liveL (es.map (·.1))).map (·.2)).toArray es.toArray.size=true:=by
   unfold coversAll;refine List.isPerm_iff.mpr ?_;have:=hord;rw[Ya]at this;simpa using this
  have hf:(⟨31,((liveL (es.map (·.1))).map (·.1)).toArray,#[],0,led,1,true⟩:SetTable).fits (((liveL (es.map (·.1))).map (·.2)).filterMap λk=>es[k]?).toArray.size=true:=by
   unfold SetTable.fits SetTable.fill;dsimp only;simp only[Yx,Ya,hlen,hl2];decide
  rw[hc,hf];rfl
 rw[e]at hp;refine⟨_,by rw[e,hlm],by simpa using hp,?_⟩;rw[hlm,YbX];exact Zlq _
end
section
noncomputable def tabG(w:XO)(m mv:Nat)(pl:XJ):SetTable:=⟨m,pl.toArray,#[],0,!byT w,mv,true⟩
noncomputable def objG(w:XO)(es:XX)(ep m mv:Nat)(pl:XJ):Obj:={cls:=.type "set",dict:=none,data:=.set es.toArray ep (tabG w m mv pl)}
structure SetG(w:XO)(h:XT)(d:XB)(es:XX)(ep m mv:Nat)(pl:XJ):Prop where
 ob:h.get? d=some (objG w es ep m mv pl)
 sz:pl.length=es.length
 up:pl.Pairwise (·<·)
 el:∀e∈es,∃n t,e=eI n t/\0<=n/\n<16
 nd:(es.map (·.1)).Nodup
 tb:(m=7/\mv=0/\es.length<=4/\∀p∈pl,p<8)\/(m=31/\mv=1/\pl=es.map λe=>e.1.toNat)
def SetG.few{w:XO}{h:XT}{d:XB}{es:XX}{ep m mv:Nat}{pl:XJ}(S:SetG w h d es ep m mv pl):es.length<=16:=by
 rcases S.tb with⟨_,_,h,_⟩|⟨_,_,h⟩
 .omega
 .rw [<- S.sz];refine ZqK S.up λv hv=>?_;rw[h]at hv;let⟨e,he,rfl⟩:=YF.mp hv;let⟨n,t,rfl,h0,h1⟩:=S.el e he;show n.toNat<16;omega
def SetG.fits{w:XO}{h:XT}{d:XB}{es:XX}{ep m mv:Nat}{pl:XJ}(S:SetG w h d es ep m mv pl):(tabG w m mv pl).fits es.toArray.size=true:=by
 have h1:=S.sz;have h2:=S.few;have h3:pl.length<=m:=by
  rcases S.tb with⟨rfl,_,h,_⟩|⟨rfl,_,_⟩<;>omega
 simp[SetTable.fits,SetTable.fill,tabG,h1];omega
def SetG.keep{w:XO}{h h':XT}{d:XB}{es:XX}{ep m mv:Nat}{pl:XJ}(S:SetG w h d es ep m mv pl)(k:∀o,h.get? d=some o->h'.get? d=some o):SetG w h' d es ep m mv pl:=⟨k _ S.ob,S.sz,S.up,S.el,S.nd,S.tb⟩
def SetG.els{prog:XI}{w:XO}{h:XT}{d:XB}{es:XX}{ep m mv:Nat}{pl:XJ}(S:SetG w h d es ep m mv pl):ElemsOf (intKind prog w) es:=λe he=>by
 let⟨n,t,rfl,h0,h1⟩:=S.el e he;exact ZvB h0 h1
noncomputable def ordG(w:XO)(d:XB)(ep:Nat)(es:XX):List (Int×Value):=if byT w then(pickOrder (w.params.setOrder d ep) es.toArray).toList else es
def ZeY{w:XO}{d:XB}{ep:Nat}{es:XX}:(ordG w d ep es).Perm es:=by
 unfold ordG;split
 .exact ZoS _ es
 .exact .refl _
section
variable{prog:XI}{w:XO}{A:XY}{E:XE}{s:XM}{d it:XB}{es:XX}{ep m mv:Nat}{pl:XJ}
def ZbO{Q:(Array (Int×Value)×Nat×SetTable)->Shared->Prop}(S:SetG w s.heap d es ep m mv pl)(h:Q (es.toArray,ep,tabG w m mv pl) s):wpAny (model prog w) A (setState d) Q E s:=wpAny_setState_of S.ob rfl S.fits h
def ZoU{Q:Xs}(S:SetG w s.heap d es ep m mv pl)(h:Q false s):wpAny (model prog w) A (setDrawn d) Q E s:=by
 unfold setDrawn;refine Yg (ZbO S ?_);refine Yg (ZjS ?_);have key:∀(b c:Bool),c=false->Q (!b&&c) s:=λb c hc=>by subst hc;rw[Yco];exact h
 exact Yp (key _ _ rfl)
def ZqO{Q:Array (Int×Value)->Shared->Prop}(S:SetG w s.heap d es ep m mv pl)(hb:byT w=true)(h:Q (ordG w d ep es).toArray s):wpAny (model prog w) A (setWalk d) Q E s:=by
 unfold setWalk;refine Yg (ZbO S ?_);refine Yg (ZjS ?_);rw[hb];dsimp only;refine Zbw (λ_=>?_) (λz=>absurd rfl z);refine Yg (wpAny_askSetting (Yp ?_));unfold ordG at h;rw[if_pos hb]at h;exact h
def ZoV(hr:pl.Pairwise (·<·)):∀i,i<=pl.length->SetTable.below pl.toArray (match i with|0=>0|k+1=>pl.getD k 0+1)=i
 |0,_=>ZnN hr (YO _) (λ_ _ h=>absurd h (YcS _)) (λ_ _ _ _=>YO _)
 |k+1,hi=>by
  have e:=Yd (show k<pl.length from hi);have eg:pl.getD k 0=pl[k]:=by rw[YB,e];rfl
  refine ZnN hr hi (λj v hj hv=>?_) (λj v hj hv=>?_)
  .show v<pl.getD k 0+1;rw[eg];rcases YaW j k with h|h
   .have:=Zhv hr h hv e;omega
   .have:j=k:=();subst this;rw[e]at hv;cases hv;exact YaC _
  .show pl.getD k 0+1<=v;rw[eg];have:=Zhv hr (show k<j by omega) e hv;omega
def Zlr{Q:Option (Value×Nat)->Shared->Prop}(S:SetG w s.heap d es ep m mv pl){i:Nat}(hi:i<=es.length)(h:Q ((ordG w d ep es)[i]?.map λe=>(e.2,slotAt w pl (i+1))) s):wpAny (model prog w) A (setNext d (slotAt w pl i) i ep) Q E s:=by
 unfold setNext;refine Yg (ZbO S ?_);refine Yg (ZjS ?_);cases hb:byT w with
 |true=>
  refine Zbw (λ_=>?_) (λz=>absurd rfl z);dsimp only;refine Zbw (λz=>absurd z (by simp)) (λ_=>?_);refine Yg (ZqO S hb (Yp ?_));rw[Yar];have e:∀j,slotAt w pl j=0:=λj=>by unfold slotAt;rw[if_pos hb]
  rw[e]at h |-;exact h
 |false=>
  refine Zbw nofun (λ_=>?_);dsimp only;refine Zbw (λz=>absurd z (show ¬((false:Bool)=true)from YC)) (λ_=>?_);have ht:tabG w m mv pl=⟨m,pl.toArray,#[],0,true,mv,true⟩:=by unfold tabG;rw[hb];rfl
  rw[ht];refine Yg (Ybo (a:=⟨⟩) rfl (Yp ?_));have hbel:SetTable.below pl.toArray (slotAt w pl i)=i:=by
   unfold slotAt;rw[hb];exact ZoV S.up i (by rw[S.sz];exact hi)
  dsimp only;rw[hbel,Yar,Yar];unfold ordG at h;rw[hb,if_neg YC]at h;rcases YaW i es.length with hlt|hge
  .have h1:=Yd hlt;have h2:=Yd (show i<pl.length by rw[S.sz];exact hlt);rw[h1]at h |-;rw[h2];have e:slotAt w pl (i+1)=pl[i]'(by rw[S.sz];exact hlt)+1:=by
    unfold slotAt;rw[hb,if_neg YC];show pl.getD i 0+1=_;rw[YB,h2];rfl
   rw[e]at h;exact h
  .have h1:=Yas hge;rw[h1]at h |-;exact h
def ZqP{Q:XE}(S:SetG w s.heap d es ep m mv pl)(hQ:Q (.ref s.heap.objs.size) {s with heap:=s.heap.push (siObj d es.length ep (slotAt w pl 0) 0)}):wpAny (model prog w) A (pyIter (.ref d)) Q E s:=by
 have hT:s.TypeIs (.ref d) "set":=⟨_,S.ob,rfl⟩;refine wpAny_pyIter_slot hT F.slot_set_iter (YaF F.slot_set_iter hT ZoR ?_ (F.args_set_iter_1 _));unfold Builtin.«frozenset.__iter__»;refine Yg (Ybo (a:=d) rfl ?_);refine Yg (Yg (Yg (ZbO S (Yp (Yp ?_)))));refine Yg (ZoU S ?_);dsimp only;refine Zbw (λz=>absurd z YC) (λ_=>?_);refine Yg (Yp ?_);refine Yg (Yg (ZbO S (Yp ?_)));refine Yg (Yav (Yp ⟨_,rfl,"set_iterator",_,⟨_,YJ _ rfl,rfl⟩,ZfM.lookup,?_⟩));have e0:slotAt w pl 0=0:=by unfold slotAt;split<;>rfl
 unfold siObj at hQ;rw[e0]at hQ;simpa[rawInt]using hQ
def Zs1{i:Nat}{x:Int×Value}{Q:Option Value->Shared->Prop}(S:SetG w s.heap d es ep m mv pl)(hit:s.heap.get? it=some (siObj d es.length ep (slotAt w pl i) i))(hx:(ordG w d ep es)[i]?=some x)(hQ:∀h',h'.get? it=some (siObj d es.length ep (slotAt w pl (i+1)) (i+1))->Heap.SameBut it s.heap h'->Q (some x.2) {s with heap:=h'}):wpAny (model prog w) A (pyNext (.ref it)) Q E s:=by
 have hT:s.TypeIs (.ref it) "set_iterator":=⟨_,hit,rfl⟩;have hi:i<=es.length:=by
  have h1:=(Yf.mp hx).1;have h2:=(ZeY (w:=w) (d:=d) (ep:=ep) (es:=es)).length_eq;omega
 unfold pyNext;refine Yg (wpAny_attempt (Yck (name:=Str.ofString "__next__") hT ZfM (YaF ZfM hT ZnK ?_ (ZqJ _))));unfold Builtin.«set_iterator.__next__»;refine Yg (Ybo (a:=(.ref it,[])) rfl ?_);refine Yg (wpAny_fieldsOf hit rfl ?_);dsimp only;refine Yg (Yg (ZbO S (Yp ?_)));refine Zbw (λz=>absurd z (by simp)) (λ_=>?_);simp only[Yt];refine Yg (Zlr S hi ?_);rw[hx];dsimp only[Option.map];refine Yg (wpAny_setField hit rfl (show 0<5 by decide) ?_);have g1:(s.heap.update it (Obj.mapFields (·.setIfInBounds 0 (rawInt ((slotAt w pl (i+1):Nat):Int))))).get? it=some (siObj d es.length ep (slotAt w pl (i+1)) i):=Yay _ hit rfl;have b1:Heap.SameBut it s.heap (s.heap.update it (Obj.mapFields (·.setIfInBounds 0 (rawInt ((slotAt w pl (i+1):Nat):Int))))):=YaR ..;generalize s.heap.update it _=h1 at g1 b1 |-;refine Yg (wpAny_setField (s:={s with heap:=h1}) g1 rfl (show 1<5 by decide) ?_);have g2:(h1.update it (Obj.mapFields (·.setIfInBounds 1 (rawInt ((i:Int)+1))))).get? it=some (siObj d es.length ep (slotAt w pl (i+1)) (i+1)):=Yay _ g1 rfl;exact Yp ⟨_,rfl,Yp (hQ _ g2 (b1.trans (YaR ..)))⟩
def ZvG{Q:Option Value->Shared->Prop}(hh:A.handled=none)(S:SetG w s.heap d es ep m mv pl)(hit:s.heap.get? it=some (siObj d es.length ep (slotAt w pl es.length) es.length))(hQ:∀h',Heap.ExtBut it s.heap h'->Q none {s with heap:=h'}):wpAny (model prog w) A (pyNext (.ref it)) Q E s:=by
 have hT:s.TypeIs (.ref it) "set_iterator":=⟨_,hit,rfl⟩;have hx:(ordG w d ep es)[es.length]?=none:=Yas (by rw[(ZeY (w:=w) (d:=d) (ep:=ep)).length_eq];exact Yk _);unfold pyNext;refine Yg (wpAny_attempt (Yck (name:=Str.ofString "__next__") hT ZfM (YaF ZfM hT ZnK ?_ (ZqJ _))));unfold Builtin.«set_iterator.__next__»;refine Yg (Ybo (a:=(.ref it,[])) rfl ?_);refine Yg (wpAny_fieldsOf hit rfl ?_);dsimp only;refine Yg (Yg (ZbO S (Yp ?_)));refine Zbw (λz=>absurd z (by simp)) (λ_=>?_);simp only[Yt];refine Yg (Zlr S (Yk _) ?_);rw[hx];dsimp only[Option.map];refine Yg (wpAny_setField hit rfl (show 2<5 by decide) ?_);refine Yg ?_;simp only[newExc,newTuple];refine Yg (Yav ?_ (by size_fits));refine Yg (m:=firstArgMember _ _) (Ybo (a:=Value.none) (by first|rfl|(simp only[firstArgMember];rfl)) ?_);refine Yav ?_ (by size_fits);simp only[raiseNew];refine Yg (wpAny_handled ?_);rw[show A.in1.handled=none from hh];refine Yg (Yp (wpAny_throw ?_));refine Yg (wpAny_isInstance (T:="StopIteration") (b:=true) ⟨_,YJ _ rfl,rfl⟩ isSubtype_stop ?_);exact Yp (hQ _ (((YaR ..).extBut.push _).push _))
def ZoW(hh:A.handled=none)(I:XB)(hne:d≠I):Walks prog w A I [I,d] [I] es.length (λi v=>∃x,(ordG w d ep es)[i]?=some x/\v=x.2) (λi h=>h.get? I=some (siObj d es.length ep (slotAt w pl i) i)/\SetG w h d es ep m mv pl) where
 sub:=λb hb=>by simp at hb;simp[hb]
 frame:=λ_ _ _ st hk=>⟨hk I (by simp) _ st.1,st.2.keep λo e=>hk d (by simp) o e⟩
 item:=λi s Q E hi st hQ=>by
  obtain⟨x,hx⟩:∃x,(ordG w d ep es)[i]?=some x:=⟨(ordG w d ep es)[i]'(by rw[ZeY.length_eq];exact hi),Yd _⟩;refine Zs1 st.2 st.1 hx λh' g2 b2=>?_;exact hQ x.2 h' s.toks ⟨x,hx,rfl⟩ ⟨g2,st.2.keep λo e=>b2.extBut d o hne e⟩ λb o hb e=>b2.extBut b o (λz=>hb (by simp[z])) e
 done:=λs Q E st hQ=>ZvG hh st.2 st.1 λh' x=>hQ h' s.toks λb o hb e=>x b o (λz=>hb (by simp[z])) e
 self:=λi s Q E st hQ=>ZmI st.1 hQ
end
end
section
def layG{w:XO}{m mv:Nat}{pl:XJ}{es:XX}{n:Int}{j:Nat}(hf:(tabG w m mv pl).freeSlot n=some (j,false))(hsz:pl.length=es.length)(hm:es.length+1<=m)(x:XR) :
  layNew (tabG w m mv pl) es.toArray n x=((es.take (SetTable.below pl.toArray j)++(n,x)::es.drop (SetTable.below pl.toArray j)).toArray,tabG w m mv (pl.take (SetTable.below pl.toArray j)++j::pl.drop (SetTable.below pl.toArray j)),false,false):=by
 unfold layNew;rw[hf];dsimp only;have hp:(tabG w m mv pl).put j=(tabG w m mv (pl.take (SetTable.below pl.toArray j)++j::pl.drop (SetTable.below pl.toArray j)),SetTable.below pl.toArray j):=by
  unfold SetTable.put tabG;dsimp only;rw[ZnO,if_neg (by show ¬(SetTable.has #[] j=true);simp[SetTable.has])]
 rw[hp];dsimp only;rw[ZnO];have hfit:(tabG w m mv (pl.take (SetTable.below pl.toArray j)++j::pl.drop (SetTable.below pl.toArray j))).fits (es.take (SetTable.below pl.toArray j)++(n,x)::es.drop (SetTable.below pl.toArray j)).toArray.size=true:=by
  unfold SetTable.fits SetTable.fill tabG;simp only[Yx,Yc,YN,Yi,Yaw,Yq,Ya0,Yr];constructor
  .omega
  .show _+0<=m;rw[Nat.add_zero,<- Nat.add_assoc,Nat.add_comm (min _ _),Nat.min_comm,Nat.sub_add_min_cancel,hsz];exact hm
 rw[hfit];unfold SetTable.orStandIn;rw[if_pos hfit];rfl
def ZnT{α:Type}(l:List α)(p:Nat)(x:α):(l.take p++x::l.drop p).Perm (x::l):=by
 refine List.perm_middle.trans ?_;rw[Yce]
section
variable{prog:XI}{w:XO}{A:XY}{E:XE}{s:XM}{d:XB}{es:XX}{ep m mv:Nat}{pl:XJ}{n:Int}{t:Tok}
def addG{Q:Xs}(S:SetG w s.heap d es ep m mv pl)(h0:0<=n)(h1:n<16)(h:∀r h' es' ep' m' mv' pl',Heap.SameBut d s.heap h'->SetG w h' d es' ep' m' mv' pl'->(∀k,k∈es'.map (·.1)↔k=n\/k∈es.map (·.1))->Q r {s with heap:=h'}):wpAny (model prog w) A (setAddHashed d (.int n t) n) Q E s:=by
 have hb:es.toArray.size<scanBound:=by
  have e:es.toArray.size=es.length:=by simp
  have:=S.few;unfold scanBound;omega
 have hx:=hash16 h0 h1;unfold setAddHashed setAddHashedIn;refine YaG (Yg (ZbO S ?_));dsimp only;rw[byScan_of (knd:=intKind prog w) rfl hb (by simpa using S.els)];simp only[↓reduceIte];unfold setAddByScan;refine Yg ?_;refine Yg (wpAny_rule ?_)
 have sc:=λ(r:ScanMet)(hr:(match es.findIdx? (λe=>(intKind prog w).is n e.2)with|some j=>ScanMet.found (0+j)|none=>ScanMet.absent)=r)=>wpAny_setScan_of (knd:=intKind prog w) (A:=A) (E:=E) (s:=s) (adding:=true) (k:=n) (x:=.int n t) (intKind_is _ _ _ _) S.ob (es:=es.toArray) rfl S.fits (by simpa using S.els) (Q:=λr' s1=>r'=r/\s1=s) (by
  show(match es.toArray.toList.findIdx? (λe=>(intKind prog w).is n e.2)with|some j=>ScanMet.found (0+j)|none=>ScanMet.absent)=r/\s=s;exact⟨hr,rfl⟩)
 have isn:∀e∈es,(intKind prog w).is n e.2=true↔e.1=n:=λe he=>by
  let⟨k,tk,rfl,_,_⟩:=S.el e he;show Value.isInt n (.int k tk)=true↔k=n;simp[Value.isInt]
 cases hq:es.findIdx? (λe=>(intKind prog w).is n e.2)with
 |some j=>
  have sc:=sc (.found (0+j)) (by rw[hq]);rw[show(intKind prog w).hash n=n from hx]at sc;refine Yg (YaZ sc (λr s1 hzq=>?_) λ_ _ z=>z);let⟨e1,e2⟩:=hzq;subst e1;subst e2;refine Yp (Yp ?_);refine h _ s1.heap es ep m mv pl (Heap.SameBut.refl ..) S λk=>⟨.inr,λz=>?_⟩;rcases z with rfl|z
  .obtain ⟨hj,hp,_⟩:=Ybm.mp hq;exact YF.mpr ⟨_,Yad hj,(isn _ (Yad hj)).mp hp⟩
  .exact z
 |none=>
  have hno:n∉es.map (·.1):=λz=>by
   let⟨e,he,hen⟩:=YF.mp z;have:=Ya9.mp hq e he;rw[(isn e he).mpr hen]at this;cases this
  have sc:=sc .absent (by rw[hq]);rw[show(intKind prog w).hash n=n from hx]at sc;refine Yg (YaZ sc (λr s1 hzq=>?_) λ_ _ z=>z);let⟨e1,e2⟩:=hzq;subst e1;subst e2;have hfew:=S.few;obtain⟨j,hf,hj,hm,hjn⟩:∃j,(tabG w m mv pl).freeSlot n=some (j,false)/\(m=7->j<8)/\(m=31->j=n.toNat)/\j∉pl:=by
   rcases S.tb with⟨rfl,rfl,hl,h8⟩|⟨rfl,rfl,hpl⟩
   .obtain ⟨j,f1,f2,f3⟩:=free7 S.up h8 (by rw[S.sz];exact hl) h0 h1 (!byT w);exact⟨j,f1,λ_=>f2,nofun,f3⟩
   .have hn:n.toNat∉pl:=λz=>by
     rw[hpl]at z;let⟨e,he,hen⟩:=YF.mp z;let⟨k,tk,rfl,k0,_⟩:=S.el e he;have hen:k.toNat=n.toNat:=hen;exact hno (YF.mpr ⟨_,he,by show k=n;omega⟩)
    exact⟨n.toNat,free31 h0 h1 hn (!byT w),nofun,λ_=>rfl,hn⟩
  have hle:es.length+1<=m:=by rcases S.tb with⟨rfl,_,hl,_⟩|⟨rfl,_,_⟩<;>omega
  rw[layG hf S.sz hle];dsimp only;have pm:=ZnT es (SetTable.below pl.toArray j) (n,Value.int n t);have up1:=ZsS S.up hjn;have sz1:(pl.take (SetTable.below pl.toArray j)++j::pl.drop (SetTable.below pl.toArray j)).length=(es.take (SetTable.below pl.toArray j)++(n,Value.int n t)::es.drop (SetTable.below pl.toArray j)).length:=by
   have:=S.sz;simp only[Yc,YN,Yi,Yaw];omega
  have mp1:(pl.take (SetTable.below pl.toArray j)++j::pl.drop (SetTable.below pl.toArray j)).Perm (j::pl):=ZnT pl _ j;have tb31:m=31->pl=(es.map λe=>e.1.toNat)->(pl.take (SetTable.below pl.toArray j)++j::pl.drop (SetTable.below pl.toArray j))=(es.take (SetTable.below pl.toArray j)++(n,Value.int n t)::es.drop (SetTable.below pl.toArray j)).map λe=>e.1.toNat:=λz e=>by
   rw[YA,Yz,Yb1,Yb2,<- e,hm z]
  generalize pl.take (SetTable.below pl.toArray j)++j::pl.drop (SetTable.below pl.toArray j)=pl1 at up1 sz1 mp1 tb31 |-;generalize es.take (SetTable.below pl.toArray j)++(n,Value.int n t)::es.drop (SetTable.below pl.toArray j)=es1 at pm sz1 tb31 |-;have hl1:es1.length=es.length+1:=by rw[pm.length_eq];rfl
  have el1:∀e∈es1,∃k tk,e=eI k tk/\0<=k/\k<16:=λe he=>by
   rcases Yh.mp (pm.mem_iff.mp he)with rfl|he
   .exact ⟨n,t,rfl,h0,h1⟩
   .exact S.el e he
  have nd1:(es1.map (·.1)).Nodup:=(pm.map (·.1)).nodup_iff.mpr (YT.mpr ⟨hno,S.nd⟩);have mem1:∀k,k∈es1.map (·.1)↔k=n\/k∈es.map (·.1):=λk=>by rw[(pm.map (·.1)).mem_iff,Yz,Yh]
  have hsz1:es1.toArray.size<=sizeLine:=by
   have e:es1.toArray.size=es1.length:=by simp
   rw[e,YcA];omega
  refine Yg (Ybo (a:=⟨⟩) rfl ?_);refine Zbw (λ_=>?_) (λz=>absurd rfl z);refine Yg (Ybo (a:=true) rfl ?_);simp only[↓reduceIte];by_cases h5:m=7/\es1.length=5
  .have hfull:(tabG w m mv pl1).tooFull=true:=by
    simp[SetTable.tooFull,SetTable.fill,tabG,h5.1,sz1,h5.2]
   have mv0:mv=0:=by rcases S.tb with⟨_,h,_,_⟩|⟨h,_,_⟩<;>omega
   let⟨es2,hrel,pm2,up2⟩:=ZvF nd1 (λe he=>by let⟨k,tk,rfl,a,b⟩:=el1 e he;exact⟨a,b⟩) h5.2 pl1 (!byT w);refine Yg (Yc1 S.ob rfl ?_ hsz1);rw[hfull];refine Zbw (λ_=>?_) (λz=>absurd rfl z);have g1:(s1.heap.update d (Obj.putSet es1.toArray (tabG w m mv pl1))).get? d=some (objG w es1 (ep+1) m mv pl1):=Yay _ S.ob rfl;have b1:Heap.SameBut d s1.heap (s1.heap.update d (Obj.putSet es1.toArray (tabG w m mv pl1))):=YaR ..;generalize s1.heap.update d (Obj.putSet es1.toArray (tabG w m mv pl1))=hp1 at g1 b1 |-;have e5:SetTable.grown es1.toArray.size=20:=by
    have e:es1.toArray.size=5:=by simp[h5.2]
    rw[e];rfl
   have et:tabG w m mv pl1=⟨7,pl1.toArray,#[],0,!byT w,0,true⟩:=by unfold tabG;rw[h5.1,mv0]
   rw[e5,et,hrel];dsimp only;refine Yg (Ybo (a:=⟨⟩) rfl ?_);have hsz2:es2.toArray.size<=sizeLine:=by
    have e:es2.toArray.size=es2.length:=by simp
    rw[e,pm2.length_eq,YcA];omega
   refine Yg (Yc1 (s:={s1 with heap:=hp1}) g1 rfl ?_ hsz2);refine Yp (Yp (h _ _ es2 (ep+1+1) 31 1 (es2.map λe=>e.1.toNat) (b1.trans (YaR ..)) ⟨Yay _ g1 rfl,Ya _,up2,λe he=>el1 e (pm2.mem_iff.mp he),(pm2.map (·.1)).nodup_iff.mpr nd1,.inr ⟨rfl,rfl,rfl⟩⟩ λk=>?_));rw[(pm2.map (·.1)).mem_iff];exact mem1 k
  .have hfull:(tabG w m mv pl1).tooFull=false:=by
    have hl:(m=7/\es1.length<=4)\/(m=31/\es1.length<=17):=by
     rcases S.tb with⟨e,_,hl,_⟩|⟨e,_,_⟩
     .exact .inl ⟨e,by have:¬es1.length=5:=λz=>h5 ⟨e,z⟩;omega⟩
     .exact .inr ⟨e,()⟩
    rcases hl with⟨e,hl⟩|⟨e,hl⟩
    .simp [SetTable.tooFull,SetTable.fill,tabG,e,sz1];omega
    .simp [SetTable.tooFull,SetTable.fill,tabG,e,sz1];omega
   refine Yg (Yc1 S.ob rfl ?_ hsz1);rw[hfull];refine Zbw nofun (λ_=>?_);refine Yp (Yp (h _ _ es1 (ep+1) m mv pl1 (YaR ..) ⟨Yay _ S.ob rfl,sz1,up1,el1,nd1,?_⟩ mem1));rcases S.tb with⟨e,e2,hl,h8⟩|⟨e,e2,e3⟩
   .refine .inl ⟨e,e2,by have:¬es1.length=5:=λz=>h5 ⟨e,z⟩;omega,λp hp=>?_⟩;rcases Yh.mp (mp1.mem_iff.mp hp)with rfl|hp
    .exact hj e
    .exact h8 p hp
   .exact .inr ⟨e,e2,tb31 e e3⟩
end
end
section
def SetN(w:XO)(ns:XD)(d:XB)(h:XT):Prop:=∃es ep m mv pl,SetG w h d es ep m mv pl/\∀k,k∈es.map (·.1)↔k∈ns
def SetN.keep{w:XO}{ns:XD}{d:XB}{h h':XT}(S:SetN w ns d h)(k:∀o,h.get? d=some o->h'.get? d=some o):SetN w ns d h':=let⟨es,ep,m,mv,pl,S,e⟩:=S;⟨es,ep,m,mv,pl,S.keep k,e⟩
def SetN.none{w:XO}{d:XB}{h:XT}(e:h.get? d=some (setObj w [] 0 [])):SetN w [] d h:=⟨[],0,7,0,[],⟨e,rfl,List.Pairwise.nil,λ_ z=>(nomatch z),Yc7,.inl ⟨rfl,rfl,YO _,λ_ z=>(nomatch z)⟩⟩,λ_=>Iff.rfl⟩
section
variable{prog:XI}{w:XO}{A:XY}{E:XE}{s:XM}{d:XB}
def Zs2{ns:XD}{n:Int}{t:Tok}{Q:Xs}(S:SetN w ns d s.heap)(h0:0<=n)(h1:n<16)(h:∀r h',Heap.SameBut d s.heap h'->SetN w (ns++[n]) d h'->Q r {s with heap:=h',toks:=s.toks+1}):wpAny (model prog w) A (setAdd d (.int n t)) Q E s:=by
 let⟨es,ep,m,mv,pl,S,e⟩:=S;unfold setAdd;refine YaG ?_;refine Yg ((intKind prog w).pyHash (k:=n) (intKind_is _ _ _ _) ?_);rw[show(intKind prog w).hash n=n from hash16 h0 h1];refine addG (s:={s with toks:=s.toks+1}) S h0 h1 λr h' es' ep' m' mv' pl' sb S' mem=>?_;refine h r h' sb ⟨es',ep',m',mv',pl',S',λk=>?_⟩;rw[mem,e,Yw,Ye];exact or_comm
def ZqQ{R:Result->Shared->Prop}{I:XB}{fp wr:Xa}{G:Array GenState->Array GenState->Prop}{P:Nat->Value->Prop}{St:Nat->Shared->Prop}(ns:XD)(W:WalksS prog w A.in1 I fp wr G ns.length P St)(hP:∀i v,P i v->∃t,v=.int (ns.getD i 0) t)(hd:d∉fp)(hb:∀k∈ns,0<=k/\k<16):∀(k i:Nat)(s:XM),ns.length-i=k->i<=ns.length->St i s->SetN w (ns.take i) d s.heap->
   (∀s',Moved (d::wr) G s s'->SetN w ns d s'.heap->R (.ok (.ret .none)) s')->codeAny (model prog w) A (.builtin "set.update.loop" ⟨[.ref d,.ref I],[]⟩) R s:=by
 have hdw:d∉wr:=λz=>hd (W.sub _ z);have more:∀c∈wr,c∈d::wr:=λc hc=>Yo _ hc;intro k;induction k with
 |zero=>
  intro i s hk hi st T fin;obtain rfl:i=ns.length:=();rw[YK]at T;refine Ybt (Ycn) ?_;rw[Ybh (Ya8) _];show wpAny _ A.in1 (pyNext (.ref I) >>=_) _ _ s;refine Yg (W.done s _ _ st λs' mv=>?_);show wpAny _ A.in1 (ret Value.none) _ _ s';exact Yp (fin s' (mv.mono more) (T.keep λo e=>mv.heap d _ hdw e))
 |succ k ih=>
  intro i s hk hi st T fin;have hlt:i<ns.length:=();refine Ybt (Ycn) ?_;rw[Ybh (Ya8) _];show wpAny _ A.in1 (pyNext (.ref I) >>=_) _ _ s;refine Yg (W.item i s _ _ hlt st λv s' hv st' mv=>?_);let⟨t,rfl⟩:=hP i v hv;have T':SetN w (ns.take i) d s'.heap:=T.keep λo e=>mv.heap d _ hdw e;have eg:ns.getD i 0=ns[i]:=by rw[YB,Yd hlt];rfl
  have hbi:=hb ns[i] (Yad hlt);show wpAny _ A.in1 (holding [_] (setAdd d (.int (ns.getD i 0) t)) >>=_) _ _ s';rw[eg];refine Yg (YaG (Zs2 T' hbi.1 hbi.2 λr h' sb T2=>?_));rw[List.take_append_getElem hlt]at T2;refine Yp ⟨YcR (Ya8) _,ih (i+1) _ () hlt (W.frame _ s' _ _ st' (Yaq _) λc hc o e=>?_) T2 λs2 mv2 T3=>?_⟩
  .rw [sb.2 c (λz=>hd (by rw[<- z];exact hc))];exact e
  .refine fin s2 (Moved.trans W.gtrans ((mv.mono more).then_heap (Yaq _) λc o hc e=>?_) mv2) T3;rw[sb.2 c (λz=>hc (by rw[z];exact Y1))];exact e
set_option maxHeartbeats 8000000 in
def ZqR{l:XB}{ns:XD}{vs:XH}{Q:XE}(hh:A.handled=none)(hl:s.heap.IsList l vs.toArray)(hv:IntsAre vs ns)(hb:∀k∈ns,0<=k/\k<16)(h:∀(h':XT)(tk:Nat),SetN w ns s.heap.objs.size h'->(∀c o,c<s.heap.objs.size->s.heap.get? c=some o->h'.get? c=some o)->Q (.ref s.heap.objs.size) {s with heap:=h',toks:=tk}):wpAny (model prog w) A (call (.type "set") [.ref l]) Q E s:=by
 let⟨c,tl,hmro⟩:=Ybq.mro;have hmade:=Ybq.made;have hsub:=Ybq.sub;refine wpAny_call (codeAny_of_tree ?_);show wpAny _ _ (callAny (.type "set") _) _ _ _;refine Yp ⟨Code.quiet_builtin _ (by decide +kernel),Ybt (F.entry_type_call) (?_)⟩;rw[Around.under_plain (weight_type_call_type "set" [.ref l] []) (rfl)];have h1:=Ybq.notType;have h2:=Ybq.canCreate;have hct:=F.typeCall_set_1 (.ref l);repeat (any_goals (first|assumption|wp_step))
 refine YbD (ZsP (.ref l) (E:=E) (Q₁:=λobj s₁=>obj=.ref s.heap.objs.size/\s₁={s with heap:=s.heap.push (setObj w [] 0 [])}) ⟨rfl,rfl⟩) λr s₁ hr=>?_;cases r with
 |error e=>exact hr
 |ok fl=>
  cases fl with
  |ret obj=>
   let⟨rfl,rfl⟩:=hr;have hS:(s.heap.push (setObj w [] 0 [])).get? s.heap.objs.size=some (setObj w [] 0 []):=YJ _ rfl;have hT:Shared.TypeIs {s with heap:=s.heap.push (setObj w [] 0 [])} (.ref s.heap.objs.size) "set":=⟨_,hS,rfl⟩;have hli:=Ybq.init.lookup;have hbi:=Ybq.init.bind (.ref s.heap.objs.size);repeat (any_goals (first|assumption|wp_step))
   refine YbD (codeAny_call_builtin (R:=wants (λr s₂=>r=.none/\∃h' tk,s₂={s with heap:=h',toks:=tk}/\SetN w ns s.heap.objs.size h'/\(∀c o,c<s.heap.objs.size->s.heap.get? c=some o->h'.get? c=some o)) E) Ybq.init.plain F.entry_set_init (check_set_init_1 hT ?_)) λr₂ s₂ hr₂=>?_
   .obtain ⟨ol,hol,hcl,nl,hdl⟩:=hl;let⟨ocls,odict,odata,oslots⟩:=ol;simp only at hcl hdl;subst hcl;subst hdl;have hol':(s.heap.push (setObj w [] 0 [])).get? l=some {cls:=.type "list",dict:=odict,data:=.seq vs.toArray nl,slots:=oslots}:=Yl _ hol;have hsls:=F.sub_list_set;have hslf:=F.sub_list_frozenset;have hne:(Value.type "list" == Value.type "dict")=false:=nofun;have hl1:(s.heap.push (setObj w [] 0 [])).IsList l vs.toArray:=⟨_,hol',rfl,nl,rfl⟩;unfold Builtin.«set.__init__» noKeywords Builtin.Frozenset.updateFrom;generalize hPI:pyIter=PI;wp_walk;subst hPI;refine Yc2 hl1 ?_;refine Yg (wpAny_runValue ?_);have hlS:l<s.heap.objs.size:=YE hol;have hh3:A.in1.in1.in1.handled=none:=by simp[hh]
    have hneI:l≠(s.heap.push (setObj w [] 0 [])).objs.size:=by
     rw[YbC];exact YW (YbW hlS)
    have hSf:s.heap.objs.size∉[(s.heap.push (setObj w [] 0 [])).objs.size,l]:=by
     rw[YbC];simp only[Yh,Ye,YL,Yah,not_or];exact⟨YW (YaC _),YbK hlS⟩
    have hlen:vs.toArray.size=ns.length:=by rw[Yx];exact hv.length
    have W:=(Walks.list (prog:=prog) (w:=w) hh3 _ l hneI vs.toArray).toS;rw[hlen]at W;refine ZqQ ns W (λi v hiv=>hv.int_at i v (by simpa using hiv)) hSf hb ns.length 0 _ () (YO _) ⟨⟨_,YJ _ rfl,rfl,rfl⟩,(hl1.push _)⟩ (SetN.none (Yl _ hS)) ?_
    .intro s' mv T2;let⟨h',g',d',tk',os'⟩:=s';have eg:g'=s.gens:=mv.gens;have ed:d'=s.drawn:=mv.drawn;have eo:os'=s.os:=mv.os;subst eg;subst ed;subst eo;show wpAny _ _ _ _ _ _;refine Yp ?_;show wpAny _ _ (ret Value.none) _ _ _;refine Yp ⟨rfl,h',tk',rfl,T2,λc o hc e=>?_⟩;have c1:c≠s.heap.objs.size:=YW hc;have c2:c≠(s.heap.push (setObj w [] 0 [])).objs.size:=by rw[YbC];exact YW (YbW hc)
     exact mv.heap c o (by simp only[Yh,Ye,YL,Yah,not_or];exact⟨c1,c2⟩) (Yl _ (Yl _ e))
   .cases r₂ with
    |error e=>exact hr₂
    |ok fl₂=>
     cases fl₂ with
     |ret r=>
      let⟨rfl,h',tk,rfl,T2,kp⟩:=hr₂;repeat (any_goals (first|assumption|wp_step))
      exact h _ _ T2 kp
     |next=>exact False.elim hr₂
     |brk=>exact False.elim hr₂
     |cont=>exact False.elim hr₂
  |next=>exact False.elim hr
  |brk=>exact False.elim hr
  |cont=>exact False.elim hr
end
section
variable{prog:XI}{w:XO}{A:XY}{E:XE}{s:XM}{d:XB}{es:XX}{ep m mv:Nat}{pl:XJ}
def Zs3:PySem.W.KdlSrc prog w "set" d d es.length (λi v=>∃x,(ordG w d ep es)[i]?=some x/\v=x.2) (λh=>SetG w h d es ep m mv pl) where
 type:=λ_ S=>⟨_,S.ob,rfl⟩
 there:=λ_ S=>⟨YE S.ob,YE S.ob⟩
 keep:=λ_ _ S hk=>S.keep λo e=>hk d (.inl rfl) o e
 notList:=nofun
 notTuple:=nofun
 hint:=λ_ _ _ _ S hq=>ZsQ ⟨_,S.ob,rfl⟩ hq
 iter:=λ_ _ hh S=>⟨_,_,(λ_ _ hq=>ZqP S hq),ZoW hh _ (YW (YE S.ob)),⟨YJ _ rfl,S.keep λo e=>Yl _ e⟩⟩
end
noncomputable def ZjT(w:XO)(ns:XD)(d:XB):HO:=.ext λh=>SetN w ns d h
def rSetN(K:Ydg)(w:XO):RC:=λxs H Q=>∃l ns,xs=[.ref l]/\SqL K H l (ns.map V.int)/\(∀k∈ns,0<=k/\k<16)/\∀d,H d=none->Q (.ref d) (upd H d (ZjT w ns d))
def ZmJ{X:Cx}(hc:X.calm=true):CallR X (.type "set") (rSetN X.K X.w):=by
 walk_at"V";let⟨l,ns,rfl,hl,hb,q⟩:=h;let⟨u,rfl,rx⟩:=vals1 r;cases rx;let⟨its,rv,pl,hz⟩:=I.list hl;refine ZqR (I.ok.hd hc) pl.isList (ZjN rv) hb λh' tk T kp=>?_;refine⟨.ref s.heap.objs.size,_,I.laid (t':=tk) (λc u e=>kp c u (YE e) e) (Yk _) (show ObjOk X.prog X.w _ h' _ (ZjT X.w ns s.heap.objs.size)from⟨T,?_,?_⟩),rfl,q _ (I.hok.fresh (Yk _))⟩
 .obtain ⟨_,_,_,_,_,S,_⟩:=T;exact⟨_,S.ob⟩
 .intro h1 h2 T k;exact SetN.keep T k
def rSortN(w:XO):RC:=λxs H Q=>∃d ns,xs=[.ref d]/\H d=some (ZjT w ns d)/\∀ms:List Int,ms.Pairwise (·<·)->(∀n,n∈ms↔n∈ns)->∀p,H p=none->Q (.ref p) (upd H p (.lst (ms.map V.int)))
def ZjU{X:Cx}(hc:X.calm=true):CallR X (.builtin "sorted") (rSortN X.w):=by
 walk_at"V";let⟨d,ns,rfl,hd,q⟩:=h;let⟨u,rfl,rx⟩:=vals1 r;cases rx;let⟨⟨es,ep,m,mv,pl,S,f3⟩,_,_⟩:=(show ObjOk X.prog X.w H s.heap d (ZjT X.w ns d)from I.hok d _ hd);have op:=ZeY (w:=X.w) (d:=d) (ep:=ep) (es:=es);have hol:=op.length_eq;have hle:=S.few;refine Calls.call_function_entry (kind_sorted) (plain_sorted) (entry_sorted) (args_sorted1 _) ?_;unfold Builtin.«sorted»;refine Yg (m:=checkCount "sorted" 1 1 (_)) (Yp (?_));refine Yg (dcol (Ar:=X.A.in1) (Zs3 (es:=es) (ep:=ep) (m:=m) (mv:=mv) (pl:=pl)) (I.ok.hd hc) S (Yj hle nofun) λhp tn its kp lt ok=>?_);have hI:IntsAre its.toList ((ordG X.w d ep es).map (·.1)):=by
  refine ZmC _ _ (by rw[Yae,ok.1,Ya,hol]) λj v n h1 h2=>?_;let⟨x,e1,rfl⟩:=ok.2 j v (by rw[<- YaY];exact h1);rw[Yb,e1]at h2;cases h2;let⟨n,t,rfl,_,_⟩:=S.el x (op.mem_iff.mp (Yn e1));exact⟨t,rfl⟩
 have hl2:its.toList.length<64:=by rw[Yae,ok.1];omega
 refine Yg (wpAny_newList (?_) (Yj (Yan hl2) nofun));have at1:(hp.push (seqObj "list" its.toList.toArray 0)).get? hp.objs.size=some (seqObj "list" its.toList.toArray 0):=YJ _ rfl;refine Yg (YaG (YaF (slot_list_sort) ⟨_,at1,rfl⟩ (entry_list_sort) (list_sort_tree at1 hI hl2 λout ms a1 a2 a3=>⟨_,rfl,?_⟩) (args_list_sort _)));refine Yp ⟨_,rfl,?_⟩;let⟨e5,at2⟩:=sortedHeap_at (out:=out) at1;have pm:ms.Perm (es.map (·.1)):=a2.trans (op.map _);have hml:ms.length<=sizeLine:=by rw[pm.length_eq,Ya];exact Yj hle nofun
 refine⟨.ref hp.objs.size,_,I.laid (t':=tn) (λb u e=>?_) (Yan lt) (show ObjOk X.prog X.w _ _ _ (.lst (ms.map V.int))from⟨by rw[Ya];exact hml,out.toList,e5,Zhr a1,at2⟩),rfl,q ms (ZnI a3 (pm.nodup_iff.mpr S.nd)) (λn=>by rw[pm.mem_iff];exact f3 n) _ (I.hok.fresh (Yan lt))⟩;have lb:=YE (kp b u e);rw[sortedHeap_old (YW lb) (by rw[size_push'];exact YbW lb)];exact Yl _ (kp b u e)
section
variable{K:Ydg}{w:XO}{H:Hp}{Q:VK}{l d:XB}{ns:XD}
def ZmK(h:SqL K H l (ns.map V.int))(hb:∀k∈ns,0<=k/\k<16)(q:∀d,H d=none->Q (.ref d) (upd H d (ZjT w ns d))):rSetN K w [.ref l] H Q:=⟨l,ns,rfl,h,hb,q⟩
def ZjV(h:H d=some (ZjT w ns d))(q:∀ms:List Int,ms.Pairwise (·<·)->(∀n,n∈ms↔n∈ns)->∀p,H p=none->Q (.ref p) (upd H p (.lst (ms.map V.int)))):rSortN w [.ref d] H Q:=⟨d,ns,rfl,h,q⟩
end
end
section
section
variable{prog:XI}{w:XO}{A:XY}{E:XE}{s:XM}{d it:XB}{o:Obj}{es:Array DictEntry}{ep i:Nat}
end
section
variable{X:Cx}{pins:XG}{U:St}{H:Hp}{s:XM}{a:XB}{o:Obj}{kvs:Xe}
end
end
section
section
variable{K:Ydg}{U:St}{H:Hp}{Q:VK}{td:TE}{g:TG}{tc:TT}{te:TE}{k:Nat}{a b:XB}{o:Obj}{kvs:Xe}{p:XB}
end
def Zb4(K:Ydg)(C:XB)(m qual:Str)(st:Stmt)(items:Xc):Prop:=∃f fd,FunD K m qual st items f fd/\PySem.W.findIn K (.ref C) m=some (some (.ref f))/\PySem.W.isFn K (.ref f)=true
def ZqS(P:XI)(w:XO)(K:Ydg)(mg:XA)(base:XT)(k:Nat)(x:Str)(C:XB)(sp:Sp)(dvs:XF):Prop:=
 mg x=some (.ref C)/\∃f fd ps ds,Mk K C f/\FnOk P w K mg base CX0 k f fd ps sp/\Binds K fd ps ds/\Vals dvs ds
section
variable{P:XI}{w:XO}{K:Ydg}{mg:XA}{base:XT}
def Zi6{C:XB}{m qual:Str}{st:Stmt}{f T:XB}{oc c2:XR}{od an d2:Xb}{osl s2:XZ}{kV doc pm cdv ct:XR}{items:Xc}{n:Nat}(a:PySem.W.findIn K (.ref C) m=some (some (.ref f)))(i:PySem.W.isFn K (.ref f)=true)(l:K.lookup f=some ⟨oc,od,.func (PySem.W.fnOf m qual (Zbd st) (ZaV st) (Zae st) (.ref T) kV doc pm an cdv ct),osl⟩)(c:PySem.W.codeIn K cdv qual=true)(k:PySem.W.keepIn K (.ref f)=true)(d:K.lookup T=some ⟨c2,d2,.seq items n,s2⟩):Zb4 K C m qual st items:=
 ⟨f,_,⟨⟨oc,od,T,kV,doc,pm,an,cdv,ct,osl,_,n,rfl,l,c,d,rfl⟩,k⟩,a,i⟩
def Zs4{C:XB}{x qual:Str}{st:Stmt}{items:Xc}{N ps:XN}{k:Nat}{sp:Sp}(D:Zb4 K C "__init__" qual st items)(c:ClsF K mg x C)(S:FnScope N ps (Zae st))(len:∀vs H Q E,sp vs H Q E->vs.length=ps.length)(hbody:∀(f:XB)(cdv:XR)(A:XY)(outer:Xk)(s:XM)(H:Hp)(vs:XF)(Q:VK)(E:XK),Room k (A.deeper (envOfC qual (Zae st) s.heap.objs.size f cdv))->sp vs H Q E->∃t,PSs (cxOf CX0 P w K mg base N qual (Zae st) f cdv A outer s H E).nox (ZaV st) t/\t {nx:=λ_ H'=>Q .non H',rt:=Q} (start N vs) H)(ds:XH){dvs:XF}(v:Vals dvs ds)(hb:∀(T:XB)(kV doc pm:XR)(an:Xb)(cdv ct:XR)(us:XH),(us++ds).length=ps.length->∃k:Option (Array Value)->Sem (List (Str×Value)),bindArgs (PySem.W.fnOf "__init__" qual (Zbd st) (ZaV st) (Zae st) (.ref T) kV doc pm an cdv ct) ⟨us,[]⟩=seqItems? (.ref T) >>=k/\k (some items)=pure (ps.zip (us++ds))):ZqS P w K mg base (k+1) x C sp dvs:=by
 let⟨f,fd,F,a,i⟩:=D;exact⟨c.mgC,f,fd,ps,ds,⟨c.ms,a,i,c.kc⟩,F.fn S len (hbody f),F.binds ds hb,v⟩
end
section
variable{X:Cx}{k:Nat}{C:XB}{sp:Sp}{x:Str}{p pos:Pos}{e:Xi}{es:Xd}{t:TA}{dvs:XF}
def ZgY(c:ZqS X.prog X.w X.K X.mg X.base k x C sp dvs)(hr:Room (k+1) X.A)(hg:Gl X x)(ha:PA X (e::es) t)(hdb:(x==("__debug__":Xq))=false:=by decide)(he:starEach (e::es) X.env=(false,eval e X.env)::starEach es X.env:=by rfl)(hpl:(backTo pos (starEach es X.env)).any (·.1)=false:=by rfl) :
  PE X (.Call (.Name x p) (e::es) [] pos) (tMake C sp dvs E0 t):=by
 let⟨m,f,fd,ps,ds,M,F,b,v⟩:=c;exact ZpL M F hr hg m b v pass0 ha hdb he hpl
end
def Zs5{U:St}{H:Hp}{Q:VK}{C:XB}{sp:Sp}{t:TA}{dvs:XF}(q:t U H λvs H1=>∀x dx,H1 x=none->H1 dx=none->dx≠x->sp (.ref x::(vs++dvs)) (upd (upd H1 dx (.own x)) x (.ins C dx [])) (λv H2=>v=.non/\Q (.ref x) H2) E0):tMake C sp dvs E0 t U H Q:=q
def KeptX(X:Addr->Prop)(H H':Hp):Prop:=∀b o,H b=some o->¬X b->H' b=some o
section
variable{X Y:Addr->Prop}{H H1 H2:Hp}
def KeptX.refl:KeptX X H H:=λ_ _ e _=>e
def KeptX.trans(a:KeptX X H H1)(b:KeptX X H1 H2):KeptX X H H2:=λc o e n=>b c o (a c o e n) n
def KeptX.mono(a:KeptX X H H1)(h:∀b,X b->Y b):KeptX Y H H1:=λc o e n=>a c o e λz=>n (h c z)
def Same.keptX(s:Same H H1):KeptX X H H1:=λc o e _=>s c o e
def KeptX.upd{b:XB}{o:HO}(h:X b):KeptX X H (L2.upd H b o):=λc u e n=>by
 have hc:c≠b:=λz=>by rw[z]at n;exact n h
 rw[Zaj hc];exact e
def KeptX.new{b:XB}{o:HO}(h:H b=none):KeptX X H (L2.upd H b o):=(Same.new h).keptX
def KeptX.imm(a:KeptX X H H1)(h:∀b o,X b->H b=some o->¬Imm o):SameI H H1:=λb u e i=>a b u e λz=>h b u z e i
end
end
end L2
namespace L2
open PySem PySem.Spec PyProof.Rows PySem.Calls
section
section
variable{P:XI}{w:XO}{K:Ydg}{mg:XA}{base:XT}
end
section
variable{X:Cx}{k:Nat}{C:XB}{sp:Sp}{x m:Str}{p pos apos:Pos}{e o:Xi}{es:Xd}{ta:TE}{t:TA}{E:XK}{dvs:XF}
end
end
section
section
variable{U:St}{H:Hp}{Q:VK}{td:TE}{g:TG}{tc:TT}{te:TE}{k:Nat}{a:XB}{o:Obj}{kvs:XU}{p:XB}
end
end
section
section
variable{X:Cx}{k:Nat}{C:XB}{sp:Sp}{x m:Str}{p pos apos:Pos}{e o:Xi}{es:Xd}{ta:TE}{t:TA}{E:XK}{dvs:XF}
end
end
end L2
namespace L2
open PySem PySem.Calls PyProof PyProof.Rows
end L2
namespace L2
open PySem PySem.Spec PyProof.Rows PySem.SeqAt
section
abbrev TJ:=St->Hp->Str->VK->Prop
def PJ(X:Cx)(es:Xd)(t:TJ):Prop:=
 ∀(pins:XG)(s:XM)(U:St)(H:Hp)(out:Str)(Q:VK),Inv X pins U H s->t U H out Q->wpAny (model X.prog X.w) X.A (joinParts out (evalEach es X.env)) (EP X pins U Q) X.xe s
noncomputable def tJ0:TJ:=λ_ H out Q=>out.length<=sizeLine/\Q (.str out) H
noncomputable def tJc(x:Str)(t:TJ):TJ:=λU H out Q=>(out++x).length<=sizeLine/\t U H (out++x) Q
noncomputable def tJv(e:TE)(t:TJ):TJ:=λU H out Q=>e U H λv H1=>∃y,(v=.str y\/∃i:Int,v=.int i/\i.natAbs.log2<1920/\y=(toString i:Str))/\(out++y).length<=sizeLine/\t U H1 (out++y) Q
def tFs(t:TJ):TE:=λU H Q=>t U H Str.empty Q
section
variable{X:Cx}
def Zls:PJ X [] tJ0:=λpins s U H out Q I h=>joinParts_nil ⟨.str out,H,I.tok _,⟨_,rfl⟩,h.2⟩ h.1
def pj_c{x:Str}{j pos}{es:Xd}{t:TJ}(h:PJ X es t):PJ X (.Constant (.str x) j pos::es) (tJc x t):=by
 intro pins s U H out Q I hq;refine joinParts_cons (thn (Zav (x:=x) pins s U H (λv H1=>v=.str x/\H1=H) I ⟨rfl,rfl⟩) λu s1 hzq=>?_);let⟨v,H1,I1,r,e1,e2⟩:=hzq;subst e1;subst e2;let⟨t',rfl⟩:=r;exact⟨hq.1,h pins s1 U H1 _ Q I1 hq.2⟩
def pj_v{e:Xi}{te:TE}{pos:Pos}{es:Xd}{t:TJ}(he:PE X e te)(h:PJ X es t):PJ X (.FormattedValue e (-1) none pos::es) (tJv te t):=by
 intro pins s U H out Q I hq;refine joinParts_cons (FormattedValue_plain (thn (he pins s U H _ I hq) λu s1 hzq=>?_));let⟨v,H1,I1,r,y,hv,hz,q⟩:=hzq;have hy:y.length<=sizeLine:=Yj (by rw[strLen_append];exact Nat.le_add_left _ _) hz;rcases hv with rfl|⟨i,rfl,hl,rfl⟩
 .obtain ⟨t',rfl⟩:=r;exact formatField_str (λt' tk=>⟨hz,h pins _ U H1 _ Q (I1.tok _) q⟩) hy
 .obtain ⟨t',rfl⟩:=r;exact formatField_int_small hl ⟨hz,h pins _ U H1 _ Q (I1.tok _) q⟩
def ZqT{v₁ v₂:Xi}{es:Xd}{pos:Pos}{t:TJ}(h:PJ X (v₁::v₂::es) t):PE X (.JoinedStr (v₁::v₂::es) pos) (tFs t):=λpins s U H Q I hq=>JoinedStr_many (h pins s U H _ Q I hq)
def ZoX{e:TE}{out:Str}{t:TJ}{U:St}{H:Hp}{Q:VK}(h:e U H λv H1=>∃y,(v=.str y\/∃i:Int,v=.int i/\i.natAbs.log2<1920/\y=(toString i:Str))/\(out++y).length<=sizeLine/\t U H1 (out++y) Q):tJv e t U H out Q:=h
end
end
section
def tNIK(P:XI)(w:XO)(K:Ydg)(ty td:TE):TE:=λU H Q=>ty U H λy H1=>td U H1 λx H2=>∃a vs k,x=.ref a/\y=kV k/\ZfG P w K a vs/\(a==sysModules)=false/\Q (.bl (!(valueAt vs k).isSome)) H2
section
variable{X:Cx}{o i:Xi}{td ty:TE}
def pc_nik(hi:PE X i ty)(ho:PE X o td):PC X .NotIn i o (tNIK X.prog X.w X.K ty td):=by
 walk_at"I";refine thn (hi pins s U H _ I h) λiv s1 ⟨y,H1,I1,ry,q1⟩=>thn (ho pins s1 U H1 _ I1 q1) λu s2 ⟨x,H2,I2,rx,a,vs,k,ex,ey,D,hd,q2⟩=>?_;subst ex ey;obtain rfl:u=Value.ref a:=rx;have dd:=D s2.heap I2.kIn;exact wpAny_notIn_of (Zuk ry) hd dd.mapOf ⟨.bl (!(valueAt vs k).isSome),H2,I2.tok _,rfl,q2⟩
end
section
variable{P:XI}{w:XO}{K:Ydg}{U:St}{H:Hp}{Q:VK}
def rd_nik{ty td:TE}(q:ty U H λy H1=>td U H1 λx H2=>∃a vs k,x=.ref a/\y=kV k/\ZfG P w K a vs/\(a==sysModules)=false/\Q (.bl (!(valueAt vs k).isSome)) H2):tNIK P w K ty td U H Q:=q
end
def ZvH{t u:TS}{n:Xp}{r:VK}{b c:Xp}{U:St}{H:Hp}(q:∀N:St->Hp->Prop,(∀U' H',u (Ends.mk n r b c) U' H'->N U' H')->t (Ends.mk N r b c) U H):tSeq t u (Ends.mk n r b c) U H:=q _ λ_ _ z=>z
def hid_go{N Uq:Xp}{U:St}{H:Hp}(e:∀U' H',Uq U' H'->N U' H')(q:Uq U H):N U H:=e _ _ q
end
section
section
variable{X:Cx}
def Zao{i:Nat}{x:Str}{e:Xi}{te:TE}{pos pos':Pos}(hN:X.N.Nodup)(he:PE X e te)(hi:X.N[i]?=some x:=by rfl)(hx:Loc X.env.scope x:=by first|exact Or.inl rfl|exact Or.inr rfl)(hs:swapsWith e (some (.Name x pos')) pos.line X.env=pure false:=by rfl)(hf:X.fn x=true\/X.env.scope.names.lookup x=some .local:=by first|exact .inl rfl|exact .inr rfl|assumption):PS X (.Assign [.Name x pos'] e pos) (tAsg te (gName i)):=Zhc hN hi hx he hs hf
def ZaU{i:Nat}{x:Str}{pos:Pos}(hN:X.N.Nodup)(hi:X.N[i]?=some x:=by rfl)(hx:Loc X.env.scope x:=by first|exact Or.inl rfl|exact Or.inr rfl)(hf:X.fn x=true\/X.env.scope.names.lookup x=some .local:=by first|exact .inl rfl|exact .inr rfl|assumption):PG X (.Name x pos) (gName i):=Zbi hN hi hx hf
def Zam{k:Nat}{x:Str}{sp:Sp}{e:Xi}{es:Xd}{t:TA}{p pos:Pos}(c:Cal X.prog X.w X.K X.mg X.base k x sp)(ha:PA X (e::es) t)(hr:Room k X.A:=by walk_at"h")(hg:Gl X x:=by rfl)(hdb:(x==("__debug__":Xq))=false:=by decide)(he:starEach (e::es) X.env=(false,eval e X.env)::starEach es X.env:=by rfl)(hpl:(backTo pos (starEach es X.env)).any (·.1)=false:=by rfl) :
  PE X (.Call (.Name x p) (e::es) [] pos) (tCall sp [] E0 t):=Zdo c hr hg ha hdb he hpl
def Zaq{r:R2}{a b:Xi}{ta tb:TE}{pos:Pos}(hr:IxR X r)(ha:PE X a ta)(hb:PE X b tb)(hs:ZpR b:=by exact λ_ _=>rfl):PE X (.Subscript a b pos) (tOp r ta tb):=ZcE hr ha hb hs
end
end
end L2
namespace L2
open PySem PySem.Spec PyProof.Rows PySem.Calls
section
def Zs6(P:XI)(w:XO)(K:Ydg)(mg:XA)(base:XT)(k:Nat)(C:XB)(m:Str)(sp:Sp)(dvs:XF):Prop:=
 Cls K C/\∃f fd ps ds,Meth K C m f/\FnOk P w K mg base CX0 k f fd ps sp/\Binds K fd ps ds/\Vals dvs ds
section
variable{P:XI}{w:XO}{K:Ydg}{mg:XA}{base:XT}
def ZnU{C:XB}{m qual:Str}{st:Stmt}{items:Xc}{N ps:XN}{k:Nat}{sp:Sp}{dvs:XF}(D:Zb4 K C m qual st items)(c:Cls K C)(S:FnScope N ps (Zae st))(len:∀vs H Q E,sp vs H Q E->vs.length=ps.length)(ds:XH)(v:Vals dvs ds)(hb:∀(T:XB)(kV doc pm:XR)(an:Xb)(cdv ct:XR)(us:XH),(us++ds).length=ps.length->∃k:Option (Array Value)->Sem (List (Str×Value)),bindArgs (PySem.W.fnOf m qual (Zbd st) (ZaV st) (Zae st) (.ref T) kV doc pm an cdv ct) ⟨us,[]⟩=seqItems? (.ref T) >>=k/\k (some items)=pure (ps.zip (us++ds)))(hbody:∀(f:XB)(cdv:XR)(A:XY)(outer:Xk)(s:XM)(H:Hp)(vs:XF)(Q:VK)(E:XK),Room k (A.deeper (envOfC qual (Zae st) s.heap.objs.size f cdv))->sp vs H Q E->∃t,PSs (cxOf CX0 P w K mg base N qual (Zae st) f cdv A outer s H E).nox (ZaV st) t/\t {nx:=λ_ H'=>Q .non H',rt:=Q} (start N vs) H):Zs6 P w K mg base (k+1) C m sp dvs:=by
 let⟨f,fd,F,a,i⟩:=D;exact⟨c,f,fd,ps,ds,⟨a,i,F.kp⟩,F.fn S len (hbody f),F.binds ds hb,v⟩
end
section
variable{X:Cx}{k:Nat}{C:XB}{sp:Sp}{x m:Str}{p pos apos:Pos}{e o:Xi}{es:Xd}{ta:TE}{t:TA}{E:XK}{dvs:XF}
def ZnV{pl:Sem Bool}(c:Zs6 X.prog X.w X.K X.mg X.base k C m sp dvs)(hr:Room k X.A)(he:PE X o ta)(ha:PA X (e::es) t)(hst:starEach (e::es) X.env=(false,eval e X.env)::starEach es X.env:=by rfl)(hpl:(backTo pos (starEach es X.env)).any (·.1)=false:=by rfl)(ht:eval (.Call (.Attribute o m apos) (e::es) [] pos) X.env=(do
   let ov<- eval o X.env
   standAt apos.atName
   let(f,first)<- holding [ov] (getMethod ov m pl)
   callWith pos f first (backTo pos (starEach (e::es) X.env)) (backToKw pos (keywordEach [] X.env))):=by rfl) :
  PE X (.Call (.Attribute o m apos) (e::es) [] pos) (tMeth C m sp dvs E0 ta t):=by
 let⟨cl,f,fd,ps,ds,M,F,b,v⟩:=c;exact ZpK he cl M F hr b v pass0 ha hst hpl ht
end
end
section
end
end L2
namespace L2
open PySem PySem.Spec PyProof.Rows PySem.Calls PySem.W
end L2
namespace L2
open PySem PySem.Spec PyProof.Rows PySem.SeqAt PySem.W
def Eqv(K:Ydg)(H:Hp):Nat->V->V->Prop
 |0,x,y=>x=y/\flatV x=true
 |n+1,x,y=>(x=y/\flatV x=true)\/∃a b,x=.ref a/\y=.ref b/\
  ((∃xs ys,SqL K H a xs/\SqL K H b ys/\xs.length=ys.length/\∀(i:Nat)(x y:V),xs[i]?=some x->ys[i]?=some y->Eqv K H n x y)\/∃xs ys,SqT K H a xs/\SqT K H b ys/\xs.length=ys.length/\∀(i:Nat)(x y:V),xs[i]?=some x->ys[i]?=some y->Eqv K H n x y)
def Eqv.flat{K:Ydg}{H:Hp}{n:Nat}{x:V}(h:flatV x=true):Eqv K H n x x:=by
 cases n with
 |zero=>exact⟨rfl,h⟩
 |succ n=>exact Or.inl ⟨rfl,h⟩
def Eqv.lst{K:Ydg}{H:Hp}{n:Nat}{a b:XB}{xs ys:XF}(h1:SqL K H a xs)(h2:SqL K H b ys)(hl:xs.length=ys.length)(h:∀(i:Nat)(x y:V),xs[i]?=some x->ys[i]?=some y->Eqv K H n x y):Eqv K H (n+1) (.ref a) (.ref b):=Or.inr ⟨a,b,rfl,rfl,.inl ⟨xs,ys,h1,h2,hl,h⟩⟩
def Eqv.data{K:Ydg}{H:Hp}:∀(n:Nat){d:Dt}{x y:V},d.dep<=n->DV K H d x->DV K H d y->Eqv K H n x y:=by
 intro n;induction n with
 |zero=>
  intro d x y hn h1 h2;cases d with
  |lst ds=>unfold Dt.dep at hn;omega
  |tup ds=>unfold Dt.dep at hn;omega
  |_=>unfold DV at h1 h2;subst h1 h2;exact .flat rfl
 |succ n ih=>
  intro d x y hn h1 h2;have key:∀{ds:List Dt}{xs ys:XF},Dt.deps ds<=n->DVs K H ds xs->DVs K H ds ys->xs.length=ys.length/\∀(i:Nat)(x y:V),xs[i]?=some x->ys[i]?=some y->Eqv K H n x y:=λ{ds xs ys} hd a b=>by
   refine⟨by rw[<- a.length,<- b.length],λi x y e1 e2=>?_⟩;have hi:i<ds.length:=by rw[a.length];exact(Yf.mp e1).1
   have e:ds[i]?=some ds[i]:=Yd hi;exact ih (Yj (Dt.dep_le e) hd) (a.get e e1) (b.get e e2)
  cases d with
  |lst ds=>
   unfold Dt.dep at hn;unfold DV at h1 h2;let⟨a,xs,rfl,q1,w1⟩:=h1;let⟨b,ys,rfl,q2,w2⟩:=h2;let⟨hl,hi⟩:=key () w1 w2;exact .lst q1 q2 hl hi
  |tup ds=>
   unfold Dt.dep at hn;unfold DV at h1 h2;let⟨a,xs,rfl,q1,w1⟩:=h1;let⟨b,ys,rfl,q2,w2⟩:=h2;let⟨hl,hi⟩:=key () w1 w2;exact Or.inr ⟨a,b,rfl,rfl,.inr ⟨xs,ys,q1,q2,hl,hi⟩⟩
  |_=>unfold DV at h1 h2;subst h1 h2;exact .flat rfl
section
variable{X:Cx}{pins:XG}{U:St}{H:Hp}{s:XM}
def Zuw(I:Inv X pins U H s):∀(n:Nat)(x y:V)(u v:XR)(A:XY),A.units+n<cLine->Eqv X.K H n x y->RelV x u->RelV y v->EqAt A s u v true/\RcAt A s u v true/\RcNeAt A s u v false:=by
 have fl:∀(x:V)(u v:XR)(A:XY),flatV x=true->RelV x u->RelV x v->EqAt A s u v true/\RcAt A s u v true/\RcNeAt A s u v false:=λx u v A hf r1 r2=>by
  cases x with
  |non=>cases r1;cases r2;exact⟨EqAt.same _,RcAt.none_none,RcNeAt.none_none⟩
  |bl b=>cases r1;cases r2;have:=EqAt.bool_bool (A:=A) (s:=s) b b;have q2:=RcAt.bool_bool (A:=A) (s:=s) b b;have q3:=RcNeAt.bool_bool (A:=A) (s:=s) b b;rw[Yal]at this q2 q3;exact⟨this,q2,q3⟩
  |int b=>let⟨t,rfl⟩:=r1;let⟨t',rfl⟩:=r2;have:=EqAt.int_int (A:=A) (s:=s) b t b t';have q2:=RcAt.int_int (A:=A) (s:=s) b t b t';have q3:=RcNeAt.int_int (A:=A) (s:=s) b t b t';rw[Yal]at this q2 q3;exact⟨this,q2,q3⟩
  |str b=>let⟨t,rfl⟩:=r1;let⟨t',rfl⟩:=r2;have:=EqAt.str_str (A:=A) (s:=s) b t b t';have q2:=RcAt.str_str (A:=A) (s:=s) b t b t';have q3:=RcNeAt.str_str (A:=A) (s:=s) b t b t';rw[Yal]at this q2 q3;exact⟨this,q2,q3⟩
  |_=>cases hf
 intro n;induction n with
 |zero=>
  intro x y u v A hA h r1 r2;let⟨rfl,hf⟩:=h;exact fl x u v A hf r1 r2
 |succ n ih=>
  intro x y u v A hA h r1 r2;have hu:A.units<cLine:=();rcases h with⟨rfl,hf⟩|⟨a,b,rfl,rfl,h⟩
  .exact fl x u v A hf r1 r2
  cases r1;cases r2;have items:∀{xs ys:XF}{its jts:XH},(∀(i:Nat)(x y:V),xs[i]?=some x->ys[i]?=some y->Eqv X.K H n x y)->Vals xs its->Vals ys jts->∀j (g1:j<its.toArray.size) (g2:j<jts.toArray.size),EqAt A.in1 s its.toArray[j] jts.toArray[j] true:=by
   intro xs ys its jts h ra rb j g1 g2;have at':∀{xs:XF}{its:XH},Vals xs its->∀(g:j<its.toArray.size),∃x,xs[j]?=some x/\RelV x its.toArray[j]:=λ{xs its} rv g=>by
    have hj':j<its.length:=by simpa using g
    have e2:xs[j]?=some (xs[j]'(by have:=rv.length;omega)):=Yd (by have:=rv.length;omega);let⟨u,hu,ru⟩:=rv.get e2;refine⟨_,e2,?_⟩;have:its.toArray[j]=u:=by
     have q:its[j]?=some its[j]:=Yd hj';rw[q]at hu;simpa using Y2 hu
    rw[this];exact ru
   let⟨x,e1,q1⟩:=at' ra g1;let⟨y,e2,q2⟩:=at' rb g2;exact(ih x y _ _ A.in1 (by rw[Zqm];omega) (h j x y e1 e2) q1 q2).1
  have wrap:RcAt A s (.ref a) (.ref b) true/\RcNeAt A s (.ref a) (.ref b) false->EqAt A s (.ref a) (.ref b) true/\RcAt A s (.ref a) (.ref b) true/\RcNeAt A s (.ref a) (.ref b) false:=λrc=>by
   by_cases hab:a=b
   .subst hab;exact⟨EqAt.same _,rc⟩
   .exact ⟨EqAt.of_refs hab rc.1,rc⟩
  refine wrap ?_;have all1:∀m,(List.range m).all (λ_=>true)=true:=λm=>by simp
  rcases h with⟨xs,ys,q1,q2,hl,hi⟩|⟨xs,ys,q1,q2,hl,hi⟩
  .obtain ⟨its,rv,p,_⟩:=I.list q1;let⟨jts,rv2,p2,_⟩:=I.list q2;have hs:its.toArray.size=jts.toArray.size:=by rw[Yx,Yx,<- rv.length,<- rv2.length];exact hl
   have hi:=items hi rv rv2;have q3:=RcAt.lists (e:=λ_=>true) p.isList p2.isList hs hu hi;have q4:=RcNeAt.lists (e:=λ_=>true) p.isList p2.isList hs hu hi;rw[all1]at q3 q4;exact⟨q3,q4⟩
  .obtain ⟨its,rv,p,_⟩:=I.tuple q1;let⟨jts,rv2,p2,_⟩:=I.tuple q2;have hs:its.toArray.size=jts.toArray.size:=by rw[Yx,Yx,<- rv.length,<- rv2.length];exact hl
   have hi:=items hi rv rv2;have q3:=RcAt.tuples (e:=λ_=>true) (show s.heap.IsTuple a its.toArray from p) (show s.heap.IsTuple b jts.toArray from p2) hu hi;have q4:=RcNeAt.tuples (e:=λ_=>true) (show s.heap.IsTuple a its.toArray from p) (show s.heap.IsTuple b jts.toArray from p2) hu hi;rw[all1,hs,Yal]at q3 q4;exact⟨q3,q4⟩
end
def rEq1(K:Ydg):R2:=λx y H Q=>Eqv K H 64 x y/\Q (.bl true) H
def rNe1(K:Ydg):R2:=λx y H Q=>Eqv K H 64 x y/\Q (.bl false) H
section
variable{X:Cx}
def op_eq1(hu:X.A.units+64<cLine):OpR X (compareOp .Eq) (rEq1 X.K):=by
 walk_at"J";exact(Zuw I 64 x y v u X.A hu h.1 rx ry).2.1 _ _ _ _ ⟨.bl true,H,I,rfl,h.2⟩
def op_ne1(hu:X.A.units+64<cLine):OpR X (compareOp .NotEq) (rNe1 X.K):=by
 walk_at"J";exact(Zuw I 64 x y v u X.A hu h.1 rx ry).2.2 _ _ _ _ ⟨.bl false,H,I,rfl,h.2⟩
end
section
variable{K:Ydg}{H:Hp}{d:Dt}{x y:V}{Q:VK}
def rd_eq1(h1:DV K H d x)(h2:DV K H d y)(hd:d.dep<=64)(q:Q (.bl true) H):rEq1 K x y H Q:=⟨.data 64 hd h1 h2,q⟩
def rd_ne1(h1:DV K H d x)(h2:DV K H d y)(hd:d.dep<=64)(q:Q (.bl false) H):rNe1 K x y H Q:=⟨.data 64 hd h1 h2,q⟩
end
end L2
namespace L2
open PySem PySem.Spec PyProof.Rows PySem.Calls PySem.Builtin PySem.Builtin.Str PySem.StrLaws
def Zi7(K:Ydg)(mg:XA)(x q:Str)(st:Stmt):Prop:=∃f fd,Fun K q q st f fd/\mg x=some (.ref f)
def ZqU{K:Ydg}{h:XT}{mg:XA}{x q:Str}{st:Stmt}{f:XB}{oc:XR}{od an:Xb}{osl:XZ}{kV doc pm cdv ct:XR}(X:K.In h)(G:h.Ns mainGlobals mg)(a:PySem.W.nsIn K mainGlobals x=some (some (.ref f)))(l:K.lookup f=some ⟨oc,od,.func (PySem.W.fnOf q q (Zbd st) (ZaV st) (Zae st) .none kV doc pm an cdv ct),osl⟩)(c:PySem.W.codeIn K cdv q=true)(k:PySem.W.keepIn K (.ref f)=true):Zi7 K mg x q st:=
 ⟨f,_,Zp1 l c k,YaJ X G a⟩
def ZjW{P:XI}{w:XO}{K:Ydg}{mg:XA}{base:XT}{x q:Str}{st:Stmt}{k:Nat}{sp:Sp}(N:XN)(D:Zi7 K mg x q st)(hbody:∀(f:XB)(cdv:XR)(A:XY)(outer:Xk)(s:XM)(H:Hp)(vs:XF)(Q:VK)(E:XK),Room k (A.deeper (envOfC q (Zae st) s.heap.objs.size f cdv))->sp vs H Q E->∃t,PSs (cxOf CX0 P w K mg base N q (Zae st) f cdv A outer s H E).nox (ZaV st) t/\t {nx:=λ_ H'=>Q .non H',rt:=Q} (start N vs) H)(ps:XN:=N)(S:FnScope N ps (Zae st):=by walk_at"c")(len:∀vs H Q E,sp vs H Q E->vs.length=ps.length:=by walk_at"L")(hb:∀(kV doc pm:XR)(an:Xb)(cdv ct:XR)(us:XH),us.length=ps.length->bindArgs (PySem.W.fnOf q q (Zbd st) (ZaV st) (Zae st) .none kV doc pm an cdv ct) ⟨us,[]⟩=pure (ps.zip us):=by walk_at"b"):Cal P w K mg base (k+1) x sp:=by
 let⟨f,fd,F,m⟩:=D;exact⟨f,m,fd,ps,F.ok S len (hbody f),F.kp,F.binds hb⟩
def ZmL{p q r:XJ}(hp:47∉p)(hq:47∉q)(hr:47∉r):Txt.split (mkS (glueL [32,47,32] [p,q,r])) (mkS [32,47,32])=[mkS p,mkS q,mkS r]:=by
 refine ZmH (c:=32) (y:=[47,32]) (by simp) (λj hj=>?_) (by decide +kernel);have e:glueL [32,47,32] [p,q,r]=glueL [47] [p++[32],[32]++q++[32],[32]++r]:=by simp[glueL]
 have h1:(glueL [47] [p++[32],[32]++q++[32],[32]++r])[j+1-0]?=some 47:=by
  have h2:(((glueL [32,47,32] [p,q,r]).drop j).take 3)[1]?=some 47:=by rw[show 3=([32,47,32]:XJ).length from rfl,hj];rfl
  rw[Ycz,if_pos nofun,YbM,e]at h2;exact h2
 have h3:=(ZmD (c:=47) (y:=[]) (by simp) _ 0 (j+1) (λu hu=>by
  simp only[Yh,YL,Yah]at hu;rcases hu with rfl|rfl|rfl<;>simp[hp,hq,hr]) (YO _)).mp h1
 simp only[cutsAt,Yc,Yi,Yac,Yh,YL,Yah]at h3 |-;omega
def ZnW{lo:Int}{n:Nat}{g:TG}{tb:TS}{D:Ends}{U:St}{H:Hp}(J:Nat->St->Hp->Prop)(j0:J 0 U H)(step:∀i U H,i<n->J i U H->g (.int (lo+i*2)) U H λU2 H2=>tb {D with nx:=J (i+1),ct:=J (i+1),bk:=D.nx} U2 H2)(fin:∀U H,J n U H->D.nx U H) :
  ∃W:Nat->Nat->St->Hp->Prop,(∃m,W 0 m U H)/\∀i m U H,W i m U H->
   ((Itp lo n).stop i H/\D.nx U H)\/((Itp lo n).go i H/\∃N:St->Hp->Prop,(∀U' H',N U' H'->∃m',m'<m/\W (i+1) m' U' H')/\∀x H',(Itp lo n).yld i H x H'->g x U H' λU2 H2=>tb {D with nx:=N,ct:=N,bk:=D.nx} U2 H2):=by
 refine⟨λi m U H=>m+i=n/\J i U H,⟨n,rfl,j0⟩,λi m U H ⟨e,p⟩=>?_⟩;rcases YaW i n with lt|ge
 .exact .inr ⟨lt,J (i+1),λ_ _ q=>⟨m-1,(),(),q⟩,λx H' ⟨e1,e2⟩=>by rw[e1,e2];exact step i U H lt p⟩
 .obtain rfl:i=n:=();exact .inl ⟨Yk _,fin U H p⟩
end L2
local macro_rules|`(tactic|walk_at"settle")=>`(tactic|first
 |(simp only[L2.start,Yz,YaX,Yi,Yac,List.replicate,Yb7,YaH,YZ,Yaj,List.set_cons_succ,Nat.reduceAdd,Nat.reduceSub];done)
 |(simp only[L2.start,Yz,YaX,Yi,Yac,List.replicate,Yb7,YaH,YZ,Yaj,List.set_cons_succ,Nat.reduceAdd,Nat.reduceSub];rfl)
 |rfl
 |fail)
local macro_rules|`(tactic|walk_at"side")=>`(tactic|first
 |exact⟨by decide,by decide⟩
 |exact⟨by decide,by decide,by decide⟩
 |(show(0:Int)<_;first|decide|omega)
 |(show(0:Int)<=_;first|decide|omega)
 |(show(0:Int)<_/\_<_;refine⟨by omega,by omega⟩)
 |(show(_/\_)\/_;refine .inl ⟨by omega,by omega⟩)
 |(show _\/(_/\_);refine .inr ⟨by omega,by omega⟩)
 |fail)
local macro_rules|`(tactic|walk_at"h")=>`(tactic|exact L2.Room.mono (by assumption) (by decide))
local macro_rules|`(tactic|walk_at"sq")=>do
 let n:=Lean.mkIdent `nX;let h:=Lean.mkIdent `hX
 `(tactic|(with_reducible refine L2.ZvH ?_;intro $n:ident $h:ident))
local macro_rules|`(tactic|walk_at"un")=>do
 let n:=Lean.mkIdent `nX;let h:=Lean.mkIdent `hX
 `(tactic|(with_reducible refine L2.hid_go $h ?_;clear $h $n))
local macro_rules|`(tactic|walk_at"sql")=>`(tactic|first
 |assumption
 |exact L2.Zmq
 |exact L2.Zqc
 |exact L2.Zal (by assumption)
 |exact L2.Zb0 (by assumption)
 |exact L2.TupK.sqt (by assumption) _
 |(refine L2.SqL.updN ?_ (by assumption);walk_at"sql")
 |(refine L2.SqT.updN ?_ (by assumption);walk_at"sql")
 |fail)
local macro_rules|`(tactic|walk_at"hp")=>`(tactic|first
 |assumption
 |exact L2.Zad
 |exact Eq.trans (L2.Zaj (L2.Zai L2.Zad (by assumption))) L2.Zad
 |fail)
local macro_rules|`(tactic|walk_at"sz")=>`(tactic|first
 |assumption
 |exact Yj (by assumption) (by decide)
 |decide
 |fail)
local macro_rules|`(tactic|walk_at"rdo")=>`(tactic|first
 |walk_at"sq"
 |with_reducible refine L2.Zul ?_
 |((with_reducible refine' L2.ZsG ?e ?_);(case e=>walk_at"settle"))
 |with_reducible refine L2.rd_C ?_
 |((with_reducible refine' L2.rd_V ?e ?_);(case e=>rfl))
 |(with_reducible first|refine L2.rd_op ?_|refine L2.rd_I0 ?_)
 |((with_reducible refine' L2.rd_I ?c ?_);(case c=>walk_at"side"))
 |(with_reducible first|refine L2.rd_eqI ?_|refine L2.rd_eqS ?_|refine L2.rd_neI ?_|refine L2.rd_neS ?_|refine L2.Zp8 ?_|refine L2.rd_B ?_|refine L2.rd_bl ?_|refine L2.rd_ifS ?_|refine L2.rd_if ?_|refine L2.ZfH (λ_=>?_) (λ_=>?_)|refine L2.ZdS (λ_=>?_) (λ_=>?_)|refine L2.iteT ?_|refine L2.iteF ?_|refine L2.iteNT ?_|refine L2.iteNF ?_|refine L2.Zum ?_|refine L2.Zu3 ?_|refine L2.Zp7 ?_|refine L2.rd_and ?_|refine L2.rd_or ?_|refine L2.rd_not ?_|refine L2.Zu4 ?_|refine L2.rd_orV ?_|refine L2.Zp9 ?_|refine L2.Zhm ?_|refine L2.Zqi ?_|refine L2.Zu5 ?_|refine L2.rd_CB ?_|refine L2.Zsu ?_|refine L2.rd_un ?_|refine L2.rd_U ?_|refine L2.rd_tup ?_|refine L2.rd_lst ?_)
 |walk_at"un"
 |((with_reducible refine' L2.ZaA ?h ?e ?_);(case h=>walk_at"sql");(case e=>rfl))
 |((with_reducible refine' L2.Zlg ?h ?e ?_);(case h=>walk_at"sql");(case e=>rfl))
 |(with_reducible first|refine L2.rd_sl ?_|refine L2.Zqe ?_|refine L2.Zu6 ?_|refine L2.rd_ei ?_)
 |((with_reducible refine' L2.Zun ?h ?_);(case h=>walk_at"sql"))
 |(with_reducible first|refine L2.Zu7 ?_|refine L2.Zqf ?_)
 |((with_reducible refine' L2.Zva ?e ?_);(case e=>rfl))
 |((with_reducible refine' L2.Zqg ?h ?_);(case h=>walk_at"sql"))
 |((with_reducible refine' L2.Zu8 ?h ?_);(case h=>walk_at"sql"))
 |(with_reducible first|refine L2.rd_bm ?_|refine L2.rd_bm0 ?_|refine L2.rd_tyS ?_|refine L2.rd_inS ?_|refine L2.rd_sb ?_|refine L2.Zve ?_|refine L2.Zvf ?_|refine L2.Zvg ?_|refine L2.Zsz ?_|refine L2.ZsA ?_)
 |((with_reducible refine' L2.Zvd ?h ?_);(case h=>walk_at"sz"))
 |((with_reducible refine' L2.ZgV ?h (λ_ _=>?_));(case h=>walk_at"sql"))
 |with_reducible refine L2.Zvm ?_
 |(with_reducible first|refine L2.Zuq ?_|refine L2.Zvh ?_|refine L2.ZqE ?_|refine L2.Zvu ?_|refine L2.Zvv ?_|refine L2.Zqv ?_|refine L2.Zvp ?_)
 |((with_reducible refine' L2.rd_sum ?h ?_);(case h=>walk_at"sql"))
 |(with_reducible first|refine L2.ZsE ?_|refine L2.ZsD (λ_ _=>?_)|refine L2.Zvj ?_|refine L2.Zvk ?_|refine L2.ZsI ?_|refine L2.ZsJ ?_|refine L2.Zvr ?_)
 |((with_reducible refine' L2.Zvq ?h ?e ?_);(case h=>walk_at"sql");(case e=>rfl))
 |fail)
local macro_rules|`(tactic|walk_at"rdk")=>`(tactic|first
 |with_reducible refine L2.rd_C ?_
 |((with_reducible refine' L2.rd_V ?e ?_);(case e=>rfl))
 |(with_reducible first|refine L2.Zp9 ?_|refine L2.Zhm ?_|refine L2.Zuq ?_|refine L2.rd_op ?_|refine L2.Zul ?_|refine L2.Zp8 ?_|refine L2.Zqv ?_|refine L2.Zqi ?_)
 |walk_at"rdo"
 |fail)
local macro_rules|`(tactic|walk_at"rdz")=>`(tactic|first
 |((with_reducible refine L2.ZfH (λ_=>?_) (λ_=>?_))<;>(try (exfalso;omega (splitNatSub:=true))))
 |((with_reducible refine L2.ZdS (λ_=>?_) (λ_=>?_))<;>(try (exfalso;omega (splitNatSub:=true))))
 |walk_at"rdk"
 |fail)
local macro_rules|`(tactic|walk_at"rdx")=>`(tactic|first
 |(with_reducible first|refine L2.ZfH (λh=>absurd h (by decide)) (λ_=>?_)|refine L2.ZfH (λ_=>?_) (λh=>absurd (by decide) h)|refine L2.ZdS (λh=>absurd (by decide) h) (λ_=>?_)|refine L2.ZdS (λ_=>?_) (λh=>absurd h (by decide)))
 |walk_at"rdk"
 |fail)
local macro_rules|`(tactic|walk_at"c")=>`(tactic|exact⟨rfl,rfl,rfl,by decide +kernel,rfl,by decide +kernel,by decide +kernel⟩)
local macro_rules|`(tactic|walk_at"K")=>`(tactic|(repeat walk_at"rdk"))
local macro_rules|`(tactic|walk_at"K'")=>`(tactic|(repeat' walk_at"rdk"))
local macro_rules|`(tactic|walk_at"W")=>`(tactic|(repeat walk_at"rw"))
local macro_rules|`(tactic|walk_at"W'")=>`(tactic|(repeat' walk_at"rw"))
local macro_rules|`(tactic|walk_at"Z")=>`(tactic|(repeat walk_at"rdz"))
local macro_rules|`(tactic|walk_at"Q")=>`(tactic|(repeat walk_at"rdk"))
local macro_rules|`(tactic|walk_at"Y")=>`(tactic|(repeat walk_at"rz"))
local macro_rules|`(tactic|walk_at"M")=>`(tactic|(repeat walk_at"rdk"))
namespace My
open PySem L2
def szl_1:1<=sizeLine:=nofun
def szl_2:2<=sizeLine:=nofun
def szl_4:4<=sizeLine:=nofun
def szl_11:11<=sizeLine:=nofun
local macro_rules|`(tactic|walk_at"nx")=>`(tactic|try simp only[L2.nox_K,L2.nox_P,L2.nox_w,L2.nox_mg,L2.Zsv,L2.cxOf_K,L2.cxOf_P,L2.cxOf_w,L2.Zvb,L2.Zqj])
noncomputable def top(i:Nat):Stmt:=PySem.Challenge.pw_meterhouse_k68_whole_from_text_to_paper.main.body.getD i (.Pass ⟨0,0,0,0⟩)
noncomputable abbrev tQ(i j:Nat):Stmt:=Zaz (top i) j
structure T_Account(K:Ydg)(mg:XA)(C:XB):Prop where
 k:ClsF K mg "Account" C
 n_coin:NoAttr K C "coin"
 n_purse:NoAttr K C "purse"
 n_count:NoAttr K C "count"
 n_program:NoAttr K C "program"
 n_store:NoAttr K C "store"
structure T_Journal(K:Ydg)(mg:XA)(C:XB):Prop where
 k:ClsF K mg "Journal" C
 n_rooms:NoAttr K C "rooms"
 n_deeds:NoAttr K C "deeds"
structure T_Save(K:Ydg)(mg:XA)(C:XB):Prop where
 k:ClsF K mg "Save" C
 n_slot:NoAttr K C "slot"
 n_place:NoAttr K C "place"
 n_old:NoAttr K C "old"
 n_new:NoAttr K C "new"
structure T_Move(K:Ydg)(mg:XA)(C:XB):Prop where
 k:ClsF K mg "Move" C
 n_slot:NoAttr K C "slot"
 n_taker:NoAttr K C "taker"
 n_many:NoAttr K C "many"
structure T_Note(K:Ydg)(mg:XA)(C:XB):Prop where
 k:ClsF K mg "Note" C
 n_slot:NoAttr K C "slot"
 n_number:NoAttr K C "number"
structure T_Frame(K:Ydg)(mg:XA)(C:XB):Prop where
 k:ClsF K mg "Frame" C
 n_kind:NoAttr K C "kind"
 n_who:NoAttr K C "who"
 n_whose:NoAttr K C "whose"
 n_caller:NoAttr K C "caller"
 n_coin:NoAttr K C "coin"
 n_word:NoAttr K C "word"
 n_given:NoAttr K C "given"
 n_depth:NoAttr K C "depth"
 n_looking:NoAttr K C "looking"
 n_used:NoAttr K C "used"
 n_stack:NoAttr K C "stack"
 n_row:NoAttr K C "row"
 n_steps:NoAttr K C "steps"
 n_end:NoAttr K C "end"
 n_answer:NoAttr K C "answer"
structure T_Stamps(K:Ydg)(mg:XA)(C:XB):Prop where
 k:ClsF K mg "Stamps" C
 n_kept:NoAttr K C "kept"
structure T_House(K:Ydg)(mg:XA)(C:XB):Prop where
 k:ClsF K mg "House" C
 n_rooms:NoAttr K C "rooms"
 n_stamps:NoAttr K C "stamps"
 n_takings:NoAttr K C "takings"
structure T_Desk(K:Ydg)(mg:XA)(C:XB):Prop where
 k:ClsF K mg "Desk" C
 n_house:NoAttr K C "house"
def bd1{R:Xh}(h:∀a,R [a])(us:XH)(hl:us.length=1):R us:=by
 cases us with
 |nil=>cases hl
 |cons a r=>
  cases r with
  |nil=>exact h a
  |cons b r=>cases hl
def bdS{R:Xh}{n:Nat}(h:∀a (r:XH),r.length=n->R (a::r))(us:XH)(hl:us.length=n+1):R us:=by
 cases us with
 |nil=>cases hl
 |cons a r=>exact h a r (Nat.succ.inj hl)
def bd2{R:Xh}(h:∀a b,R [a,b])(us:XH)(hl:us.length=2):R us:=bdS (n:=1) (λa r hr=>bd1 (R:=λr=>R (a::r)) (h a) r hr) us hl
def bd3{R:Xh}(h:∀a b c,R [a,b,c])(us:XH)(hl:us.length=3):R us:=bdS (n:=2) (λa r hr=>bd2 (R:=λr=>R (a::r)) (h a) r hr) us hl
def bd4{R:Xh}(h:∀a b c d,R [a,b,c,d])(us:XH)(hl:us.length=4):R us:=bdS (n:=3) (λa r hr=>bd3 (R:=λr=>R (a::r)) (h a) r hr) us hl
def bd5{R:Xh}(h:∀a b c d e,R [a,b,c,d,e])(us:XH)(hl:us.length=5):R us:=bdS (n:=4) (λa r hr=>bd4 (R:=λr=>R (a::r)) (h a) r hr) us hl
def bd6{R:Xh}(h:∀a0 a1 a2 a3 a4 a5,R [a0,a1,a2,a3,a4,a5])(us:XH)(hl:us.length=6):R us:=bdS (n:=5) (λa r hr=>bd5 (R:=λr=>R (a::r)) (h a) r hr) us hl
def bd7{R:Xh}(h:∀a0 a1 a2 a3 a4 a5 a6,R [a0,a1,a2,a3,a4,a5,a6])(us:XH)(hl:us.length=7):R us:=bdS (n:=6) (λa r hr=>bd6 (R:=λr=>R (a::r)) (h a) r hr) us hl
def bd8{R:Xh}(h:∀a0 a1 a2 a3 a4 a5 a6 a7,R [a0,a1,a2,a3,a4,a5,a6,a7])(us:XH)(hl:us.length=8):R us:=bdS (n:=7) (λa r hr=>bd7 (R:=λr=>R (a::r)) (h a) r hr) us hl
def bd9{R:Xh}(h:∀a0 a1 a2 a3 a4 a5 a6 a7 a8,R [a0,a1,a2,a3,a4,a5,a6,a7,a8])(us:XH)(hl:us.length=9):R us:=bdS (n:=8) (λa r hr=>bd8 (R:=λr=>R (a::r)) (h a) r hr) us hl
def bd10{R:Xh}(h:∀a0 a1 a2 a3 a4 a5 a6 a7 a8 a9,R [a0,a1,a2,a3,a4,a5,a6,a7,a8,a9])(us:XH)(hl:us.length=10):R us:=bdS (n:=9) (λa r hr=>bd9 (R:=λr=>R (a::r)) (h a) r hr) us hl
local macro_rules|`(tactic|walk_at"b")=>`(tactic|(intro _ _ _ _ _ _ us hl;first|exact My.bd1 (R:=λus=>bindArgs _ ⟨us,[]⟩=pure (List.zip _ us)) (λ_=>rfl) us hl|exact My.bd2 (R:=λus=>bindArgs _ ⟨us,[]⟩=pure (List.zip _ us)) (λ_ _=>rfl) us hl|exact My.bd3 (R:=λus=>bindArgs _ ⟨us,[]⟩=pure (List.zip _ us)) (λ_ _ _=>rfl) us hl|exact My.bd4 (R:=λus=>bindArgs _ ⟨us,[]⟩=pure (List.zip _ us)) (λ_ _ _ _=>rfl) us hl|exact My.bd5 (R:=λus=>bindArgs _ ⟨us,[]⟩=pure (List.zip _ us)) (λ_ _ _ _ _=>rfl) us hl|exact My.bd6 (R:=λus=>bindArgs _ ⟨us,[]⟩=pure (List.zip _ us)) (λ_ _ _ _ _ _=>rfl) us hl|exact My.bd7 (R:=λus=>bindArgs _ ⟨us,[]⟩=pure (List.zip _ us)) (λ_ _ _ _ _ _ _=>rfl) us hl))
def sCut(t:TS):TS:=λD U H=>∃P:St->Hp->Prop,t {D with nx:=P} U H/\∀U' H',P U' H'->D.nx U' H'
def Zjp{t:TS}{D:Ends}{U:St}{H:Hp}(P:Xp)(q:t {D with nx:=P} U H)(m:∀U' H',P U' H'->D.nx U' H'):sCut t D U H:=⟨P,q,m⟩
def Zjq{X:Cx}{st:Stmt}{t:TS}(h:PS X st t):PS X st (sCut t):=by
 intro pins s U H D I q;let⟨P,q,m⟩:=q;refine YaZ (h pins s U H {D with nx:=P} I q) (λf s' z=>?_) λ_ _ z=>z;cases f with
 |next=>let⟨U',H',I',q'⟩:=z;exact⟨U',H',I',m _ _ q'⟩
 |brk=>exact z
 |cont=>exact z
 |ret u=>exact z
def keepIt{p:Prop}(h:p):p:=h
def tabP{β:Type}(R:Value->β->Prop):List (Str×Tok×Value)->List (Str×β)->Prop
 |[],[]=>True
 |(x,_,v)::es,(y,b)::t=>x=y/\R v b/\tabP R es t
 |_,_=>False
def Zq9{β:Type}{R:Value->β->Prop}{x y:Str}{k:Tok}{v:XR}{b:β}{es:List (Str×Tok×Value)}{t:List (Str×β)}(e:x=y)(r:R v b)(h:tabP R es t):tabP R ((x,k,v)::es) ((y,b)::t):=⟨e,r,h⟩
theorem Zjr{β:Type}{R:Value->β->Prop}:∀{es:List (Str×Tok×Value)}{t:List (Str×β)},tabP R es t->es.map (·.1)=t.map (·.1)
 |[],[],_=>rfl
 |(x,_,v)::es,(y,b)::t,h=>by rw[Yz,Yz,Zjr h.2.2,h.1]
theorem Zra{β:Type}{R:Value->β->Prop}:∀{es:List (Str×Tok×Value)}{t:List (Str×β)},tabP R es t->(t.map (·.1)).Nodup->∀p∈t,∃v,valueAt (es.map λq=>((Sum.inr q.1:Key),q.2.2)) (.inr p.1)=some v/\R v p.2
 |[],[],_,_,p,h=>nomatch h
 |(x,k,v)::es,(y,b)::t,h,nd,p,hp=>by
  let⟨e,r,h⟩:=h;subst e;rw[Yz,YT]at nd;unfold valueAt;rw[Yz,YaI];by_cases z:x=p.1
  .refine ⟨v,by simp[z],?_⟩;rcases Yh.mp hp with rfl|hp
   .exact r
   .exact absurd (YF.mpr ⟨p,hp,z.symm⟩) nd.1
  .rcases Yh.mp hp with rfl|hp
   .exact absurd rfl z
   .have hd:decide ((Sum.inr x:Key)=Sum.inr p.1)=false:=YD λw=>z (Sum.inr.inj w);rw[hd];exact Zra h nd.2 p hp
def Zix{β:Type}(P:XI)(w:XO)(K:Ydg)(a:XB)(R:Value->β->Prop)(t:List (Str×β)):Prop:=∃vs,ZfG P w K a vs/\∀p∈t,∃v,valueAt vs (.inr p.1)=some v/\R v p.2
def RfN(mg:XA)(v:XR)(f:Str):Prop:=mg f=some v
def RtN{β:Type}(K:Ydg)(f:β->List V)(v:XR)(b:β):Prop:=∃t,v=.ref t/\TupK K t (f b)
noncomputable def iV(l:XD):List V:=l.map V.int
noncomputable def qV(p:Int×Int×Int×Int):List V:=[.int p.1,.int p.2.1,.int p.2.2.1,.int p.2.2.2]
def rtN_mk{β:Type}{K:Ydg}{f:β->List V}{t:XB}{b:β}(h:TupK K t (f b)):RtN K f (.ref t) b:=⟨t,rfl,h⟩
inductive tabE{β:Type}(R:Value->β->Prop):List DictEntry->List (Str×β)->Prop
 |nil:tabE R [] []
 |cons {h:Int} {x y:Str} {k:Tok} {v:XR} {b:β} {es:List DictEntry} {t:List (Str×β)} (e:x=y) (r:R v b) (q:tabE R es t):tabE R (⟨h,.str x k,v⟩::es) ((y,b)::t)
def tabE_P{β:Type}{R:Value->β->Prop}{l:List DictEntry}{t:List (Str×β)}(h:tabE R l t):tabP R (l.filterMap λe=>match e.key with|.str x t=>some (x,t,e.val)|_=>none) t:=by
 induction h with
 |nil=>trivial
 |cons e r _ ih=>exact Zq9 e r ih
def dT_at{β:Type}{R:Value->β->Prop}{t:List (Str×β)}{P:XI}{w:XO}{K:Ydg}{mg:XA}{h:XT}{x:Str}{a:XB}{es:Array DictEntry}{ep:Nat}(X:K.In h)(G:h.Ns mainGlobals mg)(n:PySem.W.nsIn K mainGlobals x=some (some (.ref a)))(lk:K.lookup a=some ⟨.type "dict",none,.dict es ep,#[]⟩)(h2:es=((entsOf es).map (sEnt w)).toArray)(hs:(a==sysModules)=false)(nd:(t.map (·.1)).Nodup)(hh:tabE R es.toList t):∃a,ZaM mg x (.ref a)/\(a==sysModules)=false/\Zix P w K a R t:=
 have hh:=tabE_P hh
 ⟨a,ZfJ X G n,hs,_,Zqb lk h2 (by rw[show(entsOf es).map (·.1)=_ from Zjr hh];exact nd),Zra hh nd⟩
def tabC{P:XI}{w:XO}{K:Ydg}{mg:XA}{base:XT}{vs:Xo}{x f:Str}{k n:Nat}{sp:Sp}(h:∃v,valueAt vs (.inr x)=some v/\RfN mg v f)(c:Cal P w K mg base k f sp)(hk:k<=n):∃fa,valueAt vs (.inr x)=some (.ref fa)/\CalF P w K mg base n fa sp:=by
 let⟨v,e,m⟩:=h;let⟨fa,m',c'⟩:=Cal.mono c (k:=n) hk;cases m.symm.trans m';exact⟨fa,e,c'⟩
noncomputable def sumT:List (Str×Str):=[("add","added"),("minus","lessened"),("times","multiplied"),("over","contained"),("rest","left_over"),("below","is_below"),("same","is_same"),("both","in_both"),("either","in_either"),("unlike","in_just_one"),("up","doubled"),("down","halved")]
noncomputable def doT:List (Str×Str):=[("push","push_row"),("drop","drop_row"),("copy","copy_row"),("swap","swap_row"),("add","reckon_row"),("minus","reckon_row"),("times","reckon_row"),("over","reckon_row"),("rest","reckon_row"),("below","reckon_row"),("same","reckon_row"),("both","reckon_row"),("either","reckon_row"),("unlike","reckon_row"),("up","reckon_row"),("down","reckon_row"),("jump","jump_row"),("jumpif","jumpif_row"),("load","load_row"),("save","save_row"),("me","me_row"),("from","from_row"),("sent","sent_row"),("word","word_row"),("coin","coin_row"),("note","note_row"),("give","give_row"),("fail","fail_row")]
noncomputable def cntT:List (Str×List Int):=[("send",[4,5]),("try",[4,5]),("coin",[1]),("purse",[1]),("count",[1]),("load",[2]),("till",[0]),("top",[0]),("code",[1]),("paper",[1])]
noncomputable def ansT:List (Str×Str):=[("send","send_answer"),("try","try_answer"),("coin","coin_answer"),("purse","purse_answer"),("count","count_answer"),("load","load_answer"),("till","till_answer"),("top","top_answer"),("code","code_answer"),("paper","paper_answer")]
def In64(a:Int):Prop:=0<=a/\a<18446744073709551616
def Zuz(a b:Int):Prop:=In64 a/\In64 b
noncomputable def rkAnd(a b:Int):Int:=Builtin.bitAnd a b
noncomputable def rkXor(a b:Int):Int:=Builtin.bitXor a b
def Zn4{a b:Int}(ha:0<=a)(hb:0<=b):Builtin.bitAnd a b=((a.toNat &&& b.toNat:Nat):Int):=by
 unfold Builtin.bitAnd;rw[YG ha,YG hb]
def ZvO{a b:Int}(ha:0<=a)(hb:0<=b):Builtin.bitOr a b=((a.toNat ||| b.toNat:Nat):Int):=by
 have n1:Builtin.bitNot (Builtin.bitNot a)=a:=by unfold Builtin.bitNot;omega
 have n2:Builtin.bitNot (Builtin.bitNot b)=b:=by unfold Builtin.bitNot;omega
 unfold Builtin.bitOr Builtin.bitAnd;rw[YD (show ¬0<=Builtin.bitNot a by unfold Builtin.bitNot;omega),YD (show ¬0<=Builtin.bitNot b by unfold Builtin.bitNot;omega)];show Builtin.bitNot (Builtin.bitNot _)=_;rw[n1,n2];unfold Builtin.bitNot;omega
def Zrb(A B:Nat):(A &&& B)=(A%2)*(B%2)+2*(A/2 &&& B/2):=by
 have h:=Ycd (A &&& B) 2;rw[Nat.and_div_two]at h;have m:(A &&& B)%2=A%2*(B%2):=by
  have e:(A &&& B)%2=(A%2) &&& (B%2):=by simpa using Nat.and_mod_two_pow (a:=A) (b:=B) (n:=1)
  rw[e];rcases Y8 A with p|p<;>rcases Y8 B with q|q<;>rw[p,q]<;>rfl
 omega
def Zs7(A B:Nat):(A ||| B)=max (A%2) (B%2)+2*(A/2 ||| B/2):=by
 have h:=Ycd (A ||| B) 2;rw[Nat.or_div_two]at h;have m:(A ||| B)%2=max (A%2) (B%2):=by
  have e:(A ||| B)%2=(A%2) ||| (B%2):=by simpa using Nat.or_mod_two_pow (a:=A) (b:=B) (n:=1)
  rw[e];rcases Y8 A with p|p<;>rcases Y8 B with q|q<;>rw[p,q]<;>rfl
 omega
def Zrc(A B:Nat):(A ^^^ B)=(A%2+B%2)%2+2*(A/2 ^^^ B/2):=by
 have h:=Ycd (A ^^^ B) 2;rw[Nat.xor_div_two]at h;have m:(A ^^^ B)%2=(A%2+B%2)%2:=by
  have e:(A ^^^ B)%2=(A%2) ^^^ (B%2):=by simpa using Nat.xor_mod_two_pow (a:=A) (b:=B) (n:=1)
  rw[e];rcases Y8 A with p|p<;>rcases Y8 B with q|q<;>rw[p,q]<;>rfl
 omega
def Zrd:∀(n A B:Nat),A+B<=n->(A &&& B)+(A ||| B)=A+B/\(A &&& B)+(A ^^^ B)=(A ||| B):=by
 intro n;induction n with
 |zero=>
  intro A B h;have hA:A=0:=();have hB:B=0:=();subst hA hB;decide
 |succ n ih=>
  intro A B h;by_cases z:A+B=0
  .have hA:A=0:=();have hB:B=0:=();subst hA hB;decide
  .obtain ⟨i1,i2⟩:=ih (A/2) (B/2) ();have e1:=Zrb A B;have e2:=Zs7 A B;have e3:=Zrc A B;have m:A%2*(B%2)=min (A%2) (B%2):=by
    rcases Y8 A with p|p<;>rcases Y8 B with q|q<;>rw[p,q]<;>rfl
   have g:min (A%2) (B%2)+(A%2+B%2)%2=max (A%2) (B%2)/\min (A%2) (B%2)+max (A%2) (B%2)=A%2+B%2:=by
    rcases Y8 A with p|p<;>rcases Y8 B with q|q<;>rw[p,q]<;>decide
   rw[m]at e1;constructor
   .rw [e1,e2,Nat.add_add_add_comm,<- Nat.mul_add,i1,g.2,Nat.mul_add,Nat.add_add_add_comm,Nat.mod_add_div,Nat.mod_add_div]
   .rw [e1,e2,e3,Nat.add_add_add_comm,<- Nat.mul_add,i2,g.1]
def Zs8{a b:Int}(ha:0<=a)(hb:0<=b):Builtin.bitXor a b=((a.toNat ^^^ b.toNat:Nat):Int):=by
 unfold Builtin.bitXor;rw[Zn4 ha hb,ZvO ha hb];have:=(Zrd _ a.toNat b.toNat (Yk _)).2;omega
def lt64{a:Int}(h:In64 a):a.toNat<2^64:=by
 let⟨h0,h1⟩:=h;omega
def in_and{a b:Int}(h:Zuz a b):In64 (rkAnd a b):=by
 have:=Nat.and_lt_two_pow a.toNat (lt64 h.2);unfold rkAnd;rw[Zn4 h.1.1 h.2.1];exact⟨(),()⟩
def in_xor{a b:Int}(h:Zuz a b):In64 (rkXor a b):=by
 have:=Nat.xor_lt_two_pow (lt64 h.1) (lt64 h.2);unfold rkXor;rw[Zs8 h.1.1 h.2.1];exact⟨(),()⟩
def Zg0(c:Int):In64 (c%18446744073709551616):=⟨(),()⟩
def sp2L:Sp:=λvs H Q _=>∃a b,vs=[.int a,.int b]/\In64 a/\In64 b/\∀z,In64 z->Q (.int z) H
def Zs9:Sp:=λvs H Q _=>∃x a b,vs=[.str x,.int a,.int b]/\x∈(["add","both","unlike"]:XN)/\In64 a/\In64 b/\∀z,In64 z->Q (.int z) H
def SumsOk(P:XI)(w:XO)(K:Ydg)(mg:XA)(base:XT)(aS:XB):Prop:=
 ∃vs,ZfG P w K aS vs/\∀x∈(["add","both","unlike"]:XN),∃fa,valueAt vs (.inr x)=some (.ref fa)/\CalF P w K mg base 1 fa sp2L
noncomputable def RT:List (Str×Int×Int×Int×Int):=[("push",0,1,1,1),("drop",1,0,1,1),("copy",1,2,1,1),("swap",1,1,1,1),("add",2,1,1,1),("minus",2,1,1,1),("times",2,1,2,2),("over",2,1,2,2),("rest",2,1,2,2),("below",2,1,1,1),("same",2,1,1,1),("both",2,1,1,1),("either",2,1,1,1),("unlike",2,1,1,1),("up",2,1,1,1),("down",2,1,1,1),("jump",0,0,1,1),("jumpif",1,0,1,1),("load",1,1,3,3),("save",2,0,5,12),("me",0,1,1,1),("from",0,1,1,1),("sent",0,1,1,1),("word",0,1,1,1),("coin",1,1,3,3),("note",1,0,4,4),("call",4,2,8,12),("borrow",3,2,6,6),("look",3,2,6,6),("give",1,0,1,1),("fail",1,0,1,1)]
def Zre(P:XI)(w:XO)(K:Ydg)(aT:XB):Prop:=
 ∃vs,ZfG P w K aT vs/\∀x t l p d,RT.lookup x=some (t,l,p,d)->∃ta,valueAt vs (.inr x)=some (.ref ta)/\TupK K ta [.int t,.int l,.int p,.int d]
noncomputable def WS:List Str:=["push","drop","copy","swap","add","minus","times","over","rest","below","same","both","either","unlike","up","down","jump","jumpif","load","save","me","from","sent","word","coin","note","call","borrow","look","give","fail"]
noncomputable def NMS:List Str:=["push","copy","swap","jump","jumpif"]
structure FxA(K:Ydg)(mg:XA):Prop where
 L:ZaC K mg "added" (top 59)
 M:ZaC K mg "in_both" (top 66)
 N:ZaC K mg "in_just_one" (top 68)
 S:ZaC K mg "reckon" (top 72)
 Z:ZaC K mg "reach" (top 20)
 ab:ZaC K mg "takes" (top 21)
 ac:ZaC K mg "leaves" (top 22)
 ah:ZaC K mg "shift_coin" (top 49)
 aP:ZaC K mg "brings_coin" (top 97)
 aQ:ZaC K mg "fills_place" (top 98)
 aU:ZaC K mg "row_price" (top 99)
 aV:ZaC K mg "is_barred" (top 100)
 aX:ZaC K mg "end_ahead_of" (top 101)
 aY:ZaC K mg "write_step" (top 74)
 aZ:ZaC K mg "account_at" (top 44)
 a0:ZaC K mg "push_row" (top 75)
 a1:ZaC K mg "drop_row" (top 76)
 a2:ZaC K mg "reckon_row" (top 79)
 a3:ZaC K mg "jumpif_row" (top 81)
 a4:ZaC K mg "sent_row" (top 86)
 a5:ZaC K mg "word_row" (top 87)
 a6:ZaC K mg "give_row" (top 90)
 a7:ZaC K mg "fail_row" (top 91)
 a8:ZaC K mg "load_row" (top 82)
 a9:ZaC K mg "coin_row" (top 88)
 ba:ZaC K mg "save_row" (top 83)
 bb:ZaC K mg "note_row" (top 89)
 bc:ZaC K mg "other_call" (top 102)
 bd:ZaC K mg "end_ahead_of_call" (top 103)
 bg:ZaC K mg "do_row" (top 93)
 bi:ZaC K mg "enter" (top 108)
 bj:ZaC K mg "row_numbers" (top 42)
 bl:ZaC K mg "mix" (top 111)
 bn:ZaC K mg "stamp_pairs" (top 112)
 bo:ZaC K mg "stamp" (top 113)
 bp:ZaC K mg "next_level" (top 114)
 bq:ZaC K mg "levels" (top 115)
 bv:ZaC K mg "numbered" (top 19)
 bx:ZaC K mg "is_number" (top 27)
 bz:ZaC K mg "right_number" (top 34)
 bA:ZaC K mg "right_row" (top 35)
 bB:ZaC K mg "right" (top 36)
 bM:ZaC K mg "check_slot" (top 123)
 bN:ZaC K mg "check_numbers" (top 124)
 bO:ZaC K mg "standing" (top 125)
 bP:ZaC K mg "check_letter" (top 126)
 bS:ZaC K mg "carried" (top 127)
 b8:ZaC K mg "well_written" (top 28)
structure FxB(K:Ydg)(mg:XA):Prop where
 cb:ZaC K mg "number_of" (top 29)
 cc:ZaC K mg "read_row" (top 37)
 cd:ZaC K mg "shown_row" (top 39)
 ce:ZaC K mg "shown" (top 40)
 cf:ZaC K mg "read" (top 38)
 cg:ZaC K mg "shown_numbers" (top 132)
 ch:ZaC K mg "show_paper" (top 133)
 ci:ZaC K mg "neighbour" (top 116)
 cm:ZaC K mg "coin_answer" (top 149)
 cn:ZaC K mg "purse_answer" (top 150)
 co:ZaC K mg "count_answer" (top 151)
 cp:ZaC K mg "till_answer" (top 153)
 cq:ZaC K mg "top_answer" (top 154)
 cr:ZaC K mg "paper_answer" (top 156)
 cs:ZaC K mg "load_answer" (top 152)
 ct:ZaC K mg "code_answer" (top 155)
 cu:ZaC K mg "letter_answer" (top 145)
 cv:ZaC K mg "word_of" (top 146)
 cw:ZaC K mg "send_answer" (top 147)
 cx:ZaC K mg "try_answer" (top 148)
 cA:ZaC K mg "read_paper" (top 138)
 cE:ZaC K mg "admit_answer" (top 144)
 cL:ZaC K mg "way_pairs" (top 161)
 cM:ZaC K mg "mixed" (top 162)
 cN:ZaC K mg "risen" (top 163)
 cO:ZaC K mg "place_fits" (top 164)
 cP:ZaC K mg "holds" (top 165)
 cQ:ZaC K mg "_law_cell_at" (top 167)
 cR:ZaC K mg "_law_place" (top 169)
 cS:ZaC K mg "_law_slot" (top 170)
 cT:ZaC K mg "_law_other_call" (top 171)
 cU:ZaC K mg "_law_part" (top 172)
 cV:ZaC K mg "_law_program" (top 173)
 cW:ZaC K mg "_law_programs" (top 174)
 cX:ZaC K mg "_law_slots" (top 168)
 cY:ZaC K mg "_law_letter" (top 175)
 cZ:ZaC K mg "_law_words" (top 176)
 c0:ZaC K mg "_law_code" (top 177)
 c1:ZaC K mg "_law_number" (top 178)
 c2:ZaC K mg "_law_says" (top 179)
 c3:ZaC K mg "_law_coded" (top 180)
 c4:ZaC K mg "_law_stored" (top 181)
 c5:ZaC K mg "_law_says_all" (top 182)
 c6:ZaC K mg "_law_told" (top 183)
 c7:ZaC K mg "_law_letters" (top 184)
 c9:ZaC K mg "call_row" (top 104)
 da:ZaC K mg "go_row" (top 105)
 dc:ZaC K mg "go_on" (top 106)
 dd:ZaC K mg "go" (top 107)
structure Fx(P:XI)(w:XO)(K:Ydg)(mg:XA)(base:XT)(aS aR aT qa cSave qd cNote qb qc aD aW cStamps aN cHouse cDesk aA aK aC:XB)(tkS tkT tkF:Tok):Prop extends FxA K mg,FxB K mg where
 o:ZaM mg "WIDE" (.int 18446744073709551616)
 O:Zix P w K aS (RfN mg) sumT
 Uq:ZaM mg "SUMS" (.ref aS)
 X:TupK K aR ((["copy","swap"]:XN).map V.str)
 aa:ZaM mg "REACHING" (.ref aR)
 s:Zre P w K aT
 p:ZaM mg "ROWS" (.ref aT)
 ad:Zqk K mg "price" (top 23) #[.bool false]
 ae:ZaF K qa "__init__" "Account.__init__" (tQ 43 0)
 c:T_Account K mg qa
 m:mg "list"=none
 af:ZaF K qa "loaded" "Account.loaded" (tQ 43 1)
 ag:ZaF K qa "keep" "Account.keep" (tQ 43 2)
 ai:ZaF K cSave "__init__" "Save.__init__" (tQ 51 0)
 e:T_Save K mg cSave
 aj:ZaF K qd "__init__" "Move.__init__" (tQ 52 0)
 f:T_Move K mg qd
 ak:ZaF K cNote "__init__" "Note.__init__" (tQ 53 0)
 j:T_Note K mg cNote
 al:ZaF K cSave "do" "Save.do" (tQ 51 1)
 am:ZaF K qd "do" "Move.do" (tQ 52 1)
 an:ZaF K cNote "do" "Deed.do" (tQ 50 0)
 ao:ZaF K cSave "undo" "Save.undo" (tQ 51 2)
 ap:ZaF K qd "undo" "Move.undo" (tQ 52 2)
 aq:ZaF K cNote "undo" "Deed.undo" (tQ 50 1)
 ar:ZaF K qb "__init__" "Journal.__init__" (tQ 46 0)
 g:T_Journal K mg qb
 as:ZaF K qb "mark" "Journal.mark" (tQ 46 2)
 d:mg "len"=none
 au:ZaF K qb "write" "Journal.write" (tQ 46 1)
 av:ZaF K qb "back" "Journal.back" (tQ 46 3)
 aw:mg "max"=none
 ax:ZaF K cSave "told" "Save.told" (tQ 51 3)
 ay:ZaF K qd "told" "Move.told" (tQ 52 3)
 az:ZaF K cNote "told" "Note.told" (tQ 53 1)
 aB:ZaF K qb "told" "Journal.told" (tQ 46 4)
 aE:ZaF K qc "left" "Frame.left" (tQ 56 1)
 a:T_Frame K mg qc
 aF:ZaF K qc "short_for" "Frame.short_for" (tQ 56 2)
 aG:ZaF K qc "full_behind" "Frame.full_behind" (tQ 56 3)
 aH:ZaM mg "MOST_ON_STACK" (.int 24)
 aI:ZaF K qc "taken" "Frame.taken" (tQ 56 4)
 k:mg "range"=none
 aJ:mg "reversed"=none
 aL:ZaF K qc "lay" "Frame.lay" (tQ 56 5)
 aM:ZaF K qc "finish" "Frame.finish" (tQ 56 6)
 aO:ZaF K qc "tree" "Frame.tree" (tQ 56 7)
 be:ZaM mg "MOST_CALLS" (.int 8)
 bf:Zix P w K aD (RfN mg) doT
 bh:ZaM mg "DOINGS" (.ref aD)
 q:TupK K aW (WS.map V.str)
 y:Tup0 K aW
 t:ZaM mg "WORDS" (.ref aW)
 bk:ZaF K qa "plain" "Account.plain" (tQ 43 3)
 r:mg "sorted"=none
 bm:ZaM mg "MIX" (.int 2305843009213693951)
 br:ZaF K cStamps "__init__" "Stamps.__init__" (tQ 117 0)
 i:T_Stamps K mg cStamps
 bs:ZaF K cStamps "put" "Stamps.put" (tQ 117 1)
 bt:ZaF K cStamps "top" "Stamps.top" (tQ 117 2)
 bu:TupK K aN (NMS.map V.str)
 bw:ZaM mg "NUMBERED" (.ref aN)
 z:ZaM mg "DEEPEST" (.int 15)
 A:mg "all"=none
 bC:ZaM mg "MOST_ROWS" (.int 60)
 bD:ZaF K cSave "worth" "Save.worth" (tQ 51 4)
 bE:ZaM mg "FREED" (.int 4)
 bF:ZaF K qd "worth" "Deed.worth" (tQ 50 3)
 bG:ZaF K cNote "worth" "Deed.worth" (tQ 50 3)
 bH:ZaF K cSave "touched" "Save.touched" (tQ 51 5)
 bI:ZaF K qd "touched" "Move.touched" (tQ 52 4)
 u:mg "set"=none
 bJ:ZaF K cNote "touched" "Deed.touched" (tQ 50 4)
 bK:ZaF K qb "worth" "Journal.worth" (tQ 46 5)
 n:mg "sum"=none
 bL:ZaF K qb "touched" "Journal.touched" (tQ 46 6)
 v:ZaM mg "SLOTS" (.int 16)
 bQ:ZaM mg "LEAST_LIMIT" (.int 10)
 bR:ZaM mg "MOST_LIMIT" (.int 5000)
 B:mg "min"=none
 C:ZaM mg "LETTER_PRICE" (.int 10)
 bT:ZaF K cHouse "accounts" "House.accounts" (tQ 128 1)
 b:T_House K mg cHouse
 bU:ZaF K cHouse "check_sums" "House.check_sums" (tQ 128 2)
 bV:ZaF K cHouse "plain" "House.plain" (tQ 128 14)
 bW:ZaF K cHouse "stamp_anew" "House.stamp_anew" (tQ 128 3)
 bX:ZaF K cHouse "top" "House.top" (tQ 128 16)
 bY:ZaF K cHouse "till" "House.till" (tQ 128 13)
 bZ:ZaF K cHouse "charge" "House.charge" (tQ 128 5)
 b0:ZaF K cHouse "coin_of" "House.coin_of" (tQ 128 8)
 b1:ZaF K cHouse "purse_of" "House.purse_of" (tQ 128 9)
 b2:ZaF K cHouse "count_of" "House.count_of" (tQ 128 10)
 b3:ZaF K cHouse "program_of" "House.program_of" (tQ 128 12)
 b4:ZaF K cHouse "admit" "House.admit" (tQ 128 4)
 b5:ZaF K cHouse "__init__" "House.__init__" (tQ 128 0)
 b6:Zb4 K cHouse "send" "House.send" (tQ 128 6) #[.int 0 tkS]
 b7:Zb4 K cHouse "tried" "House.tried" (tQ 128 7) #[.int 0 tkT]
 b9:ZaM mg "MOST_FIGURES" (.int 20)
 ca:ZaM mg "FIGURES_figures" (.str "0123456789")
 D:mg "int"=none
 h:mg "str"=none
 F:ZaM mg "PARTING_codes" (.str "; ")
 G:ZaM mg "PARTING_notes" (.str " / ")
 cj:ZaF K cStamps "way" "Stamps.way" (tQ 117 3)
 ck:ZaF K cHouse "paper" "House.paper" (tQ 128 15)
 cl:ZaF K cHouse "loaded" "House.loaded" (tQ 128 11)
 cy:Zi7 K mg "read_number_notes" "read_number" (top 134)
 cz:Zi7 K mg "read_numbers_notes" "read_numbers" (top 136)
 cB:ZaM mg "MOST_STAMPS" (.int 60)
 cC:Zi7 K mg "read_number_desk" "read_number" (top 140)
 cD:Zi7 K mg "read_numbers_desk" "read_numbers" (top 142)
 cF:ZaF K cDesk "__init__" "Desk.__init__" (tQ 159 0)
 l:T_Desk K mg cDesk
 cG:(aA==sysModules)=false
 cH:Zix P w K aA (RfN mg) ansT
 cI:Zix P w K aK (RtN K iV) cntT
 cJ:ZaF K cDesk "say" "Desk.say" (tQ 159 1)
 I:ZaM mg "ANSWERS" (.ref aA)
 cK:ZaM mg "COUNTS" (.ref aK)
 x:mg "isinstance"=none
 J:Zb4 K qc "__init__" "Frame.__init__" (tQ 56 0) #[.int 1 tkF,.bool false]
 c8:TupK K aC ((["call","borrow","look"]:XN).map V.str)
 db:ZaM mg "CALLING" (.ref aC)
section
variable{P:XI}{w:XO}{K:Ydg}{mg:XA}{base:XT}{aS aR aT qa cSave qd cNote qb qc aD aW cStamps aN cHouse cDesk aA aK aC:XB}{tkS tkT tkF:Tok}(Y:Fx P w K mg base aS aR aT qa cSave qd cNote qb qc aD aW cStamps aN cHouse cDesk aA aK aC tkS tkT tkF)
abbrev mY(_:Fx P w K mg base aS aR aT qa cSave qd cNote qb qc aD aW cStamps aN cHouse cDesk aA aK aC tkS tkT tkF):=Cal P w K mg base
abbrev iY(_:Fx P w K mg base aS aR aT qa cSave qd cNote qb qc aD aW cStamps aN cHouse cDesk aA aK aC tkS tkT tkF):=MCal P w K mg base
abbrev jY(_:Fx P w K mg base aS aR aT qa cSave qd cNote qb qc aD aW cStamps aN cHouse cDesk aA aK aC tkS tkT tkF):=ICal P w K mg base
include Y
def Ztb:mY Y 1 "added" sp2L:=by
 refine Zax ["one","other"] Y.L ?_
 .symm;let⟨a,b,rfl,⟨ha0,ha1⟩,⟨hb0,hb1⟩,k⟩:=h;refine⟨_,(Wb (Zaw ZaR (Zaw Za0 (pv 0) (pv 1)) (ZaW rfl Y.o))),?_⟩;left;repeat' walk_at"rdk"
  exact k _ (Zg0 _)
def ZoZ:mY Y 1 "in_both" sp2L:=by
 refine Zax ["one","other"] Y.M ?_
 .symm;let⟨a,b,rfl,⟨ha0,ha1⟩,⟨hb0,hb1⟩,k⟩:=h;refine⟨_,(Wb (Zaw op_and (pv 0) (pv 1))),?_⟩;left;repeat' walk_at"rdk"
  exact k _ (in_and ⟨⟨ha0,ha1⟩,hb0,hb1⟩)
def Ziz:mY Y 1 "in_just_one" sp2L:=by
 refine Zax ["one","other"] Y.N ?_
 .symm;let⟨a,b,rfl,⟨ha0,ha1⟩,⟨hb0,hb1⟩,k⟩:=h;refine⟨_,(Wb (Zaw op_xor (pv 0) (pv 1))),?_⟩;left;repeat' walk_at"rdk"
  exact k _ (in_xor ⟨⟨ha0,ha1⟩,hb0,hb1⟩)
def ZvP:SumsOk P w K mg base aS:=by
 let⟨vs,dd,al⟩:=Y.O;refine⟨_,dd,λx h=>?_⟩;simp only[Yh,YL,Yah]at h;rcases h with rfl|rfl|rfl
 .exact tabC (al ("add","added") (by decide +kernel)) (Ztb Y) (Yk _)
 .exact tabC (al ("both","in_both") (by decide +kernel)) (ZoZ Y) (Yk _)
 .exact tabC (al ("unlike","in_just_one") (by decide +kernel)) (Ziz Y) (Yk _)
def Zrg:mY Y 2 "reckon" Zs9:=by
 refine Zax ["word","one","other"] Y.S ?_
 .symm;let⟨x,a,b,rfl,hx,ha,hb,k⟩:=h;refine⟨_,(Wb (ZjG (k:=1) (hr.mono nofun) (Zf4 (ZaW rfl Y.Uq) (pv 0) (λ_ _=>rfl)) (Zaa (pv 1) (Wa (pv 2))))),?_⟩;left;let⟨ws,dk,al⟩:=(ZvP Y);let⟨fa,hv,cf⟩:=al x hx;refine Zum ?_;show tCallV _ _ _ _ _ _ _ _ _ _ _;refine⟨_,rfl,aS,ws,.inr x,.ref fa,.ref fa,rfl,rfl,dk,hv,rfl,fa,_,rfl,cf,?_⟩;walk_at"Q";exact⟨a,b,rfl,ha,hb,k⟩
omit Y
noncomputable def rowV(x:Str)(n:XS):List V:=rowVs (x,n)
noncomputable def ZcI(x:Str)(n:XS):Option Int:=if inS x ["copy","swap"]=true then n else some 0
def Zb9(K:Ydg)(H:Hp)(p:XB)(x:Str)(n:XS):Prop:=SqT K H p (rowV x n)
def ZmP{x:Str}{n:XS}:atI (rowV x n) 0=some (.str x):=by cases n<;>rfl
def ZvQ(K:Ydg):Sp:=λvs H Q _=>∃p x n r,vs=[.ref p]/\Zb9 K H p x n/\ZcI x n=some r/\Q (.int r) H
def ZvR(K:Ydg):Sp:=λvs H Q _=>∃p x n r t l pr d,vs=[.ref p]/\Zb9 K H p x n/\ZcI x n=some r/\RT.lookup x=some (t,l,pr,d)/\Q (.int (t+r)) H
def Ztc(K:Ydg):Sp:=λvs H Q _=>∃p x n r t l pr d,vs=[.ref p]/\Zb9 K H p x n/\ZcI x n=some r/\RT.lookup x=some (t,l,pr,d)/\Q (.int (l+r)) H
def ZvS(K:Ydg):Sp:=λvs H Q _=>∃p x n t l pr d b,vs=[.ref p,.bl b]/\Zb9 K H p x n/\RT.lookup x=some (t,l,pr,d)/\Q (.int (if b=true then d else pr)) H
def ZvT{P:XI}{w:XO}{K:Ydg}{mg:XA}{x:Str}(h:∃a,ZaM mg x (.ref a)/\(a==sysModules)=false/\Zix P w K a (RtN K qV) RT):∃a,ZaM mg x (.ref a)/\Zre P w K a:=by
 let⟨a,g,_,vs,d,al⟩:=h;refine⟨a,g,vs,d,λx t l p dd hx=>?_⟩;let⟨v,e,ta,rfl,q⟩:=al (x,t,l,p,dd) (Zld hx);exact⟨ta,e,q⟩
local macro_rules|`(tactic|walk_at"rw")=>`(tactic|first
 |walk_at"rdk"
 |((with_reducible refine' L2.Zlg ?h ?e ?_);(case h=>assumption);(case e=>exact My.ZmP))
 |fail)
local macro_rules|`(tactic|walk_at"rz")=>`(tactic|first
 |((with_reducible refine L2.ZfH (λ_=>?_) (λ_=>?_))<;>(try (exfalso;omega (splitNatSub:=true))))
 |((with_reducible refine L2.ZdS (λ_=>?_) (λ_=>?_))<;>(try (exfalso;omega (splitNatSub:=true))))
 |walk_at"rw"
 |fail)
def Ztf:FnScope ["row","dear"] ["row","dear"] (Zae (top 23)):=by walk_at"c"
include Y
def Zn5:mY Y 1 "reach" (ZvQ K):=by
 refine Zax ["row"] Y.Z ?_
 .symm;let⟨p,x,n,r,rfl,hp,hr',k⟩:=h;refine⟨_,(Zac (ZaG (Zas ZcP (Zaq ZaK (pv 0) Zag) (ZaW rfl Y.aa) rfl) (Wb (Zaq ZaK (pv 0) Zag)) Zat) (Wb Zag)),?_⟩;left;walk_at"Q";refine Zlg hp ZmP ?_;walk_at"Q";refine Zny (Y.X.sqt H) ?_;walk_at"Q";unfold ZcI at hr';cases e:inS x ["copy","swap"]with
  |true=>
   rw[e,if_pos rfl]at hr';subst hr';walk_at"Q";first|exact k|(refine Zlg hp rfl ?_;exact k)
  |false=>
   rw[e,if_neg nofun]at hr';cases hr';walk_at"Q";exact k
def ZjZ:mY Y 2 "takes" (ZvR K):=by
 refine Zax ["row"] Y.ab ?_
 .symm;let⟨p,x,n,r,t,l,pr,d,rfl,hp,hr',ht,k⟩:=h;refine⟨_,(Wb (Zaw Za0 (Zaq ZaK (Zf4 (ZaW rfl Y.p) (ZcE ZaK (pv 0) Zag (λ_ _=>rfl)) (λ_ _=>rfl)) Zag) (Zam (Zn5 Y) (Wa (pv 0))))),?_⟩;left;let⟨ws,dk,al⟩:=Y.s;let⟨ta,hv,tk⟩:=al x t l pr d ht;have tk':=tk.sqt H;right;refine Zmv (v:=.ref ta) dk hv rfl ?_;right;refine⟨p,x,n,r,rfl,hp,hr',?_⟩;right;exact k
def Zri:mY Y 2 "leaves" (Ztc K):=by
 refine Zax ["row"] Y.ac ?_
 .symm;let⟨p,x,n,r,t,l,pr,d,rfl,hp,hr',ht,k⟩:=h;refine⟨_,(Wb (Zaw Za0 (Zaq ZaK (Zf4 (ZaW rfl Y.p) (ZcE ZaK (pv 0) Zag (λ_ _=>rfl)) (λ_ _=>rfl)) Zag) (Zam (Zn5 Y) (Wa (pv 0))))),?_⟩;left;let⟨ws,dk,al⟩:=Y.s;let⟨ta,hv,tk⟩:=al x t l pr d ht;have tk':=tk.sqt H;right;refine Zmv (v:=.ref ta) dk hv rfl ?_;right;refine⟨p,x,n,r,rfl,hp,hr',?_⟩;right;exact k
def Ztg:CalD P w K mg base 1 "price" (ZvS K) []:=by
 let⟨f,fd,F,m⟩:=Y.ad;refine⟨f,fd,_,[],m,F.fn Ztf (λvs H Q E h=>?_) (λcdv A outer s H vs Q E hr h=>?_),F.kp,F.binds (ps:=["row","dear"]) [] (λT kV doc pm an cdv ct us hl=>bd2 (R:=λus=>∃k:Option (Array Value)->Sem (List (Str×Value)),bindArgs _ ⟨us,[]⟩=seqItems? (.ref T) >>=k/\k (some _)=pure (List.zip _ (us++[]))) (λ_ _=>⟨_,rfl,rfl⟩) us (by simpa using hl)),.nil⟩
 .obtain ⟨p,x,n,t,l,pr,d,b,rfl,_⟩:=h;rfl
 .obtain ⟨p,x,n,t,l,pr,d,b,rfl,hp,ht,k⟩:=h;refine⟨_,(Zac (ZaG (ZbN (pv 1)) (Wb (Zaq ZaK (Zf4 (ZaW rfl Y.p) (ZcE ZaK (pv 0) Zag (λ_ _=>rfl)) (λ_ _=>rfl)) Zag)) Zat) (Wb (Zaq ZaK (Zf4 (ZaW rfl Y.p) (ZcE ZaK (pv 0) Zag (λ_ _=>rfl)) (λ_ _=>rfl)) Zag))),?_⟩;left;let⟨ws,dk,al⟩:=Y.s;let⟨ta,hv,tk⟩:=al x t l pr d ht;have tk':=tk.sqt H;right;cases b with
  |true=>
   right;refine Zmv (v:=.ref ta) dk hv rfl ?_;right;exact k
  |false=>
   right;refine Zmv (v:=.ref ta) dk hv rfl ?_;right;exact k
omit Y
noncomputable def accF(c p n:Int)(pr st:XB):List (Str×V):=[("coin",.int c),("purse",.int p),("count",.int n),("program",.ref pr),("store",.ref st)]
structure AcAt(K:Ydg)(C:XB)(H:Hp)(a dx pr st:XB)(c p n:Int)(rs:XW)(f:Xf)(m:Nat):Prop where
 ob:H a=some (.ins C dx (accF c p n pr st))
 pg:∃xs,H pr=some (.lst xs)/\RowsAt K H rs xs
 sto:StoreAt H st f m
inductive spInit(K:Ydg)(C:XB)(vs:XF)(H:Hp)(Q:VK)(E9:XK):Prop
 |mk(a dx pr0:XB)(c p:Int)(xs:XF)(rs:XW):vs=[.ref a,.int c,.int p,.ref pr0]->H a=some (.ins C dx [])->SqL K H pr0 xs->RowsAt K H rs xs->(∀(pr st:XB)(H':Hp),H pr=none->H st=none->pr≠st->AcAt K C H' a dx pr st c p 0 rs (λ_=>0) 0->(∀b o,H b=some o->b≠a->H' b=some o)->Q .non H')->spInit K C vs H Q E9
inductive Zth(K:Ydg)(C:XB)(vs:XF)(H:Hp)(Q:VK)(E9:XK):Prop
 |mk(a dx pr st:XB)(c p n:Int)(rs:XW)(f:Xf)(m:Nat)(i:Int):vs=[.ref a,.int i]->AcAt K C H a dx pr st c p n rs f m->Q (.int (f i)) H->Zth K C vs H Q E9
inductive spKeep(K:Ydg)(C:XB)(vs:XF)(H:Hp)(Q:VK)(E9:XK):Prop
 |mk(a dx pr st:XB)(c p n:Int)(rs:XW)(f:Xf)(m:Nat)(i v:Int):vs=[.ref a,.int i,.int v]->AcAt K C H a dx pr st c p n rs f m->m<=1000000->(∀H',(∀b,b≠st->H' b=H b)->StoreAt H' st (putFn f i v) (m+1)->Q .non H')->spKeep K C vs H Q E9
def AcAt.nd{K:Ydg}{C:XB}{H H':Hp}{a dx pr st:XB}{c p n:Int}{rs:XW}{f g:Xf}{m m':Nat}(h:AcAt K C H a dx pr st c p n rs f m)(s:SameND H H')(e:StoreAt H' st g m'):AcAt K C H' a dx pr st c p n rs g m':=
 ⟨s _ _ h.ob (by intro _ z;cases z),let⟨xs,e1,e2⟩:=h.pg;⟨xs,s _ _ e1 (by intro _ z;cases z),e2.keep s.imm⟩,e⟩
def SameND.but{H H':Hp}{st:XB}{kvs:XU}(h:H st=some (.dK kvs))(k:∀b,b≠st->H' b=H b):SameND H H':=λb u e n=>by
 rw[k b (λz=>by rw[z,h]at e;exact n kvs (Y2 e).symm)];exact e
structure AcI where
 a:Addr
 dx:Addr
 pr:Addr
 st:Addr
abbrev XC:=Nat->Option AcI
structure AcS where
 coin:Int
 purse:Int
 count:Int
 rows:List Row
 store:Int->Int
abbrev XL:=Nat->AcS
noncomputable def roomV:Option AcI->V
 |none=>.non
 |some x=>.ref x.a
def Acc(K:Ydg)(C:XB)(H:Hp)(x:AcI)(S:AcS)(m:Nat):Prop:=AcAt K C H x.a x.dx x.pr x.st S.coin S.purse S.count S.rows S.store m
structure Rooms(K:Ydg)(C:XB)(H:Hp)(R:XB)(A:XC)(S:XL)(m:Nat):Prop where
 ob:H R=some (.lst ((List.range 16).map λi=>roomV (A i)))
 ac:∀i x,i<16->A i=some x->Acc K C H x (S i) m
 da:∀i j x y,i<16->j<16->A i=some x->A j=some y->x.a=y.a->i=j
 ds:∀i j x y,i<16->j<16->A i=some x->A j=some y->x.st=y.st->i=j
noncomputable def setS(S:XL)(i:Nat)(v:AcS):Nat->AcS:=λj=>if j=i then v else S j
def Rooms.at{K:Ydg}{C:XB}{H:Hp}{R:XB}{A:XC}{S:XL}{m:Nat}(r:Rooms K C H R A S m){i:Nat}(hi:i<16){x:AcI}(hx:A i=some x):atI ((List.range 16).map λi=>roomV (A i)) (i:Int)=some (.ref x.a):=
 ZaL (i:=i) (by rw[Yb,Y0 hi];show some (roomV (A i))=_;rw[hx];rfl) rfl
def Acc.le{K:Ydg}{C:XB}{H:Hp}{x:AcI}{S:AcS}{m m':Nat}(h:Acc K C H x S m)(e:m<=m'):Acc K C H x S m':=⟨h.ob,h.pg,h.sto.le e⟩
def Rooms.keep{K:Ydg}{C:XB}{H H':Hp}{R:XB}{A:XC}{S:XL}{m:Nat}(r:Rooms K C H R A S m){i:Nat}(hi:i<16){x:AcI}(hx:A i=some x)(k:∀b,b≠x.st->H' b=H b){p v:Int}(e:StoreAt H' x.st (putFn (S i).store p v) (m+1)) :
  Rooms K C H' R A (setS S i {S i with store:=putFn (S i).store p v}) (m+1):=by
 have ai:=r.ac i x hi hx;let⟨kvs,hs,_⟩:=ai.sto;have nd:=SameND.but hs k;refine⟨by rw[k R (Za3 r.ob hs nofun)];exact r.ob,λj y hj hy=>?_,r.da,r.ds⟩;unfold setS;by_cases z:j=i
 .subst z;rw[hx]at hy;cases hy;rw[if_pos rfl];exact AcAt.nd ai nd e
 .rw [if_neg z];have aj:=(r.ac j y hj hy).le (Yaq m);have hne:y.st≠x.st:=λq=>z (r.ds j i y x hj hi hy hx q);exact AcAt.nd aj nd (aj.sto.same (k _ hne))
def Rooms.coin{K:Ydg}{C:XB}{H:Hp}{R:XB}{A:XC}{S:XL}{m:Nat}(r:Rooms K C H R A S m){i:Nat}(hi:i<16){x:AcI}(hx:A i=some x)(c:Int) :
  Rooms K C (upd H x.a (.ins C x.dx (accF c (S i).purse (S i).count x.pr x.st))) R A (setS S i {S i with coin:=c}) m:=by
 have ai:=r.ac i x hi hx;have im:SameI H (upd H x.a (.ins C x.dx (accF c (S i).purse (S i).count x.pr x.st))):=SameI.upd ai.ob Zbv;refine⟨by rw[Zaj (Za3 r.ob ai.ob nofun)];exact r.ob,λj y hj hy=>?_,r.da,r.ds⟩;have aj:=r.ac j y hj hy;let⟨xs,e1,e2⟩:=aj.pg;let⟨kvs,e3,e4⟩:=aj.sto;have f1:(upd H x.a (.ins C x.dx (accF c (S i).purse (S i).count x.pr x.st))) y.pr=some (.lst xs):=by rw[Zaj (Za3 e1 ai.ob nofun)];exact e1
 have f2:(upd H x.a (.ins C x.dx (accF c (S i).purse (S i).count x.pr x.st))) y.st=some (.dK kvs):=by rw[Zaj (Za3 e3 ai.ob nofun)];exact e3
 unfold setS;by_cases z:j=i
 .subst z;rw[hx]at hy;cases hy;rw[if_pos rfl];exact⟨Zad,⟨xs,f1,e2.keep im⟩,kvs,f2,e4⟩
 .rw [if_neg z];have hne:y.a≠x.a:=λq=>z (r.da j i y x hj hi hy hx q);exact⟨by rw[Zaj hne];exact aj.ob,⟨xs,f1,e2.keep im⟩,kvs,f2,e4⟩
noncomputable def moved(S:XL)(i j:Nat)(k:Int):Nat->AcS:=let S1:=setS S i {S i with coin:=(S i).coin-k};setS S1 j {S1 j with coin:=(S1 j).coin+k}
inductive ZvU(K:Ydg)(C:XB)(vs:XF)(H:Hp)(Q:VK)(E9:XK):Prop
 |mk(R:XB)(A:XC)(S:XL)(m i j:Nat)(x y:AcI)(k:Int):vs=[.ref x.a,.ref y.a,.int k]->Rooms K C H R A S m->i<16->j<16->A i=some x->A j=some y->(∀H',(∀b,b≠x.a->b≠y.a->H' b=H b)->Rooms K C H' R A (moved S i j k) m->Q .non H')->ZvU K C vs H Q E9
include Y
def Zew:jY Y 1 "Account" qa (spInit K qa):=by
 refine Zdt ["self","coin","purse","program"] Y.ae Y.c.k ?_
 .symm;let⟨a,dx,pr0,c,p,xs,rs,rfl,ha,hl,hR,k⟩:=h;refine⟨_,(Zac (ZaS (pv 0) (pv 1) rfl) (Zac (ZaS (pv 0) (pv 2) rfl) (Zac (ZaS (pv 0) Zag rfl) (Zac (ZaS (pv 0) (ZaJ ZjJ rfl Y.m YaQ (Wa (pv 3))) rfl) (Zaf (ZaS (pv 0) Znw rfl)))))),?_⟩;left;exists ZaD ha Y.c.k.cl Y.c.n_coin nofun ?_;exists ZaD Zad Y.c.k.cl Y.c.n_purse (by show 1<1000;decide) ?_;rw[ZaO];exists ZaD Zad Y.c.k.cl Y.c.n_count (by show 2<1000;decide) ?_;rw[ZaO];exists ZgV (hl.updI ha) λpr hpr=>?_;have hn:H pr=none:=by
   by_cases e:pr=a
   .subst e;rw[Zad]at hpr;cases hpr
   .rw [Zaj e]at hpr;exact hpr
  have na:a≠pr:=Zai ha hn;exists ZaD (by rw[Zaj na,Zad]) Y.c.k.cl Y.c.n_program (by show 3<1000;decide) ?_;ext;rename_i st hst;have ns:st≠a:=λe=>by subst e;rw[Zad]at hst;cases hst
  have np:st≠pr:=λe=>by subst e;rw[Zaj ns,Zad]at hst;cases hst
  have hn2:H st=none:=by rw[Zaj ns,Zaj np,Zaj ns]at hst;exact hst
  refine ZaD (by rw[Zaj ns.symm,Zad]) Y.c.k.cl Y.c.n_store (by show 4<1000;decide) ?_;have kp:∀b o,H b=some o->b≠a->(upd (upd (upd (upd (upd H a (.ins qa dx [("coin",.int c),("purse",.int p),("count",.int 0)])) pr (.lst xs)) a (.ins qa dx [("coin",.int c),("purse",.int p),("count",.int 0),("program",.ref pr)])) st (.dK [])) a (.ins qa dx (accF c p 0 pr st))) b=some o:=by
   intro b o e hb;have h1:b≠pr:=Zai e hn;have h2:b≠st:=Zai e hn2;rw[Zaj hb,Zaj h2,Zaj hb,Zaj h1,Zaj hb];exact e
  refine k pr st _ hn hn2 np.symm ⟨?_,⟨xs,?_,?_⟩,⟨[],?_,nofun,by simp,by simp,λi=>rfl⟩⟩ ?_
  .rw [Zad];rfl
  .rw [Zaj na.symm,Zaj np.symm,Zaj na.symm,Zad]
  .refine hR.keep λb u e i=>?_;have hb:b≠a:=λz=>by rw[z,ha]at e;cases e;exact Zbv i
   exact kp b u e hb
  .rw [Zaj ns,Zad]
  .exact kp
def Zbx:iY Y 1 qa "loaded" (Zth K qa):=by
 refine ZaE ["self","place"] Y.af Y.c.k.cl ?_
 .symm;let⟨a,dx,pr,st,c,p,n,rs,fn,m,i,rfl,A,k⟩:=h;refine⟨_,(Wb (Znx (Zp2 hr) (Zap (pv 0)) (pv 1) Zag ⟨rfl,rfl,rfl,rfl⟩)),?_⟩;left;let⟨kvs,hs,_,_,_,hf⟩:=A.sto;exists Zah A.ob Y.c.k.cl Y.c.n_store rfl ?_;refine⟨st,rfl,Zvi hs,?_⟩;ext;exact⟨_,DGet.k (k:=Sum.inl i) hs,by rw[hf i];exact k⟩
def ZdF:iY Y 1 qa "keep" (spKeep K qa):=by
 refine ZaE ["self","place","number"] Y.ag Y.c.k.cl ?_
 .symm;let⟨a,dx,pr,st,c,p,n,rs,fn,m,i,v,rfl,A,hm,k⟩:=h;refine⟨_,(Zaf (ZaG (Zas Zbf (pv 2) Zag) (Zaf (Zay (Zsn (Zap (pv 0)) (pv 1) Zbl ⟨rfl,rfl,rfl,rfl⟩))) (Zaf (Zp0 (Zp2 hr) (Zap (pv 0)) (pv 1) (pv 2) rfl)))),?_⟩;left;let⟨kvs,hs,hl,hn,hz,hf⟩:=A.sto;walk_at"K'"
  .rename_i hv;subst hv;refine Zah A.ob Y.c.k.cl Y.c.n_store rfl ⟨st,rfl,Zvi hs,?_⟩;exists⟨kvs,Sum.inl i,hs,rfl,λv hv=>?_,λhv=>?_⟩
   .dsimp only;ext;exact k _ (λb hb=>Zaj hb) (StoreAt.drop hl hn hz hf i)
   .dsimp only;exists k _ (λb hb=>rfl) ⟨kvs,hs,Yj hl (Yaq _),hn,hz,λj=>?_⟩;unfold putFn;by_cases e:j=i
    .subst e;rw[if_pos rfl,hv];rfl
    .rw [if_neg e];exact hf j
  .rename_i hv;refine Zah A.ob Y.c.k.cl Y.c.n_store rfl ?_;ext;exact ZnG hs (Y4 (Yj hl hm) nofun) (k _ (λb hb=>Zaj hb) (StoreAt.put hl hn hz hf i v hv))
def Zfe:mY Y 1 "shift_coin" (ZvU K qa):=by
 refine Zax ["giver","taker","many"] Y.ah ?_
 .symm;let⟨R,Ar,S,m,i,j,x,y,kk,rfl,r,hi,hj,hx,hy,k⟩:=h;refine⟨_,(Zac (ZbZ (pv 0) (pv 2) Zue) (Zaf (ZbZ (pv 1) (pv 2) Zi2))),?_⟩;left;have ax:=r.ac i x hi hx;exists Zcu ax.ob Y.c.k.cl Y.c.n_coin rfl ?_;exists⟨x.dx,_,ax.ob,by show 5<1000;decide,?_⟩;have r1:=r.coin hi hx ((S i).coin-kk);have fr1:∀b,b≠x.a->(upd H x.a (.ins qa x.dx (accF ((S i).coin-kk) (S i).purse (S i).count x.pr x.st))) b=H b:=λb hb=>Zaj hb;have ep:∀(c c' p n:Int)(pr st:XB),putF "coin" (.int c') (accF c p n pr st)=accF c' p n pr st:=λ_ _ _ _ _ _=>rfl;rw[ep];generalize upd H x.a _=H1 at r1 fr1;generalize hS1:setS S i {S i with coin:=(S i).coin-kk}=S1 at r1;have ay:=r1.ac j y hj hy;dsimp only;exists Zcu ay.ob Y.c.k.cl Y.c.n_coin rfl ?_;exists⟨y.dx,_,ay.ob,by show 5<1000;decide,?_⟩;rw[ep];have r2:=r1.coin hj hy ((S1 j).coin+kk);refine k _ (λb h1 h2=>by rw[Zaj h2];exact fr1 b h1) ?_;unfold moved;rw[hS1];exact r2
omit Y
inductive Dd where
 |save (s p o n:Int)
 |move (s t k:Int)
 |note (s n:Int)
abbrev Xg:=List Dd
noncomputable def saveF(s p o n:Int):List (Str×V):=[("slot",.int s),("place",.int p),("old",.int o),("new",.int n)]
noncomputable def moveF(s t k:Int):List (Str×V):=[("slot",.int s),("taker",.int t),("many",.int k)]
noncomputable def noteF(s n:Int):List (Str×V):=[("slot",.int s),("number",.int n)]
noncomputable def doneS(S:XL):Dd->Nat->AcS
 |.save s p _ n=>setS S s.toNat {S s.toNat with store:=putFn (S s.toNat).store p n}
 |.move s t k=>moved S s.toNat t.toNat k
 |.note _ _=>S
def fitsD(A:XC):Dd->Prop
 |.save s _ _ _=>∃i x,s=((i:Nat):Int)/\i<16/\A i=some x
 |.move s t _=>(∃i x,s=((i:Nat):Int)/\i<16/\A i=some x)/\∃i x,t=((i:Nat):Int)/\i<16/\A i=some x
 |.note _ _=>True
def Out(A:XC)(b:XB):Prop:=∀i x,i<16->A i=some x->b≠x.a/\b≠x.st
def Rooms.le{K:Ydg}{C:XB}{H:Hp}{R:XB}{A:XC}{S:XL}{m m':Nat}(r:Rooms K C H R A S m)(e:m<=m'):Rooms K C H R A S m':=⟨r.ob,λi x hi hx=>(r.ac i x hi hx).le e,r.da,r.ds⟩
inductive Zti(C:XB)(vs:XF)(H:Hp)(Q:VK)(E9:XK):Prop
 |mk(a dx:XB)(s p o n:Int):vs=[.ref a,.int s,.int p,.int o,.int n]->H a=some (.ins C dx [])->Q .non (upd H a (.ins C dx (saveF s p o n)))->Zti C vs H Q E9
inductive Zj1(C:XB)(vs:XF)(H:Hp)(Q:VK)(E9:XK):Prop
 |mk(a dx:XB)(s t k:Int):vs=[.ref a,.int s,.int t,.int k]->H a=some (.ins C dx [])->Q .non (upd H a (.ins C dx (moveF s t k)))->Zj1 C vs H Q E9
inductive Ztj(C:XB)(vs:XF)(H:Hp)(Q:VK)(E9:XK):Prop
 |mk(a dx:XB)(s n:Int):vs=[.ref a,.int s,.int n]->H a=some (.ins C dx [])->Q .non (upd H a (.ins C dx (noteF s n)))->Ztj C vs H Q E9
noncomputable def fldD:Dd->List (Str×V)
 |.save s p o n=>saveF s p o n
 |.move s t k=>moveF s t k
 |.note s n=>noteF s n
inductive spDo(K:Ydg)(C CD:XB)(ok:Dd->Prop)(vs:XF)(H:Hp)(Q:VK)(E9:XK):Prop
 |mk(a dx R:XB)(d:Dd)(A:XC)(S:XL)(m:Nat):vs=[.ref a,.ref R]->ok d->H a=some (.ins CD dx (fldD d))->Rooms K C H R A S m->fitsD A d->m<=1000000->(∀H',(∀b,Out A b->H' b=H b)->Rooms K C H' R A (doneS S d) (m+1)->Q .non H')->spDo K C CD ok vs H Q E9
def isSave(d:Dd):Prop:=∃s p o n,d=.save s p o n
def isMove(d:Dd):Prop:=∃s t k,d=.move s t k
def isNote(d:Dd):Prop:=∃s n,d=.note s n
noncomputable def Zj2(S:XL):Dd->Nat->AcS
 |.save s p o _=>setS S s.toNat {S s.toNat with store:=putFn (S s.toNat).store p o}
 |.move s t k=>moved S t.toNat s.toNat k
 |.note _ _=>S
inductive spUndo(K:Ydg)(C CD:XB)(ok:Dd->Prop)(vs:XF)(H:Hp)(Q:VK)(E9:XK):Prop
 |mk(a dx R:XB)(d:Dd)(A:XC)(S:XL)(m:Nat):vs=[.ref a,.ref R]->ok d->H a=some (.ins CD dx (fldD d))->Rooms K C H R A S m->fitsD A d->m<=1000000->(∀H',(∀b,Out A b->H' b=H b)->Rooms K C H' R A (Zj2 S d) (m+1)->Q .non H')->spUndo K C CD ok vs H Q E9
def rightD(S:XL):Dd->Prop
 |.save s p o _=>(S s.toNat).store p=o
 |.move _ _ _=>True
 |.note _ _=>True
def Zrj(S:XL)(i:Nat)(v:AcS):setS S i v i=v:=by unfold setS;rw[if_pos rfl]
def Zrk(S:XL)(i:Nat)(v w:AcS):setS (setS S i v) i w=setS S i w:=by
 funext j;unfold setS;by_cases h:j=i
 .rw [if_pos h,if_pos h]
 .rw [if_neg h,if_neg h,if_neg h]
def ZvV(S:XL)(i:Nat):setS S i (S i)=S:=by
 funext j;unfold setS;by_cases h:j=i
 .rw [if_pos h,h]
 .rw [if_neg h]
def Zo0{f:Xf}{p o n:Int}(h:f p=o):putFn (putFn f p n) p o=f:=by
 funext j;unfold putFn;by_cases e:j=p
 .rw [if_pos e,e,h]
 .rw [if_neg e,if_neg e]
def Zcc(S:XL)(i j:Nat)(k:Int)(n:Nat):moved S i j k n={S n with coin:=(S n).coin-(if n=i then k else 0)+(if n=j then k else 0)}:=by
 unfold moved setS;dsimp only;by_cases h1:n=j
 .subst h1;by_cases h2:n=i
  .subst h2;simp
  .simp [h2]
 .by_cases h2:n=i
  .subst h2;simp[h1]
  .simp [h1,h2]
def ZmQ{S:XL}{d:Dd}(h:rightD S d):Zj2 (doneS S d) d=S:=by
 cases d with
 |save s p o n=>
  have e:doneS S (.save s p o n) s.toNat={S s.toNat with store:=putFn (S s.toNat).store p n}:=Zrj ..;show setS (setS S s.toNat _) s.toNat {doneS S (.save s p o n) s.toNat with store:=putFn (doneS S (.save s p o n) s.toNat).store p o}=S;rw[Zrk,e];dsimp only;rw[Zo0 h];exact ZvV S _
 |move s t k=>
  show moved (moved S _ _ k) _ _ k=S;funext n;rw[Zcc,Zcc];dsimp only;have:(S n).coin-(if n=s.toNat then k else 0)+(if n=t.toNat then k else 0)-(if n=t.toNat then k else 0)+(if n=s.toNat then k else 0)=(S n).coin:=();rw[this]
 |note s n=>rfl
include Y
def ZgC:jY Y 1 "Save" cSave (Zti cSave):=by
 refine Zdt ["self","slot","place","old","new"] Y.ai Y.e.k ?_
 .symm;let⟨a,dx,s0,p,o,n,rfl,ha,k⟩:=h;refine⟨_,(Zac (ZaS (pv 0) (pv 1) rfl) (Zac (ZaS (pv 0) (pv 2) rfl) (Zac (ZaS (pv 0) (pv 3) rfl) (Zaf (ZaS (pv 0) (pv 4) rfl))))),?_⟩;left;exists ZaD ha Y.e.k.cl Y.e.n_slot nofun ?_;exists ZaD Zad Y.e.k.cl Y.e.n_place (by show 1<1000;decide) ?_;rw[ZaO];exists ZaD Zad Y.e.k.cl Y.e.n_old (by show 2<1000;decide) ?_;rw[ZaO];exists ZaD Zad Y.e.k.cl Y.e.n_new (by show 3<1000;decide) ?_;rw[ZaO];exact k
def ZgD:jY Y 1 "Move" qd (Zj1 qd):=by
 refine Zdt ["self","slot","taker","many"] Y.aj Y.f.k ?_
 .symm;let⟨a,dx,s0,t0,kk,rfl,ha,k⟩:=h;refine⟨_,(Zac (ZaS (pv 0) (pv 1) rfl) (Zac (ZaS (pv 0) (pv 2) rfl) (Zaf (ZaS (pv 0) (pv 3) rfl)))),?_⟩;left;exists ZaD ha Y.f.k.cl Y.f.n_slot nofun ?_;exists ZaD Zad Y.f.k.cl Y.f.n_taker (by show 1<1000;decide) ?_;rw[ZaO];exists ZaD Zad Y.f.k.cl Y.f.n_many (by show 2<1000;decide) ?_;rw[ZaO];exact k
def ZgE:jY Y 1 "Note" cNote (Ztj cNote):=by
 refine Zdt ["self","slot","number"] Y.ak Y.j.k ?_
 .symm;let⟨a,dx,s0,n,rfl,ha,k⟩:=h;refine⟨_,(Zac (ZaS (pv 0) (pv 1) rfl) (Zaf (ZaS (pv 0) (pv 2) rfl))),?_⟩;left;exists ZaD ha Y.j.k.cl Y.j.n_slot nofun ?_;exists ZaD Zad Y.j.k.cl Y.j.n_number (by show 1<1000;decide) ?_;rw[ZaO];exact k
def Zo4:iY Y 2 cSave "do" (spDo K qa cSave isSave):=by
 refine ZaE ["self","rooms"] Y.al Y.e.k.cl ?_
 .symm;let⟨a,dx,R,d,Ar,S,m,rfl,⟨s0,p,o,n,rfl⟩,ha,r,⟨i,x,rfl,hi,hx⟩,hm,k⟩:=h;refine⟨_,(Zaf (Zay (ZaB (ZdF Y) (hr.mono nofun) (Zaq Zan (pv 1) (Zap (pv 0))) (Zaa (Zap (pv 0)) (Wa (Zap (pv 0))))))),?_⟩;left;have ax:=r.ac i x hi hx;exists Zah ha Y.e.k.cl Y.e.n_slot rfl ?_;refine ZaA (Zal r.ob) (r.at hi hx) ?_;refine Zar ax.ob rfl ?_;exists Zah ha Y.e.k.cl Y.e.n_place rfl ?_;exists Zah ha Y.e.k.cl Y.e.n_new rfl ?_;exists⟨x.a,x.dx,x.pr,x.st,_,_,_,_,_,m,p,n,rfl,ax,hm,λH' k1 e1=>?_⟩;exists k H' (λb hb=>k1 b (hb i x hi hx).2) ?_;have:=r.keep hi hx k1 e1;exact this
def Zo5:iY Y 2 qd "do" (spDo K qa qd isMove):=by
 refine ZaE ["self","rooms"] Y.am Y.f.k.cl ?_
 .symm;let⟨a,dx,R,d,Ar,S,m,rfl,⟨s0,t0,kk,rfl⟩,ha,r,⟨⟨i,x,rfl,hi,hx⟩,j,y,rfl,hj,hy⟩,hm,k⟩:=h;refine⟨_,(Zaf (Zay (Zam (Zfe Y) (Zaa (Zaq Zan (pv 1) (Zap (pv 0))) (Zaa (Zaq Zan (pv 1) (Zap (pv 0))) (Wa (Zap (pv 0)))))))),?_⟩;left;exists Zah ha Y.f.k.cl Y.f.n_slot rfl ?_;refine ZaA (Zal r.ob) (r.at hi hx) ?_;exists Zah ha Y.f.k.cl Y.f.n_taker rfl ?_;refine ZaA (Zal r.ob) (r.at hj hy) ?_;exists Zah ha Y.f.k.cl Y.f.n_many rfl ?_;exists⟨R,Ar,S,m,i,j,x,y,kk,rfl,r,hi,hj,hx,hy,λH' k1 r1=>?_⟩;exists k H' (λb hb=>k1 b (hb i x hi hx).1 (hb j y hj hy).1) ?_;exact r1.le (Yaq m)
def Zo6:iY Y 2 cNote "do" (spDo K qa cNote isNote):=by
 refine ZaE ["self","rooms"] Y.an Y.j.k.cl ?_
 .symm;let⟨a,dx,R,d,Ar,S,m,rfl,⟨s0,n,rfl⟩,ha,r,_,hm,k⟩:=h;refine⟨_,(Zaf Zpu),?_⟩;left;exact k H (λb _=>rfl) (r.le (Yaq m))
def ZlF:iY Y 2 cSave "undo" (spUndo K qa cSave isSave):=by
 refine ZaE ["self","rooms"] Y.ao Y.e.k.cl ?_
 .symm;let⟨a,dx,R,d,Ar,S,m,rfl,⟨s0,p,o,n,rfl⟩,ha,r,⟨i,x,rfl,hi,hx⟩,hm,k⟩:=h;refine⟨_,(Zaf (Zay (ZaB (ZdF Y) (hr.mono nofun) (Zaq Zan (pv 1) (Zap (pv 0))) (Zaa (Zap (pv 0)) (Wa (Zap (pv 0))))))),?_⟩;left;have ax:=r.ac i x hi hx;exists Zah ha Y.e.k.cl Y.e.n_slot rfl ?_;refine ZaA (Zal r.ob) (r.at hi hx) ?_;refine Zar ax.ob rfl ?_;exists Zah ha Y.e.k.cl Y.e.n_place rfl ?_;exists Zah ha Y.e.k.cl Y.e.n_old rfl ?_;exists⟨x.a,x.dx,x.pr,x.st,_,_,_,_,_,m,p,o,rfl,ax,hm,λH' k1 e1=>?_⟩;exists k H' (λb hb=>k1 b (hb i x hi hx).2) ?_;have:=r.keep hi hx k1 e1;exact this
def ZlG:iY Y 2 qd "undo" (spUndo K qa qd isMove):=by
 refine ZaE ["self","rooms"] Y.ap Y.f.k.cl ?_
 .symm;let⟨a,dx,R,d,Ar,S,m,rfl,⟨s0,t0,kk,rfl⟩,ha,r,⟨⟨i,x,rfl,hi,hx⟩,j,y,rfl,hj,hy⟩,hm,k⟩:=h;refine⟨_,(Zaf (Zay (Zam (Zfe Y) (Zaa (Zaq Zan (pv 1) (Zap (pv 0))) (Zaa (Zaq Zan (pv 1) (Zap (pv 0))) (Wa (Zap (pv 0)))))))),?_⟩;left;exists Zah ha Y.f.k.cl Y.f.n_taker rfl ?_;refine ZaA (Zal r.ob) (r.at hj hy) ?_;exists Zah ha Y.f.k.cl Y.f.n_slot rfl ?_;refine ZaA (Zal r.ob) (r.at hi hx) ?_;exists Zah ha Y.f.k.cl Y.f.n_many rfl ?_;exists⟨R,Ar,S,m,j,i,y,x,kk,rfl,r,hj,hi,hy,hx,λH' k1 r1=>?_⟩;exists k H' (λb hb=>k1 b (hb j y hj hy).1 (hb i x hi hx).1) ?_;exact r1.le (Yaq m)
def ZlH:iY Y 2 cNote "undo" (spUndo K qa cNote isNote):=by
 refine ZaE ["self","rooms"] Y.aq Y.j.k.cl ?_
 .symm;let⟨a,dx,R,d,Ar,S,m,rfl,⟨s0,n,rfl⟩,ha,r,_,hm,k⟩:=h;refine⟨_,(Zaf Zpu),?_⟩;left;exact k H (λb _=>rfl) (r.le (Yaq m))
omit Y
noncomputable def clsD(cS cM cN:XB):Dd->Addr
 |.save ..=>cS
 |.move ..=>cM
 |.note ..=>cN
def T3(a b c:XB)(s1 s2 s3:Sp)(C:XB)(sp:Sp):Prop:=(C=a/\sp=s1)\/(C=b/\sp=s2)\/(C=c/\sp=s3)
def Zo7{P:XI}{w:XO}{K:Ydg}{mg:XA}{base:XT}{n:Nat}{m:Str}{a b c:XB}{s1 s2 s3:Sp}(m1:MCal P w K mg base n a m s1)(m2:MCal P w K mg base n b m s2)(m3:MCal P w K mg base n c m s3)(C:XB)(sp:Sp)(h:T3 a b c s1 s2 s3 C sp):MCal P w K mg base n C m sp:=by
 rcases h with⟨rfl,rfl⟩|⟨rfl,rfl⟩|⟨rfl,rfl⟩
 .exact m1
 .exact m2
 .exact m3
def ZdW{T:Addr->Sp->Prop}{m:Str}{ta:TE}{t:TA}{U:St}{H:Hp}{Q:VK}(q:ta U H λx H1=>∃a C dx fs sp,x=.ref a/\H1 a=some (.ins C dx fs)/\fs.lookup m=none/\T C sp/\t U H1 λvs H2=>sp (x::vs) H2 Q E0):tMethD T m ta t U H Q:=q
def TDo(K:Ydg)(cA cS cM cN:XB):Addr->Sp->Prop:=T3 cS cM cN (spDo K cA cS isSave) (spDo K cA cM isMove) (spDo K cA cN isNote)
def TUn(K:Ydg)(cA cS cM cN:XB):Addr->Sp->Prop:=T3 cS cM cN (spUndo K cA cS isSave) (spUndo K cA cM isMove) (spUndo K cA cN isNote)
def okOf:Dd->Dd->Prop
 |.save ..=>isSave
 |.move ..=>isMove
 |.note ..=>isNote
def ZcT(d:Dd):okOf d d:=by
 cases d with
 |save=>exact⟨_,_,_,_,rfl⟩
 |move=>exact⟨_,_,_,rfl⟩
 |note=>exact⟨_,_,rfl⟩
def tdo_of(K:Ydg)(cA cS cM cN:XB)(d:Dd):TDo K cA cS cM cN (clsD cS cM cN d) (spDo K cA (clsD cS cM cN d) (okOf d)):=by
 cases d with
 |save=>exact .inl ⟨rfl,rfl⟩
 |move=>exact .inr (.inl ⟨rfl,rfl⟩)
 |note=>exact .inr (.inr ⟨rfl,rfl⟩)
def tun_of(K:Ydg)(cA cS cM cN:XB)(d:Dd):TUn K cA cS cM cN (clsD cS cM cN d) (spUndo K cA (clsD cS cM cN d) (okOf d)):=by
 cases d with
 |save=>exact .inl ⟨rfl,rfl⟩
 |move=>exact .inr (.inl ⟨rfl,rfl⟩)
 |note=>exact .inr (.inr ⟨rfl,rfl⟩)
def fld_do(d:Dd):(fldD d).lookup (Str.ofString "do")=none:=by cases d<;>rfl
def Ztk(d:Dd):(fldD d).lookup (Str.ofString "undo")=none:=by cases d<;>rfl
noncomputable def runS(S:XL)(ds:Xg):Nat->AcS:=ds.foldl doneS S
def ZhO(S:XL)(ds:Xg)(d:Dd):runS S (ds++[d])=doneS (runS S ds) d:=by unfold runS;rw[YbY];rfl
def ZbU:(Nat->AcS)->List Dd->Prop
 |_,[]=>True
 |S,d::ds=>rightD S d/\ZbU (doneS S d) ds
theorem Zc0:∀(S:XL)(ds:Xg)(d:Dd),ZbU S (ds++[d])↔ZbU S ds/\rightD (runS S ds) d
 |S,[],d=>by simp[ZbU,runS]
 |S,e::ds,d=>by
  show rightD S e/\ZbU (doneS S e) (ds++[d])↔(rightD S e/\ZbU (doneS S e) ds)/\rightD (runS S (e::ds)) d;rw[Zc0 (doneS S e) ds d,and_assoc];rfl
structure DI where
 o:Addr
 dx:Addr
 d:Dd
noncomputable def jF(R L:XB):List (Str×V):=[("rooms",.ref R),("deeds",.ref L)]
structure Jr(cJ cS cM cN:XB)(H:Hp)(j dx R L:XB)(A:XC)(es:List DI):Prop where
 ob:H j=some (.ins cJ dx (jF R L))
 li:H L=some (.lst (es.map λe=>V.ref e.o))
 de:∀e∈es,H e.o=some (.ins (clsD cS cM cN e.d) e.dx (fldD e.d))/\fitsD A e.d
 nR:L≠R
 np:∀i x,i<16->A i=some x->L≠x.pr
def Zgq{H:Hp}{a b C C' dx dx':XB}{fs gs:Xl}(h:H a=some (.ins C dx fs))(h':H b=some (.ins C' dx' gs))(n:fs.length≠gs.length):a≠b:=λz=>by
 rw[z,h']at h;cases h;exact n rfl
def Zg1(d:Dd):(fldD d).length<5:=by
 cases d with
 |save=>show 4<5;decide
 |move=>show 3<5;decide
 |note=>show 2<5;decide
section
variable{K:Ydg}{C cJ cS cM cN:XB}{H H':Hp}{j dx R L:XB}{A:XC}{S:XL}{m:Nat}{es:List DI}
def Rooms.same{K:Ydg}{C:XB}{H H':Hp}{R:XB}{A:XC}{S:XL}{m:Nat}(r:Rooms K C H R A S m)(s:Same H H'):Rooms K C H' R A S m:=
 ⟨s _ _ r.ob,λi x hi hx=>let h:=r.ac i x hi hx;⟨s _ _ h.ob,let⟨xs,e1,e2⟩:=h.pg;⟨xs,s _ _ e1,e2.keep s.imm⟩,let⟨k,a,b⟩:=h.sto;⟨k,s _ _ a,b⟩⟩,r.da,r.ds⟩
def Rooms.outI(r:Rooms K C H R A S m){a C' dx':XB}{fs:Xl}(h:H a=some (.ins C' dx' fs))(n:fs.length<5):Out A a:=λi x hi hx=>
 ⟨Zgq h (r.ac i x hi hx).ob (by show fs.length≠5;omega),let⟨_,g,_⟩:=(r.ac i x hi hx).sto;Za3 h g nofun⟩
def Rooms.outL(r:Rooms K C H R A S m){a:XB}{xs:XF}(h:H a=some (.lst xs)):Out A a:=λi x hi hx=>
 ⟨Za3 h (r.ac i x hi hx).ob nofun,let⟨_,g,_⟩:=(r.ac i x hi hx).sto;Za3 h g nofun⟩
def Jr.same(J:Jr cJ cS cM cN H j dx R L A es)(s:Same H H'):Jr cJ cS cM cN H' j dx R L A es:=⟨s _ _ J.ob,s _ _ J.li,λe he=>⟨s _ _ (J.de e he).1,(J.de e he).2⟩,J.nR,J.np⟩
def Jr.out(J:Jr cJ cS cM cN H j dx R L A es)(r:Rooms K C H R A S m)(k:∀b,Out A b->H' b=H b):Jr cJ cS cM cN H' j dx R L A es:=
 ⟨by rw[k _ (r.outI J.ob (by show 2<5;decide))];exact J.ob,by rw[k _ (r.outL J.li)];exact J.li,λe he=>⟨by rw[k _ (r.outI (J.de e he).1 (Zg1 _))];exact(J.de e he).1,(J.de e he).2⟩,J.nR,J.np⟩
def Rooms.lst(r:Rooms K C H R A S m){L:XB}{xs ys:XF}(hL:H L=some (.lst xs))(nR:L≠R)(np:∀i x,i<16->A i=some x->L≠x.pr):Rooms K C (upd H L (.lst ys)) R A S m:=by
 have im:SameI H (upd H L (.lst ys)):=SameI.upd hL Za4;refine⟨by rw[Zaj (YR nR)];exact r.ob,λi x hi hx=>?_,r.da,r.ds⟩;have h:=r.ac i x hi hx;let⟨zs,e1,e2⟩:=h.pg;let⟨kvs,e3,e4⟩:=h.sto;exact⟨by rw[Zaj (Za3 h.ob hL nofun)];exact h.ob,⟨zs,by rw[Zaj (YR (np i x hi hx))];exact e1,e2.keep im⟩,kvs,by rw[Zaj (Za3 e3 hL nofun)];exact e3,e4⟩
def Jr.push(J:Jr cJ cS cM cN H j dx R L A es){e:DI}(he:H e.o=some (.ins (clsD cS cM cN e.d) e.dx (fldD e.d)))(hf:fitsD A e.d):Jr cJ cS cM cN (upd H L (.lst ((es.map λe=>V.ref e.o)++[.ref e.o]))) j dx R L A (es++[e]):=by
 refine⟨by rw[Zaj (Za3 J.ob J.li nofun)];exact J.ob,by rw[Zad,YA];rfl,λu hu=>?_,J.nR,J.np⟩;rcases Yw.mp hu with hu|hu
 .have h:=J.de u hu;exact⟨by rw[Zaj (Za3 h.1 J.li nofun)];exact h.1,h.2⟩
 .rw [Ye]at hu;subst hu;exact⟨by rw[Zaj (Za3 he J.li nofun)];exact he,hf⟩
def Jr.pop{e:DI}(J:Jr cJ cS cM cN H j dx R L A (es++[e])):Jr cJ cS cM cN (upd H L (.lst (es.map λe=>V.ref e.o))) j dx R L A es:=
 ⟨by rw[Zaj (Za3 J.ob J.li nofun)];exact J.ob,Zad,λu hu=>let h:=J.de u (Yw.mpr (.inl hu));⟨by rw[Zaj (Za3 h.1 J.li nofun)];exact h.1,h.2⟩,J.nR,J.np⟩
end
def jb2{m n:Nat}(h:m<n):n=(n-1)+1:=()
def jb3{m e p:Nat}(h:m+e<=1000000):m+(e-p)<=1000000:=()
def jb5{m e p:Nat}(h:p<e):m+(e-(p+1))+1=m+(e-p):=()
inductive ZvW(cJ:XB)(vs:XF)(H:Hp)(Q:VK)(E9:XK):Prop
 |mk(j dx R:XB):vs=[.ref j,.ref R]->H j=some (.ins cJ dx [])->(∀L,H L=none->Q .non (upd (upd H L (.lst [])) j (.ins cJ dx (jF R L))))->ZvW cJ vs H Q E9
inductive spMark(cJ:XB)(vs:XF)(H:Hp)(Q:VK)(E9:XK):Prop
 |mk(j dx R L:XB)(xs:XF):vs=[.ref j]->H j=some (.ins cJ dx (jF R L))->H L=some (.lst xs)->Q (.int (xs.length:Nat)) H->spMark cJ vs H Q E9
inductive ZvX(K:Ydg)(C cJ cS cM cN:XB)(vs:XF)(H:Hp)(Q:VK)(E9:XK):Prop
 |mk(j dx R L:XB)(A:XC)(S:XL)(m:Nat)(es:List DI)(e:DI):vs=[.ref j,.ref e.o]->Jr cJ cS cM cN H j dx R L A es->Rooms K C H R A S m->H e.o=some (.ins (clsD cS cM cN e.d) e.dx (fldD e.d))->fitsD A e.d->m<=1000000->es.length<1000000->(∀H',(∀b,Out A b->b≠L->H' b=H b)->Rooms K C H' R A (doneS S e.d) (m+1)->Jr cJ cS cM cN H' j dx R L A (es++[e])->Q .non H')->ZvX K C cJ cS cM cN vs H Q E9
inductive spBack(K:Ydg)(C cJ cS cM cN:XB)(vs:XF)(H:Hp)(Q:VK)(E9:XK):Prop
 |mk(j dx R L:XB)(A:XC)(S0:XL)(m:Nat)(es:List DI)(mk:Int):vs=[.ref j,.int mk]->Jr cJ cS cM cN H j dx R L A es->Rooms K C H R A (runS S0 (es.map (·.d))) m->ZbU S0 (es.map (·.d))->m+es.length<=1000000->(∀H',(∀b,Out A b->b≠L->H' b=H b)->Rooms K C H' R A (runS S0 ((es.take mk.toNat).map (·.d))) (m+es.length)->ZbU S0 ((es.take mk.toNat).map (·.d))->Jr cJ cS cM cN H' j dx R L A (es.take mk.toNat)->Q .non H')->spBack K C cJ cS cM cN vs H Q E9
def ZdG:FnScope ["self","mark","deed"] ["self","mark"] (Zae (tQ 46 3)):=by walk_at"c"
include Y
def Zcm:jY Y 1 "Journal" qb (ZvW qb):=by
 refine Zdt ["self","rooms"] Y.ar Y.g.k ?_
 .symm;let⟨j,dx,R,rfl,ha,k⟩:=h;refine⟨_,(Zac (ZaS (pv 0) (pv 1) rfl) (Zaf (ZaS (pv 0) (ZaI Zab) rfl))),?_⟩;left;exists ZaD ha Y.g.k.cl Y.g.n_rooms nofun ?_;exists⟨nofun,λl hl=>?_⟩;have nl:l≠j:=λz=>by rw[z,Zad]at hl;cases hl
  have hlH:H l=none:=by rw[Zaj nl]at hl;exact hl
  exists ZaD (by rw[Zaj (YR nl)];exact Zad) Y.g.k.cl Y.g.n_deeds (by show 1<1000;decide) ?_;have e:upd (upd (upd H j (.ins qb dx (putF "rooms" (.ref R) []))) l (.lst [])) j (.ins qb dx (putF "deeds" (.ref l) (putF "rooms" (.ref R) [])))=upd (upd H l (.lst [])) j (.ins qb dx (jF R l)):=by
   funext b;unfold upd;by_cases z:b=j
   .rw [if_pos z,if_pos z];rfl
   .rw [if_neg z,if_neg z,if_neg z]
  rw[e];exact k l hlH
def ZhQ:iY Y 1 qb "mark" (spMark qb):=by
 refine ZaE ["self"] Y.as Y.g.k.cl ?_
 .symm;let⟨j,dx,R,L,xs,rfl,ha,hl,k⟩:=h;refine⟨_,(Wb (Zau ZaN rfl Y.d Ys (Wa (Zap (pv 0))))),?_⟩;left;exists Zah ha Y.g.k.cl Y.g.n_deeds rfl ?_;ext;exact k
def ZgG:iY Y 3 qb "write" (ZvX K qa qb cSave qd cNote):=by
 refine ZaE ["self","deed"] Y.au Y.g.k.cl ?_
 .symm;let⟨j,dx,R,L,Ar,S,m,es,e,rfl,J,r,he,fit,hm,hel,k⟩:=h;refine⟨_,(Zac (Zay (ZnF (T:=TDo K qa cSave qd cNote) (Zo7 (Zo4 Y) (Zo5 Y) (Zo6 Y)) (hr.mono nofun) (pv 1) (Wa (Zap (pv 0))))) (Zaf (Zay (Zbj Yy YI YH ZaT (Zap (pv 0)) (Wa (pv 1)))))),?_⟩;left;exists ZdW ?_;exists⟨e.o,clsD cSave qd cNote e.d,e.dx,fldD e.d,_,rfl,he,fld_do e.d,tdo_of K qa cSave qd cNote e.d,?_⟩;exists Zah J.ob Y.g.k.cl Y.g.n_rooms rfl ?_;exists⟨e.o,e.dx,R,e.d,Ar,S,m,rfl,ZcT e.d,he,r,fit,hm,λH1 k1 r1=>?_⟩;have J1:=J.out r k1;have he1:H1 e.o=some (.ins (clsD cSave qd cNote e.d) e.dx (fldD e.d)):=by rw[k1 _ (r.outI he (Zg1 _))];exact he
  exists Zah J1.ob Y.g.k.cl Y.g.n_deeds rfl ?_;refine⟨Za9 (Zal J1.li),?_⟩;exists ZaZ J1.li (by rw[Ya];exact YS hel nofun) ?_;ext;exact k _ (λb h1 h2=>by rw[Zaj h2];exact k1 b h1) (r1.lst J1.li J1.nR J1.np) (J1.push he1 fit)
def ZdH:iY Y 3 qb "back" (spBack K qa qb cSave qd cNote):=by
 refine ZaE _ Y.av Y.g.k.cl ?_ _ ZdG
 .symm;let⟨j,dx,R,L,Ar,S0,m,es,mk,rfl,J,r,ri,hm,k⟩:=h;refine⟨_,(Zaf (ZjA YV (Zas ZfE (Zau ZaN rfl Y.d Ys (Wa (Zap (pv 0)))) (Zau (cn_max rfl) rfl Y.aw PyProof.Rows.boot_max (Zaa (pv 1) (Wa Zag)))) (Zac (Zao (i:=2) ZdG.nd (ZpS Yy PySem.F.slot_list_pop PySem.F.type_list_pop Zuh (Zap (pv 0)))) (Zaf (Zay (ZnF (T:=TUn K qa cSave qd cNote) (Zo7 (ZlF Y) (ZlG Y) (ZlH Y)) (hr.mono nofun) (pv 2) (Wa (Zap (pv 0))))))))),?_⟩;left;refine⟨λn U' H'=>∃q v,n=q/\min mk.toNat es.length<=q/\q<=es.length/\(∀b,Out Ar b->b≠L->H' b=H b)/\Rooms K qa H' R Ar (runS S0 ((es.take q).map (·.d))) (m+(es.length-q))/\ZbU S0 ((es.take q).map (·.d))/\Jr qb cSave qd cNote H' j dx R L Ar (es.take q)/\U'=[some (.ref j),some (.int mk),v],⟨es.length,es.length,none,rfl,YcK _ _,Yk _,λ_ _ _=>rfl,by rw[YK,Yam];exact r,by rw[YK];exact ri,by rw[YK];exact J,rfl⟩,?_⟩;rintro n U' H' ⟨q,v,rfl,hq0,hq1,fr,r',ri',J',rfl⟩;have hL:=J'.li;exists Zah J'.ob Y.g.k.cl Y.g.n_deeds rfl ?_;ext
  .rename_i hgt;rw[Ya,YN,YbG hq1]at hgt;have hgt2:mk.toNat<n:=by split at hgt<;>omega
   obtain⟨p,rfl⟩:∃p,n=p+1:=⟨n-1,jb2 hgt2⟩;have hp:p<es.length:=hq1;have htk:es.take (p+1)=es.take p++[es[p]]:=Ym hp;refine⟨λU' H'=>∃m',m'<p+1/\_,λ_ _ h=>h,?_⟩;rw[htk]at J' ri' r' hL;rw[YA]at ri' r';let⟨de,fit⟩:=J'.de es[p] (Yw.mpr (.inr (Ye.mpr rfl)));generalize es[p]=e at *;have J2:=J'.pop;have r2:=r'.lst (ys:=(es.take p).map λe=>V.ref e.o) hL J'.nR J'.np;rw[YA]at hL;exists Zah J'.ob Y.g.k.cl Y.g.n_deeds rfl ?_;refine⟨Za9 (Zal hL),?_⟩;refine Zup hL ?_;have fr2:∀b,Out Ar b->b≠L->(upd H' L (.lst ((es.take p).map λe=>V.ref e.o))) b=H b:=λb h1 h2=>by rw[Zaj h2];exact fr b h1 h2
   have de2:(upd H' L (.lst ((es.take p).map λe=>V.ref e.o))) e.o=some (.ins (clsD cSave qd cNote e.d) e.dx (fldD e.d)):=by rw[Zaj (Za3 de hL nofun)];exact de
   generalize upd H' L _=H2 at J2 r2 fr2 de2;exists ZdW ?_;exists⟨e.o,clsD cSave qd cNote e.d,e.dx,fldD e.d,_,rfl,de2,Ztk e.d,tun_of K qa cSave qd cNote e.d,?_⟩;exists Zah J2.ob Y.g.k.cl Y.g.n_rooms rfl ?_;exists⟨e.o,e.dx,R,e.d,Ar,_,_,rfl,ZcT e.d,de2,r2,fit,jb3 hm,λH3 k3 r3=>?_⟩;have J3:=J2.out r2 k3;let⟨ri2,rd2⟩:=(Zc0 _ _ _).mp ri';have e1:Zj2 (runS S0 ((es.take p).map (·.d)++[e].map (·.d))) e.d=runS S0 ((es.take p).map (·.d)):=by
    show Zj2 (runS S0 ((es.take p).map (·.d)++[e.d])) e.d=_;rw[ZhO];exact ZmQ rd2
   rw[e1]at r3;exists⟨p,YaC p,p,_,rfl,Yj (YcT ..) (Nat.le_of_lt_succ hgt2),Yan hp,λb h1 h2=>by rw[k3 b h1];exact fr2 b h1 h2,?_,ri2,J3,rfl⟩;have em:m+(es.length-(p+1))+1=m+(es.length-p):=jb5 hp;rw[em]at r3;exact r3
  .rename_i hgt;rw[Ya,YN,YbG hq1]at hgt;have hgt2:n<=mk.toNat:=by split at hgt<;>omega
   have et:es.take n=es.take mk.toNat:=by
    by_cases z:mk.toNat<=es.length
    .rw [show n=mk.toNat by omega]
    .rw [YaB (),YaB ()]
   rw[et]at r' ri' J';exact k H' fr (r'.le ()) ri' J'
omit Y
inductive spTold(CD:XB)(ok:Dd->Prop)(vs:XF)(H:Hp)(Q:VK)(E9:XK):Prop
 |mk(a dx:XB)(d:Dd):vs=[.ref a]->ok d->H a=some (.ins CD dx (fldD d))->(∀u xs,H u=none->Q (.ref u) (upd H u (.tup xs)))->spTold CD ok vs H Q E9
def TTo(cS cM cN:XB):Addr->Sp->Prop:=T3 cS cM cN (spTold cS isSave) (spTold cM isMove) (spTold cN isNote)
def ZuA(cS cM cN:XB)(d:Dd):TTo cS cM cN (clsD cS cM cN d) (spTold (clsD cS cM cN d) (okOf d)):=by
 cases d with
 |save=>exact .inl ⟨rfl,rfl⟩
 |move=>exact .inr (.inl ⟨rfl,rfl⟩)
 |note=>exact .inr (.inr ⟨rfl,rfl⟩)
def Zn6(d:Dd):(fldD d).lookup (Str.ofString "told")=none:=by cases d<;>rfl
inductive ZvY(cJ cS cM cN:XB)(vs:XF)(H:Hp)(Q:VK)(E9:XK):Prop
 |mk(j dx R L:XB)(A:XC)(es:List DI):vs=[.ref j]->Jr cJ cS cM cN H j dx R L A es->es.length<=9000->(∀q H',Same H H'->Q (.ref q) H')->ZvY cJ cS cM cN vs H Q E9
include Y
def Zgr:iY Y 1 cSave "told" (spTold cSave isSave):=by
 refine ZaE ["self"] Y.ax Y.e.k.cl ?_
 .symm;let⟨a,dx,d,rfl,⟨s0,p,o,n,rfl⟩,ha,k⟩:=h;refine⟨_,(Wb (ZaH (Zaa Zav (Zaa (Zap (pv 0)) (Zaa (Zap (pv 0)) (Zaa (Zap (pv 0)) (Wa (Zap (pv 0))))))))),?_⟩;left;exists Zah ha Y.e.k.cl Y.e.n_slot rfl ?_;exists Zah ha Y.e.k.cl Y.e.n_place rfl ?_;exists Zah ha Y.e.k.cl Y.e.n_old rfl ?_;exists Zah ha Y.e.k.cl Y.e.n_new rfl ?_;ext;exact⟨show 5<=sizeLine by decide,λt ht=>k t _ ht⟩
def Zgs:iY Y 1 qd "told" (spTold qd isMove):=by
 refine ZaE ["self"] Y.ay Y.f.k.cl ?_
 .symm;let⟨a,dx,d,rfl,⟨s0,t0,kk,rfl⟩,ha,k⟩:=h;refine⟨_,(Wb (ZaH (Zaa Zav (Zaa (Zap (pv 0)) (Zaa (Zap (pv 0)) (Wa (Zap (pv 0)))))))),?_⟩;left;exists Zah ha Y.f.k.cl Y.f.n_slot rfl ?_;exists Zah ha Y.f.k.cl Y.f.n_taker rfl ?_;exists Zah ha Y.f.k.cl Y.f.n_many rfl ?_;ext;exact⟨show 4<=sizeLine by decide,λt ht=>k t _ ht⟩
def Zgt:iY Y 1 cNote "told" (spTold cNote isNote):=by
 refine ZaE ["self"] Y.az Y.j.k.cl ?_
 .symm;let⟨a,dx,d,rfl,⟨s0,n,rfl⟩,ha,k⟩:=h;refine⟨_,(Wb (ZaH (Zaa Zav (Zaa (Zap (pv 0)) (Wa (Zap (pv 0))))))),?_⟩;left;exists Zah ha Y.j.k.cl Y.j.n_slot rfl ?_;exists Zah ha Y.j.k.cl Y.j.n_number rfl ?_;ext;exact⟨show 3<=sizeLine by decide,λt ht=>k t _ ht⟩
def ZhS:iY Y 2 qb "told" (ZvY qb cSave qd cNote):=by
 refine ZaE ["self"] Y.aB Y.g.k.cl ?_
 .symm;let⟨j,dx,R,L,Ar,es,rfl,J,hel,k⟩:=h;refine⟨_,(Wb (ZbJ ["deed"] rfl (show CompScope (Zae (tQ 46 4)) ["self"] ["deed"] _ by walk_at"p") (Zbc (Zap (pv 0))) (λ_ _ _ _ _=>(Zbi (i:=0) (show(["deed","self"]:XN).Nodup by decide +kernel) rfl (Or.inl rfl) (.inr rfl))) (λ_ _ _ _ _=>ZbI) (λ_ _ _ _ _=>(ZeU (T:=TTo cSave qd cNote) (Zo7 (Zgr Y) (Zgs Y) (Zgt Y)) (hr.mono nofun) (pv 0))))),?_⟩;left;have big:(9001:Nat)<=sizeLine:=nofun;exists Zbk (ZaY ?_);exists Zah J.ob Y.g.k.cl Y.g.n_deeds rfl ?_;refine⟨L,rfl,⟨_,Zal J.li⟩,λq hq=>?_⟩;refine Zcf (λi H'=>Same H H'/\∃ts,H' q=some (.lst ts)/\ts.length<=i) ⟨Same.new hq,[],Zad,Yk _⟩ (λi H' ⟨s,_⟩=>Zal (s _ _ J.li)) ?_ ?_
  .rintro i x H' hx ⟨s1,ts,hts,T⟩;rw[Yb]at hx;let⟨e,he,rfl⟩:=Yu.mp hx;have hi:=(Yf.mp he).1;have de:=s1 _ _ (J.de e (Yn he)).1;refine ZfK ?_;refine iteT ?_;refine ZdW ?_;exists⟨e.o,clsD cSave qd cNote e.d,e.dx,fldD e.d,_,rfl,de,Zn6 e.d,ZuA cSave qd cNote e.d,?_⟩;exists⟨e.o,e.dx,e.d,rfl,ZcT e.d,de,λt xs ht=>?_⟩;exact⟨_,(Same.new ht) _ _ hts,(),⟨(s1.newT ht).wr hq,ts++[.ref t],Zad,by rw[Yc];exact YcJ T⟩,_,rfl⟩
  .rintro H' ⟨s1,_⟩;ext;exact k q H' s1
omit Y
structure FrS where
 kind:Str
 who:Int
 whose:Int
 caller:Int
 coin:Int
 word:Int
 given:Int
 depth:Int
 looking:Bool
 used:Int
 stack:List Int
 row:Int
 fin:Option Str
 answer:Int
structure FrI where
 a:Addr
 dx:Addr
 ST:Addr
 SS:Addr
noncomputable def endV:Option Str->V
 |none=>.non
 |some s=>.str s
noncomputable def fldF(f:FrI)(x:FrS):List (Str×V):=[("kind",.str x.kind),("who",.int x.who),("whose",.int x.whose),("caller",.int x.caller),("coin",.int x.coin),("word",.int x.word),("given",.int x.given),("depth",.int x.depth),("looking",.bl x.looking),("used",.int x.used),("stack",.ref f.ST),("row",.int x.row),("steps",.ref f.SS),("end",endV x.fin),("answer",.int x.answer)]
structure FrAt(cF:XB)(H:Hp)(f:FrI)(x:FrS)(vs:XF):Prop where
 ob:H f.a=some (.ins cF f.dx (fldF f x))
 st:H f.ST=some (.lst (x.stack.map V.int))
 ss:H f.SS=some (.lst vs)
 ne:f.ST≠f.SS
section
variable{cF:XB}{H H':Hp}{f:FrI}{x:FrS}{vs:XF}
def FrAt.aST(F:FrAt cF H f x vs):f.a≠f.ST:=Za3 F.ob F.st nofun
def FrAt.aSS(F:FrAt cF H f x vs):f.a≠f.SS:=Za3 F.ob F.ss nofun
def FrAt.setST(F:FrAt cF H f x vs)(s:XD):FrAt cF (upd H f.ST (.lst (s.map V.int))) f {x with stack:=s} vs:=
 ⟨by rw[Zaj F.aST];exact F.ob,Zad,by rw[Zaj (YR F.ne)];exact F.ss,F.ne⟩
def FrAt.setSS(F:FrAt cF H f x vs)(ws:XF):FrAt cF (upd H f.SS (.lst ws)) f x ws:=
 ⟨by rw[Zaj F.aSS];exact F.ob,by rw[Zaj F.ne];exact F.st,Zad,F.ne⟩
def FrAt.setF(F:FrAt cF H f x vs)(y:FrS)(e:y.stack=x.stack):FrAt cF (upd H f.a (.ins cF f.dx (fldF f y))) f y vs:=
 ⟨Zad,by rw[Zaj (YR F.aST),e];exact F.st,by rw[Zaj (YR F.aSS)];exact F.ss,F.ne⟩
def FrAt.kept{X:Addr->Prop}(F:FrAt cF H f x vs)(k:KeptX X H H')(h1:¬X f.a)(h2:¬X f.ST)(h3:¬X f.SS):FrAt cF H' f x vs:=
 ⟨k _ _ F.ob h1,k _ _ F.st h2,k _ _ F.ss h3,F.ne⟩
def FrAt.same(F:FrAt cF H f x vs)(s:Same H H'):FrAt cF H' f x vs:=⟨s _ _ F.ob,s _ _ F.st,s _ _ F.ss,F.ne⟩
def FrAt.put(F:FrAt cF H f x vs){s:XD}(k:KeptX (·=f.ST) H H')(e:H' f.ST=some (.lst (s.map V.int))):FrAt cF H' f {x with stack:=s} vs:=
 ⟨k _ _ F.ob F.aST,e,k _ _ F.ss (YR F.ne),F.ne⟩
end
noncomputable def frame0(kind:Str)(who whose caller coin word given depth:Int)(looking:Bool):FrS:=⟨kind,who,whose,caller,coin,word,given,depth,looking,0,[],0,none,0⟩
inductive ZmR(cF:XB)(vs:XF)(H:Hp)(Q:VK)(E9:XK):Prop
 |mk(a dx:XB)(kind:Str)(who whose caller coin word given depth:Int)(looking:Bool):vs=[.ref a,.str kind,.int who,.int whose,.int caller,.int coin,.int word,.int given,.int depth,.bl looking]->H a=some (.ins cF dx [])->(∀ST SS H',H ST=none->H SS=none->FrAt cF H' ⟨a,dx,ST,SS⟩ (frame0 kind who whose caller coin word given depth looking) []->KeptX (·=a) H H'->Q .non H')->ZmR cF vs H Q E9
def spLeft(cF:XB):Sp:=λvs H Q _=>∃(f:FrI)(x:FrS)(ws:XF),vs=[.ref f.a]/\FrAt cF H f x ws/\Q (.int (x.given-x.used)) H
inductive ZvZ(K:Ydg)(cF:XB)(vs:XF)(H:Hp)(Q:VK)(E9:XK):Prop
 |mk(f:FrI)(x:FrS)(ws:XF)(p:XB)(w:Str)(n:XS)(r t l pr d:Int):vs=[.ref f.a,.ref p]->FrAt cF H f x ws->Zb9 K H p w n->ZcI w n=some r->RT.lookup w=some (t,l,pr,d)->Q (.bl (decide ((x.stack.length:Int)<t+r))) H->ZvZ K cF vs H Q E9
inductive spFull(K:Ydg)(cF:XB)(vs:XF)(H:Hp)(Q:VK)(E9:XK):Prop
 |mk(f:FrI)(x:FrS)(ws:XF)(p:XB)(w:Str)(n:XS)(r t l pr d:Int):vs=[.ref f.a,.ref p]->FrAt cF H f x ws->Zb9 K H p w n->ZcI w n=some r->RT.lookup w=some (t,l,pr,d)->Q (.bl (decide (24<(x.stack.length:Int)-(t+r)+(l+r)))) H->spFull K cF vs H Q E9
inductive Zv0(cF:XB)(vs:XF)(H:Hp)(Q:VK)(E9:XK):Prop
 |mk(f:FrI)(x:FrS)(ws:XF)(s t:XD):vs=[.ref f.a,.int (t.length:Nat)]->FrAt cF H f x ws->x.stack=s++t->t.length<=1000->(∀p H',H p=none->KeptX (·=f.ST) H H'->FrAt cF H' f {x with stack:=s} ws->H' p=some (.lst (t.map V.int))->Q (.ref p) H')->Zv0 cF vs H Q E9
inductive spLay(cF:XB)(vs:XF)(H:Hp)(Q:VK)(E9:XK):Prop
 |mk(f:FrI)(x:FrS)(ws:XF)(k:Int):vs=[.ref f.a,.int k]->FrAt cF H f x ws->x.stack.length<=1000->(∀H',KeptX (·=f.ST) H H'->FrAt cF H' f {x with stack:=x.stack++[k]} ws->Q .non H')->spLay cF vs H Q E9
inductive Zg2(cF:XB)(vs:XF)(H:Hp)(Q:VK)(E9:XK):Prop
 |mk(f:FrI)(x:FrS)(ws:XF)(e:Str)(k:Int):vs=[.ref f.a,.str e,.int k]->FrAt cF H f x ws->(∀H',KeptX (·=f.a) H H'->FrAt cF H' f {x with fin:=some e,answer:=k} ws->Q .non H')->Zg2 cF vs H Q E9
noncomputable def treeV(x:FrS)(L:XB):List V:=[.str x.kind,.int x.who,.int x.whose,.int x.caller,.int x.coin,.int x.word,.int x.given,endV x.fin,.int x.answer,.int x.used,.ref L]
inductive spTree(cF:XB)(vs:XF)(H:Hp)(Q:VK)(E9:XK):Prop
 |mk(f:FrI)(x:FrS)(ws:XF):vs=[.ref f.a]->FrAt cF H f x ws->(∀p L H',Same H H'->H p=none->H L=none->H' L=some (.lst ws)->H' p=some (.tup (treeV x L))->Q (.ref p) H')->spTree cF vs H Q E9
def ZcJ:FnScope ["self","many","numbers","turn"] ["self","many"] (Zae (tQ 56 4)):=by walk_at"c"
include Y
def Zfg:iY Y 1 qc "left" (spLeft qc):=by
 refine ZaE ["self"] Y.aE Y.a.k.cl ?_
 .symm;let⟨fr,x,ws,rfl,F,k⟩:=h;refine⟨_,(Wb (Zaw ZeO (Zap (pv 0)) (Zap (pv 0)))),?_⟩;left;exists Zah F.ob Y.a.k.cl Y.a.n_given rfl ?_;exists Zah F.ob Y.a.k.cl Y.a.n_used rfl ?_;ext;exact k
def Zfh:iY Y 3 qc "short_for" (ZvZ K qc):=by
 refine ZaE ["self","row"] Y.aF Y.a.k.cl ?_
 .symm;let⟨fr,x,ws,p,wd,n,r,t,l,pr,d,rfl,F,hp,e1,e2,k⟩:=h;refine⟨_,(Wb (ZbB ZfD (Zau ZaN rfl Y.d Ys (Wa (Zap (pv 0)))) (Zam (ZjZ Y) (Wa (pv 1))))),?_⟩;left;have hST:=F.st;exists Zah F.ob Y.a.k.cl Y.a.n_stack rfl ?_;exists⟨p,wd,n,r,t,l,pr,d,rfl,hp,e1,e2,?_⟩;ext;rw[Ya];exact k
def Zd2:iY Y 3 qc "full_behind" (spFull K qc):=by
 refine ZaE ["self","row"] Y.aG Y.a.k.cl ?_
 .symm;let⟨fr,x,ws,p,wd,n,r,t,l,pr,d,rfl,F,hp,e1,e2,k⟩:=h;refine⟨_,(Wb (ZbB ZfE (Zaw Za0 (Zaw ZeO (Zau ZaN rfl Y.d Ys (Wa (Zap (pv 0)))) (Zam (ZjZ Y) (Wa (pv 1)))) (Zam (Zri Y) (Wa (pv 1)))) (ZaW rfl Y.aH))),?_⟩;left;have hST:=F.st;exists Zah F.ob Y.a.k.cl Y.a.n_stack rfl ?_;exists⟨p,wd,n,r,t,l,pr,d,rfl,hp,e1,e2,?_⟩;exists⟨p,wd,n,r,t,l,pr,d,rfl,hp,e1,e2,?_⟩;ext;rw[Ya];exact k
def ZaX:iY Y 1 qc "taken" (Zv0 qc):=by
 refine ZaE _ Y.aI Y.a.k.cl ?_ _ ZcJ
 .symm;let⟨fr,x,ws,s1,t,rfl,F,hx,ht,k⟩:=h;refine⟨_,(Zac (Zao (i:=2) ZcJ.nd (ZaI Zab)) (Zac (ZbQ YV rfl (ZcM rfl Y.k (Wa (pv 1))) (ZaU (i:=3) ZcJ.nd) (Zaf (Zay (Zbj Yy YI YH ZaT (pv 2) (Wa (ZpS Yy PySem.F.slot_list_pop PySem.F.type_list_pop Zuh (Zap (pv 0)))))))) (Wb (ZoP rfl rfl Y.m rfl Y.aJ (Wa (pv 2)))))),?_⟩;left;exists⟨nofun,λnl hnl=>?_⟩;exists ZbT (ZdT ?_);exists⟨_,rfl,(),(),?_⟩;rw[Yt];refine Zdk (λi U' H'=>KeptX (·=fr.ST) H H'/\H' nl=some (.lst (((t.drop (t.length-i)).reverse).map V.int))/\H' fr.ST=some (.lst ((s1++t.take (t.length-i)).map V.int))/\∃v,U'=[some (.ref fr.a),some (.int (t.length:Nat)),some (.ref nl),v]) ⟨KeptX.new hnl,?_,?_,_,rfl⟩ ?_ ?_
  .rw [YaU,YcO];exact Zad
  .rw [YaU,YK,Zaj (Zai F.st hnl),<- hx];exact F.st
  .rintro i U' H' hi ⟨k1,h1,h2,v,rfl⟩;obtain⟨j,hj⟩:∃j,t.length-i=j+1:=⟨t.length-i-1,()⟩;have hjl:j<t.length:=();have e1:t.take (t.length-i)=t.take j++[t[j]]:=by rw[hj];exact Ym hjl
   have e2:t.drop j=t[j]::t.drop (t.length-i):=by rw[hj];exact Ydb hjl
   have e3:t.length-(i+1)=j:=();rw[e3,e2];rw[e1,<- YQ,YA]at h2;have hob:H' fr.a=some (.ins qc fr.dx (fldF fr x)):=k1 _ _ F.ob F.aST;generalize t[j]=z at *;have nln:nl≠fr.ST:=YR (Zai F.st hnl);exists⟨Za9 (Zal h1),?_⟩;exists Zah hob Y.a.k.cl Y.a.n_stack rfl ?_;refine⟨Za9 (Zal h2),?_⟩;refine Zup h2 ?_;exists ZaZ (xs:=((t.drop (t.length-i)).reverse).map V.int) (by rw[Zaj nln];exact h1) (by rw[Ya,YaL,Yaw];exact Y4 (show _<=1000 by omega) nofun) ?_;exists⟨λb o e n=>by rw[Zaj (Zai e hnl),Zaj n];exact k1 b o e n,?_,?_,_,rfl⟩
   .rw [Zad,List.reverse_cons,YA];rfl
   .rw [Zaj (YR nln),Zad]
  .rintro U' H' ⟨k1,h1,h2,v,rfl⟩;rw[Yam,Yc9]at h1;rw[Yam,YbP,YZ]at h2;have F1:=F.put k1 h2;exists ZoO ?_;exists⟨nl,_,rfl,Zal h1,λl hl=>?_⟩;rw[<- List.map_reverse,List.reverse_reverse];have hlH:H l=none:=by
    cases e:H l with
    |none=>rfl
    |some o=>
     by_cases q:l=fr.ST
     .rw [q,h2]at hl;cases hl
     .rw [k1 l o e q]at hl;cases hl
   exact k l _ hlH (k1.trans (KeptX.new hl)) (F1.same (Same.new hl)) Zad
def Zbr:iY Y 1 qc "lay" (spLay qc):=by
 refine ZaE ["self","number"] Y.aL Y.a.k.cl ?_
 .symm;let⟨fr,x,ws,n,rfl,F,hl,k⟩:=h;refine⟨_,(Zaf (Zay (Zbj Yy YI YH ZaT (Zap (pv 0)) (Wa (pv 1))))),?_⟩;left;exists Zah F.ob Y.a.k.cl Y.a.n_stack rfl ?_;refine⟨Za9 (Zal F.st),?_⟩;exists ZaZ F.st (by rw[Ya];exact Y4 hl nofun) ?_;ext;have:=F.setST (x.stack++[n]);rw[YA]at this;exact k _ (KeptX.upd rfl) this
def Zcn:iY Y 1 qc "finish" (Zg2 qc):=by
 refine ZaE ["self","end","answer"] Y.aM Y.a.k.cl ?_
 .symm;let⟨fr,x,ws,e,n,rfl,F,k⟩:=h;refine⟨_,(Zac (ZaS (pv 0) (pv 1) rfl) (Zaf (ZaS (pv 0) (pv 2) rfl))),?_⟩;left;exists ZaD F.ob Y.a.k.cl Y.a.n_end (by show 15<1000;decide) ?_;exists ZaD Zad Y.a.k.cl Y.a.n_answer (by show 15<1000;decide) ?_;rw[ZaO];exact k _ (KeptX.upd rfl) (F.setF {x with fin:=some e,answer:=n} rfl)
def Zfi:iY Y 1 qc "tree" (spTree qc):=by
 refine ZaE ["self"] Y.aO Y.a.k.cl ?_
 .symm;let⟨fr,x,ws,rfl,F,k⟩:=h;refine⟨_,(Wb (ZaH (Zaa (Zap (pv 0)) (Zaa (Zap (pv 0)) (Zaa (Zap (pv 0)) (Zaa (Zap (pv 0)) (Zaa (Zap (pv 0)) (Zaa (Zap (pv 0)) (Zaa (Zap (pv 0)) (Zaa (Zap (pv 0)) (Zaa (Zap (pv 0)) (Zaa (Zap (pv 0)) (Wa (ZaJ ZjJ rfl Y.m YaQ (Wa (Zap (pv 0))))))))))))))))),?_⟩;left;exists Zah F.ob Y.a.k.cl Y.a.n_kind rfl ?_;exists Zah F.ob Y.a.k.cl Y.a.n_who rfl ?_;exists Zah F.ob Y.a.k.cl Y.a.n_whose rfl ?_;exists Zah F.ob Y.a.k.cl Y.a.n_caller rfl ?_;exists Zah F.ob Y.a.k.cl Y.a.n_coin rfl ?_;exists Zah F.ob Y.a.k.cl Y.a.n_word rfl ?_;exists Zah F.ob Y.a.k.cl Y.a.n_given rfl ?_;exists Zah F.ob Y.a.k.cl Y.a.n_end rfl ?_;exists Zah F.ob Y.a.k.cl Y.a.n_answer rfl ?_;exists Zah F.ob Y.a.k.cl Y.a.n_used rfl ?_;exists Zah F.ob Y.a.k.cl Y.a.n_steps rfl ?_;walk_at"Q";refine ZgV (Zal F.ss) λL hL=>?_;exists⟨szl_11,λp hp=>?_⟩;have s1:Same H (upd H L (.lst ws)):=Same.new hL;exact k p L _ (s1.newT hp) (s1.fresh hp) hL (by rw[Zaj (Zai Zad hp),Zad]) Zad
omit Y
def inF(f:FrI)(b:XB):Prop:=b=f.a\/b=f.ST
def k_st{f:FrI}{H H':Hp}(k:KeptX (·=f.ST) H H'):KeptX (inF f) H H':=k.mono λ_ h=>.inr h
def k_a{f:FrI}{H H':Hp}(k:KeptX (·=f.a) H H'):KeptX (inF f) H H':=k.mono λ_ h=>.inl h
def Zc1{K:Ydg}{f:FrI}{cF:XB}{H H':Hp}{x:FrS}{ws:XF}{p:XB}{w:Str}{n:XS}(h:Zb9 K H p w n)(F:FrAt cF H f x ws)(k:KeptX (inF f) H H'):Zb9 K H' p w n:=by
 unfold Zb9 at h |-;refine SameI.tup (k.imm λb o z e i=>?_) h;rcases z with rfl|rfl
 .rw [F.ob]at e;cases e;exact Zbv i
 .rw [F.st]at e;cases e;exact Za4 i
def ZmS{xs:XD}{k:Nat}{v:Int}(hk:k<xs.length)(e:xs[xs.length-1-k]?=some v):atI (xs.map V.int) (-1-(k:Int))=some (.int v):=by
 unfold atI;rw[Ya,Zvn (j:=xs.length-1-k) () ()];show(xs.map V.int)[xs.length-1-k]?=_;rw[Yb,e];rfl
def ZfO(x:FrS)(w:Str)(b:Bool):Prop:=(w≠"call"/\b=false)\/(w="call"/\∃s c u v,x.stack=s++[c,u,v]/\b=decide (0<c))
def fillsR(A:XC)(S:XL)(x:FrS)(w:Str)(b:Bool):Prop:=(w≠"save"/\b=false)\/(w="save"/\∃s p v,x.stack=s++[p,v]/\((v=0/\b=false)\/(v≠0/\∃i y,x.who=((i:Nat):Int)/\i<16/\A i=some y/\b=decide ((S i).store p=0))))
inductive Ztl(K:Ydg)(cF:XB)(vs:XF)(H:Hp)(Q:VK)(E9:XK):Prop
 |mk(f:FrI)(x:FrS)(ws:XF)(p:XB)(w:Str)(n:XS)(b:Bool):vs=[.ref f.a,.ref p]->FrAt cF H f x ws->Zb9 K H p w n->ZfO x w b->Q (.bl b) H->Ztl K cF vs H Q E9
inductive Zv1(K:Ydg)(C cF:XB)(vs:XF)(H:Hp)(Q:VK)(E9:XK):Prop
 |mk(R:XB)(A:XC)(S:XL)(m:Nat)(f:FrI)(x:FrS)(ws:XF)(p:XB)(w:Str)(n:XS)(b:Bool):vs=[.ref R,.ref f.a,.ref p]->Rooms K C H R A S m->FrAt cF H f x ws->Zb9 K H p w n->fillsR A S x w b->Q (.bl b) H->Zv1 K C cF vs H Q E9
inductive ZfP(K:Ydg)(C cF:XB)(vs:XF)(H:Hp)(Q:VK)(E9:XK):Prop
 |mk(R:XB)(A:XC)(S:XL)(m:Nat)(f:FrI)(x:FrS)(ws:XF)(p:XB)(w:Str)(n:XS)(b1 b2:Bool)(t l pr d:Int):vs=[.ref R,.ref f.a,.ref p]->Rooms K C H R A S m->FrAt cF H f x ws->Zb9 K H p w n->ZfO x w b1->fillsR A S x w b2->RT.lookup w=some (t,l,pr,d)->Q (.int (if(b1||b2)=true then d else pr)) H->ZfP K C cF vs H Q E9
noncomputable def barB(x:FrS)(w:Str)(b1:Bool):Bool:=x.looking&&(inS w ["save","note"]||b1)
inductive Ztm(K:Ydg)(cF:XB)(vs:XF)(H:Hp)(Q:VK)(E9:XK):Prop
 |mk(f:FrI)(x:FrS)(ws:XF)(p:XB)(w:Str)(n:XS)(b1:Bool):vs=[.ref f.a,.ref p]->FrAt cF H f x ws->Zb9 K H p w n->ZfO x w b1->(∀H',Same H H'->Q (.bl (barB x w b1)) H')->Ztm K cF vs H Q E9
def aheadR(A:XC)(S:XL)(x:FrS)(w:Str)(n:XS)(e:Option Str):Prop:=∃r t l pr d,ZcI w n=some r/\RT.lookup w=some (t,l,pr,d)/\
 (((x.stack.length:Int)<t+r/\e=some ("short":Xq))\/(¬(x.stack.length:Int)<t+r/\24<(x.stack.length:Int)-(t+r)+(l+r)/\e=some ("full":Xq))\/(¬(x.stack.length:Int)<t+r/\¬24<(x.stack.length:Int)-(t+r)+(l+r)/\∃b1 b2,ZfO x w b1/\fillsR A S x w b2/\((barB x w b1=true/\e=some ("barred":Xq))\/(barB x w b1=false/\x.given-x.used<(if(b1||b2)=true then d else pr)/\e=some ("dry":Xq))\/(barB x w b1=false/\¬x.given-x.used<(if(b1||b2)=true then d else pr)/\e=none))))
inductive ZmT(K:Ydg)(C cF:XB)(vs:XF)(H:Hp)(Q:VK)(E9:XK):Prop
 |mk(R:XB)(A:XC)(S:XL)(m:Nat)(f:FrI)(x:FrS)(ws:XF)(p:XB)(w:Str)(n:XS)(e:Option Str):vs=[.ref R,.ref f.a,.ref p]->Rooms K C H R A S m->FrAt cF H f x ws->Zb9 K H p w n->aheadR A S x w n e->(∀H',Same H H'->Q (endV e) H')->ZmT K C cF vs H Q E9
def at_m3{xs s:XD}{c u v:Int}(e:xs=s++[c,u,v]):atI (xs.map V.int) (-3)=some (.int c):=by
 have h:atI (xs.map V.int) (-1-((2:Nat):Int))=some (.int c):=ZmS (by rw[e];simp) (by rw[e];simp);exact h
def at_m2{xs s:XD}{u v:Int}(e:xs=s++[u,v]):atI (xs.map V.int) (-2)=some (.int u):=by
 have h:atI (xs.map V.int) (-1-((1:Nat):Int))=some (.int u):=ZmS (by rw[e];simp) (by rw[e];simp);exact h
def at_m1{xs s:XD}{v:Int}(e:xs=s++[v]):atI (xs.map V.int) (-1)=some (.int v):=by
 have h:atI (xs.map V.int) (-1-((0:Nat):Int))=some (.int v):=ZmS (by rw[e];simp) (by rw[e];simp);exact h
include Y
def Zem:mY Y 1 "brings_coin" (Ztl K qc):=by
 refine Zax ["frame","row"] Y.aP ?_
 .symm;let⟨fr,x,ws,p,wd,n,b,rfl,F,hp,hb,k⟩:=h;refine⟨_,(Wb (ZkU (ZbB Zbf (Zaq ZaK (pv 1) Zag) Zav) (Zhb (ZbB ZfE (Zaq Zan (Zap (pv 0)) (ZfB ZcN Zag)) Zag)))),?_⟩;left;rcases hb with⟨hw,rfl⟩|⟨rfl,s0,c,u,v,e0,rfl⟩
  .walk_at"W'"
   .exact absurd ‹_› hw
   .exact k
  .walk_at"W'"
   .refine Zah F.ob Y.a.k.cl Y.a.n_stack rfl ?_;right;refine ZaA (Zal F.st) (at_m3 e0) ?_;right;exact k
   .rename_i z;exact absurd rfl z
def ZiC:mY Y 2 "fills_place" (Zv1 K qa qc):=by
 refine Zax ["rooms","frame","row"] Y.aQ ?_
 .symm;let⟨R,Ar,S,m,fr,x,ws,p,wd,n,b,rfl,r,F,hp,hb,k⟩:=h;refine⟨_,(Zac (ZaG (PW.pt (Zd0 (Zas ZfC (Zaq ZaK (pv 2) Zag) Zav) (ZcL (Zas Zbf (Zaq Zan (Zap (pv 1)) (ZfB ZcN Zag)) Zag)))) (Wb ZcD) Zat) (Wb (ZbB Zbf (ZaB (Zbx Y) (hr.mono nofun) (Zaq Zan (pv 0) (Zap (pv 1))) (Wa (Zaq Zan (Zap (pv 1)) (ZfB ZcN Zag)))) Zag))),?_⟩;left;rcases hb with⟨hw,rfl⟩|⟨rfl,s0,pl,v,e0,hb⟩
  .walk_at"W'"
   .exact k
   .exact absurd ‹_› hw
  .have e1:x.stack=(s0++[pl])++[v]:=by rw[e0];simp
   walk_at"W'"
   .rename_i z;exact absurd rfl z
   .refine Zah F.ob Y.a.k.cl Y.a.n_stack rfl ?_;right;refine ZaA (Zal F.st) (at_m1 e1) ?_;walk_at"W'"
    .rename_i z;rcases hb with⟨_,rfl⟩|⟨hv,_⟩
     .exact k
     .exact absurd z hv
    .rename_i z;rcases hb with⟨hv,_⟩|⟨_,i,y,ew,hi,hy,rfl⟩
     .exact absurd hv z
     .refine Zah F.ob Y.a.k.cl Y.a.n_who rfl ?_;rw[ew];refine ZaA (Zal r.ob) (r.at hi hy) ?_;have ay:=r.ac i y hi hy;refine Zar ay.ob rfl ?_;right;refine Zah F.ob Y.a.k.cl Y.a.n_stack rfl ?_;right;refine ZaA (Zal F.st) (at_m2 e0) ?_;right;refine⟨y.a,y.dx,y.pr,y.st,_,_,_,_,_,m,pl,rfl,ay,?_⟩;right;exact k
def Zgu:mY Y 3 "row_price" (ZfP K qa qc):=by
 refine Zax ["rooms","frame","row"] Y.aU ?_
 .symm;let⟨R,Ar,S,m,fr,x,ws,p,wd,n,b1,b2,t,l,pr,d,rfl,r,F,hp,hb1,hb2,ht,k⟩:=h;refine⟨_,(Wb (Zu9 (Ztg Y) (hr.mono nofun) rfl (Zaa (pv 2) (Wa (pe_or (Zam (Zem Y) (Zaa (pv 1) (Wa (pv 2)))) (Zhb (Zam (ZiC Y) (Zaa (pv 0) (Zaa (pv 1) (Wa (pv 2))))))))))),?_⟩;left;right;refine⟨fr,x,ws,p,wd,n,b1,rfl,F,hp,hb1,?_⟩;cases b1 with
  |true=>
   right;exact⟨p,wd,n,t,l,pr,d,true,rfl,hp,ht,k⟩
  |false=>
   right;refine⟨R,Ar,S,m,fr,x,ws,p,wd,n,b2,rfl,r,F,hp,hb2,?_⟩;right;exact⟨p,wd,n,t,l,pr,d,b2,rfl,hp,ht,k⟩
def ZlO:mY Y 2 "is_barred" (Ztm K qc):=by
 refine Zax ["frame","row"] Y.aV ?_
 .symm;let⟨fr,x,ws,p,wd,n,b,rfl,F,hp,hb,k⟩:=h;refine⟨_,(Wb (ZkU (Zap (pv 0)) (Zhb (pe_or (ZbB ZcP (Zaq ZaK (pv 1) Zag) (ZaH (Zaa Zav (Wa Zav))) rfl) (Zhb (Zam (Zem Y) (Zaa (pv 0) (Wa (pv 1))))))))),?_⟩;left;right;refine Zah F.ob Y.a.k.cl Y.a.n_looking rfl ?_;unfold barB at k;cases e:x.looking with
  |false=>
   rw[e]at k;right;exact k H (Same.refl H)
  |true=>
   rw[e]at k;right;refine⟨nofun,λq hq=>?_⟩;have s1:Same H (upd H q (.tup [.str "save",.str "note"])):=Same.new hq;refine Zny (xs:=["save","note"]) Zqc ?_;have F1:=F.same s1;have hp1:Zb9 K _ p wd n:=s1.tup hp;generalize upd H q _=H1 at s1 F1 hp1;cases e2:inS wd ["save","note"]with
   |true=>
    rw[e2]at k;right;exact k H1 s1
   |false=>
    rw[e2]at k;right;exact⟨fr,x,ws,p,wd,n,b,rfl,F1,hp1,hb,k H1 s1⟩
def ZhV:mY Y 4 "end_ahead_of" (ZmT K qa qc):=by
 refine Zax ["rooms","frame","row"] Y.aX ?_
 .symm;let⟨R,Ar,S,m,fr,x,ws,p,wd,n,e,rfl,r,F,hp,⟨rr,t,l,pr,d,hr1,hr2,ha⟩,k⟩:=h;refine⟨_,(Zac (ZaG (ZbN (ZaB (Zfh Y) (hr.mono nofun) (pv 1) (Wa (pv 2)))) (Wb Zav) Zat) (Zac (ZaG (ZbN (ZaB (Zd2 Y) (hr.mono nofun) (pv 1) (Wa (pv 2)))) (Wb Zav) Zat) (Zac (ZaG (ZbN (Zam (ZlO Y) (Zaa (pv 1) (Wa (pv 2))))) (Wb Zav) Zat) (Zac (ZaG (Zas ZfE (Zam (Zgu Y) (Zaa (pv 0) (Zaa (pv 1) (Wa (pv 2))))) (Zbn (Zfg Y) (hr.mono nofun) (pv 1))) (Wb Zav) Zat) (Wb Zbl))))),?_⟩;left;rcases ha with⟨h1,rfl⟩|⟨h1,h2,rfl⟩|⟨h1,h2,b1,b2,hb1,hb2,ha⟩
  .skip
   walk_at"Y";refine Zar F.ob rfl ?_;walk_at"Y";refine⟨fr,x,ws,p,wd,n,rr,t,l,pr,d,rfl,F,hp,hr1,hr2,?_⟩;walk_at"Y";exact k H (Same.refl H)
  .skip
   walk_at"Y";refine Zar F.ob rfl ?_;walk_at"Y";refine⟨fr,x,ws,p,wd,n,rr,t,l,pr,d,rfl,F,hp,hr1,hr2,?_⟩;walk_at"Y";refine Zar F.ob rfl ?_;walk_at"Y";refine⟨fr,x,ws,p,wd,n,rr,t,l,pr,d,rfl,F,hp,hr1,hr2,?_⟩;walk_at"Y";exact k H (Same.refl H)
  .skip
   walk_at"Y";refine Zar F.ob rfl ?_;walk_at"Y";refine⟨fr,x,ws,p,wd,n,rr,t,l,pr,d,rfl,F,hp,hr1,hr2,?_⟩;walk_at"Y";refine Zar F.ob rfl ?_;walk_at"Y";refine⟨fr,x,ws,p,wd,n,rr,t,l,pr,d,rfl,F,hp,hr1,hr2,?_⟩;walk_at"Y";refine⟨fr,x,ws,p,wd,n,b1,rfl,F,hp,hb1,λH1 s1=>?_⟩;have F1:=F.same s1;have r1:=r.same s1;have hp1:Zb9 K H1 p wd n:=s1.tup hp;rcases ha with⟨hbar,rfl⟩|⟨hbar,hdr,rfl⟩|⟨hbar,hdr,rfl⟩
   .rw [hbar];walk_at"Y";exact k H1 s1
   .skip
    rw[hbar];walk_at"Y";refine⟨R,Ar,S,m,fr,x,ws,p,wd,n,b1,b2,t,l,pr,d,rfl,r1,F1,hp1,hb1,hb2,hr2,?_⟩;generalize (if(b1||b2)=true then d else pr)=z at hdr |-;walk_at"Y";refine Zar F1.ob rfl ?_;refine⟨fr,x,ws,rfl,F1,?_⟩;walk_at"Y";exact k H1 s1
   .skip
    rw[hbar];walk_at"Y";refine⟨R,Ar,S,m,fr,x,ws,p,wd,n,b1,b2,t,l,pr,d,rfl,r1,F1,hp1,hb1,hb2,hr2,?_⟩;generalize (if(b1||b2)=true then d else pr)=z at hdr |-;walk_at"Y";refine Zar F1.ob rfl ?_;refine⟨fr,x,ws,rfl,F1,?_⟩;walk_at"Y";exact k H1 s1
omit Y
theorem Zg3:∀(kvs:XU),(∀p∈kvs,∃i n:Int,p=(Sum.inl i,.int n)/\n≠0)->∃ks:List Int,kvs.map (·.1)=ks.map Sum.inl
 |[],_=>⟨[],rfl⟩
 |p::r,h=>by
  let⟨i,n,rfl,_⟩:=h p (by simp);let⟨ks,e⟩:=Zg3 r λq hq=>h q (by simp[hq]);exact⟨i::ks,by rw[Yz,e];rfl⟩
def Zj5{kvs:XU}{k:Key}{v:V}(h:valV kvs k=some v):(k,v)∈kvs:=by
 unfold valV at h;let⟨p,hp,rfl⟩:=Yu.mp h;have h1:=List.find?_some hp;have h2:=List.mem_of_find?_eq_some hp;simp only[Yr]at h1;rw[<- h1];exact h2
theorem Zfj:∀(ks ps:XD),ks.Nodup->(∀k∈ks,k∈ps)->ks.length<=ps.length
 |[],ps,_,_=>YO _
 |k::ks,ps,hn,h=>by
  let⟨n1,n2⟩:=YT.mp hn;have hk:=h k (by simp);have:=Zfj ks (ps.erase k) n2 λx hx=>(List.mem_erase_of_ne (λz=>n1 (by rw[<- z];exact hx))).mpr (h x (by simp[hx]));rw[List.length_erase_of_mem hk]at this;have:0<ps.length:=List.length_pos_of_mem hk;simp only[Yi];omega
def StoreAt.tight{H:Hp}{d:XB}{f:Xf}{m:Nat}(h:StoreAt H d f m){ps:XD}(hp:∀p,f p≠0->p∈ps):StoreAt H d f ps.length:=by
 let⟨kvs,e1,e2,e3,e4,e5⟩:=h;refine⟨kvs,e1,?_,e3,e4,e5⟩;let⟨ks,hk⟩:=Zg3 kvs e4;have hkn:ks.Nodup:=by
  rw[hk]at e3;exact(YbX.mp e3).imp λh e=>h (by rw[e])
 have hl:kvs.length=ks.length:=by
  have:=Y3 List.length hk;rw[Ya,Ya]at this;exact this
 rw[hl];refine Zfj ks ps hkn λk hk'=>hp k ?_;have hm:(Sum.inl k:Key)∈kvs.map (·.1):=by rw[hk];exact YF.mpr ⟨k,hk',rfl⟩
 cases e:valV kvs (Sum.inl k:Key)with
 |none=>exact absurd hm (ZgT e)
 |some v=>
  let⟨j,n,z,hn0⟩:=e4 _ (Zj5 e);cases z;have:=e5 k;rw[e]at this;rw[<- V.int.inj (show V.int n=V.int (f k)from this)];exact hn0
def Zrl{x:Str}{xs:XN}(h:inS x xs=true):x∈xs:=by
 unfold inS at h;let⟨y,hy,e⟩:=Yby.mp h;rw[<- eq_of_beq e];exact hy
def inF3(f:FrI)(b:XB):Prop:=b=f.a\/b=f.ST\/b=f.SS
def k_F3{f:FrI}{H H':Hp}(k:KeptX (inF f) H H'):KeptX (inF3 f) H H':=k.mono λ_ h=>h.elim .inl λz=>.inr (.inl z)
noncomputable def Zc2(x:FrS)(c:Int):FrS:={x with used:=x.used+c,row:=x.row+1}
structure Ap(R L:XB)(A:XC)(f:FrI):Prop where
 tR:f.ST≠R
 sR:f.SS≠R
 tL:f.ST≠L
 sL:f.SS≠L
 p:∀i y,i<16->A i=some y->f.ST≠y.pr/\f.SS≠y.pr
def goX(A:XC)(L:XB)(f:FrI)(b:XB):Prop:=¬Out A b\/b=L\/inF3 f b
section
variable{K:Ydg}{C cJ cS cM cN cF:XB}{H H':Hp}{j dx R L:XB}{A:XC}{S:XL}{m:Nat}{es:List DI}{f:FrI}{x:FrS}{ws:XF}
def ZgH(k:KeptX (inF3 f) H H'):KeptX (goX A L f) H H':=k.mono λ_ h=>.inr (.inr h)
def ZuB(k:∀b,Out A b->b≠L->H' b=H b):KeptX (goX A L f) H H':=λb o e n=>by
 have h1:Out A b:=YbR λz=>n (.inl z);have h2:b≠L:=λz=>n (.inr (.inl z));rw[k b h1 h2];exact e
def imm_F3(F:FrAt cF H f x ws)(k:KeptX (inF3 f) H H'):SameI H H':=k.imm λb o z e i=>by
 rcases z with rfl|rfl|rfl
 .rw [F.ob]at e;cases e;exact Zbv i
 .rw [F.st]at e;cases e;exact Za4 i
 .rw [F.ss]at e;cases e;exact Za4 i
def ZfQ(F:FrAt cF H f x ws){b C' dx':XB}{fs:Xl}(h:H b=some (.ins C' dx' fs))(n:fs.length≠15):¬inF3 f b:=by
 rintro(z|z|z)
 .exact Zgq h F.ob n z
 .exact Za3 h F.st nofun z
 .exact Za3 h F.ss nofun z
def Zrm(F:FrAt cF H f x ws){b:XB}{kvs:XU}(h:H b=some (.dK kvs)):¬inF3 f b:=by
 rintro(z|z|z)
 .exact Za3 h F.ob nofun z
 .exact Za3 h F.st nofun z
 .exact Za3 h F.ss nofun z
def ZfR(F:FrAt cF H f x ws){b:XB}{xs:XF}(h:H b=some (.lst xs))(n1:f.ST≠b)(n2:f.SS≠b):¬inF3 f b:=by
 rintro(z|z|z)
 .exact Za3 h F.ob nofun z
 .exact n1 z.symm
 .exact n2 z.symm
def Rooms.frame(r:Rooms K C H R A S m)(F:FrAt cF H f x ws)(a:Ap R L A f)(k:KeptX (inF3 f) H H'):Rooms K C H' R A S m:=by
 have im:=imm_F3 F k;refine⟨k _ _ r.ob (ZfR F r.ob a.tR a.sR),λi y hi hy=>?_,r.da,r.ds⟩;have h:=r.ac i y hi hy;let⟨zs,e1,e2⟩:=h.pg;let⟨kvs,e3,e4⟩:=h.sto;exact⟨k _ _ h.ob (ZfQ F h.ob (by show 5≠15;decide)),⟨zs,k _ _ e1 (ZfR F e1 (a.p i y hi hy).1 (a.p i y hi hy).2),e2.keep im⟩,kvs,k _ _ e3 (Zrm F e3),e4⟩
def Jr.frame(J:Jr cJ cS cM cN H j dx R L A es)(F:FrAt cF H f x ws)(a:Ap R L A f)(k:KeptX (inF3 f) H H'):Jr cJ cS cM cN H' j dx R L A es:=
 ⟨k _ _ J.ob (ZfQ F J.ob (by show 2≠15;decide)),k _ _ J.li (ZfR F J.li a.tL a.sL),λe he=>⟨k _ _ (J.de e he).1 (ZfQ F (J.de e he).1 (by have:=Zg1 e.d;omega)),(J.de e he).2⟩,J.nR,J.np⟩
def FrAt.out(F:FrAt cF H f x ws)(r:Rooms K C H R A S m)(a:Ap R L A f)(lL:H L=some (.lst (es.map λe=>V.ref e.o)))(k:∀b,Out A b->b≠L->H' b=H b):FrAt cF H' f x ws:=by
 have oa:Out A f.a:=λi y hi hy=>⟨Zgq F.ob (r.ac i y hi hy).ob (by show 15≠5;decide),let⟨_,g,_⟩:=(r.ac i y hi hy).sto;Za3 F.ob g nofun⟩;exact⟨by rw[k _ oa (Za3 F.ob lL nofun)];exact F.ob,by rw[k _ (r.outL F.st) a.tL];exact F.st,by rw[k _ (r.outL F.ss) a.sL];exact F.ss,F.ne⟩
end
def Zrn(S:XL)(a b:Nat)(k:Int)(j:Nat):(doneS S (.move (a:Int) (b:Int) k) j).coin=(S j).coin-(if j=a then k else 0)+(if j=b then k else 0)/\(doneS S (.move (a:Int) (b:Int) k) j).store=(S j).store:=by
 show(moved S _ _ k j).coin=_/\(moved S _ _ k j).store=_;rw[Zcc,Yt,Yt];exact⟨rfl,rfl⟩
def Zro(S:XL)(a:Nat)(p o v:Int)(j:Nat):(doneS S (.save (a:Int) p o v) j).coin=(S j).coin/\∀q,(doneS S (.save (a:Int) p o v) j).store q=if j=a/\q=p then v else(S j).store q:=by
 show(setS S _ _ j).coin=_/\∀q,(setS S _ _ j).store q=_;rw[Yt];unfold setS;by_cases e:j=a
 .rw [if_pos e,<- e];refine⟨rfl,λq=>?_⟩;show putFn (S j).store p v q=_;unfold putFn;by_cases e2:q=p
  .rw [if_pos e2,if_pos ⟨rfl,e2⟩]
  .rw [if_neg e2,if_neg (λz=>e2 z.2)]
 .rw [if_neg e];exact⟨rfl,λq=>by rw[if_neg (λz=>e z.1)]⟩
noncomputable def totalC(ss:XJ)(S:XL):Int:=(ss.map λi=>(S i).coin).sum
theorem ZhW(f g h:Nat->Int):∀ss:List Nat,(ss.map λn=>f n-g n+h n).sum=(ss.map f).sum-(ss.map g).sum+(ss.map h).sum
 |[]=>by simp
 |s::ss=>by
  have:=ZhW f g h ss;simp only[Yz,Yab];omega
theorem Zrp(i:Nat)(k:Int):∀ss:List Nat,i∉ss->(ss.map λn=>if n=i then k else 0).sum=0
 |[],_=>by simp
 |s::ss,h=>by
  have h1:s≠i:=λz=>h (by simp[z]);have:=Zrp i k ss λz=>h (by simp[z]);rw[Yz,Yab,if_neg h1,this];rfl
theorem ZlP(i:Nat)(k:Int):∀ss:List Nat,ss.Nodup->i∈ss->(ss.map λn=>if n=i then k else 0).sum=k
 |[],_,h=>by simp at h
 |s::ss,hn,h=>by
  let⟨n1,n2⟩:=YT.mp hn;rw[Yz,Yab];rcases Yh.mp h with rfl|h
  .rw [if_pos rfl,Zrp _ k ss n1];omega
  .rw [if_neg (λz=>n1 (by rw[z];exact h)),ZlP i k ss n2 h];omega
def Zjs{A:XC}{ss:XJ}(hn:ss.Nodup)(hA:∀i x,i<16->A i=some x->i∈ss){S:XL}{d:Dd}(hf:fitsD A d):totalC ss (doneS S d)=totalC ss S:=by
 unfold totalC;cases d with
 |save s p o n=>
  have:(λi=>(doneS S (.save s p o n) i).coin)=λi=>(S i).coin:=by
   funext i;show(setS S s.toNat _ i).coin=_;unfold setS;by_cases z:i=s.toNat
   .rw [if_pos z,z]
   .rw [if_neg z]
  rw[this]
 |move s t k=>
  let⟨⟨i,x,rfl,hi,hx⟩,j,y,rfl,hj,hy⟩:=hf;have:(λn=>(doneS S (.move i j k) n).coin)=λn=>(S n).coin-(if n=i then k else 0)+(if n=j then k else 0):=by
   funext n;show(moved S _ _ k n).coin=_;rw[Zcc,Yt,Yt]
  rw[this,ZhW,ZlP i k ss hn (hA i x hi hx),ZlP j k ss hn (hA j y hj hy)];omega
 |note s n=>rfl
def Zo8(S:XL)(d:Dd)(i:Nat):(doneS S d i).purse=(S i).purse/\(doneS S d i).count=(S i).count/\(doneS S d i).rows=(S i).rows:=by
 cases d with
 |save s p o n=>
  show(setS S s.toNat _ i).purse=_/\(setS S s.toNat _ i).count=_/\(setS S s.toNat _ i).rows=_;unfold setS;by_cases z:i=s.toNat
  .rw [if_pos z,z];exact⟨rfl,rfl,rfl⟩
  .rw [if_neg z];exact⟨rfl,rfl,rfl⟩
 |move s t k=>
  show(moved S _ _ k i).purse=_/\(moved S _ _ k i).count=_/\(moved S _ _ k i).rows=_;rw[Zcc];exact⟨rfl,rfl,rfl⟩
 |note s n=>exact⟨rfl,rfl,rfl⟩
def Zfk(ds:Xg):∀(S:XL)(i:Nat),(runS S ds i).purse=(S i).purse/\(runS S ds i).count=(S i).count/\(runS S ds i).rows=(S i).rows:=by
 induction ds with
 |nil=>exact λS i=>⟨rfl,rfl,rfl⟩
 |cons d ds ih=>
  intro S i;let⟨a,b,c⟩:=ih (doneS S d) i;let⟨a',b',c'⟩:=Zo8 S d i;exact⟨a.trans a',b.trans b',c.trans c'⟩
theorem ZlQ{A:XC}{ss:XJ}(hn:ss.Nodup)(hA:∀i x,i<16->A i=some x->i∈ss):∀(ds:Xg)(S:XL),(∀d∈ds,fitsD A d)->totalC ss (runS S ds)=totalC ss S
 |[],S,_=>rfl
 |d::ds,S,h=>(ZlQ hn hA ds (doneS S d) λe he=>h e (by simp[he])).trans (Zjs hn hA (h d (by simp)))
section
variable{K:Ydg}{C cJ cS cM cN:XB}{H0 H H':Hp}{j dx R L:XB}{A:XC}{S0:XL}{es:List DI}{m:Nat}
end
def Ztn(ds:Xg)(S:XL)(i:Nat):(runS S ds i).rows=(S i).rows:=(Zfk ds S i).2.2
noncomputable def WL:List Str:=["push","drop","add","both","unlike","jumpif","load","save","sent","word","coin","note","call","borrow","look","give","fail"]
def Eff(w:Str)(n:XS)(i:Int)(s:XD)(i':Int)(s':XD):Prop:=∃(b t r:XD)(pr d:Int),s=b++t/\s'=b++r/\RT.lookup w=some ((t.length:Int),(r.length:Int),pr,d)/\(w="push"->∃k,n=some k/\r=[k])/\(i'=i+1\/(w="jumpif"/\n=some i'))
structure Iv(ps:XD)(rs:XW)(I:Int->List Int->Prop):Prop where
 z:I 0 []
 sv:∀(i:Nat)(b:XD)(n:XS)(p v:Int),I (i:Int) (b++[p,v])->rs[i]?=some (("save":Xq),n)->p∈ps
 cl:∀(i:Nat)(s:XD)(w:Str)(n:XS)(i':Int)(s':XD),I (i:Int) s->rs[i]?=some (w,n)->Eff w n (i:Int) s i' s'->∃j:Nat,i'=(j:Int)/\I i' s'
def ZuC(r:Row):Prop:=r.1∈WL/\(r.1="push"->∃k,r.2=some k/\In64 k)/\(r.1="jumpif"->∃k,r.2=some k)
def Safe(ps:XD)(rs:XW):Prop:=(∀r∈rs,ZuC r)/\∃I,Iv ps rs I
theorem ZlR(f:Nat->Int):∀l:List Nat,(∀i∈l,0<=f i)->0<=(l.map f).sum/\∀i∈l,f i<=(l.map f).sum
 |[],_=>⟨by simp,λ_ h=>nomatch h⟩
 |j::l,h=>by
  let⟨a,b⟩:=ZlR f l λi hi=>h i (Yo _ hi);have hj:=h j (Y1 ..);rw[Yz,Yab];refine⟨(),λi hi=>?_⟩;rcases Yh.1 hi with rfl|hi
  .omega
  .have:=b i hi;omega
structure SOk(ps:XD)(S:XL):Prop where
 st:∀i q,In64 ((S i).store q)/\((S i).store q≠0->q∈ps)
 co:∀i,i<16->0<=(S i).coin
 to:totalC (List.range 16) S<18446744073709551616
def SOk.coin{ps:XD}{S:XL}(h:SOk ps S){i:Nat}(hi:i<16):In64 ((S i).coin):=by
 have g:=(ZlR (λi=>(S i).coin) (List.range 16) λi hi=>h.co i (Y6.1 hi)).2 i (Y6.2 hi);have:=h.co i hi;have ht:=h.to;unfold totalC at ht;exact⟨this,by show _<_;omega⟩
def SOk.save{ps:XD}{S:XL}(h:SOk ps S)(i:Nat){p o v:Int}(hp:p∈ps)(hv:In64 v):SOk ps (doneS S (.save (i:Int) p o v)):=by
 have e:=Zro S i p o v;refine⟨λj q=>?_,λj hj=>?_,?_⟩
 .rw [(e j).2];split
  .rename_i z;exact⟨hv,λ_=>z.2▸hp⟩
  .exact h.st j q
 .rw [(e j).1];exact h.co j hj
 .have:totalC (List.range 16) (doneS S (.save (i:Int) p o v))=totalC (List.range 16) S:=by
   unfold totalC;rw[show(λj=>(doneS S (.save (i:Int) p o v) j).coin)=λj=>(S j).coin from funext λj=>(e j).1]
  rw[this];exact h.to
def SOk.move{ps:XD}{S:XL}{A:XC}(h:SOk ps S){i j:Nat}{x y:AcI}(hi:i<16)(hj:j<16)(hx:A i=some x)(hy:A j=some y){c:Int}(c0:0<=c)(hc:c<=(S i).coin):SOk ps (doneS S (.move (i:Int) (j:Int) c)):=by
 have e:=Zrn S i j c;refine⟨λn q=>?_,λn hn=>?_,?_⟩
 .rw [(e n).2];exact h.st n q
 .rw [(e n).1];have:=h.co n hn;by_cases z:n=i
  .rw [if_pos z,z];split<;>omega
  .rw [if_neg z];split<;>omega
 .rw [Zjs (A:=A) (d:=.move (i:Int) (j:Int) c) (Ybx) (λn _ hn _=>Y6.2 hn) ⟨⟨i,x,rfl,hi,hx⟩,j,y,rfl,hj,hy⟩];exact h.to
structure MI where
 j:Addr
 dx:Addr
 R:Addr
 L:Addr
 A:Nat->Option AcI
 S0:Nat->AcS
 ps:List Int
structure Wd(K:Ydg)(C cJ cS cM cN:XB)(H:Hp)(M:MI)(ds:Xg):Prop where
 J:∃es,es.map (·.d)=ds/\Jr cJ cS cM cN H M.j M.dx M.R M.L M.A es
 r:Rooms K C H M.R M.A (runS M.S0 ds) 40
 ri:ZbU M.S0 ds
 so:SOk M.ps (runS M.S0 ds)
 sf:∀i y,i<16->M.A i=some y->Safe M.ps (M.S0 i).rows
 pl:M.ps.length<=40
structure FOk(M:MI)(x:FrS):Prop where
 who:∃i y,x.who=((i:Nat):Int)/\i<16/\M.A i=some y
 wh:∃i y,x.whose=((i:Nat):Int)/\i<16/\M.A i=some y
 coi:In64 x.coin
 wor:In64 x.word
 stk:∀k∈x.stack,In64 k
 len:x.stack.length<=24
 use:0<=x.used/\x.used<=x.given
 dep:1<=x.depth/\x.depth<=8
 iv:∀(i:Nat) I,x.whose=(i:Int)->Iv M.ps (M.S0 i).rows I->I x.row x.stack
 row:∃i:Nat,x.row=(i:Int)
noncomputable def hdF(x:FrS):Str×Int×Int×Int×Int×Int×Int×Int×Bool:=(x.kind,x.who,x.whose,x.caller,x.coin,x.word,x.given,x.depth,x.looking)
structure Nx(M:MI)(a b:Nat)(ds:Xg)(x:FrS)(ws:XF)(ds':Xg)(x':FrS)(ws':XF):Prop where
 pre:ds <+: ds'
 dl:(ds'.length:Int)<=ds.length+a+(x'.used-x.used)
 wl:(ws'.length:Int)<=ws.length+a+2*(x'.used-x.used)
 hd:hdF x'=hdF x
 us:x.used<=x'.used/\x'.used<=x.given
 lt:x'.fin=none->x.used+b<=x'.used
 en:(x'.fin=none/\FOk M x')\/((∃e:Str,x'.fin=some e/\e.length<=10)/\In64 x'.answer)
structure St(K:Ydg)(C cJ cS cM cN cF:XB)(H:Hp)(M:MI)(ds:Xg)(f:FrI)(x:FrS)(ws:XF):Prop where
 W:Wd K C cJ cS cM cN H M ds
 F:FrAt cF H f x ws
 ap:Ap M.R M.L M.A f
def Po(K:Ydg)(C cJ cS cM cN cF:XB)(H:Hp)(M:MI)(a b:Nat)(ds:Xg)(f:FrI)(x:FrS)(ws:XF)(Q:VK):Prop:=∀H' ds' x' ws',St K C cJ cS cM cN cF H' M ds' f x' ws'->KeptX (goX M.A M.L f) H H'->Nx M a b ds x ws ds' x' ws'->Q .non H'
structure Rp(K:Ydg)(C cJ cS cM cN cF:XB)(H:Hp)(M:MI)(ds:Xg)(f:FrI)(x:FrS)(ws:XF)(p:XB)(w:Str)(n:XS):Prop where
 st:St K C cJ cS cM cN cF H M ds f x ws
 row:Zb9 K H p w n
 fin:x.fin=none
 fo:FOk M {x with row:=x.row-1}
 at_:∃(k i:Nat),x.whose=(k:Int)/\x.row=(i:Int)+1/\(M.S0 k).rows[i]?=some (w,n)
 tk:∃t l pr d,RT.lookup w=some (t,l,pr,d)/\t<=(x.stack.length:Int)/\(x.stack.length:Int)-t+l<=24
 bd:ws.length<=60000/\ds.length<=60000
inductive spRow(K:Ydg)(C cJ cS cM cN cF:XB)(l:XN)(vs:XF)(H:Hp)(Q:VK)(E9:XK):Prop
 |mk(M:MI)(ds:Xg)(f:FrI)(x:FrS)(ws:XF)(p:XB)(w:Str)(n:XS):vs=[.ref M.R,.ref M.j,.ref f.a,.ref p]->w∈l->Rp K C cJ cS cM cN cF H M ds f x ws p w n->Po K C cJ cS cM cN cF H M 1 0 ds f x ws Q->spRow K C cJ cS cM cN cF l vs H Q E9
def sn1{st:XD}(h:1<=st.length):∃s v,st=s++[v]:=⟨st.dropLast,st.getLast (by intro z;rw[z]at h;simp at h),(YcP _).symm⟩
def sn2{st:XD}(h:2<=st.length):∃s a b,st=s++[a,b]:=by
 let⟨s,v,rfl⟩:=sn1 (st:=st) ();let⟨s2,v2,rfl⟩:=sn1 (st:=s) (by rw[Yc]at h;have h:2<=s.length+1:=h;omega);exact⟨s2,v2,v,by rw[YQ];rfl⟩
section
variable{K:Ydg}{C cJ cS cM cN cF:XB}{H H':Hp}{M:MI}{ds:Xg}{f:FrI}{x x':FrS}{ws:XF}{p:XB}{w:Str}{n:XS}{Q:VK}
def Wd.same(W:Wd K C cJ cS cM cN H M ds)(s:Same H H'):Wd K C cJ cS cM cN H' M ds:=⟨let⟨es,e,J⟩:=W.J;⟨es,e,J.same s⟩,W.r.same s,W.ri,W.so,W.sf,W.pl⟩
def Wd.frame(W:Wd K C cJ cS cM cN H M ds)(F:FrAt cF H f x ws)(a:Ap M.R M.L M.A f)(k:KeptX (inF3 f) H H'):Wd K C cJ cS cM cN H' M ds:=⟨let⟨es,e,J⟩:=W.J;⟨es,e,J.frame F a k⟩,W.r.frame F a k,W.ri,W.so,W.sf,W.pl⟩
def Rooms.tightP{ps:XD}{S:XL}{A:XC}{R:XB}{m:Nat}(r:Rooms K C H R A S m)(z:SOk ps S)(hl:ps.length<=40):Rooms K C H R A S 40:=
 ⟨r.ob,λi x hi hx=>let h:=r.ac i x hi hx;⟨h.ob,h.pg,(StoreAt.tight h.sto (ps:=ps) λq hq=>(z.st i q).2 hq).le hl⟩,r.da,r.ds⟩
def Wd.wrote{e:DI}{es:List DI}{m:Nat}(W:Wd K C cJ cS cM cN H M ds)(he:es.map (·.d)=ds)(r:Rooms K C H' M.R M.A (doneS (runS M.S0 ds) e.d) m)(J:Jr cJ cS cM cN H' M.j M.dx M.R M.L M.A (es++[e]))(h:rightD (runS M.S0 ds) e.d)(so:SOk M.ps (doneS (runS M.S0 ds) e.d)):Wd K C cJ cS cM cN H' M (ds++[e.d]):=
 ⟨⟨_,by rw[YA,he];rfl,J⟩,by rw[ZhO];exact r.tightP so W.pl,(Zc0 _ _ _).mpr ⟨W.ri,h⟩,by rw[ZhO];exact so,W.sf,W.pl⟩
def St.same(s:St K C cJ cS cM cN cF H M ds f x ws)(h:Same H H'):St K C cJ cS cM cN cF H' M ds f x ws:=⟨s.W.same h,s.F.same h,s.ap⟩
def St.own{ws':XF}(s:St K C cJ cS cM cN cF H M ds f x ws)(k:KeptX (inF3 f) H H')(F:FrAt cF H' f x' ws'):St K C cJ cS cM cN cF H' M ds f x' ws':=⟨s.W.frame s.F s.ap k,F,s.ap⟩
def Rp.fit(h:Rp K C cJ cS cM cN cF H M ds f x ws p w n):ZuC (w,n)/\∃k i,x.whose=((k:Nat):Int)/\x.row=((i:Nat):Int)+1/\(M.S0 k).rows[i]?=some (w,n)/\Safe M.ps (M.S0 k).rows:=by
 let⟨k,i,e1,e2,e3⟩:=h.at_;let⟨k',y,e4,hk,hy⟩:=h.fo.wh;have e4:x.whose=(k':Int):=e4;obtain rfl:k=k':=();have sf:=h.st.W.sf k y hk hy;exact⟨sf.1 _ (Yn e3),k,i,e1,e2,e3,sf⟩
def Rp.t1{l pr d:Int}(h:Rp K C cJ cS cM cN cF H M ds f x ws p w n)(e:RT.lookup w=some (1,l,pr,d)):∃b v,x.stack=b++[v]/\In64 v:=by
 let⟨_,_,_,_,e2,ht,_⟩:=h.tk;rw[e]at e2;cases e2;let⟨b,v,e3⟩:=sn1 (st:=x.stack) ();exact⟨b,v,e3,h.fo.stk v (by show v∈x.stack;rw[e3];exact Yw.2 (.inr (Ye.2 rfl)))⟩
def Rp.t2{l pr d:Int}(h:Rp K C cJ cS cM cN cF H M ds f x ws p w n)(e:RT.lookup w=some (2,l,pr,d)):∃b u v,x.stack=b++[u,v]/\In64 u/\In64 v:=by
 let⟨_,_,_,_,e2,ht,_⟩:=h.tk;rw[e]at e2;cases e2;let⟨b,u,v,e3⟩:=sn2 (st:=x.stack) ();exact⟨b,u,v,e3,h.fo.stk u (by show u∈x.stack;rw[e3];exact Yw.2 (.inr (Y1 ..))),h.fo.stk v (by show v∈x.stack;rw[e3];exact Yw.2 (.inr (Yo _ (Ye.2 rfl))))⟩
def Rp.next(h:Rp K C cJ cS cM cN cF H M ds f x ws p w n){b t r:XD}{i' pr d u:Int}(es:x.stack=b++t)(hl:RT.lookup w=some ((t.length:Int),(r.length:Int),pr,d))(hr:∀k∈r,In64 k)(hu:x.used<=u/\u<=x.given)(hp:w="push"->∃k,n=some k/\r=[k])(hi:i'=x.row\/(w="jumpif"/\n=some i')):FOk M {x with stack:=b++r,row:=i',used:=u}:=by
 have fo:=h.fo;let⟨t',l',_,_,e2,ht,hl2⟩:=h.tk;rw[hl]at e2;cases e2;let⟨_,k,i,e4,e5,e6,_,I0,hI0⟩:=h.fit;have hE:Eff w n (i:Int) x.stack i' (b++r):=⟨b,t,r,pr,d,es,rfl,hl,hp,hi.imp (λz=>z.trans e5) id⟩;have key:∀(k':Nat) I,x.whose=(k':Int)->Iv M.ps (M.S0 k').rows I->∃j:Nat,i'=(j:Int)/\I i' (b++r):=λk' I ek hI=>by
  obtain rfl:k'=k:=();have h1:=fo.iv k' I ek hI;have h1:I (x.row-1) x.stack:=h1;rw[show x.row-1=(i:Int)by omega]at h1;exact hI.cl i x.stack w n i' (b++r) h1 e6 hE
 have fu:0<=x.used:=fo.use.1;refine⟨fo.who,fo.wh,fo.coi,fo.wor,λz hz=>?_,?_,⟨by show 0<=u;omega,hu.2⟩,fo.dep,λk' I ek hI=>let⟨_,_,q⟩:=key k' I ek hI;q,let⟨j,e,_⟩:=key k I0 e4 hI0;⟨j,e⟩⟩
 .rcases Yw.1 hz with q|q
  .exact fo.stk z (by show z∈x.stack;rw[es];exact Yw.2 (.inl q))
  .exact hr z q
 .have:=Y3 List.length es;rw[Yc]at this;show(b++r).length<=24;rw[Yc];omega
def Rp.lay(h:Rp K C cJ cS cM cN cF H M ds f x ws p w n)(kk:Po K C cJ cS cM cN cF H M 1 0 ds f x ws Q)(k:KeptX (inF3 f) H H'){b t r:XD}{i' pr d:Int}(F:FrAt cF H' f {x with stack:=b++r,row:=i'} ws)(es:x.stack=b++t)(hl:RT.lookup w=some ((t.length:Int),(r.length:Int),pr,d))(hr:∀k∈r,In64 k)(hp:w="push"->∃k,n=some k/\r=[k])(hi:i'=x.row\/(w="jumpif"/\n=some i')):Q .non H':=
 kk _ _ _ _ (h.st.own k F) (ZgH k) ⟨Ybj,by show(ds.length:Int)<=ds.length+1+(x.used-x.used);omega,by show(ws.length:Int)<=ws.length+1+2*(x.used-x.used);omega,rfl,⟨Y9 _,h.fo.use.2⟩,λ_=>(by show x.used+0<=x.used;omega),.inl ⟨h.fin,h.next es hl hr ⟨Y9 _,h.fo.use.2⟩ hp hi⟩⟩
def Rp.done(h:Rp K C cJ cS cM cN cF H M ds f x ws p w n)(kk:Po K C cJ cS cM cN cF H M 1 0 ds f x ws Q)(k:KeptX (inF3 f) H H'){b:XD}{e:Str}{t:Int}(F:FrAt cF H' f {x with stack:=b,fin:=some e,answer:=t} ws)(ht:In64 t)(he:e.length<=10):Q .non H':=
 kk _ _ _ _ (h.st.own k F) (ZgH k) ⟨Ybj,by show(ds.length:Int)<=ds.length+1+(x.used-x.used);omega,by show(ws.length:Int)<=ws.length+1+2*(x.used-x.used);omega,rfl,⟨Y9 _,h.fo.use.2⟩,λ_=>(by show x.used+0<=x.used;omega),.inr ⟨⟨e,rfl,he⟩,ht⟩⟩
end
def in1{v:Int}(h:In64 v):∀k∈[v],In64 k:=λk hk=>by rw[Ye.1 hk];exact h
def in0:∀k∈([]:XD),In64 k:=λ_ z=>nomatch z
section
end
inductive Zey(K:Ydg)(C cJ cS cM cN cF:XB)(vs:XF)(H:Hp)(Q:VK)(E9:XK):Prop
 |mk(M:MI)(ds:Xg)(e:DI)(f:FrI)(x:FrS)(ws:XF):vs=[.ref M.j,.ref f.a,.ref e.o]->St K C cJ cS cM cN cF H M ds f x ws->H e.o=some (.ins (clsD cS cM cN e.d) e.dx (fldD e.d))->fitsD M.A e.d->rightD (runS M.S0 ds) e.d->SOk M.ps (doneS (runS M.S0 ds) e.d)->(ws.length<=60000/\ds.length<=60000)->(∀t H',St K C cJ cS cM cN cF H' M (ds++[e.d]) f x (ws++[.ref t])->KeptX (goX M.A M.L f) H H'->Q .non H')->Zey K C cJ cS cM cN cF vs H Q E9
include Y
def Zc3:mY Y 4 "write_step" (Zey K qa qb cSave qd cNote qc):=by
 refine Zax ["journal","frame","deed"] Y.aY ?_
 .symm;let⟨M,ds,e,fr,x,ws,rfl,s,he,fit,ri,so,hb,k⟩:=h;refine⟨_,(Zac (Zay (ZaB (ZgG Y) (hr.mono nofun) (pv 0) (Wa (pv 2)))) (Zaf (Zay (Zbj Yy YI YH ZaT (Zap (pv 1)) (Wa (ZeU (T:=TTo cSave qd cNote) (Zo7 (Zgr Y) (Zgs Y) (Zgt Y)) (hr.mono nofun) (pv 2))))))),?_⟩;left;let⟨es,ees,J⟩:=s.W.J;have ap:=s.ap;have hel:es.length=ds.length:=by rw[<- ees,Ya]
  exists Zar J.ob rfl ?_;exists⟨M.j,M.dx,M.R,M.L,M.A,_,40,es,e,rfl,J,s.W.r,he,fit,nofun,(),λH1 k1 r1 J1=>?_⟩;have F1:=s.F.out s.W.r ap J.li k1;have he1:=(J1.de e (Yw.mpr (.inr (Ye.mpr rfl)))).1;have W1:=s.W.wrote ees r1 J1 ri so;exists Zah F1.ob Y.a.k.cl Y.a.n_steps rfl ?_;refine⟨Za9 (Zal F1.ss),?_⟩;exists ZdW ?_;exists⟨e.o,clsD cSave qd cNote e.d,e.dx,fldD e.d,_,rfl,he1,Zn6 e.d,ZuA cSave qd cNote e.d,?_⟩;exists⟨e.o,e.dx,e.d,rfl,ZcT e.d,he1,λt xs ht=>?_⟩;have s1:Same H1 (upd H1 t (.tup xs)):=Same.new ht;have W2:=W1.same s1;have F2:=F1.same s1;have k2:KeptX (goX M.A M.L fr) H (upd H1 t (.tup xs)):=(ZuB k1).trans s1.keptX;generalize upd H1 t _=H2 at s1 W2 F2 k2;exists ZaZ F2.ss (Y4 hb.1 nofun) ?_;ext;have k3:KeptX (inF3 fr) H2 (upd H2 fr.SS (.lst (ws++[.ref t]))):=KeptX.upd (.inr (.inr rfl));exact k t _ ⟨W2.frame F2 ap k3,F2.setSS _,ap⟩ (k2.trans (ZgH k3))
omit Y
inductive spAt(K:Ydg)(C:XB)(vs:XF)(H:Hp)(Q:VK)(E9:XK):Prop
 |mk(R:XB)(A:XC)(S:XL)(m:Nat)(s:Int):vs=[.ref R,.int s]->Rooms K C H R A S m->Q (if 0<=s/\s<16 then roomV (A s.toNat)else .non) H->spAt K C vs H Q E9
def Zfl:FnScope ["rooms","journal","frame","row","taken"] ["rooms","journal","frame","row"] (Zae (top 79)):=by walk_at"c"
def Zfm:FnScope ["rooms","journal","frame","row","taken"] ["rooms","journal","frame","row"] (Zae (top 81)):=by walk_at"c"
def ZhX:FnScope ["rooms","journal","frame","row","taken"] ["rooms","journal","frame","row"] (Zae (top 90)):=by walk_at"c"
def ZhY:FnScope ["rooms","journal","frame","row","taken"] ["rooms","journal","frame","row"] (Zae (top 91)):=by walk_at"c"
def ZhZ:FnScope ["rooms","journal","frame","row","taken"] ["rooms","journal","frame","row"] (Zae (top 82)):=by walk_at"c"
def Zez:FnScope ["rooms","journal","frame","row","taken","account"] ["rooms","journal","frame","row"] (Zae (top 88)):=by walk_at"c"
def ZeA:FnScope ["rooms","journal","frame","row","taken","old"] ["rooms","journal","frame","row"] (Zae (top 83)):=by walk_at"c"
def Zh0:FnScope ["rooms","journal","frame","row","taken"] ["rooms","journal","frame","row"] (Zae (top 89)):=by walk_at"c"
include Y
def Zc4:mY Y 1 "account_at" (spAt K qa):=by
 refine Zax ["rooms","slot"] Y.aZ ?_
 .symm;let⟨R,Ar,S,m,s0,rfl,r,k⟩:=h;refine⟨_,(Zac (ZaG (ZgS ZeQ ZfD Zag (pv 1) (Zau ZaN rfl Y.d Ys (Wa (pv 0)))) (Wb (Zaq Zan (pv 0) (pv 1))) Zat) (Wb Zbl)),?_⟩;left;have hRs:=Zal (K:=K) r.ob;have hl16:(((List.range 16).map λi=>roomV (Ar i)).length:Int)=16:=by rw[Ya,Yaa];rfl
  walk_at"K'"
  .rename_i h1 h2;rw[hl16]at h2;rw[if_pos ⟨h1,h2⟩]at k;refine ZaA hRs (ZaL (i:=s0.toNat) (by rw[Yb,Y0 ()];rfl) ()) ?_;exact k
  .rename_i h1 h2;rw[hl16]at h2;rw[if_neg (λz=>h2 z.2)]at k;exact k
  .rename_i h1;rw[if_neg (λz=>h1 z.1)]at k;exact k
def ZmY:mY Y 2 "push_row" (spRow K qa qb cSave qd cNote qc (["push"]:XN)):=by
 refine Zax ["rooms","journal","frame","row"] Y.a0 ?_
 .symm;let⟨M,ds,fr,x,ws,p,wd,n,rfl,hw,h,k⟩:=h;refine⟨_,(Zaf (Zay (ZaB (Zbr Y) (hr.mono nofun) (pv 2) (Wa (Zaq ZaK (pv 3) Zag))))),?_⟩;left;cases Ye.mp hw;have F:=h.st.F;let⟨n0,en,hn⟩:=h.fit.1.2.1 rfl;obtain rfl:n=some n0:=en;have hp':SqT K H p [.str "push",.int n0]:=h.row;exists Zar F.ob rfl ?_;exists⟨fr,_,ws,_,rfl,F,(Yj h.fo.len nofun),λH2 k2 F2=>?_⟩;ext;exact h.lay k (k_F3 (k_st k2)) (r:=[_]) F2 (YZ _).symm rfl (in1 hn) (λ_=>⟨n0,rfl,rfl⟩) (.inl rfl)
def ZmZ:mY Y 2 "drop_row" (spRow K qa qb cSave qd cNote qc (["drop"]:XN)):=by
 refine Zax ["rooms","journal","frame","row"] Y.a1 ?_
 .symm;let⟨M,ds,fr,x,ws,p,wd,n,rfl,hw,h,k⟩:=h;refine⟨_,(Zaf (Zay (ZaB (ZaX Y) (hr.mono nofun) (pv 2) (Wa Zag)))),?_⟩;left;cases Ye.mp hw;have F:=h.st.F;let⟨b,v,es,_⟩:=h.t1 rfl;exists Zar F.ob rfl ?_;exists⟨fr,x,ws,b,[v],rfl,F,es,by show 1<=1000;decide,λq H1 _ k1 F1 e1=>?_⟩;have e1':H1 q=some (.lst [.int v]):=e1;ext;exact h.lay k (k_F3 (k_st k1)) (r:=[]) (by rw[YZ];exact F1) es rfl in0 nofun (.inl rfl)
def Zc5:mY Y 3 "reckon_row" (spRow K qa qb cSave qd cNote qc (["add","both","unlike"]:XN)):=by
 refine Zax _ Y.a2 ?_ _ Zfl
 .symm;let⟨M,ds,fr,x,ws,p,wd,n,rfl,hw,h,k⟩:=h;refine⟨_,(Zac (Zao (i:=4) Zfl.nd (ZaB (ZaX Y) (hr.mono nofun) (pv 2) (Wa Zag))) (Zaf (Zay (ZaB (Zbr Y) (hr.mono nofun) (pv 2) (Wa (Zam (Zrg Y) (Zaa (Zaq ZaK (pv 3) Zag) (Zaa (Zaq Zan (pv 4) Zag) (Wa (Zaq Zan (pv 4) Zag)))))))))),?_⟩;left;have F:=h.st.F;have lk:RT.lookup wd=some (2,1,1,1):=(show ∀w∈(["add","both","unlike"]:XN),RT.lookup w=some (2,1,1,1)by decide) wd hw;have np:wd≠"push":=(show ∀w∈(["add","both","unlike"]:XN),w≠"push"by decide) wd hw;let⟨b,u,v,es,hu,hv⟩:=h.t2 lk;exists Zar F.ob rfl ?_;exists⟨fr,x,ws,b,[u,v],rfl,F,es,by show 2<=1000;decide,λq H1 _ k1 F1 e1=>?_⟩;have e1':H1 q=some (.lst [.int u,.int v]):=e1;have hp1:=Zc1 h.row F (k_st k1);exists Zar F1.ob rfl ?_;right;refine⟨wd,u,v,rfl,hw,hu,hv,λz hz=>?_⟩;exists⟨fr,_,ws,_,rfl,F1,(Yj (by have:=Y3 List.length es;rw[Yc]at this;have:=h.fo.len;show b.length<=24;change x.stack.length<=24 at this;omega) (show 24<=1000 by decide)),λH2 k2 F2=>?_⟩;ext;exact h.lay k (k_F3 (k_st (k1.trans k2))) (r:=[_]) F2 es lk (in1 hz) (λz=>absurd z np) (.inl rfl)
def Zj8:mY Y 2 "jumpif_row" (spRow K qa qb cSave qd cNote qc (["jumpif"]:XN)):=by
 refine Zax _ Y.a3 ?_ _ Zfm
 .symm;let⟨M,ds,fr,x,ws,p,wd,n,rfl,hw,h,k⟩:=h;refine⟨_,(Zac (Zao (i:=4) Zfm.nd (ZaB (ZaX Y) (hr.mono nofun) (pv 2) (Wa Zag))) (Zaf (ZaG (Zas ZfC (Zaq Zan (pv 4) Zag) Zag) (Zaf (ZaS (pv 2) (Zaq ZaK (pv 3) Zag) rfl)) Zat))),?_⟩;left;cases Ye.mp hw;have F:=h.st.F;let⟨n0,en⟩:=h.fit.1.2.2 rfl;obtain rfl:n=some n0:=en;let⟨b,v,es,_⟩:=h.t1 rfl;exists Zar F.ob rfl ?_;exists⟨fr,x,ws,b,[v],rfl,F,es,by show 1<=1000;decide,λq H1 _ k1 F1 e1=>?_⟩;have e1':H1 q=some (.lst [.int v]):=e1;have hp1:SqT K H1 p [.str "jumpif",.int n0]:=Zc1 h.row F (k_st k1);ext
  .refine ZaD F1.ob Y.a.k.cl Y.a.n_row (by show 15<1000;decide) ?_;exact h.lay k (k_F3 ((k_st k1).trans (k_a (KeptX.upd rfl)))) (r:=[]) (by rw[YZ];exact F1.setF {x with stack:=b,row:=n0} rfl) es rfl in0 nofun (.inr ⟨rfl,rfl⟩)
  .exact h.lay k (k_F3 (k_st k1)) (r:=[]) (by rw[YZ];exact F1) es rfl in0 nofun (.inl rfl)
def Zm0:mY Y 2 "sent_row" (spRow K qa qb cSave qd cNote qc (["sent"]:XN)):=by
 refine Zax ["rooms","journal","frame","row"] Y.a4 ?_
 .symm;let⟨M,ds,fr,x,ws,p,wd,n,rfl,hw,h,k⟩:=h;refine⟨_,(Zaf (Zay (ZaB (Zbr Y) (hr.mono nofun) (pv 2) (Wa (Zap (pv 2)))))),?_⟩;left;cases Ye.mp hw;have F:=h.st.F;exists Zar F.ob rfl ?_;exists Zah F.ob Y.a.k.cl Y.a.n_coin rfl ?_;exists⟨fr,_,ws,_,rfl,F,(Yj h.fo.len nofun),λH2 k2 F2=>?_⟩;ext;exact h.lay k (k_F3 (k_st k2)) (r:=[_]) F2 (YZ _).symm rfl (in1 h.fo.coi) nofun (.inl rfl)
def Zm1:mY Y 2 "word_row" (spRow K qa qb cSave qd cNote qc (["word"]:XN)):=by
 refine Zax ["rooms","journal","frame","row"] Y.a5 ?_
 .symm;let⟨M,ds,fr,x,ws,p,wd,n,rfl,hw,h,k⟩:=h;refine⟨_,(Zaf (Zay (ZaB (Zbr Y) (hr.mono nofun) (pv 2) (Wa (Zap (pv 2)))))),?_⟩;left;cases Ye.mp hw;have F:=h.st.F;exists Zar F.ob rfl ?_;exists Zah F.ob Y.a.k.cl Y.a.n_word rfl ?_;exists⟨fr,_,ws,_,rfl,F,(Yj h.fo.len nofun),λH2 k2 F2=>?_⟩;ext;exact h.lay k (k_F3 (k_st k2)) (r:=[_]) F2 (YZ _).symm rfl (in1 h.fo.wor) nofun (.inl rfl)
def Zm2:mY Y 2 "give_row" (spRow K qa qb cSave qd cNote qc (["give"]:XN)):=by
 refine Zax _ Y.a6 ?_ _ ZhX
 .symm;let⟨M,ds,fr,x,ws,p,wd,n,rfl,hw,h,k⟩:=h;refine⟨_,(Zac (Zao (i:=4) ZhX.nd (ZaB (ZaX Y) (hr.mono nofun) (pv 2) (Wa Zag))) (Zaf (Zay (ZaB (Zcn Y) (hr.mono nofun) (pv 2) (Zaa Zav (Wa (Zaq Zan (pv 4) Zag))))))),?_⟩;left;cases Ye.mp hw;have F:=h.st.F;let⟨b,v,es,hv⟩:=h.t1 rfl;exists Zar F.ob rfl ?_;exists⟨fr,x,ws,b,[v],rfl,F,es,by show 1<=1000;decide,λq H1 _ k1 F1 e1=>?_⟩;have e1':H1 q=some (.lst [.int v]):=e1;exists Zar F1.ob rfl ?_;exists⟨fr,_,ws,"well",v,rfl,F1,λH2 k2 F2=>?_⟩;ext;exact h.done k (k_F3 ((k_st k1).trans (k_a k2))) F2 hv nofun
def Zm3:mY Y 2 "fail_row" (spRow K qa qb cSave qd cNote qc (["fail"]:XN)):=by
 refine Zax _ Y.a7 ?_ _ ZhY
 .symm;let⟨M,ds,fr,x,ws,p,wd,n,rfl,hw,h,k⟩:=h;refine⟨_,(Zac (Zao (i:=4) ZhY.nd (ZaB (ZaX Y) (hr.mono nofun) (pv 2) (Wa Zag))) (Zaf (Zay (ZaB (Zcn Y) (hr.mono nofun) (pv 2) (Zaa Zav (Wa (Zaq Zan (pv 4) Zag))))))),?_⟩;left;cases Ye.mp hw;have F:=h.st.F;let⟨b,v,es,hv⟩:=h.t1 rfl;exists Zar F.ob rfl ?_;exists⟨fr,x,ws,b,[v],rfl,F,es,by show 1<=1000;decide,λq H1 _ k1 F1 e1=>?_⟩;have e1':H1 q=some (.lst [.int v]):=e1;exists Zar F1.ob rfl ?_;exists⟨fr,_,ws,"fail",v,rfl,F1,λH2 k2 F2=>?_⟩;ext;exact h.done k (k_F3 ((k_st k1).trans (k_a k2))) F2 hv nofun
def Zm4:mY Y 2 "load_row" (spRow K qa qb cSave qd cNote qc (["load"]:XN)):=by
 refine Zax _ Y.a8 ?_ _ ZhZ
 .symm;let⟨M,ds,fr,x,ws,p,wd,n,rfl,hw,h,k⟩:=h;refine⟨_,(Zac (Zao (i:=4) ZhZ.nd (ZaB (ZaX Y) (hr.mono nofun) (pv 2) (Wa Zag))) (Zaf (Zay (ZaB (Zbr Y) (hr.mono nofun) (pv 2) (Wa (ZaB (Zbx Y) (hr.mono nofun) (Zaq Zan (pv 0) (Zap (pv 2))) (Wa (Zaq Zan (pv 4) Zag)))))))),?_⟩;left;cases Ye.mp hw;have F:=h.st.F;let⟨b,v,es,_⟩:=h.t1 rfl;let⟨i,y,ew,hi,hy⟩:=h.fo.who;have ew:x.who=(i:Int):=ew;exists Zar F.ob rfl ?_;exists⟨fr,x,ws,b,[v],rfl,F,es,by show 1<=1000;decide,λq H1 _ k1 F1 e1=>?_⟩;have e1':H1 q=some (.lst [.int v]):=e1;have k1':=k_F3 (k_st k1);have W1:=h.st.W.frame F h.st.ap k1';have ay:=W1.r.ac i y hi hy;exists Zar F1.ob rfl ?_;exists Zah F1.ob Y.a.k.cl Y.a.n_who rfl ?_;rw[ew];refine ZaA (Zal W1.r.ob) (W1.r.at hi hy) ?_;refine Zar ay.ob rfl ?_;exists⟨y.a,y.dx,y.pr,y.st,_,_,_,_,_,40,v,rfl,ay,?_⟩;exists⟨fr,_,ws,_,rfl,F1,(Yj (by have:=Y3 List.length es;rw[Yc]at this;have:=h.fo.len;show b.length<=24;change x.stack.length<=24 at this;omega) (show 24<=1000 by decide)),λH2 k2 F2=>?_⟩;ext;exact h.lay k (k_F3 (k_st (k1.trans k2))) (r:=[_]) F2 es rfl (in1 (W1.so.st i v).1) nofun (.inl rfl)
def Zm5:mY Y 2 "coin_row" (spRow K qa qb cSave qd cNote qc (["coin"]:XN)):=by
 refine Zax _ Y.a9 ?_ _ Zez
 .symm;let⟨M,ds,fr,x,ws,p,wd,n,rfl,hw,h,k⟩:=h;refine⟨_,(Zac (Zao (i:=4) Zez.nd (ZaB (ZaX Y) (hr.mono nofun) (pv 2) (Wa Zag))) (Zac (Zao (i:=5) Zez.nd (Zam (Zc4 Y) (Zaa (pv 0) (Wa (Zaq Zan (pv 4) Zag))))) (Zaf (Zay (ZaB (Zbr Y) (hr.mono nofun) (pv 2) (Wa (Zjz (Zas Zce (pv 5) Zbl) Zag (Zap (pv 5))))))))),?_⟩;left;cases Ye.mp hw;have F:=h.st.F;let⟨b,v,es,_⟩:=h.t1 rfl;exists Zar F.ob rfl ?_;exists⟨fr,x,ws,b,[v],rfl,F,es,by show 1<=1000;decide,λq H1 _ k1 F1 e1=>?_⟩;have e1':H1 q=some (.lst [.int v]):=e1;have k1':=k_F3 (k_st k1);have W1:=h.st.W.frame F h.st.ap k1';have kk:∀z,In64 z->∀H2,KeptX (·=fr.ST) H1 H2->FrAt qc H2 fr {x with stack:=b++[z]} ws->Q .non H2:=λz hz H2 k2 F2=>h.lay k (k_F3 (k_st (k1.trans k2))) (r:=[z]) F2 es rfl (in1 hz) nofun (.inl rfl);have hb:b.length<=1000:=(Yj (by have:=Y3 List.length es;rw[Yc]at this;have:=h.fo.len;show b.length<=24;change x.stack.length<=24 at this;omega) (show 24<=1000 by decide));exists⟨M.R,M.A,_,40,v,rfl,W1.r,?_⟩;have none_:roomV none=V.non:=rfl;by_cases h0:0<=v/\v<16
  .rw [if_pos h0];cases hA:M.A v.toNat with
   |none=>
    rw[none_];exists Zar F1.ob rfl ?_;exists⟨fr,_,ws,_,rfl,F1,hb,λH2 k2 F2=>?_⟩;ext;exact kk 0 ⟨nofun,nofun⟩ H2 k2 F2
   |some y=>
    rw[show roomV (some y)=V.ref y.a from rfl];have ay:=W1.r.ac v.toNat y () hA;exists Zar F1.ob rfl ?_;exists Zah ay.ob Y.c.k.cl Y.c.n_coin rfl ?_;exists⟨fr,_,ws,_,rfl,F1,hb,λH2 k2 F2=>?_⟩;ext;exact kk _ (W1.so.coin ()) H2 k2 F2
  .rw [if_neg h0];exists Zar F1.ob rfl ?_;exists⟨fr,_,ws,_,rfl,F1,hb,λH2 k2 F2=>?_⟩;ext;exact kk 0 ⟨nofun,nofun⟩ H2 k2 F2
def Zm6:mY Y 5 "save_row" (spRow K qa qb cSave qd cNote qc (["save"]:XN)):=by
 refine Zax _ Y.ba ?_ _ ZeA
 .symm;let⟨M,ds,fr,x,ws,p,wd,n,rfl,hw,h,k⟩:=h;refine⟨_,(Zac (Zao (i:=4) ZeA.nd (ZaB (ZaX Y) (hr.mono nofun) (pv 2) (Wa Zag))) (Zac (Zao (i:=5) ZeA.nd (ZaB (Zbx Y) (hr.mono nofun) (Zaq Zan (pv 0) (Zap (pv 2))) (Wa (Zaq Zan (pv 4) Zag)))) (Zaf (Zay (Zam (Zc3 Y) (Zaa (pv 1) (Zaa (pv 2) (Wa (Zer (ZgC Y) (hr.mono nofun) rfl (Zaa (Zap (pv 2)) (Zaa (Zaq Zan (pv 4) Zag) (Zaa (pv 5) (Wa (Zaq Zan (pv 4) Zag)))))))))))))),?_⟩;left;cases Ye.mp hw;have F:=h.st.F;let⟨b,u,v,es,hu,hv⟩:=h.t2 rfl;let⟨i,y,ew,hi,hy⟩:=h.fo.who;have ew:x.who=(i:Int):=ew;have hpl:u∈M.ps:=by
   let⟨_,k',i',e4,e5,e6,_,I,hI⟩:=h.fit;have h1:=h.fo.iv k' I e4 hI;have h1:I (x.row-1) x.stack:=h1;rw[show x.row-1=(i':Int)by omega,es]at h1;exact hI.sv i' b n u v h1 e6
  exists Zar F.ob rfl ?_;exists⟨fr,x,ws,b,[u,v],rfl,F,es,by show 2<=1000;decide,λq H1 _ k1 F1 e1=>?_⟩;have e1':H1 q=some (.lst [.int u,.int v]):=e1;have k1':=k_F3 (k_st k1);have S1:=h.st.own k1' F1;have ay:=S1.W.r.ac i y hi hy;exists Zah F1.ob Y.a.k.cl Y.a.n_who rfl ?_;rw[ew];refine ZaA (Zal S1.W.r.ob) (S1.W.r.at hi hy) ?_;refine Zar ay.ob rfl ?_;exists⟨y.a,y.dx,y.pr,y.st,_,_,_,_,_,40,u,rfl,ay,?_⟩;exists Zah F1.ob Y.a.k.cl Y.a.n_who rfl ?_;rw[ew];ext;intro ob odx hx hdx hne;have hx2:(upd H1 odx (.own ob)) ob=none:=by rw[Zaj (YR hne)];exact hx
  refine⟨ob,odx,(i:Int),u,(runS M.S0 ds i).store u,v,rfl,Zad,rfl,?_⟩;rw[ZaO];have s1:Same H1 (upd (upd H1 odx (.own ob)) ob (.ins cSave odx (saveF (i:Int) u ((runS M.S0 ds i).store u) v))):=(Same.new hdx).newT hx2;have eo:(upd (upd H1 odx (.own ob)) ob (.ins cSave odx (saveF (i:Int) u ((runS M.S0 ds i).store u) v))) ob=some (.ins cSave odx (saveF (i:Int) u ((runS M.S0 ds i).store u) v)):=Zad;have S2:=S1.same s1;generalize upd (upd H1 odx (.own ob)) ob (.ins cSave odx (saveF (i:Int) u ((runS M.S0 ds i).store u) v))=H2 at s1 eo S2;exists⟨M,ds,⟨ob,odx,.save (i:Int) u ((runS M.S0 ds i).store u) v⟩,fr,_,ws,rfl,S2,eo,⟨i,y,rfl,hi,hy⟩,(show(runS M.S0 ds (i:Int).toNat).store u=_ by rw[Yt]),(h.st.W.so.save i hpl hv),h.bd,λt H3 S3 k3=>?_⟩;exists k H3 _ _ _ S3 ((ZgH k1').trans (s1.keptX.trans k3)) ⟨Ycy _ _,?_,?_,rfl,⟨Y9 _,h.fo.use.2⟩,λ_=>(by show x.used+0<=x.used;omega),.inl ⟨h.fin,?_⟩⟩
  .rw [Yc];show((ds.length+1:Nat):Int)<=ds.length+1+(x.used-x.used);omega
  .rw [Yc];show((ws.length+1:Nat):Int)<=ws.length+1+2*(x.used-x.used);omega
  .have:=h.next (b:=b) (r:=[]) (i':=x.row) es rfl in0 ⟨Y9 _,h.fo.use.2⟩ nofun (.inl rfl);rw[YZ]at this;exact this
def Zm7:mY Y 5 "note_row" (spRow K qa qb cSave qd cNote qc (["note"]:XN)):=by
 refine Zax _ Y.bb ?_ _ Zh0
 .symm;let⟨M,ds,fr,x,ws,p,wd,n,rfl,hw,h,k⟩:=h;refine⟨_,(Zac (Zao (i:=4) Zh0.nd (ZaB (ZaX Y) (hr.mono nofun) (pv 2) (Wa Zag))) (Zaf (Zay (Zam (Zc3 Y) (Zaa (pv 1) (Zaa (pv 2) (Wa (Zer (ZgE Y) (hr.mono nofun) rfl (Zaa (Zap (pv 2)) (Wa (Zaq Zan (pv 4) Zag))))))))))),?_⟩;left;cases Ye.mp hw;have F:=h.st.F;let⟨b,v,es,hv⟩:=h.t1 rfl;exists Zar F.ob rfl ?_;exists⟨fr,x,ws,b,[v],rfl,F,es,by show 1<=1000;decide,λq H1 _ k1 F1 e1=>?_⟩;have e1':H1 q=some (.lst [.int v]):=e1;have k1':=k_F3 (k_st k1);have S1:=h.st.own k1' F1;exists Zah F1.ob Y.a.k.cl Y.a.n_who rfl ?_;ext;intro ob odx hx hdx hne;have hx2:(upd H1 odx (.own ob)) ob=none:=by rw[Zaj (YR hne)];exact hx
  refine⟨ob,odx,x.who,v,rfl,Zad,rfl,?_⟩;rw[ZaO];have s1:Same H1 (upd (upd H1 odx (.own ob)) ob (.ins cNote odx (noteF x.who v))):=(Same.new hdx).newT hx2;have eo:(upd (upd H1 odx (.own ob)) ob (.ins cNote odx (noteF x.who v))) ob=some (.ins cNote odx (noteF x.who v)):=Zad;have S2:=S1.same s1;generalize upd (upd H1 odx (.own ob)) ob (.ins cNote odx (noteF x.who v))=H2 at s1 eo S2;exists⟨M,ds,⟨ob,odx,.note x.who v⟩,fr,_,ws,rfl,S2,eo,trivial,trivial,h.st.W.so,h.bd,λt H3 S3 k3=>?_⟩;exists k H3 _ _ _ S3 ((ZgH k1').trans (s1.keptX.trans k3)) ⟨Ycy _ _,?_,?_,rfl,⟨Y9 _,h.fo.use.2⟩,λ_=>(by show x.used+0<=x.used;omega),.inl ⟨h.fin,?_⟩⟩
  .rw [Yc];show((ds.length+1:Nat):Int)<=ds.length+1+(x.used-x.used);omega
  .rw [Yc];show((ws.length+1:Nat):Int)<=ws.length+1+2*(x.used-x.used);omega
  .have:=h.next (b:=b) (r:=[]) (i':=x.row) es rfl in0 ⟨Y9 _,h.fo.use.2⟩ nofun (.inl rfl);rw[YZ]at this;exact this
omit Y
def ZuD(x:FrS)(w:Str)(s:XD)(y:FrS):Prop:=
 (w="call"/\∃slot c asks word,x.stack=s++[slot,c,asks,word]/\y=frame0 "call" slot slot x.who c word asks (x.depth+1) x.looking)\/
 (w="borrow"/\∃slot asks word,x.stack=s++[slot,asks,word]/\y=frame0 "borrow" x.who slot x.caller x.coin word asks (x.depth+1) x.looking)\/
 (w="look"/\∃slot asks word,x.stack=s++[slot,asks,word]/\y=frame0 "look" slot slot x.who 0 word asks (x.depth+1) true)
inductive Zm8(K:Ydg)(cF:XB)(vs:XF)(H:Hp)(Q:VK)(E9:XK):Prop
 |mk(f:FrI)(x y:FrS)(ws:XF)(p:XB)(w:Str)(n:XS)(s:XD):vs=[.ref f.a,.ref p]->FrAt cF H f x ws->Zb9 K H p w n->ZuD x w s y->(∀g H',H g.a=none->H g.ST=none->H g.SS=none->KeptX (·=f.ST) H H'->FrAt cF H' f {x with stack:=s} ws->FrAt cF H' g y []->Q (.ref g.a) H')->Zm8 K cF vs H Q E9
def Zj9(A:XC)(S:XL)(y:FrS)(e:Option Str):Prop:=
 ((if 0<=y.whose/\y.whose<16 then roomV (A y.whose.toNat)else .non)=.non/\e=some ("nobody":Xq))\/
 (∃ac,0<=y.whose/\y.whose<16/\A y.whose.toNat=some ac/\((8<y.depth/\e=some ("deep":Xq))\/(¬8<y.depth/\y.kind≠"call"/\e=none)\/(¬8<y.depth/\y.kind="call"/\∃i z,y.caller=((i:Nat):Int)/\i<16/\A i=some z/\(((S i).coin<y.coin/\e=some ("poor":Xq))\/(¬(S i).coin<y.coin/\e=none)))))
inductive Zka(K:Ydg)(C cF:XB)(vs:XF)(H:Hp)(Q:VK)(E9:XK):Prop
 |mk(R:XB)(A:XC)(S:XL)(m:Nat)(f:FrI)(y:FrS)(ws:XF)(e:Option Str):vs=[.ref R,.ref f.a]->Rooms K C H R A S m->FrAt cF H f y ws->Zj9 A S y e->Q (endV e) H->Zka K C cF vs H Q E9
def Zrq:FnScope ["self","kind","who","whose","caller","coin","word","given","depth","looking"] ["self","kind","who","whose","caller","coin","word","given","depth","looking"] (Zae (tQ 56 0)):=by walk_at"c"
def Zby:FnScope ["frame","row","taken","slot","asks","word","depth"] ["frame","row"] (Zae (top 102)):=by walk_at"c"
def ZlS{qc:XB}{tok:Tok}(D:Zb4 K qc "__init__" "Frame.__init__" (tQ 56 0) #[.int 1 tok,.bool false])(qe:T_Frame K mg qc)(ds:XH){dvs:XF}(v:Vals dvs ds)(hb:∀(T:XB)(kV doc pm:XR)(an:Xb)(cdv ct:XR)(us:XH),(us++ds).length=10->∃k:Option (Array Value)->Sem (List (Str×Value)),bindArgs (PySem.W.fnOf "__init__" "Frame.__init__" (Zbd (tQ 56 0)) (ZaV (tQ 56 0)) (Zae (tQ 56 0)) (.ref T) kV doc pm an cdv ct) ⟨us,[]⟩=seqItems? (.ref T) >>=k/\k (some #[.int 1 tok,.bool false])=pure ((["self","kind","who","whose","caller","coin","word","given","depth","looking"]:XN).zip (us++ds))):ZqS P w K mg base 1 "Frame" qc (ZmR qc) dvs:=by
 refine Zs4 D qe.k Zrq (λvs H Q E h=>?_) (λf cdv A outer s H vs Q E hr h=>?_) ds v hb
 .obtain ⟨a,dx,kind,who,whose,caller,coin,word,given,depth,looking,rfl,_⟩:=h;rfl
 .obtain ⟨a,dx,kind,who,whose,caller,coin,word,given,depth,looking,rfl,ha,k⟩:=h;refine⟨_,(Zac (ZaS (pv 0) (pv 1) rfl) (Zac (ZaS (pv 0) (pv 2) rfl) (Zac (ZaS (pv 0) (pv 3) rfl) (Zac (ZaS (pv 0) (pv 4) rfl) (Zac (ZaS (pv 0) (pv 5) rfl) (Zac (ZaS (pv 0) (pv 6) rfl) (Zac (ZaS (pv 0) (pv 7) rfl) (Zac (ZaS (pv 0) (pv 8) rfl) (Zac (ZaS (pv 0) (pv 9) rfl) (Zac (ZaS (pv 0) Zag rfl) (Zac (ZaS (pv 0) (ZaI Zab) rfl) (Zac (ZaS (pv 0) Zag rfl) (Zac (ZaS (pv 0) (ZaI Zab) rfl) (Zac (ZaS (pv 0) Zbl rfl) (Zaf (ZaS (pv 0) Zag rfl)))))))))))))))),?_⟩;left;exists ZaD ha qe.k.cl qe.n_kind nofun ?_;exists ZaD Zad qe.k.cl qe.n_who (by show 1<1000;decide) ?_;rw[ZaO];exists ZaD Zad qe.k.cl qe.n_whose (by show 2<1000;decide) ?_;rw[ZaO];exists ZaD Zad qe.k.cl qe.n_caller (by show 3<1000;decide) ?_;rw[ZaO];exists ZaD Zad qe.k.cl qe.n_coin (by show 4<1000;decide) ?_;rw[ZaO];exists ZaD Zad qe.k.cl qe.n_word (by show 5<1000;decide) ?_;rw[ZaO];exists ZaD Zad qe.k.cl qe.n_given (by show 6<1000;decide) ?_;rw[ZaO];exists ZaD Zad qe.k.cl qe.n_depth (by show 7<1000;decide) ?_;rw[ZaO];exists ZaD Zad qe.k.cl qe.n_looking (by show 8<1000;decide) ?_;rw[ZaO];exists ZaD Zad qe.k.cl qe.n_used (by show 9<1000;decide) ?_;rw[ZaO];exists⟨nofun,λl hl=>?_⟩;have nl:l≠a:=λz=>by rw[z,Zad]at hl;cases hl
  have hlH:H l=none:=by rw[Zaj nl]at hl;exact hl
  exists ZaD (by rw[Zaj (YR nl)];exact Zad) qe.k.cl qe.n_stack (by show 10<1000;decide) ?_;exists ZaD Zad qe.k.cl qe.n_row (by show 11<1000;decide) ?_;rw[ZaO];exists⟨nofun,λq hq=>?_⟩;have nq:q≠a:=λz=>by rw[z,Zad]at hq;cases hq
  have nql:q≠l:=λz=>by rw[Zaj nq,z,Zad]at hq;cases hq
  have hqH:H q=none:=by rw[Zaj nq,Zaj nql,Zaj nq]at hq;exact hq
  exists ZaD (by rw[Zaj (YR nq)];exact Zad) qe.k.cl qe.n_steps (by show 12<1000;decide) ?_;exists ZaD Zad qe.k.cl qe.n_end (by show 13<1000;decide) ?_;rw[ZaO];exists ZaD Zad qe.k.cl qe.n_answer (by show 14<1000;decide) ?_;rw[ZaO];refine k l q _ hlH hqH ⟨?_,?_,?_,YR nql⟩ ?_
  .show upd _ a _ a=_;rw[Zad];rfl
  .show upd _ a _ l=_;rw[Zaj nl,Zaj (YR nql),Zaj nl,Zad];rfl
  .show upd _ a _ q=_;rw[Zaj nq,Zad]
  .intro b o e n;rw[Zaj n,Zaj (Zai e hqH),Zaj n,Zaj (Zai e hlH),Zaj n];exact e
include Y
def Zrr:ZqS P w K mg base 1 "Frame" qc (ZmR qc) [.int 1,.bl false]:=
 ZlS Y.J Y.a [.int 1 tkF,.bool false] (.cons ⟨_,rfl⟩ (.cons rfl .nil)) (λT kV doc pm an cdv ct us hl=>bd8 (R:=λus=>∃k:Option (Array Value)->Sem (List (Str×Value)),bindArgs _ ⟨us,[]⟩=seqItems? (.ref T) >>=k/\k (some _)=pure (List.zip _ (us++[.int 1 tkF,.bool false]))) (λ_ _ _ _ _ _ _ _=>⟨_,rfl,rfl⟩) us (by rw[Yc]at hl;exact Nat.add_right_cancel hl))
def Zh1:ZqS P w K mg base 1 "Frame" qc (ZmR qc) []:=
 ZlS Y.J Y.a [] .nil (λT kV doc pm an cdv ct us hl=>bd10 (R:=λus=>∃k:Option (Array Value)->Sem (List (Str×Value)),bindArgs _ ⟨us,[]⟩=seqItems? (.ref T) >>=k/\k (some _)=pure (List.zip _ (us++[]))) (λ_ _ _ _ _ _ _ _ _ _=>⟨_,rfl,rfl⟩) us (by rw[Yc]at hl;exact hl))
local macro_rules|`(tactic|walk_at"rwx")=>`(tactic|first
 |walk_at"rdx"
 |((with_reducible refine' L2.Zlg ?h ?e ?_);(case h=>assumption);(case e=>exact My.ZmP))
 |fail)
def Zkb:mY Y 3 "other_call" (Zm8 K qc):=by
 refine Zax _ Y.bc ?_ _ Zby
 .symm;let⟨fr,x,y,ws,p,wd,n,s0,rfl,F,hp,hO,k⟩:=h;refine⟨_,(Zac (Zao (i:=2) Zby.nd (ZaB (ZaX Y) (hr.mono nofun) (pv 0) (Wa (Zam (ZjZ Y) (Wa (pv 1)))))) (Zac (Zao (i:=3) Zby.nd (Zaq Zan (pv 2) Zag)) (Zac (Zao (i:=4) Zby.nd (Zaq Zan (pv 2) (ZfB ZcN Zag))) (Zac (Zao (i:=5) Zby.nd (Zaq Zan (pv 2) (ZfB ZcN Zag))) (Zac (Zao (i:=6) Zby.nd (Zaw Za0 (Zap (pv 0)) Zag)) (Zac (ZaG (Zas Zbf (Zaq ZaK (pv 1) Zag) Zav) (Wb (ZgY (Zh1 Y) (hr.mono nofun) rfl (Zaa Zav (Zaa (pv 3) (Zaa (pv 3) (Zaa (Zap (pv 0)) (Zaa (Zaq Zan (pv 2) Zag) (Zaa (pv 5) (Zaa (pv 4) (Zaa (pv 6) (Wa (Zap (pv 0))))))))))))) Zat) (Zac (ZaG (Zas Zbf (Zaq ZaK (pv 1) Zag) Zav) (Wb (ZgY (Zh1 Y) (hr.mono nofun) rfl (Zaa Zav (Zaa (Zap (pv 0)) (Zaa (pv 3) (Zaa (Zap (pv 0)) (Zaa (Zap (pv 0)) (Zaa (pv 5) (Zaa (pv 4) (Zaa (pv 6) (Wa (Zap (pv 0))))))))))))) Zat) (Wb (ZgY (Zh1 Y) (hr.mono nofun) rfl (Zaa Zav (Zaa (pv 3) (Zaa (pv 3) (Zaa (Zap (pv 0)) (Zaa Zag (Zaa (pv 5) (Zaa (pv 4) (Zaa (pv 6) (Wa ZcD)))))))))))))))))),?_⟩;left;rcases hO with⟨rfl,slot,c,asks,word,e0,rfl⟩|⟨rfl,slot,asks,word,e0,rfl⟩|⟨rfl,slot,asks,word,e0,rfl⟩
  .skip
   have hp0:=hp;right;refine Zar F.ob rfl ?_;right;refine⟨p,_,n,0,4,2,8,12,rfl,hp,rfl,rfl,?_⟩;rw[show(4:Int)+0=(([slot,c,asks,word]:XD).length:Nat)from rfl];right;refine⟨fr,x,ws,s0,[slot,c,asks,word],rfl,F,e0,by show 4<=1000;decide,λq H1 _ k1 F1 e1=>?_⟩;have e1':H1 q=some (.lst [.int slot,.int c,.int asks,.int word]):=e1;have hp1:=Zc1 hp F (k_st k1);walk_at"W'";refine Zah F1.ob Y.a.k.cl Y.a.n_depth rfl ?_;repeat walk_at"rwx"
   refine Zah F1.ob Y.a.k.cl Y.a.n_who rfl ?_;repeat walk_at"rwx"
   refine Zah F1.ob Y.a.k.cl Y.a.n_looking rfl ?_;repeat walk_at"rwx"
   intro ga gdx hga hgdx hgne;have hga2:(upd H1 gdx (.own ga)) ga=none:=by rw[Zaj (YR hgne)];exact hga
   have s1:Same H1 (upd (upd H1 gdx (.own ga)) ga (.ins qc gdx [])):=(Same.new hgdx).newT hga2;refine⟨ga,gdx,"call",slot,slot,x.who,c,word,asks,x.depth+1,x.looking,rfl,Zad,λST SS H2 hST hSS G2 kk=>⟨rfl,?_⟩⟩;have sa:Same H1 H2:=λb o e=>kk b o (s1 b o e) (Zai e hga);have fr1:∀b,H1 b=none->H b=none:=λb hb=>by
    cases z:H b with
    |none=>rfl
    |some oo=>
     exfalso;by_cases q:b=fr.ST
     .rw [q,F1.st]at hb;cases hb
     .rw [k1 b oo z q]at hb;cases hb
   exact k ⟨ga,gdx,ST,SS⟩ H2 (fr1 _ hga) (fr1 _ (s1.fresh hST)) (fr1 _ (s1.fresh hSS)) (k1.trans sa.keptX) (F1.same sa) G2
  .skip
   have hp0:=hp;right;refine Zar F.ob rfl ?_;right;refine⟨p,_,n,0,3,2,6,6,rfl,hp,rfl,rfl,?_⟩;rw[show(3:Int)+0=(([slot,asks,word]:XD).length:Nat)from rfl];right;refine⟨fr,x,ws,s0,[slot,asks,word],rfl,F,e0,by show 3<=1000;decide,λq H1 _ k1 F1 e1=>?_⟩;have e1':H1 q=some (.lst [.int slot,.int asks,.int word]):=e1;have hp1:=Zc1 hp F (k_st k1);walk_at"W'";refine Zah F1.ob Y.a.k.cl Y.a.n_depth rfl ?_;repeat walk_at"rwx"
   refine Zah F1.ob Y.a.k.cl Y.a.n_who rfl ?_;repeat walk_at"rwx"
   refine Zah F1.ob Y.a.k.cl Y.a.n_caller rfl ?_;repeat walk_at"rwx"
   refine Zah F1.ob Y.a.k.cl Y.a.n_coin rfl ?_;repeat walk_at"rwx"
   refine Zah F1.ob Y.a.k.cl Y.a.n_looking rfl ?_;repeat walk_at"rwx"
   intro ga gdx hga hgdx hgne;have hga2:(upd H1 gdx (.own ga)) ga=none:=by rw[Zaj (YR hgne)];exact hga
   have s1:Same H1 (upd (upd H1 gdx (.own ga)) ga (.ins qc gdx [])):=(Same.new hgdx).newT hga2;refine⟨ga,gdx,"borrow",x.who,slot,x.caller,x.coin,word,asks,x.depth+1,x.looking,rfl,Zad,λST SS H2 hST hSS G2 kk=>⟨rfl,?_⟩⟩;have sa:Same H1 H2:=λb o e=>kk b o (s1 b o e) (Zai e hga);have fr1:∀b,H1 b=none->H b=none:=λb hb=>by
    cases z:H b with
    |none=>rfl
    |some oo=>
     exfalso;by_cases q:b=fr.ST
     .rw [q,F1.st]at hb;cases hb
     .rw [k1 b oo z q]at hb;cases hb
   exact k ⟨ga,gdx,ST,SS⟩ H2 (fr1 _ hga) (fr1 _ (s1.fresh hST)) (fr1 _ (s1.fresh hSS)) (k1.trans sa.keptX) (F1.same sa) G2
  .skip
   have hp0:=hp;right;refine Zar F.ob rfl ?_;right;refine⟨p,_,n,0,3,2,6,6,rfl,hp,rfl,rfl,?_⟩;rw[show(3:Int)+0=(([slot,asks,word]:XD).length:Nat)from rfl];right;refine⟨fr,x,ws,s0,[slot,asks,word],rfl,F,e0,by show 3<=1000;decide,λq H1 _ k1 F1 e1=>?_⟩;have e1':H1 q=some (.lst [.int slot,.int asks,.int word]):=e1;have hp1:=Zc1 hp F (k_st k1);walk_at"W'";refine Zah F1.ob Y.a.k.cl Y.a.n_depth rfl ?_;repeat walk_at"rwx"
   refine Zah F1.ob Y.a.k.cl Y.a.n_who rfl ?_;repeat walk_at"rwx"
   intro ga gdx hga hgdx hgne;have hga2:(upd H1 gdx (.own ga)) ga=none:=by rw[Zaj (YR hgne)];exact hga
   have s1:Same H1 (upd (upd H1 gdx (.own ga)) ga (.ins qc gdx [])):=(Same.new hgdx).newT hga2;refine⟨ga,gdx,"look",slot,slot,x.who,0,word,asks,x.depth+1,true,rfl,Zad,λST SS H2 hST hSS G2 kk=>⟨rfl,?_⟩⟩;have sa:Same H1 H2:=λb o e=>kk b o (s1 b o e) (Zai e hga);have fr1:∀b,H1 b=none->H b=none:=λb hb=>by
    cases z:H b with
    |none=>rfl
    |some oo=>
     exfalso;by_cases q:b=fr.ST
     .rw [q,F1.st]at hb;cases hb
     .rw [k1 b oo z q]at hb;cases hb
   exact k ⟨ga,gdx,ST,SS⟩ H2 (fr1 _ hga) (fr1 _ (s1.fresh hST)) (fr1 _ (s1.fresh hSS)) (k1.trans sa.keptX) (F1.same sa) G2
def Zd4:mY Y 2 "end_ahead_of_call" (Zka K qa qc):=by
 refine Zax ["rooms","other"] Y.bd ?_
 .symm;let⟨R,Ar,S,m,fr,y,ws,e,rfl,r,F,ha,k⟩:=h;refine⟨_,(Zac (ZaG (Zas Zce (Zam (Zc4 Y) (Zaa (pv 0) (Wa (Zap (pv 1))))) Zbl) (Wb Zav) Zat) (Zac (ZaG (Zas ZfE (Zap (pv 1)) (ZaW rfl Y.be)) (Wb Zav) Zat) (Zac (ZaG (PW.pt (ZkT (Zas Zbf (Zap (pv 1)) Zav) (Zha (Zas ZfE (Zap (pv 1)) (Zap (Zaq Zan (pv 0) (Zap (pv 1))) rfl))))) (Wb Zav) Zat) (Wb Zbl)))),?_⟩;left;walk_at"Y";refine Zah F.ob Y.a.k.cl Y.a.n_whose rfl ?_;walk_at"Y";refine⟨R,Ar,S,m,y.whose,rfl,r,?_⟩;rcases ha with⟨h1,rfl⟩|⟨ac,w0,w1,hA,ha⟩
  .rw [h1];walk_at"Y";exact k
  .rw [if_pos ⟨w0,w1⟩,hA,show roomV (some ac)=V.ref ac.a from rfl];walk_at"Y";refine Zah F.ob Y.a.k.cl Y.a.n_depth rfl ?_;rcases ha with⟨h2,rfl⟩|⟨h2,h3,rfl⟩|⟨h2,h3,i,z,ei,hi,hz,ha⟩
   .walk_at"Y";exact k
   .walk_at"Y";refine Zah F.ob Y.a.k.cl Y.a.n_kind rfl ?_;repeat' walk_at"rz"
    .exact absurd ‹_› h3
    .exact k
   .have az:=r.ac i z hi hz;walk_at"Y";refine Zah F.ob Y.a.k.cl Y.a.n_kind rfl ?_;repeat' walk_at"rz"
    .refine Zah F.ob Y.a.k.cl Y.a.n_coin rfl ?_;walk_at"Y";refine Zah F.ob Y.a.k.cl Y.a.n_caller rfl ?_;rw[ei];refine ZaA (Zal r.ob) (r.at hi hz) ?_;refine Zah az.ob Y.c.k.cl Y.c.n_coin rfl ?_;rcases ha with⟨h4,rfl⟩|⟨h4,rfl⟩
     .walk_at"Y";exact k
     .walk_at"Y";exact k
    .rename_i hq;exact absurd h3 hq
omit Y
noncomputable def WR:List Str:=["push","drop","add","both","unlike","jumpif","load","save","sent","word","coin","note","give","fail"]
def DoOk(P:XI)(w:XO)(K:Ydg)(C cJ cS cM cN cF:XB)(mg:XA)(base:XT)(aD:XB):Prop:=
 ∃vs,ZfG P w K aD vs/\∀x∈WR,∃fa l,x∈l/\valueAt vs (.inr x)=some (.ref fa)/\CalF P w K mg base 5 fa (spRow K C cJ cS cM cN cF l)
def ZcA{P:XI}{w:XO}{K:Ydg}{C cJ cS cM cN cF:XB}{mg:XA}{base:XT}{x f:Str}{vs:Xo}{l:XN}{k:Nat}(h:∃v,valueAt vs (.inr x)=some v/\RfN mg v f)(c:Cal P w K mg base k f (spRow K C cJ cS cM cN cF l))(hk:k<=5)(hx:x∈l):∃fa l,x∈l/\valueAt vs (.inr x)=some (.ref fa)/\CalF P w K mg base 5 fa (spRow K C cJ cS cM cN cF l):=
 let⟨fa,e,q⟩:=tabC h c hk
 ⟨fa,l,hx,e,q⟩
include Y
def do_ok:DoOk P w K qa qb cSave qd cNote qc mg base aD:=by
 let⟨vs,dd,al⟩:=Y.bf;refine⟨_,dd,λx h=>?_⟩;simp only[WR,Yh,YL,Yah]at h;rcases h with rfl|rfl|rfl|rfl|rfl|rfl|rfl|rfl|rfl|rfl|rfl|rfl|rfl|rfl
 .exact ZcA (al ("push","push_row") (by decide +kernel)) (ZmY Y) nofun nofun
 .exact ZcA (al ("drop","drop_row") (by decide +kernel)) (ZmZ Y) nofun nofun
 .exact ZcA (al ("add","reckon_row") (by decide +kernel)) (Zc5 Y) nofun nofun
 .exact ZcA (al ("both","reckon_row") (by decide +kernel)) (Zc5 Y) nofun nofun
 .exact ZcA (al ("unlike","reckon_row") (by decide +kernel)) (Zc5 Y) nofun nofun
 .exact ZcA (al ("jumpif","jumpif_row") (by decide +kernel)) (Zj8 Y) nofun nofun
 .exact ZcA (al ("load","load_row") (by decide +kernel)) (Zm4 Y) nofun nofun
 .exact ZcA (al ("save","save_row") (by decide +kernel)) (Zm6 Y) nofun nofun
 .exact ZcA (al ("sent","sent_row") (by decide +kernel)) (Zm0 Y) nofun nofun
 .exact ZcA (al ("word","word_row") (by decide +kernel)) (Zm1 Y) nofun nofun
 .exact ZcA (al ("coin","coin_row") (by decide +kernel)) (Zm5 Y) nofun nofun
 .exact ZcA (al ("note","note_row") (by decide +kernel)) (Zm7 Y) nofun nofun
 .exact ZcA (al ("give","give_row") (by decide +kernel)) (Zm2 Y) nofun nofun
 .exact ZcA (al ("fail","fail_row") (by decide +kernel)) (Zm3 Y) nofun nofun
def Zrt:mY Y 6 "do_row" (spRow K qa qb cSave qd cNote qc WR):=by
 refine Zax ["rooms","journal","frame","row"] Y.bg ?_
 .symm;let⟨M,ds,fr,x,ws,p,wd,n,rfl,hw,h,k⟩:=h;refine⟨_,(Zaf (Zay (ZjG (k:=5) (hr.mono nofun) (Zf4 (ZaW rfl Y.bh) (Zaq ZaK (pv 3) Zag) (λ_ _=>rfl)) (Zaa (pv 0) (Zaa (pv 1) (Zaa (pv 2) (Wa (pv 3)))))))),?_⟩;left;have hp:=h.row;let⟨ts,dk,al⟩:=(do_ok Y);let⟨fa,l,hl,hv,cf⟩:=al wd hw;refine Zp7 ?_;unfold tCallV;right;refine Zmv (v:=.ref fa) dk hv rfl ?_;refine⟨fa,_,rfl,cf,?_⟩;exists⟨M,ds,fr,x,ws,p,wd,n,rfl,hl,h,λH1 d1 x1 w1 s1 k1 n1=>?_⟩;ext;exact k H1 d1 x1 w1 s1 k1 n1
omit Y
def ZlT{st:XD}{n:Nat}(h:n<=st.length):∃s t,st=s++t/\t.length=n:=⟨st.take (st.length-n),st.drop (st.length-n),(Yce _ _).symm,by rw[Yaw];omega⟩
def len_2{t:XD}(h:t.length=2):∃a b,t=[a,b]:=by
 match t,h with
 |[a,b],_=>exact⟨a,b,rfl⟩
def len_3{t:XD}(h:t.length=3):∃a b c,t=[a,b,c]:=by
 match t,h with
 |[a,b,c],_=>exact⟨a,b,c,rfl⟩
def len_4{t:XD}(h:t.length=4):∃a b c d,t=[a,b,c,d]:=by
 match t,h with
 |[a,b,c,d],_=>exact⟨a,b,c,d,rfl⟩
def wl_rt:∀w∈WL,∃t l pr d,RT.lookup w=some (t,l,pr,d)/\(1<=pr/\1<=d)/\ZcI w none=some 0/\(w="call"->t=4)/\(w="save"->t=2):=by
 intro w hw;have h:=(by decide +kernel:∀w∈WL,(RT.lookup w).any (λp=>decide ((1<=p.2.2.1/\1<=p.2.2.2)/\ZcI w none=some 0/\(w="call"->p.1=4)/\(w="save"->p.1=2)))=true) w hw;revert h;cases RT.lookup w with
 |none=>exact nofun
 |some p=>exact λh=>⟨_,_,_,_,rfl,of_decide_eq_true h⟩
def Zto{w:Str}(h:w∈WL)(n:XS):ZcI w n=some 0:=by
 unfold ZcI;rw[if_neg (by rw[(show ∀w∈WL,inS w ["copy","swap"]=false by decide) w h];decide)]
def prR(M:MI)(ds:Xg)(x:FrS)(w:Str)(c:Int):Prop:=∃b1 b2 t l pr d,ZfO x w b1/\fillsR M.A (runS M.S0 ds) x w b2/\RT.lookup w=some (t,l,pr,d)/\c=(if(b1||b2)=true then d else pr)
structure Can(M:MI)(ds:Xg)(x:FrS)(w:Str)(c:Int):Prop where
 tk:∃t l pr d,RT.lookup w=some (t,l,pr,d)/\t<=(x.stack.length:Int)/\(x.stack.length:Int)-t+l<=24
 pr:prR M ds x w c
 c1:1<=c
 le:x.used+c<=x.given
def Ztp{M:MI}{ds:Xg}{x:FrS}(fo:FOk M x){w:Str}{n:XS}(hw:w∈WL):∃e,aheadR M.A (runS M.S0 ds) x w n e/\(∀s,e=some s->s.length<=10)/\(e=none->∃c,Can M ds x w c):=by
 let⟨t,l,pr,d,hl,⟨p1,p2⟩,_,h4,h2⟩:=wl_rt w hw;have hr:=Zto hw n;by_cases c1:(x.stack.length:Int)<t+0
 .exact ⟨some "short",⟨0,t,l,pr,d,hr,hl,.inl ⟨c1,rfl⟩⟩,λs e=>by cases e;decide,λz=>nomatch z⟩
 by_cases c2:24<(x.stack.length:Int)-(t+0)+(l+0)
 .exact ⟨some "full",⟨0,t,l,pr,d,hr,hl,.inr (.inl ⟨c1,c2,rfl⟩)⟩,λs e=>by cases e;decide,λz=>nomatch z⟩
 obtain⟨b1,hb1⟩:∃b1,ZfO x w b1:=by
  by_cases e:w="call"
  .have:=h4 e;let⟨s,q,es,hq⟩:=ZlT (st:=x.stack) (n:=4) ();let⟨a,b,c,dd,rfl⟩:=len_4 hq;exact⟨_,.inr ⟨e,s++[a],b,c,dd,by rw[es];simp,rfl⟩⟩
  .exact ⟨false,.inl ⟨e,rfl⟩⟩
 obtain⟨b2,hb2⟩:∃b2,fillsR M.A (runS M.S0 ds) x w b2:=by
  by_cases e:w="save"
  .have:=h2 e;let⟨s,q,es,hq⟩:=ZlT (st:=x.stack) (n:=2) ();let⟨a,b,rfl⟩:=len_2 hq;let⟨i,y,ew,hi,hy⟩:=fo.who;by_cases e0:b=0
   .exact ⟨false,.inr ⟨e,s,a,b,es,.inl ⟨e0,rfl⟩⟩⟩
   .exact ⟨_,.inr ⟨e,s,a,b,es,.inr ⟨e0,i,y,ew,hi,hy,rfl⟩⟩⟩
  .exact ⟨false,.inl ⟨e,rfl⟩⟩
 cases hbar:barB x w b1 with
 |true=>exact⟨some "barred",⟨0,t,l,pr,d,hr,hl,.inr (.inr ⟨c1,c2,b1,b2,hb1,hb2,.inl ⟨hbar,rfl⟩⟩)⟩,λs e=>by cases e;decide,λz=>nomatch z⟩
 |false=>
  by_cases c3:x.given-x.used<(if(b1||b2)=true then d else pr)
  .exact ⟨some "dry",⟨0,t,l,pr,d,hr,hl,.inr (.inr ⟨c1,c2,b1,b2,hb1,hb2,.inr (.inl ⟨hbar,c3,rfl⟩)⟩)⟩,λs e=>by cases e;decide,λz=>nomatch z⟩
  .exact ⟨none,⟨0,t,l,pr,d,hr,hl,.inr (.inr ⟨c1,c2,b1,b2,hb1,hb2,.inr (.inr ⟨hbar,c3,rfl⟩)⟩)⟩,(λs e=>nomatch e),λ_=>⟨_,⟨t,l,pr,d,hl,(),()⟩,⟨b1,b2,t,l,pr,d,hb1,hb2,hl,rfl⟩,by split<;>assumption,()⟩⟩
structure In(M:MI)(ds:Xg)(x:FrS):Prop where
 fo:FOk M x
 fin:x.fin=none
 z:x.used=0
 mv:x.kind="call"->0<x.coin->∃i z,x.caller=((i:Nat):Int)/\i<16/\M.A i=some z/\x.coin<=(runS M.S0 ds i).coin
def Zv2(ds:Xg)(x:FrS)(ws:XF)(k:Int):Prop:=(ds.length:Int)+k+(x.given-x.used)<=40000/\(ws.length:Int)+2*(x.given-x.used)<=50000
inductive spGoL(K:Ydg)(C cJ cS cM cN cF:XB)(n:Nat)(vs:XF)(H:Hp)(Q:VK)(E9:XK):Prop
 |mk(M:MI)(ds:Xg)(f:FrI)(x:FrS):vs=[.ref M.R,.ref M.j,.ref f.a]->St K C cJ cS cM cN cF H M ds f x []->In M ds x->9<=x.depth+(n:Int)->Zv2 ds x [] 1->x.given<=20000->(∀H' ds' y ws',St K C cJ cS cM cN cF H' M ds' f y ws'->KeptX (goX M.A M.L f) H H'->Nx M 1 0 ds x [] ds' y ws'->y.fin≠none->Q .non H')->spGoL K C cJ cS cM cN cF n vs H Q E9
inductive Zru(K:Ydg)(C cJ cS cM cN cF:XB)(n:Nat)(vs:XF)(H:Hp)(Q:VK)(E9:XK):Prop
 |mk(M:MI)(ds:Xg)(f:FrI)(x:FrS)(ws:XF)(p:XB)(w:Str)(nn:XS):vs=[.ref M.R,.ref M.j,.ref f.a,.ref p]->w∈(["call","borrow","look"]:XN)->Rp K C cJ cS cM cN cF H M ds f x ws p w nn->8<=x.depth+(n:Int)->(ds.length:Int)+1+(x.given-x.used)<=40000->x.given<=20000->Po K C cJ cS cM cN cF H M 1 0 ds f x ws Q->Zru K C cJ cS cM cN cF n vs H Q E9
inductive Zn7(K:Ydg)(C cJ cS cM cN cF:XB)(n:Nat)(vs:XF)(H:Hp)(Q:VK)(E9:XK):Prop
 |mk(M:MI)(ds:Xg)(f:FrI)(x:FrS)(ws:XF)(p:XB)(w:Str)(nn:XS)(c:Int):vs=[.ref M.R,.ref M.j,.ref f.a,.ref p]->St K C cJ cS cM cN cF H M ds f x ws->Zb9 K H p w nn->w∈WL->x.fin=none->FOk M x->(∃(k i:Nat),x.whose=(k:Int)/\x.row=(i:Int)/\(M.S0 k).rows[i]?=some (w,nn))->Can M ds x w c->8<=x.depth+(n:Int)->Zv2 ds x ws 0->x.given<=20000->Po K C cJ cS cM cN cF H M 0 1 ds f x ws Q->Zn7 K C cJ cS cM cN cF n vs H Q E9
inductive Zrv(K:Ydg)(C cJ cS cM cN cF:XB)(n:Nat)(vs:XF)(H:Hp)(Q:VK)(E9:XK):Prop
 |mk(M:MI)(ds:Xg)(f:FrI)(x:FrS)(ws:XF):vs=[.ref M.R,.ref M.j,.ref f.a]->St K C cJ cS cM cN cF H M ds f x ws->x.fin=none->FOk M x->8<=x.depth+(n:Int)->Zv2 ds x ws 0->x.given<=20000->Po K C cJ cS cM cN cF H M 0 1 ds f x ws Q->Zrv K C cJ cS cM cN cF n vs H Q E9
def Nx.trans{M:MI}{a:Nat}{ds d1 d2:Xg}{x x1 x2:FrS}{ws w1 w2:XF}(h:Nx M a 0 ds x ws d1 x1 w1)(q:Nx M 0 1 d1 x1 w1 d2 x2 w2):Nx M a 0 ds x ws d2 x2 w2:=by
 have e:x1.given=x.given:=Y3 (·.2.2.2.2.2.2.1) h.hd;have h1:=h.dl;have h2:=h.wl;have h3:=h.us;have q1:=q.dl;have q2:=q.wl;have q3:=q.us;exact⟨h.pre.trans q.pre,(),(),q.hd.trans h.hd,⟨(),()⟩,λz=>(),q.en⟩
structure NewF(H:Hp)(g:FrI):Prop where
 a:H g.a=none
 t:H g.ST=none
 s:H g.SS=none
section
variable{K:Ydg}{C cJ cS cM cN cF:XB}{H H0 H1 H':Hp}{M:MI}{ds:Xg}{f g:FrI}{x y:FrS}{ws:XF}{p:XB}{w:Str}{n:XS}
def Zo9(F:FrAt cF H f x ws){b:XB}(h:inF3 f b):H b≠none:=by
 rcases h with rfl|rfl|rfl
 .rw [F.ob];intro z;cases z
 .rw [F.st];intro z;cases z
 .rw [F.ss];intro z;cases z
def NewF.not(n:NewF H g){b:XB}(h:H b≠none):¬inF3 g b:=by
 rintro(rfl|rfl|rfl)
 .exact h n.a
 .exact h n.t
 .exact h n.s
def NewF.ap(n:NewF H g)(W:Wd K C cJ cS cM cN H M ds):Ap M.R M.L M.A g:=by
 let⟨es,_,J⟩:=W.J
 exact⟨YR (Zai W.r.ob n.t),YR (Zai W.r.ob n.s),YR (Zai J.li n.t),YR (Zai J.li n.s),λi y hi hy=>by
   let⟨xs,e1,_⟩:=(W.r.ac i y hi hy).pg;exact⟨YR (Zai e1 n.t),YR (Zai e1 n.s)⟩⟩
def St.callee(s:St K C cJ cS cM cN cF H M ds f x ws)(n:NewF H g){x1:FrS}{ws1:XF}(F1:FrAt cF H1 f x1 ws1)(k:KeptX (goX M.A M.L g) H1 H'):FrAt cF H' f x1 ws1:=by
 let⟨W,F,a⟩:=s;let⟨es,_,J⟩:=W.J;have oa:Out M.A f.a:=λi y hi hy=>⟨Zgq F.ob (W.r.ac i y hi hy).ob (by show 15≠5;decide),let⟨_,g,_⟩:=(W.r.ac i y hi hy).sto;Za3 F.ob g nofun⟩;refine F1.kept k ?_ ?_ ?_
 .rintro (z|z|z)
  .exact z oa
  .exact Za3 F.ob J.li nofun z
  .exact n.not (Zo9 F (.inl rfl)) z
 .rintro (z|z|z)
  .exact z (W.r.outL F.st)
  .exact a.tL z
  .exact n.not (Zo9 F (.inr (.inl rfl))) z
 .rintro (z|z|z)
  .exact z (W.r.outL F.ss)
  .exact a.sL z
  .exact n.not (Zo9 F (.inr (.inr rfl))) z
def ZlU{A:XC}{L:XB}(k1:KeptX (inF3 f) H H1)(n:NewF H g)(k:KeptX (goX A L g) H1 H'):KeptX (goX A L f) H H':=λb o e nb=>k b o (k1 b o e λz=>nb (.inr (.inr z))) λz=>by
 rcases z with z|z|z
 .exact nb (.inl z)
 .exact nb (.inr (.inl z))
 .exact n.not (by rw[e];intro q;cases q) z
def Zkc(so:SOk M.ps (runS M.S0 ds))(hc:In64 y.coin)(hw:In64 y.word)(hs:y.stack=[])(hr:y.row=0)(hu:y.used=0)(hf:y.fin=none)(hd:1<=y.depth)(ho:y.who=y.whose\/∃i z,y.who=((i:Nat):Int)/\i<16/\M.A i=some z)(hk:y.kind="call"->∃i z,y.caller=((i:Nat):Int)/\i<16/\M.A i=some z):∃e,Zj9 M.A (runS M.S0 ds) y e/\(∀s,e=some s->s.length<=10)/\(e=none->∀gv,0<=gv->In M ds {y with given:=gv}):=by
 have nb:(if 0<=y.whose/\y.whose<16 then roomV (M.A y.whose.toNat)else V.non)=.non->∃e,Zj9 M.A (runS M.S0 ds) y e/\(∀s,e=some s->s.length<=10)/\(e=none->∀gv,0<=gv->In M ds {y with given:=gv}):=λz=>⟨some "nobody",.inl ⟨z,rfl⟩,λs e=>by cases e;decide,λe=>nomatch e⟩;rcases Classical.em (0<=y.whose/\y.whose<16)with h0|h0;rotate_left
 .exact nb (if_neg h0)
 cases hA:M.A y.whose.toNat with
 |none=>exact nb (by rw[if_pos h0,hA];rfl)
 |some ac=>
  by_cases h8:8<y.depth
  .exact ⟨some "deep",.inr ⟨ac,h0.1,h0.2,hA,.inl ⟨h8,rfl⟩⟩,λs e=>by cases e;decide,λe=>nomatch e⟩
  have wh:∃i z,y.whose=((i:Nat):Int)/\i<16/\M.A i=some z:=⟨y.whose.toNat,ac,(),(),hA⟩;have fo:∀gv,0<=gv->FOk M {y with given:=gv}:=λgv hg=>⟨ho.elim (λz=>by show ∃i z,y.who=((i:Nat):Int)/\i<16/\M.A i=some z;rw[z];exact wh) id,wh,hc,hw,(λk hk=>by rw[show({y with given:=gv}:FrS).stack=[]from hs]at hk;cases hk),by show y.stack.length<=24;rw[hs];exact YO _,⟨by show 0<=y.used;omega,by show y.used<=gv;omega⟩,⟨hd,by show y.depth<=8;omega⟩,λi I _ hI=>by show I y.row y.stack;rw[hr,hs];exact hI.z,⟨0,hr⟩⟩;by_cases hq:y.kind="call"
  .obtain ⟨i,z,ei,hi,hz⟩:=hk hq;by_cases hp:(runS M.S0 ds i).coin<y.coin
   .exact ⟨some "poor",.inr ⟨ac,h0.1,h0.2,hA,.inr (.inr ⟨h8,hq,i,z,ei,hi,hz,.inl ⟨hp,rfl⟩⟩)⟩,λs e=>by cases e;decide,λe=>nomatch e⟩
   .exact ⟨none,.inr ⟨ac,h0.1,h0.2,hA,.inr (.inr ⟨h8,hq,i,z,ei,hi,hz,.inr ⟨hp,rfl⟩⟩)⟩,(λs e=>nomatch e),λ_ gv hg=>⟨fo gv hg,hf,hu,λ_ _=>⟨i,z,ei,hi,hz,by show y.coin<=_;omega⟩⟩⟩
  .exact ⟨none,.inr ⟨ac,h0.1,h0.2,hA,.inr (.inl ⟨h8,hq,rfl⟩)⟩,(λs e=>nomatch e),λ_ gv hg=>⟨fo gv hg,hf,hu,λz=>absurd z hq⟩⟩
def Ztq(h:Rp K C cJ cS cM cN cF H M ds f x ws p w n)(hw:w∈(["call","borrow","look"]:XN)):∃s0 y t e pr d,ZuD x w s0 y/\x.stack=s0++t/\RT.lookup w=some ((t.length:Int),2,pr,d)/\y.used=0/\0<=y.given/\y.depth=x.depth+1/\y.answer=0/\Zj9 M.A (runS M.S0 ds) y e/\(∀s,e=some s->s.length<=10)/\(e=none->∀gv,0<=gv->In M ds {y with given:=gv}):=by
 have fo:=h.fo;have hd:=fo.dep;have hd:1<=x.depth/\x.depth<=8:=hd;have so:=h.st.W.so;let⟨tt,l,pr,d,e1,e2,_⟩:=h.tk;have st:∀k∈x.stack,In64 k:=fo.stk;simp only[Yh,YL,Yah]at hw;rcases hw with rfl|rfl|rfl
 .cases e1;let⟨s,q,es,hq⟩:=ZlT (st:=x.stack) (n:=4) ();let⟨a,b,c,v,rfl⟩:=len_4 hq;have hm:∀k∈[a,b,c,v],In64 k:=λk hk=>st k (by rw[es];exact Yw.2 (.inr hk));let⟨e,h1,h2,h3⟩:=Zkc (M:=M) (ds:=ds) (y:=frame0 "call" a a x.who b v c (x.depth+1) x.looking) so (hm b (by simp)) (hm v (by simp)) rfl rfl rfl rfl (by show 1<=x.depth+1;omega) (.inl rfl) (λ_=>fo.who);exact⟨s,_,[a,b,c,v],e,_,_,.inl ⟨rfl,a,b,c,v,es,rfl⟩,es,rfl,rfl,(hm c (by simp)).1,rfl,rfl,h1,h2,h3⟩
 .cases e1;let⟨s,q,es,hq⟩:=ZlT (st:=x.stack) (n:=3) ();let⟨a,c,v,rfl⟩:=len_3 hq;have hm:∀k∈[a,c,v],In64 k:=λk hk=>st k (by rw[es];exact Yw.2 (.inr hk));let⟨e,h1,h2,h3⟩:=Zkc (M:=M) (ds:=ds) (y:=frame0 "borrow" x.who a x.caller x.coin v c (x.depth+1) x.looking) so fo.coi (hm v (by simp)) rfl rfl rfl rfl (by show 1<=x.depth+1;omega) (.inr fo.who) (λz=>absurd (show("borrow":Xq)="call"from z) nofun);exact⟨s,_,[a,c,v],e,_,_,.inr (.inl ⟨rfl,a,c,v,es,rfl⟩),es,rfl,rfl,(hm c (by simp)).1,rfl,rfl,h1,h2,h3⟩
 .cases e1;let⟨s,q,es,hq⟩:=ZlT (st:=x.stack) (n:=3) ();let⟨a,c,v,rfl⟩:=len_3 hq;have hm:∀k∈[a,c,v],In64 k:=λk hk=>st k (by rw[es];exact Yw.2 (.inr hk));let⟨e,h1,h2,h3⟩:=Zkc (M:=M) (ds:=ds) (y:=frame0 "look" a a x.who 0 v c (x.depth+1) true) so (show In64 0 from⟨nofun,nofun⟩) (hm v (by simp)) rfl rfl rfl rfl (by show 1<=x.depth+1;omega) (.inl rfl) (λz=>absurd (show("look":Xq)="call"from z) nofun);exact⟨s,_,[a,c,v],e,_,_,.inr (.inr ⟨rfl,a,c,v,es,rfl⟩),es,rfl,rfl,(hm c (by simp)).1,rfl,rfl,h1,h2,h3⟩
end
section
end
def ZeB:FnScope ["rooms","journal","frame","row","other","end"] ["rooms","journal","frame","row"] (Zae (top 104)):=by walk_at"c"
def Zm9  {k n:Nat} {qa qb cSave qd cNote qc:XB} (D:ZaC K mg "call_row" (top 104)) (qe:T_Frame K mg qc) (ql:MCal P w K mg base 1 qc "left" (spLeft qc)) (qf:MCal P w K mg base 1 qc "finish" (Zg2 qc)) (qm:MCal P w K mg base 1 qc "tree" (spTree qc)) (qk:MCal P w K mg base 1 qc "lay" (spLay qc)) (qo:Cal P w K mg base 3 "other_call" (Zm8 K qc)) (qg:Cal P w K mg base 2 "end_ahead_of_call" (Zka K qa qc)) (zm:Cal P w K mg base (k+8) "go" (spGoL K qa qb cSave qd cNote qc n)) (qN:mg "min"=none):Cal P w K mg base (k+9) "call_row" (Zru K qa qb cSave qd cNote qc n):=by
 refine Zax _ D ?_ _ ZeB
 .symm;let⟨M,ds,fr,x,ws,p,wd,nn,rfl,hw,h,hdp,hdl,hgv,kk⟩:=h;refine⟨_,(Zac (Zao (i:=4) ZeB.nd (Zdo qo (hr.mono ()) rfl (Zaa (pv 2) (Wa (pv 3))))) (Zac (Zao (i:=5) ZeB.nd (Zdo qg (hr.mono ()) rfl (Zaa (pv 0) (Wa (pv 4))))) (Zac (Zjq (ZaG (Zas Zce (pv 5) Zbl) (Zac (ZaS (pv 4) (Zau (Zuo rfl) rfl qN PyProof.Rows.boot_min (Zaa (Zap (pv 4)) (Wa (Zbn ql (hr.mono ()) (pv 2))))) rfl) (Zaf (Zay (Zdo zm (hr.mono ()) rfl (Zaa (pv 0) (Zaa (pv 1) (Wa (pv 4)))))))) (Zac (ZaS (pv 4) Zag rfl) (Zaf (Zay (ZaB qf (hr.mono ()) (pv 4) (Zaa (pv 5) (Wa Zag)))))))) (Zac (ZbZ (pv 2) (Zap (pv 4)) Zi2) (Zac (Zay (Zbj Yy YI YH ZaT (Zap (pv 2)) (Wa (Zbn qm (hr.mono ()) (pv 4))))) (Zac (Zay (ZaB qk (hr.mono ()) (pv 2) (Wa (Zap (pv 4))))) (Zaf (Zay (ZaB qk (hr.mono ()) (pv 2) (Wa (Zjz (Zas Zbf (Zap (pv 4)) Zav) Zag Zag))))))))))),?_⟩;left;let⟨s0,y,t0,e,pr,d,hO,es,hl,hyu,hyg,hyd,hya,ha,he,hin⟩:=Ztq h hw;have F:=h.st.F;have hp:=h.row;have hs:s0.length<=24:=by have:=Y3 List.length es;rw[Yc]at this;have q:=h.fo.len;change x.stack.length<=24 at q;omega
  have hus:x.used<=x.given:=h.fo.use.2;have hu0:0<=x.used:=h.fo.use.1;right;refine⟨fr,x,y,ws,p,wd,nn,s0,rfl,F,hp,hO,λgf H1 ga gt gs k1 F1 G1=>?_⟩;have nf:NewF H gf:=⟨ga,gt,gs⟩;have k1':KeptX (inF3 fr) H H1:=k_F3 (k_st k1);have W1:=h.st.W.frame F h.st.ap k1';have apg:=nf.ap h.st.W;right;refine⟨M.R,M.A,_,_,gf,y,[],e,rfl,W1.r,G1,ha,?_⟩;right;refine Zjp (λU' H'=>∃vs v ds' y',Wd K qa qb cSave qd cNote H' M ds'/\FrAt qc H' fr {x with stack:=s0} ws/\FrAt qc H' gf y' vs/\KeptX (goX M.A M.L fr) H H'/\ds <+: ds'/\(ds'.length:Int)<=ds.length+1+y'.used/\(0<=y'.used/\x.used+y'.used<=x.given)/\(∃e:Str,y'.fin=some e)/\In64 y'.answer/\U'=[some (.ref M.R),some (.ref M.j),some (.ref fr.a),some (.ref p),some (.ref gf.a),v]) ?_ ?_
  .cases e with
   |some e1=>
    rw[show endV (some e1)=V.str e1 from rfl];right;refine⟨rfl,?_⟩;rw[YD (show ¬V.str e1=V.non by intro z;cases z)];right;refine ZaD G1.ob qe.k.cl qe.n_given (by show 15<1000;decide) ?_;have G2:=G1.setF {y with given:=0} rfl;have e2:putF "given" (.int 0) (fldF gf y)=fldF gf {y with given:=0}:=rfl;rw[e2];have k2:KeptX (inF3 gf) H1 (upd H1 gf.a (.ins qc gf.dx (fldF gf {y with given:=0}))):=KeptX.upd (.inl rfl);generalize upd H1 gf.a _=H2 at G2 k2;right;refine Zar G2.ob rfl ?_;right;refine⟨gf,_,[],e1,0,rfl,G2,λH3 k3 G3=>?_⟩;have k3':KeptX (inF3 gf) H1 H3:=k2.trans (k3.mono λ_ h=>.inl h);right;exact⟨[],_,ds,_,W1.frame G1 apg k3',h.st.callee nf F1 (ZgH k3'),G3,ZlU k1' nf (ZgH k3'),Ybj,by show(ds.length:Int)<=ds.length+1+y.used;omega,by show 0<=y.used/\x.used+y.used<=x.given;omega,⟨e1,rfl⟩,(show In64 0 from⟨nofun,nofun⟩),rfl⟩
   |none=>
    have hin:=hin rfl;rw[show endV none=V.non from rfl];right;refine Zah G1.ob qe.k.cl qe.n_given rfl ?_;right;refine Zar F1.ob rfl ?_;refine⟨fr,_,ws,rfl,F1,?_⟩;obtain⟨gv,hgv2,hgl⟩:∃gv,gv=(if x.given-x.used<y.given then x.given-x.used else y.given)/\0<=gv/\gv<=x.given-x.used:=⟨_,rfl,by split<;>omega,by split<;>omega⟩;right;try (refine Zqf ?_;right)
    refine ZaD G1.ob qe.k.cl qe.n_given (by show 15<1000;decide) ?_;have G2:=G1.setF {y with given:=gv} rfl;have e2:putF "given" (.int (if x.given-x.used<y.given then x.given-x.used else y.given)) (fldF gf y)=fldF gf {y with given:=gv}:=by rw[hgv2];rfl
    rw[e2];have k2:KeptX (inF3 gf) H1 (upd H1 gf.a (.ins qc gf.dx (fldF gf {y with given:=gv}))):=KeptX.upd (.inl rfl);generalize upd H1 gf.a _=H2 at G2 k2;have W2:=W1.frame G1 apg k2;right;refine⟨M,ds,gf,_,rfl,⟨W2,G2,apg⟩,hin gv hgl.1,by show 9<=y.depth+(n:Int);omega,⟨by show(ds.length:Int)+1+(gv-y.used)<=40000;omega,by show(0:Int)+2*(gv-y.used)<=50000;omega⟩,by show gv<=20000;omega,λH3 d3 y3 w3 s3 k3 n3 hf=>?_⟩;have k3':=(ZgH (A:=M.A) (L:=M.L) k2).trans k3;have q1:=n3.dl;have q2:=n3.us;change (d3.length:Int)<=ds.length+1+(y3.used-y.used)at q1;change y.used<=y3.used/\y3.used<=gv at q2;right;refine⟨w3,_,d3,y3,s3.W,h.st.callee nf F1 k3',s3.F,ZlU k1' nf k3',n3.pre,(),(),?_,?_,rfl⟩
    .rcases n3.en with z|⟨⟨e,z,_⟩,_⟩
     .exact absurd z.1 hf
     .exact ⟨e,z⟩
    .rcases n3.en with z|⟨_,z⟩
     .exact absurd z.1 hf
     .exact z
  rintro U3 H3 ⟨vs,v,ds',y',W3,F3,G3,k3,hpre,hdl3,hu3,⟨e0,he0⟩,han,rfl⟩;have ap:=h.st.ap;have fl:∀fs,fs=fldF gf y'->fs.lookup (Str.ofString "end")=some (V.str e0):=λfs q=>by rw[q];show some (endV y'.fin)=_;rw[he0];rfl
  right;refine Zcu F3.ob qe.k.cl qe.n_used rfl ?_;right;refine Zah G3.ob qe.k.cl qe.n_used rfl ?_;right;refine⟨fr.dx,_,F3.ob,by show 15<1000;decide,?_⟩;have F4:=F3.setF {x with stack:=s0,used:=x.used+y'.used} rfl;have e4:putF "used" (.int (x.used+y'.used)) (fldF fr {x with stack:=s0})=fldF fr {x with stack:=s0,used:=x.used+y'.used}:=rfl;rw[e4];have k4:KeptX (inF3 fr) H3 (upd H3 fr.a (.ins qc fr.dx (fldF fr {x with stack:=s0,used:=x.used+y'.used}))):=KeptX.upd (.inl rfl);generalize upd H3 fr.a _=H4 at F4 k4;have gk:∀{Ha Hb:Hp}{xs:XF},FrAt qc Ha gf y' xs->KeptX (inF3 fr) Ha Hb->FrAt qc Hb gf y' xs:=λq kq=>q.kept kq (λz=>nf.not (Zo9 F z) (.inl rfl)) (λz=>nf.not (Zo9 F z) (.inr (.inl rfl))) (λz=>nf.not (Zo9 F z) (.inr (.inr rfl)));have G4:=gk G3 k4;have W4:=W3.frame F3 ap k4;have kk4:=k3.trans (ZgH k4);right;refine Zah F4.ob qe.k.cl qe.n_steps rfl ?_;refine⟨Za9 (Zal F4.ss),?_⟩;right;refine Zar G4.ob rfl ?_;refine⟨gf,y',vs,rfl,G4,λq T H5 s5 hq hT h1 h2=>?_⟩;have F5:=F4.same s5;have G5:=G4.same s5;have W5:=W4.same s5;right;refine ZaZ F5.ss (Y4 h.bd.1 nofun) ?_;have F6:=F5.setSS (ws++[.ref q]);have k6:KeptX (inF3 fr) H5 (upd H5 fr.SS (.lst (ws++[.ref q]))):=KeptX.upd (.inr (.inr rfl));have G6:=gk G5 k6;generalize upd H5 fr.SS _=H6 at F6 k6 G6;right;refine Zar F6.ob rfl ?_;right;refine Zah G6.ob qe.k.cl qe.n_answer rfl ?_;right;refine⟨fr,_,_,_,rfl,F6,Yj hs nofun,λH7 k7 F7=>?_⟩;have k7':KeptX (inF3 fr) H5 H7:=k6.trans (k7.mono λ_ h=>.inr (.inl h));have G7:=gk G5 k7';have fin:∀z H8,In64 z->KeptX (·=fr.ST) H7 H8->FrAt qc H8 fr {x with stack:=s0++[y'.answer]++[z],used:=x.used+y'.used} (ws++[.ref q])->Q .non H8:=λz H8 hz k8 F8=>by
   have k8':=k7'.trans (k8.mono λ_ h=>.inr (.inl h));rw[YQ]at F8;refine kk H8 ds' _ _ ⟨W5.frame F5 ap k8',F8,ap⟩ (kk4.trans (s5.keptX.trans (ZgH k8'))) ⟨hpre,by show(ds'.length:Int)<=ds.length+1+(x.used+y'.used-x.used);omega,by rw[Yc];show((ws.length+1:Nat):Int)<=ws.length+1+2*(x.used+y'.used-x.used);omega,rfl,⟨by show x.used<=x.used+y'.used;omega,by show x.used+y'.used<=x.given;omega⟩,λ_=>(by show x.used+0<=x.used+y'.used;omega),.inl ⟨h.fin,?_⟩⟩
   exact h.next (r:=[y'.answer,z]) (i':=x.row) es hl (λa ha=>by
    rcases Yh.1 ha with rfl|ha
    .exact han
    .rw [Ye.1 ha];exact hz) ⟨(),()⟩ (λz=>absurd (z▸hw) nofun) (.inl rfl)
  have hl7:(s0++[y'.answer]).length<=1000:=by rw[Yc];show s0.length+1<=1000;omega
  right;refine Zar F7.ob rfl ?_;right;refine Zah G7.ob qe.k.cl qe.n_end (fl _ rfl) ?_;walk_at"W'"
  .refine ⟨fr,_,_,_,rfl,F7,hl7,λH8 k8 F8=>?_⟩;right;exact fin 1 H8 ⟨nofun,nofun⟩ k8 F8
  .refine ⟨fr,_,_,_,rfl,F7,hl7,λH8 k8 F8=>?_⟩;right;exact fin 0 H8 ⟨nofun,nofun⟩ k8 F8
include Y
omit Y
def Zrx  {k n:Nat} {qa qb cSave qd cNote aC:XB} (tC3:TupK K aC ((["call","borrow","look"]:XN).map V.str)) {qc:XB} (D:ZaC K mg "go_row" (top 105)) (qe:T_Frame K mg qc) (qr:Cal P w K mg base 3 "row_price" (ZfP K qa qc)) (qE:Cal P w K mg base (k+9) "call_row" (Zru K qa qb cSave qd cNote qc n)) (qu:Cal P w K mg base 6 "do_row" (spRow K qa qb cSave qd cNote qc WR)) (qq:ZaM mg "CALLING" (.ref aC)):Cal P w K mg base (k+10) "go_row" (Zn7 K qa qb cSave qd cNote qc n):=by
 refine Zax ["rooms","journal","frame","row"] D ?_
 .symm;let⟨M,ds,fr,x,ws,p,wd,nn,c,rfl,s,hp,hwl,hfin,fo,hat,hcan,hdp,hro,hgv,kk⟩:=h;refine⟨_,(Zac (ZbZ (pv 2) (Zdo qr (hr.mono ()) rfl (Zaa (pv 0) (Zaa (pv 2) (Wa (pv 3))))) Zi2) (Zac (Zay (Zbj Yy YI YH ZaT (Zap (pv 2)) (Wa (Zap (pv 2))))) (Zac (ZbZ (pv 2) Zag Zi2) (Zaf (ZaG (Zas ZcP (Zaq ZaK (pv 3) Zag) (ZaW rfl qq) rfl) (Zaf (Zay (Zdo qE (hr.mono ()) rfl (Zaa (pv 0) (Zaa (pv 1) (Zaa (pv 2) (Wa (pv 3)))))))) (Zaf (Zay (Zdo qu (hr.mono ()) rfl (Zaa (pv 0) (Zaa (pv 1) (Zaa (pv 2) (Wa (pv 3))))))))))))),?_⟩;left;let⟨W,F,ap⟩:=id s;let⟨b1,b2,t,l,pr,d,hb1,hb2,hT,ec⟩:=hcan.pr;have hc1:=hcan.c1;have hcl:=hcan.le;have hu:=fo.use;have hrd:=hro.1;have hrw:=hro.2;right;refine Zcu F.ob qe.k.cl qe.n_used rfl ?_;right;refine⟨M.R,M.A,_,_,fr,x,ws,p,wd,nn,b1,b2,t,l,pr,d,rfl,W.r,F,hp,hb1,hb2,hT,?_⟩;rw[<- ec];right;refine⟨fr.dx,_,F.ob,by show 15<1000;decide,?_⟩;have F1:=F.setF {x with used:=x.used+c} rfl;have e1:putF "used" (.int (x.used+c)) (fldF fr x)=fldF fr {x with used:=x.used+c}:=rfl;rw[e1];have k1:KeptX (inF3 fr) H (upd H fr.a (.ins qc fr.dx (fldF fr {x with used:=x.used+c}))):=KeptX.upd (.inl rfl);have hp1:Zb9 K (upd H fr.a (.ins qc fr.dx (fldF fr {x with used:=x.used+c}))) p wd nn:=Zc1 hp F (KeptX.upd (.inl rfl));generalize upd H fr.a _=H1 at F1 k1 hp1;right;refine Zah F1.ob qe.k.cl qe.n_steps rfl ?_;refine⟨Za9 (Zal F1.ss),?_⟩;right;refine Zah F1.ob qe.k.cl qe.n_row rfl ?_;right;refine ZaZ F1.ss (Y4 (show ws.length<=60000 by omega) nofun) ?_;have F2:=F1.setSS (ws++[.int x.row]);have k2:KeptX (inF3 fr) H (upd H1 fr.SS (.lst (ws++[.int x.row]))):=k1.trans (KeptX.upd (.inr (.inr rfl)));have hp2:Zb9 K (upd H1 fr.SS (.lst (ws++[.int x.row]))) p wd nn:=(SameI.upd F1.ss Za4).tup hp1;generalize upd H1 fr.SS _=H2 at F2 k2 hp2;right;refine Zcu F2.ob qe.k.cl qe.n_row rfl ?_;right;refine⟨fr.dx,_,F2.ob,by show 15<1000;decide,?_⟩;have F3:=F2.setF (Zc2 x c) rfl;have e3:putF "row" (.int (x.row+1)) (fldF fr {x with used:=x.used+c})=fldF fr (Zc2 x c):=rfl;rw[e3];have k3:KeptX (inF3 fr) H (upd H2 fr.a (.ins qc fr.dx (fldF fr (Zc2 x c)))):=k2.trans (KeptX.upd (.inl rfl));have hp3:Zb9 K (upd H2 fr.a (.ins qc fr.dx (fldF fr (Zc2 x c)))) p wd nn:=Zc1 hp2 F2 (KeptX.upd (.inl rfl));generalize upd H2 fr.a _=H3 at F3 k3 hp3;have hlw:(ws++[V.int x.row]).length=ws.length+1:=by rw[Yc];rfl
  have fo3:FOk M {Zc2 x c with row:=(Zc2 x c).row-1}:=by
   rw[show(Zc2 x c).row-1=x.row by show x.row+1-1=x.row;omega];exact⟨fo.who,fo.wh,fo.coi,fo.wor,fo.stk,fo.len,⟨by show 0<=x.used+c;omega,hcl⟩,fo.dep,fo.iv,fo.row⟩
  have rp:Rp K qa qb cSave qd cNote qc H3 M ds fr (Zc2 x c) (ws++[.int x.row]) p wd nn:=⟨s.own k3 F3,hp3,hfin,fo3,let⟨k,i,a1,a2,a3⟩:=hat;⟨k,i,a1,by show x.row+1=_;omega,a3⟩,hcan.tk,by rw[hlw];omega⟩;have po:∀H4 d4 x4 w4,St K qa qb cSave qd cNote qc H4 M d4 fr x4 w4->KeptX (goX M.A M.L fr) H3 H4->Nx M 1 0 ds (Zc2 x c) (ws++[.int x.row]) d4 x4 w4->Q .non H4:=λH4 d4 x4 w4 s4 k4 n4=>by
   have q1:=n4.dl;have q2:=n4.wl;have q3:=n4.us;rw[hlw]at q2;change (d4.length:Int)<=ds.length+1+(x4.used-(x.used+c))at q1;change (w4.length:Int)<=((ws.length+1:Nat):Int)+1+2*(x4.used-(x.used+c))at q2;change x.used+c<=x4.used/\x4.used<=x.given at q3;exact kk H4 d4 x4 w4 s4 ((ZgH k3).trans k4) ⟨n4.pre,(),(),n4.hd,⟨(),q3.2⟩,λ_=>(),n4.en⟩
  right;refine Zny (tC3.sqt H3) ?_;cases hC:inS wd ["call","borrow","look"]with
  |true=>
   right;refine⟨M,ds,fr,_,_,p,wd,nn,rfl,Zrl hC,rp,hdp,by show(ds.length:Int)+1+(x.given-(x.used+c))<=40000;omega,hgv,λH4 d4 x4 w4 s4 k4 n4=>?_⟩;right;exact po H4 d4 x4 w4 s4 k4 n4
  |false=>
   right;refine⟨M,ds,fr,_,_,p,wd,nn,rfl,(show ∀w∈WL,inS w ["call","borrow","look"]=false->w∈WR by decide) wd hwl hC,rp,λH4 d4 x4 w4 s4 k4 n4=>?_⟩;right;exact po H4 d4 x4 w4 s4 k4 n4
include Y
omit Y
def Zg4:FnScope ["rooms","journal","frame","program","row","end"] ["rooms","journal","frame"] (Zae (top 106)):=by walk_at"c"
def Ztr  {k n:Nat} {qb cSave qd cNote qa qc:XB} (D:ZaC K mg "go_on" (top 106)) (qt:T_Account K mg qa) (qe:T_Frame K mg qc) (qf:MCal P w K mg base 1 qc "finish" (Zg2 qc)) (qh:Cal P w K mg base 4 "end_ahead_of" (ZmT K qa qc)) (qU:Cal P w K mg base (k+10) "go_row" (Zn7 K qa qb cSave qd cNote qc n)) (qO:mg "len"=none):Cal P w K mg base (k+11) "go_on" (Zrv K qa qb cSave qd cNote qc n):=by
 refine Zax _ D ?_ _ Zg4
 .symm;let⟨M,ds,fr,x,ws,rfl,s,hfin,fo,hdp,hro,hgv,kk⟩:=h;refine⟨_,(Zac (Zao (i:=3) Zg4.nd (Zap (Zaq Zan (pv 0) (Zap (pv 2))) rfl)) (Zac (ZaG (Zas Zsa (Zap (pv 2)) (Zau ZaN rfl qO Ys (Wa (pv 3)))) (Zac (Zay (ZaB qf (hr.mono ()) (pv 2) (Zaa Zav (Wa Zag)))) (Zaf ZuQ)) Zat) (Zac (Zao (i:=4) Zg4.nd (Zaq Zan (pv 3) (Zap (pv 2)))) (Zac (Zao (i:=5) Zg4.nd (Zdo qh (hr.mono ()) rfl (Zaa (pv 0) (Zaa (pv 2) (Wa (pv 4)))))) (Zaf (ZaG (Zas Zce (pv 5) Zbl) (Zaf (Zay (Zdo qU (hr.mono ()) rfl (Zaa (pv 0) (Zaa (pv 1) (Zaa (pv 2) (Wa (pv 4)))))))) (Zaf (Zay (ZaB qf (hr.mono ()) (pv 2) (Zaa (pv 5) (Wa Zag))))))))))),?_⟩;left;let⟨W,F,ap⟩:=id s;let⟨iw,y,ew,hi,hy⟩:=fo.wh;let⟨i,er⟩:=fo.row;have ay:=W.r.ac iw y hi hy;let⟨xs,hx1,hx2⟩:=ay.pg;rw[Ztn]at hx2;have hlen:=hx2.1;have fin:∀(e:Str) H1 H2,KeptX (inF3 fr) H H2->FrAt qc H2 fr {x with fin:=some e,answer:=0} ws->e.length<=10->H1=H->Q .non H2:=λe H1 H2 k2 F2 he _=>kk H2 ds _ ws (s.own k2 F2) (ZgH k2) ⟨Ybj,by show(ds.length:Int)<=ds.length+0+(x.used-x.used);omega,by show(ws.length:Int)<=ws.length+0+2*(x.used-x.used);omega,rfl,⟨Y9 _,fo.use.2⟩,(λz=>nomatch z),.inr ⟨⟨e,rfl,he⟩,(show In64 0 from⟨nofun,nofun⟩)⟩⟩;right;refine Zah F.ob qe.k.cl qe.n_whose rfl ?_;rw[ew];refine ZaA (Zal W.r.ob) (W.r.at hi hy) ?_;refine Zah ay.ob qt.k.cl qt.n_program rfl ?_;right;refine Zah F.ob qe.k.cl qe.n_row rfl ?_;walk_at"W'"
  .refine Zar F.ob rfl ?_;right;refine⟨fr,x,ws,"well",0,rfl,F,λH2 k2 F2=>?_⟩;right;exact fin _ H H2 (k2.mono λ_ h=>.inl h) F2 nofun rfl
  .rename_i hnl;have hil:i<(M.S0 iw).rows.length:=by rw[hlen];omega
   obtain⟨⟨wd,nn⟩,hrow⟩:∃r,(M.S0 iw).rows[i]?=some r:=⟨_,Yd hil⟩;let⟨pt,ep,hpt⟩:=hx2.2 i _ _ hrow (Yd (by rw[<- hlen];exact hil));have exi:atI xs x.row=some (.ref pt):=ZaL (i:=i) (by rw[Yd (by rw[<- hlen];exact hil),ep]) er;have hp:Zb9 K H pt wd nn:=hpt;have hwl:=((W.sf iw y hi hy).1 _ (Yn hrow)).1;refine Zah F.ob qe.k.cl qe.n_row rfl ?_;refine ZaA (Zal hx1) exi ?_;right;let⟨e,ha,hel,hc⟩:=Ztp (ds:=ds) fo (n:=nn) hwl;refine⟨M.R,M.A,_,_,fr,x,ws,pt,wd,nn,e,rfl,W.r,F,hp,ha,λH1 s1=>?_⟩;have F1:=F.same s1;cases e with
   |some e=>
    rw[show endV (some e)=V.str e from rfl];right;refine⟨rfl,?_⟩;rw[YD (show ¬V.str e=V.non by intro z;cases z)];right;refine Zar F1.ob rfl ?_;right;refine⟨fr,x,ws,e,0,rfl,F1,λH2 k2 F2=>?_⟩;right;exact fin e H H2 (s1.keptX.trans (k2.mono λ_ h=>.inl h)) F2 (hel e rfl) rfl
   |none=>
    let⟨c,hc⟩:=hc rfl;have hp1:Zb9 K H1 pt wd nn:=s1.tup hp;rw[show endV none=V.non from rfl];right;refine⟨M,ds,fr,x,ws,pt,wd,nn,c,rfl,s.same s1,hp1,hwl,hfin,fo,⟨iw,i,ew,er,hrow⟩,hc,hdp,hro,hgv,λH2 d2 x2 w2 s2 k2 n2=>?_⟩;right;exact kk H2 d2 x2 w2 s2 (s1.keptX.trans k2) n2
include Y
omit Y
def Zv3:FnScope ["rooms","journal","frame","mark"] ["rooms","journal","frame"] (Zae (top 107)):=by walk_at"c"
def Zv4  {k n:Nat} {qa cSave cNote qb qc qd:XB} (D:ZaC K mg "go" (top 107)) (qy:T_Journal K mg qb) (qe:T_Frame K mg qc) (qW:T_Move K mg qd) (qi:MCal P w K mg base 1 qb "mark" (spMark qb)) (qB:ICal P w K mg base 1 "Move" qd (Zj1 qd)) (qj:MCal P w K mg base 3 qb "back" (spBack K qa qb cSave qd cNote)) (qp:Cal P w K mg base 4 "write_step" (Zey K qa qb cSave qd cNote qc)) (qZ:Cal P w K mg base (k+11) "go_on" (Zrv K qa qb cSave qd cNote qc n)):Cal P w K mg base (k+12) "go" (spGoL K qa qb cSave qd cNote qc (n+1)):=by
 refine Zax _ D ?_ _ Zv3
 .symm;let⟨M,ds,fr,x,rfl,s,hin,hdp,hro,hgv,kk⟩:=h;refine⟨_,(Zac (Zao (i:=3) Zv3.nd (Zbn qi (hr.mono ()) (pv 1))) (Zac (Zjq (ZaG (PW.pt (ZkT (Zas Zbf (Zap (pv 2)) Zav) (Zha (Zas ZfE (Zap (pv 2)) Zag)))) (Zaf (Zay (Zdo qp (hr.mono ()) rfl (Zaa (pv 1) (Zaa (pv 2) (Wa (Zer qB (hr.mono ()) rfl (Zaa (Zap (pv 2)) (Zaa (Zap (pv 2)) (Wa (Zap (pv 2)))))))))))) Zat)) (Zac (ZjA YV (Zas Zce (Zap (pv 2)) Zbl) (Zaf (Zay (Zdo qZ (hr.mono ()) rfl (Zaa (pv 0) (Zaa (pv 1) (Wa (pv 2)))))))) (Zaf (ZaG (Zas ZfC (Zap (pv 2)) Zav) (Zaf (Zay (ZaB qj (hr.mono ()) (pv 1) (Wa (pv 3))))) Zat))))),?_⟩;left;let⟨W,F,ap⟩:=id s;let⟨es,hes,J⟩:=W.J;have hel:es.length=ds.length:=by rw[<- hes,Ya]
  have fo:=hin.fo;have hz:=hin.z;have hrd:=hro.1;have hu:=fo.use;right;refine Zar J.ob rfl ?_;right;refine⟨M.j,M.dx,M.R,M.L,_,rfl,J.ob,J.li,?_⟩;rw[Ya];right;refine Zjp (λU' H'=>∃d1 w1,St K qa qb cSave qd cNote qc H' M d1 fr x w1/\KeptX (goX M.A M.L fr) H H'/\Nx M 1 0 ds x [] d1 x w1/\U'=[some (.ref M.R),some (.ref M.j),some (.ref fr.a),some (.int (es.length:Nat))]) ?_ ?_
  .have nomv:∃d1 w1,St K qa qb cSave qd cNote qc H M d1 fr x w1/\KeptX (goX M.A M.L fr) H H/\Nx M 1 0 ds x [] d1 x w1/\[some (V.ref M.R),some (V.ref M.j),some (V.ref fr.a),some (V.int (es.length:Nat))]=[some (.ref M.R),some (.ref M.j),some (.ref fr.a),some (.int (es.length:Nat))]:=
    ⟨ds,[],s,KeptX.refl,⟨Ybj,(),by show(0:Int)<=0+1+2*(x.used-x.used);omega,rfl,⟨Y9 _,hu.2⟩,λ_=>(),.inl ⟨hin.fin,fo⟩⟩,rfl⟩
   right;refine Zah F.ob qe.k.cl qe.n_kind rfl ?_;walk_at"W'"
   .rename_i hk;refine Zah F.ob qe.k.cl qe.n_coin rfl ?_;walk_at"W'"
    .rename_i hc;let⟨i,z,ei,hi,hz2,hco⟩:=hin.mv hk hc;let⟨i2,z2,ei2,hi2,hz3⟩:=fo.who;refine Zah F.ob qe.k.cl qe.n_caller rfl ?_;right;refine Zah F.ob qe.k.cl qe.n_who rfl ?_;right;refine Zah F.ob qe.k.cl qe.n_coin rfl ?_;rw[ei,ei2];right;intro o odx hx hdx hne;have hx2:(upd H odx (.own o)) o=none:=by rw[Zaj (YR hne)];exact hx
     refine⟨o,odx,(i:Int),(i2:Int),x.coin,rfl,Zad,rfl,?_⟩;rw[ZaO];have s1:Same H (upd (upd H odx (.own o)) o (.ins qd odx (moveF (i:Int) (i2:Int) x.coin))):=(Same.new hdx).newT hx2;have eo:(upd (upd H odx (.own o)) o (.ins qd odx (moveF (i:Int) (i2:Int) x.coin))) o=some (.ins qd odx (moveF (i:Int) (i2:Int) x.coin)):=Zad;have S1:=s.same s1;generalize upd (upd H odx (.own o)) o (.ins qd odx (moveF (i:Int) (i2:Int) x.coin))=H1 at s1 eo S1;right;refine⟨M,ds,⟨o,odx,.move (i:Int) (i2:Int) x.coin⟩,fr,x,[],rfl,S1,eo,⟨⟨i,z,rfl,hi,hz2⟩,i2,z2,rfl,hi2,hz3⟩,trivial,W.so.move hi hi2 hz2 hz3 () hco,⟨nofun,()⟩,λt H2 S2 k2=>?_⟩;right;exact⟨_,_,S2,s1.keptX.trans k2,⟨Ycy _ _,by rw[Yc];show((ds.length+1:Nat):Int)<=ds.length+1+(x.used-x.used);omega,by show(1:Int)<=0+1+2*(x.used-x.used);omega,rfl,⟨Y9 _,hu.2⟩,λ_=>(),.inl ⟨hin.fin,fo⟩⟩,rfl⟩
    .exact nomv
   .exact nomv
  rintro U1 H1 ⟨d1,w1,S1,k1,n1,rfl⟩;right;refine⟨λnn U' H'=>∃d2 xx wz,St K qa qb cSave qd cNote qc H' M d2 fr xx wz/\KeptX (goX M.A M.L fr) H H'/\Nx M 1 0 ds x [] d2 xx wz/\nn=(if xx.fin=none then(x.given-xx.used).toNat+1 else 0)/\U'=[some (.ref M.R),some (.ref M.j),some (.ref fr.a),some (.int (es.length:Nat))],⟨_,d1,x,w1,S1,k1,n1,rfl,rfl⟩,?_⟩;rintro nn U' H2 ⟨d2,xx,wz,S2,k2,n2,rfl,rfl⟩;have F2:=S2.F;have hgx:xx.given=x.given:=Y3 (·.2.2.2.2.2.2.1) n2.hd;have hdx:xx.depth=x.depth:=Y3 (·.2.2.2.2.2.2.2.1) n2.hd;have q1:=n2.dl;have q2:=n2.wl;have q3:=n2.us;change (wz.length:Int)<=0+1+2*(xx.used-x.used)at q2;rcases id n2.en with⟨hf,fo2⟩|⟨⟨ee,hee,hle⟩,han⟩
  .have fl:(fldF fr xx).lookup (Str.ofString "end")=some V.non:=by show some (endV xx.fin)=_;rw[hf];rfl
   right;refine Zah F2.ob qe.k.cl qe.n_end fl ?_;right;refine⟨λU' H'=>∃m',m'<_/\_,λ_ _ h=>h,?_⟩;right;refine⟨M,d2,fr,xx,wz,rfl,S2,hf,fo2,(),⟨(),()⟩,(),λH3 d3 x3 w3 S3 k3 n3=>?_⟩;have r3:=n3.us;have r4:=n3.lt;right;refine⟨_,?_,d3,x3,w3,S3,k2.trans k3,n2.trans n3,rfl,rfl⟩;rw[if_pos hf];by_cases z:x3.fin=none
   .rw [if_pos z];have q:=Int.lt_of_add_one_le (r4 z);exact Nat.succ_lt_succ ((Int.toNat_lt_toNat (Int.sub_pos_of_lt (Int.lt_of_lt_of_le q (Int.le_trans r3.2 (Int.le_of_eq hgx))))).2 (Int.sub_lt_sub_left q _))
   .rw [if_neg z];exact Nat.succ_pos _
  .have fl:(fldF fr xx).lookup (Str.ofString "end")=some (V.str ee):=by show some (endV xx.fin)=_;rw[hee];rfl
   have hnf:xx.fin≠none:=by rw[hee];intro z;cases z
   right;refine Zah F2.ob qe.k.cl qe.n_end fl ?_;right;refine⟨rfl,?_⟩;rw[YD (show ¬V.str ee=V.non by intro z;cases z)];right;refine Zah F2.ob qe.k.cl qe.n_end fl ?_;walk_at"W'"
   .obtain ⟨es2,hes2,J2⟩:=S2.W.J;have hel2:es2.length=d2.length:=by rw[<- hes2,Ya]
    refine Zar J2.ob rfl ?_;right;have r2:=S2.W.r;have ri2:=S2.W.ri;rw[<- hes2]at r2 ri2;refine⟨M.j,M.dx,M.R,M.L,M.A,M.S0,_,es2,(es.length:Nat),rfl,J2,r2,ri2,(),λH3 k3 r3 ri3 J3=>?_⟩;have etk:(es2.take es.length).map (·.d)=ds:=by rw[Yb1,hes2,hel];exact(List.prefix_iff_eq_take.mp n2.pre).symm
    rw[Yt]at r3 ri3 J3;rw[etk]at r3 ri3;right;exact kk H3 ds xx wz ⟨⟨⟨_,etk,J3⟩,r3.tightP W.so W.pl,ri3,W.so,W.sf,W.pl⟩,F2.out S2.W.r ap J2.li k3,ap⟩ (k2.trans (ZuB k3)) ⟨Ybj,(),n2.wl,n2.hd,n2.us,n2.lt,n2.en⟩ hnf
   .exact kk H2 d2 xx wz S2 k2 n2 hnf
def go_no{qa qb cSave qd cNote qc:XB}(D:ZaC K mg "go" (top 107)):Cal P w K mg base 8 "go" (spGoL K qa qb cSave qd cNote qc 0):=
 Zax _ D (λ_ _ _ _ _ _ _ _ _ _ h=>by let⟨M,ds,f,x,_,_,h,hd,_⟩:=h;have:=h.fo.dep;omega) _ Zv3 (λvs H Q E h=>by let⟨M,ds,f,x,rfl,_⟩:=h;rfl) (by walk_at"b")
theorem ZuE{qa qb cSave qd cNote qc aC:XB}(tC3:TupK K aC ((["call","borrow","look"]:XN).map V.str))(qz:ZaC K mg "call_row" (top 104))(qe:T_Frame K mg qc)(ql:MCal P w K mg base 1 qc "left" (spLeft qc))(qf:MCal P w K mg base 1 qc "finish" (Zg2 qc))(qm:MCal P w K mg base 1 qc "tree" (spTree qc))(qk:MCal P w K mg base 1 qc "lay" (spLay qc))(qo:Cal P w K mg base 3 "other_call" (Zm8 K qc))(qg:Cal P w K mg base 2 "end_ahead_of_call" (Zka K qa qc))(qN:mg "min"=none)(qD:ZaC K mg "go_row" (top 105))(qr:Cal P w K mg base 3 "row_price" (ZfP K qa qc))(qu:Cal P w K mg base 6 "do_row" (spRow K qa qb cSave qd cNote qc WR))(qq:ZaM mg "CALLING" (.ref aC))(qP:ZaC K mg "go_on" (top 106))(qt:T_Account K mg qa)(qh:Cal P w K mg base 4 "end_ahead_of" (ZmT K qa qc))(qO:mg "len"=none)(zg:ZaC K mg "go" (top 107))(qy:T_Journal K mg qb)(qW:T_Move K mg qd)(qi:MCal P w K mg base 1 qb "mark" (spMark qb))(qB:ICal P w K mg base 1 "Move" qd (Zj1 qd))(qj:MCal P w K mg base 3 qb "back" (spBack K qa qb cSave qd cNote))(qp:Cal P w K mg base 4 "write_step" (Zey K qa qb cSave qd cNote qc)):∀n,Cal P w K mg base (4*n+8) "go" (spGoL K qa qb cSave qd cNote qc n)
 |0=>go_no zg
 |n+1=>
  have c:=ZuE tC3 qz qe ql qf qm qk qo qg qN qD qr qu qq qP qt qh qO zg qy qW qi qB qj qp n;have c1:=Zm9 (k:=4*n) (n:=n) qz qe ql qf qm qk qo qg (c) qN;have c2:=Zrx (k:=4*n) (n:=n) tC3 qD qe qr (c1) qu qq;have c3:=Ztr (k:=4*n) (n:=n) qP qt qe qf qh (c2) qO
  Zv4 (k:=4*n) (n:=n) zg qy qe qW qi qB qj qp (c3)
include Y
def goY:mY Y 48 "go" (spGoL K qa qb cSave qd cNote qc 10):=ZuE Y.c8 Y.c9 Y.a (Zfg Y) (Zcn Y) (Zfi Y) (Zbr Y) (Zkb Y) (Zd4 Y) Y.B Y.da (Zgu Y) (Zrt Y) Y.db Y.dc Y.c (ZhV Y) Y.d Y.dd Y.g Y.f (ZhQ Y) (ZgD Y) (ZdH Y) (Zc3 Y) 10
omit Y
inductive Zts(K:Ydg)(C cJ cS cM cN:XB)(vs:XF)(H:Hp)(Q:VK)(E9:XK):Prop
 |mk(M:MI)(ds:Xg)(s t:Nat)(coin word given:Int)(a b:AcI):vs=[.ref M.R,.ref M.j,.int (s:Int),.int (t:Int),.int coin,.int word,.int given]->Wd K C cJ cS cM cN H M ds->(s<16/\M.A s=some a)->(t<16/\M.A t=some b)->In64 coin->In64 word->coin<=(runS M.S0 ds s).coin->(0<=given/\given<=20000)->ds.length<=9->(∀p (e:Str) (an us:Int) v0 v1 v2 v3 v4 v5 v6 v9 H' ds',Wd K C cJ cS cM cN H' M ds'->KeptX (λb=>¬Out M.A b\/b=M.L) H H'->e.length<=10->In64 an->(0<=us/\us<=given)->(ds'.length:Int)<=ds.length+1+us->H' p=some (.tup [v0,v1,v2,v3,v4,v5,v6,.str e,.int an,.int us,v9])->Q (.ref p) H')->Zts K C cJ cS cM cN vs H Q E9
def Zn8:FnScope ["rooms","journal","caller","who","coin","word","given","frame"] ["rooms","journal","caller","who","coin","word","given"] (Zae (top 108)):=by walk_at"c"
include Y
def Ztt:mY Y 49 "enter" (Zts K qa qb cSave qd cNote):=by
 refine Zax _ Y.bi ?_ _ Zn8
 .symm;let⟨M,ds,s0,t0,coin,word,given,ac1,ac2,rfl,W,hs,ht,hc,hw,hco,hg,hdl,k⟩:=h;refine⟨_,(Zac (Zao (i:=7) Zn8.nd (ZgY (Zrr Y) (hr.mono nofun) rfl (Zaa Zav (Zaa (pv 3) (Zaa (pv 3) (Zaa (pv 2) (Zaa (pv 4) (Zaa (pv 5) (Wa (pv 6)))))))))) (Zac (Zay (Zam (goY Y) (Zaa (pv 0) (Zaa (pv 1) (Wa (pv 7)))))) (Wb (Zbn (Zfi Y) (hr.mono nofun) (pv 7))))),?_⟩;left;right;refine Zs5 ?_;right;intro a adx ha hadx hne;have ha2:(upd H adx (.own a)) a=none:=by rw[Zaj (YR hne)];exact ha
  have s1:Same H (upd (upd H adx (.own a)) a (.ins qc adx [])):=(Same.new hadx).newT ha2;refine⟨a,adx,"call",t0,t0,s0,coin,word,given,1,false,rfl,Zad,λST SS H1 hST hSS F1 k1=>?_⟩;have nf:NewF H ⟨a,adx,ST,SS⟩:=⟨ha,s1.fresh hST,s1.fresh hSS⟩;have sa:Same H H1:=λb o e=>k1 b o (s1 b o e) (Zai e ha);have W1:=W.same sa;refine⟨rfl,?_⟩;right;refine⟨M,ds,⟨a,adx,ST,SS⟩,_,rfl,⟨W1,F1,nf.ap W⟩,⟨⟨⟨t0,ac2,rfl,ht⟩,⟨t0,ac2,rfl,ht⟩,hc,hw,(λ_ z=>nomatch z),YO _,⟨Y9 0,hg.1⟩,⟨Y9 1,by show(1:Int)<=8;decide⟩,λi I _ hI=>hI.z,⟨0,rfl⟩⟩,rfl,rfl,λ_ _=>⟨s0,ac1,rfl,hs.1,hs.2,hco⟩⟩,by show(9:Int)<=1+10;decide,⟨by show(ds.length:Int)+1+(given-0)<=40000;omega,by show(0:Int)+2*(given-0)<=50000;omega⟩,hg.2,λH2 d2 y w2 S2 k2 n2 hf=>?_⟩;have kX:KeptX (λb=>¬Out M.A b\/b=M.L) H H2:=λb o e nb=>k2 b o (sa b o e) λz=>by
   rcases z with z|z|z
   .exact nb (.inl z)
   .exact nb (.inr z)
   .exact nf.not (by rw[e];intro q;cases q) z
  have F2:=S2.F;have q1:=n2.dl;have q3:=n2.us;change (d2.length:Int)<=ds.length+1+(y.used-0)at q1;change (0:Int)<=y.used/\y.used<=given at q3;rcases id n2.en with z|⟨⟨e,he,hle⟩,han⟩
  .exact absurd z.1 hf
  right;refine Zar F2.ob rfl ?_;refine⟨⟨a,adx,ST,SS⟩,y,_,rfl,F2,λp T H3 s3 hp hT e1 e2=>?_⟩;unfold treeV at e2;rw[he]at e2;exact k p e y.answer y.used _ _ _ _ _ _ _ _ H3 d2 (S2.W.same s3) (kX.trans s3.keptX) hle han q3 () e2
omit Y
noncomputable def Zba(r:Row):List Int:=[(firstAt WS r.1:Int),r.2.getD 0]
noncomputable def plainOf(n c p:Int)(rs:XW)(f:Xf)(L:XD):List Int:=[n,c,p,(rs.length:Int)]++rs.flatMap Zba++[(L.length:Int)]++L.flatMap λi=>[i,f i]
inductive spRowN(K:Ydg)(vs:XF)(H:Hp)(Q:VK)(E9:XK):Prop
 |mk(v:V)(r:Row):vs=[v]->RowAt K H r v->r.1∈WS->(∀p,H p=none->Q (.ref p) (upd H p (.lst ((Zba r).map V.int))))->spRowN K vs H Q E9
def Supp(f:Xf)(L:XD):Prop:=L.Pairwise (·<·)/\∀i,i∈L↔f i≠0
inductive Zv5(K:Ydg)(C:XB)(vs:XF)(H:Hp)(Q:VK)(E9:XK):Prop
 |mk(a dx pr st:XB)(c p n:Int)(rs:XW)(f:Xf)(m:Nat):vs=[.ref a]->AcAt K C H a dx pr st c p n rs f m->m<64->rs.length<=1000->(∀r∈rs,r.1∈WS)->(∀l L H',Same H H'->H l=none->Supp f L->L.length<64->H' l=some (.lst ((plainOf n c p rs f L).map V.int))->Q (.ref l) H')->Zv5 K C vs H Q E9
def Zv6{kvs:XU}{f:Xf}{ks ms:XD}(hn:(kvs.map (·.1)).Nodup)(hz:∀p∈kvs,∃i n:Int,p=(Sum.inl i,.int n)/\n≠0)(hf:∀i:Int,(valV kvs (Sum.inl i:Key)).getD (.int 0)=.int (f i))(hk:kvs.map (·.1)=ks.map Sum.inl)(hp:ms.Perm ks)(hs:ms.Pairwise (·<=·)):Supp f ms:=by
 have hkn:ks.Nodup:=by
  rw[hk]at hn;exact(YbX.mp hn).imp λh e=>h (by rw[e])
 refine⟨ZnI hs (hp.nodup_iff.mpr hkn),λi=>?_⟩;rw[hp.mem_iff];constructor
 .intro hi;have hm:(Sum.inl i:Key)∈kvs.map (·.1):=by rw[hk];exact YF.mpr ⟨i,hi,rfl⟩
  cases e:valV kvs (Sum.inl i:Key)with
  |none=>exact absurd hm (ZgT e)
  |some v=>
   let⟨j,n,e2,hn0⟩:=hz _ (Zj5 e);cases e2;have:=hf i;rw[e]at this;have e3:V.int n=V.int (f i):=this;cases e3;exact hn0
 .intro hi;cases e:valV kvs (Sum.inl i:Key)with
  |none=>
   have:=hf i;rw[e]at this;have e3:V.int 0=V.int (f i):=this;exact absurd (V.int.inj e3).symm hi
  |some v=>
   have hm:=Zu0 e;rw[hk]at hm;let⟨j,hj,e4⟩:=YF.mp hm;cases e4;exact hj
noncomputable def suppL(f:Xf):List Int:=open Classical in if h:∃L,Supp f L then h.choose else[]
def Zg5{f:Xf}{L:XD}(h:Supp f L):suppL f=L:=by
 unfold suppL;rw[dif_pos ⟨L,h⟩];have h2:=Exists.choose_spec (p:=λL=>Supp f L) ⟨L,h⟩;exact ZeX h2.1 h.1 λi=>(h2.2 i).trans (h.2 i).symm
noncomputable def plainS(s:AcS):List Int:=plainOf s.count s.coin s.purse s.rows s.store (suppL s.store)
def ZbH:FnScope ["self","numbers","row","place"] ["self"] (Zae (tQ 43 3)):=by walk_at"c"
include Y
def ZiE:mY Y 1 "row_numbers" (spRowN K):=by
 refine Zax ["row"] Y.bj ?_
 .symm;let⟨v,r,rfl,⟨t,rfl,hT⟩,hw,k⟩:=h;refine⟨_,(Zac (ZaG (Zas Zbf (Zau ZaN rfl Y.d Ys (Wa (pv 0))) Zag) (Wb (ZaI (Zaa (Zbj Ydf Yde Ydd Zlm (ZaW rfl Y.t) (Wa (Zaq ZaK (pv 0) Zag))) (Wa Zag)))) Zat) (Wb (ZaI (Zaa (Zbj Ydf Yde Ydd Zlm (ZaW rfl Y.t) (Wa (Zaq ZaK (pv 0) Zag))) (Wa (Zaq ZaK (pv 0) Zag)))))),?_⟩;left;let⟨wd,o⟩:=r;let⟨i1,i2⟩:=Zes (show wd∈WS from hw);cases o with
  |none=>
   have hT:SqT K H t [.str wd]:=hT;walk_at"K'"
   .refine ⟨Zuv Y.y,?_⟩;exists Zln (Y.q.sqt H) i1 i2 ?_;ext;exact⟨show 2<=sizeLine by decide,k⟩
   .rename_i h0;exact absurd (show((1:Int)=1)from rfl) h0
  |some n=>
   have hT:SqT K H t [.str wd,.int n]:=hT;walk_at"K'"
   .rename_i h0;exact absurd h0 (by show ¬((2:Int)=1);decide)
   .refine ⟨Zuv Y.y,?_⟩;exists Zln (Y.q.sqt H) i1 i2 ?_;ext;exact⟨show 2<=sizeLine by decide,k⟩
def ZgI:iY Y 2 qa "plain" (Zv5 K qa):=by
 refine ZaE _ Y.bk Y.c.k.cl ?_ _ ZbH
 .symm;let⟨a,dx,pr,st,c,p,n,rs,fn,m,rfl,A,hm,hrl,hrw,k⟩:=h;refine⟨_,(Zac (Zao (i:=1) ZbH.nd (ZaI (Zaa (Zap (pv 0)) (Zaa (Zap (pv 0)) (Zaa (Zap (pv 0)) (Wa (Zau ZaN rfl Y.d Ys (Wa (Zap (pv 0)))))))))) (Zac (ZbQ YV rfl (Zbc (Zap (pv 0))) (ZaU (i:=2) ZbH.nd) (Zaf (Zay (Zbj Yy YbU YbT Zhj (pv 1) (Wa (Zam (ZiE Y) (Wa (pv 2)))))))) (Zac (Zay (Zbj Yy YI YH ZaT (pv 1) (Wa (Zau Zp3 rfl Y.d Ys (Wa (Zap (pv 0))))))) (Zac (ZbQ YV rfl (Zbc (Zau (ZqD rfl) rfl Y.r Ybf (Wa (Zap (pv 0))))) (ZaU (i:=3) ZbH.nd) (Zaf (Zay (Zbj Yy YbU YbT Zhj (pv 1) (Wa (ZaI (Zaa (pv 3) (Wa (ZuY (Zp2 hr) (Zap (pv 0)) (pv 3) (λ_ _=>rfl)))))))))) (Wb (pv 1)))))),?_⟩;left;let⟨xs,hpr,hR⟩:=A.pg;let⟨kvs,hst,hkl,hkn,hkz,hkf⟩:=A.sto;let⟨ks,hks⟩:=Zg3 kvs hkz;have hkl2:ks.length=kvs.length:=by
   have:=Y3 List.length hks;rw[Ya,Ya]at this;exact this.symm
  have hxl:xs.length=rs.length:=hR.1.symm;exists Zah A.ob Y.c.k.cl Y.c.n_count rfl ?_;exists Zah A.ob Y.c.k.cl Y.c.n_coin rfl ?_;exists Zah A.ob Y.c.k.cl Y.c.n_purse rfl ?_;exists Zah A.ob Y.c.k.cl Y.c.n_program rfl ?_;refine Zhm ?_;refine Zvo (Zal hpr) hxl ?_;refine Zhm ?_;refine⟨show 4<=sizeLine by decide,λl hl=>?_⟩;have sz:=YcA;have s1:=Same.new hl (o:=.lst [.int n,.int c,.int p,.int rs.length]);have hl1:(upd H l (.lst [.int n,.int c,.int p,.int rs.length])) l=some (.lst (([n,c,p,(rs.length:Int)]++(rs.take 0).flatMap Zba).map V.int)):=Zad;generalize upd H l _=H1 at s1 hl1;exists ZbT (ZaY ?_);exists Zah (s1 _ _ A.ob) Y.c.k.cl Y.c.n_program rfl ?_;have fl:∀i:Nat,i<=rs.length->((rs.take i).flatMap Zba).length=2*i:=λi hi=>by
   rw[Ycs];have:(rs.take i).map (λx=>(Zba x).length)=List.replicate i 2:=by
    apply List.eq_replicate_iff.mpr;exact⟨by rw[Ya,YN];omega,λb hb=>by let⟨x,_,rfl⟩:=YF.mp hb;rfl⟩
   rw[this,List.sum_replicate_nat];omega
  refine⟨pr,rfl,⟨_,Zal (s1 _ _ hpr)⟩,ZbF (xs:=xs) (λi U' H'=>Same H H'/\H' l=some (.lst (([n,c,p,(rs.length:Int)]++(rs.take i).flatMap Zba).map V.int))/\∃v2 v3,U'=[some (.ref a),some (.ref l),v2,v3]) ⟨s1,hl1,_,_,rfl⟩ (λi U' H' _ ⟨e,_⟩=>Zal (e _ _ hpr)) ?_ ?_⟩
  .rintro i x U' H' hx ⟨s2,hl2,v2,v3,rfl⟩;have hi:i<rs.length:=by rw[<- hxl];exact(Yf.mp hx).1
   have hri:rs[i]?=some rs[i]:=Yd hi;exists⟨Za9 (Zal hl2),?_⟩;exists⟨x,rs[i],rfl,(hR.2 i _ x hri hx).keep s2.imm,hrw _ (Yad hi),λq hq=>?_⟩;ext;have hlq:l≠q:=Zai hl2 hq;refine Zhs (xs:=(([n,c,p,(rs.length:Int)]++(rs.take i).flatMap Zba).map V.int)) (zs:=(Zba rs[i]).map V.int) (by rw[Zaj hlq];exact hl2) Zad (by rw[Ya,Ya,Yc,fl i ()];show 4+2*i+2<=_;omega) ?_;refine⟨(s2.newT hq).wr hl,?_,_,_,rfl⟩;rw[Zad,Ym hi,YbI,<- YA,YQ];simp[YaA]
  .rintro U' H' ⟨s2,hl2,v2,v3,rfl⟩;rw[hxl,YK]at hl2;have fl':=fl rs.length (Yk _);rw[YK]at fl';generalize hB:[n,c,p,(rs.length:Int)]++rs.flatMap Zba=B at hl2;have hBl:B.length<=2004:=by rw[<- hB,Yc,fl'];show 4+2*rs.length<=_;omega
   exists⟨Za9 (Zal hl2),?_⟩;exists Zah (s2 _ _ A.ob) Y.c.k.cl Y.c.n_store rfl ?_;refine Zhm ?_;refine⟨st,kvs,rfl,s2 _ _ hst,?_⟩;refine Zhm ?_;refine ZaZ hl2 (by rw[Ya];omega) ?_;have e1:B.map V.int++[V.int kvs.length]=(B++[(kvs.length:Int)]).map V.int:=by rw[YA];rfl
   rw[e1];have s3:=s2.wr hl (o:=.lst ((B++[(kvs.length:Int)]).map V.int));have hl3:(upd H' l (.lst ((B++[(kvs.length:Int)]).map V.int))) l=some (.lst ((B++[(kvs.length:Int)]).map V.int)):=Zad;generalize upd H' l _=H3 at s3 hl3;dsimp only;exists ZbT (ZaY ?_);exists Zah (s3 _ _ A.ob) Y.c.k.cl Y.c.n_store rfl ?_;refine Zhm ?_;refine ZoN (s3 _ _ hst) hks () λms hpm hsm q hq=>?_;have SU:=Zv6 hkn hkz hkf hks hpm hsm;have hml:ms.length=kvs.length:=by rw[hpm.length_eq,hkl2]
   have hlq:l≠q:=Zai hl3 hq;have hq0:H q=none:=s3.fresh hq;have s4:=s3.newT hq (o:=.lst (ms.map V.int));have hq4:(upd H3 q (.lst (ms.map V.int))) q=some (.lst (ms.map V.int)):=Zad;have hl4:(upd H3 q (.lst (ms.map V.int))) l=some (.lst ((B++[(kvs.length:Int)]++(ms.take 0).flatMap λi=>[i,fn i]).map V.int)):=by rw[Zaj hlq,YbP,List.flatMap_nil,YZ];exact hl3
   generalize upd H3 q _=H4 at s4 hq4 hl4;have fm:∀i:Nat,i<=ms.length->((ms.take i).flatMap λi=>[i,fn i]).length=2*i:=λi hi=>by
    rw[Ycs];have:(ms.take i).map (λx=>([x,fn x]:XD).length)=List.replicate i 2:=by
     apply List.eq_replicate_iff.mpr;exact⟨by rw[Ya,YN];omega,λb hb=>by let⟨x,_,rfl⟩:=YF.mp hb;rfl⟩
    rw[this,List.sum_replicate_nat];omega
   refine⟨q,rfl,⟨_,Zal hq4⟩,ZbF (xs:=ms.map V.int) (λi U' H'=>Same H H'/\H' q=some (.lst (ms.map V.int))/\H' l=some (.lst ((B++[(kvs.length:Int)]++(ms.take i).flatMap λi=>[i,fn i]).map V.int))/\∃v2 v3,U'=[some (.ref a),some (.ref l),v2,v3]) ⟨s4,hq4,hl4,_,_,rfl⟩ (λi U' H' _ ⟨_,e,_⟩=>Zal e) ?_ ?_⟩
   .rintro i x U' H' hx ⟨s5,hq5,hl5,v2,v3,rfl⟩;rw[Yb]at hx;let⟨pl,hpl,rfl⟩:=Yu.mp hx;let⟨hi,ei⟩:=Yf.mp hpl;have hf0:=(SU.2 pl).mp (Yn hpl);have hv:valV kvs (Sum.inl pl:Key)=some (.int (fn pl)):=by
     have:=hkf pl;cases e:valV kvs (Sum.inl pl:Key)with
     |none=>
      rw[e]at this;exact absurd (V.int.inj (show V.int 0=V.int (fn pl)from this)).symm hf0
     |some v=>
      rw[e]at this;exact Y3 some this
    exists⟨Za9 (Zal hl5),?_⟩;exists Zah (s5 _ _ A.ob) Y.c.k.cl Y.c.n_store rfl ?_;exists⟨st,.int (fn pl),rfl,?_,?_⟩
    .have:=DGet.k (k:=Sum.inl pl) (s5 _ _ hst);rw[hv]at this;exact this
    exists⟨show 2<=sizeLine by decide,λz hz=>?_⟩;ext;have hlz:l≠z:=Zai hl5 hz;have hqz:q≠z:=Zai hq5 hz;refine Zhs (xs:=((B++[(kvs.length:Int)]++(ms.take i).flatMap λi=>[i,fn i]).map V.int)) (zs:=[.int pl,.int (fn pl)]) (by rw[Zaj hlz];exact hl5) Zad (by rw[Ya,Yc,Yc,fm i ()];show B.length+1+2*i+2<=_;omega) ?_;refine⟨(s5.newT hz).wr hl,by rw[Zaj (YR hlq),Zaj hqz];exact hq5,?_,_,_,rfl⟩;rw[Zad,Ym hi,ei,YbI,<- YQ,YA (l₂:=[pl].flatMap _)];rfl
   .rintro U' H' ⟨s5,hq5,hl5,v2,v3,rfl⟩;rw[Ya,YK]at hl5;exists k l ms H' s5 hl SU () ?_;rw[hl5,<- hB,<- hml];rfl
omit Y
noncomputable def mixOf(a b:Int):Int:=(998244353*a+1000000007*b+97)%2305843009213693951
noncomputable def ZbV(ns:XD):Int:=mixOf (ns.foldl mixOf 1) ns.length
def spMix:Sp:=λvs H Q _=>∃a b,vs=[.int a,.int b]/\Q (.int (mixOf a b)) H
def Zv7(K:Ydg):Sp:=λvs H Q _=>∃p ns,vs=[.ref p]/\SqL K H p (ns.map V.int)/\ns.length<1000/\∀H',Same H H'->Q (.int (ZbV ns)) H'
def Zry(ns:XD)(i:Nat)(n:Int)(h:ns[i]?=some n):(ns.take (i+1)).foldl mixOf 1=mixOf ((ns.take i).foldl mixOf 1) n:=by
 let⟨hi,e⟩:=Yf.mp h;rw[Ym hi,e,YbY];rfl
def PrAt(H:Hp)(ts:Xa)(ps:List (Int×Int)):Prop:=ts.length=ps.length/\∀(i:Nat) t,ts[i]?=some t->∃a b,ps[i]?=some (a,b)/\H t=some (.tup [.int a,.int b])
def PrAt.nil{H:Hp}:PrAt H [] []:=⟨rfl,λi t h=>by simp at h⟩
def PrAt.snoc{H:Hp}{ts:Xa}{ps:List (Int×Int)}{l p:XB}{xs:XF}{a b:Int}{o:HO}(h:PrAt H ts ps)(hl:H l=some (.lst xs))(hp:H p=none):PrAt (upd (upd H p (.tup [.int a,.int b])) l o) (ts++[p]) (ps++[(a,b)]):=by
 refine⟨by simp[h.1],λi t ht=>?_⟩;have hlp:l≠p:=Zai hl hp;by_cases hi:i<ts.length
 .rw [YX hi]at ht;let⟨a',b',e1,e2⟩:=h.2 i t ht;refine⟨a',b',by rw[YX (by rw[<- h.1];exact hi)];exact e1,?_⟩;rw[Zaj (Za3 e2 hl nofun),Zaj (Zai e2 hp)];exact e2
 .have hi2:i=ts.length:=by
   have:=(Yf.mp ht).1;simp at this;omega
  subst hi2;rw[Yv (Yk _),Yam]at ht;cases ht;refine⟨a,b,by rw[h.1,Yv (Yk _),Yam];rfl,?_⟩;rw[Zaj (YR hlp)];exact Zad
noncomputable def Zbs(ns:XD)(i:Nat):List (Int×Int):=(List.range i).map λj=>((ns.take j).foldl mixOf 1,ns.getD j 0)
noncomputable def ZdX(ns:XD):List (Int×Int):=Zbs ns ns.length++[(ns.foldl mixOf 1,(ns.length:Int))]
def ZiF(ns:XD)(i:Nat)(n:Int)(h:ns[i]?=some n):Zbs ns (i+1)=Zbs ns i++[((ns.take i).foldl mixOf 1,n)]:=by
 unfold Zbs;rw[Ycf,YA,Ybl];simp[List.getD,h]
def Zv8(K:Ydg):Sp:=λvs H Q _=>∃p ns,vs=[.ref p]/\SqL K H p (ns.map V.int)/\ns.length<1000/\∀l ts H',Same H H'->H l=none->(∀t∈ts,H t=none)->H' l=some (.lst (ts.map V.ref))->PrAt H' ts (ZdX ns)->Q (.ref l) H'
noncomputable def pairs(r:XD):List Int:=(List.range (r.length/2)).map λj=>mixOf (r.getD (2*j) 0) (r.getD (2*j+1) 0)
noncomputable def lvl:Nat->List Int->List Int
 |0,ns=>ns
 |k+1,ns=>pairs (lvl k ns)
def Zfn(r:XD):(pairs r).length=r.length/2:=by simp[pairs]
theorem ZdI{e:Nat}{ns:XD}(h:ns.length=2^e):∀k,k<=e->(lvl k ns).length=2^(e-k)
 |0,_=>h
 |k+1,hk=>by
  show(pairs (lvl k ns)).length=_;rw[Zfn,ZdI h k (),show e-k=e-(k+1)+1 by omega,YaV,Nat.mul_div_cancel _ nofun]
structure LvAt(H:Hp)(p:XB)(qs:Xa)(e:Nat)(ns:XD):Prop where
 ob:H p=some (.lst (qs.map V.ref))
 ln:qs.length=e+1
 rw_:∀(k:Nat)(q:XB),qs[k]?=some q->H q=some (.lst ((lvl k ns).map V.int))
inductive spNext(K:Ydg)(vs:XF)(H:Hp)(Q:VK)(E9:XK):Prop
 |mk(p:XB)(ns:XD)(m:Nat):vs=[.ref p]->SqL K H p (ns.map V.int)->ns.length=2*m->ns.length<=1000->(∀l,H l=none->Q (.ref l) (upd H l (.lst ((pairs ns).map V.int))))->spNext K vs H Q E9
inductive Ztu(K:Ydg)(vs:XF)(H:Hp)(Q:VK)(E9:XK):Prop
 |mk(p:XB)(ns:XD)(e:Nat):vs=[.ref p]->SqL K H p (ns.map V.int)->ns.length=2^e->e<=6->(∀q qs H',Same H H'->H q=none->(∀x∈qs,H x=none)->(q::qs).Nodup->LvAt H' q qs e ns->Q (.ref q) H')->Ztu K vs H Q E9
def Ztv{ns:XD}{i:Nat}(h:2*i+1<ns.length):(pairs ns)[i]?=some (mixOf (ns[2*i]'()) (ns[2*i+1])):=by
 unfold pairs;rw[Yb,Y0 ()];show some (mixOf (ns.getD (2*i) 0) (ns.getD (2*i+1) 0))=_;rw[YB,YB,Yd (by omega:2*i<ns.length),Yd h];rfl
def Zpa{α:Type}{q t:α}{qs:List α}(h:(q::qs).Nodup)(h1:t≠q)(h2:t∉qs):(q::(qs++[t])).Nodup:=by
 rw[YT]at h |-;refine⟨λz=>?_,?_⟩
 .rcases Yw.mp z with z|z
  .exact h.1 z
  .exact h1 (Ye.mp z).symm
 .rw [List.nodup_append];refine⟨h.2,by simp,λa ha b hb e=>?_⟩;rw[Ye.mp hb]at e;exact h2 (e▸ha)
def ZbD:FnScope ["numbers","pairs","now","number"] ["numbers"] (Zae (top 112)):=by walk_at"c"
def Zn9:FnScope ["numbers","last"] ["numbers"] (Zae (top 113)):=by walk_at"c"
def ZlV:FnScope ["leaves","found"] ["leaves"] (Zae (top 115)):=by walk_at"c"
include Y
def Zjt:mY Y 1 "mix" spMix:=by
 refine Zax ["one","other"] Y.bl ?_
 .symm;let⟨a,b,rfl,k⟩:=h;refine⟨_,(Wb (Zaw ZaR (Zaw Za0 (Zaw Za0 (Zaw Zda Zag (pv 0)) (Zaw Zda Zag (pv 1))) Zag) (ZaW rfl Y.bm))),?_⟩;left;repeat' walk_at"rdk"
  exact k
def ZiG:mY Y 2 "stamp_pairs" (Zv8 K):=by
 refine Zax _ Y.bn ?_ _ ZbD
 .symm;let⟨p,ns,rfl,hl,hlen,k⟩:=h;refine⟨_,(Zac (Zao (i:=1) ZbD.nd (ZaI Zab)) (Zac (Zao (i:=2) ZbD.nd Zag) (Zac (ZbQ YV rfl (Zbc (pv 0)) (ZaU (i:=3) ZbD.nd) (Zac (Zay (Zbj Yy YI YH ZaT (pv 1) (Wa (ZaH (Zaa (pv 2) (Wa (pv 3))))))) (Zaf (Zao (i:=2) ZbD.nd (Zam (Zjt Y) (Zaa (pv 2) (Wa (pv 3)))))))) (Zac (Zay (Zbj Yy YI YH ZaT (pv 1) (Wa (ZaH (Zaa (pv 2) (Wa (Zau ZaN rfl Y.d Ys (Wa (pv 0))))))))) (Wb (pv 1)))))),?_⟩;left;repeat walk_at"rdk"
  refine⟨nofun,λl hl0=>?_⟩;repeat walk_at"rdk"
  refine ZbT (ZaY ?_);repeat walk_at"rdk"
  refine⟨p,rfl,⟨_,hl.updN hl0⟩,ZbF (xs:=ns.map V.int) (λi U' H'=>Same H H'/\(∃ts,H' l=some (.lst (ts.map V.ref))/\(∀t∈ts,H t=none)/\PrAt H' ts (Zbs ns i))/\∃v,U'=[some (.ref p),some (.ref l),some (.int ((ns.take i).foldl mixOf 1)),v]) ⟨Same.new hl0,⟨[],Zad,by simp,PrAt.nil⟩,_,rfl⟩ (λi U' H' _ ⟨e,_⟩=>e.seq hl) ?_ ?_⟩
  .rintro i x U' H' hx ⟨sm,⟨ts,hts,hfr,hpr⟩,v,rfl⟩;rw[Yb]at hx;let⟨n,hn,rfl⟩:=Yu.mp hx;have hi:i<ns.length:=(Yf.mp hn).1;have htl:ts.length=i:=by rw[hpr.1];unfold Zbs;simp
   repeat walk_at"rdk"
   refine⟨Za9 (Zal hts),?_⟩;repeat walk_at"rdk"
   refine⟨show 2<=sizeLine by decide,λq hq=>?_⟩;repeat walk_at"rdk"
   have hq0:H q=none:=sm.fresh hq;have hlq:l≠q:=Zai hts hq;refine ZaZ (xs:=ts.map V.ref) (by rw[Zaj hlq];exact hts) (by rw[Ya];exact Y4 (YcG htl) (Ybg hi (Ybg hlen nofun))) ?_;repeat walk_at"rdk"
   refine⟨_,_,rfl,?_⟩;repeat walk_at"rdk"
   refine⟨(sm.newT hq).wr hl0,⟨ts++[q],by rw[Zad,YA];rfl,?_,?_⟩,_,by rw[Zry ns i n hn]⟩
   .intro t ht;rcases Yw.mp ht with z|z
    .exact hfr t z
    .rw [Ye.mp z];exact hq0
   .rw [ZiF ns i n hn];exact hpr.snoc hts hq
  .rintro U' H' ⟨sm,⟨ts,hts,hfr,hpr⟩,v,rfl⟩;rw[Ya]at hpr |-;have htl:ts.length=ns.length:=by rw[hpr.1];unfold Zbs;simp
   have hl2:=sm.seq hl;repeat walk_at"rdk"
   refine⟨Za9 (Zal hts),?_⟩;repeat walk_at"rdk"
   refine⟨show 2<=sizeLine by decide,λq hq=>?_⟩;repeat walk_at"rdk"
   have hq0:H q=none:=sm.fresh hq;have hlq:l≠q:=Zai hts hq;refine ZaZ (xs:=ts.map V.ref) (by rw[Zaj hlq];exact hts) (by rw[Ya,htl];exact Ybg hlen nofun) ?_;repeat walk_at"rdk"
   refine k l (ts++[q]) _ ((sm.newT hq).wr hl0) hl0 ?_ (by rw[Zad,YA];rfl) ?_
   .intro t ht;rcases Yw.mp ht with z|z
    .exact hfr t z
    .rw [Ye.mp z];exact hq0
   .unfold ZdX;rw[YK,Ya];exact hpr.snoc hts hq
def Zke:mY Y 3 "stamp" (Zv7 K):=by
 refine Zax _ Y.bo ?_ _ Zn9
 .symm;let⟨p,ns,rfl,hl,hlen,k⟩:=h;refine⟨_,(Zac (Zao (i:=1) Zn9.nd (Zaq Zan (Zam (ZiG Y) (Wa (pv 0))) (ZfB ZcN Zag))) (Wb (Zam (Zjt Y) (Zaa (Zaq ZaK (pv 1) Zag) (Wa (Zaq ZaK (pv 1) Zag)))))),?_⟩;left;repeat walk_at"rdk"
  refine⟨p,ns,rfl,hl,hlen,λl ts H' sm hl0 hfr hts hpr=>?_⟩;have e2:ts.length=ns.length+1:=by rw[hpr.1];unfold ZdX Zbs;simp
  obtain⟨t,ht⟩:∃t,ts[ns.length]?=some t:=⟨ts[ns.length]'(),by simp⟩;let⟨a,b,e3,e4⟩:=hpr.2 _ t ht;have e5:(a,b)=(ns.foldl mixOf 1,(ns.length:Int)):=by
   unfold ZdX at e3;rw[Yv (by unfold Zbs;simp)]at e3;have e6:ns.length-(Zbs ns ns.length).length=0:=by unfold Zbs;simp
   rw[e6]at e3;cases e3;rfl
  cases e5;repeat walk_at"rdk"
  refine ZaA (Zal hts) (ZjK (n:=ns.length) (v:=.ref t) (by rw[Yb,ht];rfl) (by rw[Ya,e2])) ?_;repeat walk_at"rdk"
  refine⟨_,_,rfl,?_⟩;exact k H' sm
def Zkf:mY Y 2 "next_level" (spNext K):=by
 refine Zax ["level"] Y.bp ?_
 .symm;let⟨p,ns,m,rfl,hl,hm,hlen,k⟩:=h;refine⟨_,(Wb (ZbJ ["k"] rfl (show CompScope (Zae (top 114)) ["level"] ["k"] _ by walk_at"p") (Zhp rfl Y.k (Zaa Zag (Zaa (Zaw ZeO (Zau ZaN rfl Y.d Ys (Wa (pv 0))) Zag) (Wa Zag)))) (λ_ _ _ _ _=>(Zbi (i:=0) (show(["k","level"]:XN).Nodup by decide +kernel) rfl (Or.inl rfl) (.inr rfl))) (λ_ _ _ _ _=>ZbI) (λ_ _ _ _ _=>(Zam (Zjt Y) (Zaa (Zaq (show IxR _ (rIxL K)from Zan) (pv 1) (pv 0)) (Wa (Zaq (show IxR _ (rIxL K)from Zan) (pv 1) (Zaw Za0 (pv 0) Zag)))))))),?_⟩;left;have hll:(((ns.map V.int).length:Nat):Int)=2*(m:Int):=by rw[Ya,hm];omega
  walk_at"M";refine Zbk (ZjL ?_);walk_at"M";have et:twos 0 (((ns.map V.int).length:Nat)-1)=m:=by unfold twos;omega
  refine⟨_,_,rfl,⟨(),(),(),()⟩,λq hq=>?_⟩;rw[et];refine Zmz (ys:=(pairs ns).map V.int) hq (by rw[Ya,Zfn];omega) (Yj (show m<=1000 by omega) nofun) ?_ ?_
  .intro i y H' Q' hi hy sm q';have hp2:=Ztv (ns:=ns) (i:=i) ();rw[Yb,hp2]at hy;cases hy;have hl':=sm.seq hl;walk_at"M";refine ZaA hl' (ZaL (i:=2*i) (v:=.int (ns[2*i]'())) (by rw[Yb,Yd];rfl) ()) ?_;walk_at"M";refine ZaA hl' (ZaL (i:=2*i+1) (v:=.int (ns[2*i+1]'())) (by rw[Yb,Yd];rfl) ()) ?_;walk_at"M";exact⟨_,_,rfl,q'⟩
  .walk_at"M";exact k q hq
def Zrz:mY Y 3 "levels" (Ztu K):=by
 refine Zax _ Y.bq ?_ _ ZlV
 .symm;let⟨p,ns,e,rfl,hl,hn,he,k⟩:=h;refine⟨_,(Zac (Zao (i:=1) ZlV.nd (ZaI (Wa (ZaJ ZjJ rfl Y.m YaQ (Wa (pv 0)))))) (Zac (ZjA YV (Zas ZfE (Zau ZaN rfl Y.d Ys (Wa (Zaq Zan (pv 1) (ZfB ZcN Zag)))) Zag) (Zaf (Zay (Zbj Yy YI YH ZaT (pv 1) (Wa (Zam (Zkf Y) (Wa (Zaq Zan (pv 1) (ZfB ZcN Zag))))))))) (Wb (pv 1)))),?_⟩;left;walk_at"M";rename_i l hl0;refine⟨show 1<=sizeLine by decide,λq hq=>?_⟩;walk_at"M";have hql:l≠q:=Zai (Zad (H:=H) (a:=l)) hq;have hq0:H q=none:=(Same.new hl0).fresh hq;refine⟨λm U' H'=>∃(j:Nat)(qs:Xa),m=e-j/\j<=e/\U'=[some (.ref p),some (.ref q)]/\Same H H'/\(∀x∈qs,H x=none)/\(q::qs).Nodup/\LvAt H' q qs j ns,⟨e,0,[l],rfl,YO _,rfl,(Same.new hl0).newT hq,?_,?_,?_⟩,?_⟩
  .intro x hx;rw[Ye.mp hx];exact hl0
  .simp [YR hql]
  .refine ⟨Zad,rfl,λj x hx=>?_⟩;have hj:j=0:=by
    have:=(Yf.mp hx).1;simp at this;exact this
   subst hj;cases hx;rw[Zaj hql];exact Zad
  rintro m U' H' ⟨j,qs,rfl,hj,rfl,sm,hfr,hnd,L⟩;obtain⟨t,ht⟩:∃t,qs[j]?=some t:=⟨qs[j]'(by rw[L.ln];omega),Yd _⟩;have htr:=L.rw_ j t ht;have hln:=ZdI hn j hj;have hp:(2:Nat)^(e-j)<=64:=Yj (Nat.pow_le_pow_right nofun (show e-j<=6 by omega)) nofun;have hlast:atI (qs.map V.ref) (-1)=some (.ref t):=ZjK (n:=j) (by rw[Yb,ht];rfl) (by rw[Ya,L.ln]);have hsq:SqL K H' t ((lvl j ns).map V.int):=Zal htr;walk_at"M";refine ZaA (Zal L.ob) hlast ?_;repeat' walk_at"rdk"
  .rename_i hlt;rw[Ya,hln]at hlt;have hje:j<e:=by
    rcases YaW j e with z|z
    .exact z
    .rw [show e-j=0 by omega]at hlt;simp at hlt
   have h2:(lvl j ns).length=2*2^(e-(j+1)):=by rw[hln,show e-j=e-(j+1)+1 by omega,YaV,Ybu]
   refine⟨λU2 H2=>∃(qs:Xa),U2=[some (.ref p),some (.ref q)]/\Same H H2/\(∀x∈qs,H x=none)/\(q::qs).Nodup/\LvAt H2 q qs (j+1) ns,λU2 H2 ⟨qs2,h⟩=>⟨e-(j+1),Nat.sub_lt_sub_left hje (Nat.lt_succ_self j),j+1,qs2,rfl,(),h⟩,?_⟩;walk_at"M";refine⟨Za9 (Zal L.ob),?_⟩;walk_at"M";refine ZaA (Zal L.ob) hlast ?_;walk_at"M";refine⟨t,lvl j ns,2^(e-(j+1)),rfl,hsq,h2,by rw[hln];omega,λr hr=>?_⟩;walk_at"M";have hqr:q≠r:=Zai L.ob hr;refine ZaZ (xs:=qs.map V.ref) (by rw[Zaj hqr];exact L.ob) (by rw[Ya,L.ln];exact YS (show j+1<64 by omega) nofun) ?_;walk_at"M";have hr0:H r=none:=sm.fresh hr;refine⟨qs++[r],rfl,(sm.newT hr).wr hq0,?_,?_,?_⟩
   .intro x hx;rcases Yw.mp hx with z|z
    .exact hfr x z
    .rw [Ye.mp z];exact hr0
   .refine Zpa hnd (YR hqr) λz=>?_;let⟨i,hi⟩:=List.getElem?_of_mem z;rw[L.rw_ i r hi]at hr;cases hr
   .refine ⟨by rw[Zad,YA];rfl,by rw[Yc,L.ln];rfl,λi x hx=>?_⟩;by_cases hi:i<qs.length
    .rw [YX hi]at hx;have hxq:x≠q:=λz=>(YT.mp hnd).1 (z▸Yn hx);have hxr:=L.rw_ i x hx;rw[Zaj hxq,Zaj (Zai hxr hr)];exact hxr
    .have hi2:i=qs.length:=by
      have:=(Yf.mp hx).1;simp at this;omega
     subst hi2;rw[Yv (Yk _),Yam]at hx;cases hx;rw[Zaj (YR hqr),Zad,L.ln];rfl
  .rename_i hlt;rw[Ya,hln]at hlt;have hje:j=e:=by
    rcases YaW j e with z|z
    .have:(2:Nat)^1<=2^(e-j):=Nat.pow_le_pow_right nofun ();omega
    .omega
   subst hje;walk_at"M";exact k q qs H' sm hq0 hfr hnd L
omit Y
noncomputable def nbN(i:Nat):Nat:=if i%2=0 then i+1 else i-1
noncomputable def wayOf(ns:XD)(e i:Nat):List Int:=(List.range e).map λk=>(lvl k ns).getD (nbN (i/2^k)) 0
def ZcU(ns:XD)(e i:Nat):(wayOf ns e i).length=e:=by simp[wayOf]
structure StAt(C:XB)(H:Hp)(a dx q:XB)(qs:Xa)(e:Nat)(ns:XD):Prop where
 ob:H a=some (.ins C dx [("kept",.ref q)])
 nd:(q::qs).Nodup
 lv:LvAt H q qs e ns
def StAt.keep{C:XB}{H H':Hp}{a dx q:XB}{qs:Xa}{e:Nat}{ns:XD}(h:StAt C H a dx q qs e ns)(s:Same H H'):StAt C H' a dx q qs e ns:=⟨s _ _ h.ob,h.nd,⟨s _ _ h.lv.ob,h.lv.ln,λk x hx=>s _ _ (h.lv.rw_ k x hx)⟩⟩
def spNb:Sp:=λvs H Q _=>∃i:Nat,vs=[.int i]/\Q (.int (nbN i)) H
inductive Zv9(K:Ydg)(C:XB)(vs:XF)(H:Hp)(Q:VK)(E9:XK):Prop
 |mk(a dx p:XB)(ns:XD)(e:Nat):vs=[.ref a,.ref p]->H a=some (.ins C dx [])->SqL K H p (ns.map V.int)->ns.length=2^e->e<=6->(∀q qs H',(∀b o,H b=some o->b≠a->H' b=some o)->H q=none->(∀x∈qs,H x=none)->StAt C H' a dx q qs e ns->Q .non H')->Zv9 K C vs H Q E9
inductive spTop(C:XB)(vs:XF)(H:Hp)(Q:VK)(E9:XK):Prop
 |mk(a dx q:XB)(qs:Xa)(e:Nat)(ns:XD):vs=[.ref a]->StAt C H a dx q qs e ns->ns.length=2^e->Q (.int ((lvl e ns).getD 0 0)) H->spTop C vs H Q E9
inductive spWay(C:XB)(vs:XF)(H:Hp)(Q:VK)(E9:XK):Prop
 |mk(a dx q:XB)(qs:Xa)(e:Nat)(ns:XD)(i:Nat):vs=[.ref a,.int i]->StAt C H a dx q qs e ns->ns.length=2^e->e<=6->i<2^e->(∀l H',Same H H'->H l=none->H' l=some (.lst ((wayOf ns e i).map V.int))->Q (.ref l) H')->spWay C vs H Q E9
def nb_lt{i m:Nat}(h:i<2*m):nbN i<2*m:=by
 unfold nbN;split
 .omega
 .exact Nat.lt_of_le_of_lt (Nat.sub_le _ _) h
def Zna{i e j:Nat}(h:i<2^e)(hj:j<=e):i/2^j<2^(e-j):=by
 rw[Nat.div_lt_iff_lt_mul (Nat.pow_pos nofun),<- Nat.pow_add];rw[show e-j+j=e by omega];exact h
def Zh2(i j:Nat):i/2^j/2=i/2^(j+1):=by rw[Nat.div_div_eq_div_mul,YaV]
def ZrA(r:XD)(m:Nat)(y:Int):pairs (r.set m y)=(pairs r).set (m/2) ((pairs (r.set m y)).getD (m/2) 0):=by
 have hl:(pairs (r.set m y)).length=(pairs r).length:=by rw[Zfn,Zfn,YbH]
 apply YcB;intro j;by_cases hj:m/2=j
 .subst hj;by_cases hm:m/2<(pairs r).length
  .rw [Ybp hm,YB,Yd (by rw[hl];exact hm)];rfl
  .rw [Yas (),Yas (by rw[YbH];omega)]
 .rw [Ya5 hj];unfold pairs;rw[YbH,Yb,Yb];cases e:(List.range (r.length/2))[j]? with
  |none=>rfl
  |some i=>
   have hi:i=j:=by
    let⟨h1,h2⟩:=Yf.mp e;rw[List.getElem_range]at h2;exact h2.symm
   subst hi;show some (mixOf ((r.set m y).getD (2*i) 0) ((r.set m y).getD (2*i+1) 0))=some (mixOf (r.getD (2*i) 0) (r.getD (2*i+1) 0));rw[YB,YB,YB,YB,Ya5 (),Ya5 ()]
theorem ZrB(ns:XD)(i:Nat)(x:Int):∀k,∃y,lvl k (ns.set i x)=(lvl k ns).set (i/2^k) y
 |0=>⟨x,by rw[YcF,YcU];rfl⟩
 |k+1=>by
  let⟨y,hy⟩:=ZrB ns i x k;refine⟨(pairs ((lvl k ns).set (i/2^k) y)).getD (i/2^k/2) 0,?_⟩;show pairs (lvl k (ns.set i x))=(pairs (lvl k ns)).set _ _;rw[hy,YaV,<- Nat.div_div_eq_div_mul,<- ZrA]
def Ztw{ns:XD}{e j p:Nat}(hn:ns.length=2^e)(hj:j<e)(hp:p<2^(e-(j+1))):(lvl (j+1) ns).getD p 0=mixOf ((lvl j ns).getD (2*p) 0) ((lvl j ns).getD (2*p+1) 0):=by
 have hll:=ZdI hn j ();have h2:2^(e-j)=2*2^(e-(j+1)):=by rw[show e-j=(e-(j+1))+1 by omega,YaV,Ybu]
 have hp:p<(lvl j ns).length/2:=by rw[hll,h2];omega
 show(pairs (lvl j ns)).getD _ 0=_;unfold pairs;rw[YB,Yb,Y0 hp];rfl
def Ztx{r r':XD}{m:Nat}{y:Int}(h:r'=r.set m y)(hm:m<r.length):r.set m (r'.getD m 0)=r':=by
 subst h;rw[YB,Ybp hm];rfl
inductive spPut(C:XB)(vs:XF)(H:Hp)(Q:VK)(E9:XK):Prop
 |mk(a dx q:XB)(qs:Xa)(e:Nat)(ns:XD)(i:Nat)(x:Int):vs=[.ref a,.int i,.int x]->StAt C H a dx q qs e ns->ns.length=2^e->e<=6->i<2^e->(∀H',(∀b,b∉qs->H' b=H b)->StAt C H' a dx q qs e (ns.set i x)->Q .non H')->spPut C vs H Q E9
def Zbz:FnScope ["self","place","leaf","level","k"] ["self","place","leaf"] (Zae (tQ 117 1)):=by walk_at"c"
include Y
def Zfp:jY Y 4 "Stamps" cStamps (Zv9 K cStamps):=by
 refine Zdt ["self","leaves"] Y.br Y.i.k ?_
 .symm;let⟨a,dx,p,ns,e,rfl,ha,hl,hn,he,k⟩:=h;refine⟨_,(Zaf (ZaS (pv 0) (Zam (Zrz Y) (Wa (pv 1))) rfl)),?_⟩;left;exists⟨p,ns,e,rfl,hl,hn,he,λq qs H' sm hq hqs hnd L=>?_⟩;exists ZaD (sm _ _ ha) Y.i.k.cl Y.i.n_kept nofun ?_;have hqa:q≠a:=λz=>by rw[z,ha]at hq;cases hq
  refine k q qs _ (λb o hb hba=>by rw[Zaj hba];exact sm _ _ hb) hq hqs ⟨by rw[Zad];rfl,hnd,?_⟩;refine⟨by rw[Zaj hqa];exact L.ob,L.ln,λj x hx=>?_⟩;have hxa:x≠a:=λz=>by
   have:=hqs x (Yn hx);rw[z,ha]at this;cases this
  rw[Zaj hxa];exact L.rw_ j x hx
def Zkh:iY Y 2 cStamps "put" (spPut cStamps):=by
 refine ZaE _ Y.bs Y.i.k.cl ?_ _ Zbz
 .symm;let⟨a,dx,q,qs,e,ns,i,x,rfl,S,hn,he,hi,k⟩:=h;refine⟨_,(Zac (Zao (i:=3) Zbz.nd (Zaq Zan (Zap (pv 0)) Zag)) (Zac (Znp (pv 2) (Zpv (pv 3) (pv 1) ZjB)) (Zaf (ZbQ YV rfl (Zpy rfl Y.k (Zaa Zag (Wa (Zau ZaN rfl Y.d Ys (Wa (Zap (pv 0))))))) (ZaU (i:=4) Zbz.nd) (Zac (Zao (i:=1) Zbz.nd (Zaw ZaP (pv 1) Zag)) (Zac (Zao (i:=2) Zbz.nd (Zam (Zjt Y) (Zaa (Zaq Zan (pv 3) (Zaw Zda Zag (pv 1))) (Wa (Zaq Zan (pv 3) (Zaw Za0 (Zaw Zda Zag (pv 1)) Zag)))))) (Zac (Zao (i:=3) Zbz.nd (Zaq Zan (Zap (pv 0)) (pv 4))) (Zaf (Znp (pv 2) (Zpv (pv 3) (pv 1) ZjB)))))))))),?_⟩;left;have haq:a∉qs:=λz=>by
   let⟨j,hj⟩:=List.getElem?_of_mem z;have:=S.lv.rw_ j a hj;rw[S.ob]at this;cases this
  have hqq:q∉qs:=(YT.mp S.nd).1;have hnq:qs.Nodup:=(YT.mp S.nd).2;have at_:∀j:Nat,j<=e->∃t,qs[j]?=some t/\(qs.map V.ref)[j]?=some (.ref t):=λj hj=>by
   have hl:j<qs.length:=by rw[S.lv.ln];omega
   exact⟨qs[j],Yd hl,by rw[Yb,Yd hl];rfl⟩
  have inj:∀j k t,qs[j]?=some t->qs[k]?=some t->j=k:=λj k t h1 h2=>Zll hnq j k t h1 h2;let⟨t0,ht0,ht0'⟩:=at_ 0 (YO _);have hn':(ns.set i x).length=2^e:=by rw[YbH];exact hn
  exists Zah S.ob Y.i.k.cl Y.i.n_kept rfl ?_;exists ZaA (Zal S.lv.ob) (ZaL ht0' rfl) ?_;exists ZmA (S.lv.rw_ 0 t0 ht0) (ZmB rfl (by rw[Ya];show i<ns.length;omega)) ?_;dsimp only;rw[<- List.map_set];have k1:∀b,b∉qs->(upd H t0 (.lst (((lvl 0 ns).set i x).map V.int))) b=H b:=λb hb=>Zaj (λz=>hb (z▸Yn ht0));have r1:∀(j:Nat)(t:XB),qs[j]?=some t->(upd H t0 (.lst (((lvl 0 ns).set i x).map V.int))) t=some (.lst ((if j<=0 then lvl j (ns.set i x)else lvl j ns).map V.int)):=λj t ht=>by
   by_cases hj:j=0
   .subst hj;rw[ht0]at ht;cases ht;rw[Zad,if_pos (Yk _)];rfl
   .rw [Zaj (λz=>hj (inj j 0 t ht (by rw[z];exact ht0))),if_neg ()];exact S.lv.rw_ j t ht
  generalize upd H t0 _=H1 at k1 r1;exists ZbT (ZsC ?_);have ob1:H1 a=some (.ins cStamps dx [("kept",.ref q)]):=by rw[k1 a haq];exact S.ob
  have kp1:H1 q=some (.lst (qs.map V.ref)):=by rw[k1 q hqq];exact S.lv.ob
  exists Zah ob1 Y.i.k.cl Y.i.n_kept rfl ?_;have hlq:(qs.map V.ref).length=e+1:=by rw[Ya,S.lv.ln]
  ext;rw[hlq];refine⟨_,_,rfl,⟨(),(),(),()⟩,?_⟩;have en:(((e+1:Nat):Int)-1).toNat=e:=();rw[en];refine Zdk (n:=e) (λj U' H'=>(∀b,b∉qs->H' b=H b)/\(∀(k:Nat)(t:XB),qs[k]?=some t->H' t=some (.lst ((if k<=j then lvl k (ns.set i x)else lvl k ns).map V.int)))/\∃t v2 v4,qs[j]?=some t/\U'=[some (.ref a),some (.int ((i/2^j:Nat):Int)),v2,some (.ref t),v4]) ⟨k1,r1,t0,_,_,ht0,by rw[YcF,YcU]⟩ ?_ ?_
  .rintro j U' H' hj ⟨k2,r2,tj,v2,v4,htj,rfl⟩;let⟨tn,htn,htn'⟩:=at_ (j+1) ();have ob2:H' a=some (.ins cStamps dx [("kept",.ref q)]):=by rw[k2 a haq];exact S.ob
   have kp2:H' q=some (.lst (qs.map V.ref)):=by rw[k2 q hqq];exact S.lv.ob
   have rj:=r2 j tj htj;rw[if_pos (Yk _)]at rj;have rn:=r2 (j+1) tn htn;rw[if_neg ()]at rn;have hp:=Zna hi (show j+1<=e by omega);have hq:=Zh2 i j;have hlj:=ZdI hn' j ();have hln:=ZdI hn (j+1) ();have h2:2^(e-j)=2*2^(e-(j+1)):=by rw[show e-j=(e-(j+1))+1 by omega,YaV,Ybu]
   generalize hP:i/2^(j+1)=p at hp hq;have hx:=Ztw hn' hj hp;have c0:((lvl j (ns.set i x)).map V.int)[2*p]?=some (.int ((lvl j (ns.set i x)).getD (2*p) 0)):=by rw[Yb,YB,Yd ()];rfl
   have c1:((lvl j (ns.set i x)).map V.int)[2*p+1]?=some (.int ((lvl j (ns.set i x)).getD (2*p+1) 0)):=by rw[Yb,YB,Yd ()];rfl
   have hpi:((i/2^j:Nat):Int)/2=(p:Int):=();ext;rw[hpi];refine ZaA (Zal rj) (ZaL c0 ()) ?_;exists ZaA (Zal rj) (ZaL c1 ()) ?_;exists⟨_,_,rfl,?_⟩;rw[<- hx];exists Zah ob2 Y.i.k.cl Y.i.n_kept rfl ?_;exists ZaA (Zal kp2) (ZaL htn' ()) ?_;exists ZmA rn (ZmB rfl (by rw[Ya];omega)) ?_;rw[<- List.map_set];let⟨y,hy⟩:=ZrB ns i x (j+1);rw[hP]at hy;rw[Ztx hy ()];refine⟨λb hb=>?_,λk t ht=>?_,tn,_,_,htn,rfl⟩
   .have hbt:b≠tn:=λz=>hb (by rw[z];exact Yn htn);rw[Zaj hbt];exact k2 b hb
   .by_cases hk:k=j+1
    .subst hk;rw[htn]at ht;cases ht;rw[Zad,if_pos (Yk _)]
    .rw [Zaj (λz=>hk (inj k (j+1) t ht (by rw[z];exact htn))),r2 k t ht];by_cases hkj:k<=j
     .rw [if_pos hkj,if_pos ()]
     .rw [if_neg hkj,if_neg ()]
  .rintro U' H' ⟨k2,r2,tj,v2,v4,htj,rfl⟩;refine k H' k2 ⟨by rw[k2 a haq];exact S.ob,S.nd,⟨by rw[k2 q hqq];exact S.lv.ob,S.lv.ln,λj t ht=>?_⟩⟩;have:=r2 j t ht;rw[if_pos (by have:=(Yf.mp ht).1;rw[S.lv.ln]at this;omega)]at this;exact this
def Zki:iY Y 1 cStamps "top" (spTop cStamps):=by
 refine ZaE ["self"] Y.bt Y.i.k.cl ?_
 .symm;let⟨a,dx,q,qs,e,ns,rfl,S,hn,k⟩:=h;refine⟨_,(Wb (Zaq Zan (ZcE Zan (Zap (pv 0)) (ZfB ZcN Zag) (λ_ _=>rfl)) Zag)),?_⟩;left;exists Zah S.ob Y.i.k.cl Y.i.n_kept rfl ?_;ext;obtain⟨t,ht⟩:∃t,qs[e]?=some t:=⟨qs[e]'(by rw[S.lv.ln];omega),Yd _⟩;obtain⟨y,hy⟩:∃y,(lvl e ns)[0]?=some y:=by
   have:=ZdI hn e (Yk _);rw[Yam]at this;exact⟨(lvl e ns)[0]'(),Yd _⟩
  refine ZaA (Zal S.lv.ob) (ZjK (n:=e) (v:=.ref t) (by rw[Yb,ht];rfl) (by rw[Ya,S.lv.ln])) ?_;exists ZaA (Zal (S.lv.rw_ e t ht)) (ZaL (i:=0) (v:=.int y) (by rw[Yb,hy];rfl) rfl) ?_;exact ZbA (by rw[YB,hy];rfl) k
omit Y
noncomputable def Zfq(w:Str)(n c:Int):Bool:=if w="push"then decide (0<=n)&&decide (n<18446744073709551616)else if w="copy"then decide (0<=n)&&decide (n<=15)else if w="swap"then decide (1<=n)&&decide (n<=15)else decide (0<=n)&&decide (n<=c)
noncomputable def Zbp(c:Int)(r:Row):Bool:=inS r.1 WS&&(if inS r.1 NMS=true then(match r.2 with|none=>false|some n=>Zfq r.1 n c)else r.2.isNone)
noncomputable def Zbe(rs:XW):Bool:=decide (rs.length<=60)&&rs.all (Zbp rs.length)
def Zpb:Sp:=λvs H Q _=>∃x,vs=[.str x]/\Q (.bl (inS x NMS)) H
def Zwa:Sp:=λvs H Q _=>∃i,vs=[.int i]/\Q (.bl (decide (0<=i)&&decide (i<18446744073709551616))) H
def Zpc:Sp:=λvs H Q _=>∃(w:Str)(n c:Int),vs=[.str w,.int n,.int c]/\Q (.bl (Zfq w n c)) H
def Zpd(K:Ydg):Sp:=λvs H Q _=>∃(v:V)(r:Row)(c:Int),vs=[v,.int c]/\RowAt K H r v/\Q (.bl (Zbp c r)) H
inductive Zwb(K:Ydg)(vs:XF)(H:Hp)(Q:VK)(E9:XK):Prop
 |mk(l:XB)(xs:XF)(rs:XW):vs=[.ref l]->SqL K H l xs->RowsAt K H rs xs->xs.length<=1000->(∀H',Same H H'->Q (.bl (Zbe rs)) H')->Zwb K vs H Q E9
def ZlW{K:Ydg}{H:Hp}{Q:VK}{p:XB}{x:Str}{xs:XN}(h:SqT K H p (xs.map V.str))(q:Q (.bl (!inS x xs)) H):rIn K true (.str x) (.ref p) H Q:=by
 refine⟨p,_,rfl,.inr h,rfl,?_,?_⟩
 .rw [YbN];exact Y7.mpr λ_ _=>rfl
 .rw [if_pos rfl,Zmt];exact q
include Y
def Znc:mY Y 1 "numbered" Zpb:=by
 refine Zax ["word"] Y.bv ?_
 .symm;let⟨x,rfl,k⟩:=h;refine⟨_,(Wb (ZbB ZcP (pv 0) (ZaW rfl Y.bw) rfl)),?_⟩;left;walk_at"Q";exact Zny (Y.bu.sqt H) k
def ZdJ:mY Y 1 "is_number" Zwa:=by
 refine Zax ["whole"] Y.bx ?_
 .symm;let⟨i,rfl,k⟩:=h;refine⟨_,(Wb (ZgR ZeQ ZfD Zag (pv 0) (ZaW rfl Y.o))),?_⟩;left;repeat' walk_at"rdk"
  .rename_i h0;exact ZbA (by rw[YG h0,YaE]) k
  .rename_i h0;exact ZbA (by rw[YD h0,YaN]) k
def Zh4:mY Y 2 "right_number" Zpc:=by
 refine Zax ["word","whole","count"] Y.bz ?_
 .symm;let⟨wd,n,c,rfl,k⟩:=h;refine⟨_,(Zac (ZaG (Zas Zbf (pv 0) Zav) (Wb (Zam (ZdJ Y) (Wa (pv 1)))) Zat) (Zac (ZaG (Zas Zbf (pv 0) Zav) (Wb (ZgR ZeQ ZeQ Zag (pv 1) (ZaW rfl Y.z))) Zat) (Zac (ZaG (Zas Zbf (pv 0) Zav) (Wb (ZgR ZeQ ZeQ Zag (pv 1) (ZaW rfl Y.z))) Zat) (Wb (ZgR ZeQ ZeQ Zag (pv 1) (pv 2)))))),?_⟩;left;unfold Zfq at k;repeat' walk_at"rdk"
  .rename_i h1;rw[if_pos h1]at k;exact⟨n,rfl,k⟩
  .rename_i h1 h2 h3;rw[if_neg h1,if_pos h2,YG h3,YaE]at k;exact k
  .rename_i h1 h2 h3;rw[if_neg h1,if_pos h2,YD h3,YaN]at k;exact k
  .rename_i h1 h2 h3 h4;rw[if_neg h1,if_neg h2,if_pos h3,YG h4,YaE]at k;exact k
  .rename_i h1 h2 h3 h4;rw[if_neg h1,if_neg h2,if_pos h3,YD h4,YaN]at k;exact k
  .rename_i h1 h2 h3 h4;rw[if_neg h1,if_neg h2,if_neg h3,YG h4,YaE]at k;exact k
  .rename_i h1 h2 h3 h4;rw[if_neg h1,if_neg h2,if_neg h3,YD h4,YaN]at k;exact k
def ZlZ:mY Y 3 "right_row" (Zpd K):=by
 refine Zax ["row","count"] Y.bA ?_
 .symm;let⟨v,r,c,rfl,⟨t,rfl,hT⟩,k⟩:=h;refine⟨_,(Zac (ZaG (PW.pt (Zd0 (Zas Zbf (Zau ZaN rfl Y.d Ys (Wa (pv 0))) Zag) (ZcL (Zas Zdm (Zaq ZaK (pv 0) Zag) (ZaW rfl Y.t) rfl)))) (Wb ZcD) Zat) (Zac (ZaG (ZbP (ZbN (Zam (Znc Y) (Wa (Zaq ZaK (pv 0) Zag))))) (Wb (ZbB Zbf (Zau ZaN rfl Y.d Ys (Wa (pv 0))) Zag)) Zat) (Wb (ZkU (ZbB Zbf (Zau ZaN rfl Y.d Ys (Wa (pv 0))) Zag) (Zhb (Zam (Zh4 Y) (Zaa (Zaq ZaK (pv 0) Zag) (Zaa (Zaq ZaK (pv 0) Zag) (Wa (pv 1)))))))))),?_⟩;left;let⟨wd,o⟩:=r;unfold Zbp at k;dsimp only at k;cases o with
  |none=>
   have hT:SqT K H t [.str wd]:=hT;repeat' walk_at"rdk"
   .rename_i h0;exact absurd h0 (by show ¬((1:Int)=0);decide)
   refine ZlW (Y.q.sqt H) ?_;cases hW:inS wd WS with
   |false=>
    rw[hW,YaN]at k;repeat walk_at"rdk"
    exact k
   |true=>
    rw[hW,YaE]at k;repeat walk_at"rdk"
    refine⟨wd,rfl,?_⟩;cases hN:inS wd NMS with
    |false=>
     rw[hN,if_neg nofun]at k;repeat walk_at"rdk"
     exact k
    |true=>
     rw[hN,if_pos rfl]at k;repeat' walk_at"rdk"
     .rename_i h0;exact absurd h0 (by show ¬((1:Int)=2);decide)
     .exact k
  |some n=>
   have hT:SqT K H t [.str wd,.int n]:=hT;repeat' walk_at"rdk"
   .rename_i h0;exact absurd h0 (by show ¬((2:Int)=0);decide)
   refine ZlW (Y.q.sqt H) ?_;cases hW:inS wd WS with
   |false=>
    rw[hW,YaN]at k;repeat walk_at"rdk"
    exact k
   |true=>
    rw[hW,YaE]at k;repeat walk_at"rdk"
    refine⟨wd,rfl,?_⟩;cases hN:inS wd NMS with
    |false=>
     rw[hN,if_neg nofun]at k;repeat walk_at"rdk"
     exact k
    |true=>
     rw[hN,if_pos rfl]at k;repeat' walk_at"rdk"
     .exact ⟨wd,n,c,rfl,k⟩
     .rename_i h0;exact absurd (show((2:Int)=2)from rfl) h0
def Zoa:mY Y 4 "right" (Zwb K):=by
 refine Zax ["rows"] Y.bB ?_
 .symm;let⟨l,xs,rs,rfl,hl,hR,hz,k⟩:=h;refine⟨_,(Zac (ZaG (Zas ZfE (Zau ZaN rfl Y.d Ys (Wa (pv 0))) (ZaW rfl Y.bC)) (Wb ZcD) Zat) (Wb (Zau (Zur rfl) rfl Y.A PyProof.Rows.boot_all (Wa (ZbJ ["row"] rfl (show CompScope (Zae (top 36)) ["rows"] ["row"] _ by walk_at"p") (Zbc (pv 0)) (λ_ _ _ _ _=>(Zbi (i:=0) (show(["row","rows"]:XN).Nodup by decide +kernel) rfl (Or.inl rfl) (.inr rfl))) (λ_ _ _ _ _=>ZbI) (λ_ _ _ _ _=>(Zam (ZlZ Y) (Zaa (pv 0) (Wa (Zau (show CallR _ _ (rLenS K)from ZaN) rfl Y.d Ys (Wa (pv 1)))))))))))),?_⟩;left;have hrl:=hR.1;repeat' walk_at"rdk"
  .rename_i h0;refine ZbA ?_ (k H (Same.refl _));unfold Zbe;rw[YD (),YaN]
  .rename_i h0;refine Zbk (ZaY ?_);repeat walk_at"rdk"
   refine⟨l,rfl,⟨_,hl⟩,λp hp=>?_⟩;refine ZgU (ys:=(rs.map (Zbp rs.length)).map V.bl) hl hp (by rw[Ya,Ya,hrl]) (Yj hz nofun) ?_ ?_
   .intro i x y H' Q' hx hy sm q';rw[Yb,Yb]at hy;let⟨b,hb,rfl⟩:=Yu.mp hy;let⟨r,hr1,rfl⟩:=Yu.mp hb;have hl':=sm.seq hl;repeat walk_at"rdk"
    exact⟨x,r,xs.length,rfl,(hR.2 i r x hr1 hx).keep sm.imm,by rw[<- hrl];exact q'⟩
   .repeat walk_at"rdk"
    refine Zus Zmq ?_;refine ZbA ?_ (k _ (Same.new hp));unfold Zbe;rw[YG (),YaE,YbN];rfl
omit Y
noncomputable def worthD:Dd->Int
 |.save _ _ o n=>if o≠0/\n=0 then 4 else 0
 |_=>0
noncomputable def touchD:Dd->List Int
 |.save s _ _ _=>[s]
 |.move s t _=>if s=t then[s]else[if t<s then t else s,if t>s then t else s]
 |.note _ _=>[]
def near:Dd->Prop
 |.move s t _=>0<=s/\s<16/\0<=t/\t<16
 |_=>True
inductive ZeC(CD:XB)(ok:Dd->Prop)(vs:XF)(H:Hp)(Q:VK)(E9:XK):Prop
 |mk(a dx:XB)(d:Dd):vs=[.ref a]->ok d->H a=some (.ins CD dx (fldD d))->Q (.int (worthD d)) H->ZeC CD ok vs H Q E9
inductive ZeD(CD:XB)(ok:Dd->Prop)(vs:XF)(H:Hp)(Q:VK)(E9:XK):Prop
 |mk(a dx:XB)(d:Dd):vs=[.ref a]->ok d->H a=some (.ins CD dx (fldD d))->near d->(∀l H',Same H H'->H l=none->H' l=some (.lst ((touchD d).map V.int))->Q (.ref l) H')->ZeD CD ok vs H Q E9
def TWo(cS cM cN:XB):Addr->Sp->Prop:=T3 cS cM cN (ZeC cS isSave) (ZeC cM isMove) (ZeC cN isNote)
def TTu(cS cM cN:XB):Addr->Sp->Prop:=T3 cS cM cN (ZeD cS isSave) (ZeD cM isMove) (ZeD cN isNote)
def two_of(cS cM cN:XB)(d:Dd):TWo cS cM cN (clsD cS cM cN d) (ZeC (clsD cS cM cN d) (okOf d)):=by
 cases d with
 |save=>exact .inl ⟨rfl,rfl⟩
 |move=>exact .inr (.inl ⟨rfl,rfl⟩)
 |note=>exact .inr (.inr ⟨rfl,rfl⟩)
def ttu_of(cS cM cN:XB)(d:Dd):TTu cS cM cN (clsD cS cM cN d) (ZeD (clsD cS cM cN d) (okOf d)):=by
 cases d with
 |save=>exact .inl ⟨rfl,rfl⟩
 |move=>exact .inr (.inl ⟨rfl,rfl⟩)
 |note=>exact .inr (.inr ⟨rfl,rfl⟩)
def ZrC(d:Dd):(fldD d).lookup (Str.ofString "worth")=none:=by cases d<;>rfl
def ZrD(d:Dd):(fldD d).lookup (Str.ofString "touched")=none:=by cases d<;>rfl
def Ztz{s t k:Int}{ms:XD}(h:ms.Pairwise (·<·))(hm:∀n,n∈ms↔n=s\/n=t):ms=touchD (.move s t k):=by
 show ms=if s=t then[s]else[if t<s then t else s,if t>s then t else s]
 by_cases e:s=t
 .rw [if_pos e];refine ZeX h (List.pairwise_singleton _ _) λn=>(hm n).trans ?_;rw[Ye];omega
 .rw [if_neg e];by_cases h1:t<s
  .rw [if_pos h1,if_neg ()];refine ZeX h (by simp[h1]) λn=>(hm n).trans ?_;simp;omega
  .rw [if_neg h1,if_pos ()];refine ZeX h (by simp;omega) λn=>(hm n).trans ?_;simp
def Zju{d:Dd}(h:near d)(h2:∀s p o n,d=.save s p o n->0<=s/\s<16):∀k∈touchD d,0<=k/\k<16:=λk hk=>by
 cases d with
 |save s p o n=>rw[Ye.mp hk];exact h2 s p o n rfl
 |move s t m=>
  have hk:k∈(if s=t then[s]else[if t<s then t else s,if t>s then t else s]):=hk;let⟨a,b,c,d⟩:=h;split at hk
  .rw [Ye.mp hk];exact⟨a,b⟩
  .rcases Yh.mp hk with rfl|hk
   .split<;>exact⟨by assumption,by assumption⟩
   .rw [Ye.mp hk];split<;>exact⟨by assumption,by assumption⟩
 |note s n=>cases hk
def Zl0(d:Dd):(touchD d).length<=2:=by
 cases d with
 |save=>exact Yaq 1
 |move s t m=>show(if s=t then[s]else[if t<s then t else s,if t>s then t else s]).length<=2;split<;>exact YY rfl
 |note=>exact YO _
def Zh5(ds:Xg):Prop:=∀d∈ds,near d/\∀s p o n,d=.save s p o n->0<=s/\s<16
inductive ZtA(cJ cS cM cN:XB)(vs:XF)(H:Hp)(Q:VK)(E9:XK):Prop
 |mk(j dx R L:XB)(A:XC)(es:List DI):vs=[.ref j]->Jr cJ cS cM cN H j dx R L A es->es.length<=9000->Zh5 (es.map λe=>e.d)->(∀(q:XB)(ms:XD)(H':Hp),Same H H'->H q=none->H' q=some (.lst (ms.map V.int))->ms.Pairwise (·<·)->(∀n,n∈ms↔n∈(es.map λe=>e.d).flatMap touchD)->Q (.ref q) H')->ZtA cJ cS cM cN vs H Q E9
inductive ZtB(cJ cS cM cN:XB)(vs:XF)(H:Hp)(Q:VK)(E9:XK):Prop
 |mk(j dx R L:XB)(A:XC)(es:List DI):vs=[.ref j]->Jr cJ cS cM cN H j dx R L A es->es.length<=9000->(∀H',Same H H'->Q (.int ((es.map λe=>worthD e.d).sum)) H')->ZtB cJ cS cM cN vs H Q E9
def ZbW:FnScope ["self","slots","deed"] ["self"] (Zae (tQ 46 6)):=by walk_at"c"
include Y
def Zkm:iY Y 1 cSave "worth" (ZeC cSave isSave):=by
 refine ZaE ["self"] Y.bD Y.e.k.cl ?_
 .symm;let⟨a,dx,d,rfl,⟨s0,p,o,n,rfl⟩,ha,k⟩:=h;refine⟨_,(Zac (ZaG (PW.pt (ZkT (Zas ZfC (Zap (pv 0)) Zag) (Zha (Zas Zbf (Zap (pv 0)) Zag)))) (Wb (ZaW rfl Y.bE)) Zat) (Wb Zag)),?_⟩;left;have k:Q (.int (if o≠0/\n=0 then 4 else 0)) H:=k;exists Zah ha Y.e.k.cl Y.e.n_old rfl ?_;ext
  .rename_i ho;refine Zah ha Y.e.k.cl Y.e.n_new rfl ?_;walk_at"K'"
   .rename_i hn;rw[if_pos ⟨ho,hn⟩]at k;exact k
   .rename_i hn;rw[if_neg (λz=>hn z.2)]at k;exact k
  .rename_i ho;ext;rw[if_neg (λz=>z.1 ho)]at k;exact k
def Zkn:iY Y 1 qd "worth" (ZeC qd isMove):=by
 refine ZaE ["self"] Y.bF Y.f.k.cl ?_
 .symm;let⟨a,dx,d,rfl,ok,ha,k⟩:=h;refine⟨_,(Wb Zag),?_⟩;left;ext;let⟨_,_,_,rfl⟩:=ok;exact k
def Zko:iY Y 1 cNote "worth" (ZeC cNote isNote):=by
 refine ZaE ["self"] Y.bG Y.j.k.cl ?_
 .symm;let⟨a,dx,d,rfl,ok,ha,k⟩:=h;refine⟨_,(Wb Zag),?_⟩;left;ext;let⟨_,_,rfl⟩:=ok;exact k
def Zh9:iY Y 1 cSave "touched" (ZeD cSave isSave):=by
 refine ZaE ["self"] Y.bH Y.e.k.cl ?_
 .symm;let⟨a,dx,d,rfl,⟨s0,p,o,n,rfl⟩,ha,_,k⟩:=h;refine⟨_,(Wb (ZaI (Wa (Zap (pv 0))))),?_⟩;left;exists Zah ha Y.e.k.cl Y.e.n_slot rfl ?_;exists⟨show 1<=sizeLine by decide,λl hl=>?_⟩;ext;exact k l _ (Same.new hl) hl Zad
def Zia:iY Y 1 qd "touched" (ZeD qd isMove):=by
 refine ZaE ["self"] Y.bI Y.f.k.cl ?_
 .symm;let⟨a,dx,d,rfl,⟨s0,t0,kk,rfl⟩,ha,⟨s1,s2,t1,t2⟩,k⟩:=h;refine⟨_,(Wb (Zau (ZjU rfl) rfl Y.r Ybf (Wa (ZaJ (ZmJ rfl) rfl Y.u Ycb (Wa (ZaI (Zaa (Zap (pv 0)) (Wa (Zap (pv 0)))))))))),?_⟩;left;exists Zah ha Y.f.k.cl Y.f.n_slot rfl ?_;exists Zah ha Y.f.k.cl Y.f.n_taker rfl ?_;exists⟨show 2<=sizeLine by decide,λl hl=>?_⟩;have sa:=Same.new hl (o:=.lst [.int s0,.int t0]);ext
  refine ZmK (ns:=[s0,t0]) (Zal Zad) (λk hk=>by
   rcases Yh.mp hk with rfl|hk
   .exact ⟨s1,s2⟩
   .rw [Ye.mp hk];exact⟨t1,t2⟩) λz hz=>?_
  exists ZjV Zad λms h1 h2 q hq=>?_;ext;have sb:=(sa.newT hz).newT hq (o:=.lst (ms.map V.int));refine k q _ sb ((sa.newT hz).fresh hq) ?_;rw[Zad,Ztz (s:=s0) (t:=t0) (k:=kk) h1 (λn=>(h2 n).trans (by simp))]
def Zib:iY Y 1 cNote "touched" (ZeD cNote isNote):=by
 refine ZaE ["self"] Y.bJ Y.j.k.cl ?_
 .symm;let⟨a,dx,d,rfl,⟨s0,n,rfl⟩,ha,_,k⟩:=h;refine⟨_,(Wb (ZaI Zab)),?_⟩;left;exists⟨nofun,λl hl=>?_⟩;ext;exact k l _ (Same.new hl) hl Zad
def ZgK:iY Y 2 qb "worth" (ZtB qb cSave qd cNote):=by
 refine ZaE ["self"] Y.bK Y.g.k.cl ?_
 .symm;let⟨j,dx,R,L,Ar,es,rfl,J,hel,k⟩:=h;refine⟨_,(Wb (Zau (Zlo rfl) rfl Y.n YaT (Wa (ZbJ ["deed"] rfl (show CompScope (Zae (tQ 46 5)) ["self"] ["deed"] _ by walk_at"p") (Zbc (Zap (pv 0))) (λ_ _ _ _ _=>(Zbi (i:=0) (show(["deed","self"]:XN).Nodup by decide +kernel) rfl (Or.inl rfl) (.inr rfl))) (λ_ _ _ _ _=>ZbI) (λ_ _ _ _ _=>(ZeU (T:=TWo cSave qd cNote) (Zo7 (Zkm Y) (Zkn Y) (Zko Y)) (hr.mono nofun) (pv 0))))))),?_⟩;left;have big:(9001:Nat)<=sizeLine:=nofun;exists Zbk (ZaY ?_);exists Zah J.ob Y.g.k.cl Y.g.n_deeds rfl ?_;refine⟨L,rfl,⟨_,Zal J.li⟩,λq hq=>?_⟩;refine Zcf (λi H'=>Same H H'/\H' q=some (.lst (((es.take i).map λe=>worthD e.d).map V.int))) ⟨Same.new hq,Zad⟩ (λi H' ⟨s,_⟩=>Zal (s _ _ J.li)) ?_ ?_
  .rintro i x H' hx ⟨s1,hts⟩;rw[Yb]at hx;let⟨e,he,rfl⟩:=Yu.mp hx;let⟨hi,ei⟩:=Yf.mp he;have de:=s1 _ _ (J.de e (Yn he)).1;refine ZfK ?_;refine iteT ?_;refine ZdW ?_;exists⟨e.o,clsD cSave qd cNote e.d,e.dx,fldD e.d,_,rfl,de,ZrC e.d,two_of cSave qd cNote e.d,?_⟩;exists⟨e.o,e.dx,e.d,rfl,ZcT e.d,de,?_⟩;refine⟨_,hts,by rw[Ya,Ya,YN];omega,⟨s1.wr hq,?_⟩,_,rfl⟩;rw[Zad,Ym hi,ei,YA,YA];rfl
  .rintro H' ⟨s1,hts⟩;rw[Ya,YK]at hts;ext;exact k H' s1
def Zfr:iY Y 2 qb "touched" (ZtA qb cSave qd cNote):=by
 refine ZaE _ Y.bL Y.g.k.cl ?_ _ ZbW
 .symm;let⟨j,dx,R,L,Ar,es,rfl,J,hel,hnr,k⟩:=h;refine⟨_,(Zac (Zao (i:=1) ZbW.nd (ZaI Zab)) (Zac (ZbQ YV rfl (Zbc (Zap (pv 0))) (ZaU (i:=2) ZbW.nd) (Zaf (Zay (Zbj Yy YbU YbT Zhj (pv 1) (Wa (ZeU (T:=TTu cSave qd cNote) (Zo7 (Zh9 Y) (Zia Y) (Zib Y)) (hr.mono nofun) (pv 2))))))) (Wb (Zau (ZjU rfl) rfl Y.r Ybf (Wa (ZaJ (ZmJ rfl) rfl Y.u Ycb (Wa (pv 1)))))))),?_⟩;left;exists⟨nofun,λSL hSL=>?_⟩;ext;have big:(18002:Nat)<=sizeLine:=nofun;have s1:=Same.new hSL (o:=.lst []);have tl:∀i,((es.take i).flatMap λe=>touchD e.d).length<=2*i:=λi=>by
   induction i with
   |zero=>simp
   |succ i ih=>
    by_cases hi:i<es.length
    .rw [Ym hi,YbI,Yc];have:=Zl0 es[i].d;simp only[YaA,List.flatMap_nil,YZ];omega
    .rw [YaB ()]at ih |-;omega
  refine ZbT (ZaY ?_);exists Zah (s1 _ _ J.ob) Y.g.k.cl Y.g.n_deeds rfl ?_;refine⟨L,rfl,⟨_,Zal (s1 _ _ J.li)⟩,ZbF (xs:=es.map λe=>V.ref e.o) (λi U' H'=>Same H H'/\H' SL=some (.lst (((es.take i).flatMap λe=>touchD e.d).map V.int))/\∃v2,U'=[some (.ref j),some (.ref SL),v2]) ⟨s1,Zad,_,rfl⟩ (λi U' H' _ ⟨e,_⟩=>Zal (e _ _ J.li)) ?_ ?_⟩
  .rintro i x U' H' hx ⟨s2,hl2,v2,rfl⟩;rw[Yb]at hx;let⟨e,he,rfl⟩:=Yu.mp hx;let⟨hi,ei⟩:=Yf.mp he;have de:=s2 _ _ (J.de e (Yn he)).1;have hn:=hnr e.d (YF.mpr ⟨e,Yn he,rfl⟩);exists⟨Za9 (Zal hl2),?_⟩;exists ZdW ?_;exists⟨e.o,clsD cSave qd cNote e.d,e.dx,fldD e.d,_,rfl,de,ZrD e.d,ttu_of cSave qd cNote e.d,?_⟩;exists⟨e.o,e.dx,e.d,rfl,ZcT e.d,de,hn.1,λl H2 s3 hl hl3=>?_⟩;ext;have h1:=tl i;have h2:=Zl0 e.d;refine Zhs (s3 _ _ hl2) hl3 (by rw[Ya,Ya];omega) ?_;refine⟨(s2.trans s3).wr hSL,?_,_,rfl⟩;rw[Zad,Ym hi,ei,YbI,<- YA];simp
  .rintro U' H' ⟨s2,hl2,v2,rfl⟩;rw[Ya,YK]at hl2;have hm:∀n,n∈(es.flatMap λe=>touchD e.d)↔n∈(es.map λe=>e.d).flatMap touchD:=λn=>by rw[List.flatMap_map]
   have hb:∀k∈(es.flatMap λe=>touchD e.d),0<=k/\k<16:=λk hk=>by
    let⟨e,he,hk⟩:=Yb5.mp hk;have hn:=hnr e.d (YF.mpr ⟨e,he,rfl⟩);exact Zju hn.1 hn.2 k hk
   exists ZmK (Zal hl2) hb λz hz=>?_;exists ZjV Zad λms h1 h2 q hq=>?_;ext;have s3:=(s2.newT hz).newT hq (o:=.lst (ms.map V.int));exact k q ms _ s3 ((s2.newT hz).fresh hq) Zad h1 λn=>(h2 n).trans (hm n)
omit Y
def isN(n:Int):Prop:=0<=n/\n<18446744073709551616
def ZtC:Sp:=λvs H Q _=>∃s:Nat,vs=[.int (s:Int)]/\s<16/\Q .non H
def ZtD(K:Ydg):Sp:=λvs H Q _=>∃(l:XB)(ns:XD),vs=[.ref l]/\SqL K H l (ns.map V.int)/\(∀n∈ns,isN n)/\Q .non H
inductive Zpe(K:Ydg)(C:XB)(vs:XF)(H:Hp)(Q:VK)(E9:XK):Prop
 |mk(R:XB)(A:XC)(S:XL)(m i:Nat)(x:AcI):vs=[.ref R,.int (i:Int)]->Rooms K C H R A S m->i<16->A i=some x->Q (.ref x.a) H->Zpe K C vs H Q E9
structure Lok(A:XC)(S:XL)(n m:Nat)(k l w:Int):Prop where
 hn:n<16
 hm:m<16
 hx:∃x,A n=some x
 hy:∃y,A m=some y
 hk:isN k
 hw:isN w
 l0:10<=l
 l1:l<=5000
 pu:l<=(S n).purse
 co:k<=(S n).coin
inductive Zpf(K:Ydg)(C:XB)(vs:XF)(H:Hp)(Q:VK)(E9:XK):Prop
 |mk(R:XB)(A:XC)(S:XL)(m s t:Nat)(c l w:Int):vs=[.ref R,.int (s:Int),.int (t:Int),.int c,.int l,.int w]->Rooms K C H R A S m->Lok A S s t c l w->(∀H',Same H H'->Q .non H')->Zpf K C vs H Q E9
def two_n{a b:Int}(h1:isN a)(h2:isN b):∀n∈([a,b]:XD),isN n:=λn hn=>by
 rcases Yh.mp hn with rfl|hn
 .exact h1
 .rw [Ye.mp hn];exact h2
def Zdf:FnScope ["wholes","whole"] ["wholes"] (Zae (top 124)):=by walk_at"c"
def Zic:FnScope ["rooms","slot","account"] ["rooms","slot"] (Zae (top 125)):=by walk_at"c"
def ZdK:FnScope ["rooms","sender","to","coin","limit","word","account"] ["rooms","sender","to","coin","limit","word"] (Zae (top 126)):=by walk_at"c"
include Y
def Zfs:mY Y 1 "check_slot" ZtC:=by
 refine Zax ["slot"] Y.bM ?_
 .symm;let⟨s0,rfl,h1,k⟩:=h;refine⟨_,(Zaf (ZaG (ZbP (ZgS ZeQ ZfD Zag (pv 0) (ZaW rfl Y.v))) (Zaf Za8) Zat)),?_⟩;left;walk_at"K'";all_goals first|exact k|omega
def Zdg:mY Y 2 "check_numbers" (ZtD K):=by
 refine Zax _ Y.bN ?_ _ Zdf
 .symm;let⟨l,ns,rfl,hl,hi,k⟩:=h;refine⟨_,(Zaf (ZbQ YV rfl (Zbc (pv 0)) (ZaU (i:=1) Zdf.nd) (Zaf (ZaG (ZbP (ZbN (Zam (ZdJ Y) (Wa (pv 1))))) (Zaf Za8) Zat)))),?_⟩;left;exists ZbT (ZaY ?_);exists⟨l,rfl,⟨_,hl⟩,ZbF (xs:=ns.map V.int) (λi U' H'=>H'=H/\∃v,U'=[some (.ref l),v]) ⟨rfl,_,rfl⟩ (λi U' H' _ ⟨e,_⟩=>by rw[e];exact hl) ?_ ?_⟩
  .rintro i x U' H' hx ⟨rfl,v,rfl⟩;rw[Yb]at hx;let⟨n,hn,rfl⟩:=Yu.mp hx;exists⟨n,rfl,?_⟩;have hz:=hi n (Yn hn);rw[YG hz.1,YG hz.2];ext;exact⟨rfl,_,rfl⟩
  .rintro U' H' ⟨rfl,v,rfl⟩;exact k
def ZbL:mY Y 2 "standing" (Zpe K qa):=by
 refine Zax _ Y.bO ?_ _ Zic
 .symm;let⟨R,Ar,S,m,i,x,rfl,r,hi,hx,k⟩:=h;refine⟨_,(Zac (Zao (i:=2) Zic.nd (Zam (Zc4 Y) (Zaa (pv 0) (Wa (pv 1))))) (Zac (ZaG (Zas Zce (pv 2) Zbl) (Zaf Za8) Zat) (Wb (pv 2)))),?_⟩;left;exists⟨R,Ar,S,m,(i:Int),rfl,r,?_⟩;rw[if_pos ⟨(),()⟩,Yt,hx];show gName 2 (V.ref x.a) _ _ _;ext;exact k
def ZdL:mY Y 3 "check_letter" (Zpf K qa):=by
 refine Zax _ Y.bP ?_ _ ZdK
 .symm;let⟨R,Ar,S,m,s0,t0,c0,l0,w0,rfl,r,L,k⟩:=h;refine⟨_,(Zac (Zay (Zam (Zdg Y) (Wa (ZaI (Zaa (pv 3) (Wa (pv 5))))))) (Zac (Zao (i:=6) ZdK.nd (Zam (ZbL Y) (Zaa (pv 0) (Wa (pv 1))))) (Zac (Zay (Zam (ZbL Y) (Zaa (pv 0) (Wa (pv 2))))) (Zac (ZaG (ZbP (ZgS ZeQ ZeQ (ZaW rfl Y.bQ) (pv 4) (ZaW rfl Y.bR))) (Zaf Za8) Zat) (Zac (ZaG (Zas ZfD (Zap (pv 6)) (pv 4)) (Zaf Za8) Zat) (Zaf (ZaG (Zas ZfD (Zap (pv 6)) (pv 3)) (Zaf Za8) Zat))))))),?_⟩;left;let⟨x,hx⟩:=L.hx;let⟨y,hy⟩:=L.hy;have l1:=L.l0;have l2:=L.l1;have h3:=L.pu;have h4:=L.co;exists⟨show 2<=sizeLine by decide,λp hp=>?_⟩;have s1:=Same.new hp (o:=.lst [.int c0,.int w0]);have gp:(upd H p (.lst [.int c0,.int w0])) p=some (.lst (([c0,w0]:XD).map V.int)):=Zad;generalize upd H p _=H1 at s1 gp |-;have r1:=r.same s1;refine⟨p,[c0,w0],rfl,Zal gp,two_n L.hk L.hw,?_⟩;exists⟨R,Ar,S,m,s0,x,rfl,r1,L.hn,hx,?_⟩;exists⟨R,Ar,S,m,t0,y,rfl,r1,L.hm,hy,?_⟩;have ax:=r1.ac s0 x L.hn hx;walk_at"Z";refine Zah ax.ob Y.c.k.cl Y.c.n_purse rfl ?_;walk_at"Z";refine Zah ax.ob Y.c.k.cl Y.c.n_coin rfl ?_;walk_at"Z";exact k _ s1
omit Y
theorem Zl1:∀es:List DI,0<=(es.map λe=>worthD e.d).sum
 |[]=>Y9 0
 |e::es=>by
  have:=Zl1 es;rw[Yz,Yab];have h:∀d,0<=worthD d:=λd=>by
   cases d with
   |save s p o n=>show(0:Int)<=(if _ then 4 else 0);split<;>decide
   |move=>exact Y9 0
   |note=>exact Y9 0
  have:=h e.d;omega
inductive ZrE(K:Ydg)(C cJ cS cM cN:XB)(vs:XF)(H:Hp)(Q:VK)(E9:XK):Prop
 |mk(M:MI)(s t:Nat)(c l w:Int)(a b:AcI):vs=[.ref M.R,.ref M.j,.int (s:Int),.int (t:Int),.int c,.int l,.int w]->Wd K C cJ cS cM cN H M []->(s<16/\M.A s=some a)->(t<16/\M.A t=some b)->In64 c->In64 w->c<=(M.S0 s).coin->(10<=l/\l<=5000)->(∀q (e:Str) (an us pd:Int) v4 v5 H' ds,Wd K C cJ cS cM cN H' M ds->KeptX (λb=>¬Out M.A b\/b=M.L) H H'->e.length<=10->In64 an->(10<=us/\us<=l)->(0<=pd/\pd<=us)->ds.length<=9000->H' q=some (.tup [.str e,.int an,.int us,.int pd,v4,v5])->Q (.ref q) H')->ZrE K C cJ cS cM cN vs H Q E9
def ZdY:FnScope ["rooms","journal","sender","to","coin","limit","word","tree","used","spared"] ["rooms","journal","sender","to","coin","limit","word"] (Zae (top 127)):=by walk_at"c"
include Y
def Zjv:mY Y 50 "carried" (ZrE K qa qb cSave qd cNote):=by
 refine Zax _ Y.bS ?_ _ ZdY
 .symm;let⟨M,s0,t0,c0,l0,w0,ac1,ac2,rfl,W,hs,ht,hc,hw,hco,hl,k⟩:=h;refine⟨_,(Zac (Zao (i:=7) ZdY.nd (Zam (Ztt Y) (Zaa (pv 0) (Zaa (pv 1) (Zaa (pv 2) (Zaa (pv 3) (Zaa (pv 4) (Zaa (pv 6) (Wa (Zaw ZeO (pv 5) (ZaW rfl Y.C))))))))))) (Zac (Zao (i:=8) ZdY.nd (Zaw Za0 (ZaW rfl Y.C) (Zaq ZaK (pv 7) Zag))) (Zac (Zao (i:=9) ZdY.nd (Zau (Zuo rfl) rfl Y.B PyProof.Rows.boot_min (Zaa (Zbn (ZgK Y) (hr.mono nofun) (pv 1)) (Wa (Zaw ZaP (pv 8) Zag))))) (Wb (ZaH (Zaa (Zaq ZaK (pv 7) Zag) (Zaa (Zaq ZaK (pv 7) Zag) (Zaa (pv 8) (Zaa (Zaw ZeO (pv 8) (pv 9)) (Zaa (pv 7) (Wa (Zbn (ZhS Y) (hr.mono nofun) (pv 1))))))))))))),?_⟩;left;exists⟨M,[],s0,t0,c0,w0,l0-10,ac1,ac2,rfl,W,hs,ht,hc,hw,hco,⟨(),()⟩,nofun,λp e an us v0 v1 v2 v3 v4 v5 v6 v9 H1 ds W1 k1 he han hus hdl gp=>?_⟩;have hdl:(ds.length:Int)<=0+1+us:=hdl;let⟨es,ek,J1⟩:=W1.J;have hel:es.length<=9000:=by
   have:=Y3 List.length ek;rw[Ya]at this;omega
  have hpT:SqT K H1 p [v0,v1,v2,v3,v4,v5,v6,.str e,.int an,.int us,v9]:=Zb0 gp;exists Zar J1.ob rfl ?_;exists⟨M.j,M.dx,M.R,M.L,M.A,es,rfl,J1,hel,λH2 s2=>?_⟩;have hwp:=Zl1 es;generalize (es.map λe=>worthD e.d).sum=wl at hwp |-;have hpT2:=SameI.tup s2.imm hpT;ext;have J2:=J1.same s2;refine Zar J2.ob rfl ?_;exists⟨M.j,M.dx,M.R,M.L,M.A,es,rfl,J2,hel,λq H3 s3=>?_⟩;exists⟨show 6<=sizeLine by decide,λu hu=>?_⟩;have s4:=(s2.trans s3).newT hu (o:=.tup [.str e,.int an,.int (10+us),.int (10+us-(if(10+us)/2<wl then(10+us)/2 else wl)),.ref p,.ref q]);exact k u e an (10+us) _ _ _ _ ds (W1.same s4) (k1.trans s4.keptX) he han ⟨(),()⟩ ⟨by split<;>omega,by split<;>omega⟩ () Zad
omit Y
def ZtE{H:Hp}{a b:XB}{o:HO}(h:upd H a o b=none):b≠a/\H b=none:=by
 by_cases e:b=a
 .rw [e,Zad]at h;cases h
 .rw [Zaj e]at h;exact⟨e,h⟩
noncomputable def setO(A:XC)(i:Nat)(x:AcI):Nat->Option AcI:=λj=>if j=i then some x else A j
def ZrF{A:XC}{i:Nat}{x:AcI}(hi:i<16):((List.range 16).map λj=>roomV (A j)).set i (.ref x.a)=(List.range 16).map λj=>roomV (setO A i x j):=by
 apply YcB;intro n;rw[List.getElem?_set];by_cases e:i=n
 .subst e;rw[if_pos rfl,if_pos (by simpa using hi),Yb,Y0 hi];show _=some (roomV (setO A i x i));unfold setO;rw[if_pos rfl];rfl
 .rw [if_neg e,Yb,Yb];by_cases hn:n<16
  .rw [Y0 hn];show some _=some (roomV (setO A i x n));unfold setO;rw[if_neg (YR e)]
  .rw [Yas (by simpa using hn)];rfl
def Zl2{A:XC}{i:Nat}(hi:i<16)(hx:A i=none):atI ((List.range 16).map λi=>roomV (A i)) (i:Int)=some .non:=
 ZaL (i:=i) (by rw[Yb,Y0 hi];show some (roomV (A i))=_;rw[hx];rfl) rfl
def ZcB{A:XC}{i:Nat}{x:AcI}:∀j y,setO A i x j=some y->(j=i/\y=x)\/(j≠i/\A j=some y):=λj y h=>by
 unfold setO at h;by_cases z:j=i
 .rw [if_pos z]at h;cases h;exact .inl ⟨z,rfl⟩
 .rw [if_neg z]at h;exact .inr ⟨z,h⟩
def Rooms.add{K:Ydg}{C:XB}{H H':Hp}{R:XB}{A:XC}{S:XL}{m:Nat}(r:Rooms K C H R A S m){i:Nat}(hi:i<16){x:AcI}{s:AcS}(e5:H' R=some (.lst (((List.range 16).map λj=>roomV (A j)).set i (.ref x.a))))(e6:Acc K C H' x s m)(fr:∀b o,H b=some o->b≠R->(∀kvs,o≠.dK kvs)->H' b=some o)(fs:∀j y,j<16->A j=some y->H' y.st=H y.st)(np:∀j y,j<16->A j=some y->y.pr≠R)(n3:H x.a=none)(n4:H x.st=none):Rooms K C H' R (setO A i x) (setS S i s) m:=by
 have hR:=r.ob;have sne:∀j y,j<16->A j=some y->∃kvs,H y.st=some (.dK kvs):=λj y hj hy=>let⟨kvs,a,_⟩:=(r.ac j y hj hy).sto;⟨kvs,a⟩;have im:SameI H H':=λb u e i=>by
  refine fr b u e (λz=>?_) (λkvs z=>?_)
  .rw [z,hR]at e;cases e;exact Za4 i
  .rw [z]at i;exact Zhq i
 refine⟨by rw[e5,ZrF hi],λj y hj hy=>?_,λj j' y y' hj hj' hy hy' e=>?_,λj j' y y' hj hj' hy hy' e=>?_⟩
 .rcases ZcB j y hy with⟨rfl,rfl⟩|⟨z,gy⟩
  .unfold setS;rw[if_pos rfl];exact e6
  .unfold setS;rw[if_neg z];have h:=r.ac j y hj gy;let⟨xs,g1,g2⟩:=h.pg;let⟨kvs,g3,g4⟩:=h.sto;exact⟨fr _ _ h.ob (Za3 h.ob hR nofun) (by intro _ z;cases z),⟨xs,fr _ _ g1 (np j y hj gy) (by intro _ z;cases z),g2.keep im⟩,kvs,(fs j y hj gy).trans g3,g4⟩
 .rcases ZcB j y hy with⟨rfl,rfl⟩|⟨z,gy⟩<;>rcases ZcB j' y' hy' with⟨rfl,rfl⟩|⟨z',gy'⟩
  .rfl
  .have h:=(r.ac j' y' hj' gy').ob;rw[<- e,n3]at h;cases h
  .have h:=(r.ac j y hj gy).ob;rw[e,n3]at h;cases h
  .exact r.da j j' y y' hj hj' gy gy' e
 .rcases ZcB j y hy with⟨rfl,rfl⟩|⟨z,gy⟩<;>rcases ZcB j' y' hy' with⟨rfl,rfl⟩|⟨z',gy'⟩
  .rfl
  .obtain ⟨_,h⟩:=sne j' y' hj' gy';rw[<- e,n4]at h;cases h
  .obtain ⟨_,h⟩:=sne j y hj gy;rw[e,n4]at h;cases h
  .exact r.ds j j' y y' hj hj' gy gy' e
def Rooms.empty{K:Ydg}{C:XB}{H:Hp}{R:XB}{m:Nat}(f:H R=some (.lst ((List.range 16).map λi=>roomV ((λ_=>none:XC) i))))(S:XL):Rooms K C H R (λ_=>none) S m:=
 ⟨f,λ_ _ _ h=>(nomatch h),λ_ _ _ _ _ _ h=>(nomatch h),λ_ _ _ _ _ _ h=>(nomatch h)⟩
def Zpg{rs:XW}(h:Zbe rs=true):rs.length<=60/\(∀r∈rs,r.1∈WS)/\True:=by
 unfold Zbe at h;rw[Yq,Yr,Y7]at h;refine⟨h.1,λr hr=>?_,trivial⟩;have:=h.2 r hr;unfold Zbp at this;rw[Yq]at this;exact Zrl this.1
def Zid(f:AcS->Int)(S:XL){n:Nat}(hn:n<16)(v:AcS):((List.range 16).map λj=>f (setS S n v j)).sum=((List.range 16).map λj=>f (S j)).sum-f (S n)+f v:=by
 have e:(λj=>f (setS S n v j))=λj=>f (S j)-(if j=n then f (S n)else 0)+(if j=n then f v else 0):=by
  funext j;unfold setS;by_cases z:j=n
  .rw [if_pos z,if_pos z,if_pos z,z];omega
  .rw [if_neg z,if_neg z,if_neg z];omega
 rw[e,ZhW,ZlP n _ _ Ybx (Y6.mpr hn),ZlP n _ _ Ybx (Y6.mpr hn)]
theorem Zob{A:XC}:∀(ds:Xg)(S:XL),(∀d∈ds,fitsD A d)->∀j,A j=none->(runS S ds j).coin=(S j).coin
 |[],_,_,_,_=>rfl
 |d::ds,S,h,j,hj=>by
  refine(Zob ds (doneS S d) (λe he=>h e (Yo _ he)) j hj).trans ?_;have hf:=h d (Y1 ..);cases d with
  |save s p o n=>
   show(setS S s.toNat _ j).coin=_;unfold setS;by_cases w:j=s.toNat
   .rw [if_pos w,<- w]
   .rw [if_neg w]
  |move s t k=>
   let⟨⟨i,x,rfl,hi,hx⟩,i2,x2,rfl,hi2,hx2⟩:=hf;show(moved S _ _ k j).coin=_;rw[Zcc,Yt,Yt,if_neg (λz=>by rw[z,hx]at hj;cases hj),if_neg (λz=>by rw[z,hx2]at hj;cases hj)];show(S j).coin-0+0=_;omega
  |note s n=>rfl
structure Bare(ps:XD)(A:XC)(S:XL):Prop where
 len:ps.length<=40
 so:SOk ps S
 rw_:∀j x,j<16->A j=some x->Zbe (S j).rows=true/\Safe ps (S j).rows
 no:∀j,j<16->A j=none->(S j).coin=0/\(S j).purse=0
def Bare.few{ps:XD}{A:XC}{S:XL}(h:Bare ps A S)(j:Nat)(q:Int):(S j).store q≠0->q∈ps:=(h.so.st j q).2
def Bare.at0(ps:XD)(h:ps.length<=40):Bare ps (λ_=>none) (λ_=>⟨0,0,0,[],λ_=>0⟩):=⟨h,⟨(λ_ _=>⟨⟨(by show(0:Int)<=0;decide),(by show(0:Int)<18446744073709551616;decide)⟩,λz=>absurd rfl z⟩),(λ_ _=>by show(0:Int)<=0;decide),nofun⟩,(λ_ _ _ h=>nomatch h),λ_ _ _=>⟨rfl,rfl⟩⟩
def Zl3{ps:XD}{f:Xf}{L:XD}(h:Supp f L)(hf:∀q,f q≠0->q∈ps):L.length<=ps.length:=Zfj L ps (h.1.imp λh=>Int.ne_of_lt h) λk hk=>hf k ((h.2 k).mp hk)
def Zwc{A:XC}{n:Nat}{x:V}(h:((List.range 16).map λi=>roomV (A i))[n]?=some x):n<16/\x=roomV (A n):=by
 rw[Yb]at h;let⟨k,hk,rfl⟩:=Yu.mp h;let⟨hi,e⟩:=Yf.mp hk;rw[List.getElem_range]at e;rw[Yaa]at hi;subst e;exact⟨hi,rfl⟩
structure HoI where
 h:Addr
 hd:Addr
 R:Addr
 st:Addr
 sd:Addr
 q:Addr
 qs:List Addr
 ps:List Int
noncomputable def hoF(i:HoI)(tk:Int):List (Str×V):=[("rooms",.ref i.R),("stamps",.ref i.st),("takings",.int tk)]
noncomputable def plainN(A:XC)(S:XL)(n:Nat):List Int:=match A n with
 |none=>[]
 |some _=>plainS (S n)
noncomputable def stP(P:XQ):List Int:=(List.range 16).map λj=>ZbV (P j)
structure HoAt(K:Ydg)(cA cT cH:XB)(H:Hp)(i:HoI)(A:XC)(S:XL)(tk:Int)(P:XQ):Prop where
 ob:H i.h=some (.ins cH i.hd (hoF i tk))
 ro:Rooms K cA H i.R A S 40
 st:StAt cT H i.st i.sd i.q i.qs 4 (stP P)
 nR:i.R∉i.q::i.qs
 np:∀j x,j<16->A j=some x->x.pr∉i.q::i.qs/\x.pr≠i.R
 ba:Bare i.ps A S
def inHo(i:HoI)(A:XC)(b:XB):Prop:=b=i.h\/b=i.R\/b∈i.qs\/¬Out A b
structure NotHo(i:HoI)(A:XC)(b:XB):Prop where
 h:b≠i.h
 R:b≠i.R
 st:b≠i.st
 q:b∉i.q::i.qs
 ac:∀j x,j<16->A j=some x->b≠x.a/\b≠x.st/\b≠x.pr
section
variable{K:Ydg}{cA cT cH:XB}{H H':Hp}{i:HoI}{A:XC}{S S':XL}{tk:Int}{P:XQ}{b:XB}
def NotHo.not(n:NotHo i A b):¬inHo i A b:=by
 rintro(z|z|z|z)
 .exact n.h z
 .exact n.R z
 .exact n.q (Yo _ z)
 .exact z λj x hj hx=>⟨(n.ac j x hj hx).1,(n.ac j x hj hx).2.1⟩
def NotHo.add(n:NotHo i A b){o:HO}(hb:H b=some o){s:Nat}{x:AcI}(h1:H x.a=none)(h2:H x.st=none)(h3:H x.pr=none):NotHo i (setO A s x) b:=
 ⟨n.h,n.R,n.st,n.q,λj y hj hy=>by
  rcases ZcB j y hy with⟨rfl,rfl⟩|⟨z,gy⟩
  .exact ⟨Zai hb h1,Zai hb h2,Zai hb h3⟩
  .exact n.ac j y hj gy⟩
def StAt.list{cT a dx q:XB}{qs:Xa}{e:Nat}{ns:XD}(h:StAt cT H a dx q qs e ns)(hb:b∈q::qs):∃xs,H b=some (.lst xs):=by
 rcases Yh.mp hb with rfl|z
 .exact ⟨_,h.lv.ob⟩
 .obtain ⟨k,hk,e⟩:=Ya4.mp z;exact⟨_,h.lv.rw_ k b (by rw[Yd hk,e])⟩
def HoAt.same(o:HoAt K cA cT cH H i A S tk P)(s:Same H H'):HoAt K cA cT cH H' i A S tk P:=
 ⟨s _ _ o.ob,o.ro.same s,o.st.keep s,o.nR,o.np,o.ba⟩
def HoAt.newN(o:HoAt K cA cT cH H i A S tk P)(hb:H b=none):NotHo i A b:=by
 refine⟨YR (Zai o.ob hb),YR (Zai o.ro.ob hb),YR (Zai o.st.ob hb),λz=>?_,λj x hj hx=>?_⟩
 .obtain ⟨xs,e⟩:=o.st.list z;rw[e]at hb;cases hb
 .have h:=o.ro.ac j x hj hx;let⟨xs,g1,_⟩:=h.pg;let⟨kvs,g2,_⟩:=h.sto;exact⟨YR (Zai h.ob hb),YR (Zai g2 hb),YR (Zai g1 hb)⟩
def HoAt.rooms(o:HoAt K cA cT cH H i A S tk P)(im:SameI H H')(k0:H' i.R=H i.R)(k:∀j x,j<16->A j=some x->H' x.a=H x.a/\H' x.st=H x.st/\H' x.pr=H x.pr):Rooms K cA H' i.R A S 40:=by
 refine⟨by rw[k0];exact o.ro.ob,λj x hj hx=>?_,o.ro.da,o.ro.ds⟩;let⟨k1,k2,k3⟩:=k j x hj hx;have h:=o.ro.ac j x hj hx;let⟨kvs,g2,g3⟩:=h.sto;let⟨xs,g4,g5⟩:=h.pg;exact⟨by rw[k1];exact h.ob,⟨xs,by rw[k3];exact g4,g5.keep im⟩,kvs,by rw[k2];exact g2,g3⟩
def HoAt.own(o:HoAt K cA cT cH H i A S tk P)(n:NotHo i A b){u:HO}(hb:H b=some u)(ni:¬Imm u)(v:HO):HoAt K cA cT cH (upd H b v) i A S tk P:=by
 have a:=o.st;refine⟨by rw[Zaj (YR n.h)];exact o.ob,o.rooms (SameI.upd hb ni) (Zaj (YR n.R)) λj x hj hx=>⟨Zaj (YR (n.ac j x hj hx).1),Zaj (YR (n.ac j x hj hx).2.1),Zaj (YR (n.ac j x hj hx).2.2)⟩,⟨by rw[Zaj (YR n.st)];exact a.ob,a.nd,by rw[Zaj (λz=>n.q (by rw[<- z];exact Y1 ..))];exact a.lv.ob,a.lv.ln,λk x hx=>?_⟩,o.nR,o.np,o.ba⟩;rw[Zaj (λz=>n.q (by rw[<- z];exact Yo _ (Yn hx)))];exact a.lv.rw_ k x hx
def HoAt.put(o:HoAt K cA cT cH H i A S tk P)(k:∀b,b∉i.qs->H' b=H b){P':XQ}(hs:StAt cT H' i.st i.sd i.q i.qs 4 (stP P')):HoAt K cA cT cH H' i A S tk P':=by
 have nl:∀b v,H b=some v->(∀xs,v≠.lst xs)->b∉i.qs:=λb v hb hv z=>by
  let⟨xs,e⟩:=o.st.list (Yo _ z);rw[hb]at e;cases e;exact hv _ rfl
 refine⟨by rw[k _ (nl _ _ o.ob (by intro xs z;cases z))];exact o.ob,o.rooms (λb u e im=>by rw[k b (nl b u e (λxs z=>by rw[z]at im;exact Za4 im))];exact e) (k _ (λz=>o.nR (Yo _ z))) λj x hj hx=>?_,hs,o.nR,o.np,o.ba⟩;have h:=o.ro.ac j x hj hx;let⟨kvs,g2,_⟩:=h.sto;exact⟨k _ (nl _ _ h.ob (by intro xs z;cases z)),k _ (nl _ _ g2 (by intro xs z;cases z)),k _ (λz=>(o.np j x hj hx).1 (Yo _ z))⟩
end
noncomputable def sumA(A:XC)(f:Nat->Int):Int:=((List.range 16).map λj=>if(A j).isSome=true then f j else 0).sum
noncomputable def accL(A:XC)(n:Nat):List Nat:=(List.range n).filter λj=>(A j).isSome
theorem Zjw(p:Nat->Bool)(f:Nat->Int):∀l:List Nat,((l.filter p).map f).sum=(l.map λj=>if p j=true then f j else 0).sum
 |[]=>rfl
 |j::l=>by
  have:=Zjw p f l;rw[Yba];by_cases h:p j=true
  .rw [if_pos h,Yz,Yz,Yab,Yab,if_pos h,this]
  .rw [if_neg h,Yz,Yab,if_neg h,this];omega
def ZrG(A:XC)(f:Nat->Int):((accL A 16).map f).sum=sumA A f:=Zjw _ f _
noncomputable def accV(A:XC)(n:Nat):List V:=(accL A n).map λj=>roomV (A j)
inductive spAccs(K:Ydg)(cA cT cH:XB)(vs:XF)(H:Hp)(Q:VK)(E9:XK):Prop
 |mk(i:HoI)(A:XC)(S:XL)(tk:Int)(P:XQ):vs=[.ref i.h]->HoAt K cA cT cH H i A S tk P->(∀l,H l=none->Q (.ref l) (upd H l (.lst (accV A 16))))->spAccs K cA cT cH vs H Q E9
def sumsOk(A:XC)(S:XL)(tk c p:Int):Prop:=sumA A (λj=>(S j).coin)+c<18446744073709551616/\sumA A (λj=>(S j).purse)+tk+p<18446744073709551616
inductive ZtF(K:Ydg)(cA cT cH:XB)(vs:XF)(H:Hp)(Q:VK)(E9:XK):Prop
 |mk(i:HoI)(A:XC)(S:XL)(tk:Int)(P:XQ)(c p:Int):vs=[.ref i.h,.int c,.int p]->HoAt K cA cT cH H i A S tk P->sumsOk A S tk c p->(∀H',Same H H'->Q .non H')->ZtF K cA cT cH vs H Q E9
noncomputable def setP(P:XQ)(s:Nat)(v:XD):Nat->List Int:=λj=>if j=s then v else P j
def Zkq(P:XQ):(stP P).length=16:=by unfold stP;rw[Ya,Yaa]
def Zwd(P:XQ){s:Nat}(hs:s<16)(v:XD):(stP P).set s (ZbV v)=stP (setP P s v):=by
 unfold stP setP;apply YcB;intro n;rw[List.getElem?_set];by_cases e:s=n
 .subst e;rw[if_pos rfl,if_pos (by simpa using hs),Yb,Y0 hs];show _=some (ZbV (if s=s then v else P s));rw[if_pos rfl]
 .rw [if_neg e,Yb,Yb];by_cases hn:n<16
  .rw [Y0 hn];show some _=some (ZbV (if n=s then v else P n));rw[if_neg (YR e)]
  .rw [Yas (by simpa using hn)];rfl
inductive ZtG(K:Ydg)(cA cT cH:XB)(vs:XF)(H:Hp)(Q:VK)(E9:XK):Prop
 |mk(i:HoI)(A:XC)(S:XL)(tk:Int)(P:XQ)(n:Nat):vs=[.ref i.h,.int (n:Int)]->HoAt K cA cT cH H i A S tk P->n<16->(∀l H',Same H H'->H l=none->(plainN A S n).length<1000->H' l=some (.lst ((plainN A S n).map V.int))->Q (.ref l) H')->ZtG K cA cT cH vs H Q E9
inductive spAnew(K:Ydg)(cA cT cH:XB)(vs:XF)(H:Hp)(Q:VK)(E9:XK):Prop
 |mk(i:HoI)(A:XC)(S:XL)(tk:Int)(P:XQ)(s:Nat):vs=[.ref i.h,.int (s:Int)]->HoAt K cA cT cH H i A S tk P->s<16->(∀H',KeptX (·∈i.qs) H H'->HoAt K cA cT cH H' i A S tk (setP P s (plainN A S s))->Q .non H')->spAnew K cA cT cH vs H Q E9
inductive Zwe(K:Ydg)(cA cT cH:XB)(vs:XF)(H:Hp)(Q:VK)(E9:XK):Prop
 |mk(a dx:XB)(ps:XD):vs=[.ref a]->H a=some (.ins cH dx [])->ps.length<=40->(∀i H',i.h=a->i.ps=ps->(∀b o,H b=some o->b≠a->H' b=some o/\NotHo i (λ_=>none) b)->HoAt K cA cT cH H' i (λ_=>none) (λ_=>⟨0,0,0,[],λ_=>0⟩) 0 (λ_=>[])->Q .non H')->Zwe K cA cT cH vs H Q E9
inductive spTopH(K:Ydg)(cA cT cH:XB)(vs:XF)(H:Hp)(Q:VK)(E9:XK):Prop
 |mk(i:HoI)(A:XC)(S:XL)(tk:Int)(P:XQ):vs=[.ref i.h]->HoAt K cA cT cH H i A S tk P->Q (.int ((lvl 4 (stP P)).getD 0 0)) H->spTopH K cA cT cH vs H Q E9
def spTill(K:Ydg)(cA cT cH:XB):Sp:=λvs H Q _=>∃(i:HoI)(A:XC)(S:XL)(tk:Int)(P:XQ),vs=[.ref i.h]/\HoAt K cA cT cH H i A S tk P/\Q (.int tk) H
theorem Zoc:∀rs:List Row,(rs.flatMap Zba).length=2*rs.length
 |[]=>rfl
 |r::rs=>by
  rw[YaA,Yc,Zoc rs,Yi];show 2+_=_;omega
def Zph{ps:XD}{s:AcS}(h:s.rows.length<=60)(hl:ps.length<=40)(hf:∀q,s.store q≠0->q∈ps){L:XD}(hs:Supp s.store L):(plainS s).length<1000:=by
 unfold plainS plainOf;rw[Zg5 hs,Yc,Yc,Yc,Zoc,Ycs];have h1:=Zl3 hs hf;have h2:(L.map λi=>[i,s.store i].length)=L.map λ_=>2:=rfl;have h3:∀L:List Int,(L.map λ_=>2).sum=2*L.length:=λL=>by
  induction L with
  |nil=>rfl
  |cons a l ih=>rw[Yz,Yab,ih,Yi];omega
 rw[h2,h3];show 4+2*s.rows.length+1+2*L.length<1000;omega
def ZbM:FnScope ["self","coin","purse","coins","purses"] ["self","coin","purse"] (Zae (tQ 128 2)):=by walk_at"c"
include Y
def ZcV:iY Y 1 cHouse "accounts" (spAccs K qa cStamps cHouse):=by
 refine ZaE ["self"] Y.bT Y.b.k.cl ?_
 .symm;let⟨i,Ar,S,tk,P,rfl,o,k⟩:=h;refine⟨_,(Wb (ZbJ ["account"] rfl (show CompScope (Zae (tQ 128 1)) ["self"] ["account"] _ by walk_at"p") (Zbc (Zap (pv 0))) (λ_ _ _ _ _=>(Zbi (i:=0) (show(["account","self"]:XN).Nodup by decide +kernel) rfl (Or.inl rfl) (.inr rfl))) (λ_ _ _ _ _=>(Zp5 (Zas ZnD (pv 0) Zbl))) (λ_ _ _ _ _=>(pv 0)))),?_⟩;left;have hR:=o.ro.ob;have hob:=o.ob;have big:(100:Nat)<sizeLine:=nofun;exists Zbk (ZaY ?_);exists Zah o.ob Y.b.k.cl Y.b.n_rooms rfl ?_;refine⟨i.R,rfl,⟨_,Zal hR⟩,λq hq=>?_⟩;refine Zcf (xs:=(List.range 16).map λj=>roomV (Ar j)) (λn H'=>H'=upd H q (.lst (accV Ar n))) rfl (λn H' e=>by rw[e];exact Zal (by rw[Zaj (Zai hR hq)];exact hR)) ?_ ?_
  .rintro n x H' hx rfl;let⟨hn,rfl⟩:=Zwc hx;have hl:(accV Ar n).length<sizeLine:=by
    unfold accV accL;rw[Ya];exact Y4 (Yj (Ybv ..) (by rw[Yaa];omega)) big
   have st:accV Ar (n+1)=accV Ar n++(if(Ar n).isSome=true then[roomV (Ar n)]else[]):=by
    unfold accV accL;rw[Ycf,List.filter_append,YA];congr 1;rw[Yba];split<;>rfl
   cases ha:Ar n with
   |none=>
    show tTest _ (some V.non::_) _ _;exists⟨?_,_,rfl⟩;show upd H q _=upd H q _;rw[st,ha,if_neg nofun,YZ]
   |some x0=>
    show tTest _ (some (V.ref x0.a)::_) _ _;exists⟨accV Ar n,Zad,hl,?_,_,rfl⟩;show upd (upd H q _) q _=upd H q _;rw[ZaO,st,ha];rfl
  .rintro H' rfl;rw[Ya,Yaa];ext;exact k q hq
def ZeE:iY Y 2 cHouse "check_sums" (ZtF K qa cStamps cHouse):=by
 refine ZaE _ Y.bU Y.b.k.cl ?_ _ ZbM
 .symm;let⟨i,Ar,S,tk,P,c0,p0,rfl,o,hsu,k⟩:=h;refine⟨_,(Zac (Zao (i:=3) ZbM.nd (Zau (Zlo rfl) rfl Y.n YaT (Wa (ZbJ ["account"] rfl (show CompScope (Zae (tQ 128 2)) ["self","coin","purse","coins","purses"] ["account"] _ by walk_at"p") (Zbc (Zbn (ZcV Y) (hr.mono nofun) (pv 0))) (λ_ _ _ _ _=>(Zbi (i:=0) (show(["account","self","coin","purse","coins","purses"]:XN).Nodup by decide +kernel) rfl (Or.inl rfl) (.inr rfl))) (λ_ _ _ _ _=>ZbI) (λ_ _ _ _ _=>(show PE _ _ (tFld K _ _)from(Zap (pv 0)))))))) (Zac (Zao (i:=4) ZbM.nd (Zau (Zlo rfl) rfl Y.n YaT (Wa (ZbJ ["account"] rfl (show CompScope (Zae (tQ 128 2)) ["self","coin","purse","coins","purses"] ["account"] _ by walk_at"p") (Zbc (Zbn (ZcV Y) (hr.mono nofun) (pv 0))) (λ_ _ _ _ _=>(Zbi (i:=0) (show(["account","self","coin","purse","coins","purses"]:XN).Nodup by decide +kernel) rfl (Or.inl rfl) (.inr rfl))) (λ_ _ _ _ _=>ZbI) (λ_ _ _ _ _=>(show PE _ _ (tFld K _ _)from(Zap (pv 0)))))))) (Zaf (ZaG (PW.pt (Zd0 (Zas Zsa (Zaw Za0 (pv 3) (pv 1)) (ZaW rfl Y.o)) (ZcL (Zas Zsa (Zaw Za0 (Zaw Za0 (pv 4) (Zap (pv 0))) (pv 2)) (ZaW rfl Y.o))))) (Zaf Za8) Zat)))),?_⟩;left;have big:(100:Nat)<sizeLine:=nofun;have hlen:∀n,n<=16->(accL Ar n).length<=16:=λn hn=>Yj (Ybv ..) (by rw[Yaa];exact hn);have elt:∀(n:Nat)(x:V),(accV Ar 16)[n]?=some x->∃(j:Nat)(y:AcI),(accL Ar 16)[n]?=some j/\j<16/\Ar j=some y/\x=.ref y.a:=λn x hx=>by
   unfold accV at hx;rw[Yb]at hx;let⟨j,hj,rfl⟩:=Yu.mp hx;have hm:=Yn hj;unfold accL at hm;rw[Ybk,Y6]at hm;cases e:Ar j with
   |none=>rw[e]at hm;exact Bool.noConfusion hm.2
   |some y=>exact⟨j,y,hj,hm.1,e,rfl⟩
  exists Zbk (ZaY ?_);exists Zar o.ob rfl ?_;exists⟨i,Ar,S,tk,P,rfl,o,λl1 hl1=>?_⟩;have s1:=Same.new hl1 (o:=.lst (accV Ar 16));have g1:(upd H l1 (.lst (accV Ar 16))) l1=some (.lst (accV Ar 16)):=Zad;generalize upd H l1 _=H1 at s1 g1 |-;have o1:=o.same s1;refine⟨l1,rfl,⟨_,Zal g1⟩,λq1 hq1=>?_⟩;refine ZgU (ys:=((accL Ar 16).map λj=>(S j).coin).map V.int) (Zal g1) hq1 (by unfold accV;rw[Ya,Ya,Ya]) (by unfold accV;rw[Ya];exact Yj (hlen 16 (Yk _)) nofun) ?_ ?_
  .intro n x y H' Q' hx hy sm q';let⟨j,z,hj,hj16,hz,rfl⟩:=elt n x hx;rw[Yb,Yb,hj]at hy;cases hy;exists Zah ((o1.same sm).ro.ac j z hj16 hz).ob Y.c.k.cl Y.c.n_coin rfl ?_;exact q'
  have s2:=Same.new hq1 (o:=.lst (((accL Ar 16).map λj=>(S j).coin).map V.int));have g2:(upd H1 q1 (.lst (((accL Ar 16).map λj=>(S j).coin).map V.int))) q1=some (.lst (((accL Ar 16).map λj=>(S j).coin).map V.int)):=Zad;generalize upd H1 q1 _=H2 at s2 g2 |-;have o2:=o1.same s2;have hq2:SqL K H2 q1 (((accL Ar 16).map λj=>(S j).coin).map V.int):=Zal g2;exists Zbk (ZaY ?_);exists Zar o2.ob rfl ?_;exists⟨i,Ar,S,tk,P,rfl,o2,λl3 hl3=>?_⟩;have s3:=Same.new hl3 (o:=.lst (accV Ar 16));have g3:(upd H2 l3 (.lst (accV Ar 16))) l3=some (.lst (accV Ar 16)):=Zad;generalize upd H2 l3 _=H3 at s3 g3 |-;have o3:=o2.same s3;refine⟨l3,rfl,⟨_,Zal g3⟩,λq4 hq4=>?_⟩;refine ZgU (ys:=((accL Ar 16).map λj=>(S j).purse).map V.int) (Zal g3) hq4 (by unfold accV;rw[Ya,Ya,Ya]) (by unfold accV;rw[Ya];exact Yj (hlen 16 (Yk _)) nofun) ?_ ?_
  .intro n x y H' Q' hx hy sm q';let⟨j,z,hj,hj16,hz,rfl⟩:=elt n x hx;rw[Yb,Yb,hj]at hy;cases hy;exists Zah ((o3.same sm).ro.ac j z hj16 hz).ob Y.c.k.cl Y.c.n_purse rfl ?_;exact q'
  have s4:=Same.new hq4 (o:=.lst (((accL Ar 16).map λj=>(S j).purse).map V.int));have g4:(upd H3 q4 (.lst (((accL Ar 16).map λj=>(S j).purse).map V.int))) q4=some (.lst (((accL Ar 16).map λj=>(S j).purse).map V.int)):=Zad;generalize upd H3 q4 _=H4 at s4 g4 |-;have o4:=o3.same s4;have k:=k H4 (((s1.trans s2).trans s3).trans s4);have hq5:SqL K H4 q4 (((accL Ar 16).map λj=>(S j).purse).map V.int):=Zal g4;have e1:=ZrG Ar (λj=>(S j).coin);have e2:=ZrG Ar (λj=>(S j).purse);have hs1:=hsu.1;have hs2:=hsu.2;walk_at"K'"
  .omega
  .refine Zah o4.ob Y.b.k.cl Y.b.n_takings rfl ?_;walk_at"K'"
   .omega
   .exact k
omit Y
include Y
def Zen:iY Y 3 cHouse "plain" (ZtG K qa cStamps cHouse):=by
 refine ZaE ["self","slot"] Y.bV Y.b.k.cl ?_
 .symm;let⟨i,Ar,S,tk,P,n,rfl,o,hn,k⟩:=h;refine⟨_,(Zac (Zay (Zam (Zfs Y) (Wa (pv 1)))) (Zac (ZaG (Zas Zce (Zaq Zan (Zap (pv 0)) (pv 1)) Zbl) (Wb (ZaI Zab)) Zat) (Wb (Zbn (ZgI Y) (hr.mono nofun) (Zaq Zan (Zap (pv 0)) (pv 1)))))),?_⟩;left;exists⟨n,rfl,hn,?_⟩;exists Zah o.ob Y.b.k.cl Y.b.n_rooms rfl ?_;ext;unfold plainN at k;cases ha:Ar n with
  |none=>
   rw[ha]at k;refine ZaA (Zal o.ro.ob) (Zl2 hn ha) ?_;exists⟨nofun,λl hl=>?_⟩;exact k l _ (Same.new hl) hl (Nat.zero_lt_succ _) Zad
  |some x=>
   rw[ha]at k;refine ZaA (Zal o.ro.ob) (o.ro.at hn ha) ?_;exists Zah o.ob Y.b.k.cl Y.b.n_rooms rfl ?_;exists ZaA (Zal o.ro.ob) (o.ro.at hn ha) ?_;have ax:=o.ro.ac n x hn ha;have ba:=o.ba;let⟨c1,c2,_⟩:=Zpg (ba.rw_ n x hn ha).1;refine Zar ax.ob rfl ?_;exists⟨x.a,x.dx,x.pr,x.st,_,_,_,_,_,40,rfl,ax,nofun,Yj c1 nofun,c2,λl L1 H1 s1 hl su hL1 gl=>?_⟩;refine k l H1 s1 hl (Zph c1 ba.len (λq=>ba.few n q) su) ?_;show H1 l=some (.lst ((plainS (S n)).map V.int));unfold plainS;rw[Zg5 su];exact gl
def Zco:iY Y 4 cHouse "stamp_anew" (spAnew K qa cStamps cHouse):=by
 refine ZaE ["self","slot"] Y.bW Y.b.k.cl ?_
 .symm;let⟨i,Ar,S,tk,P,n,rfl,o,hn,k⟩:=h;refine⟨_,(Zaf (Zay (ZaB (Zkh Y) (hr.mono nofun) (Zap (pv 0)) (Zaa (pv 1) (Wa (Zam (Zke Y) (Wa (ZaB (Zen Y) (hr.mono nofun) (pv 0) (Wa (pv 1)))))))))),?_⟩;left;have hs:=o.st;have hnl:=Zkq P;exists Zah o.ob Y.b.k.cl Y.b.n_stamps rfl ?_;refine Zar hs.ob rfl ?_;exists Zar o.ob rfl ?_;exists⟨i,Ar,S,tk,P,n,rfl,o,hn,λl H1 s1 hl hlen gl=>?_⟩;exists⟨l,_,rfl,Zal gl,hlen,λH2 s2=>?_⟩;have hs2:=(hs.keep s1).keep s2;have o2:=(o.same s1).same s2;exists⟨i.st,i.sd,i.q,i.qs,4,stP P,n,_,rfl,hs2,hnl,nofun,hn,λH3 k3 hs3=>?_⟩;exists k H3 (λb u e nb=>by rw[k3 b nb];exact s2 _ _ (s1 _ _ e)) (o2.put k3 (by rw[<- Zwd P hn];exact hs3))
def Zl5:iY Y 2 cHouse "top" (spTopH K qa cStamps cHouse):=by
 refine ZaE ["self"] Y.bX Y.b.k.cl ?_
 .symm;let⟨i,Ar,S,tk,P,rfl,o,k⟩:=h;refine⟨_,(Wb (Zbn (Zki Y) (hr.mono nofun) (Zap (pv 0)))),?_⟩;left;exists Zah o.ob Y.b.k.cl Y.b.n_stamps rfl ?_;refine Zar o.st.ob rfl ?_;refine⟨i.st,i.sd,i.q,i.qs,4,stP P,rfl,o.st,Zkq P,?_⟩;exact k
def Zks:iY Y 1 cHouse "till" (spTill K qa cStamps cHouse):=by
 refine ZaE ["self"] Y.bY Y.b.k.cl ?_
 .symm;let⟨i,Ar,S,tk,P,rfl,o,k⟩:=h;refine⟨_,(Wb (Zap (pv 0))),?_⟩;left;exists Zah o.ob Y.b.k.cl Y.b.n_takings rfl ?_;exact k
omit Y
def Rooms.fld{K:Ydg}{C:XB}{H:Hp}{R:XB}{A:XC}{S:XL}{m:Nat}(r:Rooms K C H R A S m){i:Nat}(hi:i<16){x:AcI}(hx:A i=some x)(c p n:Int) :
  Rooms K C (upd H x.a (.ins C x.dx (accF c p n x.pr x.st))) R A (setS S i {S i with coin:=c,purse:=p,count:=n}) m:=by
 have ai:=r.ac i x hi hx;have im:SameI H (upd H x.a (.ins C x.dx (accF c p n x.pr x.st))):=SameI.upd ai.ob Zbv;refine⟨by rw[Zaj (Za3 r.ob ai.ob nofun)];exact r.ob,λj y hj hy=>?_,r.da,r.ds⟩;have aj:=r.ac j y hj hy;let⟨xs,e1,e2⟩:=aj.pg;let⟨kvs,e3,e4⟩:=aj.sto;have f1:(upd H x.a (.ins C x.dx (accF c p n x.pr x.st))) y.pr=some (.lst xs):=by rw[Zaj (Za3 e1 ai.ob nofun)];exact e1
 have f2:(upd H x.a (.ins C x.dx (accF c p n x.pr x.st))) y.st=some (.dK kvs):=by rw[Zaj (Za3 e3 ai.ob nofun)];exact e3
 unfold setS;by_cases z:j=i
 .subst z;rw[hx]at hy;cases hy;rw[if_pos rfl];exact⟨Zad,⟨xs,f1,e2.keep im⟩,kvs,f2,e4⟩
 .rw [if_neg z];have hne:y.a≠x.a:=λq=>z (r.da j i y x hj hi hy hx q);exact⟨by rw[Zaj hne];exact aj.ob,⟨xs,f1,e2.keep im⟩,kvs,f2,e4⟩
def Rooms.ins{K:Ydg}{C C' dx b:XB}{fs:Xl}{H:Hp}{R:XB}{A:XC}{S:XL}{m:Nat}(r:Rooms K C H R A S m)(hb:H b=some (.ins C' dx fs))(n:Out A b)(v:HO):Rooms K C (upd H b v) R A S m:=by
 refine⟨by rw[Zaj (Za3 r.ob hb nofun)];exact r.ob,λj y hj hy=>?_,r.da,r.ds⟩;have aj:=r.ac j y hj hy;let⟨xs,e1,e2⟩:=aj.pg;let⟨kvs,e3,e4⟩:=aj.sto;exact⟨by rw[Zaj (YR (n j y hj hy).1)];exact aj.ob,⟨xs,by rw[Zaj (Za3 e1 hb nofun)];exact e1,e2.keep (SameI.upd hb Zbv)⟩,kvs,by rw[Zaj (YR (n j y hj hy).2)];exact e3,e4⟩
section
variable{K:Ydg}{cA cT cH:XB}{H H':Hp}{i:HoI}{A:XC}{S S':XL}{tk:Int}{P:XQ}{b:XB}
def HoAt.hOut(o:HoAt K cA cT cH H i A S tk P):Out A i.h:=λj x hj hx=>by
 have h:=o.ro.ac j x hj hx;let⟨kvs,g2,_⟩:=h.sto;refine⟨Zgq o.ob h.ob (by show ¬(3=5);decide),Za3 o.ob g2 nofun⟩
def HoAt.lOut(o:HoAt K cA cT cH H i A S tk P){xs:XF}(hb:H b=some (.lst xs)):Out A b:=λj x hj hx=>by
 have h:=o.ro.ac j x hj hx;let⟨kvs,g2,_⟩:=h.sto;refine⟨Za3 hb h.ob nofun,Za3 hb g2 nofun⟩
def HoAt.stOut(o:HoAt K cA cT cH H i A S tk P):Out A i.st:=λj x hj hx=>by
 have h:=o.ro.ac j x hj hx;let⟨kvs,g2,_⟩:=h.sto;refine⟨Zgq o.st.ob h.ob (by show ¬(1=5);decide),Za3 o.st.ob g2 nofun⟩
def HoAt.ro_(o:HoAt K cA cT cH H i A S tk P)(k:∀b u,H b=some u->Out A b->b≠i.h->H' b=some u){tk':Int}(hh:H' i.h=some (.ins cH i.hd (hoF i tk')))(r:Rooms K cA H' i.R A S' 40)(hb:Bare i.ps A S'):HoAt K cA cT cH H' i A S' tk' P:=by
 have a:=o.st;refine⟨hh,r,⟨k _ _ a.ob o.stOut (Zgq a.ob o.ob (by show ¬(1=3);decide)),a.nd,k _ _ a.lv.ob (o.lOut a.lv.ob) (Za3 a.lv.ob o.ob nofun),a.lv.ln,λj x hx=>?_⟩,o.nR,o.np,hb⟩;have h:=a.lv.rw_ j x hx;exact k _ _ h (o.lOut h) (Za3 h o.ob nofun)
end
noncomputable def paidS(S:XL)(s:Nat)(paid:Int):Nat->AcS:=setS S s {S s with purse:=(S s).purse-paid,count:=(S s).count+1}
def Bare.paid{ps:XD}{A:XC}{S:XL}(h:Bare ps A S){s:Nat}{x:AcI}(hx:A s=some x)(paid:Int):Bare ps A (paidS S s paid):=by
 have e:∀j,(paidS S s paid j).coin=(S j).coin/\(paidS S s paid j).rows=(S j).rows/\(paidS S s paid j).store=(S j).store:=λj=>by
  unfold paidS setS;by_cases z:j=s
  .rw [if_pos z,z];exact⟨rfl,rfl,rfl⟩
  .rw [if_neg z];exact⟨rfl,rfl,rfl⟩
 refine⟨h.len,⟨λj q=>by rw[(e j).2.2];exact h.so.st j q,λj hj=>by rw[(e j).1];exact h.so.co j hj,?_⟩,λj y hj hy=>by rw[(e j).2.1];exact h.rw_ j y hj hy,λj hj hn=>?_⟩
 .have:=h.so.to;unfold totalC at this |-;rw[show(λj=>(paidS S s paid j).coin)=λj=>(S j).coin from funext λj=>(e j).1];exact this
 .rw [(e j).1];refine⟨(h.no j hj hn).1,?_⟩;unfold paidS setS;rw[if_neg (λz=>by rw[z,hx]at hn;cases hn)];exact(h.no j hj hn).2
inductive ZtH(K:Ydg)(cA cT cH:XB)(vs:XF)(H:Hp)(Q:VK)(E9:XK):Prop
 |mk(i:HoI)(A:XC)(S:XL)(tk:Int)(P:XQ)(paid:Int)(s:Nat)(x:AcI):vs=[.ref i.h,.int (s:Int),.int paid]->HoAt K cA cT cH H i A S tk P->s<16->A s=some x->(∀H',KeptX (inHo i A) H H'->HoAt K cA cT cH H' i A (paidS S s paid) (tk+paid) P->Q .non H')->ZtH K cA cT cH vs H Q E9
inductive spOf(K:Ydg)(cA cT cH:XB)(f:AcS->Int)(vs:XF)(H:Hp)(Q:VK)(E9:XK):Prop
 |mk(i:HoI)(A:XC)(S:XL)(tk:Int)(P:XQ)(n:Nat)(x:AcI):vs=[.ref i.h,.int (n:Int)]->HoAt K cA cT cH H i A S tk P->n<16->A n=some x->Q (.int (f (S n))) H->spOf K cA cT cH f vs H Q E9
inductive Zwf(K:Ydg)(cA cT cH:XB)(vs:XF)(H:Hp)(Q:VK)(E9:XK):Prop
 |mk(i:HoI)(A:XC)(S:XL)(tk:Int)(P:XQ)(n:Nat)(x:AcI):vs=[.ref i.h,.int (n:Int)]->HoAt K cA cT cH H i A S tk P->n<16->A n=some x->(∀l xs H',Same H H'->H l=none->H' l=some (.lst xs)->RowsAt K H' (S n).rows xs->Q (.ref l) H')->Zwf K cA cT cH vs H Q E9
def ZdM:FnScope ["self","sender","paid","account"] ["self","sender","paid"] (Zae (tQ 128 5)):=by walk_at"c"
include Y
def Zie:iY Y 1 cHouse "charge" (ZtH K qa cStamps cHouse):=by
 refine ZaE _ Y.bZ Y.b.k.cl ?_ _ ZdM
 .symm;let⟨i,Ar,S,tk,P,paid,n,x,rfl,o,hn,hx,k⟩:=h;refine⟨_,(Zac (Zao (i:=3) ZdM.nd (Zaq Zan (Zap (pv 0)) (pv 1))) (Zac (ZbZ (pv 3) Zag Zi2) (Zac (ZbZ (pv 3) (pv 2) Zue) (Zaf (ZbZ (pv 0) (pv 2) Zi2))))),?_⟩;left;have ax:=o.ro.ac n x hn hx;exists Zah o.ob Y.b.k.cl Y.b.n_rooms rfl ?_;exists ZaA (Zal o.ro.ob) (o.ro.at hn hx) ?_;exists Zcu ax.ob Y.c.k.cl Y.c.n_count rfl ?_;exists⟨x.dx,_,ax.ob,by show 5<1000;decide,?_⟩;have ep:∀(c c' p n:Int)(pr st:XB),putF "count" (.int c') (accF c p n pr st)=accF c p c' pr st:=λ_ _ _ _ _ _=>rfl;have ep2:∀(c c' p n:Int)(pr st:XB),putF "purse" (.int c') (accF c p n pr st)=accF c c' n pr st:=λ_ _ _ _ _ _=>rfl;rw[ep];have r1:=o.ro.fld hn hx (S n).coin (S n).purse ((S n).count+1);have ax1:=r1.ac n x hn hx;unfold setS at ax1;rw[if_pos rfl]at ax1;have hob1:=ax1.ob;dsimp only at hob1;exists Zcu hob1 Y.c.k.cl Y.c.n_purse rfl ?_;exists⟨x.dx,_,hob1,by show 5<1000;decide,?_⟩;rw[ep2,ZaO];clear r1 ax1 hob1 ep ep2;have r1:=o.ro.fld hn hx (S n).coin ((S n).purse-paid) ((S n).count+1);have hh:(upd H x.a (.ins qa x.dx (accF (S n).coin ((S n).purse-paid) ((S n).count+1) x.pr x.st))) i.h=some (.ins cHouse i.hd (hoF i tk)):=by rw[Zaj (o.hOut n x hn hx).1];exact o.ob
  have fr1:∀b,b≠x.a->(upd H x.a (.ins qa x.dx (accF (S n).coin ((S n).purse-paid) ((S n).count+1) x.pr x.st))) b=H b:=λb hb=>Zaj hb;generalize upd H x.a _=H1 at r1 hh fr1 |-;exists Zcu hh Y.b.k.cl Y.b.n_takings rfl ?_;exists⟨i.hd,_,hh,by show 3<1000;decide,?_⟩;have et:putF "takings" (.int (tk+paid)) (hoF i tk)=hoF i (tk+paid):=rfl;rw[et];have hou:=o.hOut;refine k _ (λb u e nb=>?_) (o.ro_ (λb u e ob nb=>by rw[Zaj nb,fr1 b (ob n x hn hx).1];exact e) Zad ?_ ?_)
  .rw [Zaj (λz=>nb (.inl z)),fr1 b (λz=>nb (.inr (.inr (.inr λw=>(w n x hn hx).1 z))))];exact e
  .exact r1.ins hh hou _
  .exact o.ba.paid hx paid
def ZgM:iY Y 3 cHouse "coin_of" (spOf K qa cStamps cHouse AcS.coin):=by
 refine ZaE ["self","slot"] Y.b0 Y.b.k.cl ?_
 .symm;let⟨i,Ar,S,tk,P,n,x,rfl,o,hn,hx,k⟩:=h;refine⟨_,(Wb (Zap (Zam (ZbL Y) (Zaa (Zap (pv 0)) (Wa (pv 1)))) rfl)),?_⟩;left;exists Zah o.ob Y.b.k.cl Y.b.n_rooms rfl ?_;exists⟨i.R,Ar,S,40,n,x,rfl,o.ro,hn,hx,?_⟩;exists Zah (o.ro.ac n x hn hx).ob Y.c.k.cl Y.c.n_coin rfl ?_;exact k
def ZfV:iY Y 3 cHouse "purse_of" (spOf K qa cStamps cHouse AcS.purse):=by
 refine ZaE ["self","slot"] Y.b1 Y.b.k.cl ?_
 .symm;let⟨i,Ar,S,tk,P,n,x,rfl,o,hn,hx,k⟩:=h;refine⟨_,(Wb (Zap (Zam (ZbL Y) (Zaa (Zap (pv 0)) (Wa (pv 1)))) rfl)),?_⟩;left;exists Zah o.ob Y.b.k.cl Y.b.n_rooms rfl ?_;exists⟨i.R,Ar,S,40,n,x,rfl,o.ro,hn,hx,?_⟩;exists Zah (o.ro.ac n x hn hx).ob Y.c.k.cl Y.c.n_purse rfl ?_;exact k
def ZfW:iY Y 3 cHouse "count_of" (spOf K qa cStamps cHouse AcS.count):=by
 refine ZaE ["self","slot"] Y.b2 Y.b.k.cl ?_
 .symm;let⟨i,Ar,S,tk,P,n,x,rfl,o,hn,hx,k⟩:=h;refine⟨_,(Wb (Zap (Zam (ZbL Y) (Zaa (Zap (pv 0)) (Wa (pv 1)))) rfl)),?_⟩;left;exists Zah o.ob Y.b.k.cl Y.b.n_rooms rfl ?_;exists⟨i.R,Ar,S,40,n,x,rfl,o.ro,hn,hx,?_⟩;exists Zah (o.ro.ac n x hn hx).ob Y.c.k.cl Y.c.n_count rfl ?_;exact k
def ZeH:iY Y 3 cHouse "program_of" (Zwf K qa cStamps cHouse):=by
 refine ZaE ["self","slot"] Y.b3 Y.b.k.cl ?_
 .symm;let⟨i,Ar,S,tk,P,n,x,rfl,o,hn,hx,k⟩:=h;refine⟨_,(Wb (ZaJ ZjJ rfl Y.m YaQ (Wa (Zap (Zam (ZbL Y) (Zaa (Zap (pv 0)) (Wa (pv 1)))) rfl)))),?_⟩;left;exists Zah o.ob Y.b.k.cl Y.b.n_rooms rfl ?_;exists⟨i.R,Ar,S,40,n,x,rfl,o.ro,hn,hx,?_⟩;have ax:=o.ro.ac n x hn hx;exists Zah ax.ob Y.c.k.cl Y.c.n_program rfl ?_;ext;let⟨xs,g1,g2⟩:=ax.pg;refine ZgV (Zal g1) λl hl=>?_;exact k l xs _ (Same.new hl) hl Zad (g2.keep (Same.new hl).imm)
omit Y
noncomputable def newS(c p:Int)(rs:XW):AcS:=⟨c,p,0,rs,λ_=>0⟩
inductive Zwg(K:Ydg)(cA cT cH:XB)(vs:XF)(H:Hp)(Q:VK)(E9:XK):Prop
 |mk(i:HoI)(A:XC)(S:XL)(tk:Int)(P:XQ)(n:Nat)(c p:Int)(l:XB)(xs:XF)(rs:XW):vs=[.ref i.h,.int (n:Int),.int c,.int p,.ref l]->HoAt K cA cT cH H i A S tk P->SqL K H l xs->RowsAt K H rs xs->xs.length<=1000->n<16->A n=none->isN c->isN p->Zbe rs=true->sumsOk A S tk c p->Safe i.ps rs->(∀x H',H x.a=none->H x.st=none->H x.pr=none->KeptX (inHo i A) H H'->HoAt K cA cT cH H' i (setO A n x) (setS S n (newS c p rs)) tk (setP P n (plainS (newS c p rs)))->Q .non H')->Zwg K cA cT cH vs H Q E9
def Zkt{A:XC}(f:Nat->Int)(h:∀j,j<16->A j=none->f j=0):sumA A f=((List.range 16).map f).sum:=by
 unfold sumA;congr 1;refine YaK λj hj=>?_;cases e:A j with
 |none=>rw[if_neg (by simp),h j (Y6.mp hj) e]
 |some x=>rw[if_pos (by simp)]
def Bare.add{ps:XD}{A:XC}{S:XL}(h:Bare ps A S){n:Nat}(hn:n<16)(ha:A n=none){x:AcI}{c p:Int}{rs:XW}(hc:isN c)(hr:Zbe rs=true)(hs:Safe ps rs)(hsum:sumA A (λj=>(S j).coin)+c<18446744073709551616):Bare ps (setO A n x) (setS S n (newS c p rs)):=by
 have e:∀j,(j=n/\setS S n (newS c p rs) j=newS c p rs)\/(j≠n/\setS S n (newS c p rs) j=S j):=λj=>by
  unfold setS;by_cases z:j=n
  .exact .inl ⟨z,if_pos z⟩
  .exact .inr ⟨z,if_neg z⟩
 refine⟨h.len,⟨λj q=>?_,λj hj=>?_,?_⟩,λj y hj hy=>?_,λj hj hy=>?_⟩
 .rcases e j with⟨_,w⟩|⟨_,w⟩
  .rw [w];exact⟨⟨Y9 0,by show(0:Int)<18446744073709551616;decide⟩,λz=>absurd rfl z⟩
  .rw [w];exact h.so.st j q
 .rcases e j with⟨_,w⟩|⟨_,w⟩
  .rw [w];exact hc.1
  .rw [w];exact h.so.co j hj
 .unfold totalC;rw[Zid AcS.coin S hn,<- Zkt (A:=A) (λj=>(S j).coin) (λj hj z=>(h.no j hj z).1),(h.no n hn ha).1];show sumA A (λj=>(S j).coin)-0+c<_;omega
 .rcases ZcB j y hy with⟨rfl,rfl⟩|⟨z,gy⟩
  .rcases e j with⟨_,w⟩|⟨z,_⟩
   .rw [w];exact⟨hr,hs⟩
   .exact absurd rfl z
  .rcases e j with⟨w,_⟩|⟨_,w⟩
   .exact absurd w z
   .rw [w];exact h.rw_ j y hj gy
 .have:A j=none/\j≠n:=by
   unfold setO at hy;split at hy
   .cases hy
   .rename_i z;exact⟨hy,z⟩
  rcases e j with⟨w,_⟩|⟨_,w⟩
  .exact absurd w this.2
  .rw [w];exact h.no j hj this.1
def HoAt.add{K:Ydg}{cA cT cH:XB}{H3 H4:Hp}{i:HoI}{A:XC}{S:XL}{tk c p:Int}{P:XQ}{n:Nat}{x dx pr st:XB}{rs:XW}(o3:HoAt K cA cT cH H3 i A S tk P)(o4:HoAt K cA cT cH H4 i A S tk P)(hn:n<16)(nx:H3 x=none)(nst:H3 st=none)(npr:H3 pr=none)(sF:Same H3 H4)(AC:AcAt K cA H4 x dx pr st c p 0 rs (λ_=>0) 0)(hb:Bare i.ps (setO A n ⟨x,dx,pr,st⟩) (setS S n (newS c p rs))) :
  HoAt K cA cT cH (upd H4 i.R (.lst (((List.range 16).map λj=>roomV (A j)).set n (.ref x)))) i (setO A n ⟨x,dx,pr,st⟩) (setS S n (newS c p rs)) tk P:=by
 have hRo:=o4.ro.ob;have hob:=AC.ob;have nRx:x≠i.R:=Za3 hob hRo nofun;have a:=o4.st;have nw:=o3.newN npr;have e6:Acc K cA (upd H4 i.R (.lst (((List.range 16).map λj=>roomV (A j)).set n (.ref x)))) ⟨x,dx,pr,st⟩ (newS c p rs) 0:=by
  let⟨xs,g1,g2⟩:=AC.pg;let⟨kvs,g3,g4⟩:=AC.sto;refine⟨by rw[Zaj nRx];exact hob,⟨xs,by rw[Zaj nw.R];exact g1,?_⟩,kvs,by rw[Zaj (YR (Zai o3.ro.ob nst))];exact g3,g4⟩;exact g2.keep (SameI.upd hRo Za4)
 have r6:Rooms K cA (upd H4 i.R (.lst (((List.range 16).map λj=>roomV (A j)).set n (.ref x)))) i.R (setO A n ⟨x,dx,pr,st⟩) (setS S n (newS c p rs)) 40:=o3.ro.add hn Zad (e6.le (YO _)) (λb u e nb _=>by rw[Zaj nb];exact sF _ _ e) (λj y hj hy=>by
  let⟨kvs,g,_⟩:=(o3.ro.ac j y hj hy).sto;rw[Zaj (Za3 (sF _ _ g) hRo nofun),g];exact sF _ _ g) (λj y hj hy=>(o3.np j y hj hy).2) nx nst
 refine⟨by rw[Zaj (Za3 o4.ob hRo nofun)];exact o4.ob,r6,⟨by rw[Zaj (Za3 a.ob hRo nofun)];exact a.ob,a.nd,by rw[Zaj (λz=>o4.nR (by rw[<- z];exact Y1 ..))];exact a.lv.ob,a.lv.ln,λk y hy=>?_⟩,o4.nR,λj y hj hy=>?_,hb⟩
 .rw [Zaj (λz=>o4.nR (by rw[<- z];exact Yo _ (Yn hy)))];exact a.lv.rw_ k y hy
 .rcases ZcB j y hy with⟨rfl,rfl⟩|⟨z,gy⟩
  .exact ⟨nw.q,nw.R⟩
  .exact o4.np j y hj gy
include Y
def ZiJ:iY Y 5 cHouse "admit" (Zwg K qa cStamps cHouse):=by
 refine ZaE ["self","slot","coin","purse","program"] Y.b4 Y.b.k.cl ?_
 .symm;let⟨i,Ar,S,tk,P,n,c0,p0,l0,xs,rs,rfl,o,hl0,hrs,hxl,hn,ha,hc,hp,hr2,hsu,sf,k⟩:=h;refine⟨_,(Zac (Zay (Zam (Zfs Y) (Wa (pv 1)))) (Zac (ZaG (Zas ZnD (Zaq Zan (Zap (pv 0)) (pv 1)) Zbl) (Zaf Za8) Zat) (Zac (Zay (Zam (Zdg Y) (Wa (ZaI (Zaa (pv 2) (Wa (pv 3))))))) (Zac (ZaG (ZbP (ZbN (Zam (Zoa Y) (Wa (pv 4))))) (Zaf Za8) Zat) (Zac (Zay (ZaB (ZeE Y) (hr.mono nofun) (pv 0) (Zaa (pv 2) (Wa (pv 3))))) (Zac (Znp (Zer (Zew Y) (hr.mono nofun) rfl (Zaa (pv 2) (Zaa (pv 3) (Wa (pv 4))))) (Zpv (Zap (pv 0)) (pv 1) ZjB)) (Zaf (Zay (ZaB (Zco Y) (hr.mono nofun) (pv 0) (Wa (pv 1))))))))))),?_⟩;left;exists⟨n,rfl,hn,?_⟩;exists Zah o.ob Y.b.k.cl Y.b.n_rooms rfl ?_;exists ZaA (Zal o.ro.ob) (Zl2 hn ha) ?_;exists⟨show 2<=sizeLine by decide,λq hq=>?_⟩;have s1:=Same.new hq (o:=.lst [.int c0,.int p0]);have gq:(upd H q (.lst [.int c0,.int p0])) q=some (.lst (([c0,p0]:XD).map V.int)):=Zad;generalize upd H q _=H1 at s1 gq |-;refine⟨q,[c0,p0],rfl,Zal gq,two_n hc hp,?_⟩;exists⟨l0,xs,rs,rfl,s1.seq hl0,hrs.keep s1.imm,hxl,λH2 s2=>?_⟩;have s12:=s1.trans s2;have o2:=o.same s12;rw[hr2];exists Zar o2.ob rfl ?_;exists⟨i,Ar,S,tk,P,c0,p0,rfl,o2,hsu,λH3 s3=>?_⟩;have s13:=s12.trans s3;have o3:=o.same s13;ext;intro x dx hx hdx hxd;have smx:Same H3 (upd (upd H3 dx (.own x)) x (.ins qa dx [])):=(Same.new hdx).newT (by rw[Zaj (YR hxd)];exact hx);refine⟨x,dx,l0,c0,p0,xs,rs,rfl,Zad,smx.seq (s13.seq hl0),(hrs.keep s13.imm).keep smx.imm,λpr st H4 hpr hst hps AC kp=>⟨rfl,?_⟩⟩;have sF:=Same.made hx hdx kp;have o4:=o3.same sF;have hRo:=o4.ro.ob;have nx:H3 x=none:=hx;have nst:H3 st=none:=smx.fresh hst;have npr:H3 pr=none:=smx.fresh hpr;have hRlen:((List.range 16).map λj=>roomV (Ar j)).length=16:=by rw[Ya,Yaa]
  exists Zah o4.ob Y.b.k.cl Y.b.n_rooms rfl ?_;exists ZmA hRo (ZmB (j:=n) rfl (by rw[hRlen];exact hn)) ?_;have o5:HoAt K qa cStamps cHouse (upd H4 i.R (.lst (((List.range 16).map λj=>roomV (Ar j)).set n (.ref x)))) i (setO Ar n ⟨x,dx,pr,st⟩) (setS S n (newS c0 p0 rs)) tk P:=o3.add o4 hn nx nst npr sF AC (o3.ba.add hn ha hc hr2 sf hsu.1);have kR:KeptX (inHo i Ar) H4 (upd H4 i.R (.lst (((List.range 16).map λj=>roomV (Ar j)).set n (.ref x)))):=λb u e nb=>by rw[Zaj (λz=>nb (.inr (.inl z)))];exact e
  generalize upd H4 i.R _=H5 at o5 kR |-;exists Zar o5.ob rfl ?_;exists⟨i,_,_,tk,P,n,rfl,o5,hn,λH6 k6 o6=>?_⟩;have epl:plainN (setO Ar n ⟨x,dx,pr,st⟩) (setS S n (newS c0 p0 rs)) n=plainS (newS c0 p0 rs):=by
   unfold plainN setO setS;rw[if_pos rfl,if_pos rfl]
  rw[epl]at o6;exact k ⟨x,dx,pr,st⟩ H6 (s13.fresh nx) (s13.fresh nst) (s13.fresh npr) (((s13.trans sF).keptX.trans kR).trans (k6.mono λb hb=>.inr (.inr (.inl hb)))) o6
def ZfY:jY Y 6 "House" cHouse (Zwe K qa cStamps cHouse):=by
 refine Zdt ["self"] Y.b5 Y.b.k ?_
 .symm;let⟨a,dx,ps,rfl,ha,hps,k⟩:=h;refine⟨_,(Zac (ZaS (pv 0) (Zaw Zui (ZaI (Wa Zbl)) (ZaW rfl Y.v)) rfl) (Zac (ZaS (pv 0) (Zer (Zfp Y) (hr.mono nofun) rfl (Wa (Zaw Zui (ZaI (Wa (Zam (Zke Y) (Wa (ZaI Zab))))) (ZaW rfl Y.v)))) rfl) (Zaf (ZaS (pv 0) Zag rfl)))),?_⟩;left;exists⟨show 1<=sizeLine by decide,λz hz=>?_⟩;exists⟨z,16,[.non],rfl,rfl,Zad,nofun,nofun,nofun,λR hR0=>?_⟩;have e16:(List.replicate (Int.toNat 16) [V.non]).flatten=(List.range 16).map λi=>roomV ((λ_=>none:XC) i):=rfl;rw[e16];have s1:Same H (upd (upd H z (.lst [.non])) R (.lst ((List.range 16).map λi=>roomV ((λ_=>none:XC) i)))):=(Same.new hz).newT hR0;have gR:(upd (upd H z (.lst [.non])) R (.lst ((List.range 16).map λi=>roomV ((λ_=>none:XC) i)))) R=some (.lst ((List.range 16).map λi=>roomV ((λ_=>none:XC) i))):=Zad;have nR:H R=none:=(Same.new hz).fresh hR0;generalize upd (upd H z (.lst [.non])) R _=H1 at s1 gR |-;exists ZaD (s1 _ _ ha) Y.b.k.cl Y.b.n_rooms nofun ?_;have ka:∀b o,H1 b=some o->b≠a->(upd H1 a (.ins cHouse dx [("rooms",.ref R)])) b=some o:=λb o e nb=>by rw[Zaj nb];exact e
  have ga:(upd H1 a (.ins cHouse dx [("rooms",.ref R)])) a=some (.ins cHouse dx [("rooms",.ref R)]):=Zad;have na:∀b,(upd H1 a (.ins cHouse dx [("rooms",.ref R)])) b=none->H1 b=none:=λb e=>(ZtE e).2;dsimp only[putF];generalize upd H1 a _=H2 at ka ga na |-;exists⟨show 0<=sizeLine by decide,λl0 hl0=>?_⟩;have s2:=Same.new hl0 (o:=.lst []);have gl0:(upd H2 l0 (.lst [])) l0=some (.lst (([]:XD).map V.int)):=Zad;generalize upd H2 l0 _=H3 at s2 gl0 |-;exists⟨l0,[],rfl,Zal gl0,nofun,λH4 s4=>?_⟩;obtain⟨sv,esv⟩:∃sv,ZbV []=sv:=⟨_,rfl⟩;rw[esv];exists⟨show 1<=sizeLine by decide,λl1 hl1=>?_⟩;exists⟨l1,16,[.int sv],rfl,rfl,Zad,nofun,nofun,show 1*16<=sizeLine by decide,λl2 hl2=>?_⟩;have es:(List.replicate (Int.toNat 16) [V.int sv]).flatten=(List.replicate 16 sv).map V.int:=rfl;rw[es];have s5:Same H2 (upd (upd H4 l1 (.lst [.int sv])) l2 (.lst ((List.replicate 16 sv).map V.int))):=((s2.trans s4).newT hl1).newT hl2;have gl2:(upd (upd H4 l1 (.lst [.int sv])) l2 (.lst ((List.replicate 16 sv).map V.int))) l2=some (.lst ((List.replicate 16 sv).map V.int)):=Zad;generalize upd (upd H4 l1 _) l2 _=H5 at s5 gl2 |-;ext;intro t tdx ht htdx htd;have smt:Same H5 (upd (upd H5 tdx (.own t)) t (.ins cStamps tdx [])):=(Same.new htdx).newT (by rw[Zaj (YR htd)];exact ht);refine⟨t,tdx,l2,List.replicate 16 sv,4,rfl,Zad,smt.seq (Zal gl2),Ych ..,nofun,λq qs H6 k6 hq hqs S6=>⟨rfl,?_⟩⟩;have s6:=Same.made ht htdx k6;have s26:=s5.trans s6;exists ZaD (s26 _ _ ga) Y.b.k.cl Y.b.n_stamps (by show 1<1000;decide) ?_;have ga2:(upd H6 a (.ins cHouse dx [("rooms",.ref R),("stamps",.ref t)])) a=some (.ins cHouse dx [("rooms",.ref R),("stamps",.ref t)]):=Zad;exists ZaD ga2 Y.b.k.cl Y.b.n_takings (by show 2<1000;decide) ?_;rw[ZaO];have nw:∀b,H5 b=none->H b=none/\b≠a:=λb e=>by
   have e2:=s5.fresh e;refine⟨s1.fresh (na b e2),λz=>?_⟩;rw[z,ga]at e2;cases e2
  have nt:=nw t ht;have nq:=nw q (smt.fresh hq);have nqs:∀x∈qs,H x=none/\x≠a:=λx hx=>nw x (smt.fresh (hqs x hx));have nR2:R≠a:=λz=>by rw[z,ha]at nR;cases nR
  have hR2:H2 R=some (.lst ((List.range 16).map λi=>roomV ((λ_=>none:XC) i))):=ka _ _ gR nR2;have hR5:=s5 _ _ hR2;have nRq:R∉q::qs:=λz=>by
   rcases Yh.mp z with z|z
   .have:=smt.fresh hq;rw[<- z,hR5]at this;cases this
   .have:=smt.fresh (hqs R z);rw[hR5]at this;cases this
  have ef:putF "takings" (.int 0) [("rooms",V.ref R),("stamps",.ref t)]=hoF ⟨a,dx,R,t,tdx,q,qs,ps⟩ 0:=rfl;have est:stP (λ_=>[])=List.replicate 16 sv:=by
   unfold stP;dsimp only;rw[esv];rfl
  refine k ⟨a,dx,R,t,tdx,q,qs,ps⟩ _ rfl rfl (λb u e nb=>?_) ⟨by rw[Zad];exact Y3 some rfl,?_,(by rw[est];exact⟨by rw[Zaj nt.2];exact S6.ob,S6.nd,by rw[Zaj nq.2];exact S6.lv.ob,S6.lv.ln,λj x hx=>by rw[Zaj (nqs x (Yn hx)).2];exact S6.lv.rw_ j x hx⟩),nRq,λ_ _ _ z=>(nomatch z),Bare.at0 ps hps⟩
  .refine ⟨by rw[Zaj nb];exact s26 _ _ (ka _ _ (s1 _ _ e) nb),nb,Zai e nR,Zai e nt.1,λz=>?_,λ_ _ _ z=>(nomatch z)⟩;rcases Yh.mp z with z|z
   .rw [z,nq.1]at e;cases e
   .rw [(nqs b z).1]at e;cases e
  .exact Rooms.empty (by rw[Zaj nR2];exact s6 _ _ hR5) _
omit Y
section
variable{K:Ydg}{cA cT cH:XB}{H H':Hp}{i:HoI}{A:XC}{S S':XL}{tk:Int}{P:XQ}{b:XB}
def HoAt.deed{C dx:XB}{d:Dd}(o:HoAt K cA cT cH H i A S tk P)(hb:H b=some (.ins C dx (fldD d))):¬inHo i A b:=by
 rintro(z|z|z|z)
 .subst z;rw[o.ob]at hb;cases d<;>cases hb
 .subst z;rw[o.ro.ob]at hb;cases hb
 .obtain ⟨xs,e⟩:=o.st.list (Yo _ z);rw[e]at hb;cases hb
 .refine z λj x hj hx=>?_;have h:=o.ro.ac j x hj hx;let⟨kvs,g2,_⟩:=h.sto;exact⟨Zgq hb h.ob (by have:=Zg1 d;show _≠5;omega),Za3 hb g2 nofun⟩
def HoAt.imm(o:HoAt K cA cT cH H i A S tk P)(k:KeptX (inHo i A) H H'):SameI H H':=λb u e im=>by
 refine k b u e ?_;rintro(z|z|z|z)
 .rw [z,o.ob]at e;cases e;exact Zbv im
 .rw [z,o.ro.ob]at e;cases e;exact Za4 im
 .obtain ⟨xs,g⟩:=o.st.list (Yo _ z);rw[g]at e;cases e;exact Za4 im
 .refine z λj x hj hx=>?_;have h:=o.ro.ac j x hj hx;let⟨kvs,g2,_⟩:=h.sto;exact⟨λq=>by rw[q,h.ob]at e;cases e;exact Zbv im,λq=>by rw[q,g2]at e;cases e;exact Zhq im⟩
end
def ZtI{A:XC}{ds:Xg}(h:∀d∈ds,fitsD A d):Zh5 ds:=λd hd=>by
 have:=h d hd;cases d with
 |save s p o n=>
  let⟨i,x,rfl,hi,_⟩:=this;exact⟨trivial,λs p o n z=>by cases z;omega⟩
 |move s t k=>
  let⟨⟨i,x,rfl,hi,_⟩,j,y,rfl,hj,_⟩:=this;exact⟨⟨(),(),(),()⟩,λ_ _ _ _ z=>by cases z⟩
 |note s n=>exact⟨trivial,λ_ _ _ _ z=>by cases z⟩
def Ex(A:XC)(S:XL)(P:XQ):Prop:=∀j,j<16->P j=plainN A S j
theorem ZuF:∀(ds:Xg)(S:XL)(j:Nat),Zh5 ds->(j:Int)∉ds.flatMap touchD->runS S ds j=S j
 |[],_,_,_,_=>rfl
 |d::ds,S,j,hn,ht=>by
  rw[YaA,Yw,not_or]at ht;refine(ZuF ds (doneS S d) j (λe he=>hn e (Yo _ he)) ht.2).trans ?_;let⟨h1,h2⟩:=hn d (Y1 ..);have ht:=ht.1;cases d with
  |save s p o n=>
   have:=h2 s p o n rfl;show setS S s.toNat _ j=_;unfold setS;rw[if_neg λz=>ht (by rw[z];show((s.toNat:Nat):Int)∈[s];rw[Ye];omega)]
  |move s t k=>
   let⟨a,_,b,_⟩:=h1;have m1:s∈touchD (.move s t k)/\t∈touchD (.move s t k):=by
    show s∈(if s=t then[s]else[if t<s then t else s,if t>s then t else s])/\t∈(if s=t then[s]else[if t<s then t else s,if t>s then t else s]);by_cases h:s=t
    .rw [if_pos h,h];exact⟨Ye.mpr rfl,Ye.mpr rfl⟩
    .rw [if_neg h];by_cases h3:t<s
     .rw [if_pos h3,if_neg ()];simp
     .rw [if_neg h3,if_pos ()];simp
   have e1:j≠s.toNat:=λz=>ht (by rw[z,show((s.toNat:Nat):Int)=s by omega];exact m1.1);have e2:j≠t.toNat:=λz=>ht (by rw[z,show((t.toNat:Nat):Int)=t by omega];exact m1.2);show moved S _ _ k j=_;unfold moved setS;dsimp only;rw[if_neg e2,if_neg e1]
  |note s n=>rfl
def Zwh{ms:XD}{k zn:Nat}{f g P9:XQ}(h:∀j:Nat,j<16->P9 j=if(j:Int)∈ms.take k then f j else g j)(hz:ms[k]?=some (zn:Int)):∀j:Nat,j<16->setP P9 zn (f zn) j=if(j:Int)∈ms.take (k+1)then f j else g j:=λj hj=>by
 have e:ms.take (k+1)=ms.take k++[(zn:Int)]:=by rw[List.take_succ,hz];rfl
 unfold setP;by_cases z:j=zn
 .subst z;rw[if_pos rfl,e,if_pos (by simp)]
 .have q:(j:Int)∈ms.take (k+1)↔(j:Int)∈ms.take k:=by
   rw[e,Yw,Ye];exact⟨λw=>w.elim id λw=>absurd () z,.inl⟩
  rw[if_neg z,h j hj];simp only[q]
def ex_end{A:XC}{S:XL}{ds:Xg}{n:Nat}{paid:Int}{ms ms2:XD}{P P9:XQ}(hr:Zh5 ds)(h2:∀k,k∈ms2↔k∈ms++[(n:Int)])(hm:∀k,k∈ms↔k∈ds.flatMap touchD)(h:∀j:Nat,j<16->P9 j=if(j:Int)∈ms2 then plainN A (paidS (runS S ds) n paid) j else P j)(e:Ex A S P):Ex A (paidS (runS S ds) n paid) P9:=λj hj=>by
 rw[h j hj];split
 .rfl
 .rename_i z;rw[h2,Yw,not_or,hm,Ye]at z;have q:paidS (runS S ds) n paid j=S j:=by
   unfold paidS setS;rw[if_neg ()];exact ZuF ds S j hr z.1
  rw[e j hj];unfold plainN;rw[q]
def Lft(S S':XL):Prop:=totalC (List.range 16) S'=totalC (List.range 16) S/\∀j,(S' j).purse=(S j).purse/\(S' j).count=(S j).count/\(S' j).rows=(S j).rows
inductive spSend(K:Ydg)(cA cT cH:XB)(vs:XF)(H:Hp)(Q:VK)(E9:XK):Prop
 |mk(i:HoI)(A:XC)(S:XL)(tk:Int)(P:XQ)(s t:Nat)(c l w:Int):vs=[.ref i.h,.int (s:Int),.int (t:Int),.int c,.int l,.int w]->HoAt K cA cT cH H i A S tk P->Ex A S P->Lok A S s t c l w->(∀q (e:Str) (an us pd:Int) v4 v5 H' S' P',KeptX (inHo i A) H H'->HoAt K cA cT cH H' i A (paidS S' s pd) (tk+pd) P'->Ex A (paidS S' s pd) P'->Lft S S'->e.length<=10->In64 an->(10<=us/\us<=l)->(0<=pd/\pd<=us)->H' q=some (.tup [.str e,.int an,.int us,.int pd,v4,v5])->Q (.ref q) H')->spSend K cA cT cH vs H Q E9
inductive Zwi(K:Ydg)(cA cT cH:XB)(vs:XF)(H:Hp)(Q:VK)(E9:XK):Prop
 |mk(i:HoI)(A:XC)(S:XL)(tk:Int)(P:XQ)(s t:Nat)(c l w:Int):vs=[.ref i.h,.int (s:Int),.int (t:Int),.int c,.int l,.int w]->HoAt K cA cT cH H i A S tk P->Lok A S s t c l w->(∀q (e:Str) (an us pd:Int) v4 v5 H',KeptX (inHo i A) H H'->HoAt K cA cT cH H' i A S tk P->e.length<=10->In64 an->(10<=us/\us<=l)->(0<=pd/\pd<=us)->H' q=some (.tup [.str e,.int an,.int us,.int pd,v4,v5])->Q (.ref q) H')->Zwi K cA cT cH vs H Q E9
def Zca:FnScope ["self","sender","to","coin","limit","word","journal","told","slot"] ["self","sender","to","coin","limit","word"] (Zae (tQ 128 6)):=by walk_at"c"
def ZcK:FnScope ["self","sender","to","coin","limit","word","journal","told"] ["self","sender","to","coin","limit","word"] (Zae (tQ 128 7)):=by walk_at"c"
include Y
def Zku:Zs6 P w K mg base 51 cHouse "send" (spSend K qa cStamps cHouse) []:=by
 refine ZnU Y.b6 Y.b.k.cl Zca (λvs H Q E h=>?_) [] .nil (λT kV doc pm an cdv ct us hl=>bd6 (R:=λus=>∃k:Option (Array Value)->Sem (List (Str×Value)),bindArgs _ ⟨us,[]⟩=seqItems? (.ref T) >>=k/\k (some _)=pure (List.zip _ (us++[]))) (λ_ _ _ _ _ _=>⟨_,rfl,rfl⟩) us (by rw[Yc]at hl;exact hl)) (λf cdv A outer s H vs Q E hr h=>?_)
 .obtain ⟨i,A,S,tk,P,s,t,c,l,w,rfl,_⟩:=h;rfl
 .obtain ⟨i,Ar,S,tk,P,n,m,c0,l0,w0,rfl,o,hex,hL,kz⟩:=h;refine⟨_,(Zac (Zay (Zam (ZdL Y) (Zaa (Zap (pv 0)) (Zaa (pv 1) (Zaa (pv 2) (Zaa (pv 3) (Zaa (pv 4) (Wa (pv 5))))))))) (Zac (Zao (i:=6) Zca.nd (Zer (Zcm Y) (hr.mono nofun) rfl (Wa (Zap (pv 0))))) (Zac (Zao (i:=7) Zca.nd (Zam (Zjv Y) (Zaa (Zap (pv 0)) (Zaa (pv 6) (Zaa (pv 1) (Zaa (pv 2) (Zaa (pv 3) (Zaa (pv 4) (Wa (pv 5)))))))))) (Zac (Zay (ZaB (Zie Y) (hr.mono nofun) (pv 0) (Zaa (pv 1) (Wa (Zaq ZaK (pv 7) Zag))))) (Zac (ZbQ YV rfl (Zbc (Zau (ZjU rfl) rfl Y.r Ybf (Wa (ZaJ (ZmJ rfl) rfl Y.u Ycb (Wa (Zaw Zk5 (Zbn (Zfr Y) (hr.mono nofun) (pv 6)) (ZaI (Wa (pv 1))))))))) (ZaU (i:=8) Zca.nd) (Zaf (Zay (ZaB (Zco Y) (hr.mono nofun) (pv 0) (Wa (pv 8)))))) (Wb (pv 7))))))),?_⟩;left;exists Zah o.ob Y.b.k.cl Y.b.n_rooms rfl ?_;exists⟨i.R,Ar,S,40,n,m,c0,l0,w0,rfl,o.ro,hL,λH1 s1=>?_⟩;let⟨x,hx⟩:=hL.hx;let⟨y,hy⟩:=hL.hy;have hn:=hL.hn;have o1:=o.same s1;have r1:=o1.ro;exists Zah o1.ob Y.b.k.cl Y.b.n_rooms rfl ?_;ext;intro j jdx hj hjdx hjd;have hj2:(upd H1 jdx (.own j)) j=none:=by rw[Zaj (YR hjd)];exact hj
  have sj:Same H1 (upd (upd H1 jdx (.own j)) j (.ins qb jdx [])):=(Same.new hjdx).newT hj2;refine⟨j,jdx,i.R,rfl,Zad,λL hLL=>⟨rfl,?_⟩⟩;have nLj:L≠j:=λz=>by rw[z,Zad]at hLL;cases hLL
  have hL1:H1 L=none:=sj.fresh hLL;have s2:Same H1 (upd (upd (upd (upd H1 jdx (.own j)) j (.ins qb jdx [])) L (.lst [])) j (.ins qb jdx (jF i.R L))):=λb u e=>by
   rw[Zaj (Zai e hj),Zaj (Zai e hL1)];exact sj _ _ e
  have J2:Jr qb cSave qd cNote (upd (upd (upd (upd H1 jdx (.own j)) j (.ins qb jdx [])) L (.lst [])) j (.ins qb jdx (jF i.R L))) j jdx i.R L Ar []:=⟨Zad,by rw[Zaj nLj,Zad];rfl,λ_ h=>absurd h YL,YR (Zai r1.ob hL1),λi y hi hy=>by let⟨xs,e1,_⟩:=(r1.ac i y hi hy).pg;exact YR (Zai e1 hL1)⟩;have nJ:=o1.newN hj;have nL:=o1.newN hL1;generalize upd (upd (upd (upd H1 jdx (.own j)) j (.ins qb jdx [])) L (.lst [])) j _=H2 at s2 J2 |-;have o2:=o1.same s2;have s12:=s1.trans s2;have W2:Wd K qa qb cSave qd cNote H2 ⟨j,jdx,i.R,L,Ar,S,i.ps⟩ []:=⟨⟨[],rfl,J2⟩,o2.ro,trivial,o2.ba.so,λa y ha hy=>(o2.ba.rw_ a y ha hy).2,o2.ba.len⟩;exists Zah o2.ob Y.b.k.cl Y.b.n_rooms rfl ?_;exists⟨⟨j,jdx,i.R,L,Ar,S,i.ps⟩,n,m,c0,l0,w0,x,y,rfl,W2,⟨hn,hx⟩,⟨hL.hm,hy⟩,hL.hk,hL.hw,hL.co,⟨hL.l0,hL.l1⟩,λq e an us pd v4 v5 H3 ds W3 k3 he han hus hpd hdl gq=>?_⟩;let⟨es1,hes,J3⟩:=W3.J;have fit:∀d∈ds,fitsD Ar d:=λd hd=>by
   rw[<- hes]at hd;let⟨a,ha,rfl⟩:=YF.mp hd;exact(J3.de a ha).2
  have r3:=W3.r;have so3:=W3.so;have ri3:=W3.ri;have hel:es1.length<=9000:=by
   have:=Y3 List.length hes;rw[Ya]at this;rw[this];exact hdl
  clear W3;have hhn:i.h≠L:=YR nL.h;have ho2:=o2.hOut;have ba3:Bare i.ps Ar (runS S ds):=⟨o2.ba.len,so3,λj x hj hx=>by rw[(Zfk ds S j).2.2];exact o2.ba.rw_ j x hj hx,λj hj hn=>⟨(Zob ds S fit j hn).trans (o2.ba.no j hj hn).1,by rw[(Zfk ds S j).1];exact(o2.ba.no j hj hn).2⟩⟩;have o3:HoAt K qa cStamps cHouse H3 i Ar (runS S ds) tk P:=by
   exact o1.ro_ (λb u e ob nb=>k3 _ _ (s2 _ _ e) (λz=>z.elim (λw=>w ob) (λw=>by rw[w,hL1]at e;cases e))) (k3 _ _ o2.ob (λz=>z.elim (λw=>w ho2) hhn)) r3 ba3
  have hqT:SqT K H3 q [.str e,.int an,.int us,.int pd,v4,v5]:=Zb0 gq;clear ba3 r3 ri3 so3;exists Zar o3.ob rfl ?_;exists⟨i,Ar,_,tk,P,_,n,x,rfl,o3,hn,hx,λH4 k4 o4=>?_⟩;have J4:Jr qb cSave qd cNote H4 j jdx i.R L Ar es1:=⟨k4 _ _ J3.ob nJ.not,k4 _ _ J3.li nL.not,λe he=>⟨k4 _ _ (J3.de e he).1 (o3.deed (J3.de e he).1),(J3.de e he).2⟩,J3.nR,J3.np⟩;have k14:KeptX (inHo i Ar) H H4:=λb u e nb=>by
   have e1:=s1 _ _ e;refine k4 _ _ (k3 _ _ (s2 _ _ e1) (λz=>z.elim (λw=>nb (.inr (.inr (.inr w)))) (λw=>?_))) nb;rw[w,hL1]at e1;cases e1
  have nq:¬inHo i Ar q:=by
   rintro(z|z|z|z)
   .rw [z,o3.ob]at gq;cases gq
   .rw [z,o3.ro.ob]at gq;cases gq
   .obtain ⟨xs,e⟩:=o3.st.list (Yo _ z);rw[e]at gq;cases gq
   .refine z λa b ha hb=>?_;have h:=o3.ro.ac a b ha hb;let⟨kvs,g2,_⟩:=h.sto;exact⟨Za3 gq h.ob nofun,Za3 gq g2 nofun⟩
  have gq4:=k4 _ _ gq nq;have hnr:Zh5 (es1.map λe=>e.d):=by rw[hes];exact ZtI fit
  clear k3 J3 o3 gq hqT;exists ZbT (ZaY ?_);exists Zar J4.ob rfl ?_;exists⟨j,jdx,i.R,L,Ar,es1,rfl,J4,hel,hnr,λtl ms H5 s5 htl gtl hms hmm=>?_⟩;exists⟨show 1<=sizeLine by decide,λu hu=>?_⟩;have s6:=s5.newT hu (o:=.lst [.int (n:Int)]);have hmb:∀k∈ms++[(n:Int)],0<=k/\k<16:=λk hk=>by
   rcases Yw.mp hk with hk|hk
   .obtain ⟨d,hd,hk⟩:=Yb5.mp ((hmm k).mp hk);exact Zju (hnr d hd).1 (hnr d hd).2 k hk
   .rw [Ye]at hk;omega
  have hml:ms.length<=16:=by
   have:=Zfj ms ((List.range 16).map λa:Nat=>(a:Int)) (hms.imp λh=>Int.ne_of_lt h) λk hk=>by
    have hb:=hmb k (Yw.mpr (.inl hk));exact YF.mpr ⟨k.toNat,Y6.mpr (),()⟩
   rw[Ya,Yaa]at this;exact this
  clear hms;rw[hes]at hmm hnr;refine Zlh ((Same.new hu) _ _ gtl) Zad (by rw[Ya];exact Yj (show ms.length+1<=100 by omega) nofun) λcl hcl=>?_;have s7:=s6.newT hcl (o:=.lst (ms.map V.int++[.int (n:Int)]));have gcl:(upd (upd H5 u (.lst [.int (n:Int)])) cl (.lst (ms.map V.int++[.int (n:Int)]))) cl=some (.lst ((ms++[(n:Int)]).map V.int)):=by rw[Zad,YA];rfl
  generalize upd (upd H5 u (.lst [.int (n:Int)])) cl _=H7 at s7 gcl |-;exists ZmK (Zal gcl) hmb λz hz=>?_;exists ZjV Zad λms2 h1 h2 p hp=>?_;have s8:=(s7.newT hz).newT hp (o:=.lst (ms2.map V.int));have gp:(upd (upd H7 z (ZjT w (ms++[(n:Int)]) z)) p (.lst (ms2.map V.int))) p=some (.lst (ms2.map V.int)):=Zad;have np:=((o4.same (s7.newT hz (o:=ZjT w (ms++[(n:Int)]) z))).newN hp).not;generalize upd (upd H7 z (ZjT w (ms++[(n:Int)]) z)) p _=H8 at s8 gp |-;have o8:=o4.same s8;have gq8:=s8 _ _ gq4;have hb2:∀k∈ms2,0<=k/\k<16:=λk hk=>hmb k ((h2 k).mp hk);refine⟨p,rfl,⟨_,Zal gp⟩,ZbF (xs:=ms2.map V.int) (λtt U' H'=>KeptX (inHo i Ar) H8 H'/\(∃P',HoAt K qa cStamps cHouse H' i Ar (paidS (runS S ds) n (pd)) (tk+pd) P'/\∀j:Nat,j<16->P' j=if(j:Int)∈ms2.take tt then plainN Ar (paidS (runS S ds) n (pd)) j else P j)/\∃v,U'=[some (.ref i.h),some (.int (n:Int)),some (.int (m:Int)),some (.int c0),some (.int l0),some (.int w0),some (.ref j),some (.ref q),v]) ⟨KeptX.refl,⟨_,o8,λj _=>by rw[YbP,if_neg YL]⟩,_,rfl⟩ (λ_ U' H' _ ⟨e,_⟩=>Zal (e _ _ gp np)) ?_ ?_⟩
  .rintro k xx U' H' hxx ⟨k9,⟨P9,o9,hx9⟩,v,rfl⟩;rw[Yb]at hxx;let⟨z1,hz1,rfl⟩:=Yu.mp hxx;have hzb:=hb2 z1 (Yn hz1);obtain⟨zn,rfl⟩:∃zn:Nat,z1=(zn:Int):=⟨z1.toNat,()⟩;exists Zar o9.ob rfl ?_;exists⟨i,Ar,_,_,_,zn,rfl,o9,(),λH10 k10 o10=>?_⟩;exact⟨k9.trans (k10.mono λb hb=>.inr (.inr (.inl hb))),⟨_,o10,Zwh hx9 hz1⟩,_,rfl⟩
  .rintro U' H' ⟨k9,⟨P9,o9,hx9⟩,v,rfl⟩;rw[Ya,YK]at hx9;ext;exact kz q e an us pd v4 v5 H' (runS S ds) P9 ((k14.trans s8.keptX).trans k9) o9 (ex_end hnr h2 hmm hx9 hex) ⟨ZlQ (A:=Ar) Ybx (λi _ hi _=>Y6.2 hi) ds S fit,λj=>Zfk ds S j⟩ he han hus hpd (k9 _ _ gq8 nq)
def ZiK:Zs6 P w K mg base 51 cHouse "tried" (Zwi K qa cStamps cHouse) []:=by
 refine ZnU Y.b7 Y.b.k.cl ZcK (λvs H Q E h=>?_) [] .nil (λT kV doc pm an cdv ct us hl=>bd6 (R:=λus=>∃k:Option (Array Value)->Sem (List (Str×Value)),bindArgs _ ⟨us,[]⟩=seqItems? (.ref T) >>=k/\k (some _)=pure (List.zip _ (us++[]))) (λ_ _ _ _ _ _=>⟨_,rfl,rfl⟩) us (by rw[Yc]at hl;exact hl)) (λf cdv A outer s H vs Q E hr h=>?_)
 .obtain ⟨i,A,S,tk,P,s,t,c,l,w,rfl,_⟩:=h;rfl
 .obtain ⟨i,Ar,S,tk,P,n,m,c0,l0,w0,rfl,o,hL,kz⟩:=h;refine⟨_,(Zac (Zay (Zam (ZdL Y) (Zaa (Zap (pv 0)) (Zaa (pv 1) (Zaa (pv 2) (Zaa (pv 3) (Zaa (pv 4) (Wa (pv 5))))))))) (Zac (Zao (i:=6) ZcK.nd (Zer (Zcm Y) (hr.mono nofun) rfl (Wa (Zap (pv 0))))) (Zac (Zao (i:=7) ZcK.nd (Zam (Zjv Y) (Zaa (Zap (pv 0)) (Zaa (pv 6) (Zaa (pv 1) (Zaa (pv 2) (Zaa (pv 3) (Zaa (pv 4) (Wa (pv 5)))))))))) (Zac (Zay (ZaB (ZdH Y) (hr.mono nofun) (pv 6) (Wa Zag))) (Wb (pv 7)))))),?_⟩;left;exists Zah o.ob Y.b.k.cl Y.b.n_rooms rfl ?_;exists⟨i.R,Ar,S,40,n,m,c0,l0,w0,rfl,o.ro,hL,λH1 s1=>?_⟩;let⟨x,hx⟩:=hL.hx;let⟨y,hy⟩:=hL.hy;have hn:=hL.hn;have o1:=o.same s1;have r1:=o1.ro;exists Zah o1.ob Y.b.k.cl Y.b.n_rooms rfl ?_;ext;intro j jdx hj hjdx hjd;have hj2:(upd H1 jdx (.own j)) j=none:=by rw[Zaj (YR hjd)];exact hj
  have sj:Same H1 (upd (upd H1 jdx (.own j)) j (.ins qb jdx [])):=(Same.new hjdx).newT hj2;refine⟨j,jdx,i.R,rfl,Zad,λL hLL=>⟨rfl,?_⟩⟩;have nLj:L≠j:=λz=>by rw[z,Zad]at hLL;cases hLL
  have hL1:H1 L=none:=sj.fresh hLL;have s2:Same H1 (upd (upd (upd (upd H1 jdx (.own j)) j (.ins qb jdx [])) L (.lst [])) j (.ins qb jdx (jF i.R L))):=λb u e=>by
   rw[Zaj (Zai e hj),Zaj (Zai e hL1)];exact sj _ _ e
  have J2:Jr qb cSave qd cNote (upd (upd (upd (upd H1 jdx (.own j)) j (.ins qb jdx [])) L (.lst [])) j (.ins qb jdx (jF i.R L))) j jdx i.R L Ar []:=⟨Zad,by rw[Zaj nLj,Zad];rfl,λ_ h=>absurd h YL,YR (Zai r1.ob hL1),λi y hi hy=>by let⟨xs,e1,_⟩:=(r1.ac i y hi hy).pg;exact YR (Zai e1 hL1)⟩;have nJ:=o1.newN hj;have nL:=o1.newN hL1;generalize upd (upd (upd (upd H1 jdx (.own j)) j (.ins qb jdx [])) L (.lst [])) j _=H2 at s2 J2 |-;have o2:=o1.same s2;have s12:=s1.trans s2;have W2:Wd K qa qb cSave qd cNote H2 ⟨j,jdx,i.R,L,Ar,S,i.ps⟩ []:=⟨⟨[],rfl,J2⟩,o2.ro,trivial,o2.ba.so,λa y ha hy=>(o2.ba.rw_ a y ha hy).2,o2.ba.len⟩;exists Zah o2.ob Y.b.k.cl Y.b.n_rooms rfl ?_;exists⟨⟨j,jdx,i.R,L,Ar,S,i.ps⟩,n,m,c0,l0,w0,x,y,rfl,W2,⟨hn,hx⟩,⟨hL.hm,hy⟩,hL.hk,hL.hw,hL.co,⟨hL.l0,hL.l1⟩,λq e an us pd v4 v5 H3 ds W3 k3 he han hus hpd hdl gq=>?_⟩;let⟨es1,hes,J3⟩:=W3.J;have fit:∀d∈ds,fitsD Ar d:=λd hd=>by
   rw[<- hes]at hd;let⟨a,ha,rfl⟩:=YF.mp hd;exact(J3.de a ha).2
  have r3:=W3.r;have so3:=W3.so;have ri3:=W3.ri;have hel:es1.length<=9000:=by
   have:=Y3 List.length hes;rw[Ya]at this;rw[this];exact hdl
  clear W3;have hhn:i.h≠L:=YR nL.h;have ho2:=o2.hOut;exists Zar J3.ob rfl ?_;exists⟨j,jdx,i.R,L,Ar,S,40,es1,0,rfl,J3,by rw[hes];exact r3,by rw[hes];exact ri3,(),λH4 k4 r4 _ J4=>?_⟩;have r4:Rooms K qa H4 i.R Ar S (40+es1.length):=r4;have k34:KeptX (λb=>¬Out Ar b\/b=L) H3 H4:=λb u e nb=>by
   rw[k4 b (YbR λz=>nb (.inl z)) λz=>nb (.inr z)];exact e
  have k24:=k3.trans k34;have o4:HoAt K qa cStamps cHouse H4 i Ar S tk P:=by
   exact o1.ro_ (λb u e ob nb=>k24 _ _ (s2 _ _ e) (λz=>z.elim (λw=>w ob) (λw=>by rw[w,hL1]at e;cases e))) (k24 _ _ o2.ob (λz=>z.elim (λw=>w ho2) hhn)) (r4.tightP o2.ba.so o2.ba.len) o2.ba
  have k14:KeptX (inHo i Ar) H H4:=λb u e nb=>by
   have e1:=s1 _ _ e;refine k24 _ _ (s2 _ _ e1) (λz=>z.elim (λw=>nb (.inr (.inr (.inr w)))) (λw=>?_));rw[w,hL1]at e1;cases e1
  have gq4:H4 q=some (.tup [.str e,.int an,.int us,.int pd,v4,v5]):=k34 _ _ gq (by
   rintro(z|z)
   .refine z λa b ha hb=>?_;have h:=r3.ac a b ha hb;let⟨kvs,g2,_⟩:=h.sto;exact⟨Za3 gq h.ob nofun,Za3 gq g2 nofun⟩
   .rw [z,J3.li]at gq;cases gq)
  ext;exact kz q e an us pd v4 v5 H4 k14 o4 he han hus hpd gq4
omit Y
noncomputable def readN(ds:XJ):Option Nat:=
 if ds.length=0\/20<ds.length then none else if ds.all isDig=true then(if 18446744073709551616<=dval ds\/(ds[0]?=some 48/\1<ds.length)then none else some (dval ds))else none
noncomputable def wellN(ds:XJ):Bool:=decide (1<=ds.length)&&decide (ds.length<=20)&&!(decide (ds[0]?=some 48)&&decide (1<ds.length))&&ds.all isDig
def Zpi{ds:XJ}(h:wellN ds=true):readN ds=if 18446744073709551616<=dval ds then none else some (dval ds):=by
 unfold wellN at h;simp only[Yq,Ya2,Yr,Bool.and_eq_false_iff,Yb0]at h;let⟨⟨⟨h1,h2⟩,h3⟩,h4⟩:=h;unfold readN;rw[if_neg (),if_pos h4];by_cases hw:18446744073709551616<=dval ds
 .rw [if_pos (.inl hw),if_pos hw]
 .rw [if_neg hw,if_neg];rintro(z|z)
  .exact hw z
  .exact h3.elim (λq=>q z.1) (λq=>q z.2)
def ZrH{ds:XJ}(h:wellN ds=false):readN ds=none:=by
 unfold readN;split
 .rfl
 rename_i h1;split
 .rename_i h2;split
  .rfl
  .rename_i h3;exfalso;unfold wellN at h;rw[h2,YG (),YG ()]at h;simp only[Bool.and_true,YaE,Bool.not_eq_false',Yq,Yr]at h;exact h3 (.inr h)
 .rfl
def ZrI{ds:XJ}(h:ds.length=0\/20<ds.length):wellN ds=false:=by
 unfold wellN;rcases h with h|h
 .rw [YD ()];rfl
 .rw [YD (p:=ds.length<=20) (),Yco];rfl
def Znd{ds:XJ}(h:ds[0]?=some 48)(h1:1<ds.length):wellN ds=false:=by
 unfold wellN;rw[YG h,YG h1];simp
def Zod{ds:XJ}(h1:1<=ds.length)(h2:ds.length<=20)(h3:ds[0]?≠some 48\/ds.length<=1):wellN ds=ds.all isDig:=by
 unfold wellN;rw[YG h1,YG h2];have:(decide (ds[0]?=some 48)&&decide (1<ds.length))=false:=by
  rcases h3 with h|h
  .rw [YD h];rfl
  .rw [YD (p:=1<ds.length) (),Yco]
 rw[this];simp
def spWell:Sp:=λvs H Q _=>∃z,vs=[.str z]/\z.length<=sizeLine/\∀H',Same H H'->Q (.bl (wellN z.cps.toList)) H'
def Zwj:Sp:=λvs H Q _=>∃z,vs=[.str z]/\z.length<=sizeLine/\∀H',Same H H'->Q (optV (readN z.cps.toList)) H'
def ZtJ{z:Str}{c:Nat}(e:z.cps.toList[0]?=some c):(⟨#[c]⟩:Str)=Str.ofString "0"↔z.cps.toList[0]?=some 48:=by
 rw[e];constructor
 .intro h;have:#[c]=#[48]:=Y3 Str.cps h;simp at this;rw[this]
 .intro h;cases h;rfl
def Zoe{z:Str}(h:z.cps.toList[0]?=some 48):z=Str.ofString "0"↔z.length=1:=by
 constructor
 .rintro rfl;rfl
 .intro hl;have hl2:z.cps.toList.length=1:=by rw[Zmx];exact hl
  cases e:z.cps.toList with
  |nil=>rw[e]at hl2;cases hl2
  |cons a r=>
   rw[e]at h hl2;cases h;cases r with
   |nil=>
    let⟨cps⟩:=z;have:cps=#[48]:=by
     apply Array.ext';exact e
    rw[this];rfl
   |cons b r=>simp at hl2
def ZrJ(z:Str):((z.cps.toList.map isDig).all id)=z.cps.toList.all isDig:=by
 rw[YbN];rfl
def Zgv:FnScope ["text","whole"] ["text"] (Zae (top 29)):=by walk_at"c"
include Y
def Zig:mY Y 1 "well_written" spWell:=by
 refine Zax ["text"] Y.b8 ?_
 .symm;let⟨z,rfl,hz,k⟩:=h;refine⟨_,(Zac (ZaG (ZbP (ZgS ZeQ ZeQ Zag (Zau Zqn rfl Y.d Ys (Wa (pv 0))) (ZaW rfl Y.b9))) (Wb ZcD) Zat) (Zac (ZaG (PW.pt (ZkT (Zas Zbf (Zaq ix_str (pv 0) Zag) Zav) (Zha (Zas ZfC (pv 0) Zav)))) (Wb ZcD) Zat) (Wb (Zau (Zur rfl) rfl Y.A PyProof.Rows.boot_all (Wa (ZbJ ["sign"] rfl (show CompScope (Zae (top 28)) ["text"] ["sign"] _ by walk_at"p") (pi_str (pv 0)) (λ_ _ _ _ _=>(Zbi (i:=0) (show(["sign","text"]:XN).Nodup by decide +kernel) rfl (Or.inl rfl) (.inr rfl))) (λ_ _ _ _ _=>ZbI) (λ_ _ _ _ _=>(ZbB op_inS (pv 0) (ZaW rfl Y.ca) rfl)))))))),?_⟩;left;have hl:=Zmx z;repeat' walk_at"rdk"
  .exact ZbA (by rw[ZrI (.inr ())]) (k H (Same.refl _))
  .have e0:∃c,z.cps.toList[0]?=some c:=⟨z.cps.toList[0]'(),Yd _⟩;let⟨c0,e0⟩:=e0;have sh:=ZtJ e0;refine rd_ixS hz (ZaL (i:=0) e0 rfl) ?_;repeat' walk_at"rdk"
   .rename_i ha hb;exact ZbA (by rw[Znd (sh.mp ha) (by have:=mt (Zoe (sh.mp ha)).mpr hb;omega)]) (k H (Same.refl _))
   all_goals
    refine Zbk (Zvc ?_);repeat walk_at"rdk"
    refine⟨z,rfl,λq hq=>?_⟩;refine ZsF (ys:=(z.cps.toList.map isDig).map V.bl) hq (by rw[Ya,Ya,hl]) hz ?_ ?_
    .intro i c y H' Q' hc hy sm q';rw[Yb,Yb,show z.cps.toList[i]?=some c by simpa using hc]at hy;cases hy;repeat walk_at"rdk"
     exact ZbA (Y3 V.bl (in_fig c)) q'
    .repeat walk_at"rdk"
     refine Zus Zmq ?_;refine ZbA ?_ (k _ (Same.new hq));rw[ZrJ]
     first
      |(rename_i ha hb;exact Y3 V.bl (Zod () () (.inr (by have:=(Zoe (sh.mp ha)).mp hb;omega))).symm)
      |(rename_i ha;exact Y3 V.bl (Zod () () (.inl λq=>ha (sh.mpr q))).symm)
  .exact ZbA (by rw[ZrI (.inl ())]) (k H (Same.refl _))
def ZdN:mY Y 2 "number_of" Zwj:=by
 refine Zax _ Y.cb ?_ _ Zgv
 .symm;let⟨z,rfl,hz,k⟩:=h;refine⟨_,(Zac (ZaG (ZbP (ZbN (Zam (Zig Y) (Wa (pv 0))))) (Wb Zbl) Zat) (Zac (Zao (i:=1) Zgv.nd (ZaJ Zqx rfl Y.D PyProof.Rows.boot_int (Wa (pv 0)))) (Zac (ZaG (ZbP (ZbN (Zam (ZdJ Y) (Wa (pv 1))))) (Wb Zbl) Zat) (Wb (pv 1))))),?_⟩;left;repeat walk_at"rdk"
  refine⟨z,rfl,hz,λH' sm=>?_⟩;cases hw:wellN z.cps.toList with
  |false=>
   repeat walk_at"rdk"
   exact ZbA (by rw[ZrH hw];rfl) (k H' sm)
  |true=>
   have hq:=hw;unfold wellN at hq;simp only[Yq,Ya2,Yr]at hq;let⟨⟨⟨h1,h2⟩,_⟩,h4⟩:=hq;have hl:=Zmx z;have hd:PySem.NumText.AllDigits z.cps.toList:=λc hc=>by
    have:=Y7.mp h4 c hc;simp only[isDig,Yq,Yr]at this;exact this
   have ht:=PySem.intText_digits (x:=z) hd (by intro e;rw[e]at h1;simp at h1) ();have hv:PySem.NumText.digitsVal z.cps.toList=dval z.cps.toList:=rfl;rw[hv]at ht;repeat walk_at"rdk"
   refine Zqy () ht ?_;repeat walk_at"rdk"
   refine⟨_,rfl,?_⟩;generalize hb:(decide (0<=((dval z.cps.toList:Nat):Int))&&decide (((dval z.cps.toList:Nat):Int)<18446744073709551616))=b;have hr2:=Zpi hw;cases b with
   |true=>
    repeat walk_at"rdk"
    simp only[Yq,Yr]at hb;rw[if_neg ()]at hr2;exact ZbA (by rw[hr2];rfl) (k H' sm)
   |false=>
    repeat walk_at"rdk"
    simp only[Bool.and_eq_false_iff,Yb0]at hb;rw[if_pos ()]at hr2;exact ZbA (by rw[hr2];rfl) (k H' sm)
omit Y
noncomputable def rowL:Row->List Nat
 |(w,none)=>w.cps.toList
 |(w,some n)=>w.cps.toList++32::sNum n.toNat
noncomputable def rowS(r:Row):Str:=mkS (rowL r)
def okRow(r:Row):Prop:=r.1∈WS/\∀n,r.2=some n->0<=n/\n<18446744073709551616
noncomputable def textS(rs:XW):Str:=mkS (glueL [59,32] (rs.map rowL))
def Zft(z:Str):mkS z.cps.toList=z:=by cases z;simp[mkS]
def ZaQ(l:XJ):(mkS l).cps.toList=l:=by simp[mkS]
def Zbg(l:XJ):(mkS l).length=l.length:=by simp[mkS,Str.length]
def ZrK{a b:XJ}(h:mkS a=mkS b):a=b:=by have:=Y3 (λz:Str=>z.cps.toList) h;simpa[mkS]using this
def Zfu(x y:Str):x++y=mkS (x.cps.toList++y.cps.toList):=by
 apply Str.ext';apply Ybz.mp;rw[ZaQ];show(x.cps++y.cps).toList=_;simp
def Zl6:(Str.ofString " ")=mkS [32]:=nofun
def pa_mk:(Str.ofString "; ")=mkS [59,32]:=nofun
def ZrL:(Str.ofString "")=mkS []:=nofun
def Zpj:∀w∈WS,w.cps.toList≠[]/\32∉w.cps.toList/\59∉w.cps.toList/\w.cps.toList.length<=6:=by decide +kernel
def ZbX{m:Nat}(h:m<18446744073709551616):(sNum m).length<=20:=Zqr nofun (YS h nofun)
def Zih{m c:Nat}(h:c∈sNum m):48<=c/\c<=57:=by
 have:=ZnB m c h;unfold isDig at this;rw[Yq,Yr,Yr]at this;exact this
def Zkv{m:Nat}(h:m<18446744073709551616):readN (sNum m)=some m:=by
 have h0:(sNum m).length≠0:=λz=>Zho m (Yax z);have h1:=ZbX h;unfold readN;rw[if_neg (),if_pos (Y7.mpr (ZnB m)),ZnC,if_neg];rintro(z|⟨z1,z2⟩)
 .omega
 .by_cases e:m=0
  .rw [e,Zqq]at z2;simp at z2
  .exact Zqp e z1
def Zkw{r:Row}(h:okRow r):1<=(rowL r).length/\(rowL r).length<=27:=by
 let⟨w,o⟩:=r;let⟨a,b,c,d⟩:=Zpj w h.1;have hw:w.cps.toList.length≠0:=λz=>a (Yax z);cases o with
 |none=>show 1<=w.cps.toList.length/\w.cps.toList.length<=27;omega
 |some n=>
  let⟨n0,n1⟩:=h.2 n rfl;have:=ZbX (m:=n.toNat) ();show 1<=(w.cps.toList++32::sNum n.toNat).length/\(w.cps.toList++32::sNum n.toNat).length<=27;rw[Yc,Yi];omega
def Zwk{r:Row}(h:okRow r):59∉rowL r:=by
 let⟨w,o⟩:=r;let⟨a,b,c,d⟩:=Zpj w h.1;cases o with
 |none=>exact c
 |some n=>
  intro z;rcases Yw.mp z with z|z
  .exact c z
  .rcases Yh.mp z with z|z
   .omega
   .have:=Zih z;omega
def Zkx{r:Row}(h:okRow r):1<=(rowS r).length/\(rowS r).length<=27:=by
 unfold rowS;rw[Zbg];exact Zkw h
theorem Zof(sep:Nat):∀(ts:XN)(a:Nat),(∀t∈ts,t.length<=27)->ts.foldl (λa t=>a+t.length+sep) a<=a+ts.length*(27+sep)
 |[],a,_=>by simp
 |t::ts,a,h=>by
  have h1:=h t (by simp);have:=Zof sep ts (a+t.length+sep) λu hu=>h u (by simp[hu]);rw[Yci,Yi,Ycr];omega
def Zky{sep:Str}{ts:XN}(h:∀t∈ts,t.length<=27)(hl:ts.length<=60)(hs:sep.length<=2):JoinOk sep ts=true:=by
 unfold JoinOk Builtin.Str.tooLong;have h1:=Zof sep.length ts 0 h;have h2:ts.length*(27+sep.length)<=60*29:=Nat.mul_le_mul hl ();rw[List.foldl_toArray];have h3:ts.foldl (λa t=>a+t.length+sep.length) 0<=1740:=();simp;exact Yj h3 nofun
theorem ZrM:∀(y:XJ)(ps:XV),(∀p∈ps,p.length<=27)->(glueL y ps).length<=ps.length*(27+y.length)
 |y,[],_=>by simp[glueL]
 |y,[p],h=>by
  have:=h p (by simp);show p.length<=1*(27+y.length);omega
 |y,p::q::r,h=>by
  have h1:=h p (by simp);have:=ZrM y (q::r) λu hu=>h u (by simp[hu]);show(p++y++glueL y (q::r)).length<=_;rw[Yc,Yc,Yi,Ycr];omega
def ZrN:Sp:=λvs H Q _=>∃r,vs=[.str (rowS r)]/\okRow r/\∀t H',Same H H'->H' t=some (.tup (rowVs r))->Q (.ref t) H'
def Zpk(K:Ydg):Sp:=λvs H Q _=>∃v r,vs=[v]/\RowAt K H r v/\okRow r/\∀H',Same H H'->Q (.str (rowS r)) H'
def Zwl(K:Ydg):Sp:=λvs H Q _=>∃l xs rs,vs=[.ref l]/\SqL K H l xs/\RowsAt K H rs xs/\rs.length<=60/\(∀r∈rs,okRow r)/\∀H',Same H H'->Q (.str (textS rs)) H'
def Zl7(rs:XW):Txt.join (Str.ofString "; ") (rs.map rowS)=textS rs:=by
 rw[Zdu,pa_mk,ZaQ,Yao];unfold textS;congr 2
def ZeI:FnScope ["text","parts","number"] ["text"] (Zae (top 37)):=by walk_at"c"
include Y
def Zne:mY Y 3 "read_row" ZrN:=by
 refine Zax _ Y.cc ?_ _ ZeI
 .symm;let⟨r,rfl,ok,k⟩:=h;refine⟨_,(Zac (Zao (i:=1) ZeI.nd (Zbj YU YaP YaO ZeT (pv 0) (Wa Zav))) (Zac (ZaG (Zas Zbf (Zau ZaN rfl Y.d Ys (Wa (pv 1))) Zag) (Wb (ZaH (Wa (pv 0)))) Zat) (Zac (Zao (i:=2) ZeI.nd (Zam (ZdN Y) (Wa (Zaq Zan (pv 1) Zag)))) (Zac (ZaG (PW.pt (Zd0 (Zas ZfE (Zau ZaN rfl Y.d Ys (Wa (pv 1))) Zag) (ZcL (Zas Zce (pv 2) Zbl)))) (Wb Zbl) Zat) (Wb (ZaH (Zaa (Zaq Zan (pv 1) Zag) (Wa (pv 2))))))))),?_⟩;left;let⟨hl1,hl2⟩:=Zkx ok;have big:(100:Nat)<=sizeLine:=nofun;let⟨w,o⟩:=r;let⟨wa,wb,wc,wd⟩:=Zpj w ok.1;cases o with
  |none=>
   have es:Txt.split (rowS (w,none)) (Str.ofString " ")=[w]:=by
    have:=ZdU (c:=32) (y:=[]) (ps:=[w.cps.toList]) (by simp) (by simp) (λp hp=>by rw[Ye.mp hp];exact wb) (by decide +kernel);rw[Zl6];show Txt.split (mkS w.cps.toList) _=_;rw[show[w]=[w.cps.toList].map mkS by rw[Ybl,Zft]];exact this
   have ew:rowS (w,none)=w:=Zft w;exists ZcY nofun () (by rw[es];show 1<=sizeLine;decide) λp hp=>?_;rw[es];have hs:SqL K (upd H p (.lst ([w].map V.str))) p [.str w]:=Zal Zad;have hl0:([V.str w]:XF).length=1:=rfl;walk_at"Z";refine⟨show 1<=sizeLine by decide,λt ht=>?_⟩;rw[ew];exact k t _ ((Same.new hp).newT ht) Zad
  |some n=>
   let⟨n0,n1⟩:=ok.2 n rfl;have es:Txt.split (rowS (w,some n)) (Str.ofString " ")=[w,mkS (sNum n.toNat)]:=by
    have:=ZdU (c:=32) (y:=[]) (ps:=[w.cps.toList,sNum n.toNat]) (by simp) (by simp) (λp hp=>by
     rcases Yh.mp hp with rfl|hp
     .exact wb
     .rw [Ye.mp hp];intro z;have:=Zih z;omega) (by decide +kernel)
    rw[Zl6];rw[show[w,mkS (sNum n.toNat)]=[w.cps.toList,sNum n.toNat].map mkS by rw[Yz,Ybl,Zft]];rw[<- this];show Txt.split (mkS (w.cps.toList++32::sNum n.toNat)) _=Txt.split (mkS (w.cps.toList++[32]++sNum n.toNat)) _;rw[YQ];rfl
   exists ZcY nofun () (by rw[es];show 2<=sizeLine;decide) λp hp=>?_;rw[es];have hs:SqL K (upd H p (.lst ([w,mkS (sNum n.toNat)].map V.str))) p [.str w,.str (mkS (sNum n.toNat))]:=Zal Zad;have s1:=Same.new hp (o:=.lst ([w,mkS (sNum n.toNat)].map V.str));generalize upd H p _=H1 at s1 hs;have hnl:=ZbX (m:=n.toNat) ();have hl0:([V.str w,.str (mkS (sNum n.toNat))]:XF).length=2:=rfl;walk_at"Z";refine⟨_,rfl,by rw[Zbg];omega,λH2 s2=>?_⟩;rw[ZaQ,Zkv ()];have hs2:=s2.seq hs;have en:optV (some n.toNat)=.int n:=by show V.int ((n.toNat:Nat):Int)=.int n;rw[Int.toNat_of_nonneg n0]
   rw[en];walk_at"Z";refine⟨show 2<=sizeLine by decide,λt ht=>?_⟩;exact k t _ ((s1.trans s2).newT ht) Zad
def Zl9:mY Y 1 "shown_row" (Zpk K):=by
 refine Zax ["row"] Y.cd ?_
 .symm;let⟨v,r,rfl,⟨t,rfl,hT⟩,ok,k⟩:=h;refine⟨_,(Wb (Zbj YU Yag Yaf Zdq Zav (Wa (ZbJ ["part"] rfl (show CompScope (Zae (top 39)) ["row"] ["part"] _ by walk_at"p") (Zuc (pv 0)) (λ_ _ _ _ _=>(Zbi (i:=0) (show(["part","row"]:XN).Nodup by decide +kernel) rfl (Or.inl rfl) (.inr rfl))) (λ_ _ _ _ _=>ZbI) (λ_ _ _ _ _=>(ZaJ ZqF rfl Y.h YM (Wa (pv 0)))))))),?_⟩;left;have big:(100:Nat)<=sizeLine:=nofun;let⟨w,o⟩:=r;let⟨wa,wb,wc,wd⟩:=Zpj w ok.1;have wl:w.length<=27:=by
   have:w.length=w.cps.toList.length:=by simp[Str.length]
   omega
  cases o with
  |none=>
   have hT:SqT K H t [.str w]:=hT;exists Zbk (Zmr ?_);exists⟨t,rfl,⟨_,hT⟩,λq hq=>?_⟩;refine Zhu (ys:=[w].map V.str) hT hq rfl (szl_1) ?_ ?_
   .intro i x y H' Q' hx hy sm q'
    match i,hx,hy with
    |0,hx,hy=>
     cases hx;cases hy;ext;exact ZmF q'
    |i+1,hx,_=>simp at hx
   .ext;refine Zds (Zal Zad) (Zky (λu hu=>by rw[Ye.mp hu];exact wl) (by show 1<=60;decide) nofun) ?_;have e:Txt.join (Str.ofString " ") [w]=rowS (w,none):=by rw[Zdu];rfl
    rw[e];exact k _ (Same.new hq)
  |some n=>
   let⟨n0,n1⟩:=ok.2 n rfl;have hnl:=ZbX (m:=n.toNat) ();have en:Str.ofString (toString n)=mkS (sNum n.toNat):=ZbG n0;have hT:SqT K H t [.str w,.int n]:=hT;exists Zbk (Zmr ?_);exists⟨t,rfl,⟨_,hT⟩,λq hq=>?_⟩;refine Zhu (ys:=[w,mkS (sNum n.toNat)].map V.str) hT hq rfl (szl_2) ?_ ?_
   .intro i x y H' Q' hx hy sm q'
    match i,hx,hy with
    |0,hx,hy=>
     cases hx;cases hy;ext;exact ZmF q'
    |1,hx,hy=>
     cases hx;cases hy;exists ZjQ (Za1 n0 ()) ?_;rw[en];exact q'
    |i+2,hx,_=>simp at hx
   .ext
    refine Zds (Zal Zad) (Zky (λu hu=>by
     rcases Yh.mp hu with rfl|hu
     .exact wl
     .rw [Ye.mp hu,Zbg];omega) (by show 2<=60;decide) nofun) ?_
    have e:Txt.join (Str.ofString " ") [w,mkS (sNum n.toNat)]=rowS (w,some n):=by
     rw[Zdu,Zl6,ZaQ];show mkS (w.cps.toList++[32]++(mkS (sNum n.toNat)).cps.toList)=mkS (w.cps.toList++32::sNum n.toNat);rw[ZaQ,YQ];rfl
    rw[e];exact k _ (Same.new hq)
def ZtL:mY Y 2 "shown" (Zwl K):=by
 refine Zax ["rows"] Y.ce ?_
 .symm;let⟨l,xs,rs,rfl,hl,hR,h60,hok,k⟩:=h;refine⟨_,(Wb (Zbj YU Yag Yaf Zdq (ZaW rfl Y.F) (Wa (ZbJ ["row"] rfl (show CompScope (Zae (top 40)) ["rows"] ["row"] _ by walk_at"p") (Zbc (pv 0)) (λ_ _ _ _ _=>(Zbi (i:=0) (show(["row","rows"]:XN).Nodup by decide +kernel) rfl (Or.inl rfl) (.inr rfl))) (λ_ _ _ _ _=>ZbI) (λ_ _ _ _ _=>(Zam (Zl9 Y) (Wa (pv 0)))))))),?_⟩;left;have big:(100:Nat)<=sizeLine:=nofun;have hx:xs.length=rs.length:=hR.1.symm;exists Zbk (ZaY ?_);exists⟨l,rfl,⟨_,hl⟩,λq hq=>?_⟩;refine Zcf (λi H'=>Same H H'/\H' q=some (.lst (((rs.take i).map rowS).map V.str))/\SqL K H' l xs) ⟨Same.new hq,Zad,hl.updN hq⟩ (λi H' ⟨_,_,h⟩=>h) ?_ ?_
  .rintro i x H' hx' ⟨s1,hv,hl'⟩;let⟨hi,_⟩:=Yf.mp hx';have hir:i<rs.length:=();have hRi:=hR.2 i rs[i] x (Yd hir) hx';refine ZfK ?_;refine iteT ?_;exists⟨x,rs[i],rfl,hRi.keep s1.imm,hok _ (Yad hir),λH2 s2=>?_⟩;refine⟨_,s2 _ _ hv,by rw[Ya,Ya,YN];omega,⟨(s1.trans s2).wr hq,?_,?_⟩,_,rfl⟩
   .rw [Zad,Ym hir,YA,YA];rfl
   .have:=s2.seq hl';exact((s1.trans s2).wr hq (o:=.lst (((rs.take i).map rowS).map V.str++[.str (rowS rs[i])]))).seq hl
  .rintro H' ⟨s1,hv,_⟩;rw[hx,YK]at hv;exists Zds (Zal hv) (Zky (λu hu=>by let⟨r,hr,rfl⟩:=YF.mp hu;exact(Zkx (hok r hr)).2) (by rw[Ya];exact h60) nofun) ?_;rw[Zl7];exact k _ s1
omit Y
def spRead(K:Ydg):Sp:=λvs H Q _=>∃rs,vs=[.str (textS rs)]/\rs.length<=60/\Zbe rs=true/\(∀r∈rs,okRow r)/\∀q xs H',Same H H'->H q=none->H' q=some (.lst xs)->RowsAt K H' rs xs->Q (.ref q) H'
def ZtM{rs:XW}(h:∀r∈rs,okRow r)(h60:rs.length<=60):(textS rs).length<=1740:=by
 unfold textS;rw[Zbg];have:=ZrM [59,32] (rs.map rowL) λp hp=>by let⟨r,hr,rfl⟩:=YF.mp hp;exact(Zkw (h r hr)).2
 rw[Ya]at this;have h2:rs.length*(27+[59,32].length)<=60*29:=Nat.mul_le_mul h60 nofun;omega
def Zpl{rs:XW}(h:∀r∈rs,okRow r)(hn:rs≠[]):Txt.split (textS rs) (Str.ofString "; ")=rs.map rowS:=by
 have:=ZdU (c:=59) (y:=[32]) (ps:=rs.map rowL) (by simpa using hn) nofun (λp hp=>by let⟨r,hr,rfl⟩:=YF.mp hp;exact Zwk (h r hr)) (by decide +kernel);rw[pa_mk];unfold textS;rw[this,Yao];rfl
def Zwm{r:Row}{rs:XW}(h:okRow r):textS (r::rs)≠Str.ofString "":=λz=>by
 rw[ZrL]at z;have:=ZrK z;have h1:=(Zkw h).1;cases rs with
 |nil=>
  have e:rowL r=[]:=this;rw[e]at h1;simp at h1
 |cons q rs=>
  have e:rowL r++[59,32]++glueL [59,32] (rowL q::rs.map rowL)=[]:=this;rw[YQ,List.append_eq_nil_iff]at e;rw[e.1]at h1;simp at h1
def ZrO:FnScope ["text","rows"] ["text"] (Zae (top 38)):=by walk_at"c"
include Y
def Zwn:mY Y 5 "read" (spRead K):=by
 refine Zax _ Y.cf ?_ _ ZrO
 .symm;let⟨rs,rfl,h60,hall,hok,k⟩:=h;refine⟨_,(Zac (ZaG (Zas Zbf (pv 0) Zav) (Wb (ZaI Zab)) Zat) (Zac (Zp6 (i:=1) ["part"] ZrO.nd rfl rfl rfl (show CompScope (Zae (top 38)) ["text","rows"] ["part"] _ by walk_at"p") (Zbc (Zbj YU YaP YaO ZeT (pv 0) (Wa (ZaW rfl Y.F)))) (λ_ _ _ _ _=>(Zbi (i:=0) (show(["part","text","rows"]:XN).Nodup by decide +kernel) rfl (Or.inl rfl) (.inr rfl))) (λ_ _ _ _ _=>ZbI) (λ_ _ _ _ _=>(Zam (Zne Y) (Wa (pv 0))))) (Zac (ZaG (PW.pt (Zd0 (Zas (op_inN hr.units) Zbl (pv 1) rfl) (ZcL (ZbP (ZbN (Zam (Zoa Y) (Wa (pv 1)))))))) (Zaf Za8) Zat) (Wb (pv 1))))),?_⟩;left;have big:(2000:Nat)<=sizeLine:=nofun;have htl:=ZtM hok h60;cases rs with
  |nil=>
   have e0:textS []=Str.ofString "":=ZrL.symm;rw[e0];repeat walk_at"rdx"
   refine⟨nofun,λq hq=>?_⟩;exact k q [] _ (Same.new hq) hq Zad RowsAt.nil
  |cons r0 rs0=>
   have hne:=Zwm (rs:=rs0) (hok r0 (by simp));have esp:=Zpl hok (by simp);generalize hrs:r0::rs0=rs at *;ext
   .exact absurd ‹_› hne
   .ext;refine Zbk (ZaY ?_);exists ZcY nofun () (by rw[esp,Ya];omega) λp hp=>?_;rw[esp];have s1:=Same.new hp (o:=.lst ((rs.map rowS).map V.str));have hp1:(upd H p (.lst ((rs.map rowS).map V.str))) p=some (.lst ((rs.map rowS).map V.str)):=Zad;generalize upd H p _=H1 at s1 hp1;refine⟨p,rfl,⟨_,Zal hp1⟩,λq hq=>?_⟩;refine Zcf (xs:=(rs.map rowS).map V.str) (λi H'=>Same H1 H'/\∃xs,H' q=some (.lst xs)/\RowsAt K H' (rs.take i) xs) ⟨Same.new hq,[],Zad,RowsAt.nil⟩ (λi H' ⟨s,_⟩=>Zal (s _ _ hp1)) ?_ ?_
    .rintro i x H' hx ⟨s2,xs,hv,hR⟩;rw[Yb,Yb]at hx;let⟨z,hz,rfl⟩:=Yu.mp hx;let⟨r,hr,rfl⟩:=Yu.mp hz;let⟨hi,ei⟩:=Yf.mp hr;refine ZfK ?_;refine iteT ?_;exists⟨r,rfl,hok r (Yn hr),λt H2 s3 ht=>?_⟩;have hv2:=s3 _ _ hv;have hxl:xs.length<=60:=by rw[<- hR.1,YN];omega
     refine⟨_,hv2,(),⟨(s2.trans s3).wr hq,xs++[.ref t],Zad,?_⟩,_,rfl⟩;have im:SameI H2 (upd H2 q (.lst (xs++[.ref t]))):=SameI.upd hv2 Za4;rw[Ym hi,ei];exact(hR.keep (s3.imm.trans im)).snoc ⟨t,rfl,im.tup (Zb0 ht)⟩
    .rintro H' ⟨s2,xs,hv,hR⟩;rw[Ya,Ya,YK]at hR;have hxl:xs.length<=60:=by rw[<- hR.1];exact h60
     exists rd_inN (Zal hv) (λv hv'=>?_) ?_
     .obtain ⟨i,hi,e⟩:=Ya4.mp hv';have hir:i<rs.length:=by rw[hR.1];exact hi
      let⟨t,et,ht⟩:=hR.2 i rs[i] v (Yd hir) (by rw[Yd hi,e]);exact⟨t,_,et,ht⟩
     exists⟨q,xs,rs,rfl,Zal hv,hR,(),λH2 s3=>?_⟩;rw[hall];ext;exact k q xs H2 ((s1.trans s2).trans s3) (s1.fresh hq) (s3 _ _ hv) (hR.keep s3.imm)
omit Y
def Zkz(K:Ydg)(H:Hp)(t:XB)(p:Int)(ns ws:XD):Prop:=∃na wa:Addr,SqT K H t [.int p,.ref na,.ref wa]/\SqL K H na (ns.map V.int)/\SqL K H wa (ws.map V.int)
def big{n:Nat}(h:n<=1000002):n<=sizeLine:=Yj h nofun
noncomputable def strI(i:Int):Str:=Str.ofString (toString i)
def okN(ns:XD):Prop:=∀n∈ns,0<=n/\n<18446744073709551616
noncomputable def shownS(ns:XD):Str:=Txt.join (Str.ofString " ") (ns.map strI)
noncomputable def textP(p:Int)(ns ws:XD):Str:=Txt.join (Str.ofString " / ") [strI p,shownS ns,shownS ws]
def Zfv{i:Int}(h0:0<=i)(h1:i<18446744073709551616):(strI i).length<=20:=by
 unfold strI;rw[ZbG h0];show(sNum i.toNat).toArray.size<=20;rw[Yx];exact Zqr nofun (YS (show i.toNat<18446744073709551616 by omega) nofun)
theorem ZuG{B:Nat}:∀(ts:XN),(∀t∈ts,t.length<=B)->(ts.map (·.length)).sum<=ts.length*B
 |[],_=>by simp
 |t::ts,h=>by
  have h1:=h t (by simp);have h2:=ZuG ts λu hu=>h u (by simp[hu]);rw[Yz,Yab,Yi,YcE];omega
def Zog(sep:Str)(ts:XN):(Txt.join sep ts).length<=(ts.map (·.length)).sum+ts.length*sep.length:=by
 show(Builtin.Str.glued sep ts).length<=_;rw[StrLaws.glued_eq_join];exact StrLaws.join_length_le sep ts
def Zfw{sep:Str}{ts:XN}(h:(ts.map (·.length)).sum+ts.length*sep.length<=1000000):JoinOk sep ts=true:=by
 unfold JoinOk Builtin.Str.tooLong;rw[StrLaws.joinTotal];simp;exact Yj h nofun
def Zoh{ns:XD}(h:okN ns)(hl:ns.length<=1000):((ns.map strI).map (·.length)).sum+(ns.map strI).length*(Str.ofString " ").length<=21000:=by
 have h1:=ZuG (B:=20) (ns.map strI) λt ht=>by
  let⟨n,hn,rfl⟩:=YF.mp ht;exact Zfv (h n hn).1 (h n hn).2
 rw[Ya]at h1 |-;have:(Str.ofString " ").length=1:=nofun;rw[this];omega
def Zfx{ns:XD}(h:okN ns)(hl:ns.length<=1000):(shownS ns).length<=21000:=Yj (Zog _ _) (Zoh h hl)
def Zoi{p:Int}{ns ws:XD}(h0:0<=p)(h1:p<18446744073709551616)(hn:okN ns)(hw:okN ws)(ln:ns.length<=1000)(lw:ws.length<=1000):([strI p,shownS ns,shownS ws].map (·.length)).sum+[strI p,shownS ns,shownS ws].length*(Str.ofString " / ").length<=50000:=by
 have a:=Zfv h0 h1;have b:=Zfx hn ln;have c:=Zfx hw lw;have d:(Str.ofString " / ").length=3:=nofun;rw[d];simp only[Yz,YaX,Yab,YcH,Yi,Yac];omega
def ZrP{p:Int}{ns ws:XD}(h0:0<=p)(h1:p<18446744073709551616)(hn:okN ns)(hw:okN ws)(ln:ns.length<=1000)(lw:ws.length<=1000):(textP p ns ws).length<=50000:=Yj (Zog _ _) (Zoi h0 h1 hn hw ln lw)
inductive ZtN(K:Ydg)(vs:XF)(H:Hp)(Q:VK)(E9:XK):Prop
 |mk(l:XB)(ns:XD):vs=[.ref l]->SqL K H l (ns.map V.int)->okN ns->ns.length<=1000->(∀H',Same H H'->Q (.str (shownS ns)) H')->ZtN K vs H Q E9
inductive spText(K:Ydg)(vs:XF)(H:Hp)(Q:VK)(E9:XK):Prop
 |mk(t:XB)(p:Int)(ns ws:XD):vs=[.ref t]->Zkz K H t p ns ws->0<=p->p<18446744073709551616->okN ns->okN ws->ns.length<=1000->ws.length<=1000->(∀H',Same H H'->Q (.str (textP p ns ws)) H')->spText K vs H Q E9
def Zii(a b:XJ):mkS a++mkS b=mkS (a++b):=by rw[Zfu,ZaQ,ZaQ]
noncomputable def rowT(ws:XV):Str:=mkS (glueL [32] ws)
def Zij{ws:XV}(hn:ws≠[])(h:∀p∈ws,32∉p):Txt.split (rowT ws) (Str.ofString " ")=ws.map mkS:=by
 rw[Zl6];exact ZdU (c:=32) (y:=[]) hn (by simp) h (by decide +kernel)
def ZkA(ws:XV):Txt.join (Str.ofString " ") (ws.map mkS)=rowT ws:=by
 rw[Zdu,Zl6,ZaQ,Yao];unfold rowT;congr 2;conv=>rhs;rw[<- List.map_id ws]
 exact YaK λx _=>ZaQ x
theorem glue_len(y:XJ):∀ps:List (List Nat),(glueL y ps).length<=(ps.map List.length).sum+ps.length*y.length
 |[]=>by simp[glueL]
 |[p]=>by simp[glueL]
 |p::q::r=>by
  have:=glue_len y (q::r);show(p++y++glueL y (q::r)).length<=_;rw[Yc,Yc,Yz,Yab,Yi,YcE];omega
theorem Znf{B:Nat}:∀ps:List (List Nat),(∀p∈ps,p.length<=B)->(ps.map List.length).sum<=ps.length*B
 |[],_=>by simp
 |p::r,h=>by
  have h1:=h p (by simp);have h2:=Znf r λu hu=>h u (by simp[hu]);rw[Yz,Yab,Yi,YcE];omega
structure OkW(ws:XV):Prop where
 no:∀p∈ws,32∉p
 ln:∀p∈ws,p.length<=40
 ct:ws.length<=200
def OkW.len{ws:XV}(h:OkW ws):(rowT ws).length<=8200:=by
 unfold rowT;rw[Zbg];have h1:=glue_len [32] ws;have h2:=Znf ws h.ln;have h3:=h.ct;have h4:ws.length*40<=8000:=();show _<=_;have:([32]:XJ).length=1:=rfl;rw[this]at h1;omega
def OkW.join{ws:XV}(h:OkW ws):JoinOk (Str.ofString " ") (ws.map mkS)=true:=by
 refine Zfw ?_;have e:((ws.map mkS).map (·.length))=ws.map List.length:=by
  rw[Yao];exact YaK λx _=>Zbg x
 rw[e,Ya];have h2:=Znf ws h.ln;have h3:=h.ct;have h5:(Str.ofString " ").length=1:=nofun;rw[h5];omega
def ZkB{m:Nat}:32∉sNum m:=λz=>by
 have:=Zih z;omega
def OkW.num{m:Nat}{ws:XV}(hm:m<18446744073709551616)(h:OkW ws)(hl:ws.length<200):OkW (sNum m::ws):=by
 refine⟨λp hp=>?_,λp hp=>?_,by rw[Yi];omega⟩
 .rcases Yh.mp hp with rfl|hp
  .exact ZkB
  .exact h.no p hp
 .rcases Yh.mp hp with rfl|hp
  .exact Yj (ZbX hm) nofun
  .exact h.ln p hp
def OkW.nil:OkW []:=⟨by simp,by simp,nofun⟩
noncomputable def numsW(ms:XJ):List (List Nat):=ms.map sNum
noncomputable def strsV(ws:XV):List V:=ws.map λp=>V.str (mkS p)
def Zg6(ws:XV):(ws.map mkS).map V.str=strsV ws:=by unfold strsV;rw[Yao];rfl
noncomputable def intsV(ms:XJ):List V:=ms.map λm:Nat=>V.int (m:Int)
def spRdN:Sp:=λvs H Q _=>∃m:Nat,vs=[.str (mkS (sNum m))]/\m<18446744073709551616/\∀H',Same H H'->Q (.int m) H'
inductive spRdNs(K:Ydg)(vs:XF)(H:Hp)(Q:VK)(E9:XK):Prop
 |mk(l:XB)(ms:XJ):vs=[.ref l]->SqL K H l (strsV (numsW ms))->ms.length<=100->(∀m∈ms,m<18446744073709551616)->(∀q H',Same H H'->H' q=some (.lst (intsV ms))->Q (.ref q) H')->spRdNs K vs H Q E9
include Y
def Zdh:mY Y 1 "shown_numbers" (ZtN K):=by
 refine Zax ["numbers"] Y.cg ?_
 .symm;let⟨l,ns,rfl,hl,ok,ln,k⟩:=h;refine⟨_,(Wb (Zbj YU Yag Yaf Zdq Zav (Wa (ZbJ ["number"] rfl (show CompScope (Zae (top 132)) ["numbers"] ["number"] _ by walk_at"p") (Zbc (pv 0)) (λ_ _ _ _ _=>(Zbi (i:=0) (show(["number","numbers"]:XN).Nodup by decide +kernel) rfl (Or.inl rfl) (.inr rfl))) (λ_ _ _ _ _=>ZbI) (λ_ _ _ _ _=>(ZaJ Zb1 rfl Y.h YM (Wa (pv 0)))))))),?_⟩;left;repeat walk_at"rdk"
  refine Zbk (ZaY ?_);repeat walk_at"rdk"
  refine⟨l,rfl,⟨_,hl⟩,λp hp=>?_⟩;refine ZgU (ys:=(ns.map strI).map V.str) hl hp (by rw[Ya,Ya,Ya]) (by rw[Ya];exact big ()) ?_ ?_
  .intro i x y H' Q' hx hy sm q;rw[Yb]at hx;let⟨b,hb,rfl⟩:=Yu.mp hx;rw[Yb,Yb,hb]at hy;cases hy;have hm:=ok b (Yn hb);repeat walk_at"rdk"
   exact Zbq (Za1 hm.1 (Yat hm.2 nofun)) q
  .repeat walk_at"rdk"
   refine Zds (Zal Zad) (Zfw (Yj (Zoh ok ln) nofun)) ?_;exact k _ (Same.new hp)
def Zfy:mY Y 2 "show_paper" (spText K):=by
 refine Zax ["paper"] Y.ch ?_
 .symm;let⟨t,p,ns,ws,rfl,⟨na,wa,h1,h2,h3⟩,p0,p1,on,ow,ln,lw,k⟩:=h;refine⟨_,(Wb (Zbj YU Yag Yaf Zdq (ZaW rfl Y.G) (Wa (ZaI (Zaa (ZaJ Zb1 rfl Y.h YM (Wa (Zaq ZaK (pv 0) Zag))) (Zaa (Zam (Zdh Y) (Wa (Zaq ZaK (pv 0) Zag))) (Wa (Zam (Zdh Y) (Wa (Zaq ZaK (pv 0) Zag)))))))))),?_⟩;left;repeat walk_at"rdk"
  refine Zbq (Za1 p0 (Yat p1 nofun)) ?_;repeat walk_at"rdk"
  refine⟨na,ns,rfl,h2,on,ln,λH1 s1=>?_⟩;have h11:=s1.tup h1;repeat walk_at"rdk"
  refine⟨wa,ws,rfl,s1.seq h3,ow,lw,λH2 s2=>?_⟩;repeat walk_at"rdk"
  refine⟨show 3<=sizeLine by decide,λq hq=>?_⟩;repeat walk_at"rdk"
  refine Zds (ts:=[strI p,shownS ns,shownS ws]) (Zal Zad) (Zfw (Yj (Zoi p0 p1 on ow ln lw) nofun)) ?_;exact k _ ((s1.trans s2).newT hq)
omit Y
inductive ZtO(K:Ydg)(cA cT cH:XB)(vs:XF)(H:Hp)(Q:VK)(E9:XK):Prop
 |mk(i:HoI)(A:XC)(S:XL)(tk:Int)(P:XQ)(n:Nat):vs=[.ref i.h,.int n]->HoAt K cA cT cH H i A S tk P->n<16->(∀t l w H',Same H H'->H t=none->H l=none->H w=none->(plainN A S n).length<1000->H' t=some (.tup [.int n,.ref l,.ref w])->H' l=some (.lst ((plainN A S n).map V.int))->H' w=some (.lst ((wayOf (stP P) 4 n).map V.int))->Q (.ref t) H')->ZtO K cA cT cH vs H Q E9
inductive Zwo(K:Ydg)(cA cT cH:XB)(vs:XF)(H:Hp)(Q:VK)(E9:XK):Prop
 |mk(i:HoI)(A:XC)(S:XL)(tk:Int)(P:XQ)(n:Nat)(p:Int)(x:AcI):vs=[.ref i.h,.int (n:Int),.int p]->HoAt K cA cT cH H i A S tk P->n<16->A n=some x->Q (.int ((S n).store p)) H->Zwo K cA cT cH vs H Q E9
def Zcb:FnScope ["self","place","found","level"] ["self","place"] (Zae (tQ 117 3)):=by walk_at"c"
include Y
def Zmb:mY Y 1 "neighbour" spNb:=by
 refine Zax ["place"] Y.ci ?_
 .symm;let⟨i,rfl,k⟩:=h;refine⟨_,(Zac (ZaG (Zas Zbf (Zaw ZaR (pv 0) Zag) Zag) (Wb (Zaw Za0 (pv 0) Zag)) Zat) (Wb (Zaw ZeO (pv 0) Zag))),?_⟩;left;repeat' walk_at"rdk"
  .rename_i h0;exact ZbA (by unfold nbN;rw[if_pos ()];rfl) k
  .rename_i h0;refine ZbA ?_ k;unfold nbN;rw[if_neg ()];exact Y3 V.int ()
def ZkD:iY Y 2 cStamps "way" (spWay cStamps):=by
 refine ZaE _ Y.cj Y.i.k.cl ?_ _ Zcb
 .symm;let⟨a,dx,q,qs,e,ns,i,rfl,S,hn,he,hi,k⟩:=h;refine⟨_,(Zac (Zao (i:=2) Zcb.nd (ZaI Zab)) (Zac (ZbQ YV rfl (Zbc (ZbS ZcF (Zap (pv 0)) Zdl (ZbR (ZfB ZcN Zag)))) (ZaU (i:=3) Zcb.nd) (Zac (Zay (Zbj Yy YI YH ZaT (pv 2) (Wa (Zaq Zan (pv 3) (Zam (Zmb Y) (Wa (pv 1))))))) (Zaf (Zao (i:=1) Zcb.nd (Zaw ZaP (pv 1) Zag))))) (Wb (pv 2)))),?_⟩;left;exists⟨nofun,λl hl=>?_⟩;exists ZbT (ZaY ?_);ext;have S1:=S.keep (Same.new hl (o:=.lst []));refine Zah S1.ob Y.i.k.cl Y.i.n_kept rfl ?_;exists Zun (Zal S1.lv.ob) λr hr=>?_;rw[Zqt,<- List.map_dropLast];have hlr:l≠r:=Zai (Zad (H:=H)) hr;have hr0:H r=none:=(Same.new hl).fresh hr;have sm0:Same H (upd (upd H l (.lst [])) r (.lst (qs.dropLast.map V.ref))):=(Same.new hl).newT hr;have hr1:(upd (upd H l (.lst [])) r (.lst (qs.dropLast.map V.ref))) r=some (.lst (qs.dropLast.map V.ref)):=Zad;have hl1:(upd (upd H l (.lst [])) r (.lst (qs.dropLast.map V.ref))) l=some (.lst []):=by rw[Zaj hlr];exact Zad
  generalize upd (upd H l (.lst [])) r _=H2 at sm0 hr1 hl1;have hdl:(qs.dropLast.map V.ref).length=e:=by rw[Ya,List.length_dropLast,S.lv.ln];rfl
  refine⟨r,rfl,⟨_,Zal hr1⟩,ZbF (xs:=qs.dropLast.map V.ref) (λj U' H'=>Same H H'/\H' r=some (.lst (qs.dropLast.map V.ref))/\H' l=some (.lst (((wayOf ns e i).take j).map V.int))/\∃v,U'=[some (.ref a),some (.int ((i/2^j:Nat):Int)),some (.ref l),v]) ⟨sm0,hr1,hl1,_,by rw[YcF,YcU]⟩ (λj U' H' _ ⟨_,e2,_⟩=>Zal e2) ?_ ?_⟩
  .rintro j x U' H' hx ⟨sm,hr2,hl2,v,rfl⟩;have hj:j<e:=by rw[<- hdl];exact(Yf.mp hx).1
   obtain⟨t,ht⟩:∃t,qs[j]?=some t:=⟨qs[j]'(by rw[S.lv.ln];omega),Yd _⟩;have hxt:x=.ref t:=by
    rw[Yb,List.getElem?_dropLast,if_pos (by rw[S.lv.ln];omega),ht]at hx;cases hx;rfl
   subst hxt;have hrow:=sm _ _ (S.lv.rw_ j t ht);have hll:=ZdI hn j ();have hb:nbN (i/2^j)<(lvl j ns).length:=by
    rw[hll,show e-j=(e-j-1)+1 by omega,YaV,Ybu];refine nb_lt ?_;have:=Zna hi (show j<=e by omega);rw[show e-j=(e-j-1)+1 by omega,YaV,Ybu]at this;exact this
   have hw:(wayOf ns e i)[j]?=some ((lvl j ns)[nbN (i/2^j)]):=by
    unfold wayOf;rw[Yb,Y0 hj];show some ((lvl j ns).getD (nbN (i/2^j)) 0)=_;rw[YB,Yd hb];rfl
   exists⟨Za9 (Zal hl2),?_⟩;exists⟨_,rfl,?_⟩;exists ZaA (Zal hrow) (ZaL (i:=nbN (i/2^j)) (v:=.int ((lvl j ns)[nbN (i/2^j)])) (by rw[Yb,Yd hb];rfl) rfl) ?_;ext;have htl:((wayOf ns e i).take j).length=j:=by rw[YN,ZcU];omega
   refine ZaZ hl2 (by rw[Ya,htl];exact YS (show j<64 by omega) nofun) ?_;ext;have hrl:r≠l:=YR hlr;refine⟨sm.wr hl,by rw[Zaj hrl];exact hr2,?_,_,by rw[<- Zh2];rfl⟩;rw[Zad];let⟨hjw,ejw⟩:=Yf.mp hw;rw[Ym hjw,ejw,YA];rfl
  .rintro U' H' ⟨sm,hr2,hl2,v,rfl⟩;rw[hdl]at hl2;have hwl:(wayOf ns e i).take e=wayOf ns e i:=by
    have:=YK (l:=wayOf ns e i);rw[ZcU]at this;exact this
   rw[hwl]at hl2;ext;exact k l H' sm hl hl2
def ZiM:iY Y 4 cHouse "paper" (ZtO K qa cStamps cHouse):=by
 refine ZaE ["self","slot"] Y.ck Y.b.k.cl ?_
 .symm;let⟨i,Ar,S,tk,P,n,rfl,o,hn,k⟩:=h;refine⟨_,(Wb (ZaH (Zaa (pv 1) (Zaa (ZaB (Zen Y) (hr.mono nofun) (pv 0) (Wa (pv 1))) (Wa (ZaB (ZkD Y) (hr.mono nofun) (Zap (pv 0)) (Wa (pv 1)))))))),?_⟩;left;exists Zar o.ob rfl ?_;exists⟨i,Ar,S,tk,P,n,rfl,o,hn,λl H1 s1 hl0 hlen hl1=>?_⟩;have o1:=o.same s1;exists Zah o1.ob Y.b.k.cl Y.b.n_stamps rfl ?_;exists Zar o1.st.ob rfl ?_;exists⟨i.st,i.sd,i.q,i.qs,4,stP P,n,rfl,o1.st,Zkq P,nofun,(),?_⟩;intro w H2 s2 hw0 hw1;refine⟨show 3<=sizeLine by decide,λt ht=>?_⟩;refine k t l w _ ((s1.trans s2).newT ht) ((s1.trans s2).fresh ht) hl0 (s1.fresh hw0) hlen Zad ?_ ?_
  .rw [Zaj (Zai (s2 _ _ hl1) ht)];exact s2 _ _ hl1
  .rw [Zaj (Zai hw1 ht)];exact hw1
def Zil:iY Y 3 cHouse "loaded" (Zwo K qa cStamps cHouse):=by
 refine ZaE ["self","slot","place"] Y.cl Y.b.k.cl ?_
 .symm;let⟨i,Ar,S,tk,P,n,p0,x,rfl,o,hn,hx,k⟩:=h;refine⟨_,(Wb (ZaB (Zbx Y) (hr.mono nofun) (Zam (ZbL Y) (Zaa (Zap (pv 0)) (Wa (pv 1)))) (Wa (pv 2)))),?_⟩;left;exists Zah o.ob Y.b.k.cl Y.b.n_rooms rfl ?_;exists⟨i.R,Ar,S,40,n,x,rfl,o.ro,hn,hx,?_⟩;have ax:=o.ro.ac n x hn hx;exists Zar ax.ob rfl ?_;ext;exact⟨x.a,x.dx,x.pr,x.st,_,_,_,_,_,40,p0,rfl,ax,k⟩
omit Y
def Zjx{n:Nat}(hn:n<=60){r:Row}(h:Zbp n r=true):okRow r:=by
 let⟨w,o⟩:=r;unfold Zbp at h;rw[Yq]at h;refine⟨Zrl h.1,λm e=>?_⟩;cases e;have h2:=h.2;dsimp only at h2;split at h2
 .unfold Zfq at h2;split at h2
  .rw [Yq,Yr,Yr]at h2;exact h2
  .split at h2
   .rw [Yq,Yr,Yr]at h2;omega
   .split at h2
    .rw [Yq,Yr,Yr]at h2;omega
    .rw [Yq,Yr,Yr]at h2;omega
 .cases h2
def Zc6{rs:XW}(h:Zbe rs=true):rs.length<=60/\(∀r∈rs,Zbp rs.length r=true):=by
 unfold Zbe at h;rw[Yq,Yr,Y7]at h;exact h
def Zmc{ms:XJ}{j:Nat}{k:Int}(h:j<ms.length)(e:k=(j:Int):=by rfl):atI (intsV ms) k=some (.int ((ms.getD j 0:Nat):Int)):=ZaL (i:=j) (by unfold intsV;rw[Yb,YB,Yd h];rfl) e
inductive spAnsI(K:Ydg)(cA cT cH:XB)(f:AcS->Int)(vs:XF)(H:Hp)(Q:VK)(E9:XK):Prop
 |mk(i:HoI)(A:XC)(S:XL)(tk:Int)(P:XQ)(l:XB)(n:Nat)(x:AcI):vs=[.ref i.h,.ref l]->HoAt K cA cT cH H i A S tk P->SqL K H l (intsV [n])->n<16->A n=some x->In64 (f (S n))->Q (.str (strI (f (S n)))) H->spAnsI K cA cT cH f vs H Q E9
inductive ZrQ(K:Ydg)(cA cT cH:XB)(vs:XF)(H:Hp)(Q:VK)(E9:XK):Prop
 |mk(i:HoI)(A:XC)(S:XL)(tk:Int)(P:XQ)(l:XB):vs=[.ref i.h,.ref l]->HoAt K cA cT cH H i A S tk P->In64 tk->Q (.str (strI tk)) H->ZrQ K cA cT cH vs H Q E9
inductive spTopA(K:Ydg)(cA cT cH:XB)(vs:XF)(H:Hp)(Q:VK)(E9:XK):Prop
 |mk(i:HoI)(A:XC)(S:XL)(tk:Int)(P:XQ)(l:XB):vs=[.ref i.h,.ref l]->HoAt K cA cT cH H i A S tk P->In64 ((lvl 4 (stP P)).getD 0 0)->Q (.str (strI ((lvl 4 (stP P)).getD 0 0))) H->spTopA K cA cT cH vs H Q E9
inductive spPapA(K:Ydg)(cA cT cH:XB)(vs:XF)(H:Hp)(Q:VK)(E9:XK):Prop
 |mk(i:HoI)(A:XC)(S:XL)(tk:Int)(P:XQ)(l:XB)(n:Nat):vs=[.ref i.h,.ref l]->HoAt K cA cT cH H i A S tk P->SqL K H l (intsV [n])->n<16->okN (plainN A S n)->okN (wayOf (stP P) 4 n)->(∀H',Same H H'->(plainN A S n).length<1000->Q (.str (textP n (plainN A S n) (wayOf (stP P) 4 n))) H')->spPapA K cA cT cH vs H Q E9
inductive ZrR(K:Ydg)(cA cT cH:XB)(vs:XF)(H:Hp)(Q:VK)(E9:XK):Prop
 |mk(i:HoI)(A:XC)(S:XL)(tk:Int)(P:XQ)(l:XB)(n:Nat)(p:Nat)(x:AcI):vs=[.ref i.h,.ref l]->HoAt K cA cT cH H i A S tk P->SqL K H l (intsV [n,p])->n<16->A n=some x->Q (.str (strI ((S n).store p))) H->ZrR K cA cT cH vs H Q E9
inductive ZrS(K:Ydg)(cA cT cH:XB)(vs:XF)(H:Hp)(Q:VK)(E9:XK):Prop
 |mk(i:HoI)(A:XC)(S:XL)(tk:Int)(P:XQ)(l:XB)(n:Nat)(x:AcI):vs=[.ref i.h,.ref l]->HoAt K cA cT cH H i A S tk P->SqL K H l (intsV [n])->n<16->A n=some x->(∀H',Same H H'->Q (.str (textS (S n).rows)) H')->ZrS K cA cT cH vs H Q E9
include Y
def ZiR:mY Y 4 "coin_answer" (spAnsI K qa cStamps cHouse AcS.coin):=by
 refine Zax ["house","numbers"] Y.cm ?_
 .symm;let⟨i,Ar,S,tk,P,l,n,x,rfl,o,hl,hn,hx,h0,k⟩:=h;refine⟨_,(Wb (ZaJ Zb1 rfl Y.h YM (Wa (ZaB (ZgM Y) (hr.mono nofun) (pv 0) (Wa (Zaq Zan (pv 1) Zag)))))),?_⟩;left;exists Zar o.ob rfl ?_;exists⟨i,Ar,S,tk,P,n,x,rfl,o,hn,hx,?_⟩;show rStrI [.int _] H _;exact Zbq (Za1 h0.1 (Yat h0.2 nofun)) k
def Zip:mY Y 4 "purse_answer" (spAnsI K qa cStamps cHouse AcS.purse):=by
 refine Zax ["house","numbers"] Y.cn ?_
 .symm;let⟨i,Ar,S,tk,P,l,n,x,rfl,o,hl,hn,hx,h0,k⟩:=h;refine⟨_,(Wb (ZaJ Zb1 rfl Y.h YM (Wa (ZaB (ZfV Y) (hr.mono nofun) (pv 0) (Wa (Zaq Zan (pv 1) Zag)))))),?_⟩;left;exists Zar o.ob rfl ?_;exists⟨i,Ar,S,tk,P,n,x,rfl,o,hn,hx,?_⟩;show rStrI [.int _] H _;exact Zbq (Za1 h0.1 (Yat h0.2 nofun)) k
def Ziq:mY Y 4 "count_answer" (spAnsI K qa cStamps cHouse AcS.count):=by
 refine Zax ["house","numbers"] Y.co ?_
 .symm;let⟨i,Ar,S,tk,P,l,n,x,rfl,o,hl,hn,hx,h0,k⟩:=h;refine⟨_,(Wb (ZaJ Zb1 rfl Y.h YM (Wa (ZaB (ZfW Y) (hr.mono nofun) (pv 0) (Wa (Zaq Zan (pv 1) Zag)))))),?_⟩;left;exists Zar o.ob rfl ?_;exists⟨i,Ar,S,tk,P,n,x,rfl,o,hn,hx,?_⟩;show rStrI [.int _] H _;exact Zbq (Za1 h0.1 (Yat h0.2 nofun)) k
def ZiS:mY Y 2 "till_answer" (ZrQ K qa cStamps cHouse):=by
 refine Zax ["house","numbers"] Y.cp ?_
 .symm;let⟨i,Ar,S,tk,P,l,rfl,o,h0,k⟩:=h;refine⟨_,(Wb (ZaJ Zb1 rfl Y.h YM (Wa (Zbn (Zks Y) (hr.mono nofun) (pv 0))))),?_⟩;left;exists Zar o.ob rfl ?_;exists⟨i,Ar,S,tk,P,rfl,o,?_⟩;show rStrI [.int _] H _;exact Zbq (Za1 h0.1 (Yat h0.2 nofun)) k
def ZkF:mY Y 3 "top_answer" (spTopA K qa cStamps cHouse):=by
 refine Zax ["house","numbers"] Y.cq ?_
 .symm;let⟨i,Ar,S,tk,P,l,rfl,o,h0,k⟩:=h;refine⟨_,(Wb (ZaJ Zb1 rfl Y.h YM (Wa (Zbn (Zl5 Y) (hr.mono nofun) (pv 0))))),?_⟩;left;exists Zar o.ob rfl ?_;exists⟨i,Ar,S,tk,P,rfl,o,?_⟩;show rStrI [.int _] H _;exact Zbq (Za1 h0.1 (Yat h0.2 nofun)) k
def Zir:mY Y 5 "paper_answer" (spPapA K qa cStamps cHouse):=by
 refine Zax ["house","numbers"] Y.cr ?_
 .symm;let⟨i,Ar,S,tk,P,l,n,rfl,o,hl,hn,o1,o2,k⟩:=h;refine⟨_,(Wb (Zam (Zfy Y) (Wa (ZaB (ZiM Y) (hr.mono nofun) (pv 0) (Wa (Zaq Zan (pv 1) Zag)))))),?_⟩;left;exists Zar o.ob rfl ?_;exists⟨i,Ar,S,tk,P,n,rfl,o,hn,λt a w H1 s1 _ _ _ hlen ht ha hw=>?_⟩;exists⟨t,n,_,_,rfl,⟨a,w,Zb0 ht,Zal ha,Zal hw⟩,(),(),o1,o2,(),by rw[ZcU];omega,λH2 s2=>?_⟩;ext;exact k H2 (s1.trans s2) hlen
def ZiT:mY Y 4 "load_answer" (ZrR K qa cStamps cHouse):=by
 refine Zax ["house","numbers"] Y.cs ?_
 .symm;let⟨i,Ar,S,tk,P,l,n,p,x,rfl,o,hl,hn,hx,k⟩:=h;refine⟨_,(Wb (ZaJ Zb1 rfl Y.h YM (Wa (ZaB (Zil Y) (hr.mono nofun) (pv 0) (Zaa (Zaq Zan (pv 1) Zag) (Wa (Zaq Zan (pv 1) Zag))))))),?_⟩;left;exists Zar o.ob rfl ?_;exists⟨i,Ar,S,tk,P,n,p,x,rfl,o,hn,hx,?_⟩;have h0:=(o.ba.so.st n p).1;show rStrI [.int _] H _;exact Zbq (Za1 h0.1 (Yat h0.2 nofun)) k
def ZiU:mY Y 4 "code_answer" (ZrS K qa cStamps cHouse):=by
 refine Zax ["house","numbers"] Y.ct ?_
 .symm;let⟨i,Ar,S,tk,P,l,n,x,rfl,o,hl,hn,hx,k⟩:=h;refine⟨_,(Wb (Zam (ZtL Y) (Wa (ZaB (ZeH Y) (hr.mono nofun) (pv 0) (Wa (Zaq Zan (pv 1) Zag)))))),?_⟩;left;exists Zar o.ob rfl ?_;exists⟨i,Ar,S,tk,P,n,x,rfl,o,hn,hx,λq xs H1 s1 hq0 hq hR=>?_⟩;let⟨hr1,hr2⟩:=Zc6 (o.ba.rw_ n x hn hx).1;exists⟨q,xs,_,rfl,Zal hq,hR,hr1,λr hr=>Zjx hr1 (hr2 r hr),λH2 s2=>?_⟩;ext;exact k H2 (s1.trans s2)
omit Y
inductive spLetA(K:Ydg)(vs:XF)(H:Hp)(Q:VK)(E9:XK):Prop
 |mk(t:XB)(e:Str)(a u p:Int)(v1 v2:V):vs=[.ref t]->SqT K H t [.str e,.int a,.int u,.int p,v1,v2]->e.length<=100->(0<=a/\a<18446744073709551616)->(0<=u/\u<18446744073709551616)->(0<=p/\p<18446744073709551616)->(∀H',Same H H'->Q (.str (Txt.join (Str.ofString " ") [e,strI a,strI u,strI p])) H')->spLetA K vs H Q E9
inductive ZtP(K:Ydg)(vs:XF)(H:Hp)(Q:VK)(E9:XK):Prop
 |mk(l:XB)(ms:XJ):vs=[.ref l]->SqL K H l (intsV ms)->(ms.length=4\/ms.length=5)->Q (.int ((ms.getD 4 0:Nat):Int)) H->ZtP K vs H Q E9
def LokM(A:XC)(S:XL)(ms:XJ):Prop:=Lok A S (ms.getD 0 0) (ms.getD 1 0) (ms.getD 2 0:Nat) (ms.getD 3 0:Nat) (ms.getD 4 0:Nat)
inductive ZrT(K:Ydg)(cA cT cH:XB)(vs:XF)(H:Hp)(Q:VK)(E9:XK):Prop
 |mk(i:HoI)(A:XC)(S:XL)(tk:Int)(P:XQ)(l:XB)(ms:XJ):vs=[.ref i.h,.ref l]->HoAt K cA cT cH H i A S tk P->Ex A S P->SqL K H l (intsV ms)->(ms.length=4\/ms.length=5)->LokM A S ms->(∀z H' S' P' pd,KeptX (inHo i A) H H'->HoAt K cA cT cH H' i A (paidS S' (ms.getD 0 0) pd) (tk+pd) P'->Ex A (paidS S' (ms.getD 0 0) pd) P'->Lft S S'->(0<=pd/\pd<=(ms.getD 3 0:Nat))->Q (.str z) H')->ZrT K cA cT cH vs H Q E9
inductive spTryA(K:Ydg)(cA cT cH:XB)(vs:XF)(H:Hp)(Q:VK)(E9:XK):Prop
 |mk(i:HoI)(A:XC)(S:XL)(tk:Int)(P:XQ)(l:XB)(ms:XJ):vs=[.ref i.h,.ref l]->HoAt K cA cT cH H i A S tk P->SqL K H l (intsV ms)->(ms.length=4\/ms.length=5)->LokM A S ms->(∀z H',KeptX (inHo i A) H H'->HoAt K cA cT cH H' i A S tk P->Q (.str z) H')->spTryA K cA cT cH vs H Q E9
def four{ms:XJ}(h:ms.length=4\/ms.length=5):(∃a b c d,ms=[a,b,c,d])\/∃a b c d e,ms=[a,b,c,d,e]:=by
 match ms,h with
 |[a,b,c,d],_=>exact .inl ⟨a,b,c,d,rfl⟩
 |[a,b,c,d,e],_=>exact .inr ⟨a,b,c,d,e,rfl⟩
 |[],h=>simp at h
 |[_],h=>simp at h
 |[_,_],h=>simp at h
 |[_,_,_],h=>simp at h
 |_::_::_::_::_::_::r,h=>simp at h
include Y
def Zdi:mY Y 1 "letter_answer" (spLetA K):=by
 refine Zax ["told"] Y.cu ?_
 .symm;let⟨t,e,a,u,p,v1,v2,rfl,ht,he,ha,hu,hp,k⟩:=h;refine⟨_,(Wb (Zbj YU Yag Yaf Zdq Zav (Wa (ZbJ ["part"] rfl (show CompScope (Zae (top 145)) ["told"] ["part"] _ by walk_at"p") (Zuc (ZbS sl_tup (pv 0) Zdl (ZbR Zag))) (λ_ _ _ _ _=>(Zbi (i:=0) (show(["part","told"]:XN).Nodup by decide +kernel) rfl (Or.inl rfl) (.inr rfl))) (λ_ _ _ _ _=>ZbI) (λ_ _ _ _ _=>(ZaJ ZqF rfl Y.h YM (Wa (pv 0)))))))),?_⟩;left;have big:(100:Nat)<=sizeLine:=nofun;exists Zbk (Zmr ?_);exists⟨t,_,rfl,ht,(λz=>absurd (show HT.sIx 6 6 (some 4)=6 from z.2) nofun),λt1 ht1=>?_⟩;have s1:=Same.new ht1 (o:=.tup [.str e,.int a,.int u,.int p]);have g1:SqT K (upd H t1 (.tup [.str e,.int a,.int u,.int p])) t1 [.str e,.int a,.int u,.int p]:=Zb0 Zad;rw[show cutV [V.str e,.int a,.int u,.int p,v1,v2] none (some 4)=[.str e,.int a,.int u,.int p]from rfl];generalize upd H t1 _=H1 at s1 g1 |-;refine⟨t1,rfl,⟨_,g1⟩,λq hq=>?_⟩;refine Zhu (ys:=[e,strI a,strI u,strI p].map V.str) g1 hq rfl (szl_4) ?_ ?_
  .intro i x y H' Q' hx hy sm q'
   match i,hx,hy with
   |0,hx,hy=>
    cases hx;cases hy;ext;exact ZmF q'
   |1,hx,hy=>
    cases hx;cases hy;ext;exact ZjQ (Za1 ha.1 (Yat ha.2 nofun)) q'
   |2,hx,hy=>
    cases hx;cases hy;ext;exact ZjQ (Za1 hu.1 (Yat hu.2 nofun)) q'
   |3,hx,hy=>
    cases hx;cases hy;ext;exact ZjQ (Za1 hp.1 (Yat hp.2 nofun)) q'
   |i+4,hx,_=>simp at hx
  .ext;refine Zds (Zal Zad) (Zfw ?_) ?_
   .have l1:=Zfv ha.1 ha.2;have l2:=Zfv hu.1 hu.2;have l3:=Zfv hp.1 hp.2;have l5:(Str.ofString " ").length=1:=nofun;simp only[Yz,YaX,Yab,YcH,Yi,Yac,l5];omega
   .ext;exact k _ (s1.newT hq)
def Zjy:mY Y 1 "word_of" (ZtP K):=by
 refine Zax ["numbers"] Y.cv ?_
 .symm;let⟨l,ms,rfl,hl,hm,k⟩:=h;refine⟨_,(Zac (ZaG (Zas Zbf (Zau ZaN rfl Y.d Ys (Wa (pv 0))) Zag) (Wb (Zaq Zan (pv 0) Zag)) Zat) (Wb Zag)),?_⟩;left;have hx:(intsV ms).length=ms.length:=Ya ..;rcases four hm with⟨a,b,c,d,rfl⟩|⟨a,b,c,d,e,rfl⟩
  .have hx:(intsV [a,b,c,d]).length=4:=rfl;walk_at"Z";exact k
  .have hx:(intsV [a,b,c,d,e]).length=5:=rfl;walk_at"Z";exact k
def ZiW:mY Y 52 "send_answer" (ZrT K qa cStamps cHouse):=by
 refine Zax ["house","numbers"] Y.cw ?_
 .symm;let⟨i,Ar,S,tk,P,l,ms,rfl,o,ex,hl,hm,lo,k⟩:=h;refine⟨_,(Wb (Zam (Zdi Y) (Wa (ZnV (Zku Y) (hr.mono nofun) (pv 0) (Zaa (Zaq Zan (pv 1) Zag) (Zaa (Zaq Zan (pv 1) Zag) (Zaa (Zaq Zan (pv 1) Zag) (Zaa (Zaq Zan (pv 1) Zag) (Wa (Zam (Zjy Y) (Wa (pv 1)))))))))))),?_⟩;left;have h4:4<=ms.length:=();have l1:=Lok.l1 lo;exists Zar o.ob rfl ?_;exists ZaA hl (Zmc (j:=0) ()) ?_;exists ZaA hl (Zmc (j:=1) ()) ?_;exists ZaA hl (Zmc (j:=2) ()) ?_;exists ZaA hl (Zmc (j:=3) ()) ?_;exists⟨l,ms,rfl,hl,hm,?_⟩;exists⟨i,Ar,S,tk,P,_,_,_,_,_,rfl,o,ex,lo,λq e an us pd v4 v5 H1 S1 P1 k1 o1 e1 lf he ha hu hp hq=>?_⟩;exists⟨q,e,an,us,pd,v4,v5,rfl,Zb0 hq,(),ha,⟨(),()⟩,⟨(),()⟩,λH2 s2=>?_⟩;ext;exact k _ H2 S1 P1 pd (k1.trans s2.keptX) (o1.same s2) e1 lf ⟨hp.1,()⟩
def ZkH:mY Y 52 "try_answer" (spTryA K qa cStamps cHouse):=by
 refine Zax ["house","numbers"] Y.cx ?_
 .symm;let⟨i,Ar,S,tk,P,l,ms,rfl,o,hl,hm,lo,k⟩:=h;refine⟨_,(Wb (Zam (Zdi Y) (Wa (ZnV (ZiK Y) (hr.mono nofun) (pv 0) (Zaa (Zaq Zan (pv 1) Zag) (Zaa (Zaq Zan (pv 1) Zag) (Zaa (Zaq Zan (pv 1) Zag) (Zaa (Zaq Zan (pv 1) Zag) (Wa (Zam (Zjy Y) (Wa (pv 1)))))))))))),?_⟩;left;have h4:4<=ms.length:=();have l1:=Lok.l1 lo;exists Zar o.ob rfl ?_;exists ZaA hl (Zmc (j:=0) ()) ?_;exists ZaA hl (Zmc (j:=1) ()) ?_;exists ZaA hl (Zmc (j:=2) ()) ?_;exists ZaA hl (Zmc (j:=3) ()) ?_;exists⟨l,ms,rfl,hl,hm,?_⟩;exists⟨i,Ar,S,tk,P,_,_,_,_,_,rfl,o,lo,λq e an us pd v4 v5 H1 k1 o1 he ha hu hp hq=>?_⟩;exists⟨q,e,an,us,pd,v4,v5,rfl,Zb0 hq,(),ha,⟨(),()⟩,⟨(),()⟩,λH2 s2=>?_⟩;ext;exact k _ H2 (k1.trans s2.keptX) (o1.same s2)
omit Y
def Zis{ms:XJ}:shownS (ms.map λm:Nat=>(m:Int))=rowT (numsW ms):=by
 unfold shownS;rw[<- ZkA];unfold numsW;rw[Yao,Yao];exact Y3 _ (YaK λm _=>ZbG (Yak m))
def ZrU{ns:XD}(h:okN ns):∃ms:List Nat,ns=ms.map (λm:Nat=>(m:Int))/\∀m∈ms,m<18446744073709551616:=by
 refine⟨ns.map Int.toNat,?_,λm hm=>?_⟩
 .rw [Yao];refine((YaK λn hn=>?_).trans (List.map_id _)).symm;exact Int.toNat_of_nonneg (h n hn).1
 .obtain ⟨n,hn,rfl⟩:=YF.mp hm;have:=h n hn;omega
def ZuH{ms:XJ}:47∉glueL [32] (numsW ms):=λz=>by
 induction ms with
 |nil=>cases z
 |cons m r ih=>
  have hm:47∉sNum m:=λy=>by have:=Zih y;omega
  cases r with
  |nil=>exact hm z
  |cons a r=>
   have z:47∈sNum m++[32]++glueL [32] (numsW (a::r)):=z;rw[Yw,Yw]at z;rcases z with(z|z)|z
   .exact hm z
   .simp at z
   .exact ih z
def ZtQ{p:Nat}{ms ws:XJ}:Txt.split (textP p (ms.map λm:Nat=>(m:Int)) (ws.map λm:Nat=>(m:Int))) (Str.ofString " / ")=[mkS (sNum p),rowT (numsW ms),rowT (numsW ws)]:=by
 have e:textP p (ms.map λm:Nat=>(m:Int)) (ws.map λm:Nat=>(m:Int))=mkS (glueL [32,47,32] [sNum p,glueL [32] (numsW ms),glueL [32] (numsW ws)]):=by
  unfold textP;rw[Zis,Zis,Zdu,show(Str.ofString " / ").cps.toList=[32,47,32]by decide,show strI p=mkS (sNum p)from ZbG (Yak p)];unfold rowT;rw[Yz,Yz,Yz,YaX,ZaQ,ZaQ,ZaQ]
 rw[e,show(Str.ofString " / ")=mkS [32,47,32]by decide];exact ZmL (λz=>by have:=Zih z;omega) ZuH ZuH
def ZtR{ms:XJ}:∀p∈numsW ms,32∉p:=λp hp=>by
 let⟨m,_,rfl⟩:=YF.mp hp;exact ZkB
def spRdT:Sp:=λvs H Q _=>∃ms:List Nat,vs=[.str (rowT (numsW ms))]/\ms.length<=1000/\(rowT (numsW ms)).length<=50000/\(∀m∈ms,m<18446744073709551616)/\∀q H',Same H H'->H' q=some (.lst (intsV ms))->Q (.ref q) H'
inductive spRdP(K:Ydg)(vs:XF)(H:Hp)(Q:VK)(E9:XK):Prop
 |mk(p:Nat)(ns ws:XD):vs=[.str (textP p ns ws)]->p<18446744073709551616->okN ns->okN ws->ns.length<=1000->ws.length<=60->(∀t H',Same H H'->Zkz K H' t p ns ws->Q (.ref t) H')->spRdP K vs H Q E9
def Zb6:FnScope ["text","number"] ["text"] (Zae (top 134)):=by walk_at"c"
def ZbY:FnScope ["text","parts","place","numbers","way"] ["text"] (Zae (top 138)):=by walk_at"c"
def Zcp:FnScope ["text","number"] ["text"] (Zae (top 140)):=by walk_at"c"
include Y
def Zb7:mY Y 3 "read_number_notes" spRdN:=by
 refine ZjW _ Y.cy ?_ _ Zb6
 .symm;let⟨m,rfl,hm,k⟩:=h;refine⟨_,(Zac (Zao (i:=1) Zb6.nd (Zam (ZdN Y) (Wa (pv 0)))) (Zac (ZaG (Zas Zce (pv 1) Zbl) (Zaf Za8) Zat) (Wb (pv 1)))),?_⟩;left;repeat walk_at"rdk"
  refine⟨mkS (sNum m),rfl,by rw[Zbg];exact Yj (ZbX hm) nofun,λH1 s1=>?_⟩;rw[ZaQ,Zkv hm];simp only[optV];repeat walk_at"rdk"
  exact k H1 s1
def Zb2:mY Y 4 "read_numbers_notes" spRdT:=by
 refine ZjW ["text"] Y.cz ?_
 .symm;let⟨ms,rfl,hc,hlen,hb,k⟩:=h;refine⟨_,(Zac (ZaG (Zas Zbf (pv 0) Zav) (Wb (ZaI Zab)) Zat) (Wb (ZbJ ["part"] rfl (show CompScope (Zae (top 136)) ["text"] ["part"] _ by walk_at"p") (Zbc (Zbj YU YaP YaO ZeT (pv 0) (Wa Zav))) (λ_ _ _ _ _=>(Zbi (i:=0) (show(["part","text"]:XN).Nodup by decide +kernel) rfl (Or.inl rfl) (.inr rfl))) (λ_ _ _ _ _=>ZbI) (λ_ _ _ _ _=>(Zam (Zb7 Y) (Wa (pv 0))))))),?_⟩;left;cases ms with
  |nil=>
   rw[show rowT (numsW [])=Str.ofString ""from ZrL.symm];repeat walk_at"rdx"
   refine⟨nofun,λq hq=>?_⟩;exact k q _ (Same.new hq) Zad
  |cons m0 r0=>
  have hne:rowT (numsW (m0::r0))≠Str.ofString "":=λz=>by
   rw[ZrL]at z;have z:=ZrK z;have h0:=Zho m0;cases r0 with
   |nil=>exact h0 z
   |cons a r=>
    have z:sNum m0++[32]++glueL [32] (numsW (a::r))=[]:=z;simp at z
  have es:=Zij (ws:=numsW (m0::r0)) (by simp[numsW]) ZtR;generalize m0::r0=ms at hc hlen hb k hne es |-;have big:(60000:Nat)<=sizeLine:=nofun;have hx:(strsV (numsW ms)).length=ms.length:=by unfold strsV numsW;rw[Ya,Ya]
  have hx2:((numsW ms).map mkS).length=ms.length:=by unfold numsW;rw[Ya,Ya]
  ext
  .exact absurd ‹_› hne
  exists Zbk (ZaY ?_);exists ZcY nofun () (by rw[es,hx2];omega) λl hl0=>?_;rw[es,Zg6];have s0:=Same.new hl0 (o:=.lst (strsV (numsW ms)));have hl:SqL K (upd H l (.lst (strsV (numsW ms)))) l (strsV (numsW ms)):=Zal Zad;generalize upd H l _=H0 at s0 hl;refine⟨l,rfl,⟨_,hl⟩,λq hq=>?_⟩;refine Zcf (λi H'=>Same H0 H'/\H' q=some (.lst (intsV (ms.take i)))/\SqL K H' l (strsV (numsW ms))) ⟨Same.new hq,Zad,hl.updN hq⟩ (λi H' ⟨_,_,h⟩=>h) ?_ ?_
  .rintro i x H' hx' ⟨s1,hv,hl'⟩;let⟨hi,e⟩:=Yf.mp hx';have hir:i<ms.length:=();have ex:x=.str (mkS (sNum ms[i])):=by rw[<- e];simp[strsV,numsW]
   subst ex;refine ZfK ?_;refine iteT ?_;exists⟨ms[i],rfl,hb _ (Yad hir),λH2 s2=>?_⟩;refine⟨_,s2 _ _ hv,by unfold intsV;rw[Ya,YN];exact Y4 (show min i ms.length<=1000 by omega) nofun,⟨(s1.trans s2).wr hq,?_,?_⟩,_,rfl⟩
   .rw [Zad,Ym hir];unfold intsV;rw[YA];rfl
   .exact ((s1.trans s2).wr hq).seq hl
  .rintro H' ⟨s1,hv,_⟩;rw[hx,YK]at hv;ext;exact k q _ (s0.trans s1) hv
def ZkI:mY Y 5 "read_paper" (spRdP K):=by
 refine Zax _ Y.cA ?_ _ ZbY
 .symm;let⟨p,ns,ws,rfl,hp,ok1,ok2,hl1,hl2,k⟩:=h;refine⟨_,(Zac (Zao (i:=1) ZbY.nd (Zbj YU YaP YaO ZeT (pv 0) (Wa (ZaW rfl Y.G)))) (Zac (ZaG (Zas ZfC (Zau ZaN rfl Y.d Ys (Wa (pv 1))) Zag) (Zaf Za8) Zat) (Zac (Zao (i:=2) ZbY.nd (Zam (Zb7 Y) (Wa (Zaq Zan (pv 1) Zag)))) (Zac (Zao (i:=3) ZbY.nd (Zam (Zb2 Y) (Wa (Zaq Zan (pv 1) Zag)))) (Zac (Zao (i:=4) ZbY.nd (Zam (Zb2 Y) (Wa (Zaq Zan (pv 1) Zag)))) (Zac (ZaG (Zas ZfE (Zau ZaN rfl Y.d Ys (Wa (pv 4))) (ZaW rfl Y.cB)) (Zaf Za8) Zat) (Wb (ZaH (Zaa (pv 2) (Zaa (pv 3) (Wa (pv 4)))))))))))),?_⟩;left;have htl:=ZrP (p:=(p:Int)) () () ok1 ok2 hl1 ();have l1:=Zfx ok1 hl1;have l2:=Zfx ok2 ();let⟨ms,rfl,hb1⟩:=ZrU ok1;let⟨us,rfl,hb2⟩:=ZrU ok2;rw[Zis]at l1 l2;rw[Ya]at hl1 hl2;have es:=ZtQ (p:=p) (ms:=ms) (ws:=us);have big:(60000:Nat)<=sizeLine:=nofun;exists ZcY nofun () (by rw[es];show 3<=sizeLine;decide) λq hq=>?_;rw[es];have s1:=Same.new hq (o:=.lst ([mkS (sNum p),rowT (numsW ms),rowT (numsW us)].map V.str));have hs:SqL K (upd H q (.lst ([mkS (sNum p),rowT (numsW ms),rowT (numsW us)].map V.str))) q [.str (mkS (sNum p)),.str (rowT (numsW ms)),.str (rowT (numsW us))]:=Zal Zad;generalize upd H q _=H1 at s1 hs;have hlen:([V.str (mkS (sNum p)),.str (rowT (numsW ms)),.str (rowT (numsW us))]:XF).length=3:=rfl;walk_at"Z";refine⟨p,rfl,hp,λH2 s2=>?_⟩;have hs2:=s2.seq hs;walk_at"Z";refine⟨ms,rfl,hl1,(),hb1,λa H3 s3 ha=>?_⟩;have hs3:=s3.seq hs2;walk_at"Z";refine⟨us,rfl,(),(),hb2,λb H4 s4 hb=>?_⟩;have ha4:=s4 _ _ ha;have hbl:SqL K H4 b (intsV us):=Zal hb;have hle:(intsV us).length=us.length:=Ya ..;walk_at"Z";refine⟨show 3<=sizeLine by decide,λt ht=>?_⟩;have sm:=Same.new ht (o:=.tup [.int p,.ref a,.ref b]);have e1:∀l:List Nat,(l.map λm:Nat=>(m:Int)).map V.int=intsV l:=λl=>Yao;refine k t _ ((((s1.trans s2).trans s3).trans s4).newT ht) ⟨a,b,Zb0 Zad,?_,?_⟩
  .rw [e1];exact Zal (sm _ _ ha4)
  .rw [e1];exact Zal (sm _ _ hb)
def ZeJ:mY Y 3 "read_number_desk" spRdN:=by
 refine ZjW _ Y.cC ?_ _ Zcp
 .symm;let⟨m,rfl,hm,k⟩:=h;refine⟨_,(Zac (Zao (i:=1) Zcp.nd (Zam (ZdN Y) (Wa (pv 0)))) (Zac (ZaG (Zas Zce (pv 1) Zbl) (Zaf Za8) Zat) (Wb (pv 1)))),?_⟩;left;repeat walk_at"rdk"
  refine⟨mkS (sNum m),rfl,by rw[Zbg];exact Yj (ZbX hm) nofun,λH1 s1=>?_⟩;rw[ZaQ,Zkv hm];simp only[optV];repeat walk_at"rdk"
  exact k H1 s1
def Zb8:mY Y 4 "read_numbers_desk" (spRdNs K):=by
 refine ZjW ["parts"] Y.cD ?_
 .symm;let⟨l,ms,rfl,hl,hc,hb,k⟩:=h;refine⟨_,(Wb (ZbJ ["part"] rfl (show CompScope (Zae (top 142)) ["parts"] ["part"] _ by walk_at"p") (Zbc (pv 0)) (λ_ _ _ _ _=>(Zbi (i:=0) (show(["part","parts"]:XN).Nodup by decide +kernel) rfl (Or.inl rfl) (.inr rfl))) (λ_ _ _ _ _=>ZbI) (λ_ _ _ _ _=>(Zam (ZeJ Y) (Wa (pv 0)))))),?_⟩;left;have hx:(strsV (numsW ms)).length=ms.length:=by unfold strsV numsW;rw[Ya,Ya]
  exists Zbk (ZaY ?_);exists⟨l,rfl,⟨_,hl⟩,λq hq=>?_⟩;refine Zcf (λi H'=>Same H H'/\H' q=some (.lst (intsV (ms.take i)))/\SqL K H' l (strsV (numsW ms))) ⟨Same.new hq,Zad,hl.updN hq⟩ (λi H' ⟨_,_,h⟩=>h) ?_ ?_
  .rintro i x H' hx' ⟨s1,hv,hl'⟩;let⟨hi,e⟩:=Yf.mp hx';have hir:i<ms.length:=();have ex:x=.str (mkS (sNum ms[i])):=by rw[<- e];simp[strsV,numsW]
   subst ex;refine ZfK ?_;refine iteT ?_;exists⟨ms[i],rfl,hb _ (Yad hir),λH2 s2=>?_⟩;refine⟨_,s2 _ _ hv,by unfold intsV;rw[Ya,YN];exact Y4 (show min i ms.length<=100 by omega) nofun,⟨(s1.trans s2).wr hq,?_,?_⟩,_,rfl⟩
   .rw [Zad,Ym hir];unfold intsV;rw[YA];rfl
   .exact ((s1.trans s2).wr hq).seq hl
  .rintro H' ⟨s1,hv,_⟩;rw[hx,YK]at hv;ext;exact k q _ s1 hv
omit Y
structure AdmOk(ps:XD)(A:XC)(S:XL)(tk:Int)(n c p:Nat)(rs:XW):Prop where
 n16:n<16
 free:A n=none
 hc:c<18446744073709551616
 hp:p<18446744073709551616
 ri:Zbe rs=true
 su:sumsOk A S tk c p
 sf:Safe ps rs
noncomputable def admW(n c p:Nat)(cs:XV):List (List Nat):=sNum n::sNum c::sNum p::cs
inductive spAdmA(K:Ydg)(cA cT cH:XB)(vs:XF)(H:Hp)(Q:VK)(E9:XK):Prop
 |mk(i:HoI)(A:XC)(S:XL)(tk:Int)(P:XQ)(l:XB)(n c p:Nat)(cs:XV)(rs:XW):vs=[.ref i.h,.ref l]->HoAt K cA cT cH H i A S tk P->SqL K H l (strsV (admW n c p cs))->AdmOk i.ps A S tk n c p rs->OkW cs->rowT cs=textS rs->(∀x H',H x.a=none->H x.st=none->H x.pr=none->KeptX (inHo i A) H H'->HoAt K cA cT cH H' i (setO A n x) (setS S n (newS c p rs)) tk (setP P n (plainS (newS c p rs)))->Q (.str "ok") H')->spAdmA K cA cT cH vs H Q E9
def Zcq:FnScope ["house","parts","numbers","program"] ["house","parts"] (Zae (top 144)):=by walk_at"c"
include Y
def Zit:mY Y 6 "admit_answer" (spAdmA K qa cStamps cHouse):=by
 refine Zax _ Y.cE ?_ _ Zcq
 .symm;let⟨i,Ar,S,tk,P,l,n,c,p,cs,rs,rfl,o,hl,ok,hcs,ht,k⟩:=h;refine⟨_,(Zac (Zao (i:=2) Zcq.nd (Zam (Zb8 Y) (Wa (ZbS ZcF (pv 1) Zdl (ZbR Zag))))) (Zac (ZaG (Zas ZfD (Zau ZaN rfl Y.d Ys (Wa (pv 2))) Zag) (Zaf Za8) Zat) (Zac (Zao (i:=3) Zcq.nd (Zam (Zwn Y) (Wa (Zbj YU Yag Yaf Zdq Zav (Wa (ZbS ZcF (pv 1) (ZbR Zag) Zdl)))))) (Zac (Zay (ZaB (ZiJ Y) (hr.mono nofun) (pv 0) (Zaa (Zaq Zan (pv 2) Zag) (Zaa (Zaq Zan (pv 2) Zag) (Zaa (Zaq Zan (pv 2) Zag) (Wa (pv 3))))))) (Wb Zav))))),?_⟩;left;let⟨hr1,hr2⟩:=Zc6 ok.ri;have hn16:=ok.n16;ext;intro q hq;rw[show(3:Int)=((3:Nat):Int)from rfl,Zqd];have s1:=Same.new hq (o:=.lst ((strsV (admW n c p cs)).take 3));have hq1:SqL K (upd H q (.lst ((strsV (admW n c p cs)).take 3))) q (strsV (numsW [n,c,p])):=Zal Zad;generalize upd H q _=H1 at s1 hq1;exists⟨q,[n,c,p],rfl,hq1,by show 3<=100;decide,λm hm=>?_,λa H2 s2 ha=>?_⟩
  .have:=ok.hc;have:=ok.hp;rcases Yh.mp hm with rfl|hm
   .omega
   .rcases Yh.mp hm with rfl|hm
    .omega
    .rw [Ye.mp hm];omega
  have hl2:=s2.seq (s1.seq hl);have hsa:SqL K H2 a [.int n,.int c,.int p]:=Zal ha;have hlen:([.int n,.int c,.int p]:XF).length=3:=rfl;have sa:=s1.trans s2;clear hq1 s1 s2 hl;walk_at"Z";intro b hb;try rw[show(some (3:Int))=some ((3:Nat):Int)from rfl]
  rw[ZeW];have s3:=Same.new hb (o:=.lst ((strsV (admW n c p cs)).drop 3));have hb1:SqL K (upd H2 b (.lst ((strsV (admW n c p cs)).drop 3))) b ((cs.map mkS).map V.str):=by rw[Zg6];exact Zal Zad
  generalize upd H2 b _=H3 at s3 hb1;have hsa3:=s3.seq hsa;have sb:=sa.trans s3;exists⟨Str.ofString " ",b,cs.map mkS,rfl,rfl,hb1,hcs.join,?_⟩;rw[ZkA,ht];refine⟨rs,rfl,hr1,ok.ri,λr hr=>Zjx hr1 (hr2 r hr),λe xs H4 s4 he0 he hR=>?_⟩;have hsa4:=s4.seq hsa3;have sc:=sb.trans s4;have o4:=o.same sc;walk_at"Z";refine Zar o4.ob rfl ?_;walk_at"Z";refine⟨i,Ar,S,tk,P,n,c,p,e,xs,rs,rfl,o4,Zal he,hR,by have:=hR.1;omega,hn16,ok.free,⟨(),by have:=ok.hc;omega⟩,⟨(),by have:=ok.hp;omega⟩,ok.ri,ok.su,ok.sf,λx H5 h1 h2 h3 k5 o5=>?_⟩;walk_at"Z";exact k x H5 (sc.fresh h1) (sc.fresh h2) (sc.fresh h3) (λu v e' z=>k5 u v (sc u v e') z) o5
omit Y
inductive AnSp(K:Ydg)(cA cT cH:XB):Str->List Nat->Sp->Prop
 |send:AnSp K cA cT cH "send" [4,5] (ZrT K cA cT cH)
 |tryd:AnSp K cA cT cH "try" [4,5] (spTryA K cA cT cH)
 |coin:AnSp K cA cT cH "coin" [1] (spAnsI K cA cT cH AcS.coin)
 |purse:AnSp K cA cT cH "purse" [1] (spAnsI K cA cT cH AcS.purse)
 |count:AnSp K cA cT cH "count" [1] (spAnsI K cA cT cH AcS.count)
 |load:AnSp K cA cT cH "load" [2] (ZrR K cA cT cH)
 |till:AnSp K cA cT cH "till" [0] (ZrQ K cA cT cH)
 |top:AnSp K cA cT cH "top" [0] (spTopA K cA cT cH)
 |code:AnSp K cA cT cH "code" [1] (ZrS K cA cT cH)
 |paper:AnSp K cA cT cH "paper" [1] (spPapA K cA cT cH)
def AnOk(P:XI)(w:XO)(K:Ydg)(cA cT cH:XB)(mg:XA)(base:XT)(aA aK:XB):Prop:=
 (aA==sysModules)=false/\∃vs us,ZfG P w K aA vs/\ZfG P w K aK us/\∀x m sp,AnSp K cA cT cH x m sp->∃fa ta,valueAt vs (.inr x)=some (.ref fa)/\CalF P w K mg base 52 fa sp/\valueAt us (.inr x)=some (.ref ta)/\TupK K ta (intsV m)
def AnSp.word{K:Ydg}{cA cT cH:XB}{x:Str}{m:XJ}{sp:Sp}(h:AnSp K cA cT cH x m sp):x≠"admit"/\32∉x.cps.toList/\x.cps.toList.length<=40/\∀k∈m,k<=5:=by
 cases h<;>decide
def AnSp.words{K:Ydg}{cA cT cH:XB}{x:Str}{m:XJ}{sp:Sp}(h:AnSp K cA cT cH x m sp){ms:XJ}(hm:ms.length∈m)(hb:∀y∈ms,y<18446744073709551616):OkW (x.cps.toList::numsW ms):=by
 let⟨_,h1,h2,h3⟩:=h.word;refine⟨λp hp=>?_,λp hp=>?_,?_⟩
 .rcases Yh.mp hp with rfl|hp
  .exact h1
  .obtain ⟨y,_,rfl⟩:=YF.mp hp;exact ZkB
 .rcases Yh.mp hp with rfl|hp
  .exact h2
  .obtain ⟨y,hy,rfl⟩:=YF.mp hp;exact Yj (ZbX (hb y hy)) nofun
 .unfold numsW;rw[Yi,Ya];have:=h3 _ hm;omega
noncomputable def admitL:List Nat:=[97,100,109,105,116]
def Zoj:(Str.ofString "admit")=mkS admitL:=nofun
def Zmd(cD:XB)(H:Hp)(d dx h:XB):Prop:=H d=some (.ins cD dx [("house",.ref h)])
inductive IspSay(K:Ydg)(cA cT cH cD:XB)(vs:XF)(H:Hp)(Q:VK):Prop
 |mk(d dx h:XB)(z:Str):vs=[.ref d,.str z]->Zmd cD H d dx h->((∃(n c p:Nat)(cs:XV),z=rowT (admitL::admW n c p cs)/\OkW (admitL::admW n c p cs)/\∀l H1,Same H H1->H1 l=some (.lst (strsV (admW n c p cs)))->spAdmA K cA cT cH [.ref h,.ref l] H1 Q E0)\/(∃(x:Str)(m:XJ)(sp:Sp)(ms:XJ),AnSp K cA cT cH x m sp/\ms.length∈m/\(∀y∈ms,y<18446744073709551616)/\z=rowT (x.cps.toList::numsW ms)/\∀l H1,Same H H1->H1 l=some (.lst (intsV ms))->sp [.ref h,.ref l] H1 Q E0))->IspSay K cA cT cH cD vs H Q
def spSay(K:Ydg)(cA cT cH cD:XB):Sp:=λvs H Q _=>IspSay K cA cT cH cD vs H Q
inductive Zwp(K:Ydg)(cA cT cH cD:XB)(vs:XF)(H:Hp)(Q:VK)(E9:XK):Prop
 |mk(a dx:XB)(ps:XD):vs=[.ref a]->H a=some (.ins cD dx [])->ps.length<=40->(∀i H',i.ps=ps->Zmd cD H' a dx i.h->(∀b o,H b=some o->b≠a->H' b=some o/\NotHo i (λ_=>none) b)->NotHo i (λ_=>none) a->HoAt K cA cT cH H' i (λ_=>none) (λ_=>⟨0,0,0,[],λ_=>0⟩) 0 (λ_=>[])->Q .non H')->Zwp K cA cT cH cD vs H Q E9
def Ziu:FnScope ["self","row","parts"] ["self","row"] (Zae (tQ 159 1)):=by walk_at"c"
def an1{vs us:Xo}{x f:Str}{m:XJ}{l:XD}{sp:Sp}{k:Nat}(h:∃v,valueAt vs (.inr x)=some v/\RfN mg v f)(q:∃v,valueAt us (.inr x)=some v/\RtN K iV v l)(c:Cal P w K mg base k f sp)(hk:k<=52)(e:iV l=intsV m):∃fa ta,valueAt vs (.inr x)=some (.ref fa)/\CalF P w K mg base 52 fa sp/\valueAt us (.inr x)=some (.ref ta)/\TupK K ta (intsV m):=by
 let⟨fa,e1,c1⟩:=tabC h c hk;let⟨v,e2,ta,rfl,t⟩:=q;exact⟨fa,ta,e1,c1,e2,e▸t⟩
include Y
def ZgQ:jY Y 8 "Desk" cDesk (Zwp K qa cStamps cHouse cDesk):=by
 refine Zdt ["self"] Y.cF Y.l.k ?_
 .symm;let⟨a,dx,ps,rfl,ha,hps,k⟩:=h;refine⟨_,(Zaf (ZaS (pv 0) (ZnE (ZfY Y) (hr.mono nofun) rfl) rfl)),?_⟩;left;ext;intro x xd hx hxd hne;refine⟨x,xd,ps,rfl,Zad,hps,λi H1 hi hip k1 o1=>⟨rfl,?_⟩⟩;have hax:a≠x:=Zai ha hx;have had:a≠xd:=Zai ha hxd;let⟨ha1,hn1⟩:=k1 a (.ins cDesk dx []) (by rw[Zaj hax,Zaj had];exact ha) hax;exists ZaD ha1 Y.l.k.cl Y.l.n_house nofun ?_;refine k i _ hip ?_ ?_ hn1 (o1.own hn1 ha1 Zbv _)
  .show _=_;rw[Zad,hi];rfl
  .intro b o e hb;have hbx:b≠x:=Zai e hx;have hbd:=Zai e hxd;let⟨g1,g2⟩:=k1 b o (by rw[Zaj hbx,Zaj hbd];exact e) hbx;exact⟨by rw[Zaj hb];exact g1,g2⟩
def an_ok:AnOk P w K qa cStamps cHouse mg base aA aK:=by
 let⟨vs,dd,al⟩:=Y.cH;let⟨us,de,bl⟩:=Y.cI;refine⟨Y.cG,_,_,dd,de,λx m sp h=>?_⟩;cases h with
 |send=>exact an1 (al ("send","send_answer") (by decide +kernel)) (bl ("send",[4,5]) (by decide +kernel)) (ZiW Y) nofun rfl
 |tryd=>exact an1 (al ("try","try_answer") (by decide +kernel)) (bl ("try",[4,5]) (by decide +kernel)) (ZkH Y) nofun rfl
 |coin=>exact an1 (al ("coin","coin_answer") (by decide +kernel)) (bl ("coin",[1]) (by decide +kernel)) (ZiR Y) nofun rfl
 |purse=>exact an1 (al ("purse","purse_answer") (by decide +kernel)) (bl ("purse",[1]) (by decide +kernel)) (Zip Y) nofun rfl
 |count=>exact an1 (al ("count","count_answer") (by decide +kernel)) (bl ("count",[1]) (by decide +kernel)) (Ziq Y) nofun rfl
 |load=>exact an1 (al ("load","load_answer") (by decide +kernel)) (bl ("load",[2]) (by decide +kernel)) (ZiT Y) nofun rfl
 |till=>exact an1 (al ("till","till_answer") (by decide +kernel)) (bl ("till",[0]) (by decide +kernel)) (ZiS Y) nofun rfl
 |top=>exact an1 (al ("top","top_answer") (by decide +kernel)) (bl ("top",[0]) (by decide +kernel)) (ZkF Y) nofun rfl
 |code=>exact an1 (al ("code","code_answer") (by decide +kernel)) (bl ("code",[1]) (by decide +kernel)) (ZiU Y) nofun rfl
 |paper=>exact an1 (al ("paper","paper_answer") (by decide +kernel)) (bl ("paper",[1]) (by decide +kernel)) (Zir Y) nofun rfl
def Zbh:iY Y 53 cDesk "say" (spSay K qa cStamps cHouse cDesk):=by
 refine ZaE _ Y.cJ Y.l.k.cl ?_ _ Ziu
 .symm;let⟨d,dx,h',z,rfl,hd,hq⟩:=h;refine⟨_,(Zac (Zao (i:=2) Ziu.nd (Zbj YU YaP YaO ZeT (pv 1) (Wa Zav))) (Zac (ZaG (Zas Zbf (Zaq Zan (pv 2) Zag) Zav) (Wb (Zam (Zit Y) (Zaa (Zap (pv 0)) (Wa (ZbS ZcF (pv 2) (ZbR Zag) Zdl))))) Zat) (Zac (ZaG (PW.pt (Zd0 (pt_cmp (pc_nik (Zaq Zan (pv 2) Zag) (ZaW rfl Y.I))) (ZcL (Zas Zdm (Zaw ZeO (Zau ZaN rfl Y.d Ys (Wa (pv 2))) Zag) (Zf4 (ZaW rfl Y.cK) (Zaq Zan (pv 2) Zag) (λ_ _=>rfl)) rfl)))) (Zaf Za8) Zat) (Wb (ZjG (k:=52) (hr.mono nofun) (Zf4 (ZaW rfl Y.I) (Zaq Zan (pv 2) Zag) (λ_ _=>rfl)) (Zaa (Zap (pv 0)) (Wa (Zam (Zb8 Y) (Wa (ZbS ZcF (pv 2) (ZbR Zag) Zdl)))))))))),?_⟩;left;have inm:∀(k:Nat)(m:XJ),k∈m->inV (.int (k:Int)) (intsV m)=true:=λk m hk=>Yby.mpr ⟨_,List.mem_map_of_mem hk,by simp[eqV]⟩;have big2:(10000:Nat)<=sizeLine:=nofun;rcases hq with⟨n,c,p,cs,rfl,hw,k⟩|⟨x,m,sp,ms,hA,hm,hb,rfl,k⟩
  .have es:=Zij (ws:=admitL::admW n c p cs) (by simp) hw.no;have hlw:=hw.len;have hct:=hw.ct;exists ZcY nofun () (by rw[es,Ya];omega) λq hq=>?_;rw[es,Zg6];have s1:=Same.new hq (o:=.lst (strsV (admitL::admW n c p cs)));have hs:SqL K (upd H q (.lst (strsV (admitL::admW n c p cs)))) q (.str (Str.ofString "admit")::strsV (admW n c p cs)):=by
    rw[Zoj];exact Zal Zad
   generalize upd H q _=H1 at s1 hs;have hd1:H1 d=some (.ins cDesk dx [("house",.ref h')]):=s1 _ _ hd;repeat walk_at"rdx"
   refine ZaA hs (v:=.str (Str.ofString "admit")) (ZaL (i:=0) rfl rfl) ?_;repeat walk_at"rdx"
   refine Zah hd1 Y.l.k.cl Y.l.n_house rfl ?_;repeat walk_at"rdx"
   intro q2 hq2;repeat walk_at"rdx"
   refine k q2 _ (s1.newT hq2) ?_;rw[Zad,show(1:Int)=((1:Nat):Int)from rfl,ZeW];rfl
  .obtain ⟨hd0,ts,us,dk,dc,al⟩:=(an_ok Y);let⟨fa,ta,hv,cf,hu,tk⟩:=al x m sp hA;let⟨hx1,hx2,hx3,hm2⟩:=hA.word;have hm5:=hm2 _ hm;have hw:=hA.words hm hb;have es:=Zij (ws:=x.cps.toList::numsW ms) (by simp) hw.no;have hlw:=hw.len;have hct:=hw.ct;exists ZcY nofun () (by rw[es,Ya];omega) λq hq=>?_;rw[es,Zg6];have s1:=Same.new hq (o:=.lst (strsV (x.cps.toList::numsW ms)));have hs:SqL K (upd H q (.lst (strsV (x.cps.toList::numsW ms)))) q (.str x::strsV (numsW ms)):=by
    refine Zal ?_;rw[Zad];show some (HO.lst (.str (mkS x.cps.toList)::strsV (numsW ms)))=_;rw[Zft]
   generalize upd H q _=H1 at s1 hs;have hd1:H1 d=some (.ins cDesk dx [("house",.ref h')]):=s1 _ _ hd;have hlen:(((V.str x::strsV (numsW ms)).length:Nat):Int)-1=(ms.length:Int):=by
    unfold strsV numsW;rw[Yi,Ya,Ya];omega
   exists ZaA hs (v:=.str x) (ZaL (i:=0) rfl rfl) ?_;ext
   .exact absurd ‹_› hx1
   .ext;refine rd_nik ?_;exists ZaA hs (v:=.str x) (ZaL (i:=0) rfl rfl) ?_;exists⟨aA,ts,.inr x,rfl,rfl,dk,hd0,?_⟩;rw[show(!(valueAt ts (Sum.inr x)).isSome)=false by rw[hv];rfl];exists ZaA hs (v:=.str x) (ZaL (i:=0) rfl rfl) ?_;exists Zmv (v:=.ref ta) dc hu rfl ?_;rw[hlen];refine⟨ta,intsV m,rfl,.inr (tk.sqt _),rfl,Y7.mpr λv hv=>by let⟨k,_,rfl⟩:=YF.mp hv;rfl,?_⟩;have ein:=inm _ _ hm;have e2:(if true=true then !true else true)=false:=rfl;rw[ein,e2];repeat walk_at"rdx"
    unfold tCallV;exists ZaA hs (v:=.str x) (ZaL (i:=0) rfl rfl) ?_;refine Zmv (v:=.ref fa) dk hv rfl ?_;refine⟨fa,_,rfl,cf,?_⟩;exists Zah hd1 Y.l.k.cl Y.l.n_house rfl ?_;ext;intro q2 hq2;ext;have hs2:SqL K (upd H1 q2 (.lst (cutV (V.str x::strsV (numsW ms)) (some 1) none))) q2 (strsV (numsW ms)):=by
     refine Zal ?_;rw[Zad,show(1:Int)=((1:Nat):Int)from rfl,ZeW];rfl
    refine⟨q2,ms,rfl,hs2,(),hb,λq3 H3 s3 h3=>?_⟩;ext;exact k q3 H3 ((s1.newT hq2).trans s3) h3
omit Y
noncomputable def prOf(s:Int×Int)(b:Int):Int×Int:=if s.1%2=0 then(s.2,b)else(b,s.2)
noncomputable def stepR(s:Int×Int)(b:Int):Int×Int:=(s.1/2,mixOf (prOf s b).1 (prOf s b).2)
noncomputable def riseS(p x:Int)(ws:XD):Int×Int:=ws.foldl stepR (p,x)
noncomputable def rise(p x:Int)(ws:XD):Int:=(riseS p x ws).2
def ZfZ(p x:Int)(ws:XD)(i:Nat)(b:Int)(h:ws[i]?=some b):riseS p x (ws.take (i+1))=stepR (riseS p x (ws.take i)) b:=by
 let⟨hi,e⟩:=Yf.mp h;unfold riseS;rw[Ym hi,e,YbY];rfl
noncomputable def Zc7(p x:Int)(ws:XD)(i:Nat):List (Int×Int):=(List.range i).map λj=>prOf (riseS p x (ws.take j)) (ws.getD j 0)
noncomputable def Zg7(p x:Int)(ws:XD):List (Int×Int):=Zc7 p x ws ws.length
def Zgw(p x:Int)(ws:XD)(i:Nat)(b:Int)(h:ws[i]?=some b):Zc7 p x ws (i+1)=Zc7 p x ws i++[prOf (riseS p x (ws.take i)) b]:=by
 unfold Zc7;rw[Ycf,YA,Ybl];simp[List.getD,h]
def Zc8(p x:Int)(ws:XD)(i:Nat):(Zc7 p x ws i).length=i:=by simp[Zc7]
def ZrV(p x:Int)(ws:XD)(n:Nat)(hn:ws.length=n+1)(a b:Int)(h:(Zg7 p x ws)[n]?=some (a,b)):mixOf a b=rise p x ws:=by
 obtain⟨c,hc⟩:∃c,ws[n]?=some c:=⟨ws[n]'(),Yd _⟩;have e1:Zg7 p x ws=Zc7 p x ws (n+1):=by unfold Zg7;rw[hn]
 rw[e1,Zgw p x ws n c hc,Yv (by rw[Zc8];exact Yk _),Zc8,Yam]at h;have h':=Y2 h;have e2:rise p x ws=(riseS p x (ws.take (n+1))).2:=by unfold rise;rw[<- hn,YK]
 rw[e2,ZfZ p x ws n c hc];show _=mixOf (prOf _ c).1 (prOf _ c).2;rw[h']
inductive Zpn(K:Ydg)(vs:XF)(H:Hp)(Q:VK)(E9:XK):Prop
 |mk(p x:Int)(w:XB)(ws:XD):vs=[.int p,.int x,.ref w]->SqL K H w (ws.map V.int)->ws.length<1000->(∀l ts H',Same H H'->H l=none->(∀t∈ts,H t=none)->H' l=some (.lst (ts.map V.ref))->PrAt H' ts (Zg7 p x ws)->Q (.ref l) H')->Zpn K vs H Q E9
def Zwq:Sp:=λvs H Q _=>∃(t:XB)(a b:Int),vs=[.ref t]/\H t=some (.tup [.int a,.int b])/\Q (.int (mixOf a b)) H
inductive Zwr(K:Ydg)(vs:XF)(H:Hp)(Q:VK)(E9:XK):Prop
 |mk(p x:Int)(w:XB)(ws:XD):vs=[.int p,.int x,.ref w]->SqL K H w (ws.map V.int)->ws.length<1000->(∀H',Same H H'->Q (.int (rise p x ws)) H')->Zwr K vs H Q E9
noncomputable def fitsP(p:Int)(n:Nat):Bool:=decide (p>=0)&&decide (p/2^n=0)
inductive spFits(K:Ydg)(vs:XF)(H:Hp)(Q:VK)(E9:XK):Prop
 |mk(t:XB)(p:Int)(ns ws:XD):vs=[.ref t]->Zkz K H t p ns ws->Q (.bl (fitsP p ws.length)) H->spFits K vs H Q E9
inductive Zws(K:Ydg)(vs:XF)(H:Hp)(Q:VK)(E9:XK):Prop
 |mk(t:XB)(p:Int)(ns ws:XD)(top:Int):vs=[.ref t,.int top]->Zkz K H t p ns ws->ns.length<1000->ws.length<1000->(∀H',Same H H'->Q (.bl (fitsP p ws.length&&decide (rise p (ZbV ns) ws=top))) H')->Zws K vs H Q E9
theorem ZkJ{ns:XD}{e i:Nat}(hn:ns.length=2^e)(hi:i<2^e):∀j,j<=e->riseS (i:Int) (ns.getD i 0) ((wayOf ns e i).take j)=(((i/2^j:Nat):Int),(lvl j ns).getD (i/2^j) 0)
 |0,_=>by
  rw[YcF,YcU,YbP];rfl
 |j+1,hj=>by
  have ih:=ZkJ hn hi j ();have hll:=ZdI hn j ();have hh:=Zna hi (show j<=e by omega);have h2:2^(e-j)=2*2^(e-j-1):=by rw[show e-j=(e-j-1)+1 by omega,YaV,Ybu];rfl
  have hb:nbN (i/2^j)<(lvl j ns).length:=by rw[hll,h2];exact nb_lt (by rw[<- h2];exact hh)
  have hw:(wayOf ns e i)[j]?=some ((lvl j ns).getD (nbN (i/2^j)) 0):=by
   unfold wayOf;rw[Yb,Y0 ()];rfl
  rw[ZfZ _ _ _ j _ hw,ih];have hq:(i/2^j)/2=i/2^(j+1):=Zh2 i j;have hnx:(lvl (j+1) ns).getD (i/2^(j+1)) 0=mixOf ((lvl j ns).getD (2*(i/2^(j+1))) 0) ((lvl j ns).getD (2*(i/2^(j+1))+1) 0):=by
   have hp:(i/2^(j+1))<(lvl j ns).length/2:=by rw[hll,h2];omega
   show(pairs (lvl j ns)).getD _ 0=_;unfold pairs;rw[YB,Yb,Y0 hp];rfl
  rw[hnx];generalize i/2^j=m at hq hb |-;rw[<- hq];unfold stepR prOf nbN;by_cases ev:m%2=0
  .rw [if_pos (by show(m:Int)%2=0;omega),if_pos ev,show 2*(m/2)=m by omega];exact Prod.ext (by show(m:Int)/2=_;omega) rfl
  .rw [if_neg (by show ¬(m:Int)%2=0;omega),if_neg ev,show 2*(m/2)=m-1 by have:=Nat.div_add_mod m 2;rw[(Nat.mod_two_eq_zero_or_one m).resolve_left ev]at this;exact (Nat.sub_eq_of_eq_add this.symm).symm,show m-1+1=m by omega];exact Prod.ext (by show(m:Int)/2=_;omega) rfl
def ZtS{ns:XD}{e i:Nat}(hn:ns.length=2^e)(hi:i<2^e):rise (i:Int) (ns.getD i 0) (wayOf ns e i)=(lvl e ns).getD 0 0:=by
 have h:=ZkJ hn hi e (Yk _);have hwl:(wayOf ns e i).take e=wayOf ns e i:=by
  have:=YK (l:=wayOf ns e i);rw[ZcU]at this;exact this
 rw[hwl]at h;unfold rise;rw[h,Nat.div_eq_of_lt hi]
noncomputable def topN(P:XQ):Int:=(lvl 4 (stP P)).getD 0 0
def pap_ok{A:XC}{S:XL}{P:XQ}(e:Ex A S P){n:Nat}(hn:n<16):(riseS (n:Int) (ZbV (plainN A S n)) (wayOf (stP P) 4 n)).1=0/\rise (n:Int) (ZbV (plainN A S n)) (wayOf (stP P) 4 n)=topN P:=by
 have h1:(stP P).length=2^4:=Zkq P;have h2:n<2^4:=hn;have h3:(stP P).getD n 0=ZbV (plainN A S n):=by
  unfold stP;rw[YB,Yb,Y0 hn];show ZbV (P n)=_;rw[e n hn]
 have r1:=ZkJ h1 h2 4 (Yk _);have r2:=ZtS h1 h2;have hwl:(wayOf (stP P) 4 n).take 4=wayOf (stP P) 4 n:=by
  have:=YK (l:=wayOf (stP P) 4 n);rw[ZcU]at this;exact this
 rw[hwl,h3]at r1;rw[h3]at r2;refine⟨?_,r2⟩;rw[r1];show((n/2^4:Nat):Int)=0;rw[Nat.div_eq_of_lt h2];rfl
def fits16{n:Nat}(hn:n<16):fitsP (n:Int) 4=true:=by
 unfold fitsP;rw[YG (),YG (by show(n:Int)/16=0;omega)];rfl
def Zbt:FnScope ["place","leaf","way","pairs","now","beside","pair"] ["place","leaf","way"] (Zae (top 161)):=by walk_at"c"
def Zok:FnScope ["place","leaf","way","pairs"] ["place","leaf","way"] (Zae (top 163)):=by walk_at"c"
include Y
def Zme:mY Y 2 "way_pairs" (Zpn K):=by
 refine Zax _ Y.cL ?_ _ Zbt
 .symm;let⟨p,x,w,ws,rfl,hl,hlen,k⟩:=h;refine⟨_,(Zac (Zao (i:=3) Zbt.nd (ZaI Zab)) (Zac (Zao (i:=4) Zbt.nd (pv 1)) (Zac (ZbQ YV rfl (Zbc (pv 2)) (ZaU (i:=5) Zbt.nd) (Zac (Zao (i:=6) Zbt.nd (Zjz (Zas Zbf (Zaw ZaR (pv 0) Zag) Zag) (ZaH (Zaa (pv 4) (Wa (pv 5)))) (ZaH (Zaa (pv 5) (Wa (pv 4)))))) (Zac (Zay (Zbj Yy YI YH ZaT (pv 3) (Wa (pv 6)))) (Zac (Zao (i:=4) Zbt.nd (Zam (Zjt Y) (Zaa (Zaq ZaK (pv 6) Zag) (Wa (Zaq ZaK (pv 6) Zag))))) (Zaf (Zao (i:=0) Zbt.nd (Zaw ZaP (pv 0) Zag))))))) (Wb (pv 3))))),?_⟩;left;repeat walk_at"rdk"
  refine⟨nofun,λl hl0=>?_⟩;repeat walk_at"rdk"
  refine ZbT (ZaY ?_);repeat walk_at"rdk"
  refine⟨w,rfl,⟨_,hl.updN hl0⟩,ZbF (xs:=ws.map V.int) (λi U' H'=>Same H H'/\(∃ts,H' l=some (.lst (ts.map V.ref))/\(∀t∈ts,H t=none)/\PrAt H' ts (Zc7 p x ws i))/\∃v1 v2,U'=[some (.int (riseS p x (ws.take i)).1),some (.int x),some (.ref w),some (.ref l),some (.int (riseS p x (ws.take i)).2),v1,v2]) ⟨Same.new hl0,⟨[],Zad,by simp,PrAt.nil⟩,_,_,rfl⟩ (λi U' H' _ ⟨e,_⟩=>e.seq hl) ?_ ?_⟩
  .rintro i y U' H' hx ⟨sm,⟨ts,hts,hfr,hpr⟩,v1,v2,rfl⟩;rw[Yb]at hx;let⟨b,hb,rfl⟩:=Yu.mp hx;have hi:i<ws.length:=(Yf.mp hb).1;have htl:ts.length=i:=by rw[hpr.1,Zc8]
   have hst:=ZfZ p x ws i b hb;have hup:=Zgw p x ws i b hb;generalize riseS p x (ws.take i)=S at hst hup |-
   have fin:∀(q:XB)(c d:Int),H' q=none->prOf S b=(c,d)->
     (∃ts',(upd (upd H' q (.tup [.int c,.int d])) l (.lst (ts.map V.ref++[.ref q]))) l=some (.lst (ts'.map V.ref))/\(∀t∈ts',H t=none)/\PrAt (upd (upd H' q (.tup [.int c,.int d])) l (.lst (ts.map V.ref++[.ref q]))) ts' (Zc7 p x ws (i+1))):=by
    intro q c d hq e;refine⟨ts++[q],by rw[Zad,YA];rfl,?_,?_⟩
    .intro t ht;rcases Yw.mp ht with z|z
     .exact hfr t z
     .rw [Ye.mp z];exact sm.fresh hq
    .rw [hup,e];exact hpr.snoc hts hq
   have hz:(ts.map V.ref).length<sizeLine:=by rw[Ya];exact Y4 (YcG htl) (Ybg hi (Ybg hlen nofun))
   repeat' walk_at"rdk"
   all_goals
    refine⟨show 2<=sizeLine by decide,λq hq=>?_⟩;repeat walk_at"rdk"
    refine⟨Za9 (Zal (by rw[Zaj (Zai hts hq)];exact hts)),?_⟩;repeat walk_at"rdk"
    refine ZaZ (xs:=ts.map V.ref) (by rw[Zaj (Zai hts hq)];exact hts) hz ?_
   .rename_i hev;have hev:S.1%2=0:=hev;have ep:prOf S b=(S.2,b):=if_pos hev;have hq2:SqT K (upd (upd H' q (.tup [.int S.2,.int b])) l (.lst (ts.map V.ref++[.ref q]))) q [.int S.2,.int b]:=Zb0 (by rw[Zaj (YR (Zai hts hq))];exact Zad);repeat walk_at"rdk"
    refine⟨_,_,rfl,?_⟩;repeat walk_at"rdk"
    refine⟨(sm.newT hq).wr hl0,fin q S.2 b hq ep,some (.int b),some (.ref q),?_⟩;rw[hst];unfold stepR;rw[ep]
   .rename_i hev;have hev:¬S.1%2=0:=hev;have ep:prOf S b=(b,S.2):=if_neg hev;have hq2:SqT K (upd (upd H' q (.tup [.int b,.int S.2])) l (.lst (ts.map V.ref++[.ref q]))) q [.int b,.int S.2]:=Zb0 (by rw[Zaj (YR (Zai hts hq))];exact Zad);repeat walk_at"rdk"
    refine⟨_,_,rfl,?_⟩;repeat walk_at"rdk"
    refine⟨(sm.newT hq).wr hl0,fin q b S.2 hq ep,some (.int b),some (.ref q),?_⟩;rw[hst];unfold stepR;rw[ep]
  .rintro U' H' ⟨sm,⟨ts,hts,hfr,hpr⟩,v1,v2,rfl⟩;rw[Ya]at hpr;repeat walk_at"rdk"
   exact k l ts H' sm hl0 hfr hts hpr
def ZtV:mY Y 2 "mixed" Zwq:=by
 refine Zax ["pair"] Y.cM ?_
 .symm;let⟨t,a,b,rfl,ht,k⟩:=h;refine⟨_,(Wb (Zam (Zjt Y) (Zaa (Zaq ZaK (pv 0) Zag) (Wa (Zaq ZaK (pv 0) Zag))))),?_⟩;left;repeat walk_at"rdk"
  exact⟨a,b,rfl,k⟩
def ZtW:mY Y 3 "risen" (Zwr K):=by
 refine Zax _ Y.cN ?_ _ Zok
 .symm;let⟨p,x,w,ws,rfl,hl,hlen,k⟩:=h;refine⟨_,(Zac (Zao (i:=3) Zok.nd (Zam (Zme Y) (Zaa (pv 0) (Zaa (pv 1) (Wa (pv 2)))))) (Zac (ZaG (Zas Zbf (Zau ZaN rfl Y.d Ys (Wa (pv 3))) Zag) (Wb (pv 1)) Zat) (Wb (Zam (ZtV Y) (Wa (Zaq Zan (pv 3) (ZfB ZcN Zag))))))),?_⟩;left;repeat walk_at"rdk"
  refine⟨p,x,w,ws,rfl,hl,hlen,λl ts H' sm hl0 hfr hts hpr=>?_⟩;have e2:ts.length=ws.length:=by rw[hpr.1];exact Zc8 _ _ _ _
  have e2':(ts.map V.ref).length=ws.length:=by rw[Ya,e2]
  repeat' walk_at"rdk"
  .rename_i h0;have h0:ws=[]:=Yax ();subst h0;exact k H' sm
  .rename_i h0;obtain⟨n,hn⟩:∃n,ws.length=n+1:=⟨ws.length-1,()⟩;obtain⟨t,ht⟩:∃t,ts[n]?=some t:=⟨ts[n]'(),Yd _⟩;let⟨a,b,e3,e4⟩:=hpr.2 _ t ht;refine ZaA (Zal hts) (ZjK (n:=n) (v:=.ref t) (by rw[Yb,ht];rfl) (by rw[Ya,e2,hn])) ?_;repeat walk_at"rdk"
   refine⟨t,a,b,rfl,e4,?_⟩;rw[ZrV p x ws n hn a b e3];exact k H' sm
def ZkL:mY Y 1 "place_fits" (spFits K):=by
 refine Zax ["paper"] Y.cO ?_
 .symm;let⟨t,p,ns,ws,rfl,⟨na,wa,h1,h2,h3⟩,k⟩:=h;refine⟨_,(Wb (ZkU (ZbB Zsa (Zaq ZaK (pv 0) Zag) Zag) (Zhb (ZbB Zbf (Zaw op_shr (Zaq ZaK (pv 0) Zag) (Zau ZaN rfl Y.d Ys (Wa (Zaq ZaK (pv 0) Zag)))) Zag)))),?_⟩;left;repeat' walk_at"rdk"
  .rename_i h0;refine ZbA ?_ k;unfold fitsP;rw[YG h0,YaE,Ya];rfl
  .rename_i h0;refine ZbA ?_ k;unfold fitsP;rw[YD h0];rfl
def ZtX:mY Y 4 "holds" (Zws K):=by
 refine Zax ["paper","top"] Y.cP ?_
 .symm;let⟨t,p,ns,ws,top,rfl,hp,hn,hw,k⟩:=h;refine⟨_,(Wb (ZkU (Zam (ZkL Y) (Wa (pv 0))) (Zhb (ZbB Zbf (Zam (ZtW Y) (Zaa (Zaq ZaK (pv 0) Zag) (Zaa (Zam (Zke Y) (Wa (Zaq ZaK (pv 0) Zag))) (Wa (Zaq ZaK (pv 0) Zag))))) (pv 1))))),?_⟩;left;repeat walk_at"rdk"
  refine⟨t,p,ns,ws,rfl,hp,?_⟩;cases hf:fitsP p ws.length with
  |false=>
   repeat walk_at"rdk"
   exact ZbA (by rw[hf];rfl) (k H (Same.refl _))
  |true=>
   let⟨na,wa,h1,h2,h3⟩:=hp;repeat walk_at"rdk"
   refine⟨na,ns,rfl,h2,hn,λH' sm=>?_⟩;have h1':=sm.tup h1;repeat walk_at"rdk"
   refine⟨p,ZbV ns,wa,ws,rfl,sm.seq h3,hw,λH2 sm2=>?_⟩;repeat walk_at"rdk"
   exact ZbA (by rw[hf,YaE]) (k H2 (sm.trans sm2))
omit Y
def app_at{rs pc:XW}{i:Nat}{r:Row}(h:(rs++pc)[i]?=some r):(i<rs.length/\rs[i]?=some r)\/∃o,i=rs.length+o/\pc[o]?=some r:=by
 by_cases z:i<rs.length
 .rw [YX z]at h;exact .inl ⟨z,h⟩
 .rw [Yv ()]at h;exact .inr ⟨i-rs.length,(),h⟩
def Mr(ps:XD):List Bool->List Int->Prop
 |[],_=>True
 |_::_,[]=>False
 |b::sh,x::r=>(b=true->x∈ps)/\Mr ps sh r
theorem Mr.dropN{ps:XD}:∀{t:XD}{sh:List Bool}{b:XD},Mr ps sh (t++b)->Mr ps (sh.drop t.length) b
 |[],_,_,h=>h
 |_::t,[],b,_=>by rw[List.drop_nil];trivial
 |_::t,_::sh,b,h=>show Mr ps (sh.drop t.length) b from Mr.dropN h.2
theorem Mr.fill{ps:XD}:∀{r:XD}{sh:List Bool}{b:XD},Mr ps sh b->Mr ps (List.replicate r.length false++sh) (r++b)
 |[],_,_,h=>h
 |x::r,sh,b,h=>show Mr ps (false::(List.replicate r.length false++sh)) (x::(r++b))from⟨(λz=>by cases z),Mr.fill h⟩
noncomputable def subS:List Bool->List Bool->Bool
 |[],_=>true
 |_::_,[]=>false
 |b::r,c::t=>(!b||c)&&subS r t
theorem Mr.sub{ps:XD}:∀{sh' sh:List Bool}{s:XD},subS sh' sh=true->Mr ps sh s->Mr ps sh' s
 |[],_,_,_,_=>trivial
 |_::_,[],_,e,_=>by cases e
 |_::_,_::_,[],_,h=>h.elim
 |b::r,c::t,x::s,e,h=>by
  unfold subS at e;rw[Yq,YbJ,Ya2]at e;exact⟨λz=>h.1 (e.1.elim (λw=>by rw[w]at z;cases z) id),Mr.sub e.2 h.2⟩
noncomputable def absS(w:Str)(p:Bool)(sh:List Bool):List Bool:=match RT.lookup w with
 |some (t,r,_,_)=>(if w="push"then[p]else List.replicate r.toNat false)++sh.drop t.toNat
 |none=>[]
def Zwt{ps:XD}{w:Str}{n:XS}{i i':Int}{s s':XD}{p:Bool}{sh:List Bool}(hp:p=true->∃k,n=some k/\k∈ps)(h:Eff w n i s i' s')(m:Mr ps sh s.reverse):Mr ps (absS w p sh) s'.reverse/\(i'=i+1\/(w="jumpif"/\n=some i')):=by
 let⟨b,t,r,pr,d,rfl,rfl,e,hr,j⟩:=h;refine⟨?_,j⟩;rw[List.reverse_append]at m |-;have m1:=m.dropN;rw[YaL]at m1;unfold absS;rw[e];dsimp only;rw[Yt,Yt];by_cases hw:w="push"
 .rw [if_pos hw];let⟨k,hk,rfl⟩:=hr hw;exact⟨λz=>by let⟨k',ek,hin⟩:=hp z;rw[hk]at ek;cases ek;exact hin,m1⟩
 .rw [if_neg hw];have:=Mr.fill (r:=r.reverse) m1;rwa[YaL]at this
structure Ty(ps:XD)(rs:XW)(f:Nat->List Bool):Prop where
 z:f 0=[]
 e:f rs.length=[]
 ok:∀(i:Nat)(w:Str)(n:XS),rs[i]?=some (w,n)->w∈WL/\∃p:Bool,(p=true->∃k,n=some k/\k∈ps)/\(w="save"->(f i).tail.head?=some true)/\subS (f (i+1)) (absS w p (f i))=true/\(w="jumpif"->∀k,n=some k->∃q:Nat,q<=rs.length/\k=(q:Int)/\subS (f q) (absS w p (f i))=true)
def Ty.iv{ps:XD}{rs:XW}{f:Nat->List Bool}(T:Ty ps rs f):∃I,Iv ps rs I:=by
 refine⟨λi s=>∃j:Nat,i=(j:Int)/\Mr ps (f j) s.reverse,⟨0,rfl,by rw[T.z];trivial⟩,λi b n p v ⟨j,hj,m⟩ hr=>?_,λi s w n i' s' ⟨j,hj,m⟩ hr E=>?_⟩
 .obtain rfl:i=j:=();let⟨_,_,_,h2,_⟩:=T.ok i _ _ hr;have h2:=h2 rfl;rw[List.reverse_append]at m
  match hf:f i with
  |[]=>rw[hf]at h2;cases h2
  |[_]=>rw[hf]at h2;cases h2
  |c::d::r=>
   rw[hf]at h2 m;cases h2;exact m.2.1 rfl
 .obtain rfl:i=j:=();let⟨_,p,hp,_,h3,h4⟩:=T.ok i w n hr;let⟨m2,h⟩:=Zwt hp E m;rcases h with rfl|⟨hj,e⟩
  .exact ⟨i+1,(),i+1,(),m2.sub h3⟩
  .obtain ⟨q,_,rfl,hs⟩:=h4 hj _ e;exact⟨q,rfl,q,rfl,m2.sub hs⟩
def ty_nil{ps:XD}:Ty ps [] λ_=>[]:=⟨rfl,rfl,λi w n h=>by simp at h⟩
def FS(ps:XD)(at':Nat):List Row->List (Str×Bool×Option Nat)->Prop
 |[],[]=>True
 |r::rs,a::as=>(r.1=a.1/\(a.2.1=true->∃k,r.2=some k/\k∈ps)/\∀q,a.2.2=some q->r.2=some ((at'+q:Nat):Int))/\FS ps at' rs as
 |_,_=>False
theorem FS.at{ps:XD}{at':Nat}:∀{pc:XW}{ab:List (Str×Bool×Option Nat)},FS ps at' pc ab->pc.length=ab.length/\∀(o:Nat) r,pc[o]?=some r->∃a,ab[o]?=some a/\r.1=a.1/\(a.2.1=true->∃k,r.2=some k/\k∈ps)/\∀q,a.2.2=some q->r.2=some ((at'+q:Nat):Int)
 |[],[],_=>⟨rfl,λo r h=>by simp at h⟩
 |[],_::_,h=>h.elim
 |_::_,[],h=>h.elim
 |r::rs,a::as,⟨h1,h2⟩=>by
  let⟨e,f⟩:=FS.at h2;refine⟨by rw[Yi,Yi,e],λo x hx=>?_⟩;cases o with
  |zero=>cases hx;exact⟨a,rfl,h1⟩
  |succ o=>exact f o x hx
noncomputable def okS(ab:List (Str×Bool×Option Nat))(hs:List (List Bool))(o:Nat):Bool:=match ab[o]? with
 |some (w,p,q)=>WL.contains w&&(decide (w≠"save")||(hs.getD o []).tail.head?==some true)&&subS (hs.getD (o+1) []) (absS w p (hs.getD o []))&&(!decide (w="jumpif")||(match q with
  |some q=>decide (q<=ab.length)&&subS (hs.getD q []) (absS w p (hs.getD o []))
  |none=>false))
 |none=>false
def Ty.app{ps:XD}{rs pc:XW}{f:Nat->List Bool}(T:Ty ps rs f){ab:List (Str×Bool×Option Nat)}{hs:List (List Bool)}(F:FS ps rs.length pc ab)(h0:hs.getD 0 []=[])(h1:hs.getD ab.length []=[])(hk:(List.range ab.length).all (okS ab hs)=true):∃f',Ty ps (rs++pc) f':=by
 let⟨fl,fa⟩:=F.at
 have g:∀i,(if i<rs.length then f i else hs.getD (i-rs.length) [])=(if i<rs.length then f i else hs.getD (i-rs.length) []):=λ_=>rfl;have ge:∀i,i<=rs.length->(if i<rs.length then f i else hs.getD (i-rs.length) [])=f i:=λi hi=>by
  by_cases z:i<rs.length
  .rw [if_pos z]
  .rw [if_neg z];have:i=rs.length:=();rw[this,Yam,h0,T.e]
 have gt:∀o,(if rs.length+o<rs.length then f (rs.length+o)else hs.getD (rs.length+o-rs.length) [])=hs.getD o []:=λo=>by
  rw[if_neg (),Nat.add_sub_cancel_left]
 refine⟨λi=>if i<rs.length then f i else hs.getD (i-rs.length) [],?_,?_,λi w n hr=>?_⟩
 .exact (ge 0 (YO _)).trans T.z
 .rw [Yc];exact(gt _).trans (by rw[fl];exact h1)
 .rcases app_at hr with⟨z,hq⟩|⟨o,rfl,hq⟩
  .obtain ⟨h1,p,h2,h3,h4,h5⟩:=T.ok i w n hq;refine⟨h1,p,h2,λe=>?_,?_,λj k e=>?_⟩
   .rw [ge i ()];exact h3 e
   .rw [ge i (),ge (i+1) ()];exact h4
   .obtain ⟨q,q1,q2,q3⟩:=h5 j k e;exact⟨q,by rw[Yc];omega,q2,by rw[ge i (),ge q q1];exact q3⟩
  .obtain ⟨⟨w',p,q⟩,ha,e1,e2,e3⟩:=fa o _ hq;have e1:w=w':=e1;subst e1;have hk:=Y7.mp hk o (Y6.mpr (Yf.mp ha).1);unfold okS at hk;rw[ha]at hk;simp only[Yq,YbJ,Yr]at hk;let⟨⟨⟨k0,k1⟩,k2⟩,k3⟩:=hk;refine⟨List.elem_iff.mp k0,p,e2,λe=>?_,?_,λj k e=>?_⟩
   .rw [gt];rcases k1 with z|z
    .exact absurd e z
    .simpa using z
   .rw [gt,Nat.add_assoc,gt];exact k2
   .rcases k3 with z|z
    .rw [Ya2,Yb0]at z;exact absurd j z
    .cases q with
     |none=>cases z
     |some q=>
      rw[Yq,Yr]at z;have:=e3 q rfl;rw[show n=some k from e]at this;exact⟨rs.length+q,by rw[Yc,fl];omega,Y2 this,by rw[gt,gt];exact z.2⟩
section
end
def Hs(H:Hp):List (Addr×HO)->Prop
 |[]=>True
 |p::r=>H p.1=some p.2/\Hs H r
theorem Hs.same{H H':Hp}(s:Same H H'):∀{fs:List (Addr×HO)},Hs H fs->Hs H' fs
 |[],_=>trivial
 |_::_,h=>⟨s _ _ h.1,Hs.same s h.2⟩
structure Gw(H0 H:Hp)(fs:List (Addr×HO)):Prop where
 s:Same H0 H
 h:Hs H fs
section
variable{H0 H H':Hp}{fs:List (Addr×HO)}{p:XB}{o:HO}
def Gw.start:Gw H H []:=⟨Same.refl _,trivial⟩
def Gw.new(g:Gw H0 H fs)(n:H p=none):Gw H0 (upd H p o) ((p,o)::fs):=⟨g.s.newT n,Zad,g.h.same (Same.new n)⟩
def Gw.newE(g:Gw H0 H fs)(n:H p=none)(e:upd H p o=H'):Gw H0 H' ((p,o)::fs):=by rw[<- e];exact g.new n
def Gw.same(g:Gw H0 H fs)(s:Same H H'):Gw H0 H' fs:=⟨g.s.trans s,g.h.same s⟩
end
noncomputable def cellF(ns:XD)(k:Int):Int:=(ns[k.toNat]?).getD 0
inductive Zwu(K:Ydg)(vs:XF)(H:Hp)(Q:VK)(E9:XK):Prop
 |mk(p:XB)(ns:XD)(k:Int):vs=[.ref p,.int k]->0<=k->SqL K H p (ns.map V.int)->Q (.int (cellF ns k)) H->Zwu K vs H Q E9
def RtRow(b:Int)(r:Row):Prop:=∀c:Int,b<=c->Zbp c r=true
def Zng{b:Int}{w:Str}(h:∀c,Zbp c (w,none)=true):RtRow b (w,none):=λc _=>h c
def Zf0{b k:Int}(h:In64 k):RtRow b ("push",some k):=λc _=>by
 have e:Zbp c (("push":Xq),some k)=(decide (0<=k)&&decide (k<18446744073709551616)):=rfl;rw[e,YG h.1,YG h.2];rfl
def Zf1{b k:Int}{w:Str}(hw:w="jump"\/w="jumpif")(h:0<=k)(h2:k<=b):RtRow b (w,some k):=λc hc=>by
 have e:Zbp c (w,some k)=(decide (0<=k)&&decide (k<=c)):=by rcases hw with rfl|rfl<;>rfl
 rw[e,YG h,YG (Int.le_trans h2 hc)];rfl
def RtRow.le{b b':Int}{r:Row}(h:RtRow b r)(e:b<=b'):RtRow b' r:=λc hc=>h c (Int.le_trans e hc)
def Zol{b:Int}:∀r∈([]:XW),RtRow b r:=λ_ h=>nomatch h
def Znh{b:Int}{r:Row}{rs:XW}(h:RtRow b r)(h2:∀r∈rs,RtRow b r):∀q∈r::rs,RtRow b q:=λq hq=>(Yh.1 hq).elim (λe=>by rw[e];exact h) (h2 q)
def Zc9{v:Int}(h:0<=v)(h2:v<1000000):In64 v:=⟨h,by show _<_;omega⟩
def p64N:(2:Int)^Int.toNat 64=18446744073709551616:=nofun
theorem Hs.mem{H:Hp}{a:XB}{o:HO}:∀{fs:List (Addr×HO)},Hs H fs->(a,o)∈fs->H a=some o
 |_::_,h,.head _=>h.1
 |_::_,h,.tail _ q=>Hs.mem h.2 q
def row1{K:Ydg}{H:Hp}{t:XB}{w:Str}(h:H t=some (.tup [.str w])):RowAt K H (w,none) (.ref t):=⟨_,rfl,Zb0 h⟩
def row2{K:Ydg}{H:Hp}{t:XB}{w:Str}{k:Int}(h:H t=some (.tup [.str w,.int k])):RowAt K H (w,some k) (.ref t):=⟨_,rfl,Zb0 h⟩
def ZtY{rs:XW}(h:∀r∈rs,RtRow (rs.length:Int) r)(hl:rs.length<=60):Zbe rs=true:=by
 unfold Zbe;rw[Yq,Yr,Y7];exact⟨hl,λr hr=>h r hr _ (Y9 _)⟩
def ZtZ{K:Ydg}{H:Hp}{rs:XW}{xs:XF}{rs2:XW}{ys:XF}(h1:RowsAt K H rs xs)(h2:RowsAt K H rs2 ys):RowsAt K H (rs++rs2) (xs++ys):=by
 refine⟨by rw[Yc,Yc,h1.1,h2.1],λn r x e1 e2=>?_⟩;by_cases hn:n<rs.length
 .rw [YX hn]at e1;rw[YX (by rw[<- h1.1];exact hn)]at e2;exact h1.2 n r x e1 e2
 .rw [Yv ()]at e1;rw[Yv (by rw[<- h1.1];omega),<- h1.1]at e2;exact h2.2 _ r x e1 e2
noncomputable def ps5:List Int:=[0,7,18446744073709551615,1,2]
def Zom{p:Int}(h:p∈ps5):In64 p:=by
 simp only[ps5,Yh,YL,Yah]at h;rcases h with rfl|rfl|rfl|rfl|rfl<;>exact⟨nofun,nofun⟩
noncomputable def chkS(ab:List (Str×Bool×Option Nat))(hs:List (List Bool)):Bool:=(hs.getD 0 []).isEmpty&&(hs.getD ab.length []).isEmpty&&(List.range ab.length).all (okS ab hs)
structure PcT(a:Nat)(pc:XW):Prop where
 len:pc.length<=7
 rt:∀r∈pc,RtRow ((a:Int)+(pc.length:Int)) r
 ty:∃ab hs,FS ps5 a pc ab/\chkS ab hs=true
section
variable{a:Nat}{rs pc:XW}{ab:List (Str×Bool×Option Nat)}{w:Str}{n:XS}{k:Int}
def ZrW:FS ps5 a [] []:=trivial
def fs_c(h:FS ps5 a rs ab):FS ps5 a ((w,n)::rs) ((w,false,none)::ab):=⟨⟨rfl,(λz=>nomatch z),(λ_ z=>nomatch z)⟩,h⟩
def fs_p(hk:k∈ps5)(h:FS ps5 a rs ab):FS ps5 a (("push",some k)::rs) (("push",true,none)::ab):=⟨⟨rfl,λ_=>⟨k,rfl,hk⟩,(λ_ z=>nomatch z)⟩,h⟩
def fs_j(h:FS ps5 a rs ab):FS ps5 a (("jumpif",some ((a:Int)+6))::rs) (("jumpif",false,some 6)::ab):=⟨⟨rfl,(λz=>nomatch z),(λ_ z=>by cases z;rfl)⟩,h⟩
def ZiX(hs:List (List Bool))(f:FS ps5 a pc ab)(l:pc.length<=7)(r:∀r∈pc,RtRow ((a:Int)+(pc.length:Int)) r)(c:chkS ab hs=true):PcT a pc:=⟨l,r,ab,hs,f,c⟩
structure RsT(rs:XW):Prop where
 ty:∃f,Ty ps5 rs f
 rt:∀r∈rs,RtRow (rs.length:Int) r
 len:rs.length<=60
def RsT.nil:RsT []:=⟨⟨_,ty_nil⟩,Zol,YO _⟩
def RsT.app(h:RsT rs)(p:PcT rs.length pc)(hl:rs.length+pc.length<=60):RsT (rs++pc):=by
 let⟨f,T⟩:=h.ty;let⟨ab,hs,F,c⟩:=p.ty;unfold chkS at c;rw[Yq,Yq]at c;refine⟨T.app F (Yb6.mp c.1.1) (Yb6.mp c.1.2) c.2,λr hr=>?_,by rw[Yc];exact hl⟩;rw[Yc];rcases Yw.mp hr with q|q
 .exact (h.rt r q).le ()
 .exact (p.rt r q).le ()
def RsT.right(h:RsT rs):Zbe rs=true:=ZtY h.rt h.len
def RsT.safe(h:RsT rs):Safe ps5 rs:=by
 let⟨f,T⟩:=h.ty;refine⟨λr hr=>?_,T.iv⟩;let⟨w,n⟩:=r;let⟨i,hi,e⟩:=Ya4.mp hr;have hw:=(T.ok i w n (by rw[Yd hi,e])).1;have h2:=h.rt _ hr _ (Y9 _);unfold Zbp at h2;rw[Yq]at h2;refine⟨hw,λz=>?_,λz=>?_⟩
 .subst z;cases n with
  |none=>
   have h3:=h2.2;rw[if_pos nofun]at h3;cases h3
  |some k=>
   have h3:=h2.2;refine⟨k,rfl,?_⟩;dsimp only at h3;rw[if_pos nofun]at h3;unfold Zfq at h3;rw[if_pos rfl,Yq,Yr,Yr]at h3;exact h3
 .subst z;cases n with
  |none=>
   have h3:=h2.2;rw[if_pos nofun]at h3;cases h3
  |some k=>exact⟨k,rfl⟩
end
def PgT(K:Ydg)(H:Hp)(a:XB):Prop:=∃xs rs,H a=some (.lst xs)/\RowsAt K H rs xs/\RsT rs
def PgT.same{K:Ydg}{H H':Hp}{a:XB}(h:PgT K H a)(s:Same H H'):PgT K H' a:=let⟨xs,rs,e,r,o⟩:=h;⟨xs,rs,s _ _ e,r.keep s.imm,o⟩
def PgT.but{K:Ydg}{H:Hp}{a q:XB}{xs:XF}{o:HO}(h:PgT K H a)(hq:H q=some (.lst xs))(n:a≠q):PgT K (upd H q o) a:=let⟨xs,rs,e,r,f⟩:=h;⟨xs,rs,by rw[Zaj n];exact e,r.keep (SameI.upd hq Za4),f⟩
def SlAt(H:Hp)(SL:XB)(ss:XJ):Prop:=H SL=some (.lst (ss.map λj:Nat=>V.int (j:Int)))/\ss≠[]/\ss.length<=8/\∀j∈ss,j<16
def SlAt.same{H H':Hp}{SL:XB}{ss:XJ}(h:SlAt H SL ss)(s:Same H H'):SlAt H' SL ss:=⟨s _ _ h.1,h.2⟩
def modn(n:Int){m:Nat}(h:0<m):∃j:Nat,j<m/\n%(m:Int)=(j:Int):=
 ⟨(n%(m:Int)).toNat,by have:=Int.emod_lt_of_pos n (show(0:Int)<m by omega);have:=Int.emod_nonneg n (show(m:Int)≠0 by omega);omega,by have:=Int.emod_nonneg n (show(m:Int)≠0 by omega);omega⟩
def SlAt.pick{H:Hp}{SL:XB}{ss:XJ}(h:SlAt H SL ss)(n:Int):∃s∈ss,atI (ss.map λj:Nat=>V.int (j:Int)) (n%(ss.length:Int))=some (.int (s:Int)):=by
 let⟨j,hj,e⟩:=modn n (Ybe.mpr h.2.1);refine⟨ss[j],Yad hj,?_⟩;rw[e];exact Zeo (by rw[Yb,Yd hj];rfl)
def pick4(a b c d:Int)(n:Int):∃v∈[a,b,c,d],atI [V.int a,V.int b,V.int c,V.int d] (n%4)=some (.int v):=by
 rcases(by omega:n%4=0\/n%4=1\/n%4=2\/n%4=3)with z|z|z|z<;>rw[z]
 .exact ⟨a,by simp,rfl⟩
 .exact ⟨b,by simp,rfl⟩
 .exact ⟨c,by simp,rfl⟩
 .exact ⟨d,by simp,rfl⟩
def p62N:(2:Int)^Int.toNat 62=4611686018427387904:=nofun
def Zt0:Sp:=λvs H Q _=>∃n:Int,vs=[.int n]/\∀p H',p∈ps5->Same H H'->Q (.int p) H'
def Zwv:Sp:=λvs H Q _=>∃(n:Int)(SL:XB)(ss:XJ),vs=[.int n,.ref SL]/\SlAt H SL ss/\∀s:Int,0<=s->s<18->Q (.int s) H
inductive Zt1(K:Ydg)(vs:XF)(H:Hp)(Q:VK)(E9:XK):Prop
 |mk(n:Int)(SL:XB)(ss:XJ):vs=[.int n,.ref SL]->SlAt H SL ss->(∀q xs pc H',Same H H'->H' q=some (.lst xs)->RowsAt K H' pc xs->(∀a,PcT a pc)->Q (.ref q) H')->Zt1 K vs H Q E9
inductive Zww(K:Ydg)(vs:XF)(H:Hp)(Q:VK)(E9:XK):Prop
 |mk(n:Int)(a:Nat)(SL:XB)(ss:XJ):vs=[.int n,.int (a:Int),.ref SL]->SlAt H SL ss->(∀q xs pc H',Same H H'->H' q=some (.lst xs)->RowsAt K H' pc xs->PcT a pc->Q (.ref q) H')->Zww K vs H Q E9
def mul3(a b:Int):In64 (a%3*(b%4611686018427387904)):=by
 rcases(by omega:a%3=0\/a%3=1\/a%3=2)with z|z|z<;>rw[z]<;>exact⟨(),()⟩
def ZbE:FnScope ["_law_number_here","_law_slots_here","_law_slot_here","_law_asked","_law_word","_law_coin"] ["_law_number_here","_law_slots_here"] (Zae (top 171)):=by walk_at"c"
def ZkM:FnScope ["_law_cell","_law_at","_law_slots_here","_law_number_here","_law_place_here"] ["_law_cell","_law_at","_law_slots_here"] (Zae (top 172)):=by walk_at"c"
include Y
def ZeK:mY Y 1 "_law_cell_at" (Zwu K):=by
 refine Zax ["_law_script","_law_k"] Y.cQ ?_
 .symm;let⟨p,ns,j,rfl,hj,hl,k⟩:=h;refine⟨_,(Zac (ZaG (Zas ZfD (pv 1) (Zau ZaN rfl Y.d Ys (Wa (pv 0)))) (Wb (Zaq Zan (pv 0) (pv 1))) Zat) (Wb Zag)),?_⟩;left;repeat' walk_at"rdk"
  .rename_i hlt;rw[Ya]at hlt;let⟨c,e1,e2⟩:=ZsB (xs:=ns) hj hlt;have e3:(ns.map V.int)[j.toNat]?=some (.int c):=by rw[Yb,e2];rfl
   refine ZaA hl (ZaL e3 ()) ?_;unfold cellF at k;rw[e2]at k;exact k
  .rename_i hlt;rw[Ya]at hlt;unfold cellF at k;rw[Yas ()]at k;exact k
def Zmf:mY Y 1 "_law_place" Zt0:=by
 refine Zax ["_law_number_here"] Y.cR ?_
 .symm;let⟨n,rfl,k⟩:=h;refine'⟨_,?der,?_⟩;case der=>refine' Zaf ?h15;case h15=>refine' Zak ?h14;case h14=>refine' ZcE ?h10 ?h11 ?h12 ?h13;(case h10=>exact Zan);(case h11=>refine' ZaI ?h9;case h9=>refine' Zaa ?h7 ?h8;(case h7=>exact Zag);case h8=>refine' Zaa ?h5 ?h6;(case h5=>exact Zag);case h6=>refine' Zaa ?h3 ?h4;(case h3=>exact(Zaw ZeO (Zaw ZeP Zag Zag) Zag));case h4=>refine' Zaa ?h1 ?h2;(case h1=>exact(Zaw ZaR (Zaw ZaP (pv 0) Zag) Zag));case h2=>exact Zab);(case h12=>exact(Zaw ZaR (pv 0) Zag));case h13=>exact λ_ _=>rfl
  left;ext;rw[p64N];refine⟨show 4<=sizeLine by decide,λl hl=>?_⟩;have sl:=Same.new hl (o:=.lst [.int 0,.int 7,.int (18446744073709551616-1),.int (n/4%3)]);have gl:(upd H l (.lst [.int 0,.int 7,.int (18446744073709551616-1),.int (n/4%3)])) l=some (.lst [.int 0,.int 7,.int (18446744073709551616-1),.int (n/4%3)]):=Zad;generalize upd H l _=H1 at sl gl |-;let⟨v,hv,e⟩:=pick4 0 7 (18446744073709551616-1) (n/4%3) n;exists ZaA (Zal gl) e ?_;refine k v H1 ?_ sl;simp only[ps5,Yh,YL,Yah]at hv |-;omega
def Zon:mY Y 1 "_law_slot" Zwv:=by
 refine Zax ["_law_number_here","_law_slots_here"] Y.cS ?_
 .symm;let⟨n,SL,ss,rfl,hs,k⟩:=h;refine⟨_,(Zac (ZaG (Zas Zbf (Zaw ZaR (pv 0) Zag) Zag) (Wb (Zaw ZaR (Zaw ZaP (pv 0) Zag) Zag)) Zat) (Wb (ZcE Zan (pv 1) (Zaw ZaR (Zaw ZaP (pv 0) Zag) (Zau ZaN rfl Y.d Ys (Wa (pv 1)))) (λ_ _=>rfl)))),?_⟩;left;have lss:(ss.map λj:Nat=>V.int (j:Int)).length=ss.length:=Ya ..;have hl:SqL K H SL (ss.map λj:Nat=>V.int (j:Int)):=Zal hs.1;have hp:0<ss.length:=Ybe.mpr hs.2.1;walk_at"K'"
  .exact k _ () ()
  .rw [lss];ext;let⟨s,hm,e⟩:=hs.pick (n/8);refine ZaA hl e ?_;have:=hs.2.2.2 s hm;exact k _ () ()
local macro_rules|`(tactic|walk_at"nd")=>`(tactic|(refine⟨YY rfl,λt q=>?_⟩;generalize e:upd _ t _=G;(revert G e;refine My.keepIt ?_;intro G e);(have g:=Gw.newE (by assumption) q e);clear e;(ext)))
local macro_rules|`(tactic|walk_at"nf")=>`(tactic|(refine Hs.mem (Gw.h (by assumption)) ?_;repeat (first|exact List.Mem.head _|apply List.Mem.tail)))
local macro_rules|`(tactic|walk_at"nr")=>`(tactic|repeat' (first|exact RowsAt.nil|apply RowsAt.cons|exact row1 (by walk_at"nf")|exact row2 (by walk_at"nf")))
local macro_rules|`(tactic|walk_at"ns")=>`(tactic|repeat' (first|exact Zol|refine Znh ?_ ?_|exact Zng (λ_=>rfl)|exact Zf0 (by assumption)|exact Zf0 (Zc9 (by omega) (by omega))|exact Zf1 (.inl rfl) (by omega) (by simp only[Yi,Yac];omega)|exact Zf1 (.inr rfl) (by omega) (by simp only[Yi,Yac];omega)))
local macro_rules|`(tactic|walk_at"nt")=>`(tactic|repeat' (first|exact ZrW|refine' fs_p (by assumption) ?_|refine' fs_j ?_|refine' fs_c ?_))
def ZiY:mY Y 2 "_law_other_call" (Zt1 K):=by
 refine Zax _ Y.cT ?_ _ ZbE
 .symm;let⟨n,SL,ss,rfl,hs,k⟩:=h;refine'⟨_,?der,?_⟩;case der=>refine' Zac ?h109 ?h110;(case h109=>exact(Zao (i:=2) ZbE.nd (ZaH (Zaa Zav (Wa (Zam (Zon Y) (Zaa (Zaw ZaP (pv 0) Zag) (Wa (pv 1)))))))));case h110=>refine' Zac ?h107 ?h108;(case h107=>refine' Zhc (i:=3) ?h27 ?h28 ?h29 ?h30;(case h27=>exact ZbE.nd);(case h28=>rfl);(case h29=>(first|exact Or.inl rfl|exact Or.inr rfl));case h30=>refine' ZaH ?h26;case h26=>refine' Zaa ?h24 ?h25;(case h24=>exact Zav);case h25=>refine' Zaa ?h22 ?h23;(case h22=>refine' ZcE ?h18 ?h19 ?h20 ?h21;(case h18=>exact Zan);(case h19=>refine' ZaI ?h17;case h17=>refine' ZjH (vs:=[.int 400,.int 30,.int 12,.int 90]) ?h16;case h16=>rfl);(case h20=>exact(Zaw ZaR (pv 0) Zag));case h21=>exact λ_ _=>rfl);case h23=>exact Zab);case h108=>refine' Zac ?h105 ?h106;(case h105=>exact(Zao (i:=4) ZbE.nd (ZaH (Zaa Zav (Wa (Zaw ZaR (Zaw ZaP (pv 0) Zag) (Zaw ZeP Zag Zag)))))));case h106=>refine' Zac ?h103 ?h104;(case h103=>refine' ZaG ?h65 ?h66 ?h67;(case h65=>exact(Zas Zbf (Zaw ZaR (pv 0) Zag) Zag));(case h66=>refine' Zac ?h63 ?h64;(case h63=>refine' Zhc (i:=5) ?h42 ?h43 ?h44 ?h45;(case h42=>exact ZbE.nd);(case h43=>rfl);(case h44=>(first|exact Or.inl rfl|exact Or.inr rfl));case h45=>refine' ZaH ?h41;case h41=>refine' Zaa ?h39 ?h40;(case h39=>exact Zav);case h40=>refine' Zaa ?h37 ?h38;(case h37=>refine' ZcE ?h33 ?h34 ?h35 ?h36;(case h33=>exact Zan);(case h34=>refine' ZaI ?h32;case h32=>refine' ZjH (vs:=[.int 0,.int 1,.int 5,.int 40]) ?h31;case h31=>rfl);(case h35=>exact(Zaw ZaR (Zaw ZaP (pv 0) Zag) Zag));case h36=>exact λ_ _=>rfl);case h38=>exact Zab);case h64=>refine' Zaf ?h62;case h62=>refine' Zak ?h61;case h61=>refine' ZaI ?h60;case h60=>refine' Zaa ?h58 ?h59;(case h58=>exact(pv 2));case h59=>refine' Zaa ?h56 ?h57;(case h56=>exact(pv 5));case h57=>refine' Zaa ?h54 ?h55;(case h54=>exact(pv 3));case h55=>refine' Zaa ?h52 ?h53;(case h52=>exact(pv 4));case h53=>refine' Zaa ?h50 ?h51;(case h50=>exact(ZaH (Wa Zav)));case h51=>refine' Zaa ?h48 ?h49;(case h48=>exact(ZaH (Wa Zav)));case h49=>refine' Zaa ?h46 ?h47;(case h46=>exact(ZaH (Wa Zav)));case h47=>exact Zab);case h67=>exact Zat);case h104=>refine' Zac ?h101 ?h102;(case h101=>refine' ZaG ?h83 ?h84 ?h85;(case h83=>exact(Zas Zbf (Zaw ZaR (pv 0) Zag) Zag));(case h84=>refine' Zaf ?h82;case h82=>refine' Zak ?h81;case h81=>refine' ZaI ?h80;case h80=>refine' Zaa ?h78 ?h79;(case h78=>exact(pv 2));case h79=>refine' Zaa ?h76 ?h77;(case h76=>exact(pv 3));case h77=>refine' Zaa ?h74 ?h75;(case h74=>exact(pv 4));case h75=>refine' Zaa ?h72 ?h73;(case h72=>exact(ZaH (Wa Zav)));case h73=>refine' Zaa ?h70 ?h71;(case h70=>exact(ZaH (Wa Zav)));case h71=>refine' Zaa ?h68 ?h69;(case h68=>exact(ZaH (Wa Zav)));case h69=>exact Zab);case h85=>exact Zat);case h102=>refine' Zaf ?h100;case h100=>refine' Zak ?h99;case h99=>refine' ZaI ?h98;case h98=>refine' Zaa ?h96 ?h97;(case h96=>exact(pv 2));case h97=>refine' Zaa ?h94 ?h95;(case h94=>exact(pv 3));case h95=>refine' Zaa ?h92 ?h93;(case h92=>exact(pv 4));case h93=>refine' Zaa ?h90 ?h91;(case h90=>exact(ZaH (Wa Zav)));case h91=>refine' Zaa ?h88 ?h89;(case h88=>exact(ZaH (Wa Zav)));case h89=>refine' Zaa ?h86 ?h87;(case h86=>exact(ZaH (Wa Zav)));case h87=>exact Zab
  left;have h0:Gw H H []:=Gw.start;exists⟨_,SL,ss,rfl,hs,λs s0 s1=>?_⟩;have is:In64 s:=Zc9 s0 ();ext;walk_at"nd";walk_at"nd";let⟨ak,hak,eak⟩:=pick4 400 30 12 90 n;have iak:In64 ak:=by simp only[Yh,YL,Yah]at hak;exact Zc9 () ()
  refine ZaA (Zal (by walk_at"nf")) eak ?_;clear eak hak;ext;walk_at"nd";rw[p64N];have iw:In64 (n/7%18446744073709551616):=Zg0 _;walk_at"nd";ext
  .walk_at"nd";let⟨cn,hcn,ecn⟩:=pick4 0 1 5 40 (n/5);have icn:In64 cn:=by simp only[Yh,YL,Yah]at hcn;exact Zc9 () ()
   refine ZaA (Zal (by walk_at"nf")) ecn ?_;clear ecn hcn;ext;(iterate 5 walk_at"nd");refine k _ _ _ _ (Gw.s ‹_›) (by walk_at"nf") (by walk_at"nr") ?_;intro a;exact ZiX [] (by walk_at"nt") (YY rfl) (by walk_at"ns") (by rfl)
  ext
  .walk_at"nd"
   (iterate 3 walk_at"nd");refine k _ _ _ _ (Gw.s ‹_›) (by walk_at"nf") (by walk_at"nr") ?_;intro a;exact ZiX [] (by walk_at"nt") (YY rfl) (by walk_at"ns") (by rfl)
  ext;(iterate 4 walk_at"nd");refine k _ _ _ _ (Gw.s ‹_›) (by walk_at"nf") (by walk_at"nr") ?_;intro a;exact ZiX [] (by walk_at"nt") (YY rfl) (by walk_at"ns") (by rfl)
def Zt3:mY Y 3 "_law_part" (Zww K):=by
 refine Zax _ Y.cU ?_ _ ZkM
 .symm;let⟨n,a,SL,ss,rfl,hs,k⟩:=h;refine'⟨_,?der,?_⟩;case der=>refine' Zac ?h202 ?h203;(case h202=>exact(Zao (i:=3) ZkM.nd (Zaw ZaP (pv 0) Zag)));case h203=>refine' Zac ?h200 ?h201;(case h200=>exact(Zao (i:=4) ZkM.nd (ZaH (Zaa Zav (Wa (Zam (Zmf Y) (Wa (pv 3))))))));case h201=>refine' Zac ?h198 ?h199;(case h198=>exact(ZaG (Zas ZfD (Zaw ZaR (pv 0) Zag) Zag) (Wb (Zam (ZiY Y) (Zaa (pv 3) (Wa (pv 2))))) Zat));case h199=>refine' Zac ?h196 ?h197;(case h196=>refine' ZaG ?h120 ?h121 ?h122;(case h120=>exact(Zas Zbf (Zaw ZaR (pv 0) Zag) Zag));(case h121=>refine' Zaf ?h119;case h119=>refine' Zak ?h118;case h118=>refine' ZaI ?h117;case h117=>refine' Zaa ?h115 ?h116;(case h115=>exact(pv 4));case h116=>refine' Zaa ?h113 ?h114;(case h113=>exact(ZaH (Zaa Zav (Wa (Zaw Zda (Zaw ZaR (Zaw ZaP (pv 3) Zag) Zag) (Zaw ZaR (Zaw ZaP (pv 3) Zag) (Zaw ZeP Zag Zag)))))));case h114=>refine' Zaa ?h111 ?h112;(case h111=>exact(ZaH (Wa Zav)));case h112=>exact Zab);case h122=>exact Zat);case h197=>refine' Zac ?h194 ?h195;(case h194=>refine' ZaG ?h138 ?h139 ?h140;(case h138=>exact(Zas Zbf (Zaw ZaR (pv 0) Zag) Zag));(case h139=>refine' Zaf ?h137;case h137=>refine' Zak ?h136;case h136=>refine' ZaI ?h135;case h135=>refine' Zaa ?h133 ?h134;(case h133=>exact(pv 4));case h134=>refine' Zaa ?h131 ?h132;(case h131=>exact(ZaH (Zaa Zav (Wa (Zam (Zmf Y) (Wa (Zaw ZaP (pv 3) Zag)))))));case h132=>refine' Zaa ?h129 ?h130;(case h129=>exact(ZaH (Wa Zav)));case h130=>refine' Zaa ?h127 ?h128;(case h127=>exact(ZaH (Wa Zav)));case h128=>refine' Zaa ?h125 ?h126;(case h125=>exact(ZaH (Wa Zav)));case h126=>refine' Zaa ?h123 ?h124;(case h123=>exact(ZaH (Wa Zav)));case h124=>exact Zab);case h140=>exact Zat);case h195=>refine' Zac ?h192 ?h193;(case h192=>refine' ZaG ?h156 ?h157 ?h158;(case h156=>exact(Zas Zbf (Zaw ZaR (pv 0) Zag) Zag));(case h157=>refine' Zaf ?h155;case h155=>refine' Zak ?h154;case h154=>refine' ZaI ?h153;case h153=>refine' Zaa ?h151 ?h152;(case h151=>exact(ZaH (Wa Zav)));case h152=>refine' Zaa ?h149 ?h150;(case h149=>exact(ZaH (Zaa Zav (Wa (Zaw ZaR (pv 3) Zag)))));case h150=>refine' Zaa ?h147 ?h148;(case h147=>exact(ZaH (Wa Zav)));case h148=>refine' Zaa ?h145 ?h146;(case h145=>exact(ZaH (Zaa Zav (Wa (Zaw Za0 (pv 1) Zag)))));case h146=>refine' Zaa ?h143 ?h144;(case h143=>exact(ZaH (Zaa Zav (Wa (Zaw ZaR (pv 3) Zag)))));case h144=>refine' Zaa ?h141 ?h142;(case h141=>exact(ZaH (Wa Zav)));case h142=>exact Zab);case h158=>exact Zat);case h193=>refine' Zac ?h190 ?h191;(case h190=>refine' ZaG ?h174 ?h175 ?h176;(case h174=>exact(Zas Zbf (Zaw ZaR (pv 0) Zag) Zag));(case h175=>refine' Zaf ?h173;case h173=>refine' Zak ?h172;case h172=>refine' ZaI ?h171;case h171=>refine' Zaa ?h169 ?h170;(case h169=>exact(ZaH (Zaa Zav (Wa (Zam (Zon Y) (Zaa (pv 3) (Wa (pv 2))))))));case h170=>refine' Zaa ?h167 ?h168;(case h167=>exact(ZaH (Wa Zav)));case h168=>refine' Zaa ?h165 ?h166;(case h165=>exact(pv 4));case h166=>refine' Zaa ?h163 ?h164;(case h163=>exact(ZaH (Wa Zav)));case h164=>refine' Zaa ?h161 ?h162;(case h161=>exact(ZaH (Wa Zav)));case h162=>refine' Zaa ?h159 ?h160;(case h159=>exact(ZaH (Wa Zav)));case h160=>exact Zab);case h176=>exact Zat);case h191=>refine' Zaf ?h189;case h189=>refine' Zak ?h188;case h188=>refine' ZcE ?h184 ?h185 ?h186 ?h187;(case h184=>exact Zan);(case h185=>refine' ZaI ?h183;case h183=>refine' Zaa ?h181 ?h182;(case h181=>exact(ZaI (Zaa (ZaH (Zaa Zav (Wa (Zaw ZaR (pv 3) (Zaw ZeP Zag Zag))))) (Wa (ZaH (Wa Zav))))));case h182=>refine' Zaa ?h179 ?h180;(case h179=>exact(ZaI (Wa (ZaH (Wa Zav)))));case h180=>refine' Zaa ?h177 ?h178;(case h177=>exact(ZaI (Zaa (ZaH (Wa Zav)) (Wa (ZaH (Wa Zav))))));case h178=>exact Zab);(case h186=>exact(Zaw ZaR (pv 3) Zag));case h187=>exact λ_ _=>rfl
  left;have h0:Gw H H []:=Gw.start;exists⟨_,rfl,λp H1 hp s1=>?_⟩;have g1:=h0.same s1;clear h0;have ip:=Zom hp;ext;walk_at"nd";ext
  .refine ⟨_,SL,ss,rfl,hs.same (Gw.s ‹_›),λq xs pc H2 s2 gq hr hpc=>?_⟩;exact k q xs pc H2 (Same.trans (Gw.s ‹_›) s2) gq hr (hpc a)
  ext
  .rw [p62N];have iv:In64 (n/7/12%3*(n/7/36%4611686018427387904)):=mul3 (n/7/12) (n/7/36);(iterate 3 walk_at"nd");refine k _ _ _ _ (Gw.s ‹_›) (by walk_at"nf") (by walk_at"nr") ?_;exact ZiX [[],[true],[false,true],[]] (by walk_at"nt") (YY rfl) (by walk_at"ns") (by rfl)
  ext
  .refine ⟨_,rfl,λp2 H2 hp2 s2=>?_⟩;have g2:=Gw.same ‹_› s2;have ip2:=Zom hp2;ext;(iterate 6 walk_at"nd");refine k _ _ _ _ (Gw.s ‹_›) (by walk_at"nf") (by walk_at"nr") ?_;exact ZiX [[],[true],[false,true],[false,true],[false,false,true],[false,true],[]] (by walk_at"nt") (YY rfl) (by walk_at"ns") (by rfl)
  ext
  .walk_at"nd"
   (iterate 6 walk_at"nd");refine k _ _ _ _ (Gw.s ‹_›) (by walk_at"nf") (by walk_at"nr") ?_;exact ZiX [] (by walk_at"nt") (YY rfl) (by walk_at"ns") (by rfl)
  ext
  .refine ⟨_,SL,ss,rfl,hs.same (Gw.s ‹_›),λs s0 s1=>?_⟩;have is:In64 s:=Zc9 s0 ();ext;(iterate 6 walk_at"nd");refine k _ _ _ _ (Gw.s ‹_›) (by walk_at"nf") (by walk_at"nr") ?_;exact ZiX [] (by walk_at"nt") (YY rfl) (by walk_at"ns") (by rfl)
  ext;rw[p64N];have iw:In64 (n/7%18446744073709551616):=Zg0 _;(iterate 9 walk_at"nd");rcases(by omega:n/7%3=0\/n/7%3=1\/n/7%3=2)with z|z|z
  .refine ZaA (Zal (by walk_at"nf")) (by rw[z];rfl) ?_;refine k _ _ _ _ (Gw.s ‹_›) (by walk_at"nf") (by walk_at"nr") ?_;exact ZiX [] (by walk_at"nt") (YY rfl) (by walk_at"ns") (by rfl)
  .refine ZaA (Zal (by walk_at"nf")) (by rw[z];rfl) ?_;refine k _ _ _ _ (Gw.s ‹_›) (by walk_at"nf") (by walk_at"nr") ?_;exact ZiX [] (by walk_at"nt") (YY rfl) (by walk_at"ns") (by rfl)
  .refine ZaA (Zal (by walk_at"nf")) (by rw[z];rfl) ?_;refine k _ _ _ _ (Gw.s ‹_›) (by walk_at"nf") (by walk_at"nr") ?_;exact ZiX [] (by walk_at"nt") (YY rfl) (by walk_at"ns") (by rfl)
omit Y
def Zwx(ns:XD)(lo hi:XS):∃ms:List Int,ms.length<=ns.length/\cutV (ns.map V.int) lo hi=ms.map V.int:=by
 unfold cutV;rw[<- Yb2,<- Yb1];exact⟨_,by rw[YN,Yaw];exact Nat.le_trans (Nat.min_le_right _ _) (Nat.sub_le _ _),rfl⟩
def cut_b(ns:XD)(a b:Nat):∃ms:List Int,ms.length<=b-a/\cutV (ns.map V.int) (some (a:Int)) (some (b:Int))=ms.map V.int:=by
 unfold cutV;rw[HT.ZpN,HT.ZpN,<- Yb2,<- Yb1];refine⟨_,?_,rfl⟩;rw[YN];refine Yj (YcT _ _) ?_;rcases Nat.le_total a (ns.map V.int).length with h|h
 .rw [YbG h];exact Nat.sub_le_sub_right (YcT _ _) _
 .rw [YcL h,Nat.sub_eq_zero_of_le (YcK _ _)];exact YO _
inductive Zwy(K:Ydg)(vs:XF)(H:Hp)(Q:VK)(E9:XK):Prop
 |mk(CL SL:XB)(cs:XD)(ss:XJ):vs=[.ref CL,.ref SL]->SqL K H CL (cs.map V.int)->SlAt H SL ss->(∀q H',Same H H'->H q=none->PgT K H' q->Q (.ref q) H')->Zwy K vs H Q E9
inductive Zt4(K:Ydg)(vs:XF)(H:Hp)(Q:VK)(E9:XK):Prop
 |mk(a SL:XB)(ns:XD)(ss:XJ):vs=[.ref a,.ref SL]->SqL K H a (ns.map V.int)->SlAt H SL ss->(∀q (as:Xa) H',Same H H'->H q=none->H' q=some (.lst (as.map V.ref))->as.length=ss.length->(∀b∈as,H b=none/\PgT K H' b)->Q (.ref q) H')->Zt4 K vs H Q E9
inductive Zt5(K:Ydg)(vs:XF)(H:Hp)(Q:VK)(E9:XK):Prop
 |mk(p:XB)(ns:XD):vs=[.ref p]->SqL K H p (ns.map V.int)->(∀l (ss:XJ) H',Same H H'->H l=none->SlAt H' l ss->ss.length<=4->ss.Nodup->Q (.ref l) H')->Zt5 K vs H Q E9
inductive spLet8(vs:XF)(H:Hp)(Q:VK)(E9:XK):Prop
 |mk(c:Int)(SL:XB)(ss:XJ):vs=[.int c,.ref SL]->SlAt H SL ss->(∀(q:XB)(s t:Nat)(n l w:Int) H',Same H H'->s∈ss->t∈ss->0<=n->n<=50->10<=l->l<200->In64 w->H' q=some (.tup [.int (s:Int),.int (t:Int),.int n,.int l,.int w])->Q (.ref q) H')->spLet8  vs H Q E9
def ZrY:∀(a:Fin 16)(b:Fin 8)(n:Fin 9),((List.range n.val).map λk:Nat=>(a.val+k*(1+2*b.val))%16).Nodup:=by decide +kernel
def Znj(q r:Int)(n:Nat)(hn:n<=8):((List.range n).map λk:Nat=>((q+(k:Int)*(1+2*(r%8)))%16).toNat).Nodup:=by
 have ha:(q%16).toNat<16:=();have hb:(r%8).toNat<8:=();have:=ZrY ⟨(q%16).toNat,ha⟩ ⟨(r%8).toNat,hb⟩ ⟨n,()⟩;have e:(λk:Nat=>((q+(k:Int)*(1+2*(r%8)))%16).toNat)=λk:Nat=>((q%16).toNat+k*(1+2*(r%8).toNat))%16:=by
  funext k;have er:r%8=(((r%8).toNat:Nat):Int):=();have e2:(k:Int)*(1+2*(r%8))=((k*(1+2*(r%8).toNat):Nat):Int):=by
   rw[Int.natCast_mul,Int.natCast_add,Int.natCast_mul,<- er];rfl
  rw[e2];generalize k*(1+2*(r%8).toNat)=x;have e:=(Int.toNat_of_nonneg (Int.emod_nonneg q (by decide:(16:Int)≠0))).symm;rw[<- Int.emod_add_emod,e];rfl
 rw[e];exact this
def odd8(n:Int):atI [V.int 1,V.int 3,V.int 5,V.int 7,V.int 9,V.int 11,V.int 13,V.int 15] (n%8)=some (.int (1+2*(n%8))):=by
 rcases(by omega:n%8=0\/n%8=1\/n%8=2\/n%8=3\/n%8=4\/n%8=5\/n%8=6\/n%8=7)with z|z|z|z|z|z|z|z<;>rw[z]<;>rfl
def Zcr:FnScope ["_law_cells","_law_slots_here","_law_rows","_law_cell","_law_part_here"] ["_law_cells","_law_slots_here"] (Zae (top 173)):=by walk_at"c"
def Zb3:FnScope ["_law_script","_law_slots_here","_law_cells","_law_found","_law_at","_law_mine"] ["_law_script","_law_slots_here"] (Zae (top 174)):=by walk_at"c"
def Zfz:FnScope ["_law_script","_law_cell","_law_many","_law_step"] ["_law_script"] (Zae (top 168)):=by walk_at"c"
def ZdZ:FnScope ["_law_cell","_law_slots_here","_law_sender","_law_to","_law_coin"] ["_law_cell","_law_slots_here"] (Zae (top 175)):=by walk_at"c"
include Y
def Znk:mY Y 4 "_law_program" (Zwy K):=by
 refine Zax _ Y.cV ?_ _ Zcr
 .symm;let⟨CL,SL,cs,ss,rfl,hC,hs,k⟩:=h;refine⟨_,(Zac (Zao (i:=2) Zcr.nd (ZaI Zab)) (Zac (ZbQ YV rfl (Zbc (pv 0)) (ZaU (i:=3) Zcr.nd) (Zac (Zao (i:=4) Zcr.nd (Zam (Zt3 Y) (Zaa (Zaw ZaR (pv 3) (Zaw ZeP Zag Zag)) (Zaa (Zau ZaN rfl Y.d Ys (Wa (pv 2))) (Wa (pv 1)))))) (Zaf (ZaG (Zas ZfD (Zaw Za0 (Zau ZaN rfl Y.d Ys (Wa (pv 2))) (Zau ZaN rfl Y.d Ys (Wa (pv 4)))) Zag) (Zaf (Zao (i:=2) Zcr.nd (Zaw Zk5 (pv 2) (pv 4)))) Zat)))) (Wb (pv 2)))),?_⟩;left;have big:(100:Nat)<sizeLine:=nofun;exists⟨show 0<=sizeLine by decide,λp hp=>?_⟩;have s1:=Same.new hp (o:=.lst []);have gp:(upd H p (.lst [])) p=some (.lst []):=Zad;generalize upd H p _=H1 at s1 gp |-;exists ZbT (ZaY ?_);exists⟨CL,rfl,⟨_,s1.seq hC⟩,ZbF (xs:=cs.map V.int) (λi U' H'=>Same H H'/\∃q v1 v2,H q=none/\PgT K H' q/\U'=[some (.ref CL),some (.ref SL),some (.ref q),v1,v2]) ⟨s1,p,none,none,hp,⟨[],[],gp,RowsAt.nil,RsT.nil⟩,rfl⟩ (λi U' H' _ ⟨s,_⟩=>s.seq hC) ?_ ?_⟩
  .rintro i x U' H' hx ⟨sA,q,v1,v2,hq,⟨xs,rs,gq,hr,ok⟩,rfl⟩;rw[Yb]at hx;let⟨c,hc,rfl⟩:=Yu.mp hx;have hxl:xs.length=rs.length:=hr.1.symm;have hqs:SqL K H' q xs:=Zal gq;have ol:=ok.len;ext;rw[hxl];refine⟨_,rs.length,SL,ss,rfl,hs.same sA,λq2 ys pc HB sB eB rB pk=>?_⟩;have hyl:ys.length=pc.length:=rB.1.symm;have pl:=pk.len;have gq2:=sB _ _ gq;have hqs2:SqL K HB q xs:=Zal gq2;have hys:SqL K HB q2 ys:=Zal eB;walk_at"K'"
   .rename_i hlt;refine Zlh gq2 eB () λn1 qn1=>?_;have s3:=Same.new qn1 (o:=.lst (xs++ys));ext;exact⟨(sA.trans sB).trans s3,n1,_,_,(sA.trans sB).fresh qn1,⟨xs++ys,rs++pc,Zad,ZtZ (hr.keep (sB.trans s3).imm) (rB.keep s3.imm),ok.app pk ()⟩,rfl⟩
   .exact ⟨sA.trans sB,q,_,_,hq,⟨xs,rs,gq2,hr.keep sB.imm,ok⟩,rfl⟩
  .rintro U' H' ⟨sA,q,v1,v2,hq,hP,rfl⟩;ext;exact k q H' sA hq hP
def Zmg:mY Y 5 "_law_programs" (Zt4 K):=by
 refine Zax _ Y.cW ?_ _ Zb3
 .symm;let⟨a,SL,ns,ss,rfl,hS,hs,k⟩:=h;refine⟨_,(Zac (Zao (i:=2) Zb3.nd (ZbS ZcF (pv 0) (ZbR Zag) (ZbR Zag))) (Zac (Zao (i:=3) Zb3.nd (ZaI Zab)) (Zac (ZbQ YV rfl (ZcM rfl Y.k (Wa (Zau ZaN rfl Y.d Ys (Wa (pv 1))))) (ZaU (i:=4) Zb3.nd) (Zac (Zp6 (i:=5) ["_law_k"] Zb3.nd rfl rfl rfl (show CompScope (Zae (top 174)) ["_law_script","_law_slots_here","_law_cells","_law_found","_law_at","_law_mine"] ["_law_k"] _ by walk_at"p") (ZcM rfl Y.k (Wa (Zau ZaN rfl Y.d Ys (Wa (pv 2))))) (λ_ _ _ _ _=>(Zbi (i:=0) (show(["_law_k","_law_script","_law_slots_here","_law_cells","_law_found","_law_at","_law_mine"]:XN).Nodup by decide +kernel) rfl (Or.inl rfl) (.inr rfl))) (λ_ _ _ _ _=>(Zp5 (Zas Zbf (Zaw ZaR (pv 0) (Zau (show CallR _ _ (rLenS K)from ZaN) rfl Y.d Ys (Wa (pv 2)))) (pv 5)))) (λ_ _ _ _ _=>(Zaq (show IxR _ (rIxL K)from Zan) (pv 3) (pv 0)))) (Zaf (Zay (Zbj Yy YI YH ZaT (pv 3) (Wa (Zam (Znk Y) (Zaa (ZbS ZcF (pv 5) Zdl (ZbR Zag)) (Wa (pv 1)))))))))) (Wb (pv 3))))),?_⟩;left;have big:(100:Nat)<sizeLine:=nofun;have l8:=hs.2.2.1;have hp:0<ss.length:=Ybe.mpr hs.2.1;have lss:(ss.map λj:Nat=>V.int (j:Int)).length=ss.length:=Ya ..;ext;intro cl hcl;obtain⟨cs,hcn,ecs⟩:∃cs:List Int,cs.length<=63/\cutV (ns.map V.int) (some 8) (some 63)=cs.map V.int:=let⟨ms,h,e⟩:=cut_b ns 8 63;⟨ms,(),e⟩;rw[ecs];have lcs:(cs.map V.int).length=cs.length:=Ya ..;have s1:=Same.new hcl (o:=.lst (cs.map V.int));have gc:(upd H cl (.lst (cs.map V.int))) cl=some (.lst (cs.map V.int)):=Zad;generalize upd H cl _=H1 at s1 gc |-;exists⟨show 0<=sizeLine by decide,λq hq=>?_⟩;have s2:=Same.new hq (o:=.lst []);have gq:(upd H1 q (.lst [])) q=some (.lst []):=Zad;generalize upd H1 q _=H2 at s2 gq |-;have hSL2:SqL K H2 SL (ss.map λj:Nat=>V.int (j:Int)):=Zal (s2 _ _ (s1 _ _ hs.1));exists ZbT (ZdT ?_);exists⟨_,rfl,(),(),?_⟩;rw[lss,Yt];refine Zdk (λt U' H'=>Same H1 H'/\∃(as:Xa)(v1 v2:Option V),H' q=some (.lst (as.map V.ref))/\as.length=t/\(∀b∈as,b≠q/\H b=none/\PgT K H' b)/\U'=[some (.ref a),some (.ref SL),some (.ref cl),some (.ref q),v1,v2]) ⟨s2,[],_,_,gq,rfl,(λ_ h=>nomatch h),rfl⟩ ?_ ?_
  .rintro t U' HA ht ⟨sA,as,v1,v2,eq,las,hP,rfl⟩;have hSLA:SqL K HA SL (ss.map λj:Nat=>V.int (j:Int)):=Zal (sA _ _ (s1 _ _ hs.1));have hCA:SqL K HA cl (cs.map V.int):=Zal (sA _ _ gc);exists Zbk (ZdT ?_);exists⟨_,rfl,(),(),λm hm=>?_⟩;rw[lcs,Yt];refine ZqB (λi H'=>Same HA H'/\∃ms:List Int,ms.length<=i/\H' m=some (.lst (ms.map V.int))) ⟨Same.new hm,[],Yk _,Zad⟩ ?_ ?_
   .rintro i H' hi ⟨sB,ms,hml,gm⟩;obtain⟨c,hc⟩:∃c,cs[i]?=some c:=⟨_,Yd hi⟩;have hat:atI (cs.map V.int) (0+(i:Int))=some (.int c):=by rw[YcI];exact Zeo (by rw[Yb,hc];rfl)
    have hSLB:=sB.seq hSLA;walk_at"K'"
    .refine ZaA (sB.seq hCA) hat ?_;exact⟨_,gm,by rw[Ya];omega,⟨sB.wr hm,ms++[c],by rw[Yc];exact YcJ hml,by rw[Zad,YA];rfl⟩,_,rfl⟩
    .exact ⟨⟨sB,ms,(),gm⟩,_,rfl⟩
   rintro HB ⟨sB,ms,hml,gm⟩;ext;have eqB:=sB _ _ eq;refine⟨Za9 (Zal eqB),?_⟩;ext;intro c2 hc2;let⟨m2,_,em2⟩:=Zwx ms none (some 6);rw[em2];have s3:=Same.new hc2 (o:=.lst (m2.map V.int));have g3:(upd HB c2 (.lst (m2.map V.int))) c2=some (.lst (m2.map V.int)):=Zad;generalize upd HB c2 _=HC at s3 g3 |-;exists⟨c2,SL,m2,ss,rfl,Zal g3,hs.same ((s1.trans sA).trans (sB.trans s3)),λpq HD s4 hpq pg=>?_⟩;have eqD:=s4 _ _ (s3 _ _ eqB);exists ZaZ (xs:=as.map V.ref) eqD (by rw[Ya];omega) ?_;have s5:=(sB.trans s3).trans s4;have npq:pq≠q:=YR (Zai (s3 _ _ eqB) hpq);exists⟨(sA.trans s5).wr hq,as++[pq],_,_,by rw[Zad,YA];rfl,by rw[Yc,las];rfl,λb hb=>?_,rfl⟩;rcases Yw.mp hb with hb|hb
   .obtain ⟨nb,fb,pb⟩:=hP b hb;exact⟨nb,fb,(pb.same s5).but eqD nb⟩
   .rw [Ye.mp hb];exact⟨npq,((s1.trans sA).trans (sB.trans s3)).fresh hpq,pg.but eqD npq⟩
  .rintro U' H9 ⟨s9,as,v1,v2,eq,las,hP,rfl⟩;ext;exact k q as H9 (s1.trans s9) (s1.fresh hq) eq las λb hb=>(hP b hb).2
def ZrZ:mY Y 2 "_law_slots" (Zt5 K):=by
 refine Zax _ Y.cX ?_ _ Zfz
 .symm;let⟨p,ns,rfl,hl,k⟩:=h;refine'⟨_,?der,?_⟩;case der=>refine' Zac ?h218 ?h219;(case h218=>exact(Zao (i:=1) Zfz.nd (Zam (ZeK Y) (Zaa (pv 0) (Wa Zag)))));case h219=>refine' Zac ?h216 ?h217;(case h216=>exact(Zao (i:=2) Zfz.nd (Zaw Za0 Zag (Zaw ZaR (pv 1) Zag))));case h217=>refine' Zac ?h214 ?h215;(case h214=>refine' Zhc (i:=3) ?h210 ?h211 ?h212 ?h213;(case h210=>exact Zfz.nd);(case h211=>rfl);(case h212=>(first|exact Or.inl rfl|exact Or.inr rfl));case h213=>refine' ZcE ?h206 ?h207 ?h208 ?h209;(case h206=>exact Zan);(case h207=>refine' ZaI ?h205;case h205=>refine' ZjH (vs:=[.int 1,.int 3,.int 5,.int 7,.int 9,.int 11,.int 13,.int 15]) ?h204;case h204=>rfl);(case h208=>exact(Zaw ZaR (Zaw ZaP (pv 1) Zag) Zag));case h209=>exact λ_ _=>rfl);case h215=>exact(Wb (ZbJ ["_law_k"] rfl (show CompScope (Zae (top 168)) ["_law_script","_law_cell","_law_many","_law_step"] ["_law_k"] _ by walk_at"p") (ZcM rfl Y.k (Wa (pv 2))) (λ_ _ _ _ _=>(Zbi (i:=0) (show(["_law_k","_law_script","_law_cell","_law_many","_law_step"]:XN).Nodup by decide +kernel) rfl (Or.inl rfl) (.inr rfl))) (λ_ _ _ _ _=>ZbI) (λ_ _ _ _ _=>(Zaw ZaR (Zaw Za0 (Zaw ZaP (pv 2) Zag) (Zaw Zda (pv 0) (pv 4))) Zag))))
  left;exists⟨p,ns,0,rfl,nofun,hl,?_⟩;generalize cellF ns 0=z;exists⟨show 8<=sizeLine by decide,λl0 hl0=>?_⟩;have s1:=Same.new hl0 (o:=.lst [.int 1,.int 3,.int 5,.int 7,.int 9,.int 11,.int 13,.int 15]);have g1:(upd H l0 (.lst [.int 1,.int 3,.int 5,.int 7,.int 9,.int 11,.int 13,.int 15])) l0=some (.lst [.int 1,.int 3,.int 5,.int 7,.int 9,.int 11,.int 13,.int 15]):=Zad;generalize upd H l0 _=H1 at s1 g1 |-;exists ZaA (Zal g1) (odd8 (z/3)) ?_;exists Zbk (ZdT ?_);exists⟨_,rfl,(),(),λq hq=>?_⟩;have hn:(2+z%3).toNat<=4/\2<=(2+z%3).toNat:=();have hnd:=Znj (z/24) (z/3) (2+z%3).toNat ();generalize (2+z%3).toNat=n at hn hnd;refine ZoK (ys:=((List.range n).map λk:Nat=>((z/24+(k:Int)*(1+2*(z/3%8)))%16).toNat).map λi:Nat=>V.int (i:Int)) hq (by simp) (Yj hn.1 nofun) ?_ ?_
  .intro i y H' Q' hi hy sm q';rw[Yb,Yb,Y0 hi]at hy;cases hy;ext;rw[YcI];refine ZbA ?_ q';show V.int _=V.int _;congr 1;dsimp only;omega
  .refine k q _ _ (s1.newT hq) (s1.fresh hq) ⟨Zad,λz=>?_,?_,?_⟩ (by rw[Ya,Yaa];exact hn.1) hnd
   .have:=Y3 List.length z;rw[Ya,Yaa,Yac]at this;omega
   .rw [Ya,Yaa];omega
   .intro i hi;let⟨j,_,rfl⟩:=YF.mp hi;omega
def Zpo:mY Y 1 "_law_letter" spLet8:=by
 refine Zax _ Y.cY ?_ _ ZdZ
 .symm;let⟨c,SL,ss,rfl,hs,k⟩:=h;refine'⟨_,?der,?_⟩;case der=>refine' Zac ?h247 ?h248;(case h247=>exact(Zao (i:=2) ZdZ.nd (ZcE Zan (pv 1) (Zaw ZaR (pv 0) (Zau ZaN rfl Y.d Ys (Wa (pv 1)))) (λ_ _=>rfl))));case h248=>refine' Zac ?h245 ?h246;(case h245=>exact(Zao (i:=3) ZdZ.nd (ZcE Zan (pv 1) (Zaw ZaR (Zaw ZaP (pv 0) Zag) (Zau ZaN rfl Y.d Ys (Wa (pv 1)))) (λ_ _=>rfl))));case h246=>refine' Zac ?h243 ?h244;(case h243=>refine' Zhc (i:=4) ?h226 ?h227 ?h228 ?h229;(case h226=>exact ZdZ.nd);(case h227=>rfl);(case h228=>(first|exact Or.inl rfl|exact Or.inr rfl));case h229=>refine' ZcE ?h222 ?h223 ?h224 ?h225;(case h222=>exact Zan);(case h223=>refine' ZaI ?h221;case h221=>refine' ZjH (vs:=[.int 0,.int 1,.int 7,.int 50]) ?h220;case h220=>rfl);(case h224=>exact(Zaw ZaR (Zaw ZaP (pv 0) Zag) Zag));case h225=>exact λ_ _=>rfl);case h244=>refine' Zaf ?h242;case h242=>refine' Zak ?h241;case h241=>refine' ZaH ?h240;case h240=>refine' Zaa ?h238 ?h239;(case h238=>exact(pv 2));case h239=>refine' Zaa ?h236 ?h237;(case h236=>exact(pv 3));case h237=>refine' Zaa ?h234 ?h235;(case h234=>exact(pv 4));case h235=>refine' Zaa ?h232 ?h233;(case h232=>exact(Zaw Za0 Zag (Zaw ZaR (Zaw ZaP (pv 0) Zag) Zag)));case h233=>refine' Zaa ?h230 ?h231;(case h230=>exact(Zaw ZaR (Zaw ZaP (pv 0) Zag) (Zaw ZeP Zag Zag)));case h231=>exact Zab
  left;have h0:Gw H H []:=Gw.start;have lss:(ss.map λj:Nat=>V.int (j:Int)).length=ss.length:=Ya ..;have hl:SqL K H SL (ss.map λj:Nat=>V.int (j:Int)):=Zal hs.1;have hp:0<ss.length:=Ybe.mpr hs.2.1;ext;rw[lss];ext;let⟨s,hs1,e1⟩:=hs.pick c;refine ZaA hl e1 ?_;ext;rw[lss];ext;let⟨t,ht1,e2⟩:=hs.pick (c/5);refine ZaA hl e2 ?_;ext;walk_at"nd";let⟨n,hn,e3⟩:=pick4 0 1 7 50 (c/20);refine ZaA (Zal (by walk_at"nf")) e3 ?_;simp only[Yh,YL,Yah]at hn;clear e1 e2 e3;ext;rw[p64N];refine⟨show 5<=sizeLine by decide,λq hq=>?_⟩;exact k q s t n _ _ _ (Gw.s (Gw.new ‹_› hq)) hs1 ht1 () () () () (Zg0 _) Zad
omit Y
def strL(x:Str):x.cps.toList.length=x.length:=by simp[Str.length]
def fs0{t:TJ}{U:L2.St}{H:Hp}{Q:VK}(h:([]:XJ).length<=0->t U H (mkS []) Q):tFs t U H Q:=h nofun
def jc{l:XJ}{b:Nat}{x:Str}{t:TJ}{U:L2.St}{H:Hp}{Q:VK}(hl:l.length<=b)(hb:b<=2000)(hx:x.length<=100)(q:(l++x.cps.toList).length<=b+100->t U H (mkS (l++x.cps.toList)) Q):tJc x t U H (mkS l) Q:=by
 have e:mkS l++x=mkS (l++x.cps.toList):=by rw[Zfu,ZaQ]
 have h:(l++x.cps.toList).length<=b+100:=by rw[Yc,strL];omega
 exact⟨by rw[e,Zbg];exact Yj h (Yj (Ycl hb 100) nofun),by rw[e];exact q h⟩
def jvS{l:XJ}{b:Nat}{x:Str}{t:TJ}{U:L2.St}{H:Hp}{Q:VK}(hl:l.length<=b)(hb:b<=2000)(hx:x.length<=100)(q:(l++x.cps.toList).length<=b+100->t U H (mkS (l++x.cps.toList)) Q):∃y,(V.str x=.str y\/∃j:Int,V.str x=.int j/\j.natAbs.log2<1920/\y=(toString j:Str))/\(mkS l++y).length<=sizeLine/\t U H (mkS l++y) Q:=by
 let⟨h1,h2⟩:=jc hl hb hx q;exact⟨x,.inl rfl,h1,h2⟩
def jvI{l:XJ}{b:Nat}{i:Int}{t:TJ}{U:L2.St}{H:Hp}{Q:VK}(hl:l.length<=b)(hb:b<=2000)(h0:0<=i)(h1:i<18446744073709551616)(q:(l++sNum i.toNat).length<=b+100->t U H (mkS (l++sNum i.toNat)) Q):∃y,(V.int i=.str y\/∃j:Int,V.int i=.int j/\j.natAbs.log2<1920/\y=(toString j:Str))/\(mkS l++y).length<=sizeLine/\t U H (mkS l++y) Q:=by
 have e:(Str.ofString (toString i))=mkS (sNum i.toNat):=ZbG h0;have hn:=ZbX (m:=i.toNat) ();have h:(l++sNum i.toNat).length<=b+100:=by rw[Yc];omega
 refine⟨mkS (sNum i.toNat),.inr ⟨i,rfl,Za1 h0 (),e.symm⟩,?_,?_⟩
 .rw [Zii,Zbg];exact Yj h (Yj (Ycl hb 100) nofun)
 .rw [Zii];exact q h
def j0{l:XJ}{b:Nat}{U:L2.St}{H:Hp}{Q:VK}(hl:l.length<=b)(hb:b<=2000)(q:Q (.str (mkS l)) H):tJ0 U H (mkS l) Q:=⟨by rw[Zbg];exact Yj hl (Yj hb nofun),q⟩
def Zcs{x y:XJ}{ps:XV}(h:ps≠[]):glueL y (x::ps)=x++y++glueL y ps:=by
 cases ps with
 |nil=>exact absurd rfl h
 |cons a r=>rfl
def bd0{R:Xh}(h:R [])(us:XH)(hl:us.length=0):R us:=by
 rw[Yax hl];exact h
def Zwz:Sp:=λvs H Q _=>vs=[]/\∀p H',Same H H'->H' p=some (.lst (WS.map V.str))->Q (.ref p) H'
def ZwA(K:Ydg):Sp:=λvs H Q _=>∃l xs rs,vs=[.ref l]/\SqL K H l xs/\RowsAt K H rs xs/\rs.length<=60/\(∀r∈rs,okRow r)/\∀H',Same H H'->Q (.str (textS rs)) H'
structure Dk where
 d:Addr
 dx:Addr
 i:HoI
 A:Nat->Option AcI
 S:Nat->AcS
 tk:Int
 P:Nat->List Int
structure DkAt(K:Ydg)(cA cT cH cD:XB)(H:Hp)(x:Dk):Prop where
 de:Zmd cD H x.d x.dx x.i.h
 ho:HoAt K cA cT cH H x.i x.A x.S x.tk x.P
 ex:Ex x.A x.S x.P
 tb:In64 x.tk
 pb:∀n,n<16->In64 (x.S n).purse/\In64 (x.S n).count
 nd:NotHo x.i x.A x.d
 ps:x.i.ps=ps5
section
variable{K:Ydg}{cA cT cH cD:XB}{H H':Hp}{x:Dk}{Q:VK}{E:XK}
def DkAt.same(h:DkAt K cA cT cH cD H x)(s:Same H H'):DkAt K cA cT cH cD H' x:=⟨s _ _ h.de,h.ho.same s,h.ex,h.tb,h.pb,h.nd,h.ps⟩
def ZdP{z:Str}{m:XJ}{sp:Sp}{ms zl:XJ}(a:AnSp K cA cT cH z m sp)(e:zl=z.cps.toList)(h:DkAt K cA cT cH cD H x)(hm:ms.length∈m)(hb:∀y∈ms,y<18446744073709551616)(k:∀l H1,Same H H1->SqL K H1 l (intsV ms)->sp [.ref x.i.h,.ref l] H1 Q E0):spSay K cA cT cH cD [.ref x.d,.str (rowT (zl::numsW ms))] H Q E:=
 ⟨x.d,x.dx,x.i.h,_,rfl,h.de,.inr ⟨z,m,sp,ms,a,hm,hb,by rw[e],λl H1 s1 hl=>k l H1 s1 (Zal hl)⟩⟩
def Zr0{z:Str}{f:AcS->Int}{zl:XJ}{n:Nat}{y:AcI}(a:AnSp K cA cT cH z [1] (spAnsI K cA cT cH f))(e:zl=z.cps.toList)(h:DkAt K cA cT cH cD H x)(hn:n<16)(hx:x.A n=some y)(hf:In64 (f (x.S n)))(k:∀H',Same H H'->Q (.str (strI (f (x.S n)))) H'):spSay K cA cT cH cD [.ref x.d,.str (rowT (zl::numsW [n]))] H Q E:=
 ZdP a e h (Ye.mpr rfl) (λm hm=>by rw[Ye.mp hm];omega) λl H1 s1 hl=>⟨x.i,x.A,x.S,x.tk,x.P,l,n,y,rfl,h.ho.same s1,hl,hn,hx,hf,k H1 s1⟩
end
def Zt6:∀c:Fin 10,Unicode.isDigit (48+c.val)=true:=by decide +kernel
def Zr1(m:Nat):Txt.isdigit (mkS (sNum m))=true:=by
 unfold Txt.isdigit;rw[Zbg,Yq,Yr];refine⟨Ybe.mpr (Zho m),?_⟩;rw[<- Array.all_toList,Y7];intro c hc;have:=Zih (m:=m) (c:=c) (by simpa[mkS]using hc);have h:=Zt6 ⟨c-48,()⟩;rwa[show 48+(c-48)=c by omega]at h
def sp_row{z:Str}{n:Nat}:z++Str.ofString " "++mkS (sNum n)=rowT (z.cps.toList::numsW [n]):=by
 rw[Zfu,Zfu,ZaQ,ZaQ];rfl
def spLNum:Sp:=λvs H Q _=>∃n:Int,vs=[.str (strI n)]/\In64 n/\Q (.int n) H
inductive spSays(K:Ydg)(cA cT cH cD:XB)(vs:XF)(H:Hp)(Q:VK)(E9:XK):Prop
 |mk(x:Dk)(z:Str)(n:Nat)(v:Int)(f:AcS->Int)(y:AcI):vs=[.ref x.d,.str z,.int (n:Int),.int v]->DkAt K cA cT cH cD H x->AnSp K cA cT cH z [1] (spAnsI K cA cT cH f)->n<16->x.A n=some y->v=f (x.S n)->In64 v->(∀H',Same H H'->Q (.bl true) H')->spSays K cA cT cH cD vs H Q E9
def Ziv:FnScope ["_law_first","_law_more"] [] (Zae (top 176)):=by walk_at"c"
def ZkN:FnScope ["_law_rows","_law_found","_law_row"] ["_law_rows"] (Zae (top 177)):=by walk_at"c"
include Y
def Zr2:mY Y 1 "_law_words" Zwz:=by
 refine Zax _ Y.cZ ?_ _ Ziv (λvs H Q E h=>by obtain⟨rfl,_⟩:=h;rfl) (λ_ _ _ _ _ _ us hl=>bd0 (R:=λus=>bindArgs _ ⟨us,[]⟩=pure (List.zip _ us)) rfl us hl)
 .symm;obtain⟨rfl,k⟩:=h;refine'⟨_,?der,?_⟩;case der=>refine' Zac ?h270 ?h271;(case h270=>refine' Zhc (i:=0) ?h251 ?h252 ?h253 ?h254;(case h251=>exact Ziv.nd);(case h252=>rfl);(case h253=>(first|exact Or.inl rfl|exact Or.inr rfl));case h254=>refine' ZaI ?h250;case h250=>refine' ZjH (vs:=[.str "push",.str "drop",.str "copy",.str "swap",.str "add",.str "minus",.str "times",.str "over",.str "rest",.str "below",.str "same"]) ?h249;case h249=>rfl);case h271=>refine' Zac ?h268 ?h269;(case h268=>refine' Zhc (i:=1) ?h257 ?h258 ?h259 ?h260;(case h257=>exact Ziv.nd);(case h258=>rfl);(case h259=>(first|exact Or.inl rfl|exact Or.inr rfl));case h260=>refine' ZaI ?h256;case h256=>refine' ZjH (vs:=[.str "both",.str "either",.str "unlike",.str "up",.str "down",.str "jump",.str "jumpif",.str "load",.str "save",.str "me",.str "from"]) ?h255;case h255=>rfl);case h269=>refine' Zaf ?h267;case h267=>refine' Zak ?h266;case h266=>refine' Zaw ?h263 ?h264 ?h265;(case h263=>exact Zk5);(case h264=>exact(Zaw Zk5 (pv 0) (pv 1)));case h265=>refine' ZaI ?h262;case h262=>refine' ZjH (vs:=[.str "sent",.str "word",.str "coin",.str "note",.str "call",.str "borrow",.str "look",.str "give",.str "fail"]) ?h261;case h261=>rfl
  left;walk_at"Q";refine⟨nofun,λp1 hp1=>?_⟩;walk_at"Q";refine⟨nofun,λp2 hp2=>?_⟩;walk_at"Q";refine Zlh (xs:=[.str "push",.str "drop",.str "copy",.str "swap",.str "add",.str "minus",.str "times",.str "over",.str "rest",.str "below",.str "same"]) (ys:=[.str "both",.str "either",.str "unlike",.str "up",.str "down",.str "jump",.str "jumpif",.str "load",.str "save",.str "me",.str "from"]) (by walk_at"hp") Zad nofun λp3 hp3=>?_;walk_at"Q";refine⟨nofun,λp4 hp4=>?_⟩;refine Zlh (xs:=[.str "push",.str "drop",.str "copy",.str "swap",.str "add",.str "minus",.str "times",.str "over",.str "rest",.str "below",.str "same"]++[.str "both",.str "either",.str "unlike",.str "up",.str "down",.str "jump",.str "jumpif",.str "load",.str "save",.str "me",.str "from"]) (ys:=[.str "sent",.str "word",.str "coin",.str "note",.str "call",.str "borrow",.str "look",.str "give",.str "fail"]) (by walk_at"hp") Zad nofun λp5 hp5=>?_;exact k p5 _ (((((Same.new hp1).newT hp2).newT hp3).newT hp4).newT hp5) Zad
def Zoo:mY Y 1 "_law_code" (ZwA K):=by
 refine Zax _ Y.c0 ?_ _ ZkN
 .symm;let⟨l,xs,rs,rfl,hl,hR,h60,hok,k⟩:=h;refine⟨_,(Zac (Zao (i:=1) ZkN.nd (ZaI Zab)) (Zac (ZbQ YV rfl (Zbc (pv 0)) (ZaU (i:=2) ZkN.nd) (Zaf (ZaG (Zas Zbf (Zau ZaN rfl Y.d Ys (Wa (pv 2))) Zag) (Zaf (Zay (Zbj Yy YI YH ZaT (pv 1) (Wa (Zaw Zdp (Zaw Zdp (Zaq ZaK (pv 2) Zag) Zav) (ZaJ Zb1 rfl Y.h YM (Wa (Zaq ZaK (pv 2) Zag)))))))) (Zaf (Zay (Zbj Yy YI YH ZaT (pv 1) (Wa (Zaq ZaK (pv 2) Zag)))))))) (Wb (Zbj YU Yag Yaf Zdq Zav (Wa (pv 1)))))),?_⟩;left;have big:(100:Nat)<=sizeLine:=nofun;have hx:xs.length=rs.length:=hR.1.symm;exists⟨nofun,λq hq=>?_⟩;have s0:=Same.new hq (o:=.lst []);have hq0:(upd H q (.lst [])) q=some (.lst (((rs.take 0).map rowS).map V.str)):=Zad;generalize upd H q _=H0 at s0 hq0;exists ZbT (ZaY ?_);ext;have hl0:=s0.seq hl;refine⟨l,rfl,⟨_,hl0⟩,ZbF (xs:=xs) (λi U' H'=>Same H H'/\H' q=some (.lst (((rs.take i).map rowS).map V.str))/\∃v,U'=[some (.ref l),some (.ref q),v]) ⟨s0,hq0,_,rfl⟩ (λi U' H' _ ⟨s,_⟩=>s.seq hl) ?_ ?_⟩
  .rintro i x U' H' hx' ⟨s1,hv,v,rfl⟩;let⟨hi,_⟩:=Yf.mp hx';have hir:i<rs.length:=();have hRi:=(hR.2 i rs[i] x (Yd hir) hx').keep s1.imm;have ok:=hok _ (Yad hir);have et:=Ym hir;have hlt:(((rs.take i).map rowS).map V.str).length<sizeLine:=by rw[Ya,Ya,YN];omega
   generalize rs[i]=r at hRi ok et;let⟨t,rfl,hT⟩:=hRi;let⟨w,o⟩:=r;let⟨wa,wb,wc,wd⟩:=Zpj w ok.1;have wl:w.length<=6:=by
    have:w.length=w.cps.toList.length:=by simp[Str.length]
    omega
   cases o with
   |none=>
    have hT:SqT K H' t [.str w]:=hT;have hl0:([V.str w]:XF).length=1:=rfl;walk_at"Z";refine⟨Za9 (Zal hv),?_⟩;walk_at"Z";refine ZaZ hv hlt ?_;walk_at"Z";refine⟨s1.wr hq,?_,_,rfl⟩;rw[Zad,et,YA,YA];have e:rowS (w,none)=w:=Zft w;rw[Ybl,e];rfl
   |some n=>
    have hT:SqT K H' t [.str w,.int n]:=hT;have hl0:([V.str w,.int n]:XF).length=2:=rfl;let⟨n0,n1⟩:=ok.2 n rfl;have hnl:=ZbX (m:=n.toNat) ();have en:Str.ofString (toString n)=mkS (sNum n.toNat):=ZbG n0;walk_at"Z";refine⟨Za9 (Zal hv),?_⟩;walk_at"Z";refine Zdr (by show w.length+1<=_;omega) ?_;walk_at"Z";refine Zbq (Za1 n0 ()) ?_;rw[en];have e:w++Str.ofString " "++mkS (sNum n.toNat)=rowS (w,some n):=by
     rw[Zfu,Zfu,ZaQ,ZaQ,Zl6,ZaQ,YQ];rfl
    refine Zdr (by rw[Zfu,Zbg,Zbg,Yc,Zl6,ZaQ];show w.cps.toList.length+1+_<=_;omega) ?_;rw[e];walk_at"Z";refine ZaZ hv hlt ?_;walk_at"Z";refine⟨s1.wr hq,?_,_,rfl⟩;rw[Zad,et,YA,YA];rfl
  .rintro U' H' ⟨s1,hv,v,rfl⟩;rw[hx,YK]at hv;exists Zds (Zal hv) (Zky (λu hu=>by let⟨r,hr,rfl⟩:=YF.mp hu;exact(Zkx (hok r hr)).2) (by rw[Ya];exact h60) nofun) ?_;rw[Zl7];exact k _ s1
def Zf2:mY Y 1 "_law_number" spLNum:=by
 refine Zax ["_law_text"] Y.c1 ?_
 .symm;let⟨n,rfl,hn,k⟩:=h;refine⟨_,(Zac (ZaG (PW.pt (Zd0 (ZbP (ZbN (Zau Zmu rfl Y.x YbB (Zaa (pv 0) (Wa (Zqa rfl Y.h YM)))))) (Zd0 (Zas ZfE (Zau Zqn rfl Y.d Ys (Wa (pv 0))) Zag) (ZcL (ZbP (ZbN (ZpS YU PySem.F.slot_str_isdigit PySem.F.type_str_isdigit ZoL (pv 0)))))))) (Wb (ZfB ZcN Zag)) Zat) (Wb (ZaJ Zqx rfl Y.D PyProof.Rows.boot_int (Wa (pv 0))))),?_⟩;left;obtain⟨m,rfl⟩:∃m:Nat,n=(m:Int):=⟨n.toNat,by have:=hn.1;omega⟩;have hm:m<18446744073709551616:=by have:=hn.2;omega
  have es:strI (m:Int)=mkS (sNum m):=ZbG (Yak m);have hl:=ZbX hm;have hl2:(mkS (sNum m)).length<=20:=by rw[Zbg];exact hl
  have hd:=Zr1 m;have ht:=PySem.intText_digits (x:=mkS (sNum m)) (λc hc=>Zih (by rwa[ZaQ]at hc)) (by rw[ZaQ];exact Zho m) ();have hv:PySem.NumText.digitsVal (mkS (sNum m)).cps.toList=m:=by rw[ZaQ];exact ZnC m
  rw[hv]at ht;rw[es];walk_at"Z";rw[hd,if_neg nofun];walk_at"Z";refine Zqy () ht ?_;exact k
def ZkO:mY Y 54 "_law_says" (spSays K qa cStamps cHouse cDesk):=by
 refine Zax ["_law_desk","_law_ask","_law_slot_here","_law_number_here"] Y.c2 ?_
 .symm;let⟨x,z,n,v,fe,y,rfl,hx,ha,hn,hy,hv,hb,k⟩:=h;refine⟨_,(Wb (ZbB Zbf (ZaB (Zbh Y) (hr.mono nofun) (pv 0) (Wa (Zaw Zdp (Zaw Zdp (pv 1) Zav) (ZaJ Zb1 rfl Y.h YM (Wa (pv 2)))))) (ZaJ Zb1 rfl Y.h YM (Wa (pv 3))))),?_⟩;left;have hz:=ha.word.2.2.1;have hz2:z.length<=40:=by rw[<- strL];exact hz
  have en:Str.ofString (toString (n:Int))=mkS (sNum n):=ZbG (Yak n);have hnl:=ZbX (m:=n) ();exists Zar hx.de rfl ?_;exists Zdr (by show z.length+1<=_;exact Yj (YcJ hz2) nofun) ?_;exists Zbq (Za1 () ()) ?_;rw[en];refine Zdr (by rw[Zfu,Zbg,Zbg,Yc,strL,strL];exact Yj (show _<=61 by show _+1+_<=_;omega) nofun) ?_;ext;rw[sp_row];refine Zr0 ha rfl hx hn hy (by rw[<- hv];exact hb) λH1 s1=>?_;rw[<- hv];exists Zbq (Za1 hb.1 (Yat hb.2 nofun)) ?_;ext;exact ZbA (by rw[YG (show strI v=Str.ofString (toString v)from rfl)]) (k H1 s1)
omit Y
def Zop(rs:XW):(rs.flatMap Zba).length=2*rs.length:=by
 induction rs with
 |nil=>rfl
 |cons r t ih=>rw[YaA,Yc,ih,Yi,show(Zba r).length=2 from rfl];omega
theorem Zr3:∀{rs:XW}{i:Nat}{r:Row},rs[i]?=some r->(rs.flatMap Zba)[2*i]?=(Zba r)[0]?/\(rs.flatMap Zba)[2*i+1]?=(Zba r)[1]?
 |[],_,_,h=>by cases h
 |a::t,0,r,h=>by cases h;exact⟨rfl,rfl⟩
 |a::t,i+1,r,h=>by
  have ih:=Zr3 (rs:=t) (i:=i) h;rw[YaA,show 2*(i+1)=2*i+2 from rfl,Yv (by show 2<=_;omega),Yv (by show 2<=_;omega)];exact ih
def Zt8:∀w∈WS,WS[firstAt WS w]?=some w:=by decide +kernel
def ZwB{K:Ydg}{H:Hp}{Q:VK}{p:XB}{x:Str}(h:SqL K H p (NMS.map V.str))(q:Q (.bl (inS x NMS)) H):rIn K false (.str x) (.ref p) H Q:=by
 refine⟨p,_,rfl,.inl h,rfl,?_,?_⟩
 .rw [YbN];exact Y7.mpr λ_ _=>rfl
 .rw [if_neg nofun,Zmt];exact q
inductive ZwC(K:Ydg)(cA cT cH cD:XB)(vs:XF)(H:Hp)(Q:VK)(E9:XK):Prop
 |mk(x:Dk)(n:Nat)(l:XB)(y:AcI):vs=[.ref x.d,.int (n:Int),.ref l]->DkAt K cA cT cH cD H x->n<16->x.A n=some y->SqL K H l (((x.S n).rows.flatMap Zba).map V.int)->(∀H',Same H H'->Q (.bl true) H')->ZwC K cA cT cH cD vs H Q E9
def ZdQ:FnScope ["_law_desk","_law_slot_here","_law_numbers","_law_words_here","_law_rows","_law_k","_law_word"] ["_law_desk","_law_slot_here","_law_numbers"] (Zae (top 180)):=by walk_at"c"
include Y
def Zr4:mY Y 54 "_law_coded" (ZwC K qa cStamps cHouse cDesk):=by
 refine Zax _ Y.c3 ?_ _ ZdQ
 .symm;let⟨x,n,l,y,rfl,hx,hn,hy,hl,k⟩:=h;refine'⟨_,?der,?_⟩;case der=>refine' Zac ?h285 ?h286;(case h285=>exact(Zao (i:=3) ZdQ.nd (Zu2 (Zr2 Y) (hr.mono nofun) rfl)));case h286=>refine' Zac ?h283 ?h284;(case h283=>exact(Zao (i:=4) ZdQ.nd (ZaI Zab)));case h284=>refine' Zac ?h281 ?h282;(case h281=>refine' ZbQ YV rfl ?h278 ?h279 ?h280;(case h278=>exact(Zhp rfl Y.k (Zaa Zag (Zaa (Zau ZaN rfl Y.d Ys (Wa (pv 2))) (Wa Zag)))));(case h279=>exact(ZaU (i:=5) ZdQ.nd));case h280=>refine' Zac ?h276 ?h277;(case h276=>exact(Zao (i:=6) ZdQ.nd (Zaq Zan (pv 3) (ZcE Zan (pv 2) (pv 5) (λ_ _=>rfl)))));case h277=>refine' Zaf ?h275;case h275=>refine' ZaG ?h272 ?h273 ?h274;(case h272=>exact(Zas ZcP (pv 6) (ZaI (ZjH (vs:=[.str "push",.str "copy",.str "swap",.str "jump",.str "jumpif"]) (by rfl))) rfl));(case h273=>exact(Zaf (Zay (Zbj Yy YI YH ZaT (pv 4) (Wa (ZaH (Zaa (pv 6) (Wa (Zaq Zan (pv 2) (Zaw Za0 (pv 5) Zag))))))))));case h274=>exact(Zaf (Zay (Zbj Yy YI YH ZaT (pv 4) (Wa (ZaH (Wa (pv 6))))))));case h282=>exact(Wb (ZbB Zbf (ZaB (Zbh Y) (hr.mono nofun) (pv 0) (Wa (Zaw Zdp Zav (ZaJ Zb1 rfl Y.h YM (Wa (pv 1)))))) (Zam (Zoo Y) (Wa (pv 4)))))
  left;let⟨hr1,hr2⟩:=Zc6 (hx.ho.ba.rw_ n y hn hy).1;obtain⟨rs,hrs⟩:∃rs,(x.S n).rows=rs:=⟨_,rfl⟩;rw[hrs]at hl hr1 hr2;have big:(200:Nat)<sizeLine:=nofun;have fl:((rs.flatMap Zba).map V.int).length=2*rs.length:=by rw[Ya];exact Zop rs
  exists⟨rfl,λp H1 s1 hp=>?_⟩;exists⟨show 0<=sizeLine by decide,λq hq=>?_⟩;have s2:=Same.new hq (o:=.lst []);have gq:(upd H1 q (.lst [])) q=some (.lst []):=Zad;generalize upd H1 q _=H2 at s2 gq |-;have hl2:=(s1.trans s2).seq hl;exists ZbT (ZjL ?_);ext;rw[fl];have et:twos 0 ((2*rs.length:Nat):Int)=rs.length:=by unfold twos;omega
  refine⟨_,_,rfl,⟨(),(),(),()⟩,?_⟩;rw[et];obtain⟨PV,hPV⟩:∃PV:Nat->L2.St->Hp->Prop,PV=λi U' H'=>Same H1 H'/\∃xs v1 v2,H' q=some (.lst xs)/\RowsAt K H' (rs.take i) xs/\U'=[some (.ref x.d),some (.int (n:Int)),some (.ref l),some (.ref p),some (.ref q),v1,v2]:=⟨_,rfl⟩;refine ZnW PV (by rw[hPV];exact⟨s2,[],_,_,gq,RowsAt.nil,rfl⟩) ?_ ?_
  .intro i U' H' hi hI;rw[hPV]at hI;let⟨sA,xs,v1,v2,eq,hR,rfl⟩:=hI;have hlA:=(s1.trans sA).seq hl;have hpA:=sA _ _ hp;have hri:rs[i]?=some rs[i]:=Yd hi;have hrr:=hr2 _ (Yad hi);have ok:=Zjx hr1 hrr;have et2:=Ym hi;let⟨f1,f2⟩:=Zr3 hri;generalize rs[i]=r at hri hrr ok et2 f1 f2;let⟨w,o⟩:=r;have hw:w∈WS:=ok.1;unfold Zbp at hrr;rw[Yq]at hrr;have hrr:=hrr.2;exists ZaA hlA (ZaL (i:=2*i) (v:=.int (firstAt WS w:Int)) (by rw[Yb,f1];rfl) ()) ?_;refine ZaA (Zal hpA) (ZaL (i:=firstAt WS w) (v:=.str w) (by rw[Yb,Zt8 w hw];rfl) rfl) ?_;exists⟨show 5<=sizeLine by decide,λm hm=>?_⟩;have s3:=Same.new hm (o:=.lst [.str "push",.str "copy",.str "swap",.str "jump",.str "jumpif"]);refine ZwB (Zal Zad) ?_;have eq3:=s3 _ _ eq;have hl3:=s3.seq hlA;have hR3:=hR.keep s3.imm;have hxl:xs.length=i:=by rw[<- hR.1,YN];omega
   generalize upd H' m _=H3 at s3 eq3 hl3 hR3 |-;have fin:∀t H4,Same H3 H4->H4 t=some (.tup (rowVs (w,o)))->RowsAt K (upd H4 q (.lst (xs++[.ref t]))) (rs.take (i+1)) (xs++[.ref t]):=λt H4 s4 ht=>by
    have im:SameI H4 (upd H4 q (.lst (xs++[.ref t]))):=SameI.upd (s4 _ _ eq3) Za4;rw[et2];exact(hR3.keep (s4.imm.trans im)).snoc ⟨t,rfl,im.tup (Zb0 ht)⟩
   cases hin:inS w NMS with
   |true=>
    rw[hin]at hrr;cases o with
    |none=>cases hrr
    |some v=>
     exists⟨Za9 (Zal eq3),?_⟩;exists ZaA hl3 (ZaL (i:=2*i+1) (v:=.int v) (by rw[Yb,f2];rfl) ()) ?_;refine⟨show 2<=sizeLine by decide,λt ht=>?_⟩;have s4:=Same.new ht (o:=.tup [.str w,.int v]);exists ZaZ (s4 _ _ eq3) () ?_;rw[hPV];exact⟨((sA.trans s3).trans s4).wr hq,_,_,_,Zad,fin t _ s4 Zad,rfl⟩
   |false=>
    rw[hin]at hrr;cases o with
    |some v=>cases hrr
    |none=>
     exists⟨Za9 (Zal eq3),?_⟩;exists⟨show 1<=sizeLine by decide,λt ht=>?_⟩;have s4:=Same.new ht (o:=.tup [.str w]);exists ZaZ (s4 _ _ eq3) () ?_;rw[hPV];exact⟨((sA.trans s3).trans s4).wr hq,_,_,_,Zad,fin t _ s4 Zad,rfl⟩
  .intro U' H' hI;rw[hPV]at hI;let⟨sA,xs,v1,v2,eq,hR,rfl⟩:=hI;rw[YK]at hR;have sB:=s1.trans sA;have en:Str.ofString (toString (n:Int))=mkS (sNum n):=ZbG (Yak n);have hnl:=ZbX (m:=n) ();exists Zar (sB _ _ hx.de) rfl ?_;exists Zbq (Za1 () ()) ?_;rw[en];refine Zdr (by rw[Zbg];exact Yj (show _<=61 by show 5+_<=_;omega) nofun) ?_;ext;rw[show Str.ofString "code "++mkS (sNum n)=rowT (("code":Xq).cps.toList::numsW [n])by rw[Zfu,ZaQ];rfl];refine ZdP .code rfl (hx.same sB) (Ye.mpr rfl) (λm hm=>by rw[Ye.mp hm];omega) λa H4 s4 ha=>⟨x.i,x.A,x.S,x.tk,x.P,a,n,y,rfl,(hx.ho.same sB).same s4,ha,hn,hy,λH5 s5=>?_⟩;rw[hrs];have s6:=s4.trans s5;exists⟨q,xs,rs,rfl,Zal (s6 _ _ eq),hR.keep s6.imm,hr1,λr hr=>Zjx hr1 (hr2 r hr),λH6 s7=>?_⟩;ext;exact ZbA (by rw[YG rfl]) (k H6 ((sB.trans s6).trans s7))
omit Y
theorem Zr5{f:Xf}:∀{L:XD}{i:Nat}{p:Int},L[i]?=some p->(L.flatMap λi=>[i,f i])[2*i]?=some p/\(L.flatMap λi=>[i,f i])[2*i+1]?=some (f p)
 |[],_,_,h=>by cases h
 |a::t,0,r,h=>by cases h;exact⟨rfl,rfl⟩
 |a::t,i+1,r,h=>by
  have ih:=Zr5 (f:=f) (L:=t) (i:=i) h;rw[YaA,show 2*(i+1)=2*i+2 from rfl,Yv (by show 2<=_;omega),Yv (by show 2<=_;omega)];exact ih
def Zoq(f:Xf)(L:XD):(L.flatMap λi=>[i,f i]).length=2*L.length:=by
 induction L with
 |nil=>rfl
 |cons r t ih=>rw[YaA,Yc,ih,Yi (as:=t),show[r,f r].length=2 from rfl];omega
def StoreAt.keys{H:Hp}{d:XB}{f:Xf}{m:Nat}(h:StoreAt H d f m):∃(kvs:XU)(ks:XD),H d=some (.dK kvs)/\(kvs.map λp=>kV p.1)=ks.map V.int/\ks.length<=m/\∀k∈ks,f k≠0:=by
 let⟨kvs,e1,e2,e3,e4,e5⟩:=h;let⟨ks,hk⟩:=Zg3 kvs e4;have hl:=Y3 List.length hk;rw[Ya,Ya]at hl;refine⟨kvs,ks,e1,?_,(),λk hk'=>?_⟩
 .have:=Y3 (List.map kV) hk;rw[Yao,Yao]at this;exact this
 have hm:(Sum.inl k:Key)∈kvs.map (·.1):=by rw[hk];exact YF.mpr ⟨k,hk',rfl⟩
 cases e:valV kvs (Sum.inl k:Key)with
 |none=>exact absurd hm (ZgT e)
 |some v=>
  let⟨j,n,z,hn0⟩:=e4 _ (Zj5 e);cases z;have:=e5 k;rw[e]at this;rw[<- V.int.inj (show V.int n=V.int (f k)from this)];exact hn0
noncomputable def upTo(L:XD)(f:Xf)(i:Nat):Int->Int:=λp=>if p∈L.take i then f p else 0
def Zr6{L:XD}{f:Xf}{i:Nat}{p:Int}(h:L[i]?=some p):putFn (upTo L f i) p (f p)=upTo L f (i+1):=by
 let⟨hi,e⟩:=Yf.mp h;funext j;unfold putFn upTo;rw[Ym hi,e];by_cases z:j=p
 .subst z;rw[if_pos rfl,if_pos (by simp)]
 .rw [if_neg z];simp[z]
inductive Zt9(K:Ydg)(cA cT cH cD:XB)(vs:XF)(H:Hp)(Q:VK)(E9:XK):Prop
 |mk(x:Dk)(n:Nat)(l:XB)(y:AcI)(L:XD):vs=[.ref x.d,.int (n:Int),.ref l]->DkAt K cA cT cH cD H x->n<16->x.A n=some y->Supp (x.S n).store L->SqL K H l ((L.flatMap λi=>[i,(x.S n).store i]).map V.int)->(∀H',Same H H'->Q (.bl true) H')->Zt9 K cA cT cH cD vs H Q E9
def Zcd:FnScope ["_law_desk","_law_slot_here","_law_numbers","_law_store","_law_last","_law_k","_law_place_here"] ["_law_desk","_law_slot_here","_law_numbers"] (Zae (top 181)):=by walk_at"c"
include Y
local macro_rules|`(tactic|walk_at"f0")=>`(tactic|refine fs0 λhl=>?_)
local macro_rules|`(tactic|walk_at"fc")=>`(tactic|refine jc (by assumption) (by decide) (by decide) λhl=>?_)
local macro_rules|`(tactic|walk_at"fv")=>`(tactic|(refine ZoX ?_;(ext);refine jvI (by assumption) (by decide) (by omega) (by omega) λhl=>?_))
local macro_rules|`(tactic|walk_at"fz")=>`(tactic|(refine ZoX ?_;(ext);refine jvS (by assumption) (by decide) (by assumption) λhl=>?_))
local macro_rules|`(tactic|walk_at"fe")=>`(tactic|(refine j0 (by assumption) (by decide) ?_;(ext)))
def Zpq:mY Y 54 "_law_stored" (Zt9 K qa cStamps cHouse cDesk):=by
 refine Zax _ Y.c4 ?_ _ Zcd
 .symm;let⟨x,n,l,y,L,rfl,hx,hn,hy,hL,hl,k⟩:=h;refine'⟨_,?der,?_⟩;case der=>refine' Zac ?h313 ?h314;(case h313=>exact(Zao (i:=3) Zcd.nd Znw));case h314=>refine' Zac ?h311 ?h312;(case h311=>exact(Zao (i:=4) Zcd.nd (ZfB ZcN Zag)));case h312=>refine' Zac ?h309 ?h310;(case h309=>exact(ZbQ YV rfl (Zhp rfl Y.k (Zaa Zag (Zaa (Zau ZaN rfl Y.d Ys (Wa (pv 2))) (Wa Zag)))) (ZaU (i:=5) Zcd.nd) (Zac (ZaG (PW.pt (Zd0 (Zas ZeQ (Zaq Zan (pv 2) (pv 5)) (pv 4)) (ZcL (Zas Zbf (Zaq Zan (pv 2) (Zaw Za0 (pv 5) Zag)) Zag)))) (Wb ZcD) Zat) (Zac (Zao (i:=4) Zcd.nd (Zaq Zan (pv 2) (pv 5))) (Zaf (Zp0 (Zp2 hr) (pv 3) (pv 4) (Zaq Zan (pv 2) (Zaw Za0 (pv 5) Zag)) rfl))))));case h310=>refine' Zac ?h307 ?h308;(case h307=>refine' ZbQ ?wa ?wb ?h304 ?h305 ?h306 ?wf;(case wa=>exact YV);(case wb=>rfl);(case wf=>intro _;rfl);(case h304=>refine' Zbc ?h303;case h303=>refine' Zaw ?h300 ?h301 ?h302;(case h300=>exact Zk5);(case h301=>refine' ZaI ?h299;case h299=>refine' Zaa ?h297 ?h298;(case h297=>exact Zag);case h298=>refine' Zaa ?h295 ?h296;(case h295=>exact Zag);case h296=>refine' Zaa ?h293 ?h294;(case h293=>exact Zag);case h294=>refine' Zaa ?h291 ?h292;(case h291=>exact Zag);case h292=>refine' Zaa ?h289 ?h290;(case h289=>exact Zag);case h290=>refine' Zaa ?h287 ?h288;(case h287=>exact(Zaw ZeO (Zaw ZeP Zag Zag) Zag));case h288=>exact Zab);case h302=>exact(ZaJ (ZsL rfl) rfl Y.m YaQ (Wa (pv 3))));(case h305=>exact(ZaU (i:=6) Zcd.nd));case h306=>exact(Zaf (ZaG (Zas ZfC (ZaB (Zbh Y) (hr.mono nofun) (pv 0) (Wa (ZqT (pj_c (pj_v (pv 1) (pj_c (pj_v (pv 6) Zls))))))) (ZaJ Zb1 rfl Y.h YM (Wa (Znx (Zp2 hr) (pv 3) (pv 6) Zag ⟨rfl,rfl,rfl,rfl⟩)))) (Wb ZcD) Zat)));case h308=>exact(Wb ZcD)
  left;have big:(200:Nat)<sizeLine:=nofun;have hps:=hx.ps;have hso:=hx.ho.ba.so.st n;rw[hps]at hso;have hin:∀p∈L,In64 p:=λp hp=>Zom ((hso p).2 ((hL.2 p).mp hp));have hL5:L.length<=ps5.length:=Zl3 hL λq hq=>(hso q).2 hq;have hL5:L.length<=5:=hL5;obtain⟨fs,hfs⟩:∃fs,(x.S n).store=fs:=⟨_,rfl⟩;rw[hfs]at hl hL;have fl:((L.flatMap λi=>[i,fs i]).map V.int).length=2*L.length:=by rw[Ya];exact Zoq fs L
  ext;rename_i d hd;have s1:=Same.new hd (o:=.dK []);have st0:StoreAt (upd H d (.dK [])) d (upTo L fs 0) 0:=⟨[],Zad,Yk _,.nil,(λ_ z=>nomatch z),λi=>by unfold upTo;rw[YbP,if_neg (by simp)];rfl⟩;generalize upd H d _=H1 at s1 st0 |-;have hl1:=s1.seq hl;exists ZbT (ZjL ?_);ext;rw[fl];have et:twos 0 ((2*L.length:Nat):Int)=L.length:=by unfold twos;omega
  refine⟨_,_,rfl,⟨(),(),(),()⟩,?_⟩;rw[et];obtain⟨PV,hPV⟩:∃PV:Nat->L2.St->Hp->Prop,PV=λi U' H'=>Same H H'/\∃(z:Int)(v1 v2:Option V),StoreAt H' d (upTo L fs i) i/\(∀p,L[i]?=some p->z<p)/\U'=[some (.ref x.d),some (.int (n:Int)),some (.ref l),some (.ref d),some (.int z),v1,v2]:=⟨_,rfl⟩;refine ZnW PV (by rw[hPV];exact⟨s1,-1,_,_,st0,λp hp=>by have:=(hin p (Yn hp)).1;omega,rfl⟩) ?_ ?_
  .intro i U' H' hi hI;rw[hPV]at hI;let⟨sA,z,v1,v2,st,hz,rfl⟩:=hI;have hlA:=sA.seq hl;obtain⟨p,hp⟩:∃p,L[i]?=some p:=⟨_,Yd hi⟩;have hzp:=hz p hp;have hp0:=(hL.2 p).mp (Yn hp);let⟨f1,f2⟩:=Zr5 (f:=fs) hp;exists ZaA hlA (ZaL (i:=2*i) (v:=.int p) (by rw[Yb,f1];rfl) ()) ?_;walk_at"Z";refine ZaA hlA (ZaL (i:=2*i+1) (v:=.int (fs p)) (by rw[Yb,f2];rfl) ()) ?_;walk_at"Z";refine ZaA hlA (ZaL (i:=2*i) (v:=.int p) (by rw[Yb,f1];rfl) ()) ?_;exists ZaA hlA (ZaL (i:=2*i+1) (v:=.int (fs p)) (by rw[Yb,f2];rfl) ()) ?_;ext;let⟨kvs,hk,hkl,hkn,hkz,hkf⟩:=st;refine ZnG hk () ?_;rw[hPV];refine⟨sA.wr hd,p,_,_,?_,λp2 h2=>?_,rfl⟩
   .rw [<- Zr6 hp];exact StoreAt.put hkl hkn hkz hkf p (fs p) hp0
   .obtain ⟨hi2,e2⟩:=Yf.mp h2;let⟨hi1,e1⟩:=Yf.mp hp;rw[<- e1,<- e2];exact YbQ.mp hL.1 _ _ hi1 hi2 (YaC i)
  .intro U' H' hI;rw[hPV]at hI;let⟨sA,z,v1,v2,st,hz,rfl⟩:=hI;have hup:∀p,upTo L fs L.length p=fs p:=λp=>by
    unfold upTo;rw[YK];by_cases h:p∈L
    .rw [if_pos h]
    .rw [if_neg h];exact(YbR λz=>h ((hL.2 p).mpr (YR z)))
   let⟨kvs,ks,hk,hks,hkl,hkn⟩:=StoreAt.keys st;exists ZbT (ZaY ?_);ext;rw[p64N];refine⟨show 6<=sizeLine by decide,λm hm=>?_⟩;have s2:=Same.new hm (o:=.lst [.int 0,.int 1,.int 2,.int 7,.int 8,.int (18446744073709551616-1)]);have gm:(upd H' m (.lst [.int 0,.int 1,.int 2,.int 7,.int 8,.int (18446744073709551616-1)])) m=some (.lst (([0,1,2,7,8,18446744073709551616-1]:XD).map V.int)):=Zad;generalize upd H' m _=H2 at s2 gm |-;have hM:∀p∈([0,1,2,7,8,18446744073709551616-1]:XD),In64 p:=by
    intro p hp;simp only[Yh,YL,Yah]at hp;rcases hp with rfl|rfl|rfl|rfl|rfl|rfl<;>exact⟨nofun,nofun⟩
   have hMl:([0,1,2,7,8,18446744073709551616-1]:XD).length=6:=rfl;generalize ([0,1,2,7,8,18446744073709551616-1]:XD)=M at gm hM hMl;have hk2:=s2 _ _ hk;exists ZsM hk2 λq hq=>?_;rw[hks];have s3:=Same.new hq (o:=.lst (ks.map V.int));have gq:(upd H2 q (.lst (ks.map V.int))) q=some (.lst (ks.map V.int)):=Zad;have gm3:=s3 _ _ gm;have hk3:=s3 _ _ hk2;generalize upd H2 q _=H3 at s3 gq gm3 hk3 |-;refine Zlh gm3 gq (by rw[Ya,Ya];omega) λc hc=>?_;have s4:=Same.new hc (o:=.lst (M.map V.int++ks.map V.int));have gc:(upd H3 c (.lst (M.map V.int++ks.map V.int))) c=some (.lst ((M++ks).map V.int)):=by rw[Zad,YA]
   have hk4:=s4 _ _ hk3;generalize upd H3 c _=H4 at s4 gc hk4 |-;have sH:=((sA.trans s2).trans s3).trans s4;have hMk:∀p∈M++ks,In64 p:=λp hp=>by
    rcases Yw.mp hp with h|h
    .exact hM p h
    .have:=hkn p h;rw[hup]at this;exact hin p ((hL.2 p).mpr this)
   refine⟨c,rfl,⟨_,Zal gc⟩,ZbF (xs:=(M++ks).map V.int) (λi U' H5=>Same H4 H5/\∃v,U'=[some (.ref x.d),some (.int (n:Int)),some (.ref l),some (.ref d),some (.int z),v1,v]) ⟨Same.refl _,_,rfl⟩ (λi U' H' _ ⟨s,_⟩=>Zal (s _ _ gc)) ?_ ?_⟩
   .rintro i u U' H5 hxi ⟨s5,v,rfl⟩;rw[Yb]at hxi;let⟨p,hp,rfl⟩:=Yu.mp hxi;let⟨p0,p1⟩:=hMk p (Yn hp);have hx5:=hx.same (sH.trans s5);have hk5:=s5 _ _ hk4;exists Zar hx5.de rfl ?_;ext;walk_at"f0";walk_at"fc";walk_at"fv";walk_at"fc";walk_at"fv";walk_at"fe";obtain⟨pn,rfl⟩:∃pn:Nat,p=(pn:Int):=⟨p.toNat,()⟩;rw[show([]++(Str.ofString "load ").cps.toList++sNum (n:Int).toNat++(Str.ofString " ").cps.toList++sNum (pn:Int).toNat)=glueL [32] (("load":Xq).cps.toList::numsW [n,pn])by rw[Yt,Yt];rfl];refine ZdP (ms:=[n,pn]) .load rfl hx5 (Ye.mpr rfl) (λm hm=>?_) λa H6 s6 ha=>⟨x.i,x.A,x.S,x.tk,x.P,a,n,pn,y,rfl,hx5.ho.same s6,ha,hn,hy,?_⟩
    .simp only[Yh,YL,Yah]at hm;rcases hm with rfl|rfl<;>omega
    have hk6:=s6 _ _ hk5;let⟨kv2,hk',_,_,_,hkf⟩:=st;rw[hk]at hk';cases hk';rw[hfs];have hff:=hkf (pn:Int);rw[hup]at hff;have hf64:=(hso (pn:Int)).1;rw[hfs]at hf64;exists⟨d,rfl,Zvi hk6,?_⟩;exists⟨_,DGet.k (k:=Sum.inl (pn:Int)) hk6,?_⟩;rw[hff];exists Zbq (Za1 hf64.1 (Yat hf64.2 nofun)) ?_;walk_at"K'"
    .exact absurd rfl ‹_›
    .exact ⟨s5.trans s6,_,rfl⟩
   .rintro U' H5 ⟨s5,v,rfl⟩;ext;exact k _ (sH.trans s5)
omit Y
inductive Zr7(K:Ydg)(cA cT cH cD:XB)(vs:XF)(H:Hp)(Q:VK)(E9:XK):Prop
 |mk(x:Dk)(n:Nat)(l:XB)(y:AcI):vs=[.ref x.d,.int (n:Int),.ref l]->DkAt K cA cT cH cD H x->n<16->x.A n=some y->SqL K H l ((plainS (x.S n)).map V.int)->(∀H',Same H H'->Q (.bl true) H')->Zr7 K cA cT cH cD vs H Q E9
structure PlParts(ns:XD)(s:AcS)(a b:XD)(L:XD):Prop where
 ln:ns.length=5+a.length+b.length
 h0:ns[0]?=some s.count
 h1:ns[1]?=some s.coin
 h2:ns[2]?=some s.purse
 h3:ns[3]?=some (s.rows.length:Int)
 al:a.length=2*s.rows.length
 ae:a=s.rows.flatMap Zba
 hb:ns[4+a.length]?=some (L.length:Int)
 bl:b.length=2*L.length
 be:b=L.flatMap λi=>[i,s.store i]
 da:(ns.drop 4).take a.length=a
 db:ns.drop (5+a.length)=b
def Znl(s:AcS)(L:XD):PlParts (plainOf s.count s.coin s.purse s.rows s.store L) s (s.rows.flatMap Zba) (L.flatMap λi=>[i,s.store i]) L:=by
 have e:plainOf s.count s.coin s.purse s.rows s.store L=s.count::s.coin::s.purse::(s.rows.length:Int)::(s.rows.flatMap Zba++(L.length:Int)::(L.flatMap λi=>[i,s.store i])):=by
  unfold plainOf;simp only[Yb7,YaH,YQ]
 rw[e];generalize hA:s.rows.flatMap Zba=a;generalize hB:(L.flatMap λi=>[i,s.store i])=b;refine⟨by simp only[Yi,Yc];omega,rfl,rfl,rfl,rfl,by rw[<- hA];exact Zop _,hA.symm,?_,by rw[<- hB];exact Zoq _ _,hB.symm,?_,?_⟩
 .rw [show 4+a.length=a.length+4 by omega];show(a++(L.length:Int)::b)[a.length]?=_;rw[Yv (Yk _),Yam];rfl
 .show (a++(L.length:Int)::b).take a.length=a;rw[Yc6]
 .rw [show 5+a.length=(a.length+1)+4 by omega];show(a++(L.length:Int)::b).drop (a.length+1)=b;rw[List.drop_append,List.drop_of_length_le (),YaH,show a.length+1-a.length=1 by omega];rfl
def Zgx:FnScope ["_law_desk","_law_slot_here","_law_numbers","_law_behind"] ["_law_desk","_law_slot_here","_law_numbers"] (Zae (top 182)):=by walk_at"c"
include Y
def Zmh:mY Y 55 "_law_says_all" (Zr7 K qa cStamps cHouse cDesk):=by
 refine Zax _ Y.c5 ?_ _ Zgx
 .symm;let⟨x,n,l,y,rfl,hx,hn,hy,hl,k⟩:=h;refine⟨_,(Zac (ZaG (PW.pt (Zd0 (Zas ZfD (Zau ZaN rfl Y.d Ys (Wa (pv 2))) Zag) (ZcL (Zas ZfD (Zau ZaN rfl Y.d Ys (Wa (pv 2))) (Zaw Za0 Zag (Zaw Zda Zag (Zaq Zan (pv 2) Zag))))))) (Wb ZcD) Zat) (Zac (Zao (i:=3) Zgx.nd (Zaw Za0 Zag (Zaw Zda Zag (Zaq Zan (pv 2) Zag)))) (Zac (ZaG (Zas ZfC (Zau ZaN rfl Y.d Ys (Wa (pv 2))) (Zaw Za0 (Zaw Za0 (pv 3) Zag) (Zaw Zda Zag (Zaq Zan (pv 2) (pv 3))))) (Wb ZcD) Zat) (Zac (ZaG (PW.pt (Zd0 (ZbP (ZbN (Zam (ZkO Y) (Zaa (pv 0) (Zaa Zav (Zaa (pv 1) (Wa (Zaq Zan (pv 2) Zag)))))))) (ZcL (ZbP (ZbN (Zam (ZkO Y) (Zaa (pv 0) (Zaa Zav (Zaa (pv 1) (Wa (Zaq Zan (pv 2) Zag))))))))))) (Wb ZcD) Zat) (Zac (ZaG (PW.pt (Zd0 (ZbP (ZbN (Zam (ZkO Y) (Zaa (pv 0) (Zaa Zav (Zaa (pv 1) (Wa (Zaq Zan (pv 2) Zag)))))))) (ZcL (ZbP (ZbN (Zam (Zr4 Y) (Zaa (pv 0) (Zaa (pv 1) (Wa (ZbS ZcF (pv 2) (ZbR Zag) (ZbR (pv 3)))))))))))) (Wb ZcD) Zat) (Wb (Zam (Zpq Y) (Zaa (pv 0) (Zaa (pv 1) (Wa (ZbS ZcF (pv 2) (ZbR (Zaw Za0 (pv 3) Zag)) Zdl))))))))))),?_⟩;left;obtain⟨L,hL,hpl⟩:∃L,Supp (x.S n).store L/\plainS (x.S n)=plainOf (x.S n).count (x.S n).coin (x.S n).purse (x.S n).rows (x.S n).store L:=by
   have hso:=hx.ho.ba.so.st n;rw[hx.ps]at hso;have hL:Supp (x.S n).store (([0,1,2,7,18446744073709551615]:XD).filter λq=>decide ((x.S n).store q≠0)):=by
    refine⟨List.Pairwise.filter _ nofun,λq=>?_⟩;rw[Ybk,Yr];refine⟨λh=>h.2,λh=>⟨?_,h⟩⟩;have:=(hso q).2 h;simp only[ps5,Yh,YL,Yah]at this |-;omega
   exact⟨_,hL,by unfold plainS;rw[Zg5 hL]⟩
  rw[hpl]at hl;have pp:=Znl (x.S n) L;generalize plainOf _ _ _ _ _ _=ns at hl pp;generalize hA:(x.S n).rows.flatMap Zba=a at pp;generalize hB:(L.flatMap λi=>[i,(x.S n).store i])=b at pp;let⟨ln,h0,h1,h2,h3,al,_,hb,bl,_,da,db⟩:=pp;have hll:(ns.map V.int).length=ns.length:=Ya ..;have at_:∀{j:Nat}{v k:Int},ns[j]?=some v->k=(j:Int)->atI (ns.map V.int) k=some (.int v):=λh e=>ZaL (by rw[Yb,h];rfl) e;have hc:=hx.pb n hn;have hco:=hx.ho.ba.so.coin hn;walk_at"Z";refine ZaA hl (at_ h3 rfl) ?_;walk_at"Z";refine ZaA hl (at_ h3 rfl) ?_;walk_at"Z";refine ZaA hl (at_ hb ()) ?_;walk_at"Z";refine ZaA hl (at_ h0 rfl) ?_;walk_at"Z";refine⟨x,"count",n,_,AcS.count,y,rfl,hx,.count,hn,hy,rfl,hc.2,λH1 s1=>?_⟩;have hl1:=s1.seq hl;walk_at"Z";refine ZaA hl1 (at_ h1 rfl) ?_;walk_at"Z";refine⟨x,"coin",n,_,AcS.coin,y,rfl,hx.same s1,.coin,hn,hy,rfl,hco,λH2 s2=>?_⟩;have hl2:=s2.seq hl1;walk_at"Z";refine ZaA hl2 (at_ h2 rfl) ?_;walk_at"Z";refine⟨x,"purse",n,_,AcS.purse,y,rfl,(hx.same s1).same s2,.purse,hn,hy,rfl,hc.1,λH3 s3=>?_⟩;have hl3:=s3.seq hl2;have sA:=(s1.trans s2).trans s3;walk_at"Z";intro p hp;have e4:cutV (ns.map V.int) (some 4) (some (4+2*((x.S n).rows.length:Int)))=a.map V.int:=by
   rw[show(4+2*((x.S n).rows.length:Int))=((4+a.length:Nat):Int)by omega];refine(ZoM (m:=4)).trans ?_;rw[<- Yb2,<- Yb1,show 4+a.length-4=a.length by omega,da]
  rw[e4];have s4:=Same.new hp (o:=.lst (a.map V.int));have gp:SqL K (upd H3 p (.lst (a.map V.int))) p (a.map V.int):=Zal Zad;generalize upd H3 p _=H4 at s4 gp |-;have hx4:=hx.same (sA.trans s4);walk_at"Z";refine⟨x,n,p,y,rfl,hx4,hn,hy,by rw[hA];exact gp,λH5 s5=>?_⟩;have hl5:=s5.seq (s4.seq hl3);walk_at"Z";intro q hq;have e5:cutV (ns.map V.int) (some (4+2*((x.S n).rows.length:Int)+1)) none=b.map V.int:=by
   rw[show(4+2*((x.S n).rows.length:Int)+1)=((5+a.length:Nat):Int)by omega,ZeW,<- Yb2,db]
  rw[e5];have s6:=Same.new hq (o:=.lst (b.map V.int));have gq:SqL K (upd H5 q (.lst (b.map V.int))) q (b.map V.int):=Zal Zad;generalize upd H5 q _=H6 at s6 gq |-;walk_at"Z";refine⟨x,n,q,y,L,rfl,hx4.same (s5.trans s6),hn,hy,hL,by rw[hB];exact gq,λH7 s7=>?_⟩;walk_at"Z";exact k _ ((sA.trans s4).trans ((s5.trans s6).trans s7))
omit Y
noncomputable def pcs(e:XJ):Row->List (List Nat)
 |(w,none)=>[w.cps.toList++e]
 |(w,some n)=>[w.cps.toList,sNum n.toNat++e]
noncomputable def codeP:List Row->List (List Nat)
 |[]=>[[]]
 |[r]=>pcs [] r
 |r::q::s=>pcs [59] r++codeP (q::s)
def ZkP:∀rs,codeP rs≠[]
 |[]=>by simp[codeP]
 |[(w,none)]=>by simp[codeP,pcs]
 |[(w,some n)]=>by simp[codeP,pcs]
 |(w,none)::q::s=>by simp[codeP,pcs]
 |(w,some n)::q::s=>by simp[codeP,pcs]
theorem Ziw:∀rs,glueL [32] (codeP rs)=glueL [59,32] (rs.map rowL)
 |[]=>rfl
 |[(w,none)]=>by show w.cps.toList++[]=w.cps.toList;rw[YZ]
 |[(w,some n)]=>by show w.cps.toList++[32]++(sNum n.toNat++[])=w.cps.toList++32::sNum n.toNat;simp
 |(w,none)::q::s=>by
  have ih:=Ziw (q::s);show glueL [32] ((w.cps.toList++[59])::codeP (q::s))=w.cps.toList++[59,32]++glueL [59,32] ((q::s).map rowL);rw[Zcs (ZkP _),ih];simp
 |(w,some n)::q::s=>by
  have ih:=Ziw (q::s);show glueL [32] (w.cps.toList::(sNum n.toNat++[59])::codeP (q::s))=(w.cps.toList++32::sNum n.toNat)++[59,32]++glueL [59,32] ((q::s).map rowL);rw[Zcs (by simp),Zcs (ZkP _),ih];simp
def ZuI{r:Row}(h:okRow r){e:XJ}(he:e=[]\/e=[59]):(∀p∈pcs e r,32∉p/\p.length<=40)/\(pcs e r).length<=2:=by
 let⟨w,o⟩:=r;let⟨a,b,c,d⟩:=Zpj w h.1;have he2:32∉e/\e.length<=1:=by rcases he with rfl|rfl<;>decide
 have key:∀x:List Nat,32∉x->x.length<=20->32∉x++e/\(x++e).length<=40:=λx h1 h2=>⟨λz=>(Yw.mp z).elim h1 he2.1,by rw[Yc];have:=he2.2;omega⟩;cases o with
 |none=>
  refine⟨λp hp=>?_,by show 1<=2;decide⟩;rw[Ye.mp (show p∈[w.cps.toList++e]from hp)];exact key _ b ()
 |some n=>
  let⟨n0,n1⟩:=h.2 n rfl;refine⟨λp hp=>?_,Yk 2⟩;rcases Yh.mp (show p∈[w.cps.toList,sNum n.toNat++e]from hp)with rfl|hp
  .exact ⟨b,()⟩
  .rw [Ye.mp hp];exact key _ ZkB (ZbX ())
theorem ZfA:∀rs:List Row,(∀r∈rs,okRow r)->(∀p∈codeP rs,32∉p/\p.length<=40)/\(codeP rs).length<=1+2*rs.length
 |[],_=>⟨λp hp=>by rw[Ye.mp (show p∈[[]]from hp)];exact⟨by simp,nofun⟩,nofun⟩
 |[r],h=>by
  have:=ZuI (h r (by simp)) (e:=[]) (.inl rfl);exact⟨this.1,Yj this.2 (by show 2<=3;decide)⟩
 |r::q::s,h=>by
  have h1:=ZuI (h r (by simp)) (e:=[59]) (.inr rfl);have h2:=ZfA (q::s) λr' hr'=>h r' (Yo _ hr');refine⟨λp hp=>?_,?_⟩
  .rcases Yw.mp (show p∈pcs [59] r++codeP (q::s)from hp)with z|z
   .exact h1.1 p z
   .exact h2.1 p z
  .show (pcs [59] r++codeP (q::s)).length<=_;rw[Yc,Yi];omega
def codeW{rs:XW}(h:∀r∈rs,okRow r)(hl:rs.length<=60):OkW (codeP rs):=⟨λp hp=>((ZfA rs h).1 p hp).1,λp hp=>((ZfA rs h).1 p hp).2,by have:=(ZfA rs h).2;omega⟩
def codeT(rs:XW):rowT (codeP rs)=textS rs:=by unfold rowT textS;rw[Ziw]
def OkW.adm{n c p:Nat}{cs:XV}(hn:n<18446744073709551616)(hc:c<18446744073709551616)(hp:p<18446744073709551616)(h:OkW cs)(hl:cs.length<=150):OkW (admitL::admW n c p cs):=by
 have h3:=((h.num hp ()).num hc (by rw[Yi];omega)).num hn (by rw[Yi,Yi];omega);refine⟨λq hq=>?_,λq hq=>?_,by show cs.length+1+1+1+1<=200;omega⟩
 .rcases Yh.mp hq with rfl|hq
  .decide
  .exact h3.no q hq
 .rcases Yh.mp hq with rfl|hq
  .decide
  .exact h3.ln q hq
def Zua{n c p:Nat}{cs:XV}(h:cs≠[]):rowT (admitL::admW n c p [])++Str.ofString " "++rowT cs=rowT (admitL::admW n c p cs):=by
 unfold rowT;rw[Zl6,Zii,Zii];congr 1;unfold admW;rw[Zcs (ps:=sNum n::sNum c::sNum p::cs) (by simp),Zcs (ps:=sNum c::sNum p::cs) (by simp),Zcs (ps:=sNum p::cs) (by simp),Zcs h];show(admitL++[32]++(sNum n++[32]++(sNum c++[32]++sNum p)))++[32]++glueL [32] cs=_;simp
noncomputable def totP(S:XL):Int:=((List.range 16).map λj=>(S j).purse).sum
def Ex.add{A:XC}{S:XL}{P:XQ}{n:Nat}{x:AcI}{s:AcS}(e:Ex A S P):Ex (setO A n x) (setS S n s) (setP P n (plainS s)):=λj hj=>by
 have:=e j hj;unfold plainN at this |-;unfold setP setO setS;by_cases z:j=n
 .rw [if_pos z,if_pos z,if_pos z]
 .rw [if_neg z,if_neg z,if_neg z];exact this
noncomputable def zS:Nat->AcS:=λ_=>⟨0,0,0,[],λ_=>0⟩
structure Sm(x:Dk)(ss:XJ)(C W:Int)(m:Nat):Prop where
 mm:∀j,(∃y,x.A j=some y)↔j∈ss
 pu:∀j∈ss,2000-199*(m:Int)<=(x.S j).purse/\(x.S j).purse<=4611686018427387904
 ct:∀j,0<=(x.S j).count/\(x.S j).count<=m
 sc:totalC (List.range 16) x.S=C
 sp:totP x.S+x.tk=W
 tk:0<=x.tk/\x.tk<=199*(m:Int)
def Sm.dk{K:Ydg}{cA cT cH cD:XB}{H:Hp}{x:Dk}{ss:XJ}{C W:Int}{m:Nat}(h:Sm x ss C W m)(hm:m<=4)(de:Zmd cD H x.d x.dx x.i.h)(ho:HoAt K cA cT cH H x.i x.A x.S x.tk x.P)(ex:Ex x.A x.S x.P)(nd:NotHo x.i x.A x.d)(ps:x.i.ps=ps5):DkAt K cA cT cH cD H x:=by
 have h1:=h.tk;refine⟨de,ho,ex,⟨h1.1,()⟩,λn hn=>⟨?_,⟨(h.ct n).1,by have:=(h.ct n).2;omega⟩⟩,nd,ps⟩;cases e:x.A n with
 |none=>rw[(ho.ba.no n hn e).2];exact⟨nofun,nofun⟩
 |some y=>
  have:=h.pu n ((h.mm n).mp ⟨y,e⟩);exact⟨(),()⟩
def Sm.up{x:Dk}{ss:XJ}{C W:Int}{m k:Nat}(h:Sm x ss C W m)(hk:m<=k):Sm x ss C W k:=
 ⟨h.mm,λj hj=>⟨by have:=(h.pu j hj).1;omega,(h.pu j hj).2⟩,λj=>⟨(h.ct j).1,by have:=(h.ct j).2;omega⟩,h.sc,h.sp,h.tk.1,by have:=h.tk.2;omega⟩
def Sm.sent{x:Dk}{ss:XJ}{C W:Int}{m:Nat}(h:Sm x ss C W m){S':XL}{P':XQ}{s:Nat}{pd:Int}(s16:s<16)(lf:Lft x.S S')(p0:0<=pd)(p1:pd<=199):Sm {x with S:=paidS S' s pd,tk:=x.tk+pd,P:=P'} ss C W (m+1):=by
 have ep:∀j,(paidS S' s pd j).purse=(x.S j).purse-if j=s then pd else 0:=λj=>by
  unfold paidS setS;by_cases z:j=s
  .rw [if_pos z,if_pos z,z,<- (lf.2 s).1]
  .rw [if_neg z,if_neg z,(lf.2 j).1];omega
 have ec:∀j,(paidS S' s pd j).count=(x.S j).count+if j=s then 1 else 0:=λj=>by
  unfold paidS setS;by_cases z:j=s
  .rw [if_pos z,if_pos z,z,<- (lf.2 s).2.1]
  .rw [if_neg z,if_neg z,(lf.2 j).2.1];omega
 refine⟨h.mm,λj hj=>?_,λj=>?_,?_,?_,?_⟩
 .have:=h.pu j hj;show _<=(paidS S' s pd j).purse/\(paidS S' s pd j).purse<=_;rw[ep j];split<;>exact⟨(),()⟩
 .have:=h.ct j;show _<=(paidS S' s pd j).count/\(paidS S' s pd j).count<=_;rw[ec j];split<;>exact⟨(),()⟩
 .have h1:=lf.1;have h2:=h.sc;show totalC (List.range 16) (paidS S' s pd)=C;unfold totalC paidS at *;rw[Zid AcS.coin S' s16];show _-(S' s).coin+(S' s).coin=C;omega
 .have h2:=h.sp;have e:((List.range 16).map λj=>(S' j).purse).sum=((List.range 16).map λj=>(x.S j).purse).sum:=by
   congr 1;exact YaK λj _=>(lf.2 j).1
  show totP (paidS S' s pd)+(x.tk+pd)=W;unfold totP paidS at *;rw[Zid AcS.purse S' s16];show _-(S' s).purse+((S' s).purse-pd)+(x.tk+pd)=W;omega
 .have:=h.tk;show 0<=x.tk+pd/\x.tk+pd<=_;exact⟨(),()⟩
structure Ad8(K:Ydg)(cA cT cH:XB)(H0 H:Hp)(i:HoI)(A:XC)(S:XL)(P:XQ)(ss:XJ)(cs pw:XD)(t:Nat):Prop where
 o:HoAt K cA cT cH H i A S 0 P
 ex:Ex A S P
 n:∀b u,H0 b=some u->NotHo i A b/\H b=some u
 mm:∀j,(∃x,A j=some x)↔j∈ss.take t
 pu:∀j∈ss.take t,2000<=(S j).purse/\(S j).purse<=4611686018427387904
 ct:∀j,(S j).count=0
 sc:totalC (List.range 16) S=cs.sum
 sp:totP S=pw.sum
 bc:cs.sum<=(t:Int)*2305843009213693952
 bp:pw.sum<=(t:Int)*2305843009213693952
section
variable{K:Ydg}{cA cT cH:XB}{H0 H H':Hp}{i:HoI}{A:XC}{S:XL}{P P':XQ}{ss:XJ}{cs pw:XD}{t n:Nat}
def Ad8.same(h:Ad8 K cA cT cH H0 H i A S P ss cs pw t)(s:Same H H'):Ad8 K cA cT cH H0 H' i A S P ss cs pw t:=⟨h.o.same s,h.ex,λb u e=>⟨(h.n b u e).1,s _ _ (h.n b u e).2⟩,h.mm,h.pu,h.ct,h.sc,h.sp,h.bc,h.bp⟩
def Ad8.own(h:Ad8 K cA cT cH H0 H i A S P ss cs pw t){l:XB}{xs:XF}(hl:H l=some (.lst xs))(nl:NotHo i A l)(fl:H0 l=none)(v:HO):Ad8 K cA cT cH H0 (upd H l v) i A S P ss cs pw t:=⟨h.o.own nl hl Za4 v,h.ex,λb u e=>⟨(h.n b u e).1,by rw[Zaj (Zai e fl)];exact(h.n b u e).2⟩,h.mm,h.pu,h.ct,h.sc,h.sp,h.bc,h.bp⟩
def Ad8.free(h:Ad8 K cA cT cH H0 H i A S P ss cs pw t)(hs:ss[t]?=some n)(nd:ss.Nodup):A n=none:=by
 let⟨ht,et⟩:=Yf.mp hs;cases e:A n with
 |none=>rfl
 |some y=>
  have:=(h.mm n).mp ⟨y,e⟩;let⟨m,hm,em⟩:=Ya4.mp this;rw[YN]at hm;rw[List.getElem_take]at em;exact absurd (em.trans et.symm) (YbQ.mp nd m t () ht ())
def Ad8.adm(h:Ad8 K cA cT cH H0 H i A S P ss cs pw t)(hs:ss[t]?=some n)(nd:ss.Nodup)(hn:n<16)(ht:t<4){c p:Nat}(c1:c<2305843009213693952)(p1:p<2305843009213693952){rs:XW}(hr:Zbe rs=true)(sf:Safe i.ps rs):AdmOk i.ps A S 0 n c p rs:=by
 have e1:=Zkt (A:=A) (λj=>(S j).coin) (λj hj z=>(h.o.ba.no j hj z).1);have e2:=Zkt (A:=A) (λj=>(S j).purse) (λj hj z=>(h.o.ba.no j hj z).2);have h1:=h.sc;have h2:=h.sp;have h3:=h.bc;have h4:=h.bp;unfold totalC at h1;unfold totP at h2;refine⟨hn,h.free hs nd,(),(),hr,⟨?_,?_⟩,sf⟩
 .rw [e1,h1];omega
 .rw [e2,h2];omega
def Ad8.come(h:Ad8 K cA cT cH H0 H i A S P ss cs pw t)(hs:ss[t]?=some n)(nd:ss.Nodup)(hn:n<16){x:AcI}{c p:Int}{rs:XW}(c1:c<=2305843009213693952)(p0:2000<=p)(p1:p<=2305843009213693952)(h1:H x.a=none)(h2:H x.st=none)(h3:H x.pr=none)(k:KeptX (inHo i A) H H')(o:HoAt K cA cT cH H' i (setO A n x) (setS S n (newS c p rs)) 0 (setP P n (plainS (newS c p rs)))):Ad8 K cA cT cH H0 H' i (setO A n x) (setS S n (newS c p rs)) (setP P n (plainS (newS c p rs))) ss (cs++[c]) (pw++[p]) (t+1):=by
 let⟨ht,et⟩:=Yf.mp hs;have nn:=h.o.ba.no n hn (h.free hs nd);have tk:ss.take (t+1)=ss.take t++[n]:=by rw[Ym ht,et]
 have e1:(cs++[c]).sum=cs.sum+c:=by rw[YcV,Yab,YcH,YbO]
 have e2:(pw++[p]).sum=pw.sum+p:=by rw[YcV,Yab,YcH,YbO]
 refine⟨o,h.ex.add,λb u e=>?_,λj=>?_,λj hj=>?_,λj=>?_,?_,?_,?_,?_⟩
 .obtain ⟨n1,g1⟩:=h.n b u e;exact⟨n1.add g1 h1 h2 h3,k _ _ g1 n1.not⟩
 .rw [tk,Yw,Ye,<- h.mm];unfold setO;by_cases z:j=n
  .rw [if_pos z];exact⟨λ_=>.inr z,λ_=>⟨x,rfl⟩⟩
  .rw [if_neg z];exact⟨.inl,λw=>w.elim id λw=>absurd w z⟩
 .unfold setS;by_cases z:j=n
  .rw [if_pos z];exact⟨p0,Int.le_trans p1 nofun⟩
  .rw [if_neg z];rw[tk]at hj;rcases Yw.mp hj with w|w
   .exact h.pu j w
   .exact absurd (Ye.mp w) z
 .unfold setS;by_cases z:j=n
  .rw [if_pos z];rfl
  .rw [if_neg z];exact h.ct j
 .have:=h.sc;rw[e1];unfold totalC at this |-;rw[Zid AcS.coin S hn,nn.1];show _-0+c=_;omega
 .have:=h.sp;rw[e2];unfold totP at this |-;rw[Zid AcS.purse S hn,nn.2];show _-0+p=_;omega
 .have:=h.bc;rw[e1];omega
 .have:=h.bp;rw[e2];omega
end
def PgT.mv{K:Ydg}{H H':Hp}{b:XB}(h:PgT K H b)(e:∀u,H b=some u->H' b=some u)(im:SameI H H'):PgT K H' b:=let⟨xs,rs,g,r,f⟩:=h;⟨xs,rs,e _ g,r.keep im,f⟩
def admit4(n c p:Nat):[Str.ofString "admit",Str.ofString (toString (n:Int)),Str.ofString (toString (c:Int)),Str.ofString (toString (p:Int))]=(admitL::admW n c p []).map mkS:=by
 rw[show(Str.ofString "admit")=mkS admitL from Zoj,show Str.ofString (toString (n:Int))=mkS (sNum n)from ZbG (Yak n),show Str.ofString (toString (c:Int))=mkS (sNum c)from ZbG (Yak c),show Str.ofString (toString (p:Int))=mkS (sNum p)from ZbG (Yak p)];rfl
def p60N':(2:Int)^Int.toNat 60=1152921504606846976:=nofun
open Classical in
noncomputable def ZeL(i:HoI)(H:Hp):Hp:=λb=>if NotHo i (λ_=>none) b then H b else none
def ZuJ{i:HoI}{H:Hp}{b:XB}{u:HO}(h:ZeL i H b=some u):NotHo i (λ_=>none) b/\H b=some u:=by
 unfold ZeL at h;split at h
 .rename_i z;exact⟨z,h⟩
 .cases h
def Zmi{i:HoI}{H:Hp}{b:XB}{u:HO}(n:NotHo i (λ_=>none) b)(h:H b=some u):ZeL i H b=some u:=by
 unfold ZeL;rw[if_pos n];exact h
def Zor{i:HoI}{H:Hp}{b:XB}(h:H b=none):ZeL i H b=none:=by
 unfold ZeL;split
 .exact h
 .rfl
def SqN(K:Ydg)(i:HoI)(H:Hp)(a:XB)(xs:XF):Prop:=∀H',(∀b u,H b=some u->NotHo i (λ_=>none) b->H' b=some u)->SqL K H' a xs
noncomputable def Dk.at(x:Dk)(A:XC)(S:XL)(tk:Int)(P:XQ):Dk:={x with A:=A,S:=S,tk:=tk,P:=P}
inductive ZwD(K:Ydg)(cA cT cH cD:XB)(vs:XF)(H:Hp)(Q:VK)(E9:XK):Prop
 |mk(x:Dk)(a SL:XB)(ns:XD)(ss:XJ):vs=[.ref x.d,.ref a,.ref SL]->DkAt K cA cT cH cD H x->x.A=(λ_=>none)->x.S=zS->x.tk=0->SqN K x.i H a (ns.map V.int)->SlAt H SL ss->NotHo x.i (λ_=>none) SL->ss.length<=4->ss.Nodup->(∀A S P C W q H',(∀b u,H b=some u->NotHo x.i (λ_=>none) b->NotHo x.i A b/\H' b=some u)->DkAt K cA cT cH cD H' (x.at A S 0 P)->Sm (x.at A S 0 P) ss C W 0->H' q=some (.tup [.int C,.int W])->Q (.ref q) H')->ZwD K cA cT cH cD vs H Q E9
def ZcC:FnScope ["_law_desk","_law_script","_law_slots_here","_law_programs_here","_law_coins","_law_purses","_law_at","_law_row","_law_code_here"] ["_law_desk","_law_script","_law_slots_here"] (Zae (top 183)):=by walk_at"c"
include Y
def Zub:mY Y 54 "_law_told" (ZwD K qa cStamps cHouse cDesk):=by
 refine Zax _ Y.c6 ?_ _ ZcC
 .symm;let⟨x,a,SL,ns,ss,rfl,hx,eA,eS,et,hN,hs,hsn,h4,nd,k⟩:=h;refine⟨_,(Zac (Zao (i:=3) ZcC.nd (Zam (Zmg Y) (Zaa (pv 1) (Wa (pv 2))))) (Zac (Zao (i:=4) ZcC.nd (ZaI Zab)) (Zac (Zao (i:=5) ZcC.nd (ZaI Zab)) (Zac (ZbQ YV rfl (ZcM rfl Y.k (Wa (Zau ZaN rfl Y.d Ys (Wa (pv 2))))) (ZaU (i:=6) ZcC.nd) (Zac (Zay (Zbj Yy YI YH ZaT (pv 4) (Wa (Zaw Za0 Zag (Zaw ZaR (Zam (ZeK Y) (Zaa (pv 1) (Wa (Zaw Za0 Zag (pv 6))))) (Zaw ZeP Zag Zag)))))) (Zac (Zay (Zbj Yy YI YH ZaT (pv 5) (Wa (Zaw Za0 Zag (Zaw ZaR (Zaw ZaP (Zam (ZeK Y) (Zaa (pv 1) (Wa (Zaw Za0 Zag (pv 6))))) Zag) (Zaw ZeP Zag Zag)))))) (Zac (Zao (i:=7) ZcC.nd (Zbj YU Yag Yaf Zdq Zav (Wa (ZaI (Zaa Zav (Zaa (ZaJ Zb1 rfl Y.h YM (Wa (Zaq Zan (pv 2) (pv 6)))) (Zaa (ZaJ Zb1 rfl Y.h YM (Wa (Zaq Zan (pv 4) (pv 6)))) (Wa (ZaJ Zb1 rfl Y.h YM (Wa (Zaq Zan (pv 5) (pv 6)))))))))))) (Zac (Zao (i:=8) ZcC.nd (Zam (Zoo Y) (Wa (Zaq Zan (pv 3) (pv 6))))) (Zac (Zjq (ZaG (Zas ZfC (pv 8) Zav) (Zaf (Zao (i:=7) ZcC.nd (Zaw Zdp (Zaw Zdp (pv 7) Zav) (pv 8)))) Zat)) (Zaf (ZaG (Zas ZfC (ZaB (Zbh Y) (hr.mono nofun) (pv 0) (Wa (pv 7))) Zav) (Wb Zbl) Zat)))))))) (Wb (ZaH (Zaa (Zau (Zlo rfl) rfl Y.n YaT (Wa (pv 4))) (Wa (Zau (Zlo rfl) rfl Y.n YaT (Wa (pv 5))))))))))),?_⟩;left;have big:(100:Nat)<sizeLine:=nofun;have lss:(ss.map λj:Nat=>V.int (j:Int)).length=ss.length:=Ya ..;let⟨xd,xdx,i,xA,xS,xtk,xP⟩:=x;dsimp only at eA eS et hN hsn k;subst eA eS et;have hS:SqL K H a (ns.map V.int):=hN H λb u e _=>e;exists⟨a,SL,ns,ss,rfl,hS,hs,λPL as H1 s1 hPL gPL las hP=>?_⟩;exists⟨show 0<=sizeLine by decide,λcl hcl=>?_⟩;have s2:=Same.new hcl (o:=.lst []);have gcl:(upd H1 cl (.lst [])) cl=some (.lst (([]:XD).map V.int)):=Zad;generalize upd H1 cl _=H2 at s2 gcl |-;exists⟨show 0<=sizeLine by decide,λpl hpl=>?_⟩;have s3:=Same.new hpl (o:=.lst []);have gpl:(upd H2 pl (.lst [])) pl=some (.lst (([]:XD).map V.int)):=Zad;have gcl3:=s3 _ _ gcl;have ncp:cl≠pl:=Zai gcl hpl;generalize upd H2 pl _=H3 at s3 gpl gcl3 |-;have hpl1:=s2.fresh hpl;have s03:=(s1.trans s2).trans s3;have hx3:=hx.same s03;have o3:=hx3.ho;have no1:∀b,H1 b=none->NotHo i (λ_=>none) b:=λb hb=>(hx.ho.same s1).newN hb;obtain⟨H0,eH0⟩:∃H0,ZeL i H1=H0:=⟨_,rfl⟩;have b1:∀b u,H0 b=some u->NotHo i (λ_=>none) b/\H3 b=some u:=λb u e=>by rw[<- eH0]at e;exact⟨(ZuJ e).1,s3 _ _ (s2 _ _ (ZuJ e).2)⟩
  have bSL:H0 SL=some (.lst (ss.map λj:Nat=>V.int (j:Int))):=by rw[<- eH0];exact Zmi hsn (s1 _ _ hs.1)
  have bPL:H0 PL=some (.lst (as.map V.ref)):=by rw[<- eH0];exact Zmi (hx.ho.newN hPL) gPL
  have bd:H0 xd=some (.ins cDesk xdx [("house",.ref i.h)]):=by rw[<- eH0];exact Zmi hx.nd (s1 _ _ hx.de)
  have bA:∀b∈as,∃u,H0 b=some u:=λb hb=>by
   let⟨f,xs,rs,g1,_⟩:=hP b hb;exact⟨_,by rw[<- eH0];exact Zmi (hx.ho.newN f) g1⟩
  have fc:H0 cl=none:=by rw[<- eH0];exact Zor hcl
  have fp:H0 pl=none:=by rw[<- eH0];exact Zor hpl1
  have bH:∀b u,H b=some u->NotHo i (λ_=>none) b->H0 b=some u:=λb u e n=>by rw[<- eH0];exact Zmi n (s1 _ _ e)
  have bS:SqL K H0 a (ns.map V.int):=hN H0 bH;have W0:Ad8 K qa cStamps cHouse H0 H3 i (λ_=>none) zS xP ss [] [] 0:=⟨o3,hx.ex,b1,λj=>⟨(λ⟨x,e⟩=>nomatch e),(λz=>nomatch z)⟩,(λj z=>nomatch z),λ_=>rfl,nofun,nofun,nofun,nofun⟩;have P0:∀b∈as,PgT K H3 b:=λb hb=>((hP b hb).2.same s2).same s3;have nc0:=no1 cl hcl;have np0:=no1 pl hpl1;have hps:i.ps=ps5:=hx.ps;clear o3 b1 hP hx3 s03 s3 s2 s1 gPL hPL eH0 hcl hpl hpl1 gcl no1 hS hN;exists ZbT (ZdT ?_);ext;have hSL3:SqL K H3 SL (ss.map λj:Nat=>V.int (j:Int)):=Zal (W0.n _ _ bSL).2;exists⟨_,rfl,(),(),?_⟩;rw[lss,Yt];obtain⟨PV,hPV⟩:∃PV:Nat->L2.St->Hp->Prop,PV=λt U' H'=>∃A S P cs pw v1 v2 v3,Ad8 K qa cStamps cHouse H0 H' i A S P ss cs pw t/\(cs.length=t/\pw.length=t)/\H' cl=some (.lst (cs.map V.int))/\H' pl=some (.lst (pw.map V.int))/\NotHo i A cl/\NotHo i A pl/\(∀b∈as,PgT K H' b)/\U'=[some (.ref xd),some (.ref a),some (.ref SL),some (.ref PL),some (.ref cl),some (.ref pl),v1,v2,v3]:=⟨_,rfl⟩;refine Zdk PV (by rw[hPV];exact⟨_,_,_,[],[],_,_,_,W0,⟨rfl,rfl⟩,gcl3,gpl,nc0,np0,P0,rfl⟩) ?_ ?_
  .clear W0 P0 nc0 np0 gcl3 gpl hSL3;intro t U' H4 ht hI;rw[hPV]at hI;let⟨Ar,S,P,cs,pw,v1,v2,v3,W,⟨lc,lp⟩,gc,gp,nc,np,hP,rfl⟩:=hI;have sH:Same H0 H4:=λb u e=>(W.n b u e).2;have hS4:=sH.seq bS;obtain⟨n,hn⟩:∃n,ss[t]?=some n:=⟨_,Yd ht⟩;have b16:=hs.2.2.2 n (Yn hn);have lcv:(cs.map V.int).length=cs.length:=Ya ..;have lpv:(pw.map V.int).length=pw.length:=Ya ..;rw[YcI];exists⟨Za9 (Zal gc),?_⟩;exists⟨a,ns,_,rfl,(),hS4,?_⟩;ext;obtain⟨c,hc,c1⟩:∃c:Nat,100+cellF ns (5+(t:Int))%2^Int.toNat 60=(c:Int)/\c<2305843009213693952:=⟨(100+cellF ns (5+(t:Int))%2^Int.toNat 60).toNat,by rw[p60N'];omega,by rw[p60N'];omega⟩;rw[hc];clear hc;refine ZaZ gc () ?_;have W5:=W.own gc nc fc (.lst (cs.map V.int++[.int c]));have gc5:(upd H4 cl (.lst (cs.map V.int++[.int c]))) cl=some (.lst ((cs++[(c:Int)]).map V.int)):=by rw[Zad,YA];rfl
   have gp5:(upd H4 cl (.lst (cs.map V.int++[.int c]))) pl=some (.lst (pw.map V.int)):=by rw[Zaj (YR ncp)];exact gp
   have hP5:∀b∈as,PgT K (upd H4 cl (.lst (cs.map V.int++[.int c]))) b:=λb hb=>(hP b hb).but gc (by let⟨u,e⟩:=bA b hb;exact Zai e fc);generalize upd H4 cl _=H5 at W5 gc5 gp5 hP5 |-;clear W gc gp hP sH hS4;have hS5:SqL K H5 a (ns.map V.int):=(show Same H0 H5 from λb u e=>(W5.n b u e).2).seq bS;exists⟨Za9 (Zal gp5),?_⟩;exists⟨a,ns,_,rfl,(),hS5,?_⟩;ext;obtain⟨p,hp,p0,p1⟩:∃p:Nat,2000+cellF ns (6+(t:Int))/3%2^Int.toNat 60=(p:Int)/\2000<=p/\p<2305843009213693952:=⟨(2000+cellF ns (6+(t:Int))/3%2^Int.toNat 60).toNat,by rw[p60N'];omega,by rw[p60N'];omega,by rw[p60N'];omega⟩;rw[hp];clear hp;refine ZaZ gp5 () ?_;have W6:=W5.own gp5 np fp (.lst (pw.map V.int++[.int p]));have gp6:(upd H5 pl (.lst (pw.map V.int++[.int p]))) pl=some (.lst ((pw++[(p:Int)]).map V.int)):=by rw[Zad,YA];rfl
   have gc6:(upd H5 pl (.lst (pw.map V.int++[.int p]))) cl=some (.lst ((cs++[(c:Int)]).map V.int)):=by rw[Zaj ncp];exact gc5
   have hP6:∀b∈as,PgT K (upd H5 pl (.lst (pw.map V.int++[.int p]))) b:=λb hb=>(hP5 b hb).but gp5 (by let⟨u,e⟩:=bA b hb;exact Zai e fp);generalize upd H5 pl _=H6 at W6 gc6 gp6 hP6 |-;clear W5 gc5 gp5 hP5 hS5;have s06:Same H0 H6:=λb u e=>(W6.n b u e).2;have hSL6:SqL K H6 SL (ss.map λj:Nat=>V.int (j:Int)):=Zal (s06 _ _ bSL);have ans:atI (ss.map λj:Nat=>V.int (j:Int)) (t:Int)=some (.int (n:Int)):=Zeo (by rw[Yb,hn];rfl);have acs:atI ((cs++[(c:Int)]).map V.int) (t:Int)=some (.int (c:Int)):=Zeo (by rw[Yb,Yv (),lc,Yam];rfl);have aps:atI ((pw++[(p:Int)]).map V.int) (t:Int)=some (.int (p:Int)):=Zeo (by rw[Yb,Yv (),lp,Yam];rfl);have n64:n<18446744073709551616:=();have c64:c<18446744073709551616:=();have p64:p<18446744073709551616:=();exists ZaA hSL6 ans ?_;exists Zbq (Za1 () ()) ?_;exists ZaA (Zal gc6) acs ?_;exists Zbq (Za1 () ()) ?_;exists ZaA (Zal gp6) aps ?_;exists Zbq (Za1 () ()) ?_;exists⟨show 4<=sizeLine by decide,λwl hwl=>?_⟩;have w0:OkW (admitL::admW n c p []):=OkW.nil.adm n64 c64 p64 nofun;have s7:=Same.new hwl (o:=.lst [.str (Str.ofString "admit"),.str (Str.ofString (toString (n:Int))),.str (Str.ofString (toString (c:Int))),.str (Str.ofString (toString (p:Int)))]);have g7:(upd H6 wl (.lst [.str (Str.ofString "admit"),.str (Str.ofString (toString (n:Int))),.str (Str.ofString (toString (c:Int))),.str (Str.ofString (toString (p:Int)))])) wl=some (.lst (((admitL::admW n c p []).map mkS).map V.str)):=by rw[Zad,<- admit4];rfl
   generalize upd H6 wl _=H7 at s7 g7 |-;exists Zds (Zal g7) w0.join ?_;rw[ZkA];have W7:=W6.same s7;have hSL7:=s7.seq hSL6;obtain⟨pa,hpa⟩:∃pa,as[t]?=some pa:=⟨_,Yd ()⟩;have hpam:=Yn hpa;have apa:atI (as.map V.ref) (t:Int)=some (.ref pa):=Zeo (by rw[Yb,hpa];rfl);let⟨xs,rs,gpa,rpa,okp⟩:=(hP6 pa hpam).same s7;have hPL7:SqL K H7 PL (as.map V.ref):=Zal (s7 _ _ (s06 _ _ bPL));have okr:∀r∈rs,okRow r:=λr hr=>Zjx (Zc6 okp.right).1 ((Zc6 okp.right).2 r hr);have r60:=(Zc6 okp.right).1;exists ZaA hPL7 apa ?_;exists⟨pa,xs,rs,rfl,Zal gpa,rpa,r60,okr,λH8 s8=>?_⟩;have s68:=s7.trans s8;have hw0:=w0.len;have big3:(30000:Nat)<=sizeLine:=nofun;exists Zjp (λU' Hx=>∃cs':List (List Nat),OkW (admitL::admW n c p cs')/\OkW cs'/\rowT cs'=textS rs/\Hx=H8/\U'=[some (.ref xd),some (.ref a),some (.ref SL),some (.ref PL),some (.ref cl),some (.ref pl),some (.int (t:Int)),some (.str (rowT (admitL::admW n c p cs'))),some (.str (textS rs))]) ?_ ?_
   .have cw:=codeW okr r60;have cl1:=(ZfA rs okr).2;have ct:=cw.len;rw[codeT]at ct;walk_at"K'"
    all_goals first
     |(refine Zdr (by show _+1<=_;omega) ?_
       exists Zdr (by rw[strLen_append,show(Str.ofString " ").length=1 by decide];omega) ?_;rw[<- codeT rs,Zua (ZkP rs)];ext;exact⟨codeP rs,cw.adm n64 c64 p64 (),cw,rfl,rfl,rfl⟩)
     |(refine⟨[],w0,OkW.nil,?_,rfl,rfl⟩
       rw[show rowT []=Str.ofString ""from ZrL.symm];exact Eq.symm ‹_›)
   rintro U1 H9 ⟨cs',w1,w2,htx,rfl,rfl⟩;have de8:Zmd cDesk H9 xd xdx i.h:=s68 _ _ (s06 _ _ bd);have W8:=W6.same s68;dsimp only;exists Zar de8 rfl ?_;exists⟨xd,xdx,i.h,_,rfl,de8,.inl ⟨n,c,p,cs',rfl,w1,λl H10 s10 hl=>⟨i,Ar,S,0,P,l,n,c,p,cs',rs,rfl,W8.o.same s10,Zal hl,W8.adm hn nd b16 () c1 p1 okp.right (by rw[hps];exact okp.safe),w2,htx,λy H11 g1 g2 g3 k5 o5=>?_⟩⟩⟩;have s810:=s68.trans s10;have W10:=W8.same s10;have W11:=W10.come (c:=c) (p:=p) (rs:=rs) hn nd b16 () () () g1 g2 g3 k5 o5;repeat walk_at"rdx"
   rw[hPV]
   exact⟨_,_,_,_,_,_,_,_,W11,⟨by rw[Yc,lc];rfl,by rw[Yc,lp];rfl⟩,k5 _ _ (s810 _ _ gc6) nc.not,k5 _ _ (s810 _ _ gp6) np.not,nc.add (s810 _ _ gc6) g1 g2 g3,np.add (s810 _ _ gp6) g1 g2 g3,λb hb=>((hP6 b hb).same s810).mv (λu e=>by
    let⟨v,e0⟩:=bA b hb;exact k5 _ _ e (W10.n _ _ e0).1.not) (W10.o.imm k5),rfl⟩
  .clear W0 P0 nc0 np0 gcl3 gpl hSL3;intro U' H4 hI;rw[hPV]at hI;let⟨Ar,S,P,cs,pw,v1,v2,v3,W,⟨lc,lp⟩,gc,gp,nc,np,hP,rfl⟩:=hI;dsimp only;exists⟨show 2<=sizeLine by decide,λq hq=>?_⟩;have s5:=Same.new hq (o:=.tup [.int cs.sum,.int pw.sum]);have W5:=W.same s5;have tl:ss.take ss.length=ss:=YK;have sm:Sm (Dk.at ⟨xd,xdx,i,λ_=>none,zS,0,xP⟩ Ar S 0 P) ss cs.sum pw.sum 0:=by
    refine⟨λj=>?_,λj hj=>?_,λj=>?_,W.sc,?_,Y9 0,Y9 0⟩
    .have:=W.mm j;rw[tl]at this;exact this
    .have:=W.pu j (by rw[tl];exact hj);exact⟨by show 2000-199*(0:Int)<=(S j).purse;omega,this.2⟩
    .have h:=W.ct j;show 0<=(S j).count/\(S j).count<=0;omega
    .show totP S+0=_;rw[YbO];exact W.sp
   refine k Ar S P _ _ q _ (λb u e n=>?_) (sm.dk nofun (W5.n _ _ bd).2 W5.o W5.ex (W5.n _ _ bd).1 hps) sm Zad;exact W5.n b u (bH b u e n)
omit Y
inductive ZwE(K:Ydg)(cA cT cH cD:XB)(vs:XF)(H:Hp)(Q:VK)(E9:XK):Prop
 |mk(x:Dk)(a SL:XB)(ns:XD)(ss:XJ)(C W:Int):vs=[.ref x.d,.ref a,.ref SL]->DkAt K cA cT cH cD H x->Sm x ss C W 0->SqL K H a (ns.map V.int)->SlAt H SL ss->NotHo x.i x.A SL->(∀S tk P H',KeptX (inHo x.i x.A) H H'->DkAt K cA cT cH cD H' (x.at x.A S tk P)->Sm (x.at x.A S tk P) ss C W 4->Q (.bl true) H')->ZwE K cA cT cH cD vs H Q E9
structure LtN(ms:XJ)(s r cn l w:Nat):Prop where
 ln:ms.length=4\/ms.length=5
 b:∀m∈ms,m<18446744073709551616
 g0:ms.getD 0 0=s
 g1:ms.getD 1 0=r
 g2:ms.getD 2 0=cn
 g3:ms.getD 3 0=l
 g4:ms.getD 4 0<18446744073709551616
def row4(z:XJ)(s r cn l:Nat):z++[32]++sNum s++[32]++sNum r++[32]++sNum cn++[32]++sNum l=glueL [32] (z::numsW [s,r,cn,l]):=by
 show _=z++[32]++(sNum s++[32]++(sNum r++[32]++(sNum cn++[32]++sNum l)));simp only[YQ]
def row5(z:XJ)(s r cn l w:Nat):glueL [32] (z::numsW [s,r,cn,l])++([]++[32]++sNum w)=glueL [32] (z::numsW [s,r,cn,l,w]):=by
 show z++[32]++(sNum s++[32]++(sNum r++[32]++(sNum cn++[32]++sNum l)))++([]++[32]++sNum w)=z++[32]++(sNum s++[32]++(sNum r++[32]++(sNum cn++[32]++(sNum l++[32]++sNum w))));simp only[YQ,YaH]
def Za6:FnScope ["_law_desk","_law_script","_law_slots_here","_law_cell","_law_sender","_law_to","_law_coin","_law_limit","_law_word","_law_head","_law_row"] ["_law_desk","_law_script","_law_slots_here"] (Zae (top 184)):=by walk_at"c"
include Y
def Znm:mY Y 54 "_law_letters" (ZwE K qa cStamps cHouse cDesk):=by
 refine Zax _ Y.c7 ?_ _ Za6
 .symm;let⟨x,a,SL,ns,ss,C,W,rfl,hx,hm,hS,hs,hsn,k⟩:=h;refine⟨_,(Zac (ZbQ YV rfl (Zbc (ZbS ZcF (pv 1) (ZbR Zag) (ZbR Zag))) (ZaU (i:=3) Za6.nd) (Zac (Znp (Zam (Zpo Y) (Zaa (pv 3) (Wa (pv 2)))) (pg_tup (n:=5) rfl (ZeN (ZaU (i:=4) Za6.nd) (ZeN (ZaU (i:=5) Za6.nd) (ZeN (ZaU (i:=6) Za6.nd) (ZeN (ZaU (i:=7) Za6.nd) (ZeN (ZaU (i:=8) Za6.nd) ZuR))))))) (Zac (Zjq (ZaG (Zas ZfD (Zam (Zf2 Y) (Wa (ZaB (Zbh Y) (hr.mono nofun) (pv 0) (Wa (ZqT (pj_c (pj_v (pv 4) Zls))))))) (pv 6)) (Zaf (Zao (i:=6) Za6.nd Zag)) Zat)) (Zac (Zao (i:=9) Za6.nd Zav) (Zac (Zjq (ZaG (Zas Zbf (Zaw ZaR (pv 3) Zag) Zag) (Zaf (Zao (i:=9) Za6.nd Zav)) Zat)) (Zac (Zao (i:=10) Za6.nd (ZqT (pj_v (pv 9) (pj_c (pj_v (pv 4) (pj_c (pj_v (pv 5) (pj_c (pj_v (pv 6) (pj_c (pj_v (pv 7) Zls))))))))))) (Zac (Zjq (ZaG (Zas ZfE (Zaw ZaR (Zaw ZaP (pv 3) Zag) Zag) Zag) (Zaf (Zao (i:=10) Za6.nd (Zaw Zdp (pv 10) (ZqT (pj_c (pj_v (pv 8) Zls)))))) Zat)) (Zaf (ZaG (ZbP (ZbN (Zau Zmu rfl Y.x YbB (Zaa (ZaB (Zbh Y) (hr.mono nofun) (pv 0) (Wa (pv 10))) (Wa (Zqa rfl Y.h YM)))))) (Wb ZcD) Zat))))))))) (Wb ZcD)),?_⟩;left;have big:(2000:Nat)<sizeLine:=nofun;let⟨xd,xdx,i,Ar,xS,xtk,xP⟩:=x;dsimp only at hsn k;exists ZbT (ZaY ?_);ext;intro LL hLL;obtain⟨ms,hml,ems⟩:∃ms:List Int,ms.length<=4/\cutV (ns.map V.int) (some 1) (some 5)=ms.map V.int:=let⟨ms,h,e⟩:=cut_b ns 1 5;⟨ms,(),e⟩;rw[ems];have s1:=Same.new hLL (o:=.lst (ms.map V.int));have gLL:(upd H LL (.lst (ms.map V.int))) LL=some (.lst (ms.map V.int)):=Zad;generalize upd H LL _=H0 at s1 gLL |-;have nLL:=hx.ho.newN hLL;have hs0:=hs.same s1;have hx0:=hx.same s1;obtain⟨PV,hPV⟩:∃PV:Nat->L2.St->Hp->Prop,PV=λt U' H'=>(∃S tk P,DkAt K qa cStamps cHouse cDesk H' (Dk.at ⟨xd,xdx,i,Ar,xS,xtk,xP⟩ Ar S tk P)/\Sm (Dk.at ⟨xd,xdx,i,Ar,xS,xtk,xP⟩ Ar S tk P) ss C W t)/\KeptX (inHo i Ar) H0 H'/\∃v3 v4 v5 v6 v7 v8 v9 v10,U'=[some (.ref xd),some (.ref a),some (.ref SL),v3,v4,v5,v6,v7,v8,v9,v10]:=⟨_,rfl⟩;refine⟨LL,rfl,⟨_,Zal gLL⟩,ZbF (xs:=ms.map V.int) PV (by rw[hPV];exact⟨⟨xS,xtk,xP,hx0,hm⟩,KeptX.refl,_,_,_,_,_,_,_,_,rfl⟩) (λ_ U' H' _ hI=>by rw[hPV]at hI;exact Zal (hI.2.1 _ _ gLL nLL.not)) ?_ ?_⟩
  .intro t y U' H' hy hI;rw[hPV]at hI;let⟨⟨S,tk,P,hx',hm'⟩,kx,v3,v4,v5,v6,v7,v8,v9,v10,rfl⟩:=hI;rw[Yb]at hy;let⟨c,hc,rfl⟩:=Yu.mp hy;have ht:t<4:=by have:=(Yf.mp hc).1;omega
   have hs':SlAt H' SL ss:=⟨kx _ _ hs0.1 hsn.not,hs0.2⟩;clear hx0 hx hm hS hs k gLL s1 hs0 hy hc;exists⟨c,SL,ss,rfl,hs',λq s r n l w H1 s1 hsm hrm n0 n1 l0 l1 iw gq=>?_⟩;have hq:SqT K H1 q [.int (s:Int),.int (r:Int),.int n,.int l,.int w]:=Zb0 gq;have hx1:=hx'.same s1;have s16:=hs'.2.2.2 s hsm;have r16:=hs'.2.2.2 r hrm;obtain⟨xs,hxs⟩:∃y,Ar s=some y:=(hm'.mm s).mpr hsm;obtain⟨xr,hxr⟩:∃y,Ar r=some y:=(hm'.mm r).mpr hrm;have hpu:2000-199*(t:Int)<=(S s).purse:=(hm'.pu s hsm).1;have hco:In64 (S s).coin:=hx1.ho.ba.so.coin s16;obtain⟨nl,rfl⟩:∃nl:Nat,l=(nl:Int):=⟨l.toNat,()⟩;obtain⟨nw,rfl⟩:∃nw:Nat,w=(nw:Int):=⟨w.toNat,by have:=iw.1;omega⟩;have iw2:=iw.2;obtain⟨nn,rfl⟩:∃nn:Nat,n=(nn:Int):=⟨n.toNat,()⟩;exists Zjp (λU' H2=>Same H1 H2/\∃cn:Nat,cn<=50/\(cn:Int)<=(S s).coin/\U'=[some (.ref xd),some (.ref a),some (.ref SL),some (.int c),some (.int (s:Int)),some (.int (r:Int)),some (.int (cn:Int)),some (.int (nl:Int)),some (.int (nw:Int)),v9,v10]) ?_ ?_
   .ext;refine Zar hx1.de rfl ?_;ext;walk_at"f0";walk_at"fc";walk_at"fv";walk_at"fe";rw[show([]++(Str.ofString "coin ").cps.toList++sNum (s:Int).toNat)=glueL [32] (("coin":Xq).cps.toList::numsW [s])by rw[Yt];rfl];refine Zr0 .coin rfl hx1 s16 hxs hco λH3 s3=>?_;exists⟨_,rfl,hco,?_⟩;walk_at"K'"
    .exact ⟨s3,0,nofun,hco.1,rfl⟩
    .rename_i hlt;have hlt:¬(S s).coin<(nn:Int):=hlt;exact⟨s3,nn,(),(),rfl⟩
   rintro U' H2 ⟨s2,cn,c1,c2,rfl⟩;have hx2:=hx1.same s2;dsimp only;exists Zjp (λU' H3=>H3=H2/\∃z:Str,(z="send"\/z="try")/\U'=[some (.ref xd),some (.ref a),some (.ref SL),some (.int c),some (.int (s:Int)),some (.int (r:Int)),some (.int (cn:Int)),some (.int (nl:Int)),some (.int (nw:Int)),some (.str z),v10]) ?_ ?_
   .walk_at"K'"
    .exact ⟨rfl,_,.inr rfl,rfl⟩
    .exact ⟨rfl,_,.inl rfl,rfl⟩
   rintro U' H3 ⟨rfl,z,hz,rfl⟩;have hzl:z.length<=100:=by rcases hz with rfl|rfl<;>decide
   dsimp only;ext;walk_at"f0";walk_at"fz";walk_at"fc";walk_at"fv";walk_at"fc";walk_at"fv";walk_at"fc";walk_at"fv";walk_at"fc";walk_at"fv";walk_at"fe";rw[show(Str.ofString " ").cps.toList=[32]by decide,Yt,Yt,Yt,Yt,row4];rename_i hln;rw[show(Str.ofString " ").cps.toList=[32]by decide,Yt,Yt,Yt,Yt,YaH,row4]at hln;refine Zjp (λU' H4=>H4=H3/\∃ms:List Nat,LtN ms s r cn nl nw/\U'=[some (.ref xd),some (.ref a),some (.ref SL),some (.int c),some (.int (s:Int)),some (.int (r:Int)),some (.int (cn:Int)),some (.int (nl:Int)),some (.int (nw:Int)),some (.str z),some (.str (rowT (z.cps.toList::numsW ms)))]) ?_ ?_
   .walk_at"K'"
    .walk_at"f0";walk_at"fc";walk_at"fv";walk_at"fe";refine Zdr (by rw[Zbg,Zbg];omega) ?_;rw[Zii,show(Str.ofString " ").cps.toList=[32]by decide,Yt,row5];exists⟨rfl,[s,r,cn,nl,nw],⟨.inr rfl,λm hm=>?_,rfl,rfl,rfl,rfl,by show nw<_;omega⟩,rfl⟩;simp only[Yh,YL,Yah]at hm;rcases hm with rfl|rfl|rfl|rfl|rfl<;>omega
    .refine ⟨rfl,[s,r,cn,nl],⟨.inl rfl,λm hm=>?_,rfl,rfl,rfl,rfl,by show 0<_;decide⟩,rfl⟩;simp only[Yh,YL,Yah]at hm;rcases hm with rfl|rfl|rfl|rfl<;>omega
   rintro U' H4 ⟨rfl,us,lt,rfl⟩;have lok:LokM Ar S us:=by
    unfold LokM;rw[lt.g0,lt.g1,lt.g2,lt.g3];exact⟨s16,r16,⟨xs,hxs⟩,⟨xr,hxr⟩,⟨(),()⟩,⟨(),by have:=lt.g4;omega⟩,(),(),by show _<=(S s).purse;omega,c2⟩
   have hlm:us.length∈[4,5]:=by rcases lt.ln with e|e<;>rw[e]<;>decide
   have s14:=s1.trans s2;dsimp only;exists Zar hx2.de rfl ?_;ext;rcases hz with rfl|rfl
   .refine ZdP .send rfl hx2 hlm lt.b λl5 H5 s5 hl5=>⟨i,Ar,S,tk,P,l5,us,rfl,hx2.ho.same s5,hx2.ex,hl5,lt.ln,lok,λz6 H6 S6 P6 pd k6 o6 e6 lf hp=>?_⟩;rw[lt.g0]at o6 e6;rw[lt.g3]at hp;have sm6:=hm'.sent (P':=P6) s16 lf hp.1 ();have k6':KeptX (inHo i Ar) H' H6:=(s14.trans s5).keptX.trans k6;ext;rw[hPV];exact⟨⟨_,_,_,sm6.dk () (k6' _ _ hx'.de hx'.nd.not) o6 e6 hx'.nd hx'.ps,sm6⟩,kx.trans k6',_,_,_,_,_,_,_,_,rfl⟩
   .refine ZdP .tryd rfl hx2 hlm lt.b λl5 H5 s5 hl5=>⟨i,Ar,S,tk,P,l5,us,rfl,hx2.ho.same s5,hl5,lt.ln,lok,λz6 H6 k6 o6=>?_⟩;have k6':KeptX (inHo i Ar) H' H6:=(s14.trans s5).keptX.trans k6;have sm6:=hm'.up (Yaq t);ext;rw[hPV];exact⟨⟨S,tk,P,sm6.dk () (k6' _ _ hx'.de hx'.nd.not) o6 hx'.ex hx'.nd hx'.ps,sm6⟩,kx.trans k6',_,_,_,_,_,_,_,_,rfl⟩
  .intro U' H' hI;rw[hPV]at hI;let⟨⟨S,tk,P,hx',hm'⟩,kx,v3,v4,v5,v6,v7,v8,v9,v10,rfl⟩:=hI;rw[Ya]at hm';ext;exact k S tk P H' (s1.keptX.trans kx) hx' (hm'.up hml)
omit Y
def Zpr{x:Str}(h:x∈WS):firstAt WS x<31:=by
 let⟨i1,_⟩:=Zes h;exact(Yf.mp i1).1
def Zos(a b:Int):0<=mixOf a b/\mixOf a b<18446744073709551616:=by
 unfold mixOf;omega
def ZuK{ns:XD}(h:okN ns):∀k,okN (lvl k ns)
 |0=>h
 |k+1=>λn hn=>by
  let⟨j,_,rfl⟩:=YF.mp (show n∈pairs (lvl k ns)from hn);exact Zos _ _
def Zot{ns:XD}(h:okN ns)(i:Nat):0<=ns.getD i 0/\ns.getD i 0<18446744073709551616:=by
 rw[YB];cases e:ns[i]? with
 |none=>exact⟨nofun,nofun⟩
 |some n=>exact h n (Yn e)
def ZuL(P:XQ):okN (stP P):=λn hn=>by
 let⟨j,_,rfl⟩:=YF.mp hn;exact Zos _ _
def way_ok(P:XQ)(n:Nat):okN (wayOf (stP P) 4 n):=λx hx=>by
 let⟨j,_,rfl⟩:=YF.mp hx;exact Zot (ZuK (ZuL P) j) _
def DkAt.pl{K:Ydg}{cA cT cH cD:XB}{H:Hp}{x:Dk}(h:DkAt K cA cT cH cD H x){n:Nat}(hn:n<16):okN (plainN x.A x.S n):=by
 unfold plainN;cases e:x.A n with
 |none=>exact λ_ z=>nomatch z
 |some y=>
  have hso:=h.ho.ba.so.st n;rw[h.ps]at hso;let⟨c1,c2⟩:=h.pb n hn;have c3:=h.ho.ba.so.coin hn;let⟨hr1,hr2⟩:=Zc6 (h.ho.ba.rw_ n y hn e).1;have hL:Supp (x.S n).store (([0,1,2,7,18446744073709551615]:XD).filter λq=>decide ((x.S n).store q≠0)):=by
   refine⟨List.Pairwise.filter _ nofun,λq=>?_⟩;rw[Ybk,Yr];refine⟨λh=>h.2,λh=>⟨?_,h⟩⟩;have:=(hso q).2 h;simp only[ps5,Yh,YL,Yah]at this |-;omega
  have hl5:=Yj (Ybv (λq=>decide ((x.S n).store q≠0)) [0,1,2,7,18446744073709551615]) (show 5<=5 by decide);show okN (plainS (x.S n));unfold plainS;rw[Zg5 hL];generalize ([0,1,2,7,18446744073709551615]:XD).filter (λq=>decide ((x.S n).store q≠0))=L at hL hl5;unfold plainOf;intro m hm;rcases Yw.mp hm with z|z
  .rcases Yw.mp z with z|z
   .rcases Yw.mp z with z|z
    .simp only[Yh,YL,Yah]at z;rcases z with rfl|rfl|rfl|rfl
     .exact c2
     .exact c3
     .exact c1
     .exact ⟨(),()⟩
    .obtain ⟨r,hr,z⟩:=Yb5.mp z;have ok:=Zjx hr1 (hr2 r hr);unfold Zba at z;simp only[Yh,YL,Yah]at z;rcases z with rfl|rfl
     .have:=Zpr ok.1;exact⟨(),()⟩
     .obtain ⟨w,o⟩:=r;cases o with
      |none=>exact(show(0:Int)<=0/\(0:Int)<18446744073709551616 by decide)
      |some n=>exact ok.2 n rfl
   .rw [Ye.mp z];exact⟨(),()⟩
  .obtain ⟨p,hp,z⟩:=Yb5.mp z;simp only[Yh,YL,Yah]at z;rcases z with rfl|rfl
   .exact Zom ((hso m).2 ((hL.2 m).mp hp))
   .exact (hso p).1
def inV_ss{x:Nat}{ss:XJ}:inV (.int (x:Int)) (ss.map λj:Nat=>V.int (j:Int))=decide (x∈ss):=by
 unfold inV;rw[Ybn,Yby,Yr];constructor
 .rintro ⟨v,hv,e⟩;let⟨j,hj,rfl⟩:=YF.mp hv;have:(j:Int)=(x:Int):=eq_of_beq (show((j:Int)==(x:Int))=true from e);rw[show x=j by omega];exact hj
 .intro h;exact⟨_,YF.mpr ⟨x,h,rfl⟩,Yal (x:Int)⟩
def ZkQ{K:Ydg}{neg:Bool}{H:Hp}{Q:VK}{p:XB}{x:Nat}{ss:XJ}(h:SqL K H p (ss.map λj:Nat=>V.int (j:Int)))(q:Q (.bl (if neg=true then !decide (x∈ss)else decide (x∈ss))) H):rIn K neg (.int (x:Int)) (.ref p) H Q:=by
 refine⟨p,_,rfl,.inl h,rfl,?_,?_⟩
 .rw [YbN];exact Y7.mpr λ_ _=>rfl
 .rw [inV_ss];exact q
def Zg8(f:Nat->Int)(t:Nat):((List.range (t+1)).map f).sum=((List.range t).map f).sum+f t:=by
 rw[Ycf,YA,YcV];simp
def Zps(s:AcS):(plainS s)[1]?=some s.coin/\(plainS s)[2]?=some s.purse:=⟨rfl,rfl⟩
def ZwF(a b:Int):(Dt.tup [.int a,.int b]).dep<=64:=by simp[Dt.dep,Dt.deps]
inductive spLaw(K:Ydg)(vs:XF)(H:Hp)(Q:VK)(E9:XK):Prop
 |mk(a:XB)(ns:XD):vs=[.ref a]->SqL K H a (ns.map V.int)->ns.length<=63->(∀H',Q (.bl true) H')->spLaw K vs H Q E9
def Zdj:FnScope ["_law_script","_law_slots_here","_law_desk","_law_brought","_law_top","_law_coins","_law_purses","_law_slot_here","_law_text","_law_paper"] ["_law_script"] (Zae (top 185)):=by walk_at"c"
include Y
def ok_law{f:XB}{fd:FuncData}(F:Fun K "law" "law" (top 185) f fd):FnOk P w K mg base CX0 56 f fd ["_law_script"] (spLaw K):=by
 refine F.ok Zdj (λvs H Q E h=>?_) (λcdv A outer s H vs Q E hr h=>?_)
 .obtain ⟨a,ns,rfl,_⟩:=h;rfl
 .obtain ⟨a,ns,rfl,hS,hnl,k⟩:=h;refine⟨_,(Zac (Zao (i:=1) Zdj.nd (Zam (ZrZ Y) (Wa (pv 0)))) (Zac (Zao (i:=2) Zdj.nd (ZnE (ZgQ Y) (hr.mono nofun) rfl)) (Zac (Zao (i:=3) Zdj.nd (Zam (Zub Y) (Zaa (pv 2) (Zaa (pv 0) (Wa (pv 1)))))) (Zac (ZaG (PW.pt (Zd0 (Zas Zce (pv 3) Zbl) (ZcL (ZbP (ZbN (Zam (Znm Y) (Zaa (pv 2) (Zaa (pv 0) (Wa (pv 1)))))))))) (Wb ZcD) Zat) (Zac (Zao (i:=4) Zdj.nd (Zam (Zf2 Y) (Wa (ZaB (Zbh Y) (hr.mono nofun) (pv 2) (Wa Zav))))) (Zac (Zao (i:=5) Zdj.nd Zag) (Zac (Zao (i:=6) Zdj.nd (Zam (Zf2 Y) (Wa (ZaB (Zbh Y) (hr.mono nofun) (pv 2) (Wa Zav))))) (Zac (ZbQ YV rfl (ZcM rfl Y.k (Wa Zag)) (ZaU (i:=7) Zdj.nd) (Zac (Zao (i:=8) Zdj.nd (ZaB (Zbh Y) (hr.mono nofun) (pv 2) (Wa (ZqT (pj_c (pj_v (pv 7) Zls)))))) (Zac (ZaG (ZbP (ZbN (Zau Zmu rfl Y.x YbB (Zaa (pv 8) (Wa (Zqa rfl Y.h YM)))))) (Wb ZcD) Zat) (Zac (Zao (i:=9) Zdj.nd (Zam (ZkI Y) (Wa (pv 8)))) (Zac (ZaG (PW.pt (Zd0 (Zas ZfC (Zaq ZaK (pv 9) Zag) (pv 7)) (Zd0 (Zas ZfC (Zau ZaN rfl Y.d Ys (Wa (Zaq ZaK (pv 9) Zag))) Zag) (Zd0 (Zas ZfC (Zam (Zfy Y) (Wa (pv 9))) (pv 8)) (ZcL (Zas Zvw (Zam (ZtX Y) (Zaa (pv 9) (Wa (pv 4)))) ZcD)))))) (Wb ZcD) Zat) (Zac (ZaG (PW.pt (ZkT (Zas Zdm (pv 7) (pv 1) rfl) (Zha (Zas (op_ne1 hr.units) (Zaq ZaK (pv 9) Zag) (ZaI Zab))))) (Wb ZcD) Zat) (Zaf (ZaG (Zas ZcP (pv 7) (pv 1) rfl) (Zac (ZaG (ZbP (ZbN (Zam (Zmh Y) (Zaa (pv 2) (Zaa (pv 7) (Wa (Zaq ZaK (pv 9) Zag))))))) (Wb ZcD) Zat) (Zac (Zao (i:=5) Zdj.nd (Zaw Za0 (pv 5) (Zaq Zan (ZcE ZaK (pv 9) Zag (λ_ _=>rfl)) Zag))) (Zaf (Zao (i:=6) Zdj.nd (Zaw Za0 (pv 6) (Zaq Zan (ZcE ZaK (pv 9) Zag (λ_ _=>rfl)) Zag)))))) Zat)))))))) (Wb (ZbB (op_eq1 hr.units) (ZaH (Zaa (pv 5) (Wa (pv 6)))) (pv 3))))))))))),?_⟩;left;generalize hT2:tSeq (tFor _ _ _) _=T2;have big:(100:Nat)<sizeLine:=nofun;exists⟨a,ns,rfl,hS,λSL ss H0 s0 qSL hSl h4 nd=>?_⟩;have hS0:=s0.seq hS;ext;intro d dx hd hdx hne;have sm0:Same H0 (upd (upd H0 dx (.own d)) d (.ins cDesk dx [])):=(Same.new hdx).newT (by rw[Zaj (YR hne)];exact hd);refine⟨d,dx,ps5,rfl,Zad,by show 5<=40;decide,λi H1 hip hD k1 nD o1=>⟨rfl,?_⟩⟩;have kp:∀b u,H0 b=some u->H1 b=some u/\NotHo i (λ_=>none) b:=λb u e=>k1 b u (sm0 _ _ e) (Zai e hd);have dk0:DkAt K qa cStamps cHouse cDesk H1 ⟨d,dx,i,λ_=>none,zS,0,λ_=>[]⟩:=⟨hD,o1,λj _=>rfl,⟨Y9 0,by show(0:Int)<18446744073709551616;decide⟩,λn hn=>⟨⟨by show(0:Int)<=0;decide,by show(0:Int)<18446744073709551616;decide⟩,⟨by show(0:Int)<=0;decide,by show(0:Int)<18446744073709551616;decide⟩⟩,nD,hip⟩;have hN:SqN K i H1 a (ns.map V.int):=λH' kk=>by
   rcases hS0 with(h|⟨o,h⟩)|h
   .exact .inl (.inl (kk _ _ (kp _ _ h).1 (kp _ _ h).2))
   .exact .inl (.inr ⟨o,kk _ _ (kp _ _ h).1 (kp _ _ h).2⟩)
   .exact .inr h
  have hSl1:SlAt H1 SL ss:=⟨(kp _ _ hSl.1).1,hSl.2⟩;have nSL:=(kp _ _ hSl.1).2;clear kp k1 sm0 hS0 hD nD o1 s0 hS hd hdx hne hSl qSL;exists⟨⟨d,dx,i,λ_=>none,zS,0,λ_=>[]⟩,a,SL,ns,ss,rfl,dk0,rfl,rfl,rfl,hN,hSl1,nSL,h4,nd,λAr S P C W q H2 k2 dk2 sm2 gq=>?_⟩;have hS2:SqL K H2 a (ns.map V.int):=hN H2 λb u e n=>(k2 b u e n).2;let⟨nSL2,gSL2⟩:=k2 _ _ hSl1.1 nSL;have hSl2:SlAt H2 SL ss:=⟨gSL2,hSl1.2⟩;exists⟨Dk.at ⟨d,dx,i,λ_=>none,zS,0,λ_=>[]⟩ Ar S 0 P,a,SL,ns,ss,C,W,rfl,dk2,sm2,hS2,hSl2,nSL2,λS3 tk P3 H3 k3 dk3 sm3=>?_⟩;have dk3:DkAt K qa cStamps cHouse cDesk H3 ⟨d,dx,i,Ar,S3,tk,P3⟩:=dk3;have sm3:Sm ⟨d,dx,i,Ar,S3,tk,P3⟩ ss C W 4:=sm3;have gSL3:=k3 _ _ gSL2 nSL2.not;have gq3:SqT K H3 q [.int C,.int W]:=(dk2.ho.imm k3).tup (Zb0 gq);clear dk0 dk2 sm2 k2 k3 hN hSl1 nSL hS2 hSl2 nSL2 gSL2 gq;have top64:=Zot (ZuK (ZuL P3) 4) 0;exists Zar dk3.de rfl ?_;ext;rw[show(Str.ofString "top")=rowT (("top":Xq).cps.toList::numsW [])by decide];refine ZdP .top rfl dk3 (Ye.mpr rfl) (λm hm=>by cases hm) λl4 H4 s4 hl4=>⟨i,Ar,S3,tk,P3,l4,rfl,dk3.ho.same s4,top64,?_⟩;have dk4:=dk3.same s4;exists⟨_,rfl,top64,?_⟩;exists Zar dk4.de rfl ?_;ext;rw[show(Str.ofString "till")=rowT (("till":Xq).cps.toList::numsW [])by decide];refine ZdP .till rfl dk4 (Ye.mpr rfl) (λm hm=>by cases hm) λl5 H5 s5 hl5=>⟨i,Ar,S3,tk,P3,l5,rfl,dk4.ho.same s5,dk4.tb,?_⟩;have dk5:=dk4.same s5;exists⟨_,rfl,dk4.tb,?_⟩;have gSL5:=(s4.trans s5) _ _ gSL3;have gq5:=(s4.trans s5).tup gq3;subst hT2;clear dk3 dk4 gSL3 gq3 s4 s5 hl4 hl5;exists ZbT (ZdT ?_);exists⟨_,rfl,(),(),?_⟩;rw[show(16:Int).toNat=16 from rfl];obtain⟨PV,hPV⟩:∃PV:Nat->L2.St->Hp->Prop,PV=λt U' H'=>Same H5 H'/\∃v7 v8 v9,U'=[some (.ref a),some (.ref SL),some (.ref d),some (.ref q),some (.int (topN P3)),some (.int (((List.range t).map λj=>(S3 j).coin).sum)),some (.int (tk+((List.range t).map λj=>(S3 j).purse).sum)),v7,v8,v9]:=⟨_,rfl⟩;refine Zdk PV (by rw[hPV];exact⟨Same.refl _,_,_,_,by rw[show tk+((List.range 0).map λj=>(S3 j).purse).sum=tk from YbO tk];rfl⟩) ?_ ?_
  .intro t U' H6 ht hI;rw[hPV]at hI;let⟨s6,v7,v8,v9,rfl⟩:=hI;have dk:=dk5.same s6;have hS6:SqL K H6 SL (ss.map λj:Nat=>V.int (j:Int)):=Zal (s6 _ _ gSL5);have okp:=dk.pl ht;have okw:=way_ok P3 t;have lw:(wayOf (stP P3) 4 t).length=4:=ZcU ..;have pok:=pap_ok dk.ex ht;rw[YcI];exists Zar dk.de rfl ?_;ext;walk_at"f0";walk_at"fc";walk_at"fv";walk_at"fe";rw[show([]++(Str.ofString "paper ").cps.toList++sNum (t:Int).toNat)=glueL [32] (("paper":Xq).cps.toList::numsW [t])by rw[Yt];rfl];refine ZdP .paper rfl dk (Ye.mpr rfl) (λm hm=>by rw[Ye.mp hm];omega) λl6 H7 s7 hl6=>⟨i,Ar,S3,tk,P3,l6,t,rfl,dk.ho.same s7,hl6,ht,okp,okw,λH8 s8 hlen=>?_⟩;have okp:okN (plainN Ar S3 t):=okp;have pok:(riseS (t:Int) (ZbV (plainN Ar S3 t)) (wayOf (stP P3) 4 t)).1=0/\rise (t:Int) (ZbV (plainN Ar S3 t)) (wayOf (stP P3) 4 t)=topN P3:=pok;have ePl:plainN Ar S3 t=plainN Ar S3 t:=rfl;obtain⟨pl,hpl⟩:∃pl,plainN Ar S3 t=pl:=⟨_,rfl⟩;obtain⟨wy,hwy⟩:∃wy,wayOf (stP P3) 4 t=wy:=⟨_,rfl⟩;rw[hpl,hwy]at pok;rw[hpl]at okp hlen;rw[hwy]at okw lw;rw[hpl,hwy];exists⟨t,pl,wy,rfl,(),okp,okw,(),(),λpp H9 s9 hpap=>?_⟩;let⟨na,wa,hp1,hp2,hp3⟩:=hpap;have lp3:([.int (t:Int),.ref na,.ref wa]:XF).length=3:=rfl;have lwv:(wy.map V.int).length=4:=by rw[Ya];exact lw
   walk_at"Z";refine⟨pp,t,pl,wy,rfl,⟨na,wa,hp1,hp2,hp3⟩,(),(),okp,okw,(),(),λH10 s10=>?_⟩;repeat' walk_at"rdz"
   .exact absurd rfl ‹_›
   refine⟨pp,t,pl,wy,topN P3,rfl,⟨na,wa,s10.tup hp1,s10.seq hp2,s10.seq hp3⟩,hlen,(),λH11 s11=>?_⟩;rw[lw,fits16 ht,pok.2,YG rfl];exists Zvx ?_;have s9b:=s10.trans s11;have sA:=(s7.trans s8).trans (s9.trans s9b);have hp1:=s9b.tup hp1;have hp2:=s9b.seq hp2;have hp3:=s9b.seq hp3;have hS11:=sA.seq hS6;have dk11:=dk.same sA;by_cases hin:t∈ss
   .ext;rw[if_neg nofun];exists ZkQ hS11 ?_;rw[if_pos rfl,YG hin];exists ZkQ hS11 ?_;rw[if_neg nofun,YG hin];ext;let⟨y,hy⟩:=(sm3.mm t).mpr hin;have hy:Ar t=some y:=hy;have e2:pl=plainS (S3 t):=by rw[<- hpl];unfold plainN;rw[hy]
    subst e2;let⟨p1,p2⟩:=Zps (S3 t);refine⟨⟨d,dx,i,Ar,S3,tk,P3⟩,t,na,y,rfl,dk11,ht,hy,hp2,λH12 s12=>?_⟩;have hp1:=s12.tup hp1;have hp2:=s12.seq hp2;exists ZaA hp2 (ZaL (i:=1) (v:=.int (S3 t).coin) (by rw[Yb,p1];rfl) rfl) ?_;exists ZaA hp2 (ZaL (i:=2) (v:=.int (S3 t).purse) (by rw[Yb,p2];rfl) rfl) ?_;ext;rw[show((List.range t).map λj=>(S3 j).coin).sum+(S3 t).coin=((List.range (t+1)).map λj=>(S3 j).coin).sum from(Zg8 _ t).symm,show tk+((List.range t).map λj=>(S3 j).purse).sum+(S3 t).purse=tk+((List.range (t+1)).map λj=>(S3 j).purse).sum by rw[Zg8,Int.add_assoc]];rw[hPV];exact⟨s6.trans (sA.trans s12),_,_,_,rfl⟩
   .have hn:Ar t=none:=by
     cases e:Ar t with
     |none=>rfl
     |some y=>exact absurd ((sm3.mm t).mp ⟨y,e⟩) hin
    have e2:pl=[]:=by rw[<- hpl];unfold plainN;rw[hn]
    subst e2;let⟨z1,z2⟩:=dk.ho.ba.no t ht hn;have z1:(S3 t).coin=0:=z1;have z2:(S3 t).purse=0:=z2;ext;rw[if_neg nofun];exists ZkQ hS11 ?_;rw[if_pos rfl,YD hin];exists⟨show 0<=sizeLine by decide,λem hem=>?_⟩;have s12:=Same.new hem (o:=.lst []);refine rd_ne1 (d:=.lst []) (Zuu (s12.seq hp2) ZjM) (Zuu (Zal Zad) ZjM) nofun ?_;have hS12:=s12.seq hS11;exists ZkQ hS12 ?_;rw[if_neg nofun,YD hin];ext;rw[show((List.range t).map λj=>(S3 j).coin).sum=((List.range (t+1)).map λj=>(S3 j).coin).sum by rw[Zg8,z1,YbO],show((List.range t).map λj=>(S3 j).purse).sum=((List.range (t+1)).map λj=>(S3 j).purse).sum by rw[Zg8,z2,YbO]];rw[hPV];exact⟨s6.trans (sA.trans s12),_,_,_,rfl⟩
  .intro U' H6 hI;rw[hPV]at hI;let⟨s6,v7,v8,v9,rfl⟩:=hI;dsimp only;exists⟨show 2<=sizeLine by decide,λu hu=>?_⟩;have e1:((List.range 16).map λj=>(S3 j).coin).sum=C:=sm3.sc;have e2:tk+((List.range 16).map λj=>(S3 j).purse).sum=W:=by have:=sm3.sp;rw[<- this];exact Int.add_comm _ _
   rw[e1,e2];have s7:=Same.new hu (o:=.tup [.int C,.int W]);exists rd_eq1 (d:=.tup [.int C,.int W]) (Zut (Zb0 Zad) (ZgW ZnH (ZgW ZnH ZjM))) (Zut (s7.tup (s6.tup gq5)) (ZgW ZnH (ZgW ZnH ZjM))) (ZwF _ _) ?_;exact k _
omit Y
include Y
end
end My
open PySem PySem.W PyProof.Rows
local macro_rules|`(tactic|walk_at"vals")=>`(tactic|first
 |exact L2.Zsw
 |(refine L2.Zsx ?_;walk_at"vals")
 |(refine L2.Zsy ?_;walk_at"vals")
 |fail)
local macro_rules|`(tactic|walk_at"t0")=>`(tactic|(dsimp only[L2.KOf];refine' My.dT_at (by assumption) (by assumption) ?a ?l ?e ?s ?n ?h;(case a=>k_is);(case l=>k_is);(case e=>rfl);(case s=>rfl);(case n=>decide +kernel)))
local macro_rules|`(tactic|walk_at"t1")=>`(tactic|(refine' My.tabE.cons ?e ?r ?h;(case e=>rfl);(case r=>(refine' YaJ (by assumption) (by assumption) ?q;(case q=>k_is)))))
local macro_rules|`(tactic|walk_at"t2")=>`(tactic|(refine' My.tabE.cons ?e ?r ?h;(case e=>rfl);(case r=>(refine' My.rtN_mk ?u;(case u=>(dsimp only[List.map,My.iV,My.qV];refine' L2.Zms ?l ?v ?z;(case l=>k_is);(case v=>walk_at"vals");(case z=>decide)))))))
local macro_rules|`(tactic|walk_at"tf")=>`(tactic|(walk_at"t0";(repeat walk_at"t1");exact My.tabE.nil))
local macro_rules|`(tactic|walk_at"tt")=>`(tactic|(walk_at"t0";(repeat walk_at"t2");exact My.tabE.nil))
abbrev My.PP:=PySem.Challenge.rw_meterhouse_k68_whole_from_text_to_paper.prog
local macro_rules|`(tactic|walk_at"D")=>`(tactic|(dsimp only[L2.KOf];refine' L2.Zsq (by assumption) (by assumption) ?a ?l ?c ?k;(case a=>k_is);(case l=>k_is);(case c=>k_is);(case k=>k_is)))
local macro_rules|`(tactic|walk_at"E")=>`(tactic|(dsimp only[L2.KOf];refine' L2.Zqu ?a ?i ?l ?c ?k;(case a=>k_is);(case i=>k_is);(case l=>k_is);(case c=>k_is);(case k=>k_is)))
def My.naK{K:Ydg}{C:XB}{a:Str}(h:PySem.W.findIn K (.ref C) a=some none):L2.NoAttr K C a:=h
def My.clK{K:Ydg}{h:XT}{mg:XA}{C:XB}{x:Str}(X:K.In h)(G:h.Ns mainGlobals mg)(aC:PySem.W.nsIn K mainGlobals x=some (some (.ref C)))(pg:PySem.W.plainGet K C Str.empty=true)(hd:PySem.W.hasDictIn K C=true)(po:PySem.W.plainOver K C=true)(sa:PySem.W.findIn K (.ref C) "__setattr__"=some (some (.builtin "object.__setattr__")))(mk:PySem.W.makesIn K C=true)(kc:PySem.W.keepIn K (.ref C)=true):L2.ClsF K mg x C:=⟨⟨pg,hd,po,sa⟩,mk,kc,YaJ X G aC⟩
local macro_rules|`(tactic|walk_at"T")=>`(tactic|(dsimp only[L2.KOf];refine' My.clK (by assumption) (by assumption) ?a ?b ?c ?d ?e ?f ?g;(case a=>k_is);(case b=>k_is);(case c=>k_is);(case d=>k_is);(case e=>k_is);(case f=>k_is);(case g=>k_is)))
local macro_rules|`(tactic|walk_at"A")=>`(tactic|(dsimp only[L2.KOf];refine' My.naK ?a;(case a=>k_is)))
def My.mkD1{K:Ydg}{C:XB}{m qual:Str}{st:Stmt}{f T:XB}{oc c2:XR}{od an d2:Xb}{osl s2:XZ}{kV doc pm cdv ct:XR}{z:Int}{tok:Tok}{n:Nat}(a:PySem.W.findIn K (.ref C) m=some (some (.ref f)))(i:PySem.W.isFn K (.ref f)=true)(l:K.lookup f=some ⟨oc,od,.func (PySem.W.fnOf m qual (L2.Zbd st) (L2.ZaV st) (L2.Zae st) (.ref T) kV doc pm an cdv ct),osl⟩)(c:PySem.W.codeIn K cdv qual=true)(k:PySem.W.keepIn K (.ref f)=true)(d:K.lookup T=some ⟨c2,d2,.seq #[.int z tok] n,s2⟩):∃tok,L2.Zb4 K C m qual st #[.int z tok]:=⟨tok,L2.Zi6 a i l c k d⟩
local macro_rules|`(tactic|walk_at"M")=>`(tactic|(dsimp only[L2.KOf];refine' My.mkD1 ?a ?i ?l ?c ?k ?d;(case a=>k_is);(case i=>k_is);(case l=>k_is);(case c=>k_is);(case k=>k_is);(case d=>k_is)))
local macro_rules|`(tactic|walk_at"N")=>`(tactic|(refine' PySem.W.mg_none_of (by assumption) (by assumption) ?a;(case a=>k_is)))
local macro_rules|`(tactic|walk_at"Dq")=>`(tactic|(dsimp only[L2.KOf];refine' L2.ZqU (by assumption) (by assumption) ?a ?l ?c ?k;(case a=>k_is);(case l=>k_is);(case c=>k_is);(case k=>k_is)))
def My.mkD2{K:Ydg}{C:XB}{m qual:Str}{st:Stmt}{f T:XB}{oc c2:XR}{od an d2:Xb}{osl s2:XZ}{kV doc pm cdv ct:XR}{z:Int}{b:Bool}{tok:Tok}{n:Nat}(a:PySem.W.findIn K (.ref C) m=some (some (.ref f)))(i:PySem.W.isFn K (.ref f)=true)(l:K.lookup f=some ⟨oc,od,.func (PySem.W.fnOf m qual (L2.Zbd st) (L2.ZaV st) (L2.Zae st) (.ref T) kV doc pm an cdv ct),osl⟩)(c:PySem.W.codeIn K cdv qual=true)(k:PySem.W.keepIn K (.ref f)=true)(d:K.lookup T=some ⟨c2,d2,.seq #[.int z tok,.bool b] n,s2⟩):∃tok,L2.Zb4 K C m qual st #[.int z tok,.bool b]:=⟨tok,L2.Zi6 a i l c k d⟩
local macro_rules|`(tactic|walk_at"m")=>`(tactic|(dsimp only[L2.KOf];refine' My.mkD2 ?a ?i ?l ?c ?k ?d;(case a=>k_is);(case i=>k_is);(case l=>k_is);(case c=>k_is);(case k=>k_is);(case d=>k_is)))
local macro_rules|`(tactic|walk_at"i")=>`(tactic|(refine' L2.ZoI (by assumption) (by assumption) ?a;(case a=>k_is)))
section
set_option maxHeartbeats 0
def My.e0:PySem.Challenge.rw_meterhouse_k68_whole_from_text_to_paper=PySem.Challenge.rw_meterhouse_k68_whole_from_text_to_paper/\Qhd.heap_39=Qhd.heap_39:=by
 k_fill;exact⟨rfl,rfl⟩
variable{w:XO}{mg:XA}{h:XT}(KX:(Qhd.heap_39 w.params).In h)(G:h.Ns mainGlobals mg)
include KX G
def My.e1:∃aT:Addr,L2.ZaM mg "ROWS" (.ref aT)/\My.Zre My.PP w (L2.KOf KX) aT:=My.ZvT (by walk_at"tt")
def My.e2:∃aS:Addr,L2.ZaM mg "SUMS" (.ref aS)/\(aS==sysModules)=false/\My.Zix My.PP w (L2.KOf KX) aS (My.RfN mg) My.sumT:=by walk_at"tf"
def My.e3:∃aD:Addr,L2.ZaM mg "DOINGS" (.ref aD)/\(aD==sysModules)=false/\My.Zix My.PP w (L2.KOf KX) aD (My.RfN mg) My.doT:=by walk_at"tf"
def My.e4:∃aA:Addr,L2.ZaM mg "ANSWERS" (.ref aA)/\(aA==sysModules)=false/\My.Zix My.PP w (L2.KOf KX) aA (My.RfN mg) My.ansT:=by walk_at"tf"
def My.e5:∃aK:Addr,L2.ZaM mg "COUNTS" (.ref aK)/\(aK==sysModules)=false/\My.Zix My.PP w (L2.KOf KX) aK (My.RtN (L2.KOf KX) My.iV) My.cntT:=by walk_at"tt"
def My.gFxA:My.FxA (L2.KOf KX) mg:=by constructor<;>walk_at"D"
def My.gFxB:My.FxB (L2.KOf KX) mg:=by constructor<;>walk_at"D"
def My.e9:∃aS qG aT aD zb qK aA aK qS tkS tkT tkF,∀base:XT,(Qhd.heap_39 w.params).In base->base.Ns mainGlobals mg->My.Fx My.PP w (L2.KOf KX) mg base aS qG aT 336 514 561 587 402 656 aD zb 1050 qK 1216 1388 aA aK qS tkS tkT tkF:=by
 have gFxA:=My.gFxA KX G;have gFxB:=My.gFxB KX G
 have qv:L2.ZaM mg "FIGURES_figures" (.str "0123456789"):=by
  refine' L2.ZfI KX G ?a
  (case a=>k_is)
 have qw:L2.ZaM mg "PARTING_codes" (.str "; "):=by
  refine' L2.ZfI KX G ?a
  (case a=>k_is)
 have qx:L2.ZaM mg "PARTING_notes" (.str " / "):=by
  refine' L2.ZfI KX G ?a
  (case a=>k_is)
 have q0:L2.Zqk (L2.KOf KX) mg "price" (My.top 23) #[.bool false]:=by
  dsimp only[L2.KOf];refine' L2.Zql KX G ?a ?l ?c ?k ?d
  (case a=>k_is);(case l=>k_is);(case c=>k_is);(case k=>k_is);(case d=>k_is)
 have zh:=My.e1 KX G;let⟨aT,zi,rok⟩:=zh;have S1:=My.e2 KX G
 let⟨aS,zj,_,dkS⟩:=S1;have DO1:=My.e3 KX G
 let⟨aD,qX,_,dkD⟩:=DO1;have AN1:=My.e4 KX G
 let⟨aA,qQ,hsA,dkA⟩:=AN1;have CN1:=My.e5 KX G
 let⟨aK,qY,_,dkC⟩:=CN1;have qF:∃a,L2.ZaM mg "REACHING" (.ref a)/\L2.TupK (L2.KOf KX) a ((["copy","swap"]:List PySem.Str).map L2.V.str):=by
  dsimp only[L2.KOf];refine' L2.Zmw KX G ?a ?l ?v ?z
  (case a=>k_is);(case l=>k_is);(case v=>walk_at"vals");(case z=>decide)
 let⟨qG,qH,qI⟩:=qF;have qR:∃a,L2.ZaM mg "CALLING" (.ref a)/\L2.TupK (L2.KOf KX) a ((["call","borrow","look"]:List PySem.Str).map L2.V.str):=by
  dsimp only[L2.KOf];refine' L2.Zmw KX G ?a ?l ?v ?z
  (case a=>k_is);(case l=>k_is);(case v=>walk_at"vals");(case z=>decide)
 let⟨qS,qq,qT⟩:=qR;have qJ:∃a,L2.ZaM mg "NUMBERED" (.ref a)/\L2.TupK (L2.KOf KX) a ((["push","copy","swap","jump","jumpif"]:List PySem.Str).map L2.V.str):=by
  dsimp only[L2.KOf];refine' L2.Zmw KX G ?a ?l ?v ?z
  (case a=>k_is);(case l=>k_is);(case v=>walk_at"vals");(case z=>decide)
 let⟨qK,qL,qM⟩:=qJ;have za:∃a,L2.ZaM mg "WORDS" (.ref a)/\L2.TupK (L2.KOf KX) a ((["push","drop","copy","swap","add","minus","times","over","rest","below","same","both","either","unlike","up","down","jump","jumpif","load","save","me","from","sent","word","coin","note","call","borrow","look","give","fail"]:List PySem.Str).map L2.V.str)/\L2.Tup0 (L2.KOf KX) a:=by
  dsimp only[L2.KOf];refine' L2.ZsK KX G ?a ?l ?v ?z
  (case a=>k_is);(case l=>k_is);(case v=>walk_at"vals");(case z=>decide)
 let⟨zb,zc,zd,ze⟩:=za;obtain⟨tkF,zo⟩:∃tok,L2.Zb4 (L2.KOf KX) 656 "__init__" "Frame.__init__" (My.tQ 56 0) #[.int 1 tok,.bool false]:=by walk_at"m"
 obtain⟨tkS,qC⟩:∃tok,L2.Zb4 (L2.KOf KX) 1216 "send" "House.send" (My.tQ 128 6) #[.int 0 tok]:=by walk_at"M"
 obtain⟨tkT,qA⟩:∃tok,L2.Zb4 (L2.KOf KX) 1216 "tried" "House.tried" (My.tQ 128 7) #[.int 0 tok]:=by walk_at"M"
 exact⟨aS,qG,aT,aD,zb,qK,aA,aK,qS,tkS,tkT,tkF,λbase KB GB=>by constructor<;>first|assumption|walk_at"D"|walk_at"i"|walk_at"E"|walk_at"N"|walk_at"Dq"|(constructor<;>first|walk_at"T"|walk_at"A")⟩
end
set_option maxRecDepth 100000 in
set_option maxHeartbeats 0 in
theorem PySem.Challenge.cw_meterhouse_k68_whole_from_text_to_paper_holds : PySem.Challenge.rw_meterhouse_k68_whole_from_text_to_paper.Holds := by
 refine Qhd ?_
 k_fill
 refine L2.Zsp (l:=PySem.Challenge.rw_meterhouse_k68_whole_from_text_to_paper) (n:=63) (k:=56) (x:="_law_script") (CX:=L2.CX0) (sp:=My.spLaw) rfl nofun rfl ⟨rfl,nofun,nofun⟩ (λw h Y=>Y) ?F ?S ?C
 case F=>
  intro w mg fa h KX G hmg;have zk:L2.ZaC (L2.KOf KX) mg "law" (My.top 185):=by walk_at"D"
  obtain⟨aS,qG,aT,aD,zb,qK,aA,aK,qS,tkS,tkT,tkF,Y⟩:=My.e9 KX G;let⟨fl,fd,FL,ml⟩:=zk;have e0:=hmg.symm.trans ml;cases e0;exact⟨fd,L2.ZoJ FL,λbase KB GB=>My.ok_law (Y:=Y base KB GB) FL⟩
 case S=>exact λK H a ns hl hO hS=>⟨a,ns,rfl,hS,hl,λ_=>rfl⟩
 case C=>exact λ_ _ _ _ z=>z
