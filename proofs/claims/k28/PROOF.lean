import PyProof.Rows.All
import KE.KNestM
import Wide.FinOn
import PyProof.EqAt
import PyProof.EqKinds
import PyProof.TupleCall
import PyProof.ZipIter
import PyProof.WalksMore
import PyProof.CompFree
import PyProof.NeKinds
import KE.KRevIter
import PyProof.Rows.Range3
import KE.KIntText
import OpenK.KOwn
import PyProof.NsDelKeeps
import KE.KIsAll
import PyProof.CompMap
import PyProof.Cells
import PyProof.ConsumeWalk
import PyProof.SumWalk
import PyProof.Rows.SortShell
import PyProof.MeetsStr
import PyProof.StrOps2
import PyProof.DictWalks
import PyProof.Rows.SetFrom
import PyProof.SetRoads
import PyProof.ListRange
import PyProof.ListNew
import PySem.Challenge.RW_partsmith_k28_breaks
local macro_rules|`(tactic|omega)=>`(tactic|lia)
local macro_rules|`(tactic|ext)=>`(tactic|omega)
local macro_rules|`(())=>`(by omega)
local macro_rules|`(∅)=>`(by decide)
local macro_rules|`(↑$s)=>`(($s).heap.objs.size)
local macro_rules|`($a <|> $b)=>`(autoParam $a $b)
local macro_rules (kind:=«term{_}»)|`({$xs,*})=>`(⟨$xs,*⟩)
local macro_rules|`(⇑$x)=>`(($x).length)
def tpt:Nat->Lean.Term->Lean.MacroM (Lean.TSyntax `rcasesPat)
|0,_=>Lean.Macro.throwUnsupported
|n+1,p=>match p with
 |`(⟨$ps,*⟩)=>do let qs<-ps.getElems.mapM (tpt n);`(rcasesPat|⟨$[$qs],*⟩)
 |`($i:ident)=>`(rcasesPat|$i:ident)
 |_=>`(rcasesPat|_)
local macro_rules|`(tactic|let $d:letDecl)=>`(tactic|have $d:letDecl)
local macro_rules|`(tactic|let $p:term:=$v:term)=>do let q<-tpt 9 p;`(tactic|obtain $q:rcasesPat:=$v)
set_option compiler.extract_closed false
set_option Elab.async false
set_option linter.all false
set_option maxRecDepth 100000
set_option maxHeartbeats 8000000
def qa_1(h:True:=by first | exact .inl rfl | exact .inr rfl | assumption):=h
def qa_:=qa_1._auto_1
def qb_1(h:True:=by decide):=h
def qb_:=qb_1._auto_1
def qc_1(h:True:=by first | exact Hi _ (by decide) (by decide) | rfl):=h
def qc_:=qc_1._auto_1
def qd_1(h:True:=by intro _;rfl):=h
def qd_:=qd_1._auto_1
def qe_1(h:True:=by rfl):=h
def qe_:=qe_1._auto_1
def qf_1(h:True:=by with_unfolding_all rfl):=h
def qf_:=qf_1._auto_1
def qg_1(h:True:=by first | exact Or.inl rfl | exact Or.inr (Or.inl rfl) | exact Or.inr (Or.inr rfl)):=h
def qg_:=qg_1._auto_1
def qh_1(h:True:=by repeat constructor):=h
def qh_:=qh_1._auto_1
def qi_1(h:True:=by first | exact Or.inl rfl | exact Or.inr rfl):=h
def qi_:=qi_1._auto_1
def qj_1(h:True:=by exact fun _ _=>rfl):=h
def qj_:=qj_1._auto_1
def qk_1(h:True:=by intro vs H Q E h;first | (obtain⟨_,rfl,_⟩:=h;rfl) | (cases h;subst_vars;rfl)):=h
def qk_:=qk_1._auto_1
def ql_1(h:True:=by decide +kernel):=h
def ql_:=ql_1._auto_1
def qm_1(h:True:=by repeat' (first | exact trivial | exact .inl rfl | exact rfl | constructor)):=h
def qm_:=qm_1._auto_1
def qn_1(h:True:=by k_is):=h
def qn_:=qn_1._auto_1
def qo_1(h:True:=by intros;rfl):=h
def qo_:=qo_1._auto_1
def za:=@List.length_map
def zb:=@List.getElem?_eq_getElem
def zd:=@decide_eq_false
def ze:=@decide_eq_true
def zg:=@List.length_append
def zh:=@List.map_cons
def zj:=@List.map_append
def zk:=@Nat.le_refl
def zm:=@List.mem_cons_of_mem
def zp:=@List.mem_cons_self
def zr:=@Int.emod_lt_of_pos
def zt:=@List.length_cons
def zv:=@Int.emod_nonneg
def zw:=@List.getElem?_eq_some_iff
def zy:=@List.mem_singleton
def zA:=@List.map_map
def zB:=@List.mem_of_getElem?
def zC:=@List.mem_cons
def zD:=@List.not_mem_nil
def zE:=@List.append_assoc
def zF:=@List.mem_append
def zG:=@List.mem_map
def zH:=@List.mem_append_right
def zI:=@List.mem_append_left
def zJ:=@List.getElem?_map
def zK:=@Bool.false_ne_true
def zL:=@Nat.le_trans
def zM:=@List.take_length
def zN:=@Bool.and_eq_true
def zO:=@List.mem_map_of_mem
def zP:=@List.length_take
def zQ:=@List.length_range
def zR:=@List.nodup_append
def zT:=@List.pairwise_append
def zU:=@List.append_nil
def zV:=@Int.ediv_nonneg
def zW:=@Int.ediv_le_self
def zX:=@List.foldl_append
def zY:=@List.take_append_drop
def zZ:=@List.getElem?_append_right
def z9:=@List.flatten_cons
def ya:=@List.size_toArray
def yb:=@Nat.lt_of_lt_of_le
def yc:=@List.nodup_cons
def yd:=@of_decide_eq_true
def ye:=@Nat.lt_irrefl
def yf:=@Nat.zero_le
def yg:=@Nat.le_of_lt
def yh:=@Nat.ne_of_gt
def yi:=@Nat.ne_of_lt
def yj:=@Option.some.inj
def yk:=@List.getElem_mem
def ym:=@List.map_nil
def yn:=@List.any_eq_true
def yo:=@List.all_eq_true
def yp:=@List.lookup_cons
def yq:=@List.length_pos_iff
def yr:=@List.length_eq_zero_iff
def yt:=@PySem.wpAny_bind
def yu:=@PySem.Heap.get?_push_of_some
def yv:=@PySem.wpAny_pure
def yw:=@PySem.Heap.get?_push_size
def yx:=@PySem.Heap.lt_size
def yy:=@PySem.Heap.get?_update_other
def yz:=@PySem.Heap.get?_update_self
abbrev yA:=PySem.W.Frag
def yB:=@PySem.sizeLine_eq
def yC:=@PySem.F.plainAttrs_list
def yD:=@PySem.F.type_list_append
def yE:=@PySem.F.slot_list_append
def yF:=@PySem.F.plainAttrs_str
def yG:=@PySem.F.type_str_join
def yH:=@PySem.F.slot_str_join
def yI:=@PySem.F.type_str_split
def yJ:=@PySem.F.slot_str_split
def yK:=@Int.eq_ofNat_of_zero_le
def yL:=@PyProof.Rows.callWith_type1
def yM:=@if_neg
def yN:=@if_pos
def yO:=@PySem.PassesOwn.never
def yP:=@Array.length_toList
def yQ:=@List.mem_range
def yR:=@List.find?_cons
def yS:=@Bool.false_and
def yT:=@or_false
def yU:=@Bool.true_and
def yV:=@List.zip_cons_cons
def yW:=@List.filter_append
def yX:=@PySem.wpAny_callSpecial?_slot
def yY:=@congrArg
def yZ:=@PySem.wpAny_field
def y3:=@PySem.F.type_list_extend
def y4:=@PySem.F.slot_list_extend
def y6:=@Int.le_of_lt
def y7:=@PySem.wpAny_call_entry
def y8:=@List.pairwise_cons
def y9:=@PySem.wpAny_newObj_type
def xa:=@PySem.wpAny_mono
def xb:=@List.flatten_append
def xc:=@PySem.wpAny_truthy_bool
def xf:=@List.length_filter_le
def xg:=@Array.getElem?_toList
def xh:=@PySem.Heap.size_push
def xi:=@PySem.W.kia_one
def xj:=@Option.map_some
def xk:=@List.length_nil
def xm:=@PySem.wpAny_Call_Name_kw
def xn:=@List.any_cons
def xo:=@PySem.wpAny_seqItems
def xq:=@List.take_add_one
def xt:=@List.take_of_length_le
def xu:=@List.map_congr_left
def xw:=@Int.mul_pos
def xx:=@List.length_zip
def xy:=@List.length_drop
def xA:=@Int.mul_comm
def xB:=@decide_eq_true_eq
def xC:=@beq_eq_false_iff_ne
def xD:=@Nat.lt_trans
def xE:=@Nat.lt_or_ge
def xF:=@PySem.wpAny_holding
def xG:=@List.filter_cons
def xH:=@PySem.wpAny_setField_rec
def xI:=@PySem.F.slot_zip_next
def xJ:=@Bool.eq_iff_iff
def xK:=@Option.some.injEq
def xM:=@PyProof.Rows.slot_tuple_getitem
def xN:=@Nat.lt_succ_self
def xO:=@PyProof.Rows.part_short
def xP:=@PySem.wpAny_typeNameOfWhole_keyiter
def xQ:=@PySem.codeAny_mono
def xR:=@List.find?_eq_none
def xS:=@PySem.wpAny_passesOwn
def xT:=@PySem.codeAny_builtin
def xU:=@List.dropLast_concat_getLast
def xV:=@PySem.F.slot_dict_keyiterator_next
def xW:=@PySem.Paired.length
def xX:=@Int.toNat_natCast
def xY:=@Nat.le_succ
def xZ:=@List.nodup_nil
def x6:=@Int.mul_nonneg
def x8:=@Int.mul_le_mul
def x9:=@PySem.F.slot_tuple_iterator_next
def wa:=@List.all_map
def wc:=@beq_self_eq_true
def wd:=@List.mem_flatten
def wg:=@List.getLast?_eq_getElem?
def wj:=@List.getElem?_append_left
def wk:=@PySem.mem_of_lookup
def wm:=@if_false
def wo:=@PySem.wpAny_typeNameOf_keyiter
def wq:=@PySem.wpAny_execs_nil
def wt:=@List.of_mem_zip
def wu:=@List.mem_filter
def wx:=@PySem.call_meets
def wy:=@PySem.tupleKind_room_in1
def wz:=@List.lookup_append
def wA:=@PySem.Calls.spliced_cons
def wB:=@Bool.false_eq_true
def wC:=@List.any_map
def wD:=@Nat.mul_le_mul
def wF:=@List.take_zero
def wG:=@Bool.and_false
def wH:=@PySem.wpAny_pyIter_list
def wI:=@Nat.lt_succ_of_lt
def wJ:=@PySem.Calls.callWith_builtin
def wK:=@List.getElem?_eq_none
def wL:=@PySem.typeIs_str
def wM:=@List.cons_append
def wN:=@PySem.wpAny_attempt
def wO:=@List.sum_cons
def wQ:=@List.all_cons
def wR:=@List.mem_of_getLast?
def wU:=@PySem.Around.under_plainId
def wV:=@PySem.W.hideAll_get
def wW:=@List.take_succ_cons
def wX:=@List.filterMap_cons
def wY:=@PySem.Heap.SameBut.update
def wZ:=@PySem.F.plain_extend_loop
def vb:=@if_true
def vc:=@PySem.wpAny_typeOf
def vd:=@beq_iff_eq
def ve:=@Nat.mod_lt
def vf:=@PySem.W.callWith_K
def vg:=@PySem.Obj.data_mapFields
def vh:=@List.mem_filterMap
def vi:=@Int.fdiv_eq_ediv_of_nonneg
def vj:=@List.any_eq_false
def vk:=@PySem.F.args_zip_next_1
def vm:=@PySem.Calls.spliced_nil
def vn:=@PySem.W.mg_of
abbrev vo:=PySem.Value
abbrev vq:=PySem.Shared
abbrev vt:=PySem.Program
abbrev vv:=PySem.World
abbrev vw:=PySem.Around
abbrev vx:=PySem.FuncData
abbrev vy:=PySem.Addr
abbrev vz:=PySem.Heap
namespace L2
open PySem PySem.Spec PyProof.Rows
section
variable {prog:vt} {w:vv} {A:vw} {E:vo->vq->Prop} {s:vq}
def pO {Q:Int->vq->Prop} (h:Q 4238894112 {s with toks:=s.toks+1}):wpAny (model prog w) A (pyHash .none) Q E s:=by
 unfold pyHash;let hv:[Value.none].any Value.onHeap=false:=rfl;refine yt ?_;rw[cRoomFor,yM (by rw[hv];exact zK)];refine yv ?_;refine yt (wpAny_specialOf (typeIs_none s) PySem.F.slot_NoneType_hash.lookup ?_);show wpAny _ _ (if(some (Value.builtin "NoneType.__hash__") == some Value.none)=true then _ else _) Q E s;rw[yM (by rw[beq_builtin_none];exact zK)];refine yt (wpAny_specialOf (typeIs_none s) PySem.F.slot_NoneType_hash.lookup ?_);show wpAny _ _ (callSpecialIfBoundUnlessNone? .none "__hash__" _ >>= _) Q E s;refine yt (wpAny_callSpecialIfBoundUnlessNone?_slot (typeIs_none s) PySem.F.slot_NoneType_hash
  (y7 PySem.F.slot_NoneType_hash (typeIs_none s) PySem.F.entry_NoneType_hash
   (show wpAny _ _ (do ret (<-mkInt 4238894112)) _ _ s from wpAny_ret_mkInt ?_) (PySem.F.args_NoneType_hash_1 _)))
 show wpAny _ _ (if(decide (-(2:Int)^63<=4238894112)&&decide ((4238894112:Int)<2^63))=true then _ else _) Q E _;rw[yN ∅];exact yv h
end
inductive Key where
 | inl (i:Int) | inr (x:Str) | bA
 deriving DecidableEq
def DC:Key->vo->Bool
 | .inl k,v=>Value.isInt k v
 | .inr x,v=>Value.isStrOf x v
 | .bA,v=>match v with | .none=>true | _=>false
def Va (w:vv):Key->Int
 | .inl k=>hashInt k
 | .inr x=>hashStr w x
 | .bA=>4238894112
def cw:∀{k:Key} {v:vo},DC k v=true->(∃i t,k=Key.inl i/\v=Value.int i t)\/(∃x t,k=Key.inr x/\v=Value.str x t)\/(k=Key.bA/\v=Value.none)
 | .inl i,v,h=>by
  let⟨t,e⟩:=Value.isInt_shape (k:=i) (v:=v) h;exact .inl {(i),t,rfl,e}
 | .inr x,v,h=>by
  let⟨t,e⟩:=Value.isStrOf_shape (x:=x) (v:=v) h;exact .inr (.inl {(x),t,rfl,e})
 | .bA,v,h=>by cases v <;> first | exact .inr (.inr {(rfl),rfl}) | cases h
def LW (i:Int) (t:Tok):DC (.inl i) (.int i t)=true:=by simp[DC,Value.isInt]
def nQ (x:Str) (t:Tok):DC (.inr x) (.str x t)=true:=by simp[DC,Value.isStrOf]
def R3 (a b:Int):decide ((Key.inl a:Key)=Key.inl b)=(a == b):=by
 by_cases e:a=b
 ·subst e;simp
 ·let h:¬(Key.inl a:Key)=Key.inl b:=λq=>e (Key.inl.inj q)
  rw[zd h];exact(xC.mpr e).symm
def R1 (a b:Str):decide ((Key.inr a:Key)=Key.inr b)=decide (a=b):=by
 by_cases e:a=b
 ·subst e;simp
 ·let h:¬(Key.inr a:Key)=Key.inr b:=λq=>e (Key.inr.inj q)
  rw[zd h,zd e]
def cX (prog:vt) (w:vv):PySem.KeyKind prog w Key where
 is:=DC
 hash:=Va w
 inj:=λv a b ha hb=>by
  rcases cw ha with⟨i,t,rfl,rfl⟩ | ⟨x,t,rfl,rfl⟩ | ⟨rfl,rfl⟩
  ·rcases cw hb with⟨j,u,rfl,e⟩ | ⟨y,u,rfl,e⟩ | ⟨rfl,e⟩
   ·injection e with e1 _;rw[e1]
   ·exact nomatch e
   ·exact nomatch e
  ·rcases cw hb with⟨j,u,rfl,e⟩ | ⟨y,u,rfl,e⟩ | ⟨rfl,e⟩
   ·exact nomatch e
   ·injection e with e1 _;rw[e1]
   ·exact nomatch e
  ·rcases cw hb with⟨j,u,rfl,e⟩ | ⟨y,u,rfl,e⟩ | ⟨rfl,e⟩
   ·exact nomatch e
   ·exact nomatch e
   ·rfl
 byValue:=λk v h=>by
  rcases cw h with⟨i,t,rfl,rfl⟩ | ⟨x,t,rfl,rfl⟩ | ⟨rfl,rfl⟩ <;> rfl
 pyHash:=λhv h=>by
  rcases cw hv with⟨i,t,rfl,rfl⟩ | ⟨x,t,rfl,rfl⟩ | ⟨rfl,rfl⟩
  ·exact wpAny_pyHash_int h
  ·exact wpAny_pyHash_str h
  ·exact pO h
 eqBool:=λhu hv h=>by
  rcases cw hu with⟨i,t,rfl,rfl⟩ | ⟨x,t,rfl,rfl⟩ | ⟨rfl,rfl⟩
  ·rcases cw hv with⟨j,u,rfl,rfl⟩ | ⟨y,u,rfl,rfl⟩ | ⟨rfl,rfl⟩
   ·rw[R3] at h;exact wpAny_eqBool_int h
   ·rw[zd (show¬(Key.inl i=Key.inr y) from λz=>nomatch z)] at h;exact SeqAt.EqAt.int_str i t y u _ _ _ _ h
   ·rw[zd (show¬(Key.inl i=Key.bA) from λz=>nomatch z)] at h;exact SeqAt.EqAt.int_none i t _ _ _ _ h
  ·rcases cw hv with⟨j,u,rfl,rfl⟩ | ⟨y,u,rfl,rfl⟩ | ⟨rfl,rfl⟩
   ·rw[zd (show¬(Key.inr x=Key.inl j) from λz=>nomatch z)] at h;exact SeqAt.EqAt.str_int x t j u _ _ _ _ h
   ·rw[R1] at h;exact wpAny_eqBool_str h
   ·rw[zd (show¬(Key.inr x=Key.bA) from λz=>nomatch z)] at h;exact SeqAt.EqAt.str_none x t _ _ _ _ h
  ·rcases cw hv with⟨j,u,rfl,rfl⟩ | ⟨y,u,rfl,rfl⟩ | ⟨rfl,rfl⟩
   ·rw[zd (show¬(Key.bA=Key.inl j) from λz=>nomatch z)] at h;exact SeqAt.EqAt.none_int j u _ _ _ _ h
   ·rw[zd (show¬(Key.bA=Key.inr y) from λz=>nomatch z)] at h;exact SeqAt.EqAt.none_str y u _ _ _ _ h
   ·rw[ze rfl] at h;exact SeqAt.EqAt.same _ _ _ _ _ h
 «strs»:=λk x t v h=>by
  rcases cw h with⟨i,u,rfl,e⟩ | ⟨y,u,rfl,e⟩ | ⟨rfl,e⟩
  ·exact nomatch e
  ·injection e with e1 _
   subst e1;cases v <;> rfl
  ·exact nomatch e
def Hl (prog:vt) (w:vv) (i:Int) (t:Tok):(cX prog w).is (.inl i) (.int i t)=true:=LW i t
def tQ (prog:vt) (w:vv) (x:Str) (t:Tok):(cX prog w).is (.inr x) (.str x t)=true:=nQ x t
end L2
namespace L2
open PySem PySem.Spec PyProof.Rows
inductive V where
 | bA | bl (b:Bool) | int (i:Int) | str (x:Str) | K2 (b:Array UInt8) | Qe (b:UInt64) | ref (a:vy) | ty (n:String)
 deriving DecidableEq
def RelV:V->vo->Prop
 | .bA,u=>u=Value.none
 | .bl b,u=>u=Value.bool b
 | .int i,u=>∃t,u=Value.int i t
 | .str x,u=>∃t,u=Value.str x t
 | .K2 b,u=>∃t,u=Value.bytes b t
 | .Qe b,u=>∃t,u=Value.float b t
 | .ref a,u=>u=Value.ref a
 | .ty n,u=>u=Value.type n
abbrev Vals:List V->List vo->Prop:=Paired RelV
theorem Vals.length (r:Vals xs us):⇑xs=⇑us:=xW r
theorem Vals.get:∀{xs:List V} {us:List vo} {i:Nat} {x:V},Vals xs us->xs[i]?=some x->∃u,us[i]?=some u/\RelV x u
 | _,_,_,_,.nil,e=>by simp at e
 | _,_,0,_,.cons r _,e=>by simp at e;subst e;exact{_,rfl,r}
 | _,_,i+1,x,.cons _ t,e=>by
  let⟨u,h1,h2⟩:=Vals.get (i:=i) (x:=x) t (by simpa using e);exact{u,by simpa using h1,h2}
theorem Vals.append:∀{xs ys:List V} {us ws:List vo},Vals xs us->Vals ys ws->Vals (xs++ys) (us++ws)
 | _,_,_,_,.nil,s=>s
 | _,_,_,_,.cons r t,s=>.cons r (Vals.append t s)
theorem Vals.take:∀{xs:List V} {us:List vo} (n:Nat),Vals xs us->Vals (xs.take n) (us.take n)
 | _,_,0,_=>.nil
 | _,_,_+1,.nil=>.nil
 | _,_,n+1,.cons r t=>.cons r (Vals.take n t)
theorem Vals.drop:∀{xs:List V} {us:List vo} (n:Nat),Vals xs us->Vals (xs.drop n) (us.drop n)
 | _,_,0,r=>r
 | _,_,_+1,.nil=>.nil
 | _,_,n+1,.cons _ t=>Vals.drop n t
def lN:Option V->Option vo->Prop
 | some v,some u=>RelV v u
 | none,none=>True
 | _,_=>False
def KV:List (κ×V)->List (κ×vo)->Prop:=Paired λ(p:κ×V) (q:κ×vo)=>p.1=q.1/\RelV p.2 q.2
def kV:Key->V
 | .inl i=>.int i
 | .inr x=>.str x
 | .bA=>.bA
inductive HO where
 | lst (xs:List V)
 | tup (xs:List V)
 | dK (kvs:List (Key×V)) | dT (kvs:List (List Key×V))
 | set (S:Int->Bool) (n:Nat)
 | ins (C dx:vy) (fs:List (Str×V))
 | own (x:vy)
 | xd (fs:List (Str×V))
 | met (f x:vy)
 | LF (lo hi:Int)
 | mF (o:Obj) (u:HO)
 | MY (ps:Array vo)
 | ext (φ:vz->Prop)
abbrev Hp:=vy->Option HO
def upd (H:Hp) (a:vy) (o:HO):Hp:=λb=>if b=a then some o else H b
def aF:upd H a o a=some o:=by unfold upd;rw[yN rfl]
def aG (h:b≠a):upd H a o b=H b:=by unfold upd;rw[yM h]
def bf {H:Hp} {a b:vy} {o u:HO} (h:H a=some o) (h':H b=some u) (d:o≠u):a≠b:=by
 intro e;subst e;rw[h] at h';exact d (yj h')
def bw {H:Hp} {a b:vy} {o:HO} (h:H a=some o) (h':H b=none):a≠b:=by
 intro e;subst e;rw[h] at h';cases h'
section
variable (P:vt) (w:vv)
def cx (H:Hp) (h:vz) (a:vy):HO->Prop
 | .lst xs=>⇑xs<=sizeLine/\∃(its:List vo) (n:Nat),Vals xs its/\h.get? a=some {cls:=.type "list",data:=.seq its.toArray n}
 | .tup xs=>⇑xs<=sizeLine/\∃its:List vo,Vals xs its/\IsTup h a its.toArray
 | .dK kvs=>⇑kvs<=sizeLine/\(a == sysModules)=false/\∃vs,KV kvs vs/\h.DictOf (cX P w) a vs
 | .dT kvs=>⇑kvs<=sizeLine/\(a == sysModules)=false/\∃xs:List (List Key×vy×vo),
   Paired (λ(p:List Key×V) (q:List Key×vy×vo)=>p.1=q.1/\H q.2.1=some (.tup (p.1.map kV))/\RelV p.2 q.2.2) kvs xs/\
   ∃o es ep,h.get? a=some o/\o.ExactDict/\o.data=.dict es ep/\es.toList=xs.map (entryOfKey (tupleKind (cX P w)))/\(xs.map (·.1)).Nodup
 | .set S n=>h.SetOf (intKind P w) a S n
 | .ins C dx fs=>H dx=some (.own a)/\⇑fs<=1000/\dx≠a/\h.get? a=some (PySem.W.instObj C dx)/\
   ∃mA,h.Ns1 dx mA/\(∀f,lN (fs.lookup f) (mA f))/\PySem.Within mA (fs.map (·.1))
 | .own _=>∃o,h.get? a=some o
 | .xd fs=>∃mA,h.Ns1 a mA/\∀f,lN (fs.lookup f) (mA f)
 | .LF lo hi=>∃t u v,h.get? a=some {cls:=.type "range",data:=.fields #[.int lo t,.int hi u,.int 1 v]}
 | .mF o u=>h.get? a=some o/\cx H h a u
 | .MY ps=>h.get? a=some {cls:=.none,data:=.fields ps}
 | .met f x=>h.get? a=some (PySem.W.methodObj (.ref f) (.ref x))
 | .ext φ=>φ h/\(∃o,h.get? a=some o)/\∀h1 h2:vz,φ h1->(∀o,h1.get? a=some o->h2.get? a=some o)->φ h2
def pM (H:Hp) (h:vz):Prop:=∀a o,H a=some o->cx P w H h a o
end
section
variable {P:vt} {w:vv} {H H':Hp} {h h':vz} {a:vy} {o:HO}
theorem cx.lt (x:cx P w H h a o):a<h.objs.size:=by
 cases o with
 | lst xs=>let⟨_,_,_,_,e⟩:=x;exact yx e
 | tup xs=>let⟨_,_,_,p⟩:=x;exact p.lt
 | dK kvs=>let⟨_,_,_,_,o,_,_,e,_⟩:=x;exact yx e
 | dT kvs=>let⟨_,_,_,_,o,_,_,e,_⟩:=x;exact yx e
 | set S n=>let⟨o,_,_,_,e,_⟩:=x;exact yx e
 | ins C dx fs=>let⟨_,_,_,e,_⟩:=x;exact yx e
 | own y=>let⟨_,e⟩:=x;exact yx e
 | xd fs=>let⟨_,⟨_,_,_,e,_⟩,_⟩:=x;exact yx e
 | LF lo hi=>let⟨_,_,_,e⟩:=x;exact yx e
 | mF ob u=>let⟨e,_⟩:=x;exact yx e
 | MY ps=>exact yx (show h.get? a=some _ from x)
 | met f y=>exact yx (show h.get? a=some _ from x)
 | ext φ=>let⟨_,⟨_,e⟩,_⟩:=x;exact yx e
theorem Paired.RX:∀{l₁:List α} {l₂:List β},Paired F l₁ l₂->(∀a b,F a b->G a b)->Paired G l₁ l₂
 | _,_,.nil,_=>.nil
 | _,_,.cons r t,f=>.cons (f _ _ r) (Paired.RX t f)
def cx.kI (x:cx P w H h a o) (k:∀b u,(b=a\/H b=some (.own a))->h.get? b=some u->h'.get? b=some u)
  (ho:∀b,H b=some (.own a)->H' b=some (.own a)) (ht:∀b xs,H b=some (.tup xs)->H' b=some (.tup xs)):cx P w H' h' a o:=by
 induction o with
 | lst xs=>let⟨z,its,n,r,e⟩:=x;exact{z,its,n,r,k _ _ (.inl rfl) e}
 | tup xs=>let⟨z,its,r,ob,e,c⟩:=x;exact{z,its,r,ob,k _ _ (.inl rfl) e,c}
 | dK kvs=>let⟨z,y,vs,r,ob,es,ep,e,c⟩:=x;exact{z,y,vs,r,ob,es,ep,k _ _ (.inl rfl) e,c}
 | dT kvs=>
  let⟨z,y,xs,r,ob,es,ep,e,c⟩:=x;exact{z,y,xs,Paired.RX r λp q z=>{z.1,ht _ _ z.2.1,z.2.2},ob,es,ep,k _ _ (.inl rfl) e,c}
 | set S n=>let⟨ob,es,ep,t,e,c⟩:=x;exact{ob,es,ep,t,k _ _ (.inl rfl) e,c}
 | ins C dx fs=>
  let⟨d,z,ne,e,mA,⟨od,es,ep,e2,c⟩,r⟩:=x;exact{ho _ d,z,ne,k _ _ (.inl rfl) e,mA,{od,es,ep,k _ _ (.inr d) e2,c},r}
 | own y=>let⟨ob,e⟩:=x;exact{ob,k _ _ (.inl rfl) e}
 | xd fs=>let⟨mA,⟨od,es,ep,e,c⟩,r⟩:=x;exact{mA,{od,es,ep,k _ _ (.inl rfl) e,c},r}
 | LF lo hi=>let⟨t,u,v,e⟩:=x;exact{t,u,v,k _ _ (.inl rfl) e}
 | mF ob u ih=>let⟨e,q⟩:=x;exact{k _ _ (.inl rfl) e,ih q}
 | MY ps=>
  let e:h.get? a=some {cls:=.none,data:=.fields ps}:=x;show h'.get? a=some {cls:=.none,data:=.fields ps};exact k a _ (.inl rfl) e
 | met f y=>
  let e:h.get? a=some (PySem.W.methodObj (.ref f) (.ref y)):=x;show h'.get? a=some (PySem.W.methodObj (.ref f) (.ref y));exact k a _ (.inl rfl) e
 | ext φ=>let⟨p,⟨o,e⟩,st⟩:=x;exact{st _ _ p λo q=>k _ _ (.inl rfl) q,{o,k _ _ (.inl rfl) e},st}
theorem pM.lt (x:pM P w H h) (e:H a=some o):a<h.objs.size:=(x a o e).lt
def pM.fresh (x:pM P w H h) (e:h.objs.size<=a):H a=none:=by
 cases q:H a with
 | none=>rfl
 | some u=>exact absurd (yb (x.lt q) e) (ye _)
def pM.kept (x:pM P w H h) (k:∀b u,h.get? b=some u->h'.get? b=some u):pM P w H h':=λa o e=>
 (x a o e).kI (λb u _ q=>k b u q) (λ_ q=>q) λ_ _ q=>q
def pM.laid (x:pM P w H h) (k:∀b u,h.get? b=some u->h'.get? b=some u) (hp:h.objs.size<=a) (new:cx P w (upd H a o) h' a o):pM P w (upd H a o) h':=λb u e=>by
 let hn:=x.fresh hp
 by_cases hb:b=a
 ·subst hb;rw[aF] at e;cases e;exact new
 ·rw[aG hb] at e
  exact(x b u e).kI (λc v _ q=>k c v q) (λc q=>by rw[aG (bw q hn)];exact q) λc xs q=>by rw[aG (bw q hn)];exact q
end
def Rd (H:Hp) (a:vy) (u:HO):Prop:=H a=some u\/∃o,H a=some (.mF o u)
def Rd.ok (r:Rd H a u) (x:pM P w H h):cx P w H h a u:=by
 rcases r with r | ⟨o,r⟩
 ·exact x a u r
 ·let⟨_,q⟩:=x a _ r
  exact q
def TX:Option HO->Prop
 | some (.lst _)=>True
 | some (.dK _)=>True
 | some (.dT _)=>True
 | some (.set _ _)=>True
 | some (.ins _ _ _)=>True
 | some (.ext _)=>True
 | _=>False
section
variable {P:vt} {w:vv} {H:Hp} {h h':vz} {x e:vy} {o':HO}
def pM.write (ok:pM P w H h) (mu:TX (H x)) (he:e=x\/H e=some (.own x)) (k:∀b u,b≠e->h.get? b=some u->h'.get? b=some u) (heo:∃u,h'.get? e=some u)
  (new:cx P w (upd H x o') h' x o'):pM P w (upd H x o') h':=λb u q=>by
 let nown:∀c y,H c=some (.own y)->c≠x:=λc y r z=>by subst z;rw[r] at mu;exact mu
 let ntup:∀c xs,H c=some (.tup xs)->c≠x:=λc xs r z=>by subst z;rw[r] at mu;exact mu
 by_cases hb:b=x
 ·subst hb;rw[aF] at q;cases q;exact new
 ·rw[aG hb] at q
  by_cases hbe:b=e
  ·let q':H b=some (.own x):=by
    rcases he with z | z
    ·exact absurd (hbe.trans z) hb
    ·rw[hbe];exact z
   rw[q] at q';cases q';let⟨v,hv⟩:=heo;exact{v,by rw[hbe];exact hv}
  ·refine(ok b u q).kI (λc v hc r=>k c v ?_ r) (λc r=>by rw[aG (nown c b r)];exact r) λc xs r=>by rw[aG (ntup c xs r)];exact r
   rcases hc with rfl | hc
   ·exact hbe
   ·rintro rfl
    rcases he with z | z
    ·exact nown c b hc z
    ·rw[hc] at z;cases z;exact hb rfl
end
structure Un (fs ex:List vy) (H H':Hp) (h h':vz):Prop where
 keep:∀b o,h.get? b=some o->H b=none->b∉fs->b∉ex->h'.get? b=some o
 slot:∀b o,h.get? b=some o->H b=none->b∈fs->b∉ex->∃sl,h'.get? b=some {o with slots:=sl}
 free:∀b o,h.get? b=some o->H b=none->b∉ex->H' b=none
 there:∀b o,h.get? b=some o->b∉ex->∃o',h'.get? b=some o'
 nY:∀b xs,H b=some (.tup xs)->H' b=some (.tup xs)
 mq:∀b o u,H b=some (.mF o u)->H' b=some (.mF o u)
 nZ:∀b ps,H b=some (.MY ps)->∃more,H' b=some (.MY (ps++more))
section
variable {fs fs' ex ex':List vy} {H H1 H2:Hp} {h h1 h2 h':vz} {a x e:vy} {o:HO}
def Un.any (u:Un fs ex H H1 h h1) (q:h.get? b=some ob) (n:H b=none) (hx:b∉ex):∃sl,h1.get? b=some {ob with slots:=sl}:=by
 by_cases hb:b∈fs
 ·exact u.slot b ob q n hb hx
 ·exact{ob.slots,u.keep b ob q n hb hx}
def Un.kept (k:∀b u,h.get? b=some u->h'.get? b=some u):Un fs ex H H h h':=
 {λb ob q _ _ _=>k b ob q,λb ob q _ _ _=>{ob.slots,k b ob q},λ_ _ _ n _=>n,λb ob q _=>{ob,k b ob q},λ_ _ q=>q,λ_ _ _ q=>q,λ_ ps q=>{#[],by rw[q];simp}}
def Un.refl:Un fs ex H H h h:=Un.kept λ_ _ q=>q
def Un.laid (k:∀b u,h.get? b=some u->h'.get? b=some u) (hp:h.objs.size<=a) (hn:H a=none):Un fs ex H (upd H a o) h h' where
 keep:=λb u q _ _ _=>k b u q
 slot:=λb u q _ _ _=>{u.slots,k b u q}
 free:=λb u q n _=>by rw[aG (yi (yb (yx q) hp))];exact n
 there:=λb u q _=>{u,k b u q}
 nY:=λb xs q=>by rw[aG (bw q hn)];exact q
 mq:=λb u xs q=>by rw[aG (bw q hn)];exact q
 nZ:=λb ps q=>{#[],by rw[aG (bw q hn),q];simp}
def Un.write (mu:TX (H x)) (he:e=x\/H e=some (.own x)) (k:∀b u,b≠e->h.get? b=some u->h'.get? b=some u) (heo:∃u,h'.get? e=some u):Un fs ex H (upd H x o) h h':=by
 let hx:∀b,H b=none->b≠x:=λb n z=>by subst z;rw[n] at mu;exact mu
 let hb:∀b,H b=none->b≠e:=λb n z=>by
  subst z;rcases he with r | r
  ·exact hx b n r
  ·rw[n] at r;cases r
 let hm:∀b u,H b=some u->¬TX (some u)->b≠x:=λb u q nm z=>by subst z;rw[q] at mu;exact nm mu
 refine{λb u q n _ _=>k b u (hb b n) q,λb u q n _ _=>{u.slots,k b u (hb b n) q},λb u q n _=>by rw[aG (hx b n)];exact n,λb u q _=>?_,
  λb xs q=>by rw[aG (hm b _ q λz=>z)];exact q,λb u xs q=>by rw[aG (hm b _ q λz=>z)];exact q,λb ps q=>{#[],by rw[aG (hm b _ q λz=>z),q];simp}}
 by_cases hbe:b=e
 ·subst hbe;exact heo
 ·exact{u,k b u hbe q}
end
def Uc (h:vz) (H:Hp):List vy:=(List.range h.objs.size).filter λa=>(H a).isSome
def E6 (h:vz) (H:Hp):vz:=PySem.W.hideAll h (Uc h H)
def L4 (h:vz) (H:Hp):(E6 h H).objs.size=h.objs.size:=PySem.W.hideAll_size _ _
def Of (e:h.get? b=some o) (n:H b=none):(E6 h H).get? b=some o:=
 wV _ e λhm=>by
  let q:(H b).isSome=true:=(wu.mp hm).2;rw[n] at q;simp at q
def P2 (e:(E6 h H).get? b=some o):h.get? b=some o/\H b=none:=by
 let e':h.get? b=some o:=PySem.W.of_hideAll (Uc h H) e;refine{e',?_};cases q:H b with
 | none=>rfl
 | some x=>
  let hm:b∈Uc h H:=wu.mpr {yQ.mpr (yx e'),by simp[q]};let z:(E6 h H).get? b=none:=PySem.W.hideAll_none (Uc h H) hm;rw[z] at e;cases e
end L2
namespace L2
open PySem PySem.Spec PyProof.Rows
structure Mod (K:yA) (mg:Str->Option vo) (base:vz):Prop where
 R0:K.In base
 glob:base.Ns mainGlobals mg
 blt:∃mb,base.Ns builtinsNs mb/\∀x:Str,x≠ "__name__"->mb x=bootBuiltins x
 nolimit:base.NoLimit
set_option genInjectivity false in
structure Cx where
 prog:vt
 w:vv
 K:yA
 mg:Str->Option vo
 base:vz
 A:vw
 N:List Str
 s₀:vq
 H₀:Hp
 env:Env
 outer:List Env
 stack:List Env
 ex:List vy
 fn:Str->Bool
 calm:Bool
 pn:List (vy×Obj)
 xe:vo->vq->Prop
def oE (l:List Env):List vy:=l.filterMap (·.frame)
abbrev Cx.fs (X:Cx):List vy:=oE X.outer
def Sr (sc:Scope) (x:Str):Prop:=sc.names.lookup x=some .local\/sc.names.lookup x=some .cell\/sc.names.lookup x=some .free
def Loc (sc:Scope) (x:Str):Prop:=sc.names.lookup x=some .local\/sc.names.lookup x=some .cell
def Look (env:Env) (h:vz) (m:Str->Option vo) (x:Str) (u:vo):Prop:=
 (env.kindOf x=some .local/\m x=some u)\/((env.kindOf x=some .cell\/env.kindOf x=some .free)/\∃c,env.cells.lookup x=some c/\h.IsCell c (some u))
structure Cx.Ok (X:Cx):Prop where
 mod:Mod X.K X.mg X.base
 kind:X.env.scope.kind=.function
 glob:X.env.globals=mainGlobals
 blt:X.env.builtins=builtinsNs
 above:X.s₀.heap.objs.size<=X.env.locals
 inj:∀x y c,X.env.cells.lookup x=some c->X.env.cells.lookup y=some c->x=y
 has:∀x,(X.env.kindOf x=some .cell\/X.env.kindOf x=some .free)->∃c,X.env.cells.lookup x=some c
 Sm:∀x c,X.fn x=true->X.env.cells.lookup x=some c->X.s₀.heap.objs.size<=c
 hd:X.calm=true->X.A.handled=none
 frames:X.A.frames=some X.stack
 SA:X.stack=X.outer\/(X.stack=X.env::X.outer/\X.env.frame=some X.env.locals)
 Uj:∀b∈X.ex,b≠X.env.locals/\∀x c,X.env.cells.lookup x=some c->c≠b
 bs:∀b o,X.base.get? b=some o->X.s₀.heap.get? b=some o/\X.H₀ b=none
 MG:X.base.objs.size<=X.s₀.heap.objs.size
 uO:∀b o,X.base.get? b=some o->b∉X.ex
 JM:∀b∈X.ex,b∉X.fs
 om:X.s₀.heap.FunFrames X.base X.outer
 Hz:∀b∈X.fs,X.H₀ b=none
structure Inv (X:Cx) (pins:List (vy×Obj)) (U:List (Option V)) (H:Hp) (s:vq):Prop where
 ok:X.Ok
 os:s.os=X.s₀.os
 bare:AllBare s.gens
 base:Un X.fs X.ex X.H₀ H X.s₀.heap s.heap
 loc:∃m,s.heap.Ns X.env.locals m/\∀(i:Nat) (x:Str) (v:V),X.N[i]?=some x->U[i]?=some (some v)->Sr X.env.scope x->∃u,RelV v u/\Look X.env s.heap m x u
 cell:∀x c,X.env.cells.lookup x=some c->∃v,s.heap.IsCell c v
 free:H X.env.locals=none
 jQ:∀x c,X.env.cells.lookup x=some c->H c=none
 pin:∀p∈X.pn++pins,s.heap.get? p.1=some p.2/\H p.1=none/\p.1≠X.env.locals/\p.1∉X.fs/\∀v,p.2.data≠.cell v
 bW:pM X.prog X.w H s.heap
 len:U.length=⇑X.N
section
variable {X:Cx} {pins:List (vy×Obj)} {U:List (Option V)} {H H':Hp} {s:vq} {h':vz}
def Cx.Ok.U8 (ok:X.Ok) (e:X.base.get? b=some o):b∉X.fs:=λhb=>by
 have:=(ok.om.mem hb).1;rw[e] at this;cases this
theorem Inv.bs (I:Inv X pins U H s):∀b o,X.base.get? b=some o->s.heap.get? b=some o/\H b=none:=λb o e=>
 {I.base.keep b o (I.ok.bs b o e).1 (I.ok.bs b o e).2 (I.ok.U8 e) (I.ok.uO b o e),I.base.free b o (I.ok.bs b o e).1 (I.ok.bs b o e).2 (I.ok.uO b o e)}
def Inv.bk (I:Inv X pins U H s):∀b o,X.base.get? b=some o->s.heap.get? b=some o:=λb o e=>(I.bs b o e).1
theorem Inv.mod (I:Inv X pins U H s):Mod X.K X.mg X.base:=I.ok.mod
def Inv.qS (I:Inv X pins U H s):X.K.In s.heap:=I.ok.mod.R0.keeps I.bk
theorem Inv.lt (I:Inv X pins U H s):X.env.locals<↑s:=let ⟨_,hn,_⟩:=I.loc;hn.lt
def Inv.sz (I:Inv X pins U H s):X.s₀.heap.objs.size<=↑s:=zL I.ok.above (yg I.lt)
def Inv.Tj (I:Inv X pins U H s) (h:↑s<=a):a∉X.fs:=λhb=>by
 let⟨_,o,ho,_⟩:=I.ok.om.mem hb;exact absurd (yb (yx ho) (zL I.sz h)) (ye _)
def Inv.O6 (I:Inv X pins U H s):∀x c,X.env.cells.lookup x=some c->c≠X.env.locals:=λx c e z=>by
 let⟨v,o,ho,hd⟩:=I.cell x c e;let⟨m,⟨o',es,ep,ho',hd',_⟩,_⟩:=I.loc;rw[z,ho'] at ho;cases ho;rw[hd'] at hd;cases hd
theorem Inv.om (I:Inv X pins U H s):s.heap.FunFrames X.base X.outer:=by
 let all:∀(l:List Env),(∀b∈oE l,b∈X.fs)->X.s₀.heap.FunFrames X.base l->s.heap.FunFrames X.base l:=by
  intro l
  induction l with
  | nil=>intro _ _;trivial
  | cons env r ih=>
   intro hs hl;let⟨hk,⟨L,o,hf,hn,ho,hd⟩,hr⟩:=hl;let hL:L∈X.fs:=hs L (by unfold oE;rw[wX,hf];exact zp);let⟨sl,e⟩:=I.base.slot L o ho (I.ok.Hz L hL) hL λz=>I.ok.JM L z hL;exact{hk,{L,_,hf,hn,e,hd},ih (λb hb=>hs b (by unfold oE;rw[wX,hf];exact zm _ hb)) hr}
 exact all X.outer (λ_ hb=>hb) I.ok.om
theorem Inv.stack (I:Inv X pins U H s):s.heap.FunFrames X.base X.stack:=by
 rcases I.ok.SA with e | ⟨e,hf⟩
 ·rw[e];exact I.om
 ·rw[e]
  let⟨m,hn,_⟩:=I.loc;refine .cons (by rw[I.ok.kind];decide) hf hn ?_ I.om;exact Heap.get?_none_of_le (zL I.ok.MG I.ok.above)
def Inv.Ef (I:Inv X pins U H s):∀b∈oE X.stack,b∈X.env.locals::X.fs:=λb hb=>by
 rcases I.ok.SA with e | ⟨e,hf⟩
 ·rw[e] at hb;exact zm _ hb
 ·rw[e] at hb
  unfold oE at hb;rw[wX,hf] at hb;exact hb
def Inv.pS (I:Inv X pins U H s):∀b∈oE X.stack,H b=none:=λb hb=>by
 rcases zC.mp (I.Ef b hb) with e | hb
 ·rw[e];exact I.free
 ·let⟨_,o,ho,_⟩:=I.ok.om.mem hb
  exact I.base.free b o ho (I.ok.Hz b hb) λz=>I.ok.JM b z hb
def Inv.step {g':Array GenState} {t':Nat} {d':Drawn} {ch:List vy} (I:Inv X pins U H s)
  (hch:∀b∈ch,(b∈X.ex\/X.s₀.heap.objs.size<=b)/\b≠X.env.locals/\(∀x c,X.env.cells.lookup x=some c->c≠b)/\∀p∈X.pn++pins,p.1≠b)
  (keep:∀b o,b≠X.env.locals->b∉X.fs->b∉ch->s.heap.get? b=some o->H b=none->h'.get? b=some o)
  (slot:∀b o,b≠X.env.locals->b∈X.fs->b∉ch->s.heap.get? b=some o->H b=none->∃sl,h'.get? b=some {o with slots:=sl}) (free:∀b o,b∉ch->s.heap.get? b=some o->H b=none->H' b=none)
  (there:∀b o,b∉ch->s.heap.get? b=some o->∃o',h'.get? b=some o')
  (nY:∀b xs,H b=some (.tup xs)->H' b=some (.tup xs)) (mq:∀b o u,H b=some (.mF o u)->H' b=some (.mF o u)) (nZ:∀b ps,H b=some (.MY ps)->∃more,H' b=some (.MY (ps++more)))
  (ns:∀m,s.heap.Ns X.env.locals m->h'.Ns X.env.locals m) (bW:pM X.prog X.w H' h') (hg:AllBare g') :
  Inv X pins U H' {s with heap:=h',gens:=g',drawn:=d',toks:=t'}:=by
 let neL:∀b o,X.s₀.heap.get? b=some o->b≠X.env.locals:=λb o e=>yi (yb (yx e) I.ok.above);let neC:∀b o,X.s₀.heap.get? b=some o->b∉X.ex->b∉ch:=λb o e hx hb=>by
  rcases(hch b hb).1 with z | z
  ·exact hx z
  ·exact absurd (yb (yx e) z) (ye _)
 let cellK:∀x c,X.env.cells.lookup x=some c->∀v,s.heap.IsCell c v->h'.IsCell c v:=λx c e v ⟨o,ho,hd⟩=>by
  let nch:c∉ch:=λz=>(hch c z).2.2.1 x c e rfl
  by_cases hc:c∈X.fs
  ·let⟨sl,q⟩:=slot c o (I.O6 x c e) hc nch ho (I.jQ x c e)
   exact{_,q,hd}
  ·exact{o,keep c o (I.O6 x c e) hc nch ho (I.jQ x c e),hd}
 refine{I.ok,I.os,hg,{λb o e n hb hx=>?_,λb o e n hb hx=>?_,λb o e n hx=>?_,λb o e hx=>?_,λb xs e=>nY b xs (I.base.nY b xs e),λb o xs e=>mq b o xs (I.base.mq b o xs e),λb ps e=>?_},?_,λx c e=>?_,?_,λx c e=>?_,λp hp=>?_,bW,I.len}
 ·exact keep b o (neL b o e) hb (neC b o e hx) (I.base.keep b o e n hb hx) (I.base.free b o e n hx)
 ·let⟨sl,e1⟩:=I.base.slot b o e n hb hx
  let⟨sl',e2⟩:=slot b _ (neL b o e) hb (neC b o e hx) e1 (I.base.free b o e n hx);exact{(sl'),e2}
 ·let⟨o',e1⟩:=I.base.there b o e hx
  exact free b o' (neC b o e hx) e1 (I.base.free b o e n hx)
 ·let⟨o',e1⟩:=I.base.there b o e hx
  exact there b o' (neC b o e hx) e1
 ·let⟨m1,e1⟩:=I.base.nZ b ps e
  let⟨m2,e2⟩:=nZ b _ e1;exact{m1++m2,by rw[e2,Array.append_assoc]}
 ·let⟨m,hn,hl⟩:=I.loc
  refine{m,ns m hn,λi x v e1 e2 e3=>?_};let⟨u,r,l⟩:=hl i x v e1 e2 e3;refine{u,r,?_};rcases l with l | ⟨k,c,e,z⟩
  ·exact .inl l
  ·exact .inr {k,c,e,cellK x c e _ z}
 ·let⟨v,z⟩:=I.cell x c e
  exact{v,cellK x c e v z}
 ·let⟨m,⟨o,_,_,ho,_⟩,_⟩:=I.loc
  exact free _ o (λz=>(hch _ z).2.1 rfl) ho I.free
 ·let⟨v,o,ho,hd⟩:=I.cell x c e
  exact free c o (λz=>(hch c z).2.2.1 x c e rfl) ho (I.jQ x c e)
 ·let⟨e,n,ne,nf,d⟩:=I.pin p hp
  let nch:p.1∉ch:=λz=>(hch p.1 z).2.2.2 p hp rfl;exact{keep p.1 p.2 ne nf nch e n,free p.1 p.2 nch e n,ne,nf,d}
def Inv.un {t':Nat} (I:Inv X pins U H s) (u:Un X.fs [] H H' s.heap h') (bW:pM X.prog X.w H' h'):Inv X pins U H' {s with heap:=h',toks:=t'}:=by
 let⟨m,⟨o,es,ep,ho,r⟩,_⟩:=id I.loc;let⟨sl,hL⟩:=u.any ho I.free (by simp);exact I.step (g':=s.gens) (d':=s.drawn) (ch:=[]) (λ_ z=>nomatch z) (λb o _ hb _ e n=>u.keep b o e n hb (by simp)) (λb o _ hb _ e n=>u.slot b o e n hb (by simp)) (λb o _ e n=>u.free b o e n (by simp)) (λb o _ e=>u.there b o e (by simp)) u.nY u.mq u.nZ (λm' hm=>by
  let⟨o',es',ep',ho',r'⟩:=hm;rw[ho] at ho';cases ho';exact{_,es',ep',hL,r'}) bW I.bare
def Inv.call {g':Array GenState} {t':Nat} {d':Drawn} {ch:List vy} (I:Inv X pins U H s) (u:Un (oE X.stack) ch H H' s.heap h') (bW:pM X.prog X.w H' h') (hg:AllBare g')
  (hch:∀b∈ch,(b∈X.ex\/X.s₀.heap.objs.size<=b)/\b≠X.env.locals/\(∀x c,X.env.cells.lookup x=some c->c≠b)/\∀p∈X.pn++pins,p.1≠b) :
  Inv X pins U H' {s with heap:=h',gens:=g',drawn:=d',toks:=t'}:=by
 let⟨m,⟨o,es,ep,ho,r⟩,_⟩:=id I.loc;let⟨sl,hL⟩:=u.any ho I.free λz=>(hch _ z).2.1 rfl;exact I.step (ch:=ch) hch (λb o hL hb hc e n=>u.keep b o e n (λz=>(zC.mp (I.Ef b z)).elim hL hb) hc) (λb o _ _ hc e n=>u.any e n hc) (λb o hc e n=>u.free b o e n hc) (λb o hc e=>u.there b o e hc) u.nY u.mq u.nZ (λm' hm=>by
  let⟨o',es',ep',ho',r'⟩:=hm;rw[ho] at ho';cases ho';exact{_,es',ep',hL,r'}) bW hg
def Inv.turned {t':Nat} {it:vy} (I:Inv X pins U H s) (k:∀b o,b≠it->s.heap.get? b=some o->h'.get? b=some o) (hn:H it=none) (hL:it≠X.env.locals)
  (h1:it∈X.ex\/X.s₀.heap.objs.size<=it) (h2:∀x c,X.env.cells.lookup x=some c->c≠it) (h3:∀p∈X.pn++pins,p.1≠it):Inv X pins U H {s with heap:=h',toks:=t'}:=by
 let nit:∀b u,H b=some u->b≠it:=λb u e z=>by rw[z,hn] at e;cases e
 refine I.step (g':=s.gens) (d':=s.drawn) (ch:=[it]) (λb hb=>?_) (λb o _ _ hc e _=>k b o (λz=>hc (by simp[z])) e) (λb o _ _ hc e _=>{o.slots,k b o (λz=>hc (by simp[z])) e}) (λ_ _ _ _ n=>n)
  (λb o hc e=>{o,k b o (λz=>hc (by simp[z])) e}) (λ_ _ e=>e) (λ_ _ _ e=>e) (λb ps e=>{#[],by rw[e];simp}) (λm hm=>?_) (λb u e=>?_) I.bare
 ·let e:b=it:=by simpa using hb
  subst e;exact{(h1),hL,h2,h3}
 ·let⟨o,es,ep,ho,r⟩:=hm
  exact{o,es,ep,k _ o (Ne.symm hL) ho,r}
 ·refine(I.bW b u e).kI (λc v hc q=>k c v ?_ q) (λ_ q=>q) λ_ _ q=>q
  rcases hc with z | z
  ·rw[z];exact nit b u e
  ·exact nit c _ z
def Inv.tok (I:Inv X pins U H s) (t:Nat):Inv X pins U H {s with toks:=t}:=I.un (h':=s.heap) (t':=t) Un.refl I.bW
theorem Inv.kept (I:Inv X pins U H s) (k:∀b u,s.heap.get? b=some u->h'.get? b=some u):Inv X pins U H {s with heap:=h',toks:=t'}:=I.un (Un.kept k) (I.bW.kept k)
theorem Inv.laid (I:Inv X pins U H s) (k:∀b u,s.heap.get? b=some u->h'.get? b=some u) (hp:↑s<=a) (new:cx X.prog X.w (upd H a o) h' a o) :
  Inv X pins U (upd H a o) {s with heap:=h',toks:=t'}:=I.un (Un.laid k hp (I.bW.fresh hp)) (I.bW.laid k hp new)
theorem Inv.write (I:Inv X pins U H s) (mu:TX (H x)) (he:e=x\/H e=some (.own x)) (k:∀b u,b≠e->s.heap.get? b=some u->h'.get? b=some u) (heo:∃u,h'.get? e=some u)
  (new:cx X.prog X.w (upd H x o) h' x o):Inv X pins U (upd H x o) {s with heap:=h',toks:=t'}:=I.un (Un.write mu he k heo) (I.bW.write mu he k heo new)
def Inv.nL (I:Inv X pins U H s) (h:∀p∈pins',s.heap.get? p.1=some p.2/\H p.1=none/\p.1≠X.env.locals/\p.1∉X.fs/\∀v,p.2.data≠.cell v):Inv X pins' U H s:=
 {I.ok,I.os,I.bare,I.base,I.loc,I.cell,I.free,I.jQ,λp hp=>(zF.mp hp).elim (λz=>I.pin p (zI _ z)) (h p),I.bW,I.len}
def Hg {N:List Str} (hN:N.Nodup) {i j:Nat} {x:Str} (a:N[i]?=some x) (b:N[j]?=some x):i=j:=by
 let⟨h1,e1⟩:=zw.mp a;let⟨h2,e2⟩:=zw.mp b;exact(List.getElem_inj hN).mp (e1.trans e2.symm)
def Dl {M:Model} {A:vw} {E:vo->vq->Prop} {i:Nat} {x:Str} {v:V} {u:vo} {Q:Unit->vq->Prop} (I:Inv X pins U H s) (hN:X.N.Nodup) (hi:X.N[i]?=some x) (hx:Loc X.env.scope x) (r:RelV v u)
  (h:∀s',Inv X pins (U.set i (some v)) H s'->(∃a,Heap.SameBut a s.heap s'.heap/\(a=X.env.locals\/X.env.cells.lookup x=some a))->Q .unit s') (hf:X.fn x=true\/X.env.scope.names.lookup x=some .local<|>qa_):wpAny M A (storeName X.env x u) Q E s:=by
 let⟨m,hn,hl⟩:=id I.loc;let hcls:(X.env.scope.kind == .class||(X.env.scope.kind == .module&&X.env.locals != X.env.globals))=false:=by rw[I.ok.kind];rfl
 let hiU:i<U.length:=by rw[I.len];exact(zw.mp hi).1
 let O6:=I.O6;let tracked:∀{a:vy} {h':vz},(∃o,s.heap.get? a=some o/\H a=none)->Heap.SameBut a s.heap h'->pM X.prog X.w H h':=λ{a h'} ha hs b ob e=>by
  let⟨_,_,hfree⟩:=ha;refine(I.bW b ob e).kI (λc w' hc q=>(hs.2 c ?_).trans q) (λ_ q=>q) λ_ _ q=>q;rintro rfl;rcases hc with rfl | hc
  ·rw[hfree] at e;cases e
  ·rw[hfree] at hc;cases hc
 rcases hx with hk | hk
 ·refine wpAny_storeName_local hk hn (λh' hn' hs=>?_) hcls
  let⟨oL,_,_,hoL,_⟩:=id hn;refine h _ {I.ok,I.os,I.bare,{λb o e n hb hx=>?_,λb o e n hb hx=>?_,I.base.free,λb o e hx=>?_,I.base.nY,I.base.mq,I.base.nZ},{_,hn',λj y v' e1 e2 e3=>?_},λy c e=>?_,I.free,I.jQ,λp hp=>?_,tracked {(oL),hoL,I.free} hs,by simpa using I.len} {_,hs,.inl rfl}
  ·exact(hs.2 b (yi (yb (yx e) I.ok.above))).trans (I.base.keep b o e n hb hx)
  ·let⟨sl,e1⟩:=I.base.slot b o e n hb hx
   exact{sl,(hs.2 b (yi (yb (yx e) I.ok.above))).trans e1}
  ·let⟨o',e1⟩:=I.base.there b o e hx
   exact{o',(hs.2 b (yi (yb (yx e) I.ok.above))).trans e1}
  ·by_cases hj:j=i
   ·subst hj
    rw[hi] at e1;cases e1;rw[List.getElem?_set_self hiU] at e2;cases e2;exact{u,r,.inl {hk,by simp}}
   ·rw[List.getElem?_set_ne (Ne.symm hj)] at e2
    let⟨u',r',q⟩:=hl j y v' e1 e2 e3;refine{u',r',?_};rcases q with⟨k,e⟩ | ⟨k,c,e,z⟩
    ·refine .inl {k,?_}
     have:y≠x:=λe=>hj (Hg hN e1 (e▸hi));simp[this,e]
    ·exact .inr {k,c,e,z.sameBut hs (O6 y c e)}
  ·let⟨w',z⟩:=I.cell y c e
   exact{w',z.sameBut hs (O6 y c e)}
  ·let⟨e,n,ne,nf,d⟩:=I.pin p hp
   exact{(hs.2 p.1 ne).trans e,n,ne,nf,d}
 ·let hfn:X.fn x=true:=by
   rcases hf with z | z
   ·exact z
   ·rw[z] at hk;cases hk
  let⟨c,hc⟩:=I.ok.has x (.inl hk);let⟨w',z⟩:=I.cell x c hc;refine wpAny_storeName_cell I.ok.kind hk hc z (λh' hc' hs=>?_);let⟨oc,hoc,hocd⟩:=id z;refine h {s with heap:=h'} {I.ok,I.os,I.bare,{λb o e n hb hx=>?_,λb o e n hb hx=>?_,I.base.free,λb o e hx=>?_,I.base.nY,I.base.mq,I.base.nZ},{m,hn.sameBut hs (Ne.symm (O6 x c hc)),λj y v' e1 e2 e3=>?_},λy c' e=>?_,I.free,I.jQ,λp hp=>?_,tracked {oc,hoc,I.jQ x c hc} hs,by simpa using I.len} {c,hs,.inr hc}
  ·exact(hs.2 b (yi (yb (yx e) (I.ok.Sm x c hfn hc)))).trans (I.base.keep b o e n hb hx)
  ·let⟨sl,e1⟩:=I.base.slot b o e n hb hx
   exact{sl,(hs.2 b (yi (yb (yx e) (I.ok.Sm x c hfn hc)))).trans e1}
  ·let⟨o',e1⟩:=I.base.there b o e hx
   exact{o',(hs.2 b (yi (yb (yx e) (I.ok.Sm x c hfn hc)))).trans e1}
  ·by_cases hj:j=i
   ·subst hj
    rw[hi] at e1;cases e1;rw[List.getElem?_set_self hiU] at e2;cases e2;exact{u,r,.inr {.inl hk,c,hc,hc'}}
   ·rw[List.getElem?_set_ne (Ne.symm hj)] at e2
    let⟨u',r',q⟩:=hl j y v' e1 e2 e3;refine{u',r',?_};rcases q with q | ⟨k,c',e,z'⟩
    ·exact .inl q
    ·refine .inr {k,c',e,z'.sameBut hs ?_}
     rintro rfl;exact hj (Hg hN e1 (I.ok.inj _ _ _ e hc▸hi))
  ·by_cases hcc:c'=c
   ·subst hcc;exact{_,hc'}
   ·let⟨w2,z2⟩:=I.cell y c' e
    exact{w2,z2.sameBut hs hcc}
  ·let⟨e,n,ne,nf,d⟩:=I.pin p hp
   refine{(hs.2 p.1 ?_).trans e,n,ne,nf,d};intro q;rw[q,hoc] at e;let q':oc=p.2:=yj e;exact d w' (by rw[<-q'];exact hocd)
def mK (I:Inv X pins U H s) (hN:X.N.Nodup) (hi:X.N[i]?=some x) (hx:Loc X.env.scope x) (r:RelV v u)
  (h:∀s',Inv X pins (U.set i (some v)) H s'->Q .unit s') (hf:X.fn x=true\/X.env.scope.names.lookup x=some .local<|>qa_):wpAny M A (storeName X.env x u) Q E s:=
 Dl I hN hi hx r (λs' I' _=>h s' I') hf
def Inv.OL (I:Inv X pins U H s) (ho:s'.os=s.os) (u:Un (oE X.stack) ch H H' s.heap s'.heap) (bW:pM X.prog X.w H' s'.heap) (hg:AllBare s'.gens)
  (hch:∀b∈ch,(b∈X.ex\/X.s₀.heap.objs.size<=b)/\b≠X.env.locals/\(∀x c,X.env.cells.lookup x=some c->c≠b)/\∀p∈X.pn++pins,p.1≠b):Inv X pins U H' s':=by
 let⟨h',g',d',t',o'⟩:=s';let e:o'=s.os:=ho;subst e;exact I.call (g':=g') (t':=t') (d':=d') u bW hg hch
end
abbrev XK:=vo->Option vy->Hp->Prop
abbrev St:=List (Option V)
abbrev VK:=V->Hp->Prop
abbrev TE:=St->Hp->VK->Prop
abbrev TT:=St->Hp->(Bool->Hp->Prop)->Prop
abbrev TA:=St->Hp->(List V->Hp->Prop)->Prop
structure Ends where
 nx:St->Hp->Prop
 rt:VK
 bk:St->Hp->Prop:=λ_ _=>False
 ct:St->Hp->Prop:=λ_ _=>False
abbrev TS:=Ends->St->Hp->Prop
def EP (X:Cx) (pins:List (vy×Obj)) (U:St) (Q:VK) (u:vo) (s':vq):Prop:=∃v H',Inv X pins U H' s'/\RelV v u/\Q v H'
def TP (X:Cx) (pins:List (vy×Obj)) (U:St) (Q:Bool->Hp->Prop) (b:Bool) (s':vq):Prop:=∃H',Inv X pins U H' s'/\Q b H'
def AP (X:Cx) (pins:List (vy×Obj)) (U:St) (Q:List V->Hp->Prop) (us:List vo) (s':vq):Prop:=∃vs H',Inv X pins U H' s'/\Vals vs us/\Q vs H'
def SP (X:Cx) (pins:List (vy×Obj)) (D:Ends) (f:Flow) (s':vq):Prop:=
 match f with
 | .next=>∃U' H',Inv X pins U' H' s'/\D.nx U' H'
 | .brk=>∃U' H',Inv X pins U' H' s'/\D.bk U' H'
 | .cont=>∃U' H',Inv X pins U' H' s'/\D.ct U' H'
 | .ret u=>∃v U' H',Inv X pins U' H' s'/\RelV v u/\D.rt v H'
def PE (X:Cx) (e:Expr) (t:TE):Prop:=
 ∀(pins:List (vy×Obj)) (s:vq) (U:St) (H:Hp) (Q:VK),Inv X pins U H s->t U H Q->wpAny (model X.prog X.w) X.A (eval e X.env) (EP X pins U Q) X.xe s
def PT (X:Cx) (e:Expr) (t:TT):Prop:=
 ∀(pins:List (vy×Obj)) (s:vq) (U:St) (H:Hp) (Q:Bool->Hp->Prop),Inv X pins U H s->t U H Q->wpAny (model X.prog X.w) X.A (isTrue e X.env (eval e X.env)) (TP X pins U Q) X.xe s
def PW (X:Cx) (e:Expr) (t:TT):Prop:=
 ∀(whole:Sem vo) (pins:List (vy×Obj)) (s:vq) (U:St) (H:Hp) (Q:Bool->Hp->Prop),Inv X pins U H s->t U H Q->wpAny (model X.prog X.w) X.A (isTrue e X.env whole) (TP X pins U Q) X.xe s
def PW.pt (h:PW X e t):PT X e t:=h _
def PA (X:Cx) (es:List Expr) (t:TA):Prop:=
 ∀(pos:Pos) (pins:List (vy×Obj)) (s:vq) (U:St) (H:Hp) (Q:List V->Hp->Prop),Inv X pins U H s->t U H Q->wpAny (model X.prog X.w) X.A (spliced (backTo pos (starEach es X.env))) (AP X pins U Q) X.xe s
def PS (X:Cx) (st:Stmt) (t:TS):Prop:=
 ∀(pins:List (vy×Obj)) (s:vq) (U:St) (H:Hp) (D:Ends),Inv X pins U H s->t D U H->wpAny (model X.prog X.w) X.A (exec st X.env) (SP X pins D) X.xe s
def DX (X:Cx) (st:List Stmt) (t:TS):Prop:=
 ∀(pins:List (vy×Obj)) (s:vq) (U:St) (H:Hp) (D:Ends),Inv X pins U H s->t D U H->wpAny (model X.prog X.w) X.A (execs st X.env) (SP X pins D) X.xe s
def cR (h:wpAny M A t Q E s) (hQ:∀a s,Q a s->Q' a s):wpAny M A t Q' E s:=xa h hQ λ_ _ x=>x
end L2
namespace L2
open PySem PySem.Spec PyProof.Rows
section
variable {X:Cx}
def aY (i:Nat):TE:=λU H Q=>∃v,U[i]?=some (some v)/\Q v H
def tC (v:V):TE:=λ_ H Q=>Q v H
def RG (hN:X.N[i]?=some x) (hv:Sr X.env.scope x) (hd:(x == ("__debug__": Str))=false<|>qb_) (hcd:(x == ("__classdict__": Str))=false<|>qb_):PE X (.Name x pos) (aY i):=by
 intro pins s U H Q I h;let⟨v,e,h⟩:=h;let⟨m,hn,hl⟩:=I.loc;let⟨u,r,l⟩:=hl i x v hN e hv;let fin:EP X pins U Q u s:={(v),H,I,r,h}
 rcases l with⟨hk,hm⟩ | ⟨hk,c,hc,hcell⟩
 ·exact wpAny_Name (wpAny_loadName_local I.ok.kind hk hn hm fin) hd
 ·rcases hk with hk | hk
  ·exact wpAny_Name (wpAny_loadName_cell I.ok.kind hk hc hcell fin) hd
  ·exact wpAny_Name (wpAny_loadName_free I.ok.kind hk hc hcell fin hcd) hd
def af:PE X (.Constant (.int i) j pos) (tC (.int i)):=λ_ _ _ H _ I h=>wpAny_Constant_int {.int i,H,I.tok _,{_,rfl},h}
def fL:PE X (.Constant (.bool b) j pos) (tC (.bl b)):=λ_ _ _ H _ I h=>Constant_bool {.bl b,H,I,rfl,h}
def aT:PE X (.Constant .none j pos) (tC .bA):=λ_ _ _ H _ I h=>Constant_none {.bA,H,I,rfl,h}
def aN:PE X (.Constant (.str x) j pos) (tC (.str x)):=λ_ _ _ H _ I h=>Calls.Constant_str {.str x,H,I.tok _,{_,rfl},h}
def Gl (X:Cx) (x:Str):Prop:=X.env.kindOf x=some .globalImplicit
def jN (I:Inv X pins U H s) (hg:Gl X x) (hm:X.mg x=some u) (h:Q u s)
  (hd:(x == ("__debug__": Str))=false<|>qb_):wpAny (model X.prog X.w) X.A (eval (.Name x pos) X.env) Q E s:=
 Calls.Name_function_global I.ok.kind hg (Calls.loadGlobal_global (by rw[I.ok.glob];exact I.mod.glob.keeps I.bk) hm h) hd
def je (I:Inv X pins U H s) (hg:Gl X x) (hm:X.mg x=none) (hv:bootBuiltins x=some u) (h:Q u s)
  (hn:x≠ "__name__"<|>qb_) (hd:(x == ("__debug__": Str))=false<|>qb_):wpAny (model X.prog X.w) X.A (eval (.Name x pos) X.env) Q E s:=by
 let⟨mb,h1,h2⟩:=I.mod.blt;exact Calls.Name_function_global I.ok.kind hg (Calls.loadGlobal_builtin (by rw[I.ok.glob];exact I.mod.glob.keeps I.bk) hm (by rw[I.ok.blt];exact h1.keeps I.bk) ((h2 x hn).trans hv) h) hd
def bT (hg:Gl X x) (hm:X.mg x=some u) (r:RelV v u) (hd:(x == ("__debug__": Str))=false<|>qb_):PE X (.Name x pos) (tC v):=
 λ_ _ _ H _ I h=>jN I hg hm {(v),H,I,r,h} hd
def PU (hg:Gl X x) (hm:X.mg x=none) (hv:bootBuiltins x=some u) (r:RelV v u) (hn:x≠ "__name__"<|>qb_) (hd:(x == ("__debug__": Str))=false<|>qb_):PE X (.Name x pos) (tC v):=
 λ_ _ _ H _ I h=>je I hg hm hv {(v),H,I,r,h} hn hd
variable {a b:Expr} {ta tb:TE} {pos:Pos}
def PC (X:Cx) (op:CmpOp) (a b:Expr) (t:TE):Prop:=
 ∀(pins:List (vy×Obj)) (s:vq) (U:St) (H:Hp) (Q:VK),Inv X pins U H s->t U H Q->
  wpAny (model X.prog X.w) X.A (eval a X.env) (λv s₁=>wpAny (model X.prog X.w) X.A (eval b X.env) (λu s₂=>wpAny (model X.prog X.w) X.A (compareOp op v u) (EP X pins U Q) X.xe s₂) X.xe s₁) X.xe s
def Hi (b:Expr) (h:op≠.In) (h2:op≠.NotIn):behindInMarks op b=false:=by
 let e1:(op == CmpOp.In)=false:=by cases op <;> first | rfl | exact absurd rfl h
 let e2:(op == CmpOp.NotIn)=false:=by cases op <;> first | rfl | exact absurd rfl h2
 cases b <;> simp[behindInMarks,e1,e2]
def M3 (ta:TE):TE:=λU H Q=>ta U H λx H1=>Q (.bl (decide (x=.bA))) H1
def M1 (ta:TE):TE:=λU H Q=>ta U H λx H1=>Q (.bl (!decide (x=.bA))) H1
def RelV.Hf (r:RelV x v):(v == Value.none)=decide (x=.bA):=by
 cases x with
 | bA=>cases r;rfl
 | bl _=>cases r;rfl
 | int _=>let⟨t,rfl⟩:=r;rfl
 | str _=>let⟨t,rfl⟩:=r;rfl
 | K2 _=>let⟨t,rfl⟩:=r;rfl
 | Qe _=>let⟨t,rfl⟩:=r;rfl
 | ref _=>cases r;rfl
 | ty _=>cases r;rfl
def cz (ha:PE X a ta):PC X .Is a (.Constant .none j pos') (M3 ta):=by
 intro pins s U H Q I h;refine cR (ha pins s U H _ I h) λv s1 zz=>?_;let⟨x,H1,I1,r1,q1⟩:=zz;exact Constant_none (is_none_gen {.bl _,H1,I1,by rw[r1.Hf];rfl,q1})
def fo (ha:PE X a ta):PC X .IsNot a (.Constant .none j pos') (M1 ta):=by
 intro pins s U H Q I h;refine cR (ha pins s U H _ I h) λv s1 zz=>?_;let⟨x,H1,I1,r1,q1⟩:=zz;exact Constant_none (isnot_none_gen {.bl _,H1,I1,by rw[r1.Hf];rfl,q1})
def tB (t:TE):TT:=λU H Q=>t U H λx H1=>∃c,x=.bl c/\Q c H1
def sE (h:PC X op a b t) (h1:behindInMarks op b=false<|>qc_):PE X (.Compare a [op] [b] pos) t:=λpins s U H Q I hw=>wpAny_Compare1 (h pins s U H Q I hw) h1
def bG (h:PC X op a b t) (h1:behindInMarks op b=false<|>qc_):PT X (.Compare a [op] [b] pos) (tB t):=by
 intro pins s U H Q I hw;refine wpAny_isTrue_Compare1 (cR (h pins s U H _ I hw) λv s1 h1=>cR h1 λu s2 h2=>cR h2 λc s3 ⟨x,H1,I1,r1,q1⟩=>?_) h1;let⟨d,rfl,q⟩:=q1;cases r1;exact xc {(H1),I1,q}
def cy (h:PE X e t) (he:(∀whole,isTrue e X.env whole=(do let v <-whole;standAt e.pos;holding [v] (truthy v)))<|>qd_):PT X e (tB t):=by
 intro pins s U H Q I hw;refine isTrue_plain (cR (h pins s U H _ I hw) λv s1 ⟨x,H1,I1,r1,q1⟩=>?_) (he _);let⟨d,rfl,q⟩:=q1;cases r1;exact xc {(H1),I1,q}
variable {tA tB':TT} {rest:List Expr}
def Rq (t u:TT):TT:=λU H Q=>t U H λc H1=>if c=true then u U H1 Q else Q false H1
def Ue (t u:TT):TT:=λU H Q=>t U H λc H1=>if c=true then Q true H1 else u U H1 Q
def Pg (t:TT):TT:=λU H Q=>t U H λc H1=>Q (!c) H1
def cV (ha:PT X a tA):PW X (.BoolOp .And [a] pos) tA:=by
 intro wh pins s U H Q I h;refine isTrue_and (cR (ha pins s U H Q I h) λc s1 e=>?_);cases c with
 | true=>exact isTrue_and_nil e
 | false=>exact e
def cU (ha:PT X a tA):PW X (.BoolOp .Or [a] pos) tA:=by
 intro wh pins s U H Q I h;refine isTrue_or (cR (ha pins s U H Q I h) λc s1 e=>?_);cases c with
 | false=>exact isTrue_or_nil e
 | true=>exact e
def dq (ha:PT X a tA) (hb:PW X (.BoolOp .And (b::rest) pos) tB'):PW X (.BoolOp .And (a::b::rest) pos) (Rq tA tB'):=by
 intro wh pins s U H Q I h;refine isTrue_and (cR (ha pins s U H _ I h) λc s1 ⟨H1,I1,q1⟩=>?_);cases c with
 | true=>exact hb wh pins s1 U H1 Q I1 q1
 | false=>exact{(H1),I1,q1}
def dB (ha:PT X a tA) (hb:PW X (.BoolOp .Or (b::rest) pos) tB'):PW X (.BoolOp .Or (a::b::rest) pos) (Ue tA tB'):=by
 intro wh pins s U H Q I h;refine isTrue_or (cR (ha pins s U H _ I h) λc s1 ⟨H1,I1,q1⟩=>?_);cases c with
 | true=>exact{(H1),I1,q1}
 | false=>exact hb wh pins s1 U H1 Q I1 q1
def eC (ha:PT X a tA):PT X (.UnaryOp .Not a pos) (Pg tA):=by
 intro pins s U H Q I h;exact isTrue_not (ha pins s U H (λc H1=>Q (!c) H1) I h)
def QE (ta tb:TE):TE:=λU H Q=>ta U H λx H1=>∃c,x=.bl c/\if c=true then tb U H1 Q else Q (.bl false) H1
def SW (ta tb:TE):TE:=λU H Q=>ta U H λx H1=>∃c,x=.bl c/\if c=true then Q (.bl true) H1 else tb U H1 Q
def QB (ta:TE):TE:=λU H Q=>ta U H λx H1=>∃c,x=.bl c/\Q (.bl (!c)) H1
def jY (h:PE X a t):PE X (.BoolOp op [a] pos) t:=λpins s U H Q I hw=>BoolOp_one (h pins s U H Q I hw)
def mU (ha:PE X a ta) (hb:PE X (.BoolOp .And (b::rest) pos) tb):PE X (.BoolOp .And (a::b::rest) pos) (QE ta tb):=by
 intro pins s U H Q I h;refine BoolOp_and (cR (ha pins s U H _ I h) λv s1 zz=>?_);let⟨x,H1,I1,r1,q1⟩:=zz;let⟨c,rfl,q1⟩:=q1;cases r1;refine xc ?_;cases c with
 | true=>exact hb pins s1 U H1 Q I1 q1
 | false=>exact{.bl false,H1,I1,rfl,q1}
def KH (ha:PE X a ta) (hb:PE X (.BoolOp .Or (b::rest) pos) tb):PE X (.BoolOp .Or (a::b::rest) pos) (SW ta tb):=by
 intro pins s U H Q I h;refine BoolOp_or (cR (ha pins s U H _ I h) λv s1 zz=>?_);let⟨x,H1,I1,r1,q1⟩:=zz;let⟨c,rfl,q1⟩:=q1;cases r1;refine xc ?_;cases c with
 | false=>exact hb pins s1 U H1 Q I1 q1
 | true=>exact{.bl true,H1,I1,rfl,q1}
def RI (ha:PE X a ta):PE X (.UnaryOp .Not a pos) (QB ta):=by
 intro pins s U H Q I h;refine UnaryOp_ (cR (ha pins s U H _ I h) λv s1 zz=>?_);let⟨x,H1,I1,r1,q1⟩:=zz;let⟨c,rfl,q1⟩:=q1;cases r1;exact not_of (xc {.bl (!c),H1,I1,rfl,q1})
def Vu (t:TT) (ta tb:TE):TE:=λU H Q=>t U H λc H1=>if c=true then ta U H1 Q else tb U H1 Q
def GQ (hc:PT X c tA) (ha:PE X a ta) (hb:PE X b tb):PE X (.IfExp c a b pos) (Vu tA ta tb):=by
 intro pins s U H Q I h;refine wpAny_IfExp (cR (hc pins s U H _ I h) λd s1 ⟨H1,I1,q1⟩=>?_);cases d with
 | true=>exact ha pins s1 U H1 Q I1 q1
 | false=>exact hb pins s1 U H1 Q I1 q1
end
end L2
namespace L2
open PySem PySem.Spec PyProof.Rows
def aI (K:yA) (H:Hp) (a:vy) (xs:List V):Prop:=
 Rd H a (.lst xs)\/
  ∃(o:Obj) (its:Array vo) (n:Nat),K.lookup a=some o/\o.cls=.type "list"/\o.dict=none/\o.data=.seq its n/\its.size<=sizeLine/\Vals xs its.toList
def cu (K:yA) (H:Hp) (a:vy) (xs:List V):Prop:=
 Rd H a (.tup xs)\/
  ∃(o:Obj) (its:Array vo) (n:Nat),K.lookup a=some o/\o.cls=.type "tuple"/\o.data=.seq its n/\its.size<=sizeLine/\Vals xs its.toList
def Vn:vo->Option V
 | .none=>some .bA
 | .bool b=>some (.bl b)
 | .int i _=>some (.int i)
 | .str x _=>some (.str x)
 | .bytes b _=>some (.K2 b)
 | .float b _=>some (.Qe b)
 | .ref a=>some (.ref a)
 | .type n=>some (.ty n)
 | _=>none
def RelV.abs (r:RelV x u):Vn u=some x:=by
 cases x with
 | bA=>cases r;rfl
 | bl _=>cases r;rfl
 | int _=>let⟨t,rfl⟩:=r;rfl
 | str _=>let⟨t,rfl⟩:=r;rfl
 | K2 _=>let⟨t,rfl⟩:=r;rfl
 | Qe _=>let⟨t,rfl⟩:=r;rfl
 | ref _=>cases r;rfl
 | ty _=>cases r;rfl
def RelV.inj (r:RelV x u) (q:RelV y u):x=y:=yj (r.abs.symm.trans q.abs)
theorem Vals.inj:∀{xs ys:List V} {us:List vo},Vals xs us->Vals ys us->xs=ys
 | _,_,_,.nil,.nil=>rfl
 | _,_,_,.cons r t,.cons r' t'=>by rw[r.inj r',Vals.inj t t']
section
variable {X:Cx} {pins:List (vy×Obj)} {U:St} {H:Hp} {s:vq} {a:vy} {xs ys:List V}
def aI.of {K:yA} (h:H a=some (.lst xs)):aI K H a xs:=.inl (.inl h)
def cu.of {K:yA} (h:H a=some (.tup xs)):cu K H a xs:=.inl (.inl h)
def Inv.list (I:Inv X pins U H s) (h:aI X.K H a xs):∃its:List vo,Vals xs its/\PlainL s.heap a its.toArray/\⇑xs<=sizeLine:=by
 rcases h with h | ⟨o,its,n,hk,hc,hd,hs,hz,r⟩
 ·let⟨z,its,n,r,e⟩:=h.ok I.bW
  exact{its,r,{_,n,e,rfl,rfl,rfl},z}
 ·refine{its.toList,r,{o,n,I.qS a o hk,hc,hd,by simpa using hs},?_}
  let e:=⇑r;simp only[yP] at e;ext
def Inv.tuple (I:Inv X pins U H s) (h:cu X.K H a xs):∃its:List vo,Vals xs its/\IsTup s.heap a its.toArray/\⇑xs<=sizeLine:=by
 rcases h with h | ⟨o,its,n,hk,hc,hs,hz,r⟩
 ·let⟨z,its,r,p⟩:=h.ok I.bW
  exact{(its),r,p,z}
 ·refine{its.toList,r,{o,I.qS a o hk,hc,n,by simpa using hs},?_}
  let e:=⇑r;simp only[yP] at e;ext
def Inv.A3 (I:Inv X pins U H s) (h:aI X.K H a xs) (h':aI X.K H a ys):xs=ys:=by
 let⟨its,r,⟨o,n,e,_,_,d⟩,_⟩:=I.list h;let⟨its',r',⟨o',n',e',_,_,d'⟩,_⟩:=I.list h';rw[e] at e';cases e';rw[d] at d';injection d' with d1 _;have:its=its':=by simpa using yY Array.toList d1
 subst this;exact r.inj r'
def Inv.Dj (I:Inv X pins U H s) (h:cu X.K H a xs) (h':cu X.K H a ys):xs=ys:=by
 let⟨its,r,⟨o,e,_,n,d⟩,_⟩:=I.tuple h;let⟨its',r',⟨o',e',_,n',d'⟩,_⟩:=I.tuple h';rw[e] at e';cases e';rw[d] at d';injection d' with d1 _;have:its=its':=by simpa using yY Array.toList d1
 subst this;exact r.inj r'
end
abbrev Cx.pP (X:Cx) (E:vo->vq->Prop):Cx:={X with xe:=E}
abbrev Cx.Jv (X:Cx):Cx:=X.pP λ_ _=>False
theorem Cx.Ok.pP {X:Cx} (ok:X.Ok) (E:vo->vq->Prop):(X.pP E).Ok:=
 {(ok.mod),ok.kind,ok.glob,ok.blt,ok.above,ok.inj,ok.has,ok.Sm,ok.hd,ok.frames,ok.SA,ok.Uj,ok.bs,ok.MG,ok.uO,ok.JM,ok.om,ok.Hz}
def Cx.Ok.gS {X:Cx} {E:vo->vq->Prop} (ok:(X.pP E).Ok):X.Ok:=
 {(ok.mod),ok.kind,ok.glob,ok.blt,ok.above,ok.inj,ok.has,ok.Sm,ok.hd,ok.frames,ok.SA,ok.Uj,ok.bs,ok.MG,ok.uO,ok.JM,ok.om,ok.Hz}
section
variable {X:Cx} {pins:List (vy×Obj)} {U:St} {H:Hp} {s:vq} {E:vo->vq->Prop}
theorem Inv.pP (I:Inv X pins U H s) (E:vo->vq->Prop):Inv (X.pP E) pins U H s:={I.ok.pP E,I.os,I.bare,I.base,I.loc,I.cell,I.free,I.jQ,I.pin,I.bW,I.len}
theorem Inv.gS (I:Inv (X.pP E) pins U H s):Inv X pins U H s:={(I.ok.gS),I.os,I.bare,I.base,I.loc,I.cell,I.free,I.jQ,I.pin,I.bW,I.len}
theorem SP.gS (h:SP (X.pP E) pins D f s'):SP X pins D f s':=by
 cases f with
 | next=>let⟨U',H',I,q⟩:=h;exact{U',H',I.gS,q}
 | brk=>let⟨U',H',I,q⟩:=h;exact{U',H',I.gS,q}
 | cont=>let⟨U',H',I,q⟩:=h;exact{U',H',I.gS,q}
 | ret u=>let⟨v,U',H',I,r,q⟩:=h;exact{v,U',H',I.gS,r,q}
theorem DX.Jv {st:List Stmt} {t:TS} (h:DX X.Jv st t):DX X st t:=λpins s U H D I hw=>
 xa (h pins s U H D (I.pP _) hw) (λ_ _ q=>q.gS) λ_ _ z=>False.elim z
end
section
variable {X:Cx} {st:Stmt} {rest:List Stmt} {t u:TS} {e:Expr} {te:TE} {pos:Pos}
def QC:TS:=λD U H=>D.nx U H
def Rc (t u:TS):TS:=λD U H=>t {D with nx:=u D} U H
def aC:DX X [] QC:=λ_ _ U H _ I h=>wq {U,H,I,h}
def ah (h1:PS X st t) (h2:DX X rest u):DX X (st::rest) (Rc t u):=by
 intro pins s U H D I h;refine wpAny_execs_cons (cR (h1 pins s U H {D with nx:=u D} I h) λf s1 q=>?_);cases f with
 | next=>
  let⟨U',H',I',q⟩:=q;exact h2 pins s1 U' H' D I' q
 | ret v=>exact q
 | brk=>exact q
 | cont=>exact q
def ao (h1:PS X st t):DX X [st] t:=by
 intro pins s U H D I h;refine wpAny_execs_cons (cR (h1 pins s U H D I h) λf s1 q=>?_);cases f with
 | next=>exact wq q
 | ret v=>exact q
 | brk=>exact q
 | cont=>exact q
def Inv.quiet (I:Inv X pins U H s):interactive X.env=false:=by simp[interactive,I.ok.kind]
def QD (te:TE):TS:=λD U H=>te U H λ_ H1=>D.nx U H1
def bJ (he:PE X e te) (hs:swapsWith e none pos.line X.env=pure false<|>qe_):PS X (.Expr e pos) (QD te):=by
 intro pins s U H D I h;exact wpAny_Expr_any (cR (he pins s U H _ I h) λv s1 ⟨x,H1,I1,r1,q1⟩=>{U,H1,I1,q1}) I.quiet hs
def Rf (te:TE):TS:=λD U H=>te U H D.rt
def au (he:PE X e te):PS X (.Return (some e) pos) (Rf te):=by
 intro pins s U H D I h;exact wpAny_Return_some (cR (he pins s U H _ I h) λv s1 ⟨x,H1,I1,r1,q1⟩=>{x,U,H1,I1,r1,q1})
def Ph (c:TT) (t u:TS):TS:=λD U H=>c U H λb H1=>if b=true then t D U H1 else u D U H1
def aJ (hc:PT X c tc) (ha:DX X a t) (hb:DX X b u):PS X (.If c a b pos) (Ph tc t u):=by
 intro pins s U H D I h;refine wpAny_If (cR (hc pins s U H _ I h) λd s1 ⟨H1,I1,q1⟩=>?_);cases d with
 | true=>exact ha pins s1 U H1 D I1 q1
 | false=>exact hb pins s1 U H1 D I1 q1
def Rh:TS:=λ_ _ _=>False
def GO:PS X st Rh:=λ_ _ _ _ _ _ h=>h.elim
end
abbrev TG:=V->St->Hp->(St->Hp->Prop)->Prop
abbrev TU:=List V->St->Hp->(St->Hp->Prop)->Prop
def PG (X:Cx) (target:Expr) (t:TG):Prop:=
 ∀(pins:List (vy×Obj)) (s:vq) (U:St) (H:Hp) (v:V) (u:vo) (Q:St->Hp->Prop),Inv X pins U H s->RelV v u->t v U H Q->
  wpAny (model X.prog X.w) X.A (assign target X.env u) (λ_ s'=>∃U' H',Inv X pins U' H' s'/\Q U' H') X.xe s
def Um (X:Cx) (ts:List Expr) (t:TU):Prop:=
 ∀(pins:List (vy×Obj)) (s:vq) (U:St) (H:Hp) (vs:List V) (us:List vo) (Q:St->Hp->Prop),Inv X pins U H s->Vals vs us->t vs U H Q->
  wpAny (model X.prog X.w) X.A (assignInOrder ((assignEach ts X.env).map (·.2)) us) (λ_ s'=>∃U' H',Inv X pins U' H' s'/\Q U' H') X.xe s
section
variable {X:Cx} {pos:Pos}
def bY (i:Nat):TG:=λv U H Q=>Q (U.set i (some v)) H
def KG (hN:X.N.Nodup) (hi:X.N[i]?=some x) (hx:Loc X.env.scope x) (hf:X.fn x=true\/X.env.scope.names.lookup x=some .local<|>qa_):PG X (.Name x pos) (bY i):=by
 intro pins s U H v u Q I r h;exact wpAny_assign_Name (mK I hN hi hx r (λs' I'=>{_,H,I',h}) hf)
def Hy:TU:=λvs U H Q=>vs=[]/\Q U H
def fR (t:TG) (u:TU):TU:=λvs U H Q=>∃v r,vs=v::r/\t v U H λU' H'=>u r U' H' Q
def cJ:Um X [] Hy:=by
 intro pins s U H vs us Q I r h;let⟨e,h⟩:=h;subst e;cases r;exact assignInOrder_nil {U,H,I,h}
def aM (h1:PG X e t) (h2:Um X es u)
  (hs:(assignEach (e::es) X.env).map (·.2)=assign e X.env::(assignEach es X.env).map (·.2)<|>qe_):Um X (e::es) (fR t u):=by
 intro pins s U H vs us Q I r h;let⟨v,vr,e1,h⟩:=h;subst e1;cases r with
 | cons r rr=>
  rw[hs];refine assignInOrder_cons (cR (h1 pins s U H _ _ _ I r h) λ_ s1 ⟨σ1,H1,I1,q1⟩=>?_);exact h2 pins s1 σ1 H1 _ _ Q I1 rr q1
def Hw (K:yA) (n:Nat) (t:TU):TG:=λv U H Q=>∃a xs,v=.ref a/\cu K H a xs/\⇑xs=n/\t xs U H Q
def dy (hc:X.calm=true) (h:Um X es t)
  (hn:⇑(assignEach es X.env)=n<|>qe_) (hst:(assignEach es X.env).findIdx? (·.1)=none<|>qe_):PG X (.Tuple es k pos) (Hw X.K n t):=by
 intro pins s U H v u Q I r hw;let⟨a,xs,e1,hq,hl,hw⟩:=hw;subst e1;cases r;let⟨its,rv,ht,hz⟩:=I.tuple hq;refine assign_Tuple_tuple (I.ok.hd hc) ht (by simp[hn,<-hl,⇑rv]) hst λh' hx=>?_;let I1:Inv X pins U H {s with heap:=h'}:=I.kept (t':=s.toks) λb o e=>hx b o (yi (yx e)) e;exact h pins _ U H xs _ Q I1 (by simpa using rv) hw
def Ga (te:TE) (g:TG):TS:=λD U H=>te U H λx H1=>g x U H1 D.nx
def NI (hN:X.N.Nodup) (hi:X.N[i]?=some x) (hx:Loc X.env.scope x) (he:PE X e te) (hs:swapsWith e (some (.Name x pos')) pos.line X.env=pure false<|>qe_) (hf:X.fn x=true\/X.env.scope.names.lookup x=some .local<|>qa_) :
  PS X (.Assign [.Name x pos'] e pos) (Ga te (bY i)):=by
 intro pins s U H D I h;refine wpAny_Assign_Name (cR (he pins s U H _ I h) λv s1 ⟨y,H1,I1,r1,q1⟩=>?_) hs;exact mK I1 hN hi hx r1 (λs2 I2=>{_,H1,I2,q1}) hf
def US (i j:Nat) (ta:TA):TS:=λD U H=>ta U H λvs H1=>∃v w,vs=[v,w]/\D.nx ((U.set i (some v)).set j (some w)) H1
def NJ (hc:X.calm=true) (hN:X.N.Nodup) (hi:X.N[i]?=some x) (hj:X.N[j]?=some y) (hij:i≠j)
  (hx:X.env.scope.names.lookup x=some .local) (hy:X.env.scope.names.lookup y=some .local) (ha:PA X [a,b] ta)
  (hw:swappedStores [.Tuple [.Name x px,.Name y py] kt pt] (.Tuple [a,b] k2 pt2) X.env=pure (some [x,y]))
  (hs:swapsWithSole [.Tuple [.Name x px,.Name y py] kt pt] (.Tuple [a,b] k2 pt2) pos.line X.env=pure false<|>qe_) :
  PS X (.Assign [.Tuple [.Name x px,.Name y py] kt pt] (.Tuple [a,b] k2 pt2) pos) (US i j ta):=by
 intro pins s U H D I h;rw[exec_Assign_arm];refine yt (wpAny_standAt ?_);rw[hs];refine yt (yv ?_);rw[yM ∅];refine yt (Tuple_ (cR (ha _ pins s U H _ I h) λus s1 zz=>?_));let⟨vs,H1,I1,r1,q1⟩:=zz;let⟨v,w,e1,q1⟩:=q1;subst e1;obtain⟨u1,u2,rfl,rv,rw'⟩:∃u1 u2,us=[u1,u2]/\RelV v u1/\RelV w u2:=by
  cases r1 with
  | cons p q=>
   cases q with
   | cons p' q'=>
    cases q';exact{_,_,rfl,p,p'}
 refine y9 ?_ (by show 2<=sizeLine;decide);let I2:Inv X pins U H1 {s1 with heap:=s1.heap.push {cls:=.type "tuple",data:=.seq [u1,u2].toArray}}:=I1.kept (t':=s1.toks) λb o e=>yu _ e;rw[hw];refine yt (yv ?_);show wpAny (model X.prog X.w) X.A (do rule "assign.swapped-stores";let items <-unpackItems (.ref ↑s1) 2 none;assignInOrder [λv=>bindName X.env y v,λv=>bindName X.env x v] items.reverse;pure Flow.next) _ _ _;refine yt (wpAny_rule (yt (unpackItems_tuple (items:=#[u1,u2]) (I.ok.hd hc) (IsTup.new s1.heap _) λh' hx'=>?_)));let I3:=I2.kept (h':=h') (t':=s1.toks) λb o e=>hx' b o (yi (yx e)) e;show wpAny _ _ (assignInOrder [λv=>bindName X.env y v,λv=>bindName X.env x v] [u2,u1] >>= λ_=>pure Flow.next) _ _ _;refine yt (assignInOrder_cons (wpAny_bindName (mK I3 hN hj (.inl hy) rw' (λs2 I4=>?_) (.inr hy))));refine assignInOrder_cons (wpAny_bindName (mK I4 hN hi (.inl hx) rv (λs3 I5=>assignInOrder_nil (yv ?_)) (.inr hx)));rw[List.set_comm _ _ (Ne.symm hij)] at I5;exact{_,H1,I5,q1}
end
section
variable {X:Cx} {pos:Pos}
def MZ (c:TT) (tb:TS):TS:=λD U H=>∃W:Nat->St->Hp->Prop,(∃m,W m U H)/\∀m U H,W m U H->
 c U H λb H1=>if b=true then∃N:St->Hp->Prop,(∀U' H',N U' H'->∃m',m'<m/\W m' U' H')/\tb {D with nx:=N,ct:=N,bk:=D.nx} U H1 else D.nx U H1
def AN (hp:PassesOwn (model X.prog X.w) X.A X.env X.xe) (hc:PT X c tc) (hb:DX X body tb):PS X (.While c body [] pos) (MZ tc tb):=by
 intro pins s U H D I h;let⟨W,⟨m0,w0⟩,turn⟩:=h;refine wpAny_While (codeAny_whileLoop (λn s'=>∃U' H',Inv X pins U' H' s'/\W n U' H') ?_ m0 {U,H,I,w0});rintro n s1 ⟨σ1,H1,I1,w1⟩;refine xS hp (cR (hc pins s1 σ1 H1 _ I1 (turn n σ1 H1 w1)) λb s2 ⟨H2,I2,q2⟩=>?_);cases b with
 | true=>
  let⟨N,hN,q2⟩:=q2;rw[yN rfl];refine xS hp (cR (hb pins s2 σ1 H2 _ I2 q2) λf s3 q3=>?_);cases f with
  | next=>
   let⟨σ3,H3,I3,n3⟩:=q3;let⟨m',hm,w3⟩:=hN σ3 H3 n3;exact{m',hm,σ3,H3,I3,w3}
  | cont=>
   let⟨σ3,H3,I3,n3⟩:=q3;let⟨m',hm,w3⟩:=hN σ3 H3 n3;exact{m',hm,σ3,H3,I3,w3}
  | brk=>exact q3
  | ret v=>exact q3
 | false=>
  rw[yM zK];exact wq {σ1,H2,I2,q2}
end
structure It where
 go:Nat->Hp->Prop
 II:Nat->Hp->V->Hp->Prop
 stop:Nat->Hp->Prop
def pN (X:Cx) (pins:List (vy×Obj)) (H:Hp) (b:vy):Prop:=
 H b=none/\b≠X.env.locals/\b∉X.fs/\(b∈X.ex\/X.s₀.heap.objs.size<=b)/\(∀x c,X.env.cells.lookup x=some c->c≠b)/\∀p∈X.pn++pins,p.1≠b
def Inv.uS (I:Inv X pins U H s) (hb:↑s<=b) (hn:H' b=none):pN X pins H' b:=by
 refine{hn,yh (yb I.lt hb),I.Tj hb,.inr (zL I.sz hb),λx c e z=>?_,λp hp z=>?_}
 ·let⟨v,q⟩:=I.cell x c e
  exact absurd (yb q.lt (by rw[z];exact hb)) (ye _)
 ·exact absurd (yb (yx (I.pin p hp).1) (by rw[z];exact hb)) (ye _)
structure Turn (P:vt) (w:vv) (K:yA) (tg:Expr) (J:It) (fp:List vy) (it:vy) (tn:Nat->vz->Prop):Prop where
 mem:it∈fp
 obj:∀i h,tn i h->∀b∈fp,∃o,h.get? b=some o/\∀v,o.data≠.cell v
 keep:∀i h h',tn i h->(∀b∈fp,∀o,h.get? b=some o->h'.get? b=some o)->tn i h'
 item:∀(X:Cx),X.prog=P->X.w=w->X.K=K->X.calm=true->∀(i:Nat) (pins:List (vy×Obj)) (s:vq) (U:St) (H:Hp) (E:vo->vq->Prop),Inv X pins U H s->(∀b∈fp,pN X pins H b)->tn i s.heap->J.go i H->
  wpAny (model P w) X.A (pyNext (.ref it)) (λr s1=>∃u,r=some u/\
   wpAny (model P w) X.A (letOwnedTupleGo tg (.ref it) u) (λ_ s2=>∃x H',Inv X pins U H' s2/\RelV x u/\J.II i H x H'/\tn (i+1) s2.heap/\∀b∈fp,H' b=none) E s1) E s
 done:∀(X:Cx),X.prog=P->X.w=w->X.K=K->X.calm=true->∀(i:Nat) (pins:List (vy×Obj)) (s:vq) (U:St) (H:Hp) (E:vo->vq->Prop),Inv X pins U H s->(∀b∈fp,pN X pins H b)->tn i s.heap->J.stop i H->
  wpAny (model P w) X.A (pyNext (.ref it)) (λr s1=>r=none/\Inv X pins U H s1) E s
 self:∀(A:vw) (i:Nat) (s:vq) (Q:vo->vq->Prop) (E:vo->vq->Prop),tn i s.heap->Q (.ref it) s->wpAny (model P w) A (pyIter (.ref it)) Q E s
abbrev TI:=St->Hp->(It->Hp->Prop)->Prop
def VA (X:Cx) (pins:List (vy×Obj)) (U:St) (tg:Expr) (R:It->Hp->Prop) (itv:vo) (s2:vq):Prop:=
 ∃(it:vy) (fp:List vy) (tn:Nat->vz->Prop) (J:It) (H':Hp),itv=.ref it/\Inv X pins U H' s2/\Turn X.prog X.w X.K tg J fp it tn/\tn 0 s2.heap/\(∀b∈fp,pN X pins H' b)/\R J H'
def PI (X:Cx) (tg iter:Expr) (wi:TI):Prop:=
 ∀(pins:List (vy×Obj)) (s:vq) (U:St) (H:Hp) (R:It->Hp->Prop),Inv X pins U H s->wi U H R->
  wpAny (model X.prog X.w) X.A (eval iter X.env) (λv s1=>wpAny (model X.prog X.w) X.A (pyIter v) (VA X pins U tg R) X.xe s1) X.xe s
def DJ (ho:s.heap.get? it=some o) (hc:o.cls=.type n) (hd:o.data=.fields vs)
    (hn:["enumerate","zip","dict_itemiterator","dict_reverseitemiterator","odict_iterator","itertools.zip_longest","itertools.pairwise"].contains n=false) (hQ:Q .unit s):wpAny M A (letOwnedTupleGo tg (.ref it) u) Q E s:=by
  unfold letOwnedTupleGo;cases tg <;> first
    | exact yv hQ
    | (cases u <;> first
        | exact yv hQ
        | (refine yt (wpAny_load ho ?_)
           rw[hc,hd];show wpAny M A (if(["enumerate","zip","dict_itemiterator","dict_reverseitemiterator","odict_iterator","itertools.zip_longest","itertools.pairwise"].contains n&&vs[0]? == some (rawInt _))=true then _ else _) Q E s;rw[yM (by intro h;rw[hn,yS] at h;cases h)];exact yv hQ))
def K9 (K:yA) (a:vy):It:=
 {λi H=>∃xs x,aI K H a xs/\xs[i]?=some x,λi H x H'=>H'=H/\∀xs,aI K H a xs->xs[i]?=some x,λi H=>∃xs,aI K H a xs/\⇑xs<=i}
def O0 (K:yA) (a:vy):It:=
 {λi H=>∃xs x,cu K H a xs/\xs[i]?=some x,λi H x H'=>H'=H/\∀xs,cu K H a xs->xs[i]?=some x,λi H=>∃xs,cu K H a xs/\⇑xs<=i}
def K8 (lo:Int) (n:Nat):It:={λi _=>i<n,λi H x H'=>H'=H/\x=.int (lo+i),λi _=>n<=i}
def Li {P:vt} {w:vv} {K:yA} {tg:Expr} (a it:vy):Turn P w K tg (K9 K a) [it] it (λi h=>h.IsListIter it a i) where
 mem:=by simp
 obj:=λi h st b hb=>by
  let e:b=it:=by simpa using hb
  subst e;let⟨o,e,c,d⟩:=st;exact{o,e,λv z=>by rw[d] at z;cases z}
 keep:=λi h h' st k=>st.at λo e=>k it (by simp) o e
 item:=by
  intro X hP hw hK hc i pins s U H E I hf st hg;subst hP hw hK;let⟨xs,x,hq,hx⟩:=hg;let⟨its,rv,p,hz⟩:=I.list hq;let⟨u,hu,ru⟩:=rv.get hx;let⟨f0,f1,f2,f3,f4,f5⟩:=hf it (by simp);refine wpAny_pyNext_list_item st p.isList (x:=u) (by simpa using hu) λh' st' sb=>?_;let I1:Inv X pins U H {s with heap:=h'}:=I.turned (t':=s.toks) (λb o hb e=>(sb.2 b hb).trans e) f0 f1 f3 f4 f5;let⟨o,e,c,d⟩:=id st';exact{u,rfl,DJ (s:={s with heap:=h'}) e c d ∅ {x,H,I1,ru,{rfl,λys hy=>by rw[I.A3 hy hq];exact hx},st',λb hb=>(hf b hb).1}}
 done:=by
  intro X hP hw hK hc i pins s U H E I hf st hg;subst hP hw hK;let⟨xs,hq,hx⟩:=hg;let⟨its,rv,p,hz⟩:=I.list hq;let⟨f0,f1,f2,f3,f4,f5⟩:=hf it (by simp);let hl:=⇑rv;exact wpAny_pyNext_list_end (I.ok.hd hc) st p.isList (by simp;ext) λh' eb=>{rfl,I.turned (t':=s.toks) (λb o hb e=>eb b o hb e) f0 f1 f3 f4 f5}
 self:=λ_ _ _ _ _ st h=>wpAny_pyIter_listiter st h
def IS {P:vt} {w:vv} {K:yA} {tg:Expr} (a it:vy):Turn P w K tg (O0 K a) [it] it (λi h=>h.IsTupleIter it a i) where
 mem:=by simp
 obj:=λi h st b hb=>by
  let e:b=it:=by simpa using hb
  subst e;let⟨o,e,c,d⟩:=st;exact{o,e,λv z=>by rw[d] at z;cases z}
 keep:=λi h h' st k=>st.at λo e=>k it (by simp) o e
 item:=by
  intro X hP hw hK hc i pins s U H E I hf st hg;subst hP hw hK;let⟨xs,x,hq,hx⟩:=hg;let⟨its,rv,p,hz⟩:=I.tuple hq;let⟨u,hu,ru⟩:=rv.get hx;let⟨f0,f1,f2,f3,f4,f5⟩:=hf it (by simp);refine wpAny_pyNext_tuple_item st (show s.heap.IsTuple a its.toArray from p) (x:=u) (by simpa using hu) λh' st' sb=>?_;let I1:Inv X pins U H {s with heap:=h'}:=I.turned (t':=s.toks) (λb o hb e=>(sb.2 b hb).trans e) f0 f1 f3 f4 f5;let⟨o,e,c,d⟩:=id st';exact{u,rfl,DJ (s:={s with heap:=h'}) e c d ∅ {x,H,I1,ru,{rfl,λys hy=>by rw[I.Dj hy hq];exact hx},st',λb hb=>(hf b hb).1}}
 done:=by
  intro X hP hw hK hc i pins s U H E I hf st hg;subst hP hw hK;let⟨xs,hq,hx⟩:=hg;let⟨its,rv,p,hz⟩:=I.tuple hq;let⟨f0,f1,f2,f3,f4,f5⟩:=hf it (by simp);let hl:=⇑rv;exact wpAny_pyNext_tuple_end (I.ok.hd hc) st (show s.heap.IsTuple a its.toArray from p) (by simp;ext) λh' eb=>{rfl,I.turned (t':=s.toks) (λb o hb e=>eb b o hb e) f0 f1 f3 f4 f5}
 self:=λ_ _ _ _ _ st h=>wpAny_pyIter_tupleiter st h
def IT {P:vt} {w:vv} {K:yA} {tg:Expr} (it:vy) (lo:Int) (n:Nat):Turn P w K tg (K8 lo n) [it] it (λi h=>IsRangeIter h it (lo+(i:Nat)*1) ((n:Int)-(i:Nat)) 1) where
 mem:=by simp
 obj:=λi h st b hb=>by
  let e:b=it:=by simpa using hb
  subst e;exact{_,st,λv z=>by
   let z':Data.fields _=Data.cell v:=z;cases z'}
 keep:=λi h h' st k=>k it (by simp) _ st
 item:=by
  intro X hP hw hK hc i pins s U H E I hf st hg;subst hP hw hK;let⟨f0,f1,f2,f3,f4,f5⟩:=hf it (by simp);let W:=Walks.range (prog:=X.prog) (w:=X.w) (I.ok.hd hc) it lo 1 n;refine W.item i s _ _ hg st λv h' tk hv st' kk=>?_;let⟨t,rfl⟩:=hv;let I1:Inv X pins U H {s with heap:=h',toks:=tk}:=I.turned (λb o hb e=>kk b o (by simpa using hb) e) f0 f1 f3 f4 f5;refine{_,rfl,DJ (s:={s with heap:=h',toks:=tk}) (n:="range_iterator") st' rfl rfl ∅ {.int (lo+i),H,I1,{t,?_},{(rfl),rfl},st',λb hb=>(hf b hb).1}};rw[Int.mul_one]
 done:=by
  intro X hP hw hK hc i pins s U H E I hf st hg;subst hP hw hK;let⟨f0,f1,f2,f3,f4,f5⟩:=hf it (by simp);exact wpAny_pyNext_range_end (I.ok.hd hc) st (by have:n<=i:=hg;ext) λh' eb=>{rfl,I.turned (t':=s.toks) (λb o hb e=>eb b o hb e) f0 f1 f3 f4 f5}
 self:=λ_ _ _ _ _ st h=>wpAny_pyIter_rangeiter st h
end L2
namespace L2
open PySem PySem.Spec PyProof.Rows
section
variable {X:Cx} {tg:Expr}
def KP (K:yA) (tl:TE):TI:=λU H R=>tl U H λx H1=>∃a,x=.ref a/\(∃xs,aI K H1 a xs)/\R (K9 K a) H1
def Ve (K:yA) (tl:TE):TI:=λU H R=>tl U H λx H1=>∃a,x=.ref a/\(∃xs,cu K H1 a xs)/\R (O0 K a) H1
def bc {l:Expr} {tl:TE} (hl:PE X l tl):PI X tg l (KP X.K tl):=by
 intro pins s U H R I h;refine cR (hl pins s U H _ I h) λv s1 zz=>?_;let⟨x,H1,I1,r1,q1⟩:=zz;let⟨a,e,⟨xs,hq⟩,q⟩:=q1;subst e;cases r1;let⟨its,rv,p,hz⟩:=I1.list hq;refine wH p.isList ?_;refine{↑s1,[↑s1],_,_,H1,rfl,I1.kept (t':=s1.toks) λb o e=>yu _ e,Li a _,{_,yw _ rfl,rfl,rfl},λb hb=>?_,q};let e:b=↑s1:=by simpa using hb
 subst e;exact I1.uS (zk _) (I1.bW.fresh (zk _))
def gX {l:Expr} {tl:TE} (hl:PE X l tl):PI X tg l (Ve X.K tl):=by
 intro pins s U H R I h;refine cR (hl pins s U H _ I h) λv s1 zz=>?_;let⟨x,H1,I1,r1,q1⟩:=zz;let⟨a,e,⟨xs,hq⟩,q⟩:=q1;subst e;cases r1;let⟨its,rv,p,hz⟩:=I1.tuple hq;refine wpAny_pyIter_tuple (show s1.heap.IsTuple a its.toArray from p) ?_;refine{↑s1,[↑s1],_,_,H1,rfl,I1.kept (t':=s1.toks) λb o e=>yu _ e,IS a _,{_,yw _ rfl,rfl,rfl},λb hb=>?_,q};let e:b=↑s1:=by simpa using hb
 subst e;exact I1.uS (zk _) (I1.bW.fresh (zk _))
def GJ {pins:List (vy×Obj)} {U:St} {H:Hp} {s:vq} {R:It->Hp->Prop} {E:vo->vq->Prop} {lo hi:Int} {t u v:Tok} {tk:Nat} (I:Inv X pins U H s) (h1:-(2^62)<=lo) (h2:lo<2^62) (h3:-(2^62)<=hi) (h4:hi<2^62)
  (q:R (K8 lo (hi-lo).toNat) H):wpAny (model X.prog X.w) X.A (pyIter (.ref ↑s)) (VA X pins U tg R) E {s with heap:=s.heap.push {cls:=.type "range",data:=.fields #[.int lo t,.int hi u,.int 1 v]},toks:=tk}:=by
 refine wpAny_pyIter_range (IsRange.new ..) (small_one h1 h2 h3 h4) ?_;let I1:Inv X pins U H {s with heap:=s.heap.push {cls:=.type "range",data:=.fields #[.int lo t,.int hi u,.int 1 v]},toks:=tk}:=I.kept λb o e=>yu _ e;refine{(s.heap.push {cls:=.type "range",data:=.fields #[.int lo t,.int hi u,.int 1 v]}).objs.size,[(s.heap.push {cls:=.type "range",data:=.fields #[.int lo t,.int hi u,.int 1 v]}).objs.size],_,_,H,rfl,
  I1.kept (t':=tk) λb o e=>yu _ e,IT _ lo (hi-lo).toNat,?_,λb hb=>?_,q}
 ·let e1:lo+((0:Nat):Int)*1=lo:=by simp
  let e2:(((hi-lo).toNat:Nat):Int)-((0:Nat):Int)=Builtin.Range.rangeSize lo hi 1:=by rw[rangeSize_one];split <;> ext
  show IsRangeIter _ _ (lo+((0:Nat):Int)*1) ((((hi-lo).toNat:Nat):Int)-((0:Nat):Int)) 1;rw[e1,e2];exact yw _ rfl
 ·let e:b=(s.heap.push {cls:=.type "range",data:=.fields #[.int lo t,.int hi u,.int 1 v]}).objs.size:=by simpa using hb
  subst e;exact I1.uS (zk _) (I1.bW.fresh (zk _))
def Oe (ta:TA):TI:=λU H R=>ta U H λvs H1=>∃j:Int,vs=[.int j]/\-(2^62)<=j/\j<2^62/\R (K8 0 j.toNat) H1
def Tx (ta:TA):TI:=λU H R=>ta U H λvs H1=>∃i j:Int,vs=[.int i,.int j]/\(-(2^62)<=i/\i<2^62/\-(2^62)<=j/\j<2^62)/\R (K8 i (j-i).toNat) H1
def dg {a:Expr} {ta:TA} {p pos:Pos} (hg:Gl X "range") (hm:X.mg "range"= none) (ha:PA X [a] ta) (hs:starEach [a] X.env=[(false,eval a X.env)]<|>qe_):PI X tg (.Call (.Name "range" p) [a] [] pos) (Oe ta):=by
 intro pins s U H R I h;refine Call_ (je I hg hm boot_range (yL (cR (ha pos pins s U H _ I h) λus s1 ⟨vs,H1,I1,r1,q1⟩=>?_) hs rfl));let⟨j,e,q1,q2,q⟩:=q1;subst e;cases r1 with
 | cons r rr=>
  cases rr;let⟨t,rfl⟩:=r;exact call_range_1 (GJ I1 () () q1 q2 (by simpa using q))
def nM (hg:Gl X "range") (hm:X.mg "range"= none) (ha:PA X [a,b] ta) (hs:starEach [a,b] X.env=[(false,eval a X.env),(false,eval b X.env)]<|>qe_) (hs2:starEach [b] X.env=[(false,eval b X.env)]<|>qe_) :
  PI X tg (.Call (.Name "range" p) [a,b] [] pos) (Tx ta):=by
 intro pins s U H R I h;refine Call_ (je I hg hm boot_range (yL (cR (ha pos pins s U H _ I h) λus s1 ⟨vs,H1,I1,r1,q1⟩=>?_) (by rw[hs,hs2]) (by rw[hs2];rfl)));let⟨i,j,e,⟨q1,q2,q3,q4⟩,q⟩:=q1;subst e;cases r1 with
 | cons r rr=>
  cases rr with
  | cons r' rr=>
   cases rr;let⟨t,rfl⟩:=r;let⟨t',rfl⟩:=r';exact call_range_2 (GJ I1 q1 q2 q3 q4 q)
def Rk (wi:TI) (g:TG) (tb:TS):TS:=λD U H=>wi U H λJ H1=>∃W:Nat->Nat->St->Hp->Prop,(∃m,W 0 m U H1)/\∀i m U H,W i m U H->
 (J.stop i H/\D.nx U H)\/(J.go i H/\∃N:St->Hp->Prop,(∀U' H',N U' H'->∃m',m'<m/\W (i+1) m' U' H')/\∀x H',J.II i H x H'->g x U H' λσ2 H2=>tb {D with nx:=N,ct:=N,bk:=D.nx} σ2 H2)
def sD (fp:List vy) (h:vz):List (vy×Obj):=fp.filterMap λb=>(h.get? b).map λo=>(b,o)
def gk (hb:b∈fp) (e:h.get? b=some o):(b,o)∈sD fp h:=vh.mpr {b,hb,by rw[e];rfl}
def LN (hp:p∈sD fp h):p.1∈fp/\h.get? p.1=some p.2:=by
 let⟨b,hb,e⟩:=vh.mp hp;cases q:h.get? b with
 | none=>rw[q] at e;cases e
 | some o=>
  rw[q] at e;let e':(b,o)=p:=yj e;subst e';exact{(hb),q}
def Inv.pinned (I:Inv X pins U H s) (hf:∀b∈fp,pN X pins H b) (ho:∀b∈fp,∃o,s.heap.get? b=some o/\∀v,o.data≠.cell v):Inv X (pins++sD fp s.heap) U H s:=
 I.nL λp hp=>(zF.mp hp).elim (λz=>I.pin p (zH _ z)) λz=>by
  let⟨hb,e⟩:=LN z;let⟨f0,f1,f2,_⟩:=hf p.1 hb;let⟨o,e',d⟩:=ho p.1 hb;rw[e] at e';cases e';exact{(e),f0,f1,f2,d}
def Inv.vY (I:Inv X (pins++pl) U H s):Inv X pins U H s:=I.nL λp hp=>I.pin p (zH _ (zI _ hp))
def bZ (hp:PassesOwn (model X.prog X.w) X.A X.env X.xe) (hc:X.calm=true) (hi:PI X tg iter wi) (hg:PG X tg g) (hb:DX X body tb)
  (hs:(∀x,foldedSetIterable iter X.env x=pure x)<|>qd_):PS X (.For tg iter body [] pos) (Rk wi g tb):=by
 intro pins s U H D I h;refine wpAny_For (cR (hi pins s U H _ I h) λv s1 h1=>cR h1 λitv s2 h2=>?_) hs;let⟨it,fp,tn,J,H2,e,I2,T,st2,f2,W,⟨m0,w0⟩,turn⟩:=h2;subst e;let stat:∀{H':Hp},(∀b∈fp,H' b=none)->∀b∈fp,pN X pins H' b:=λhn b hb=>{hn b hb,(f2 b hb).2}
 refine codeAny_forLoop_any (λn s'=>∃i U' H',Inv X pins U' H' s'/\tn i s'.heap/\(∀b∈fp,H' b=none)/\W i n U' H') ?_ m0 {0,U,H2,I2,st2,λb hb=>(f2 b hb).1,w0};rintro n s3 ⟨i,σ3,H3,I3,st3,fr3,w3⟩;rcases turn i n σ3 H3 w3 with⟨stop,qn⟩ | ⟨go,N,hN,step⟩
 ·refine xS hp (cR (T.done X rfl rfl rfl hc i pins s3 σ3 H3 X.xe I3 (stat fr3) st3 stop) λr s4 ⟨hr,I4⟩=>?_)
  subst hr;exact wq {σ3,H3,I4,qn}
 ·refine xS hp (cR (T.item X rfl rfl rfl hc i pins s3 σ3 H3 X.xe I3 (stat fr3) st3 go) λr s4 ⟨u,hr,h4⟩=>?_)
  subst hr;refine xS hp (cR h4 λ_ s5 zz=>?_);let⟨x,H5,I5,r5,y5,st5,fr5⟩:=zz;let I5':=I5.pinned (stat fr5) (T.obj _ _ st5);refine xS hp (cR (hg _ s5 σ3 H5 x u _ I5' r5 (step x H5 y5)) λ_ s6 ⟨σ6,H6,I6,q6⟩=>?_);refine xS hp (cR (hb _ s6 σ6 H6 _ I6 q6) λf s7 q7=>?_);let again:∀{σ7:St} {H7:Hp},Inv X (pins++sD fp s5.heap) σ7 H7 s7->N σ7 H7->∃m,m<n/\∃i U' H',Inv X pins U' H' s7/\tn i s7.heap/\(∀b∈fp,H' b=none)/\W i m U' H':=λ{σ7 H7} I7 n7=>by
   let⟨m',hm,w7⟩:=hN σ7 H7 n7;refine{m',hm,i+1,σ7,H7,I7.vY,T.keep _ _ _ st5 λb hb o e=>(I7.pin (b,o) (zH _ (zH _ (gk hb e)))).1,λb hb=>?_,w7};let⟨o,e,d⟩:=T.obj _ _ st5 b hb;exact(I7.pin (b,o) (zH _ (zH _ (gk hb e)))).2.1
  cases f with
  | next=>let⟨σ7,H7,I7,n7⟩:=q7;exact again I7 n7
  | cont=>let⟨σ7,H7,I7,n7⟩:=q7;exact again I7 n7
  | brk=>let⟨σ7,H7,I7,q7⟩:=q7;exact{σ7,H7,I7.vY,q7}
  | ret v=>let⟨x7,σ7,H7,I7,r7,q7⟩:=q7;exact{x7,σ7,H7,I7.vY,r7,q7}
end
def fi {K:yA} {a:vy} {xs:List V} {g:TG} {tb:TS} {D:Ends} {U:St} {H:Hp} (Pv:Nat->St->Hp->Prop) (h0:Pv 0 U H) (hl:∀i U H,i<=⇑xs->Pv i U H->aI K H a xs)
  (hs:∀i x U H,xs[i]?=some x->Pv i U H->g x U H λσ2 H2=>tb {D with nx:=Pv (i+1),ct:=Pv (i+1),bk:=D.nx} σ2 H2) (hd:∀U H,Pv ⇑xs U H->D.nx U H) :
  ∃W:Nat->Nat->St->Hp->Prop,(∃m,W 0 m U H)/\∀i m U H,W i m U H->
   ((K9 K a).stop i H/\D.nx U H)\/((K9 K a).go i H/\∃N:St->Hp->Prop,(∀U' H',N U' H'->∃m',m'<m/\W (i+1) m' U' H')/\∀x H',(K9 K a).II i H x H'->g x U H' λσ2 H2=>tb {D with nx:=N,ct:=N,bk:=D.nx} σ2 H2):=by
 refine{λi m U H=>m=⇑xs-i/\i<=⇑xs/\Pv i U H,{⇑xs,by simp,yf _,h0},?_};rintro i m U H ⟨rfl,hi,p⟩;let q:=hl i U H hi p
 by_cases hlt:i<⇑xs
 ·refine .inr {{xs,xs[i],q,by simp[hlt]},Pv (i+1),λU' H' p'=>{⇑xs-(i+1),(),rfl,hlt,p'},λx H' y=>?_}
  let⟨e,y⟩:=y;subst e;exact hs i x U _ (y xs q) p
 ·let e:i=⇑xs:=()
  subst e;exact .inl {{xs,q,zk _},hd U H p}
def E7 {K:yA} {a:vy} {xs:List V} {g:TG} {tb:TS} {D:Ends} {U:St} {H:Hp} (Pv:Nat->St->Hp->Prop) (h0:Pv 0 U H) (hl:∀i U H,i<=⇑xs->Pv i U H->cu K H a xs)
  (hs:∀i x U H,xs[i]?=some x->Pv i U H->g x U H λσ2 H2=>tb {D with nx:=Pv (i+1),ct:=Pv (i+1),bk:=D.nx} σ2 H2) (hd:∀U H,Pv ⇑xs U H->D.nx U H) :
  ∃W:Nat->Nat->St->Hp->Prop,(∃m,W 0 m U H)/\∀i m U H,W i m U H->
   ((O0 K a).stop i H/\D.nx U H)\/((O0 K a).go i H/\∃N:St->Hp->Prop,(∀U' H',N U' H'->∃m',m'<m/\W (i+1) m' U' H')/\∀x H',(O0 K a).II i H x H'->g x U H' λσ2 H2=>tb {D with nx:=N,ct:=N,bk:=D.nx} σ2 H2):=by
 refine{λi m U H=>m=⇑xs-i/\i<=⇑xs/\Pv i U H,{⇑xs,by simp,yf _,h0},?_};rintro i m U H ⟨rfl,hi,p⟩;let q:=hl i U H hi p
 by_cases hlt:i<⇑xs
 ·refine .inr {{xs,xs[i],q,by simp[hlt]},Pv (i+1),λU' H' p'=>{⇑xs-(i+1),(),rfl,hlt,p'},λx H' y=>?_}
  let⟨e,y⟩:=y;subst e;exact hs i x U _ (y xs q) p
 ·let e:i=⇑xs:=()
  subst e;exact .inl {{xs,q,zk _},hd U H p}
def gn {lo:Int} {n:Nat} {g:TG} {tb:TS} {D:Ends} {U:St} {H:Hp} (Pv:Nat->St->Hp->Prop) (h0:Pv 0 U H)
  (hs:∀i U H,i<n->Pv i U H->g (.int (lo+i)) U H λσ2 H2=>tb {D with nx:=Pv (i+1),ct:=Pv (i+1),bk:=D.nx} σ2 H2) (hd:∀U H,Pv n U H->D.nx U H) :
  ∃W:Nat->Nat->St->Hp->Prop,(∃m,W 0 m U H)/\∀i m U H,W i m U H->
   ((K8 lo n).stop i H/\D.nx U H)\/((K8 lo n).go i H/\∃N:St->Hp->Prop,(∀U' H',N U' H'->∃m',m'<m/\W (i+1) m' U' H')/\∀x H',(K8 lo n).II i H x H'->g x U H' λσ2 H2=>tb {D with nx:=N,ct:=N,bk:=D.nx} σ2 H2):=by
 refine{λi m U H=>m=n-i/\i<=n/\Pv i U H,{n,by simp,yf _,h0},?_};rintro i m U H ⟨rfl,hi,p⟩
 by_cases hlt:i<n
 ·refine .inr {hlt,Pv (i+1),λU' H' p'=>{n-(i+1),(),rfl,hlt,p'},λx H' y=>?_}
  let⟨e,y⟩:=y;subst e y;exact hs i U _ hlt p
 ·let e:i=n:=()
  subst e;exact .inl {zk _,hd U H p}
end L2
namespace L2
open PySem PySem.Spec PyProof.Rows
abbrev R2:=V->V->Hp->VK->Prop
def mG (X:Cx) (f:vo->vo->Sem vo) (r:R2):Prop:=
 ∀(pins:List (vy×Obj)) (s:vq) (U:St) (H:Hp) (x y:V) (v u:vo) (Q:VK),Inv X pins U H s->RelV x v->RelV y u->r x y H Q->
  wpAny (model X.prog X.w) X.A (f v u) (EP X pins U Q) X.xe s
def Vo (X:Cx) (f:vo->Sem vo) (r:V->Hp->VK->Prop):Prop:=
 ∀(pins:List (vy×Obj)) (s:vq) (U:St) (H:Hp) (x:V) (v:vo) (Q:VK),Inv X pins U H s->RelV x v->r x H Q->
  wpAny (model X.prog X.w) X.A (f v) (EP X pins U Q) X.xe s
def fF (X:Cx) (f:vo) (r:List V->Hp->VK->Prop):Prop:=
 ∀(pins:List (vy×Obj)) (s:vq) (U:St) (H:Hp) (xs:List V) (us:List vo) (Q:VK),Inv X pins U H s->Vals xs us->r xs H Q->
  wpAny (model X.prog X.w) X.A (call f us) (EP X pins U Q) X.xe s
def eO (r:R2) (ta tb:TE):TE:=λU H Q=>ta U H λx H1=>tb U H1 λy H2=>r x y H2 Q
def VL (r:V->Hp->VK->Prop) (ta:TE):TE:=λU H Q=>ta U H λx H1=>r x H1 Q
def rI (C:Int->Int->Prop) (g:Int->Int->V):R2:=λx y H Q=>∃i j,x=.int i/\y=.int j/\C i j/\Q (g i j) H
def uG (g:Int->Int->V):R2:=λx y H Q=>∃i j,x=.int i/\y=.int j/\Q (g i j) H
def rU (g:Int->V):V->Hp->VK->Prop:=λx H Q=>∃i,x=.int i/\Q (g i) H
section
variable {X:Cx} {a b c:Expr} {ta tb tc:TE} {pos:Pos}
def Sn (ha:PE X a ta) (hb:PE X b tb) {pins:List (vy×Obj)} {s:vq} {U:St} {H:Hp} {R:V->V->Hp->Prop} (I:Inv X pins U H s)
  (h:ta U H λx H1=>tb U H1 λy H2=>R x y H2) {Q:vo->vq->Prop} {f:vo->vo->Sem vo}
  (hf:∀v u s2 x y H2,Inv X pins U H2 s2->RelV x v->RelV y u->R x y H2->wpAny (model X.prog X.w) X.A (f v u) Q X.xe s2) :
  wpAny (model X.prog X.w) X.A (eval a X.env) (λv s₁=>wpAny (model X.prog X.w) X.A (eval b X.env) (λu s₂=>wpAny (model X.prog X.w) X.A (f v u) Q X.xe s₂) X.xe s₁) X.xe s:=by
 refine cR (ha pins s U H _ I h) λv s1 zz=>?_;let⟨x,H1,I1,r1,q1⟩:=zz;refine cR (hb pins s1 U H1 _ I1 q1) λu s2 zz=>?_;let⟨y,H2,I2,r2,q2⟩:=zz;exact hf v u s2 x y H2 I2 r1 r2 q2
def aA {op:Operator} {r:R2} (ho:mG X (binaryOp op) r) (ha:PE X a ta) (hb:PE X b tb):PE X (.BinOp a op b pos) (eO r ta tb):=by
 intro pins s U H Q I h;exact wpAny_BinOp (Sn ha hb I h λv u s2 x y H2 I2 rx ry q=>ho pins s2 U H2 x y v u Q I2 rx ry q)
def qE (ho:Vo X (unaryOp op) r) (ha:PE X a ta):PE X (.UnaryOp op a pos) (VL r ta):=by
 intro pins s U H Q I h;exact UnaryOp_ (cR (ha pins s U H _ I h) λv s1 ⟨x,H1,I1,r1,q1⟩=>ho pins s1 U H1 x v Q I1 r1 q1)
def SD {f:vo->vo->Sem vo} {C:Int->Int->Prop} {g:Int->Int->Int}
  (rule:∀(i j:Int) (t u:Tok) (s:vq) (Q:vo->vq->Prop) (E:vo->vq->Prop),C i j->Q (.int (g i j) s.toks) {s with toks:=s.toks+1}->wpAny (model X.prog X.w) X.A (f (.int i t) (.int j u)) Q E s) :
  mG X f (rI C λi j=>.int (g i j)):=by
 intro pins s U H x y v u Q I rx ry h;let⟨i,j,rfl,rfl,hc,q⟩:=h;let⟨t,rfl⟩:=rx;let⟨t',rfl⟩:=ry;exact rule i j t t' s _ _ hc {.int (g i j),H,I.tok _,{_,rfl},q}
def RS {f:vo->vo->Sem vo} {g:Int->Int->Int}
  (rule:∀(i j:Int) (t u:Tok) (s:vq) (Q:vo->vq->Prop) (E:vo->vq->Prop),Q (.int (g i j) s.toks) {s with toks:=s.toks+1}->wpAny (model X.prog X.w) X.A (f (.int i t) (.int j u)) Q E s) :
  mG X f (uG λi j=>.int (g i j)):=by
 intro pins s U H x y v u Q I rx ry h;let⟨i,j,rfl,rfl,q⟩:=h;let⟨t,rfl⟩:=rx;let⟨t',rfl⟩:=ry;exact rule i j t t' s _ _ {.int (g i j),H,I.tok _,{_,rfl},q}
def P1 {f:vo->vo->Sem vo} {g:Int->Int->Bool}
  (rule:∀(i j:Int) (t u:Tok) (s:vq) (Q:vo->vq->Prop) (E:vo->vq->Prop),Q (.bool (g i j)) s->wpAny (model X.prog X.w) X.A (f (.int i t) (.int j u)) Q E s) :
  mG X f (uG λi j=>.bl (g i j)):=by
 intro pins s U H x y v u Q I rx ry h;let⟨i,j,rfl,rfl,q⟩:=h;let⟨t,rfl⟩:=rx;let⟨t',rfl⟩:=ry;exact rule i j t t' s _ _ {.bl (g i j),H,I,rfl,q}
def Sy (i j:Int):Prop:=0<j/\j<1073741824
def ME (i j:Int):Prop:=(-(2^64)<i/\i<2^64)\/(-(2^64)<j/\j<2^64)
def ME.ok (h:ME i j):IntMulOk i j:=by
 rcases h with⟨h1,h2⟩ | ⟨h1,h2⟩
 ·exact .of_left (intBits_le_64 h1 h2)
 ·exact .of_right (intBits_le_64 h1 h2)
def IQ (k:Nat):(0:Int)<=2^k:=by
 rw[two_pow_cast];exact Int.natCast_nonneg _
def aW:mG X (binaryOp .Add) (uG λi j=>.int (i+j)):=RS λ_ _ _ _ _ _ _ q=>add_int q
def fM:mG X (binaryOp .Sub) (uG λi j=>.int (i-j)):=RS λ_ _ _ _ _ _ _ q=>sub_int q
def dM:mG X (binaryOp .Mult) (rI ME λi j=>.int (i*j)):=SD λ_ _ _ _ _ _ _ hc q=>mul_int q hc.ok
def aV:mG X (binaryOp .FloorDiv) (rI Sy λi j=>.int (i/j)):=SD λi j _ _ _ _ _ hc q=>by
 let h1:(0:Int)<j:=hc.1;let h2:j<1073741824:=hc.2;exact floordiv_int () (by rw[vi i ()];exact q) (.inl (PyProof.noPylong_small ()))
def aS:mG X (binaryOp .Mod) (rI (λ_ j=>0<j) λi j=>.int (i%j)):=SD λi j _ _ _ _ _ hc q=>by
 let h1:(0:Int)<j:=hc;exact mod_int' () (by rw[Int.fmod_eq_emod_of_nonneg i ()];exact q)
def RO:mG X (binaryOp .RShift) (rI (λ_ j=>0<=j) λi j=>.int (i/2^j.toNat)):=SD λi j _ _ _ _ _ hc q=>
 rshift_int hc (by rw[vi i (IQ _)];exact q)
def RQ:mG X (binaryOp .BitAnd) (uG λi j=>.int (Builtin.bitAnd i j)):=RS λ_ _ _ _ _ _ _ q=>and_int q
def VJ {f:vo->Sem vo} {g:Int->Int}
  (rule:∀(i:Int) (t:Tok) (s:vq) (Q:vo->vq->Prop) (E:vo->vq->Prop),Q (.int (g i) s.toks) {s with toks:=s.toks+1}->wpAny (model X.prog X.w) X.A (f (.int i t)) Q E s) :
  Vo X f (rU λi=>.int (g i)):=by
 intro pins s U H x v Q I rx h;let⟨i,rfl,q⟩:=h;let⟨t,rfl⟩:=rx;exact rule i t s _ _ {.int (g i),H,I.tok _,{_,rfl},q}
def kF:Vo X (unaryOp .USub) (rU λi=>.int (-i)):=VJ λ_ _ _ _ _ q=>neg_int q
end
def Pr:V->V->Bool
 | .bA,.bA=>true | .bA,.int _=>true | .int _,.bA=>true | .bA,.bl _=>true | .bl _,.bA=>true | .bA,.str _=>true | .str _,.bA=>true
 | .int _,.int _=>true | .bl _,.bl _=>true | .str _,.str _=>true | .K2 _,.K2 _=>true
 | .int _,.str _=>true | .str _,.int _=>true | .bl _,.str _=>true | .str _,.bl _=>true
 | _,_=>false
def Uh:R2:=λx y H Q=>Pr x y=true/\Q (.bl (decide (x=y))) H
def U3:R2:=λx y H Q=>Pr x y=true/\Q (.bl (!decide (x=y))) H
def Fc:decide (V.int i=V.int j)=(i == j):=by
 rw[xJ];simp
def OG:decide (V.bl i=V.bl j)=(i == j):=by
 rw[xJ];simp
def E9:decide (V.str i=V.str j)=(i == j):=by
 rw[xJ];simp
def KW:decide (V.K2 i=V.K2 j)=(i.toList == j.toList):=by
 rw[xJ];cases i;cases j;simp
section
variable {X:Cx} {a b c:Expr} {ta tb tc:TE} {pos:Pos}
def b8 (I:Inv X pins U H s) (q:Q (.bl k) H) (e:k=k'):EP X pins U Q (.bool k') s:=by
 subst e;exact{.bl k,H,I,rfl,q}
def de:mG X (compareOp .Eq) Uh:=by
 intro pins s U H x y v u Q I rx ry h;let⟨hs,q⟩:=h;cases x with
 | bA=>
  cases rx;cases y with
  | bA=>cases ry;exact PySem.EqNone.eq_none_none (b8 I q (by simp))
  | bl j=>cases ry;exact PySem.EqNone.eq_none_bool (b8 I q (by simp))
  | int j=>let⟨t',rfl⟩:=ry;exact PySem.EqNone.eq_none_int (b8 I q (by simp))
  | str j=>let⟨t',rfl⟩:=ry;exact PySem.EqNone.eq_none_str (b8 I q (by simp))
  | _=>exact absurd (show false=true from hs) zK
 | bl i=>
  cases rx;cases y with
  | bA=>cases ry;exact PySem.EqNone.eq_bool_none (b8 I q (by simp))
  | bl j=>cases ry;exact eq_bool (b8 I q OG)
  | str j=>let⟨t',rfl⟩:=ry;exact PySem.EqMixed.eq_bool_str (b8 I q (by simp))
  | _=>exact absurd (show false=true from hs) zK
 | int i=>
  let⟨t,rfl⟩:=rx;cases y with
  | bA=>cases ry;exact PySem.EqNone.eq_int_none (b8 I q (by simp))
  | int j=>let⟨t',rfl⟩:=ry;exact eq_int (b8 I q Fc)
  | str j=>let⟨t',rfl⟩:=ry;exact PySem.EqMixed.eq_int_str (b8 I q (by simp))
  | _=>exact absurd (show false=true from hs) zK
 | str i=>
  let⟨t,rfl⟩:=rx;cases y with
  | bA=>cases ry;exact PySem.EqNone.eq_str_none (b8 I q (by simp))
  | bl j=>cases ry;exact PySem.EqMixed.eq_str_bool (b8 I q (by simp))
  | int j=>let⟨t',rfl⟩:=ry;exact PySem.EqMixed.eq_str_int (b8 I q (by simp))
  | str j=>let⟨t',rfl⟩:=ry;exact eq_str (b8 I q E9)
  | _=>exact absurd (show false=true from hs) zK
 | K2 i=>
  let⟨t,rfl⟩:=rx;cases y with
  | K2 j=>let⟨t',rfl⟩:=ry;exact PySem.W.eq_bytes (b8 I q KW)
  | _=>exact absurd (show false=true from hs) zK
 | _=>cases y <;> exact absurd (show false=true from hs) zK
def jH:mG X (compareOp .NotEq) U3:=by
 intro pins s U H x y v u Q I rx ry h;let⟨hs,q⟩:=h;cases x with
 | bA=>
  cases rx;cases y with
  | bA=>cases ry;exact PySem.EqNone.ne_none_none (b8 I q (by simp))
  | bl j=>cases ry;exact PySem.EqNone.ne_none_bool (b8 I q (by simp))
  | int j=>let⟨t',rfl⟩:=ry;exact PySem.EqNone.ne_none_int (b8 I q (by simp))
  | str j=>let⟨t',rfl⟩:=ry;exact PySem.EqNone.ne_none_str (b8 I q (by simp))
  | _=>exact absurd (show false=true from hs) zK
 | bl i=>
  cases rx;cases y with
  | bA=>cases ry;exact PySem.EqNone.ne_bool_none (b8 I q (by simp))
  | bl j=>cases ry;exact ne_bool (b8 I q (yY not OG))
  | str j=>let⟨t',rfl⟩:=ry;exact PySem.EqMixed.ne_bool_str (b8 I q (by simp))
  | _=>exact absurd (show false=true from hs) zK
 | int i=>
  let⟨t,rfl⟩:=rx;cases y with
  | bA=>cases ry;exact PySem.EqNone.ne_int_none (b8 I q (by simp))
  | int j=>let⟨t',rfl⟩:=ry;exact ne_int (b8 I q (yY not Fc))
  | str j=>let⟨t',rfl⟩:=ry;exact PySem.EqMixed.ne_int_str (b8 I q (by simp))
  | _=>exact absurd (show false=true from hs) zK
 | str i=>
  let⟨t,rfl⟩:=rx;cases y with
  | bA=>cases ry;exact PySem.EqNone.ne_str_none (b8 I q (by simp))
  | bl j=>cases ry;exact PySem.EqMixed.ne_str_bool (b8 I q (by simp))
  | int j=>let⟨t',rfl⟩:=ry;exact PySem.EqMixed.ne_str_int (b8 I q (by simp))
  | str j=>let⟨t',rfl⟩:=ry;exact ne_str (b8 I q (yY not E9))
  | _=>exact absurd (show false=true from hs) zK
 | K2 i=>
  let⟨t,rfl⟩:=rx;cases y with
  | K2 j=>let⟨t',rfl⟩:=ry;exact PySem.W.ne_bytes (b8 I q (yY not KW))
  | _=>exact absurd (show false=true from hs) zK
 | _=>cases y <;> exact absurd (show false=true from hs) zK
def fe:mG X (compareOp .Lt) (uG λi j=>.bl (decide (i<j))):=P1 λ_ _ _ _ _ _ _ q=>lt_int q
def ic:mG X (compareOp .LtE) (uG λi j=>.bl (decide (i<=j))):=P1 λ_ _ _ _ _ _ _ q=>le_int q
def eW:mG X (compareOp .Gt) (uG λi j=>.bl (decide (j<i))):=P1 λ_ _ _ _ _ _ _ q=>gt_int q
def GX:mG X (compareOp .GtE) (uG λi j=>.bl (decide (j<=i))):=P1 λ_ _ _ _ _ _ _ q=>ge_int q
def Dw:mG X (compareOp .In) (λx y H Q=>∃i j,x=.str i/\y=.str j/\Q (.bl (!(Builtin.Str.occurrences j i 0 ⇑j 1).isEmpty)) H):=by
 intro pins s U H x y v u Q I rx ry h;let⟨i,j,rfl,rfl,q⟩:=h;let⟨t,rfl⟩:=rx;let⟨t',rfl⟩:=ry;exact in_str (b8 I q rfl)
def fq (b:Expr) (h:op≠.In<|>qb_) (h2:op≠.NotIn<|>qb_):behindInMarks op b=false:=by
 let e1:(op == CmpOp.In)=false:=by cases op <;> first | rfl | exact absurd rfl h
 let e2:(op == CmpOp.NotIn)=false:=by cases op <;> first | rfl | exact absurd rfl h2
 cases b <;> simp[behindInMarks,e1,e2]
def cW (ho:mG X (compareOp op) r) (ha:PE X a ta) (hb:PE X b tb) (hm:behindInMarks op b=false):PE X (.Compare a [op] [b] pos) (eO r ta tb):=by
 intro pins s U H Q I h;exact wpAny_Compare1 (Sn ha hb I h λv u s2 x y H2 I2 rx ry q=>ho pins s2 U H2 x y v u Q I2 rx ry q) hm
def lO (t:TE):TT:=λU H Q=>t U H λx H'=>∃k,x=.bl k/\Q k H'
def gC (ho:mG X (compareOp op) r) (ha:PE X a ta) (hb:PE X b tb) (hm:behindInMarks op b=false):PT X (.Compare a [op] [b] pos) (lO (eO r ta tb)):=by
 intro pins s U H Q I h;refine wpAny_isTrue_Compare1 (cR (ha pins s U H _ I h) λv s1 ⟨x,H1,I1,r1,q1⟩=>cR (hb pins s1 U H1 _ I1 q1) λu s2 ⟨y,H2,I2,r2,q2⟩=>
  cR (ho pins s2 U H2 x y v u _ I2 r1 r2 q2) λc s3 ⟨z,H3,I3,r3,k,e,q3⟩=>?_) hm
 subst e;cases r3;exact xc {(H3),I3,q3}
def Ag (r r':R2) (ta tb tc:TE):TE:=λU H Q=>ta U H λx H1=>tb U H1 λy H2=>r x y H2 λz H3=>∃k,z=.bl k/\
 (if k=true then tc U H3 λw' H4=>r' y w' H4 Q else Q (.bl false) H3)
def GS (ho:mG X (compareOp op) r) (ho':mG X (compareOp op') r') (ha:PE X a ta) (hb:PE X b tb) (hc:PE X c tc)
  (hm:lastMarks [op,op'] [b,c]=false<|>qf_):PE X (.Compare a [op,op'] [b,c] pos) (Ag r r' ta tb tc):=by
 intro pins s U H Q I h;refine Compare_chain (cR (ha pins s U H _ I h) λv s1 ⟨x,H1,I1,r1,q1⟩=>chain_link (cR (hb pins s1 U H1 _ I1 q1) λu s2 ⟨y,H2,I2,r2,q2⟩=>
  cR (ho pins s2 U H2 x y v u _ I2 r1 r2 q2) λd s3 ⟨z,H3,I3,r3,k,e,q3⟩=>?_)) hm
 subst e;cases r3;refine xc ?_;cases k with
 | false=>exact ite_ff {.bl false,H3,I3,rfl,q3}
 | true=>exact ite_tt (chain_last (cR (hc pins s3 U H3 _ I3 q3) λw' s4 ⟨z',H4,I4,r4,q4⟩=>ho' pins s4 U H4 y z' u w' Q I4 r2 r4 q4))
def NH (ho:mG X (compareOp op) r) (ho':mG X (compareOp op') r') (ha:PE X a ta) (hb:PE X b tb) (hc:PE X c tc)
  (hm:lastMarks [op,op'] [b,c]=false<|>qf_):PT X (.Compare a [op,op'] [b,c] pos) (lO (Ag r r' ta tb tc)):=by
 intro pins s U H Q I h;refine isTrue_chain (cR (ha pins s U H _ I h) λv s1 ⟨x,H1,I1,r1,q1⟩=>test_link (cR (hb pins s1 U H1 _ I1 q1) λu s2 ⟨y,H2,I2,r2,q2⟩=>
  cR (ho pins s2 U H2 x y v u _ I2 r1 r2 q2) λd s3 ⟨z,H3,I3,r3,k,e,q3⟩=>?_)) hm
 subst e;cases r3;refine xc ?_;cases k with
 | false=>
  let⟨k',e',q'⟩:=q3;cases e';exact ite_ff {(H3),I3,q'}
 | true=>
  refine ite_tt (test_last (cR (hc pins s3 U H3 _ I3 q3) λw' s4 ⟨z',H4,I4,r4,q4⟩=>cR (ho' pins s4 U H4 y z' u w' _ I4 r2 r4 q4) λd' s5 zz=>?_));let⟨z2,H5,I5,r5,k2,e2,q5⟩:=zz;subst e2;cases r5;exact xc {(H5),I5,q5}
def A4:(sizeLine:Nat)<2^63:=by rw[yB];decide
def bS:mG X (binaryOp .Add) (λx y H Q=>∃i j,x=.str i/\y=.str j/\⇑i+⇑j<=sizeLine/\Q (.str (i++j)) H):=by
 intro pins s U H x y v u Q I rx ry h;let⟨i,j,rfl,rfl,hz,q⟩:=h;let⟨t,rfl⟩:=rx;let⟨t',rfl⟩:=ry;exact add_str (λt' tk=>{.str (i++j),H,I.tok _,{_,rfl},q}) hz
def vals1 (r:Vals [x] us):∃u,us=[u]/\RelV x u:=by
 cases r with
 | cons r1 r2=>cases r2;exact{_,rfl,r1}
def vals2 (r:Vals [x,y] us):∃u w',us=[u,w']/\RelV x u/\RelV y w':=by
 cases r with
 | cons r1 r2=>
  cases r2 with
  | cons r3 r4=>cases r4;exact{_,_,rfl,r1,r3}
def Ij:fF X (.builtin "abs") (λxs H Q=>∃i,xs=[.int i]/\Q (.int (if i<0 then -i else i)) H):=by
 intro pins s U H xs us Q I r h;let⟨i,rfl,q⟩:=h;let⟨u,rfl,t,rfl⟩:=vals1 r;exact call_abs_int λu tk=>{.int (if i<0 then -i else i),H,I.tok _,{_,rfl},q}
def Mm (hc:X.calm=true):fF X (.builtin "min") (λxs H Q=>∃i j,xs=[.int i,.int j]/\Q (.int (if j<i then j else i)) H):=by
 intro pins s U H xs us Q I r h;let⟨i,j,rfl,q⟩:=h;let⟨u,w',rfl,⟨t,rfl⟩,⟨t',rfl⟩⟩:=vals2 r;refine min_two_ints (I.ok.hd hc) λh' tk k=>{_,H,I.kept k,?_,q}
 by_cases hj:j<i
 ·rw[yN hj,yN hj];exact{_,rfl}
 ·rw[yM hj,yM hj];exact{_,rfl}
def aX:fF X (.type "str") (λxs H Q=>∃i,xs=[.int i]/\i.natAbs.log2<1920/\Q (.str (toString i)) H):=by
 intro pins s U H xs us Q I r h;let⟨i,rfl,hz,q⟩:=h;let⟨u,rfl,t,rfl⟩:=vals1 r;exact PySem.P.str_of_int hz {.str _,H,I.tok _,{_,rfl},q}
end
end L2
namespace L2
open PySem PySem.Spec PyProof.Rows
structure MA (h:vz) (x dx C:vy) (mA:Str->Option vo):Prop where
 obj:h.get? x=some (PySem.W.instObj C dx)
 ns:h.Ns1 dx mA
 ne:dx≠x
def LS {h:vz} {dx:vy} {mA:Str->Option vo} (n:h.Ns1 dx mA):∃od,h.get? dx=some od/\∀name,PySem.W.lookIn name od=some (mA name):=by
 let⟨o,es,ep,ho,hd,hk,_,hm⟩:=n;refine{o,ho,λname=>?_};let e:=hm name;unfold nsFind findBy at e;rw[<-Array.find?_toList] at e;unfold PySem.W.lookIn;rw[hd];dsimp only;split
 ·rename_i y q
  rw[q] at e;exact yY some e
 ·rename_i q
  rw[q] at e;let a:es.toList.any (·.refKey)=false:=by
   rw[vj];intro y hy;let⟨z,t,hkey⟩:=hk y (Array.mem_toList_iff.mp hy);simp[DictEntry.refKey,hkey]
  let a':¬es.toList.any (·.refKey)=true:=by rw[a];exact zK
  rw[yM a'];exact yY some e
def MA.look (I:MA h x dx C mA):∃od,PySem.W.InstAt h x (PySem.W.instObj C dx) C (some od)/\∀name,PySem.W.lookIn name od=some (mA name):=
 let ⟨od,ho,hl⟩:=LS I.ns
 {od,{(I.obj),rfl,rfl,ho},hl}
section
variable {prog:vt} {w:vv} {A:vw} {E:vo->vq->Prop} {s:vq} {K:yA} {x dx C f:vy} {mA:Str->Option vo} {name:Str} {v:vo}
def get_map (X:K.In s.heap) (I:MA s.heap x dx C mA) (hg:PySem.W.plainGet K C name=true) (hh:PySem.W.hasDictIn K C=true)
  (ha:PySem.W.findIn K (.ref C) name=some none) (hv:mA name=some v) (hv':PySem.W.handedIn v=true) (h:Q v {s with toks:=s.toks+1}) :
  wpAny (model prog w) A (getAttr (.ref x) name expr) Q E s:=by
 let⟨od,J,hl⟩:=I.look;exact PySem.W.get_value X J (PySem.W.plainGet_of hg).1 (PySem.W.findObj_own hh ha rfl (by rw[hl,hv])) hv' h
def Pq (X:K.In s.heap) (I:MA s.heap x dx C mA)
  (hs:PySem.W.findIn K (.ref C) "__setattr__"= some (some (.builtin "object.__setattr__"))) (hp:PySem.W.plainOver K C=true) (ht:PySem.W.takerIn K C name=some none) (hh:PySem.W.hasDictIn K C=true)
  (hw:PySem.Within mA ns) (hsz:⇑ns<=sizeLine)
  (h:∀h',MA h' x dx C (λy=>if y=name then some v else mA y)->Heap.SameBut dx s.heap h'->Q .unit {s with heap:=h',toks:=s.toks+2}) :
  wpAny (model prog w) A (setAttr (.ref x) name v) Q E s:=by
 let⟨od,J,hl⟩:=I.look;refine PySem.W.set_plain X J hs (PySem.W.osa_open (s:={s with toks:=s.toks+1}) (r:=none) X J hp ht λb=>?_);let⟨cd,hc,hd'⟩:=PySem.W.any_some hh;let hx:s.heap.get? x=some ⟨.ref C,some dx,.plain,#[]⟩:=I.obj;refine yt (yv (yt (yt (wpAny_loadPart hx (yt (PySem.W.Looks.here (s:={s with toks:=s.toks+1}) (PySem.W.looks_clsIn X hc) ?_))))));rw[hd'];refine yv (a:=some dx) (yt (yv (yt ?_)));refine wpAny_nsSet1 (s:={s with toks:=s.toks+1}) I.ns λh' hn2 hs2=>?_;let⟨oD,esD,epD,hoD,hdD,hcD⟩:=hn2.count (PySem.Within.cons name v hw);refine yt (wpAny_lookBehind hoD (by rw[hdD];exact pastItsLine_dict (zL hcD (by rw[zt];ext))) ?_);exact yv (h _ {(hs2.2 _ (Ne.symm I.ne)).trans I.obj,hn2,I.ne} hs2)
def N2 (X:K.In s.heap) (hm:PySem.W.makesIn K C=true)
  (hi:PySem.W.findIn K (.ref C) "__init__"= some (some (.ref f))) (hf:PySem.W.typeIn K (.ref f)=some (.type "function"))
  (h:codeAny (model prog w) (A.under (.builtin "type.__call__" {.ref C::vs,kw})) (.call (.ref f) {.ref (↑s+1)::vs,kw}) (PySem.W.InitBack (↑s+1) R)
   {s with heap:=(s.heap.push PySem.W.emptyDict).push (PySem.W.instObj C ↑s)}) :
  codeAny (model prog w) A (.call (.ref C) {(vs),kw}) R s:=by
 let⟨hh,g,d,t,os⟩:=s;exact PySem.W.make_core (PySem.W.makes_of X hm) (PySem.W.looks_findIn X hi) (λself=>PySem.W.bind_fn X self hf) (.inl rfl) h
end
def aZ (f:Str) (v:V):List (Str×V)->List (Str×V)
 | []=>[(f,v)]
 | (g,x)::r=>if g=f then(g,v)::r else(g,x)::aZ f v r
theorem tS (f g:Str) (v:V):∀fs:List (Str×V),(aZ f v fs).lookup g=if g=f then some v else fs.lookup g
 | []=>by
  show List.lookup g [(f,v)]=_
  by_cases h:g=f
  ·let hb:(g == f)=true:=vd.mpr h
   simp only[List.lookup,hb,yN h]
  ·let hb:(g == f)=false:=xC.mpr h
   simp only[List.lookup,hb,yM h]
 | (k,x)::r=>by
  let ih:=tS f g v r;rw[show aZ f v ((k,x)::r)=(if k=f then(k,v)::r else(k,x)::aZ f v r) from rfl]
  by_cases hk:k=f
  ·rw[yN hk]
   by_cases h:g=k
   ·let hb:(g == k)=true:=vd.mpr h
    simp only[List.lookup,hb,yN (h.trans hk)]
   ·let hb:(g == k)=false:=xC.mpr h
    simp only[List.lookup,hb,yM (λe:g=f=>h (e.trans hk.symm))]
  ·rw[yM hk]
   by_cases h:g=k
   ·let hb:(g == k)=true:=vd.mpr h
    simp only[List.lookup,hb,yM (λe:g=f=>hk (h.symm.trans e))]
   ·let hb:(g == k)=false:=xC.mpr h
    simp only[List.lookup,hb];exact ih
theorem sO (f:Str) (v:V):∀fs:List (Str×V),f∈(aZ f v fs).map (·.1)/\∀g,g∈fs.map (·.1)->g∈(aZ f v fs).map (·.1)
 | []=>{by simp[aZ],λg h=>by simp at h}
 | (k,x)::r=>by
  let⟨i1,i2⟩:=sO f v r;rw[show aZ f v ((k,x)::r)=(if k=f then(k,v)::r else(k,x)::aZ f v r) from rfl]
  by_cases hk:k=f
  ·rw[yN hk]
   subst hk;exact{by simp,λg h=>by simpa using h}
  ·rw[yM hk]
   refine{?_,λg h=>?_}
   ·rw[zh]
    exact zm _ i1
   ·rw[zh] at h ⊢
    rcases zC.mp h with e | e
    ·exact zC.mpr (.inl e)
    ·exact zm _ (i2 g e)
theorem tT (f:Str) (v:V):∀fs:List (Str×V),⇑(aZ f v fs)<=⇑fs+1
 | []=>by simp[aZ]
 | (k,x)::r=>by
  let ih:=tT f v r;rw[show aZ f v ((k,x)::r)=(if k=f then(k,v)::r else(k,x)::aZ f v r) from rfl]
  by_cases hk:k=f
  ·rw[yN hk,zt,zt];ext
  ·rw[yM hk,zt,zt];ext
def lN.some_of (r:lN (some v) o):∃u,o=some u/\RelV v u:=by
 cases o with
 | none=>exact(show False from r).elim
 | some u=>exact{(u),rfl,r}
def L5 (r:RelV v u):PySem.W.handedIn u=true:=by
 cases v with
 | bA=>cases(show u=Value.none from r);rfl
 | bl b=>cases(show u=Value.bool b from r);rfl
 | int i=>let⟨t,e⟩:=(show∃t,u=Value.int i t from r);cases e;rfl
 | str x=>let⟨t,e⟩:=(show∃t,u=Value.str x t from r);cases e;rfl
 | K2 b=>let⟨t,e⟩:=(show∃t,u=Value.bytes b t from r);cases e;rfl
 | Qe b=>let⟨t,e⟩:=(show∃t,u=Value.float b t from r);cases e;rfl
 | ref a=>cases(show u=Value.ref a from r);rfl
 | ty n=>cases(show u=Value.type n from r);rfl
section
variable {P:vt} {w:vv} {H H':Hp} {h h':vz} {a C dx:vy} {fs fs':List (Str×V)}
def E3 (bW:pM P w H h) (e:H a=some (.ins C dx fs)):∃mA,MA h a dx C mA/\(∀f,lN (fs.lookup f) (mA f))/\PySem.Within mA (fs.map (·.1))/\⇑fs<=1000/\H dx=some (.own a):=by
 let⟨d,z,ne,ob,mA,n,r,q⟩:=(show cx P w H h a (.ins C dx fs) from bW a _ e)
 exact{mA,{(ob),n,ne},r,q,z,d}
end
structure QA (K:yA) (C:vy):Prop where
 pg:PySem.W.plainGet K C Str.empty=true
 hd:PySem.W.hasDictIn K C=true
 po:PySem.W.plainOver K C=true
 sa:PySem.W.findIn K (.ref C) "__setattr__"= some (some (.builtin "object.__setattr__"))
def QA.get {K:yA} {C:vy} (c:QA K C) (f:Str):PySem.W.plainGet K C f=true:=c.pg
def eN (K:yA) (C:vy) (f:Str):Prop:=PySem.W.findIn K (.ref C) f=some none
def eN.SS {K:yA} {C:vy} {f:Str} (n:eN K C f):PySem.W.takerIn K C f=some none:=by
 unfold PySem.W.takerIn;rw[show PySem.W.findIn K (.ref C) f=some none from n];rfl
section
variable {X:Cx} {pins:List (vy×Obj)} {U:St} {H:Hp} {s:vq} {a C dx:vy} {fs:List (Str×V)} {f:Str} {v:V} {A:vw} {E:vo->vq->Prop}
def JI (I:Inv X pins U H s) (e:H a=some (.ins C dx fs)) (c:QA X.K C) (n:eN X.K C f) (l:fs.lookup f=some v)
  (h:∀u s',Inv X pins U H s'->RelV v u->Q u s'):wpAny (model X.prog X.w) A (getAttr (.ref a) f b) Q E s:=by
 let⟨mA,O,r,_,_,_⟩:=E3 I.bW e;let⟨u,hu,ru⟩:=lN.some_of (v:=v) (o:=mA f) (by rw[<-l];exact r f);exact get_map I.qS O (c.get f) c.hd n hu (L5 ru) (h u _ (I.tok _) ru)
def Ja (I:Inv X pins U H s) (e:H a=some (.ins C dx fs)) (c:QA X.K C) (n:eN X.K C f) (hl:⇑fs<1000) (ry:RelV y u)
  (h:∀s',Inv X pins U (upd H a (.ins C dx (aZ f y fs))) s'->Q .unit s'):wpAny (model X.prog X.w) A (setAttr (.ref a) f u) Q E s:=by
 let⟨mA,O,r,wi,_,ho⟩:=E3 I.bW e;let hz:⇑(fs.map (·.1))<=sizeLine:=by rw[za,yB];ext
 refine Pq I.qS O c.sa c.po n.SS c.hd wi hz λh' O' sb=>h _ ?_;let hd:∃o,h'.get? dx=some o:=let ⟨o,_,_,e',_⟩:=O'.ns;{(o),e'};refine I.write (x:=a) (e:=dx) (by rw[e];exact True.intro) (.inr ho) (λb q hb z=>(sb.2 b hb).trans z) hd ?_;refine{by rw[aG O.ne];exact ho,?_,O.ne,O'.obj,_,O'.ns,λg=>?_,λg hg=>?_}
 ·have:=tT f y fs;ext
 ·show lN ((aZ f y fs).lookup g) (if g=f then some u else mA g)
  rw[tS]
  by_cases q:g=f
  ·rw[yN q,yN q];exact ry
  ·rw[yM q,yM q];exact r g
 ·by_cases q:g=f
  ·rw[q];exact(sO f y fs).1
  ·refine(sO f y fs).2 g (wi g λz=>hg ?_)
   show(if g=f then some u else mA g)=none;rw[yM q];exact z
def Inv.made (I:Inv X pins U H s):Inv X pins U (upd (upd H ↑s (.own (↑s+1))) (↑s+1) (.ins C ↑s []))
  {s with heap:=(s.heap.push PySem.W.emptyDict).push (PySem.W.instObj C ↑s)}:=by
 let e1:(s.heap.push PySem.W.emptyDict).get? ↑s=some PySem.W.emptyDict:=yw s.heap rfl;let e2:((s.heap.push PySem.W.emptyDict).push (PySem.W.instObj C ↑s)).get? (↑s+1)=some (PySem.W.instObj C ↑s):=by
  have:=yw (s.heap.push PySem.W.emptyDict) (o:=PySem.W.instObj C ↑s) rfl
  rwa [xh] at this
 let e3:(s.heap.push PySem.W.emptyDict).Ns ↑s (λ_=>none):={PySem.W.emptyDict,#[],_,e1,rfl,(λe he=>absurd he (by simp)),λ_=>rfl}
 let I1:=I.laid (a:=↑s) (o:=.own (↑s+1)) (h':=s.heap.push PySem.W.emptyDict) (t':=s.toks) (λb u q=>yu _ q) (zk _) {_,e1};refine I1.laid (a:=↑s+1) (o:=.ins C ↑s []) (t':=s.toks) (λb u q=>yu _ q) (Nat.le_of_eq (xh _ _)) ?_;let ne:↑s≠↑s+1:=yi (xN _);refine{by rw[aG ne,aF],yf _,ne,e2,λ_=>none,(Heap.Ns1.of_empty e3).at λo q=>yu _ q,λ_=>True.intro,λy hy=>absurd rfl hy}
def Qq (hb:attributeBase e f env (eval e env)=eval e env)
  (h:wpAny (model prog w) A (eval e env) (λo s₁=>wpAny (model prog w) A (getAttr o f true) Q E s₁) E s):wpAny (model prog w) A (eval (.Attribute e f pos) env) Q E s:=
 Attribute_any_ h (by rw[arm_eval_Attribute,hb])
end
def Pj (K:yA) (ta:TE) (f:Str):TE:=λU H Q=>ta U H λx H1=>∃a C dx fs v,x=.ref a/\H1 a=some (.ins C dx fs)/\QA K C/\eN K C f/\fs.lookup f=some v/\Q v H1
def U1 (K:yA) (ta tv:TE) (f:Str):TS:=λD U H=>tv U H λy H1=>ta U H1 λx H2=>∃a C dx fs,x=.ref a/\H2 a=some (.ins C dx fs)/\QA K C/\eN K C f/\⇑fs<1000/\
 D.nx U (upd H2 a (.ins C dx (aZ f y fs)))
section
variable {X:Cx} {o e value:Expr} {f:Str} {pos pos' tpos:Pos} {ta tv:TE}
def bD (he:PE X e ta) (hb:attributeBase e f X.env (eval e X.env)=eval e X.env):PE X (.Attribute e f pos) (Pj X.K ta f):=by
 intro pins s U H Q I h;refine Qq hb (cR (he pins s U H _ I h) λu s1 zz=>?_);let⟨x,H1,I1,rx,a,C,dx,fs,v,ex,ea,c,n,l,q⟩:=zz;subst ex;obtain rfl:u=Value.ref a:=rx;exact JI I1 ea c n l λu' s2 I2 ru=>{(v),H1,I2,ru,q}
def iZ (ha:PE X o ta) (hv:PE X value tv) (hs:swapsWith value (some (.Attribute o f pos')) pos.line X.env=pure false):PS X (.Assign [.Attribute o f pos'] value pos) (U1 X.K ta tv f):=by
 intro pins s U H D I h;refine plainObj_wpAny_Assign_Attribute (cR (hv pins s U H _ I h) λu s1 ⟨y,H1,I1,ry,q⟩=>cR (ha pins s1 U H1 _ I1 q) λov s2 ⟨x,H2,I2,rx,a,C,dx,fs,ex,ea,c,n,l,q2⟩=>?_) hs;subst ex;obtain rfl:ov=Value.ref a:=rx;exact Ja I2 ea c n l ry λs3 I3=>{U,_,I3,q2}
end
section
variable {X:Cx} {pins:List (vy×Obj)} {U:St} {H:Hp} {s:vq} {A:vw} {E:vo->vq->Prop} {Q:vo->vq->Prop} {c:vo} {b:Bool}
inductive tH (K:yA) (H:Hp):V->vo->Prop where
 | bA:tH K H .bA (.type "NoneType")
 | bl (x:Bool):tH K H (.bl x) (.type "bool")
 | int (i:Int):tH K H (.int i) (.type "int")
 | str (x:Str):tH K H (.str x) (.type "str")
 | Qe (x:UInt64):tH K H (.Qe x) (.type "float")
 | lst {a:vy} {xs:List V} (e:H a=some (.lst xs)):tH K H (.ref a) (.type "list")
 | mF {a:vy} {o:Obj} {xs:List V} (e:H a=some (.mF o (.lst xs))):tH K H (.ref a) (.type "list")
 | tup {a:vy} {xs:List V} (e:H a=some (.tup xs)):tH K H (.ref a) (.type "tuple")
 | dK {a:vy} {kvs:List (Key×V)} (e:H a=some (.dK kvs)):tH K H (.ref a) (.type "dict")
 | dT {a:vy} {kvs:List (List Key×V)} (e:H a=some (.dT kvs)):tH K H (.ref a) (.type "dict")
 | ins {a C dx:vy} {fs:List (Str×V)} (e:H a=some (.ins C dx fs)) (cl:QA K C) (ha:PySem.W.findIn K (.ref C) "__class__"= some (some (.builtin "object.__class__")))
   (hn:PySem.W.specialIn K (.builtin "object.__class__") "__get__"= some (some (.builtin "getset_descriptor.__get__"))) (htk:PySem.W.takesIn K (.builtin "object.__class__")=some true)
   (hm:PySem.W.mroIn K C (.type "object")=some true):tH K H (.ref a) (.ref C)
def LY (I:Inv X pins U H s) (rx:RelV x u) (ty:tH X.K H x t) (e:PySem.W.kitOne X.K t c=some b) (h:∀tk,Q (.bool b) {s with toks:=tk}) :
  wpAny (model X.prog X.w) A (call (.builtin "isinstance") [u,c]) Q E s:=by
 cases ty with
 | bA=>cases(show u=Value.none from rx);exact xi PySem.W.kitx_none I.qS True.intro e (λz=>nomatch z) h
 | bl y=>cases(show u=Value.bool y from rx);exact xi PySem.W.kitx_bool I.qS True.intro e (λz=>nomatch z) h
 | int i=>let⟨t,q⟩:=(show∃t,u=Value.int i t from rx);cases q;exact xi PySem.W.kitx_int I.qS True.intro e (λz=>nomatch z) h
 | str y=>let⟨t,q⟩:=(show∃t,u=Value.str y t from rx);cases q;exact xi PySem.W.kitx_str I.qS True.intro e (λz=>nomatch z) h
 | Qe y=>let⟨t,q⟩:=(show∃t,u=Value.float y t from rx);cases q;exact xi PySem.W.kitx_float I.qS True.intro e (λz=>nomatch z) h
 | @lst a xs ea=>
  cases(show u=Value.ref a from rx);let⟨_,_,n,_,h1⟩:=(show cx X.prog X.w H s.heap a (.lst xs) from I.bW a _ ea)
  exact xi PySem.W.kitx_list I.qS {_,h1,rfl} e (λz=>nomatch z) h
 | @mF a ob xs ea=>
  cases(show u=Value.ref a from rx);let⟨_,_,_,n,_,h1⟩:=(show cx X.prog X.w H s.heap a (.mF ob (.lst xs)) from I.bW a _ ea)
  exact xi PySem.W.kitx_list I.qS {_,h1,rfl} e (λz=>nomatch z) h
 | @tup a xs ea=>
  cases(show u=Value.ref a from rx);let⟨_,_,_,p⟩:=(show cx X.prog X.w H s.heap a (.tup xs) from I.bW a _ ea)
  let⟨o,h1,h2,_⟩:=p;exact xi PySem.W.kitx_tuple I.qS {(o),h1,h2} e (λz=>nomatch z) h
 | @dK a kvs ea=>
  cases(show u=Value.ref a from rx);let⟨_,_,vs,_,p⟩:=(show cx X.prog X.w H s.heap a (.dK kvs) from I.bW a _ ea)
  let⟨o,es,ep,h1,h2,_⟩:=p;exact xi PySem.W.kitx_dict I.qS {(o),h1,h2.1} e (λz=>nomatch z) h
 | @dT a kvs ea=>
  cases(show u=Value.ref a from rx);let⟨_,_,xs,_,o,es,ep,h1,h2,_⟩:=(show cx X.prog X.w H s.heap a (.dT kvs) from I.bW a _ ea)
  exact xi PySem.W.kitx_dict I.qS {(o),h1,h2.1} e (λz=>nomatch z) h
 | @ins a C dx fs ea cl ha hn htk hm=>
  cases(show u=Value.ref a from rx);let⟨mA,O,_⟩:=E3 I.bW ea;let⟨od,J,_⟩:=O.look;exact xi (PySem.W.kitx_own (cl.get _) cl.hd ha hn htk hm) I.qS J e (λz=>nomatch z) h
end
end L2
namespace L2
open PySem PySem.Spec PyProof.Rows
structure fG (k:Nat) (A:vw):Prop where
 hd:A.handled=none
 dp:A.depth+3*k+5<recursionLimit
 un:A.units+16*k+200<cLine
def fG.mono (r:fG k A) (h:j<=k):fG j A:={r.hd,by have:=r.dp;ext,by have:=r.un;ext}
theorem fG.deeper (r:fG (k+1) A) (env:Env):fG k (A.deeper env):=
 {r.hd,by have:=r.dp;show A.depth+1+3*k+5<_;ext,by have:=r.un;show A.units+3+16*k+200<_;ext}
def JC {A:vw} {C:vy} {us:List vo} {kw:List (Str×vo)}:(A.under (.builtin "type.__call__" {.ref C::us,kw})).depth=A.depth+1:=by
 first | rfl | simp[Around.under,Code.weight,Code.isCreation,Code.isGuard,Code.isCaller,Code.frames,Code.isFrame,guardIds]
def JB {A:vw} {C:vy} {us:List vo} {kw:List (Str×vo)}:(A.under (.builtin "type.__call__" {.ref C::us,kw})).units=A.units+1:=by
 first | rfl | simp[Around.under,Code.cUnits,Code.frames,Code.isFrame]
def fG.make (r:fG (k+1) A) (C:vy) (us:List vo) (kw:List (Str×vo)):fG k (A.under (.builtin "type.__call__" {.ref C::us,kw})):=
 {r.hd,by have:=r.dp;rw[JC];ext,by have:=r.un;rw[JB];ext}
theorem fG.depth (r:fG k A):A.depth<recursionLimit:=by have:=r.dp;ext
theorem fG.units (r:fG k A):A.units+64<cLine:=by have:=r.un;ext
def dR:TA:=λ_ H Q=>Q [] H
def bM (ta:TE) (tr:TA):TA:=λU H Q=>ta U H λx H1=>tr U H1 λxs H2=>Q (x::xs) H2
section
variable {X:Cx} {e:Expr} {es:List Expr} {te:TE} {t:TA} {pos:Pos}
def ag:PA X [] dR:=λ_ _ _ _ H Q I h=>vm {[],H,I,.nil,h}
def ak (ha:PE X e te) (hr:PA X es t) (hs:starEach (e::es) X.env=(false,eval e X.env)::starEach es X.env<|>qe_):PA X (e::es) (bM te t):=by
 intro pos pins s U H Q I h;rw[hs];show wpAny _ _ (spliced ((false,eval e X.env)::backTo pos (starEach es X.env))) _ _ s;refine wA (cR (ha pins s U H _ I h) λu s1 zz=>?_);let⟨x,H1,I1,r1,q1⟩:=zz;exact cR (hr pos pins s1 U H1 _ I1 q1) λus s2 ⟨xs,H2,I2,r2,q2⟩=>{x::xs,H2,I2,.cons r1 r2,q2}
def Ec (t:TA):TE:=λU H Q=>t U H λxs H1=>⇑xs<=sizeLine/\∀p,H1 p=none->Q (.ref p) (upd H1 p (.tup xs))
def F9 (t:TA):TE:=λU H Q=>t U H λxs H1=>⇑xs<=sizeLine/\∀p,H1 p=none->Q (.ref p) (upd H1 p (.lst xs))
def bI {x1} (h:PA X es t):PE X (.Tuple es x1 pos) (Ec t):=by
 intro pins s U H Q I hq;refine wpAny_Tuple_spliced (cR (h pos pins s U H _ I hq) λus s1 ⟨xs,H1,I1,r,z,q⟩=>{by rw[<-⇑r];exact z,?_});let hf:H1 ↑s1=none:=I1.bW.fresh (zk _);refine{.ref ↑s1,upd H1 ↑s1 (.tup xs),I1.laid (t':=s1.toks) (λb u e=>yu _ e) (zk _) ?_,rfl,q _ hf};exact{z,us,r,{_,yw _ rfl,rfl,_,rfl}}
def bq (h:PA X es t):PE X (.List es pos) (F9 t):=by
 intro pins s U H Q I hq;refine wpAny_List_spliced (cR (h pos pins s U H _ I hq) λus s1 ⟨xs,H1,I1,r,z,q⟩=>{by rw[<-⇑r];exact z,?_});let hf:H1 ↑s1=none:=I1.bW.fresh (zk _);refine{.ref ↑s1,upd H1 ↑s1 (.lst xs),I1.laid (t':=s1.toks) (λb u e=>yu _ e) (zk _) ?_,rfl,q _ hf};exact{z,us,0,r,yw _ rfl}
end
abbrev Sp:=List V->Hp->VK->XK->Prop
abbrev Km:=List Env->Hp->vq->XK->vo->vq->Prop
structure IE (P:vt) (w:vv) (K:yA) (mg:Str->Option vo) (base:vz) (A:vw) (outer:List Env) (s:vq) (H:Hp):Prop where
 frames:A.frames=some outer
 mod:Mod K mg base
 bs:∀b o,base.get? b=some o->s.heap.get? b=some o/\H b=none
 MG:base.objs.size<=↑s
 om:s.heap.FunFrames base outer
 Hz:∀b∈oE outer,H b=none
 bW:pM P w H s.heap
 bare:AllBare s.gens
def CE (outer:List Env) (P:vt) (w:vv) (H:Hp) (s:vq) (Q:VK) (u:vo) (s':vq):Prop:=
 ∃v H',s'.os=s.os/\AllBare s'.gens/\Un (oE outer) [] H H' s.heap s'.heap/\pM P w H' s'.heap/\RelV v u/\Q v H'
def CR (CX:Km) (outer:List Env) (P:vt) (w:vv) (H:Hp) (s:vq) (Q:VK) (E:XK) (r:Result) (s':vq):Prop:=
 match r with
 | .ok (.ret u)=>CE outer P w H s Q u s'
 | .ok _=>False
 | .error e=>CX outer H s E e s'
structure dA (P:vt) (w:vv) (K:yA) (mg:Str->Option vo) (base:vz) (CX:Km) (k:Nat) (f:vy) (fd:vx) (ps:List Str) (sp:Sp):Prop where
 len:∀vs H Q E,sp vs H Q E->⇑vs=⇑ps
 run:∀(A:vw) (outer:List Env) (s:vq) (H:Hp) (args:Args) (us:List vo) (vs:List V) (Q:VK) (E:XK),fG k A->IE P w K mg base A outer s H->BindsTo s fd args (ps.zip us)->Vals vs us->sp vs H Q E->
  codeAny (model P w) A (.call (.ref f) args) (CR CX outer P w H s Q E) s
theorem dA.mono {P:vt} {w:vv} {K:yA} {mg:Str->Option vo} {base:vz} {CX:Km} {j k:Nat} {f:vy} {fd:vx} {ps:List Str} {sp:Sp} (F:dA P w K mg base CX j f fd ps sp) (h:j<=k) :
  dA P w K mg base CX k f fd ps sp:={F.len,λA outer s H args us vs Q E hr=>F.run A outer s H args us vs Q E (hr.mono h)}
def IE.make {P:vt} {w:vv} {K:yA} {mg:Str->Option vo} {base:vz} {A:vw} {outer:List Env} {s:vq} {H:Hp} (e:IE P w K mg base A outer s H) (C:vy) (us:List vo) (kw:List (Str×vo)) :
  IE P w K mg base (A.under (.builtin "type.__call__" {.ref C::us,kw})) outer s H:={by first | exact e.frames | (simpa[Around.under,Code.envs,Code.isFrame,pushEnvs] using e.frames),e.mod,e.bs,e.MG,e.om,e.Hz,e.bW,e.bare}
section
variable {X:Cx} {pins:List (vy×Obj)} {U:St} {H:Hp} {s s':vq}
def Inv.Qh (I:Inv X pins U H s):IE X.prog X.w X.K X.mg X.base X.A X.stack s H:=
 {I.ok.frames,I.ok.mod,I.bs,zL I.ok.MG I.sz,I.stack,I.pS,I.bW,I.bare}
def Inv.after (I:Inv X pins U H s) (h:CE X.stack X.prog X.w H s Q u s'):EP X pins U Q u s':=by
 let⟨v,H',os,bare,un,bW,r,q⟩:=h;let⟨hh,g,d,t,os'⟩:=s';obtain rfl:os'=s.os:=os;exact{v,H',I.call (h':=hh) (g':=g) (d':=d) (t':=t) (ch:=[]) un bW bare (λb z=>absurd z (by simp)),r,q}
end
def fI (sp:Sp) (dvs:List V) (E:XK) (t:TA):TE:=λU H Q=>t U H λvs H1=>sp (vs++dvs) H1 Q E
def SX (C:vy) (sp:Sp) (dvs:List V) (E:XK) (t:TA):TE:=λU H Q=>t U H λvs H1=>∀x dx,H1 x=none->H1 dx=none->dx≠x->
 sp (.ref x::(vs++dvs)) (upd (upd H1 dx (.own x)) x (.ins C dx [])) (λv H2=>v=.bA/\Q (.ref x) H2) E
def Binds (K:yA) (fd:vx) (ps:List Str) (ds:List vo):Prop:=
 ∀(s:vq) (us:List vo),K.In s.heap->⇑(us++ds)=⇑ps->BindsTo s fd {us,[]} (ps.zip (us++ds))
def Binds.all {K:yA} {fd:vx} {ps:List Str} (h:∀us:List vo,⇑us=⇑ps->bindArgs fd {us,[]}=pure (ps.zip us)):Binds K fd ps []:=λs us _ hl=>by
 rw[zU] at hl ⊢;exact .of_eq (h us hl)
def Passes (CX:Km) (X:Cx) (E:XK):Prop:=∀(pins:List (vy×Obj)) (U:St) (H:Hp) (s:vq) (e:vo) (s':vq),Inv X pins U H s->CX X.stack H s E e s'->X.xe e s'
section
variable {X:Cx} {CX:Km} {k:Nat} {f C:vy} {fd:vx} {ps:List Str} {sp:Sp} {dvs:List V} {ds:List vo} {E:XK} {x m:Str} {p pos apos:Pos} {e o:Expr} {es:List Expr} {ta:TE} {t:TA}
def Nl (F:dA X.prog X.w X.K X.mg X.base CX k f fd ps sp) (hr:fG k X.A) (hb:Binds X.K fd ps ds) (hd:Vals dvs ds) (hx:Passes CX X E)
  (I:Inv X pins U H s) (r:Vals vs us) (h:sp (vs++dvs) H Q E):wpAny (model X.prog X.w) X.A (call (.ref f) us) (EP X pins U Q) X.xe s:=by
 let r2:Vals (vs++dvs) (us++ds):=r.append hd;let hl:⇑(us++ds)=⇑ps:=by rw[<-⇑r2];exact F.len _ _ _ _ h
 refine wpAny_call (xQ (F.run X.A X.stack s H {us,[]} (us++ds) (vs++dvs) Q E hr I.Qh (hb s us I.qS hl) r2 h) λr s' hq=>?_);cases r with
 | error e=>exact hx pins U H s e s' I hq
 | ok fl=>
  cases fl with
  | ret u=>exact I.after hq
  | next=>exact False.elim hq
  | brk=>exact False.elim hq
  | cont=>exact False.elim hq
def PR (F:dA X.prog X.w X.K X.mg X.base CX k f fd ps sp) (hr:fG k X.A) (hg:Gl X x) (hm:X.mg x=some (.ref f)) (hk:PySem.W.keepIn X.K (.ref f)=true) (hb:Binds X.K fd ps ds) (hd:Vals dvs ds) (hx:Passes CX X E)
  (ha:PA X (e::es) t) (hdb:(x == ("__debug__": Str))=false<|>qb_) (he:starEach (e::es) X.env=(false,eval e X.env)::starEach es X.env<|>qe_) (hpl:(backTo pos (starEach es X.env)).any (·.1)=false<|>qe_) :
  PE X (.Call (.Name x p) (e::es) [] pos) (fI sp dvs E t):=by
 intro pins s U H Q I h;refine xm (jN I hg hm ?_ hdb);refine vf (h₀:=X.base) I.ok.mod.R0 hk (cR (ha pos pins s U H _ I h) λus s1 ⟨vs,H1,I1,r,q⟩=>{I1.qS,?_}) he hpl;exact Nl F hr hb hd hx I1 r q
structure Mk (K:yA) (C f:vy):Prop where
 makes:PySem.W.makesIn K C=true
 init:PySem.W.findIn K (.ref C) "__init__"= some (some (.ref f))
 fn:PySem.W.isFn K (.ref f)=true
 kp:PySem.W.keepIn K (.ref C)=true
def Nk (M:Mk X.K C f) (F:dA X.prog X.w X.K X.mg X.base CX k f fd ps sp) (hr:fG (k+1) X.A) (hb:Binds X.K fd ps ds) (hd:Vals dvs ds)
  (hx:Passes CX X E) (I:Inv X pins U H s) (r:Vals vs us)
  (h:∀x dx,H x=none->H dx=none->dx≠x->sp (.ref x::(vs++dvs)) (upd (upd H dx (.own x)) x (.ins C dx [])) (λv H2=>v=.bA/\Q (.ref x) H2) E) :
  wpAny (model X.prog X.w) X.A (call (.ref C) us) (EP X pins U Q) X.xe s:=by
 let hq:=h (↑s+1) ↑s (I.bW.fresh (xY _)) (I.bW.fresh (zk _)) (yi (xN _));let I2:=Inv.made (C:=C) I;let r2:Vals (V.ref (↑s+1)::(vs++dvs)) (Value.ref (↑s+1)::(us++ds)):=.cons rfl (r.append hd);let hl:⇑(Value.ref (↑s+1)::us++ds)=⇑ps:=by
  let e:=⇑r2;rw[F.len _ _ _ _ hq] at e;exact e.symm
 refine wpAny_call (N2 (f:=f) I.qS M.makes M.init (vd.mp M.fn) (xQ (F.run _ X.stack _ _ {Value.ref (↑s+1)::us,[]} (Value.ref (↑s+1)::(us++ds)) _ _ E (hr.make C us [])
  (I2.Qh.make C us []) (hb _ (Value.ref (↑s+1)::us) I2.qS hl) r2 hq) λr s' hq'=>?_))
 cases r with
 | error e=>exact hx pins U _ _ e s' I2 hq'
 | ok fl=>
  cases fl with
  | ret u=>
   let⟨v,H',I3,rv,ev,q3⟩:=I2.after hq';subst ev;exact{rv,{V.ref (↑s+1),H',I3,rfl,q3}}
  | next=>exact False.elim hq'
  | brk=>exact False.elim hq'
  | cont=>exact False.elim hq'
def NQ (M:Mk X.K C f) (F:dA X.prog X.w X.K X.mg X.base CX k f fd ps sp) (hr:fG (k+1) X.A) (hg:Gl X x) (hm:X.mg x=some (.ref C)) (hb:Binds X.K fd ps ds) (hd:Vals dvs ds) (hx:Passes CX X E)
  (hdb:(x == ("__debug__": Str))=false<|>qb_):PE X (.Call (.Name x p) [] [] pos) (SX C sp dvs E dR):=by
 intro pins s U H Q I h;refine xm (jN I hg hm ?_ hdb);exact PySem.W.callWith_K0 I.qS M.kp (Nk (us:=[]) M F hr hb hd hx I .nil h)
end
section
variable {X:Cx} {CX:Km} {k:Nat} {f C:vy} {fd:vx} {ps ks:List Str} {sp:Sp} {E:XK} {x m:Str} {p pos apos kpos:Pos} {e o:Expr} {es:List Expr} {kws:List Keyword} {te ta:TE} {t tk:TA} {nm:Option Str}
variable {g:List vo->List vo->List vo} {gV:List V->List V->List V}
end
structure gf (N P:List Str) (sc:Scope):Prop where
 kind:sc.kind=.function
 co:sc.isCoroutine=false
 gen:sc.isGenerator=false
 nd:N.Nodup
 pre:N.take P.length=P
 par:∀x∈P,sc.names.lookup x=some .local\/sc.names.lookup x=some .cell
 RV:∀y∈sc.names,y.2≠.free
theorem DR {kindOf:Str->Option NameKind} {x:Str}:∀{binds:List (Str×vo)} {m:Str->Option vo},(∀v,(x,v)∉binds)->bindL kindOf binds m x=m x
 | [],_,_=>rfl
 | (n,v)::r,m,h=>by
  unfold bindL;rw[DR λw hw=>h w (zm _ hw)];split
  ·have:x≠n:=by rintro rfl;exact h v zp
   simp[this]
  ·rfl
theorem DT {kindOf:Str->Option NameKind} {x:Str}:∀{binds:List (Str×vo)} {m:Str->Option vo},(∀v,(x,v)∉binds)->bindC kindOf binds m x=m x
 | [],_,_=>rfl
 | (n,v)::r,m,h=>by
  unfold bindC;rw[DT λw hw=>h w (zm _ hw)];split
  ·rfl
  ·have:x≠n:=by rintro rfl;exact h v zp
   simp[this]
theorem DS {kindOf:Str->Option NameKind} {x:Str} {v:vo}:∀{P:List Str} {vs:List vo} {i:Nat} {m:Str->Option vo},P.Nodup->P[i]?=some x->vs[i]?=some v->kindOf x=some .local->
  bindL kindOf (P.zip vs) m x=some v
 | [],_,_,_,_,h,_,_=>by simp at h
 | _::_,[],_,_,_,_,h,_=>by simp at h
 | p::P,w::vs,0,m,nd,h1,h2,hk=>by
  simp at h1 h2;subst h1;subst h2;show bindL kindOf ((p,w)::P.zip vs) m p=_;unfold bindL;rw[DR λv hv=>(yc.mp nd).1 (wt hv).1,yN hk];simp
 | p::P,w::vs,i+1,m,nd,h1,h2,hk=>by
  show bindL kindOf ((p,w)::P.zip vs) m x=_;unfold bindL;exact DS (i:=i) (yc.mp nd).2 (by simpa using h1) (by simpa using h2) hk
theorem DU {kindOf:Str->Option NameKind} {x:Str} {v:vo}:∀{P:List Str} {vs:List vo} {i:Nat} {m:Str->Option vo},P.Nodup->P[i]?=some x->vs[i]?=some v->kindOf x≠some .local->
  bindC kindOf (P.zip vs) m x=some v
 | [],_,_,_,_,h,_,_=>by simp at h
 | _::_,[],_,_,_,_,h,_=>by simp at h
 | p::P,w::vs,0,m,nd,h1,h2,hk=>by
  simp at h1 h2;subst h1;subst h2;show bindC kindOf ((p,w)::P.zip vs) m p=_;unfold bindC;rw[DT λv hv=>(yc.mp nd).1 (wt hv).1,yM hk];simp
 | p::P,w::vs,i+1,m,nd,h1,h2,hk=>by
  show bindC kindOf ((p,w)::P.zip vs) m x=_;unfold bindC;exact DU (i:=i) (yc.mp nd).2 (by simpa using h1) (by simpa using h2) hk
def start (N:List Str) (vs:List V):St:=vs.map some++List.replicate (N.length-⇑vs) none
def j7 (CX:Km) (P:vt) (w:vv) (K:yA) (mg:Str->Option vo) (base:vz) (N:List Str) (qual:Str) (scope:Scope) (f:vy) (cd:vo) (A:vw) (outer:List Env) (s:vq) (H:Hp) (E:XK):Cx where
 prog:=P
 w:=w
 K:=K
 mg:=mg
 base:=base
 A:=A.deeper (envOfC qual scope ↑s f cd)
 N:=N
 s₀:=s
 H₀:=H
 env:=envOfC qual scope ↑s f cd
 outer:=outer
 stack:=envOfC qual scope ↑s f cd::outer
 ex:=[]
 calm:=true
 fn:=λ_=>true
 pn:=[]
 xe:=λe s'=>wpAny (model P w) (A.deeper (envOfC qual scope ↑s f cd)) (leaving (envOfC qual scope ↑s f cd) e) (λ_ s''=>CX outer H s E e s'') (λe' s''=>CX outer H s E e' s'') s'
def Ii {sc:Scope} {n:Nat} {x:Str} (h:sc.names.lookup x=some .cell):∃c,(cellsFrom n sc.names []).lookup x=some c:=by
 let q:=PySem.W.cellsFrom_some sc.names n [] (.inl h);exact Option.isSome_iff_exists.mp q
def LZ {CX:Km} {P:vt} {w:vv} {K:yA} {mg:Str->Option vo} {base:vz} {N ps:List Str} {qual:Str} {scope:Scope} {f:vy} {cd:vo} {A:vw} {outer:List Env} {s s1:vq} {H:Hp} {E:XK} {us:List vo} {vs:List V}
  (S:gf N ps scope) (hd:A.handled=none) (e0:IE P w K mg base A outer s H) (hl:⇑vs=⇑ps) (r:Vals vs us)
  (x:InCallC s ↑s (bindL (envOfC qual scope ↑s f cd).kindOf (ps.zip us) λ_=>none) (cellsFrom (↑s+1) scope.names []) (bindC (envOfC qual scope ↑s f cd).kindOf (ps.zip us) λ_=>none) s1) :
  Inv (j7 CX P w K mg base N qual scope f cd A outer s H E) [] (start N vs) H s1:=by
 let hpl:⇑ps<=N.length:=by have:=yY List.length S.pre;rw[zP] at this;ext
 let⟨h1,tk,rfl,hk⟩:=x.done;let noA:∀b:vy,b∉(j7 CX P w K mg base N qual scope f cd A outer s H E).ex:=λb z=>absurd (show b∈([]:List vy) from z) (by simp);refine{{e0.mod,S.kind,rfl,rfl,zk _,λy z c h1 h2=>?_,λy hy=>?_,λy c _ h=>?_,λ_=>hd,Around.frames_deeper e0.frames,.inr {(rfl),rfl},λb z=>absurd z (noA b),e0.bs,e0.MG,λb _ _=>noA b,λb z=>absurd z (noA b),e0.om,e0.Hz},
  rfl,e0.bare,Un.kept hk,{_,x.toInCall.ns,λi y v h1 h2 h3=>?_},λy c h=>{_,x.cell y c h},e0.bW.fresh (zk _),λy c h=>?_,λp hp=>absurd (show p∈([]:List (vy×Obj)) from hp) (by simp),e0.bW.kept hk,?_}
 ·exact name_of_addr x.apart (wk h1) (wk h2)
 ·let hy:scope.names.lookup y=some .cell\/scope.names.lookup y=some .free:=hy
  rcases hy with hy | hy
  ·exact Ii hy
  ·exact absurd rfl (S.RV _ (wk hy))
 ·exact yg (x.above y c (wk h))
 ·let hi:i<⇑vs:=by
   unfold start at h2
   by_cases hi:i<⇑vs
   ·exact hi
   ·rw[zZ (by simpa using hi)] at h2
    rw[List.getElem?_replicate] at h2;split at h2 <;> cases h2
  let ha:vs[i]?=some v:=by
   unfold start at h2;rw[wj (by simpa using hi),zJ] at h2;cases e:vs[i]? with
   | none=>rw[e] at h2;cases h2
   | some a=>rw[e] at h2;cases h2;rfl
  let⟨u,hu,rv⟩:=r.get ha;let hp:ps[i]?=some y:=by
   rw[<-S.pre,List.getElem?_take_of_lt ()];exact h1
  let ndP:ps.Nodup:=by rw[<-S.pre];exact S.nd.sublist (List.take_sublist _ _)
  refine{u,rv,?_};rcases S.par y (zB hp) with k | k
  ·exact .inl {k,DS ndP hp hu k}
  ·let⟨c,e⟩:=Ii (n:=↑s+1) k
   refine .inr {.inl k,c,e,?_};let q:=x.cell y c e;rw[DU ndP hp hu (by show scope.names.lookup y≠_;rw[k];decide)] at q;exact q
 ·exact e0.bW.fresh (yg (x.above y c (wk h)))
 ·unfold start
  show _=N.length;rw[zg,za,List.length_replicate];ext
def QU {CX:Km} {P:vt} {w:vv} {K:yA} {mg:Str->Option vo} {base:vz} {k:Nat} {f:vy} {name qual:Str} {params:Arguments} {body:List Stmt} {scope:Scope} {dV kV doc pm cdv ct oc:vo} {an od:Option vy}
  {osl:Array (Option vo)} {N ps:List Str} {sp:Sp} (lk:K.lookup f=some {oc,od,.func (PySem.W.fnOf name qual params body scope dV kV doc pm an cdv ct),osl}) (hcd:PySem.W.codeIn K cdv qual=true) (S:gf N ps scope)
  (len:∀vs H Q E,sp vs H Q E->⇑vs=⇑ps)
  (hbody:∀(A:vw) (outer:List Env) (s:vq) (H:Hp) (vs:List V) (Q:VK) (E:XK),fG k (A.deeper (envOfC qual scope ↑s f cdv))->sp vs H Q E->
   ∃t,DX (j7 CX P w K mg base N qual scope f cdv A outer s H E) body t/\t {nx:=λ_ H'=>Q .bA H',rt:=Q} (start N vs) H) :
  dA P w K mg base CX (k+1) f (PySem.W.fnOf name qual params body scope dV kV doc pm an cdv ct) ps sp:=by
 refine{len,λA outer s H args us vs Q E hr e0 hb r hsp=>?_};let hl:=len _ _ _ _ hsp;let KX:K.In s.heap:=e0.mod.R0.keeps λb o e=>(e0.bs b o e).1;let lim:s.heap.NoLimit:=e0.mod.nolimit.keeps λb o e=>(e0.bs b o e).1;let hkind:∀y∈ps.zip us,scope.names.lookup y.1=some .local\/(scope.names.lookup y.1=some .cell/\((cellsFrom (↑s+1) scope.names []).lookup y.1).isSome=true):=λ⟨n,v⟩ hy=>by
  rcases S.par n (wt hy).1 with q | q
  ·exact .inl q
  ·exact .inr {q,PySem.W.cellsFrom_some _ _ _ (.inl q)}
 refine codeAny_call_function hr.depth (KX _ _ lk) rfl S.co S.gen rfl (PySem.W.codeRec_of KX hcd) (hb _ _ _ _ ?_);refine wpAny_newFunctionEnv_cells S.kind hkind λenv he s1 x=>?_;subst he;refine{lim.keeps x.toInCall.keep,codeAny_func ?_};let⟨t,ht,hq⟩:=hbody A outer s H vs Q E (hr.deeper _) hsp;let I:Inv (j7 CX P w K mg base N qual scope f cdv A outer s H E) [] (start N vs) H s1:=LZ S hr.hd e0 hl r x;refine xa (ht [] s1 (start N vs) H _ I hq) (λfl s' hs=>?_) λe s' hs=>hs;let fin:∀{U':St} {H':Hp} {v:V} {u:vo},Inv (j7 CX P w K mg base N qual scope f cdv A outer s H E) [] U' H' s'->RelV v u->Q v H'->CE outer P w H s Q u s':=
  λ{U' H' v u} J rv q=>{(v),H',J.os,J.bare,J.base,J.bW,rv,q}
 cases fl with
 | ret u=>
  let⟨v,U',H',J,rv,q⟩:=hs;exact fin J rv q
 | next=>
  let⟨U',H',J,q⟩:=hs;exact fin (v:=V.bA) (u:=Value.none) J rfl q
 | brk=>
  let⟨_,_,_,q⟩:=hs;exact False.elim q
 | cont=>
  let⟨_,_,_,q⟩:=hs;exact False.elim q
end L2
namespace L2
open PySem PySem.Spec PyProof.Rows
section
variable {X:Cx} {x:Str} {p pos:Pos} {e:Expr} {es:List Expr} {t:TA} {id T:String} {r:List V->Hp->VK->Prop}
def Lp (r:List V->Hp->VK->Prop) (t:TA):TE:=λU H Q=>t U H λvs H1=>r vs H1 Q
def GV (hc:fF X (.builtin id) r) (hg:Gl X x) (hm:X.mg x=none) (hv:bootBuiltins x=some (.builtin id)) (ha:PA X (e::es) t) (hn:x≠ "__name__"<|>qb_) (hdb:(x == ("__debug__": Str))=false<|>qb_)
  (he:starEach (e::es) X.env=(false,eval e X.env)::starEach es X.env<|>qe_) (hpl:(backTo pos (starEach es X.env)).any (·.1)=false<|>qe_):PE X (.Call (.Name x p) (e::es) [] pos) (Lp r t):=by
 intro pins s U H Q I h;refine xm (je I hg hm hv ?_ hn hdb);exact PyProof.Rows.callWith_builtin1 (cR (ha pos pins s U H _ I h) λus s1 ⟨vs,H1,I1,r1,q1⟩=>hc pins s1 U H1 vs us Q I1 r1 q1) he hpl
def LM (hc:fF X (.type T) r) (hg:Gl X x) (hm:X.mg x=none) (hv:bootBuiltins x=some (.type T)) (ha:PA X (e::es) t) (hn:x≠ "__name__"<|>qb_) (hdb:(x == ("__debug__": Str))=false<|>qb_)
  (he:starEach (e::es) X.env=(false,eval e X.env)::starEach es X.env<|>qe_) (hpl:(backTo pos (starEach es X.env)).any (·.1)=false<|>qe_):PE X (.Call (.Name x p) (e::es) [] pos) (Lp r t):=by
 intro pins s U H Q I h;refine xm (je I hg hm hv ?_ hn hdb);exact yL (cR (ha pos pins s U H _ I h) λus s1 ⟨vs,H1,I1,r1,q1⟩=>hc pins s1 U H1 vs us Q I1 r1 q1) he hpl
end
end L2
namespace HT
open PySem PyProof.Rows
section
open PySem.SeqAt
open PySem.AutoSeq1 (wpAny_loadPart')
open PySem.MeetsSeq PySem.MeetsSeq2 PySem.MeetsSeq3
end
section
variable {prog:vt} {w:vv} {A:vw} {E:vo->vq->Prop} {s:vq}
def Qp {t b:vy} {vs ws:List vo} {Q:vo->vq->Prop} (ht:IsTup s.heap t vs.toArray) (hb:IsTup s.heap b ws.toArray) (hv:vs≠[])
  (h1:ws=[]->Q (.ref t) s) (h2:ws≠[]->Q (.ref ↑s) {s with heap:=s.heap.push {cls:=.type "tuple",data:=.seq (vs++ws).toArray}})
  (hsz:⇑vs+⇑ws<=sizeLine):wpAny (model prog w) A (binaryOp .Add (.ref t) (.ref b)) Q E s:=by
 let⟨⟨cls,dd,data,sl⟩,ho,hc,n,hd⟩:=id ht;let⟨⟨cls2,dd2,data2,sl2⟩,ho2,hc2,n2,hd2⟩:=id hb;simp only at hc hd hc2 hd2;subst hc hd hc2 hd2;let e:vs.toArray++ws.toArray=(vs++ws).toArray:=by simp
 by_cases hw:ws=[]
 ·exact concat_meets {_,ho,rfl} {_,ho2,rfl} noFill_tuple_add seq_tuple_add PySem.F.slot_tuple_add PySem.F.entry_tuple_add (PySem.F.args_tuple_add_2 _ _)
   (tuple_addW1 t b vs.toArray ws.toArray n n2 dd dd2 sl sl2 (by simpa using hv) (by simp[hw])) {ho,ho2,h1 hw}
 ·refine concat_meets {_,ho,rfl} {_,ho2,rfl} noFill_tuple_add seq_tuple_add PySem.F.slot_tuple_add PySem.F.entry_tuple_add (PySem.F.args_tuple_add_2 _ _)
   (tuple_addW2 t b vs.toArray ws.toArray n n2 dd dd2 sl sl2 (by simpa using hv) (by simpa using hw) (by rw[ya,ya];exact hsz)) {ho,ho2,?_}
  rw[e];exact h2 hw
def d7 (n d:Nat):Option Int->Nat
 | none=>d
 | some v=>if v<0 then(v+(n:Int)).toNat else min v.toNat n
def GC (n d:Nat):d7 n d none=d:=rfl
def Rw (n d:Nat) (hd:d<=n) (o:Option Int):d7 n d o<=n:=by
 cases o with
 | none=>exact hd
 | some v=>
  show(if v<0 then(v+(n:Int)).toNat else min v.toNat n)<=n
  by_cases hv:v<0
  ·rw[yN hv];ext
  ·rw[yM hv];exact Nat.min_le_right _ _
def K1 (v:Int) (n d:Nat):(if v<0 then max (v+(n:Int)) 0 else min v (n:Int))=((d7 n d (some v):Nat):Int):=by
 show(if v<0 then max (v+(n:Int)) 0 else min v (n:Int))=(((if v<0 then(v+(n:Int)).toNat else min v.toNat n):Nat):Int)
 by_cases hv:v<0
 ·simp only[yN hv];ext
 ·simp only[yM hv];ext
def J7 (lo hi:Option Int) (n:Nat):Builtin.Slice.sliceAdjust lo hi 1 (n:Int)=(((d7 n 0 lo:Nat):Int),((d7 n n hi:Nat):Int)):=by
 let h1:¬((1:Int)<0):=()
 unfold Builtin.Slice.sliceAdjust;simp only[h1,wm];refine Prod.ext ?_ ?_
 ·cases lo with
  | none=>rfl
  | some v=>exact K1 v n 0
 ·cases hi with
  | none=>rfl
  | some v=>exact K1 v n n
def Jp (i j:Nat):Builtin.Slice.slicePlaces (i:Int) (j:Int) 1=j-i:=by
 unfold Builtin.Slice.slicePlaces;let h1:(1:Int)>0:=()
 simp only[h1,vb,Int.ediv_one];split <;> ext
def Am (p:IsPart v o) (h:Q o s):wpAny (model prog w) A (Builtin.Slice.slicePartIndex v) Q E s:=by
 cases p with
 | none=>exact slicePart_none h
 | int i t=>exact slicePart_int h
def kh {sl:vy} {vl vu:vo} {lo hi:Option Int} {n:Nat} {Q:Int×Int×Nat->vq->Prop} (hs:s.heap.IsSliceOf sl vl vu .none) (pl:IsPart vl lo) (pu:IsPart vu hi)
  (h:Q (((d7 n 0 lo:Nat):Int),1,d7 n n hi-d7 n 0 lo) s):wpAny (model prog w) A (Builtin.Slice.sliceApplied (.ref sl) (pure (n:Int))) Q E s:=by
 let⟨os,hos,hcs,hds⟩:=id hs;unfold Builtin.Slice.sliceApplied Builtin.Slice.sliceFields;refine yt (yt (yZ hos hds (x:=vl) rfl (yt (yZ hos hds (x:=vu) rfl (yt (yZ hos hds (x:=.none) rfl (yv ?_)))))));refine yt (slicePart_none ?_);show wpAny _ _ (if((1:Int) == 0)=true then _ else _) _ _ s;rw[yM ∅];refine yt (Am pl (yt (Am pu (yt (yv ?_)))));show wpAny _ _ (match Builtin.Slice.sliceAdjust lo hi 1 (n:Int) with | (lo,hi)=>pure (lo,(1:Int),Builtin.Slice.slicePlaces lo hi 1)) _ _ s;rw[J7 lo hi n];show wpAny _ _ (pure (((d7 n 0 lo:Nat):Int),(1:Int),Builtin.Slice.slicePlaces ((d7 n 0 lo:Nat):Int) ((d7 n n hi:Nat):Int) 1)) _ _ s;rw[Jp];exact yv h
def NN (xs:Array vo) (i k:Nat):((List.range k).filterMap λ(m:Nat)=>xs[((i:Int)+(m:Int)*1).toNat]?).toArray=((xs.toList.drop i).take k).toArray:=by
 let e:(λ(m:Nat)=>xs[((i:Int)+(m:Int)*1).toNat]?)=λm=>xs[i+m]?:=by
  funext m
  have:((i:Int)+(m:Int)*1).toNat=i+m:=()
  rw[this]
 rw[e];have:=pick_run xs i k;rw[List.filterMap_map] at this;let e2:((λx=>xs[x]?)∘λx=>i+x)=λm=>xs[i+m]?:=rfl;rw[e2] at this;rw[this]
def qZ {t sl:vy} {items:Array vo} {vl vu:vo} {lo hi:Option Int} {Q:vo->vq->Prop} (ht:IsTup s.heap t items) (hs:s.heap.IsSliceOf sl vl vu .none) (pl:IsPart vl lo) (pu:IsPart vu hi)
  (hw:¬(d7 items.size 0 lo=0/\d7 items.size items.size hi=items.size))
  (h:Q (.ref ↑s) {s with heap:=s.heap.push {cls:=.type "tuple",data:=.seq ((items.toList.drop (d7 items.size 0 lo)).take (d7 items.size items.size hi-d7 items.size 0 lo)).toArray}})
  (hsz:items.size<=sizeLine):wpAny (model prog w) A (getItem (.ref t) (.ref sl)) Q E s:=by
 let htake:sizeOk (.seq ((items.toList.drop (d7 items.size 0 lo)).take (d7 items.size items.size hi-d7 items.size 0 lo)).toArray):=by
  show((items.toList.drop (d7 items.size 0 lo)).take (d7 items.size items.size hi-d7 items.size 0 lo)).toArray.size<=sizeLine;rw[ya,zP,xy,yP];ext
 let hj:d7 items.size items.size hi<=items.size:=Rw _ _ (zk _) hi;let⟨os,hos,hcs,hds⟩:=id hs;let hTs:s.TypeIs (.ref sl) "slice":={(os),hos,hcs}
 unfold getItem
 try with_reducible refine xF ?_
 first | refine yt (yv ?_) | skip
 refine yt (wpAny_sequenceKey ht.typeIs ∅ ?_);refine yt (yX (name:=Str.ofString "__getitem__") ht.typeIs xM
  (y7 xM ht.typeIs entry_tuple_getitem ?_ (args_tuple_getitem _ _)))
 show wpAny _ _ (Builtin.Tuple.tupleItemsOf (.ref t) >>= _) _ _ s;refine yt (tupleItemsOf_ ht ?_);refine yt (vc hTs ?_);rw[yN ∅];refine yt (kh hs pl pu ?_);let hno:¬((((d7 items.size 0 lo:Nat):Int) == 0&&(1:Int) == 1&&(d7 items.size items.size hi-d7 items.size 0 lo) == items.size)=true):=by
  intro q;rw[zN,zN] at q;let q1:((d7 items.size 0 lo:Nat):Int)=0:=eq_of_beq q.1.1;let q2:d7 items.size items.size hi-d7 items.size 0 lo=items.size:=eq_of_beq q.2;exact hw {(()),()}
 show wpAny _ _ (if(((d7 items.size 0 lo:Nat):Int) == 0&&(1:Int) == 1&&(d7 items.size items.size hi-d7 items.size 0 lo) == items.size)=true then _ else _) _ _ s;rw[yM hno,NN]
 first
  | exact yt (m:=Builtin.Tuple.tupleExact _) (y9 (yv {_,rfl,yv h}) htake)
  | exact yt (m:=Builtin.Tuple.tupleExact _) (y9 (yt (yv (yv {_,rfl,yv h}))) htake)
  | exact yt (yt (m:=Builtin.Tuple.tupleExact _) (y9 (yv (yv {_,rfl,yv h})) htake))
  | exact yt (yt (m:=Builtin.Tuple.tupleExact _) (y9 (yv {_,rfl,yv h}) htake))
end
end HT
namespace L2
open PySem PySem.Spec PyProof.Rows
abbrev TO:=St->Hp->(Option Int->Hp->Prop)->Prop
def PO (X:Cx) (e:Option Expr) (t:TO):Prop:=
 ∀(pins:List (vy×Obj)) (s:vq) (U:St) (H:Hp) (Q:Option Int->Hp->Prop),Inv X pins U H s->t U H Q->
  wpAny (model X.prog X.w) X.A (evalPart e X.env) (λu s'=>∃o H',Inv X pins U H' s'/\IsPart u o/\Q o H') X.xe s
def Ed:TO:=λ_ H Q=>Q none H
def M0 (t:TE):TO:=λU H Q=>t U H λx H1=>∃i,x=.int i/\Q (some i) H1
def intsAre_of:∀{us:List vo},Vals (ns.map V.int) us->IntsAre us ns:=by
 induction ns with
 | nil=>intro us r;rw[ym] at r;cases r;exact .nil
 | cons n ns ih=>
  intro us r;rw[zh] at r;cases r with
  | cons r1 r2=>
   let⟨t,e⟩:=r1;subst e;exact .cons n t (ih r2)
section
variable {X:Cx} {e:Expr} {te:TE} {lo hi:Option Expr} {tl th:TO} {pos p2:Pos}
def du:PO X none Ed:=by
 intro pins s U H Q I h;rw[evalPart_none];exact yv {none,H,I,.none,h}
def dt (h:PE X e te):PO X (some e) (M0 te):=by
 intro pins s U H Q I hw;rw[evalPart_some];refine cR (h pins s U H _ I hw) λu s1 zz=>?_;let⟨x,H1,I1,r1,q1⟩:=zz;let⟨i,rfl,q⟩:=q1;let⟨t,rfl⟩:=r1;exact{some i,H1,I1,.int i t,q}
def OW (X:Cx) (r:V->Option Int->Option Int->Hp->VK->Prop):Prop:=
 ∀(pins:List (vy×Obj)) (s:vq) (U:St) (H:Hp) (x:V) (v vl vu:vo) (lo hi:Option Int) (sl:vy) (Q:VK),Inv X pins U H s->RelV x v->s.heap.IsSliceOf sl vl vu .none->IsPart vl lo->IsPart vu hi->r x lo hi H Q->
  ∃T id,typeLookup (.type T) "__getitem__"= pure (some (.builtin id))/\s.TypeIs v T/\wpAny (model X.prog X.w) X.A (getItem v (.ref sl)) (EP X pins U Q) X.xe s
def OW.or (h:OW X r) (h':OW X r'):OW X (λx lo hi H Q=>r x lo hi H Q\/r' x lo hi H Q):=by
 intro pins s U H x v vl vu lo hi sl Q I rx hs pl pu q;rcases q with q | q
 ·exact h pins s U H x v vl vu lo hi sl Q I rx hs pl pu q
 ·exact h' pins s U H x v vl vu lo hi sl Q I rx hs pl pu q
def UR (r:V->Option Int->Option Int->Hp->VK->Prop) (te:TE) (tl th:TO):TE:=λU H Q=>te U H λx H1=>tl U H1 λl H2=>th U H2 λu H3=>r x l u H3 Q
def cL (hr:OW X r) (he:PE X e te) (hl:PO X lo tl) (hu:PO X hi th):PE X (.Subscript e (.Slice lo hi none p2) pos) (UR r te tl th):=by
 intro pins s U H Q I h;refine Subscript_ (cR (he pins s U H _ I h) λv s1 zz=>?_);let⟨x,H1,I1,r1,q1⟩:=zz;refine wpAny_Slice (cR (hl pins s1 U H1 _ I1 q1) λvl s2 ⟨l,H2,I2,pl,q2⟩=>cR (hu pins s2 U H2 _ I2 q2) λvu s3 zz=>?_);let⟨u,H3,I3,pu,q3⟩:=zz;rw[evalPart_none];refine yv ?_;let I4:Inv X pins U H3 {s3 with heap:=s3.heap.push {cls:=.type "slice",data:=.fields #[vl,vu,.none]}}:=I3.kept (t':=s3.toks) λb ob q=>yu _ q;let⟨T,id,hT,ht,hg⟩:=hr pins {s3 with heap:=s3.heap.push {cls:=.type "slice",data:=.fields #[vl,vu,.none]}} U H3 x v vl vu l u ↑s3 Q I4 r1 (Heap.IsSliceOf.new ..) pl pu q3;show wpAny (model X.prog X.w) X.A (subscriptTail e (.Slice lo hi none p2) v (.ref ↑s3)) (EP X pins U Q) X.xe {s3 with heap:=s3.heap.push {cls:=.type "slice",data:=.fields #[vl,vu,.none]}};exact tail_any (ops:=[.ref ↑s3,v]) ht hT hg (by with_unfolding_all rfl)
def j8 (xs:List V) (lo hi:Option Int):List V:=(xs.drop (HT.d7 ⇑xs 0 lo)).take (HT.d7 ⇑xs ⇑xs hi-HT.d7 ⇑xs 0 lo)
def ua (xs:List V) (lo hi:Option Int):⇑(j8 xs lo hi)<=⇑xs:=by
 unfold j8;rw[zP,xy];ext
def Td (K:yA):V->Option Int->Option Int->Hp->VK->Prop:=λx lo hi H Q=>∃a xs,x=.ref a/\cu K H a xs/\
 ¬(HT.d7 ⇑xs 0 lo=0/\HT.d7 ⇑xs ⇑xs hi=⇑xs)/\∀p,H p=none->Q (.ref p) (upd H p (.tup (j8 xs lo hi)))
def Ru:OW X (Td X.K):=by
 intro pins s U H x v vl vu lo hi sl Q I rx hs pl pu h;let⟨a,xs,rfl,hx,hw,q⟩:=h;cases rx;let⟨its,r,ht,hz⟩:=I.tuple hx;let hlen:its.toArray.size=⇑xs:=by rw[ya];exact r.length.symm
 refine{"tuple",_,xM.lookup,ht.typeIs,?_};refine HT.qZ ht hs pl pu (by rw[hlen];exact hw) ?_ (by rw[hlen];exact hz);rw[hlen];refine{.ref ↑s,_,I.laid (t':=s.toks) (o:=.tup (j8 xs lo hi)) (λb ob q=>yu _ q) (zk _) ?_,rfl,q _ (I.bW.fresh (zk _))};exact{zL (ua xs lo hi) hz,_,(r.drop (HT.d7 ⇑xs 0 lo)).take (HT.d7 ⇑xs ⇑xs hi-HT.d7 ⇑xs 0 lo),IsTup.new _ _}
def Tf (K:yA):R2:=λx y H Q=>∃a b xs ys,x=.ref a/\y=.ref b/\cu K H a xs/\cu K H b ys/\xs≠[]/\⇑xs+⇑ys<=sizeLine/\
 (ys=[]->Q (.ref a) H)/\(ys≠[]->∀p,H p=none->Q (.ref p) (upd H p (.tup (xs++ys))))
def Vals.EX {xs:List V} {us:List vo} (r:Vals xs us):us=[]↔xs=[]:=by
 cases r with
 | nil=>simp
 | cons _ _=>simp
def P0:mG X (binaryOp .Add) (Tf X.K):=by
 intro pins s U H x y v u Q I rx ry h;let⟨a,b,xs,ys,rfl,rfl,ha,hb,hx,hz,q1,q2⟩:=h;cases rx;cases ry;let⟨its,r1,p1,_⟩:=I.tuple ha;let⟨its2,r2,p2,_⟩:=I.tuple hb;refine HT.Qp p1 p2 (λz=>hx (r1.EX.mp z)) (λz=>{.ref a,H,I,rfl,q1 (r2.EX.mp z)}) (λz=>?_) (by rw[<-⇑r1,<-⇑r2];exact hz);refine{.ref ↑s,_,I.laid (t':=s.toks) (o:=.tup (xs++ys)) (λb ob q=>yu _ q) (zk _) ?_,rfl,q2 (λw=>z (r2.EX.mpr w)) _ (I.bW.fresh (zk _))};exact{by rw[zg];exact hz,_,r1.append r2,IsTup.new _ _}
end
end L2
namespace L2
open PySem PySem.Spec PyProof.Rows
def QQ (n:Nat) (i:Int):Option Nat:=if 0<=i then(if i<n then some i.toNat else none) else if -(n:Int)<=i then some (i+n).toNat else none
def DV (xs:List α) (i:Int):Option α:=(QQ ⇑xs i).bind λj=>xs[j]?
def Qa (h:QQ n i=some j):seqIndex? i n=some j/\j<n/\-(n:Int)<=i/\i<n:=by
 unfold QQ at h
 by_cases h0:0<=i
 ·rw[yN h0] at h
  by_cases h1:i<n
  ·rw[yN h1] at h
   let e:i.toNat=j:=yj h;exact{by rw[seqIndex_of h0 h1,e],(),(),h1}
  ·rw[yM h1] at h;cases h
 ·rw[yM h0] at h
  by_cases h1:-(n:Int)<=i
  ·rw[yN h1] at h
   let e:(i+n).toNat=j:=yj h;exact{by rw[seqIndex_neg () h1,e],(),h1,()}
  ·rw[yM h1] at h;cases h
def FA (h:DV xs i=some v):∃j,seqIndex? i ⇑xs=some j/\xs[j]?=some v/\j<⇑xs/\-(⇑xs:Int)<=i/\i<⇑xs:=by
 unfold DV at h;cases e:QQ ⇑xs i with
 | none=>rw[e] at h;cases h
 | some j=>
  rw[e] at h;let⟨h1,h2,h3,h4⟩:=Qa e;exact{(j),h1,h,h2,h3,h4}
def bj {α:Type} {xs:List α} {j:Nat} {v:α} (h:xs[j]?=some v):DV xs (j:Int)=some v:=by
 let hj:j<⇑xs:=(zw.mp h).1;let e:QQ ⇑xs (j:Int)=some j:=by
  unfold QQ;rw[yN (),yN ()];simp
 unfold DV;rw[e];exact h
def BF (xs:List α) (v:α):DV (xs++[v]) (-1)=some v:=by
 let hl:⇑(xs++[v])=⇑xs+1:=by simp
 let e:QQ ⇑(xs++[v]) (-1)=some ⇑xs:=by
  unfold QQ;rw[hl,yM ∅,yN ()]
  congr 1
  ext
 unfold DV;rw[e];show(xs++[v])[⇑xs]?=some v;simp
def rK (b:Expr):Prop:=∀o i,subscripted b false o i=operate [o,i] (getItem o i)
def Up (X:Cx) (r:R2):Prop:=
 ∀(value slice:Expr) (pins:List (vy×Obj)) (s:vq) (U:St) (H:Hp) (x y:V) (v u:vo) (Q:VK),Inv X pins U H s->RelV x v->RelV y u->r x y H Q->
  subscripted slice false v u=operate [v,u] (getItem v u)->wpAny (model X.prog X.w) X.A (subscriptTail value slice v u) (EP X pins U Q) X.xe s
def VB (X:Cx) (id:String) (r:V->List V->Hp->VK->Prop):Prop:=
 ∀(pins:List (vy×Obj)) (s:vq) (U:St) (H:Hp) (x:V) (xs:List V) (v:vo) (us:List vo) (Q:VK),Inv X pins U H s->RelV x v->Vals xs us->r x xs H Q->
  wpAny (model X.prog X.w) X.A (call (.builtin id) (v::us)) (EP X pins U Q) X.xe s
section
variable {X:Cx} {a b:Expr} {ta tb:TE} {pos:Pos}
def AO (hr:Up X r) (ha:PE X a ta) (hb:PE X b tb) (hs:rK b):PE X (.Subscript a b pos) (eO r ta tb):=by
 intro pins s U H Q I h;exact Subscript_ (Sn ha hb I h λv u s2 x y H2 I2 rx ry q=>hr a b pins s2 U H2 x y v u Q I2 rx ry q (hs _ _))
inductive ND (K:yA) (x y:V) (H:Hp) (Q:VK):Prop
 | mk (p:vy) (xs:List V) (i:Int) (v:V) (_:x=.ref p) (_:y=.int i) (_:aI K H p xs) (_:DV xs i=some v) (_:Q v H)
inductive kU (K:yA) (x y:V) (H:Hp) (Q:VK):Prop
 | mk (p:vy) (xs:List V) (i:Int) (v:V) (_:x=.ref p) (_:y=.int i) (_:cu K H p xs) (_:DV xs i=some v) (_:Q v H)
def PF:R2:=λx y H Q=>∃z i c,x=.str z/\y=.int i/\⇑z<=sizeLine/\DV z.cps.toList i=some c/\Q (.str {#[c]}) H
def KO:Up X (ND X.K):=by
 intro value slice pins s U H x y v u Q I rx ry h hs;let⟨p,xs,i,z,rfl,rfl,hq,he,q⟩:=h;cases rx;let⟨t,rfl⟩:=ry;let⟨its,r,pl,hz⟩:=I.list hq;let⟨j,h1,h2,h3,h4,h5⟩:=FA he;let⟨w,ew,rw'⟩:=r.get h2;let hl:=⇑r;let hn:=A4;let fin:EP X pins U Q w s:={(z),H,I,rw',q}
 by_cases h0:0<=i
 ·let hj:i.toNat=j:=by
   rw[seqIndex_of h0 h5] at h1;exact yj h1
  exact item_listR pl.isList h0 () (by rw[hj];simpa using ew) fin hs
 ·let hj:(i+(its.toArray.size:Int)).toNat=j:=by
   rw[seqIndex_neg () h4] at h1;rw[ya,<-hl];exact yj h1
  exact subscriptTail_builtinR (x:=w) pl.isList.typeIs slot_list_getitem.lookup
   (wpAny_getItem_list_neg (Q:=λr s'=>r=w/\EP X pins U Q r s') pl.isList () (by rw[ya] <;> ext) () (by rw[hj];simpa using ew) {(rfl),fin}) hs
def R5:Up X (kU X.K):=by
 intro value slice pins s U H x y v u Q I rx ry h hs;let⟨p,xs,i,z,rfl,rfl,hq,he,q⟩:=h;cases rx;let⟨t,rfl⟩:=ry;let⟨its,r,pl,hz⟩:=I.tuple hq;let⟨j,h1,h2,h3,h4,h5⟩:=FA he;let⟨w,ew,rw'⟩:=r.get h2;let hl:=⇑r;let hn:=A4;let fin:EP X pins U Q w s:={(z),H,I,rw',q}
 exact subscriptTail_builtinR (x:=w) pl.typeIs slot_tuple_getitem.lookup
  (getItem_tuple (j:=j) (Q:=λr s'=>r=w/\EP X pins U Q r s') pl () () (by rw[ya,<-hl];exact h1) (by simpa using ew) {(rfl),fin}) hs
def E2:Up X PF:=by
 intro value slice pins s U H x y v u Q I rx ry h hs;let⟨z,i,c,rfl,rfl,hz,he,q⟩:=h;let⟨t,rfl⟩:=rx;let⟨t',rfl⟩:=ry;let⟨j,h1,h2,h3,h4,h5⟩:=FA he;let hl:⇑z.cps.toList=⇑z:=by simp[Str.length]
 rw[hl] at h1 h4 h5;let hn:=A4;exact tail_any (wL s z t) slot_str_getitem.lookup (getItem_str (c:=c) (by
  let e1:decide (i < -(2^63:Int))=false:=zd ();let e2:decide (i≥2^63)=false:=zd ();rw[e1,e2,Bool.or_false]) (by rw[h1];simpa using h2) {.str {#[c]},H,I.tok _,{_,rfl},q}) hs
def Er (lo hi:Option Int) (n:Nat):(sliceBounds lo hi none n).1=((HT.d7 n 0 lo:Nat):Int)/\(sliceBounds lo hi none n).2.1=((HT.d7 n n hi:Nat):Int)/\(sliceBounds lo hi none n).2.2=1:=by
 refine{?_,?_,rfl}
 ·cases lo with
  | none=>simp[sliceBounds,HT.d7]
  | some i=>
   simp only[sliceBounds,HT.d7,Option.getD_none,show(1:Int)>0 by decide,vb]
   by_cases h:i<0
   ·simp only[h,vb] <;> ext
   ·simp only[h,wm] <;> ext
 ·cases hi with
  | none=>simp[sliceBounds,HT.d7]
  | some i=>
   simp only[sliceBounds,HT.d7,Option.getD_none,show(1:Int)>0 by decide,vb]
   by_cases h:i<0
   ·simp only[h,vb] <;> ext
   ·simp only[h,wm] <;> ext
def Ca (its:List vo) (lo hi:Option Int):slicePick its.toArray lo hi none=((its.drop (HT.d7 ⇑its 0 lo)).take (HT.d7 ⇑its ⇑its hi-HT.d7 ⇑its 0 lo)).toArray:=by
 let⟨h1,h2,h3⟩:=Er lo hi its.toArray.size;unfold slicePick;rw[h1,h2,h3];simp only[sliceRange_one,pick_run,ya] <;> rfl
def U2 (K:yA):V->Option Int->Option Int->Hp->VK->Prop:=λx lo hi H Q=>∃a xs,x=.ref a/\aI K H a xs/\∀p,H p=none->Q (.ref p) (upd H p (.lst (j8 xs lo hi)))
def gB:OW X (U2 X.K):=by
 intro pins s U H x v vl vu lo hi sl Q I rx hs pl pu h;let⟨a,xs,rfl,hx,q⟩:=h;cases rx;let⟨its,r,ht,hz⟩:=I.list hx;let hlen:=⇑r;refine{"list",_,slot_list_getitem.lookup,ht.isList.typeIs,?_};refine wpAny_getItem_list_slice ht.isList hs pl pu .none (by simp) ?_ (by rw[ya] <;> ext);rw[Ca,<-hlen];refine{.ref ↑s,_,I.laid (t':=s.toks) (o:=.lst (j8 xs lo hi)) (λb ob q=>yu _ q) (zk _) ?_,rfl,q _ (I.bW.fresh (zk _))};exact{zL (ua xs lo hi) hz,_,0,(r.drop (HT.d7 ⇑xs 0 lo)).take (HT.d7 ⇑xs ⇑xs hi-HT.d7 ⇑xs 0 lo),yw _ rfl}
def mf:V->Bool
 | .bA=>true
 | .bl _=>true
 | .int _=>true
 | .str _=>true
 | _=>false
def JN:V->V->Bool
 | .bA,.bA=>true
 | .bl a,.bl b=>a == b
 | .bl a,.int b=>(if a then 1 else 0) == b
 | .int a,.bl b=>a == (if b then 1 else 0)
 | .int a,.int b=>a == b
 | .str a,.str b=>a == b
 | _,_=>false
def Oz (ry:RelV y u) (rx:RelV x v) (fy:mf y=true) (fx:mf x=true):SeqAt.EqAt A s u v (JN y x):=by
 cases y with
 | bA=>
  cases ry;cases x with
  | bA=>cases rx;exact SeqAt.EqAt.same _
  | bl b=>cases rx;exact SeqAt.EqAt.none_bool b
  | int b=>let⟨t,rfl⟩:=rx;exact SeqAt.EqAt.none_int b t
  | str b=>let⟨t,rfl⟩:=rx;exact SeqAt.EqAt.none_str b t
  | _=>exact absurd (show false=true from fx) zK
 | bl a=>
  cases ry;cases x with
  | bA=>cases rx;exact SeqAt.EqAt.bool_none a
  | bl b=>cases rx;exact SeqAt.EqAt.bool_bool a b
  | int b=>let⟨t,rfl⟩:=rx;exact SeqAt.EqAt.bool_int a b t
  | str b=>let⟨t,rfl⟩:=rx;exact SeqAt.EqAt.bool_str a b t
  | _=>exact absurd (show false=true from fx) zK
 | int a=>
  let⟨t',rfl⟩:=ry;cases x with
  | bA=>cases rx;exact SeqAt.EqAt.int_none a t'
  | bl b=>cases rx;exact SeqAt.EqAt.int_bool a t' b
  | int b=>let⟨t,rfl⟩:=rx;exact SeqAt.EqAt.int_int a t' b t
  | str b=>let⟨t,rfl⟩:=rx;exact SeqAt.EqAt.int_str a t' b t
  | _=>exact absurd (show false=true from fx) zK
 | str a=>
  let⟨t',rfl⟩:=ry;cases x with
  | bA=>cases rx;exact SeqAt.EqAt.str_none a t'
  | bl b=>cases rx;exact SeqAt.EqAt.str_bool a t' b
  | int b=>let⟨t,rfl⟩:=rx;exact SeqAt.EqAt.str_int a t' b t
  | str b=>let⟨t,rfl⟩:=rx;exact SeqAt.EqAt.str_str a t' b t
  | _=>exact absurd (show false=true from fx) zK
 | _=>exact absurd (show false=true from fy) zK
def JO (x:V) (u:vo):Bool:=match u with
 | .none=>JN .bA x
 | .bool b=>JN (.bl b) x
 | .int i _=>JN (.int i) x
 | .str z _=>JN (.str z) x
 | _=>false
def Oy (r:RelV y u) (f:mf y=true):JO x u=JN y x:=by
 cases y with
 | bA=>cases r;rfl
 | bl b=>cases r;rfl
 | int i=>let⟨t,rfl⟩:=r;rfl
 | str z=>let⟨t,rfl⟩:=r;rfl
 | _=>exact absurd (show false=true from f) zK
theorem rE:∀{xs:List V} {us:List vo},Vals xs us->xs.all mf=true->us.any (JO x)=xs.any λy=>JN y x
 | _,_,.nil,_=>rfl
 | y::xs,u::us,.cons r t,f=>by
  rw[wQ,zN] at f;rw[xn,xn,Oy r f.1,rE t f.2]
theorem m6 (rx:RelV x v) (fx:mf x=true):∀{xs:List V} {us:List vo},Vals xs us->xs.all mf=true->∀u∈us,SeqAt.EqAt A s u v (JO x u)
 | _,_,.nil,_=>λu hu=>by cases hu
 | y::xs,u::us,.cons r t,f=>λu' hu=>by
  rw[wQ,zN] at f;rcases zC.mp hu with rfl | hu
  ·rw[Oy r f.1];exact Oz r rx f.1 fx
  ·exact m6 rx fx t f.2 u' hu
def E4 (x:V) (xs:List V):Bool:=xs.any λy=>JN y x
inductive RC (K:yA) (neg:Bool) (x y:V) (H:Hp) (Q:VK):Prop
 | mk (p:vy) (xs:List V) (_:y=.ref p) (_:aI K H p xs\/cu K H p xs) (_:mf x=true) (_:xs.all mf=true) (_:Q (.bl (if neg then !E4 x xs else E4 x xs)) H)
def ki:mG X (compareOp .In) (RC X.K false):=by
 intro pins s U H x y v u Q I rx ry h;let⟨p,xs,rfl,hq,fx,fs,q⟩:=h;cases ry;rcases hq with hq | hq
 ·let⟨its,r,pl,hz⟩:=I.list hq
  refine SeqAt.in_listAt (JO x) pl.isList (λw hw=>m6 rx fx r fs w (by simpa using hw)) {.bl _,H,I,rfl,?_};rw[show its.toArray.any (JO x)=its.any (JO x) by simp,rE r fs];exact q
 ·let⟨its,r,pl,hz⟩:=I.tuple hq
  refine SeqAt.in_tupleAt (JO x) pl (λw hw=>m6 rx fx r fs w (by simpa using hw)) {.bl _,H,I,rfl,?_};rw[show its.toArray.any (JO x)=its.any (JO x) by simp,rE r fs];exact q
def dJ:mG X (compareOp .NotIn) (RC X.K true):=by
 intro pins s U H x y v u Q I rx ry h;let⟨p,xs,rfl,hq,fx,fs,q⟩:=h;cases ry;rcases hq with hq | hq
 ·let⟨its,r,pl,hz⟩:=I.list hq
  refine SeqAt.notIn_listAt (JO x) pl.isList (λw hw=>m6 rx fx r fs w (by simpa using hw)) {.bl _,H,I,rfl,?_};rw[show its.toArray.any (JO x)=its.any (JO x) by simp,rE r fs];exact q
 ·let⟨its,r,pl,hz⟩:=I.tuple hq
  refine SeqAt.notIn_tupleAt (JO x) pl (λw hw=>m6 rx fx r fs w (by simpa using hw)) {.bl _,H,I,rfl,?_};rw[show its.toArray.any (JO x)=its.any (JO x) by simp,rE r fs];exact q
def aE:fF X (.builtin "len") (λxs H Q=>∃p ys,xs=[.ref p]/\(aI X.K H p ys\/cu X.K H p ys)/\Q (.int ⇑ys) H):=by
 intro pins s U H xs us Q I r h;let⟨p,ys,rfl,hq,q⟩:=h;let⟨u,rfl,rx⟩:=vals1 r;cases rx;let hn:=A4;rcases hq with hq | hq
 ·let⟨its,r',pl,hz⟩:=I.list hq
  let hlen:=⇑r';exact Calls.call_len_list pl.isList (by simp only[ya] <;> ext) {.int ⇑ys,H,I.tok _,{s.toks+1,by rw[ya,hlen]},q}
 ·let⟨its,r',pl,hz⟩:=I.tuple hq
  let hlen:=⇑r';exact len_tuple pl (by simp only[ya] <;> ext) {.int ⇑ys,H,I.tok _,{s.toks+1,by rw[ya,hlen]},q}
def fY:fF X (.builtin "len") (λxs H Q=>∃z,xs=[.str z]/\⇑z<=sizeLine/\Q (.int ⇑z) H):=by
 intro pins s U H xs us Q I r h;let⟨z,rfl,hz,q⟩:=h;let⟨u,rfl,t,rfl⟩:=vals1 r;let hn:=A4;exact len_str () {.int ⇑z,H,I.tok _,{_,rfl},q}
def iG:fF X (.type "list") (λxs H Q=>∃p ys,xs=[.ref p]/\(aI X.K H p ys\/cu X.K H p ys)/\∀l,H l=none->Q (.ref l) (upd H l (.lst ys))):=by
 intro pins s U H xs us Q I r h;let⟨p,ys,rfl,hq,q⟩:=h;let⟨u,rfl,rx⟩:=vals1 r;cases rx;let fin:∀(its:List vo),Vals ys its->⇑ys<=sizeLine->∀(h':vz) (c':Nat),(∀b o',s.heap.get? b=some o'->h'.get? b=some o')->
   h'.get? ↑s=some {cls:=.type "list",dict:=none,data:=.seq its.toArray c',slots:=#[]}->EP X pins U Q (.ref ↑s) {s with heap:=h'}:=λits r' hz h' c' kp e=>
  {.ref ↑s,_,I.laid (t':=s.toks) kp (zk _) (show cx X.prog X.w _ h' _ (.lst ys) from{(hz),its,c',r',e}),rfl,q _ (I.bW.fresh (zk _))}
 rcases hq with hq | hq
 ·let⟨its,r',pl,hz⟩:=I.list hq
  let hlen:=⇑r';let⟨o,ho,hc,n,hd⟩:=pl.isList;exact call_list_seq p (.inl rfl) ho hc hd (λh' c' kp e=>fin its r' hz h' c' kp e) (by simp only[ya] <;> ext)
 ·let⟨its,r',pl,hz⟩:=I.tuple hq
  let hlen:=⇑r';let⟨o,ho,hc,n,hd⟩:=pl;exact call_list_seq p (.inr rfl) ho hc hd (λh' c' kp e=>fin its r' hz h' c' kp e) (by simp only[ya] <;> ext)
def cK:fF X (.type "tuple") (λxs H Q=>∃p ys,xs=[.ref p]/\((aI X.K H p ys/\∀l,H l=none->Q (.ref l) (upd H l (.tup ys)))\/(cu X.K H p ys/\Q (.ref p) H))):=by
 intro pins s U H xs us Q I r h;let⟨p,ys,rfl,h⟩:=h;let⟨u,rfl,rx⟩:=vals1 r;cases rx;rcases h with⟨hq,q⟩ | ⟨hq,q⟩
 ·let⟨its,r',pl,hz⟩:=I.list hq
  let hlen:=⇑r';refine call_tuple_list pl.isList (λh' kp=>?_) (by simp only[ya] <;> ext);let I1:Inv X pins U H {s with heap:=h'}:=I.kept (t':=s.toks) kp;let I2:Inv X pins U (upd H h'.objs.size (.tup ys)) {s with heap:=h'.push {cls:=.type "tuple",data:=.seq its.toArray}}:=
   I1.laid (t':=s.toks) (λb o e=>yu _ e) (zk _) (show cx X.prog X.w _ _ _ (.tup ys) from{hz,its,r',IsTup.new _ _})
  exact{.ref h'.objs.size,_,I2,rfl,q _ (I1.bW.fresh (zk _))}
 ·let⟨its,r',pl,hz⟩:=I.tuple hq
  exact call_tuple_same pl {.ref p,H,I,rfl,q}
def Ub (K:yA) (T:String) (x:V) (H:Hp):Prop:=match x with
 | .str _=>T ="str"
 | .int _=>T ="int"
 | .ref p=>(T ="list"/\∃xs,aI K H p xs)\/(T ="tuple"/\∃o,K.lookup p=some o/\o.cls=.type "tuple"/\o.dict=none)\/
   (T ="dict"/\((∃kvs,H p=some (.dK kvs))\/∃kvs,H p=some (.dT kvs)))\/(T ="set"/\∃S n,H p=some (.set S n))
 | _=>False
def MS (I:Inv X pins U H s) (r:RelV x v) (ty:Ub X.K T x H) :
  s.TypeIs v T/\∀a,v=.ref a->∃ob,s.heap.get? a=some ob/\ob.dict=none:=by
 cases x with
 | str z=>
  let⟨t,rfl⟩:=r;cases(show T ="str" from ty);exact{wL s z t,λ_ e=>nomatch e}
 | int i=>
  let⟨t,rfl⟩:=r;cases(show T ="int" from ty);exact{typeIs_int s i t,λ_ e=>nomatch e}
 | ref p=>
  cases r;rcases ty with⟨rfl,xs,hq⟩ | ⟨rfl,o,hk,hc,hd⟩ | ⟨rfl,hk⟩ | ⟨rfl,S,n,hk⟩
  ·let⟨its,_,pl,_⟩:=I.list hq
   refine{pl.isList.typeIs,λa e=>?_};cases e;let⟨o,n,e,c,hd,_⟩:=pl;exact{(o),e,hd}
  ·refine{{o,I.qS p o hk,hc},λa e=>?_}
   cases e;exact{o,I.qS _ o hk,hd}
  ·let z:∃o,s.heap.get? p=some o/\o.ExactDict:=by
    rcases hk with⟨kvs,hk⟩ | ⟨kvs,hk⟩
    ·let⟨_,_,_,_,o,_,_,e,ex,_⟩:=I.bW p _ hk
     exact{(o),e,ex}
    ·let⟨_,_,_,_,o,_,_,e,ex,_⟩:=I.bW p _ hk
     exact{(o),e,ex}
   let⟨o,e,ex⟩:=z;refine{{(o),e,ex.1},λa e2=>?_};cases e2;exact{(o),e,ex.2.1}
  ·let⟨o,_,_,_,e,ex,_⟩:=I.bW p _ hk
   refine{{(o),e,ex.1},λa e2=>?_};cases e2;exact{(o),e,ex.2.1}
 | _=>exact False.elim ty
def UW (K:yA) (T:String) (r:V->List V->Hp->VK->Prop) (to:TE):TE:=λU H Q=>to U H λx H1=>Ub K T x H1/\r x [] H1 Q
def Ug (K:yA) (T:String) (r:V->List V->Hp->VK->Prop) (to:TE) (t:TA):TE:=λU H Q=>to U H λx H1=>Ub K T x H1/\t U H1 λxs H2=>r x xs H2 Q
variable {o e:Expr} {es:List Expr} {to:TE} {t:TA} {name:Str} {apos cpos:Pos} {T id:String} {r:V->List V->Hp->VK->Prop}
def RK (pa:PlainAttrs T) (slot:Slot T name id) (hty:typeOf (.builtin id)=pure (.type "method_descriptor")) (hm:VB X id r) (ho:PE X o to)
  (hbase:attributeBase o name X.env (eval o X.env)=eval o X.env<|>qe_) (hline:(apos.endLine == cpos.line)=true<|>qe_):PE X (.Call (.Attribute o name apos) [] [] cpos) (UW X.K T r to):=by
 intro pins s U H Q I h;refine wpAny_Call_method0_late hbase hline (cR (ho pins s U H _ I h) λv s1 zz=>?_);let⟨x,H1,I1,r1,ty,q1⟩:=zz;let⟨h1,h2⟩:=MS I1 r1 ty;exact{T,id,pa,slot,hty,h1,h2,wJ rfl (PySem.evalArgs_none (hm pins s1 U H1 x [] v [] Q I1 r1 .nil q1))}
def bU (pa:PlainAttrs T) (slot:Slot T name id) (hty:typeOf (.builtin id)=pure (.type "method_descriptor")) (hm:VB X id r) (ho:PE X o to) (ha:PA X (e::es) t)
  (hbase:attributeBase o name X.env (eval o X.env)=eval o X.env<|>qe_)
  (hfew:((backTo cpos (starEach (e::es) X.env)).all (λx=>!x.1)&&(backToKw cpos (keywordEach [] X.env)).all (λx=>x.1.isSome)
   &&decide (⇑(e::es)+⇑([]:List Keyword)+(if([]:List Keyword).isEmpty then 0 else 1)<30))=true<|>qe_)
  (hline:(apos.endLine == cpos.line)=true<|>qe_) (hs:starEach (e::es) X.env=(false,eval e X.env)::starEach es X.env<|>qe_) (hplain:(backTo cpos (starEach es X.env)).any (·.1)=false<|>qe_) :
  PE X (.Call (.Attribute o name apos) (e::es) [] cpos) (Ug X.K T r to t):=by
 intro pins s U H Q I h;refine wpAny_Call_method_late hbase hfew hline rfl (cR (ho pins s U H _ I h) λv s1 zz=>?_);let⟨x,H1,I1,r1,ty,q1⟩:=zz;let⟨h1,h2⟩:=MS I1 r1 ty;refine{T,id,pa,slot,hty,h1,h2,?_};let hA:=ha cpos pins s1 U H1 _ I1 q1;rw[hs] at hA ⊢;refine wJ (by show(false||(backTo cpos (starEach es X.env)).any (·.1))=false;rw[hplain] <;> rfl) (Calls.evalArgs_plain ?_);exact cR hA λus s2 ⟨vs,H2,I2,r2,q2⟩=>hm pins s2 U H2 x vs v us Q I2 r1 r2 q2
end
end L2
namespace L2
open PySem PySem.Spec PyProof.Rows
def QY (X:Cx) (id:String) (r:V->List V->Hp->VK->Prop):Prop:=
 ∀(pins:List (vy×Obj)) (s:vq) (U:St) (H:Hp) (x:V) (xs:List V) (v:vo) (us:List vo) (Q:VK),Inv X pins U H s->RelV x v->Vals xs us->r x xs H Q->
  wpAny (model X.prog X.w) X.A (call (.builtin id) (v::us)) (EP X pins U Q) X.xe s
theorem Vals.one:∀{x:V} {us:List vo},Vals [x] us->∃u,us=[u]/\RelV x u
 | _,_,.cons r .nil=>{_,rfl,r}
theorem Vals.zero:∀{us:List vo},Vals [] us->us=[]
 | _,.nil=>rfl
theorem Vals.reverse (h:Vals xs us):Vals xs.reverse us.reverse:=by
 induction h with
 | nil=>exact .nil
 | cons r t ih=>rw[List.reverse_cons,List.reverse_cons];exact Vals.append ih (.cons r .nil)
section
variable {X:Cx} {pins:List (vy×Obj)} {U:St} {H:Hp} {s:vq} {l b:vy} {xs ys zs:List V}
def Inv.P6 {its its':List vo} {n:Nat} {f:Array vo->Array vo} {t':Nat} (I:Inv X pins U H s) (hH:H l=some (.lst xs))
  (e:s.heap.get? l=some {cls:=.type "list",data:=.seq its.toArray n}) (hf:f its.toArray=its'.toArray) (hv:Vals ys its') (hz:⇑ys<=sizeLine) :
  Inv X pins U (upd H l (.lst ys)) {s with heap:=s.heap.update l (Obj.mapSeq f),toks:=t'}:=by
 let q:=PySem.IsL.update e f;rw[hf] at q;refine I.write (x:=l) (e:=l) (by rw[hH];exact trivial) (.inl rfl) (λb' u hb hu=>(yy s.heap (Obj.mapSeq f) (Ne.symm hb)).trans hu) {_,q} ?_;exact{hz,its',_,hv,q}
def Inv.Tq (I:Inv X pins U H s) (hv:Vals ys its) (hz:⇑ys<=sizeLine) :
  Inv X pins U (upd H ↑s (.lst ys)) {s with heap:=s.heap.push {cls:=.type "list",data:=.seq its.toArray},toks:=t'}:=
 I.laid (λ_ _ q=>yu _ q) (zk _) {hz,its,0,hv,yw _ rfl}
theorem Inv.fresh (I:Inv X pins U H s):H ↑s=none:=I.bW.fresh (zk _)
def Inv.N3 (I:Inv X pins U H s) (hH:H l=some (.lst xs)):⇑xs<=sizeLine/\∃(its:List vo) (n:Nat),Vals xs its/\⇑xs=⇑its/\s.heap.get? l=some {cls:=.type "list",data:=.seq its.toArray n}:=by
 let⟨z,its,n,r,e⟩:=I.bW l _ hH;exact{(z),its,n,r,⇑r,e}
def G9 (h:n<=sizeLine):Builtin.List.listTooLong n=false:=by
 unfold Builtin.List.listTooLong;exact zd ()
end
section
variable {X:Cx}
inductive PH (x:V) (vs:List V) (H:Hp) (Q:VK):Prop
 | mk (l:vy) (xs:List V) (y:V) (_:x=.ref l) (_:vs=[y]) (_:H l=some (.lst xs)) (_:⇑xs<sizeLine) (_:Q .bA (upd H l (.lst (xs++[y]))))
def bF:QY X "list.append" PH:=by
 intro pins s U H x vs v us Q I rx rv h;let⟨l,xs,y,rfl,rfl,hH,hz,q⟩:=h;cases rx;let⟨u,rfl,ru⟩:=rv.one;let⟨z,its,n,r,hl,e⟩:=I.N3 hH;refine wx F.slot_list_append {_,e,rfl} F.entry_list_append (F.args_list_append_2 _ _) (PySem.list_append l its.toArray n u (by rw[ya];ext)) {e,?_};refine{.bA,_,I.P6 (its':=its++[u]) hH e (by simp) (r.append (.cons ru .nil)) ?_,rfl,q};rw[zg,List.length_singleton];ext
inductive KC (x:V) (vs:List V) (H:Hp) (Q:VK):Prop
 | mk (l b:vy) (xs zs:List V) (_:x=.ref l) (_:vs=[.ref b]) (_:H l=some (.lst xs)) (_:H b=some (.lst zs)) (_:⇑xs+⇑zs<=sizeLine) (_:Q .bA (upd H l (.lst (xs++zs))))
def LP:QY X "list.extend" KC:=by
 intro pins s U H x vs v us Q I rx rv h;let⟨l,b,xs,zs,rfl,rfl,hH,hB,hz,q⟩:=h;cases rx;let⟨u,rfl,ru⟩:=rv.one;cases ru;let⟨z,its,n,r,hl,e⟩:=I.N3 hH;let⟨z2,its2,n2,r2,hl2,e2⟩:=I.N3 hB;let hsz:its.toArray.size+its2.toArray.size<=sizeLine:=by rw[ya,ya];ext
 let hlong:¬(!its.toArray.isEmpty&&Builtin.List.listTooLong (its.toArray.size+its2.toArray.size))=true:=by
  rw[G9 hsz,wG];exact zK
 refine wx F.slot_list_extend {_,e,rfl} F.entry_list_extend (F.args_list_extend_2 _ _)
  (AutoSeq1.list_extend_list_list_0 l its.toArray n b its2.toArray n2 hlong (by rw[ya];ext) ()) {e,e2,?_}
 refine{.bA,_,I.P6 (its':=its++its2) hH e (by simp) (r.append r2) ?_,rfl,q};rw[zg];ext
def NC:V->List V->Hp->VK->Prop:=λx vs H Q=>∃l xs,x=.ref l/\vs=[]/\H l=some (.lst xs)/\Q .bA (upd H l (.lst xs.reverse))
def Jx:QY X "list.reverse" NC:=by
 intro pins s U H x vs v us Q I rx rv h;let⟨l,xs,rfl,rfl,hH,q⟩:=h;cases rx;let hus:=rv.zero;subst hus;let⟨z,its,n,r,hl,e⟩:=I.N3 hH;refine wx F.slot_list_reverse {_,e,rfl} F.entry_list_reverse (F.args_list_reverse_1 _) (AutoSeq1.list_reverse_list_0 l its.toArray n (by rw[ya];ext)) {e,?_};refine{.bA,_,I.P6 (its':=its.reverse) hH e (by simp) r.reverse ?_,rfl,q};rw[List.length_reverse];ext
end
section
variable {prog:vt} {w:vv} {A:vw} {E:vo->vq->Prop} {s:vq}
end
section
variable {X:Cx}
end
end L2
namespace VG
open PySem PySem.W PySem.Calls PyProof.Rows
def uQ:∀(ns:List Int) (vs:List vo),WellAll P h vs (ns.map WData.int)->IntsAre vs ns:=by
 intro ns
 induction ns with
 | nil=>
  intro vs w;rw[ym] at w;cases w;exact .nil
 | cons n ns ih=>
  intro vs w;rw[zh] at w;cases w with
  | cons a b=>
   cases a;exact .cons _ _ (ih _ b)
def Lw {l:OpenLaw} {n:Nat} (hn:l.most=some n) {P:Params} {h:vz} {args:List WData} {vals:List vo}
  (hpre:l.row.toRowW.claim.pre args=true) (hwl:WellAll P h vals args) :
  ∃a vs ns,vals=[Value.ref a]/\args=[WData.list (ns.map WData.int)]/\h.get? a=some {cls:=.type "list",data:=.seq vs.toArray}/\IntsAre vs ns/\⇑ns<=n:=by
 let hsh:WShape.hasAll [] args [.list .int]=true:=(pre_splitW hpre).1;let hc:l.pre.holds [] {args:=args}=true:=(pre_splitW hpre).2;let⟨d,r,rfl,h1,h2⟩:=hasAllW_cons hsh;obtain rfl:=hasAllW_nil h2;let⟨xs,rfl,h3⟩:=hasW_list h1;let⟨ns,rfl⟩:=items_int h3;let hlen:⇑ns<=n:=by
  unfold OpenLaw.pre at hc;let h4:(WTm.not (.lt (.lit (.int (n:Int))) (.len (.arg 0)))).holds [] {args:=[.list (ns.map .int)]}=true:=by
   let h4:=(holds_andW hc).1;rw[hn] at h4;exact h4
  let h5:=condW_of h4 (w_not (w_lt w_lit (w_len_list (w_arg rfl))));rw[za] at h5;refine Nat.le_of_not_lt λq=>?_;let q':(n:Int)<((⇑ns:Nat):Int):=()
  first
   | (rw[ze q'] at h5;exact absurd h5 ∅)
   | (simp at h5;ext)
 cases hwl with
 | cons w1 w2=>
  cases w2;cases w1 with
  | list ho hall=>exact{_,_,ns,rfl,rfl,ho,uQ ns _ hall,hlen}
def LI (l:OpenLaw) (args:List WData):l.row.toRowW.claim.post args (.bool true) args=true:=
 postW_of (r:=l.row.toRowW) (X:=(true == true))
  (show WShape.has [] (.bool true) .bool=true by first | rfl | decide | simp[WShape.has,WShape.arms,WShape.armsAll])
  (show(WTm.eq .res (.lit (.bool true))).value [] {args:=args,res:=some (.bool true),after:=args}=some (.bool (true == true)) from w_eq_bool (w_res rfl) w_lit) rfl
def Im {l:OpenLaw} {n:Nat} {q:vt} {loose:List Str} {XP:(Str->Option vo)->vz->Prop} {YP:vv->vz->Prop} {d:DefRec}
  (hn:l.most=some n) (hdf:d.params.defaults=[])
  (call:∀(w:vv) (s₀ s₁:vq) (mg mb:Str->Option vo) (fa:vy) (o:Obj) (pm cd doc:vo) (a:vy) (vs:List vo) (ns:List Int),
   Ground q loose [] XP w s₀ mg mb s₁.heap->YP w s₁.heap->
   s₁.heap.get? fa=some o->o.data=.func (docDef d.name d.params d.body d.scope pm cd doc)->s₁.heap.CodeRec cd d.name->mg d.name=some (.ref fa)->
   s₁.heap.get? a=some {cls:=.type "list",data:=.seq vs.toArray}->IntsAre vs ns->⇑ns<=n->s₁.gens=#[]->
   codeAny (model l.prog w) callerA (.call (.ref fa) {[.ref a],[]}) (λr s'=>r=.ok (.ret (.bool true))/\OldK s₁.heap s'.heap/\s'.os=s₁.os/\AllBare s'.gens) s₁) :
  WalkO q loose XP YP l.row.toRowW d [] (λf vs=>PySem.call f vs):=by
 intro w s₀ s₁ mg mb G Y fa o pm cd doc dV kV ho hd hcd hD hmg hg args vals as hpre hlay hrd hwl hlo;obtain rfl:dV=.none:=Dflts.none hD hdf;obtain rfl:kV=.none:=Dflts.noKw hD;let⟨a,vs,ns,rfl,rfl,hobj,hints,hlen⟩:=Lw hn hpre hwl;refine enter_call (xQ (call w s₀ s₁ mg mb fa o pm cd doc a vs ns G Y ho (fd_plain hd) hcd hmg hobj hints hlen hg) λr s' hq=>?_);let⟨rfl,h2,h3,h4⟩:=hq;exact{.inl {.bool true,.bool true,[],rfl,λ_=>rfl,.bool true,LI l _,λ_=>{List.Pairwise.nil,λ_ hm=>(nomatch hm)}},h2,h3,h4}
section
variable {prog:vt} {w:vv} {A:vw} {E:vo->vq->Prop} {s:vq} {K:Frag}
end
end VG
namespace L2
open PySem PySem.Spec PyProof.Rows
theorem De:∀{vs:List vo} {ns:List Int},IntsAre vs ns->Vals (ns.map V.int) vs
 | _,_,.nil=>.nil
 | _,_,.cons n t h=>.cons {(t),rfl} (De h)
def Su (H:Hp):Prop:=∀b,H b=none\/∃o xs,H b=some (.mF o (.lst xs))
def Oa {P:vt} {w:vv} {K:yA} {mg mb:Str->Option vo} {CX:Km} {k:Nat} {fa a:vy} {fd:vx} {x:Str} {sp:Sp} {s₁:vq} {vs:List vo} {ns:List Int}
  (KX:K.In s₁.heap) (hns:s₁.heap.Ns mainGlobals mg) (hb:s₁.heap.Ns builtinsNs mb) (hbb:∀x:Str,x≠ "__name__"->mb x=bootBuiltins x) (hlim:s₁.heap.NoLimit) (hg:s₁.gens=#[])
  (ha:s₁.heap.get? a=some {cls:=.type "list",data:=.seq vs.toArray}) (hi:IntsAre vs ns) (hl:⇑ns<=sizeLine) (hr:fG k callerA)
  (F:∀base:vz,K.In base->base.Ns mainGlobals mg->dA P w K mg base CX k fa fd [x] sp) (hbind:∀(s:vq) (u:vo),BindsTo s fd {[u],[]} [(x,u)])
  (hsp:∀H:Hp,Su H->aI K H a (ns.map V.int)->sp [.ref a] H (λv _=>v=.bl true) λ_ _ _=>False)
  (hCX:∀H e s',CX [] H s₁ (λ_ _ _=>False) e s'->False) :
  codeAny (model P w) callerA (.call (.ref fa) {[.ref a],[]}) (λr s'=>r=.ok (.ret (.bool true))/\OldK s₁.heap s'.heap/\s'.os=s₁.os/\AllBare s'.gens) s₁:=by
 let rv:=De hi;let lenV:=⇑hi;let core:∀H:Hp,Su H->aI K H a (ns.map V.int)->pM P w H s₁.heap->(∀b,H b≠none->b=a)->(H a≠none->K.lookup a=none)->
   codeAny (model P w) callerA (.call (.ref fa) {[.ref a],[]}) (λr s'=>r=.ok (.ret (.bool true))/\OldK s₁.heap s'.heap/\s'.os=s₁.os/\AllBare s'.gens) s₁:=by
  intro H hO hS bW hA hK;let base_of:∀{b:vy} {o:Obj},s₁.heap.get? b=some o->H b=none->(E6 s₁.heap H).get? b=some o:=λe n=>Of e n;let noA:∀{b:vy} {o:Obj} {es:Array DictEntry} {ep:Nat},s₁.heap.get? b=some o->o.data=.dict es ep->H b=none:=λ{b o es ep} e d=>by
   cases q:H b with
   | none=>rfl
   | some u=>
    let e':b=a:=hA b (by rw[q];simp);subst e';rw[ha] at e;cases e;let d':Data.seq vs.toArray _=Data.dict es ep:=d;cases d'
  let nsK:∀{b:vy} {m:Str->Option vo},s₁.heap.Ns b m->(E6 s₁.heap H).Ns b m:=λ{b m} ⟨o,es,ep,e,d,r⟩=>{o,es,ep,base_of e (noA e d),d,r}
  let hKb:K.In (E6 s₁.heap H):=λb o e=>base_of (KX b o e) (by
   cases q:H b with
   | none=>rfl
   | some u=>
    let e':b=a:=hA b (by rw[q];simp);subst e';rw[hK (by rw[q];simp)] at e;cases e)
  let hM:Mod K mg (E6 s₁.heap H):={hKb,nsK hns,{mb,nsK hb,hbb},let ⟨mc,h1,h2⟩:=hlim;{mc,nsK h1,h2}}
  let e0:IE P w K mg (E6 s₁.heap H) callerA [] s₁ H:={rfl,hM,λb o e=>P2 e,Nat.le_of_eq (L4 _ _),trivial,λb hb=>absurd (show b∈([]:List vy) from hb) (by simp),bW,.of_eq hg}
  refine xQ ((F _ hKb (nsK hns)).run callerA [] s₁ H {[.ref a],[]} [.ref a] [.ref a] _ _ hr e0 (hbind s₁ (.ref a)) (.cons rfl .nil) (hsp H hO hS)) λr s' h=>?_;cases r with
  | error e=>exact(hCX H e s' h).elim
  | ok fl=>
   cases fl with
   | next=>exact False.elim h
   | brk=>exact False.elim h
   | cont=>exact False.elim h
   | ret u=>
    let⟨v,H',os,bare,un,hok',r',q⟩:=h;let q':v=.bl true:=q;subst q';obtain rfl:u=Value.bool true:=r';refine{rfl,OldK.of_keep λb o e=>?_,os,bare};cases q:H b with
    | none=>exact un.keep b o e q (by intro z;exact absurd (show b∈([]:List vy) from z) (by simp)) (by simp)
    | some u=>
     rcases hO b with z | ⟨ob,xs,z⟩
     ·rw[q] at z;cases z
     ·let z2:=un.mq b ob _ z
      let⟨e1,_⟩:=bW b _ z;let⟨e2,_⟩:=hok' b _ z2;rw[e] at e1;cases e1;exact e2
 cases hk:K.lookup a with
 | some o=>
  let e:=KX a o hk;rw[ha] at e;cases e;refine core (λ_=>none) (λ_=>.inl rfl) (.inr {_,vs.toArray,_,hk,rfl,rfl,rfl,by rw[ya,lenV];exact hl,by simpa using rv}) (λb u z=>by let z':(none:Option HO)=some u:=z;cases z') (λb z=>absurd rfl z) λz=>absurd rfl z
 | none=>
  refine core (λb=>if b=a then some (.mF {cls:=.type "list",data:=.seq vs.toArray} (.lst (ns.map V.int))) else none) (λb=>?_) (.inl (.inr {{cls:=.type "list",data:=.seq vs.toArray},yN rfl})) (λb u z=>?_) (λb z=>?_) λ_=>hk
  ·by_cases hb:b=a
   ·exact .inr {_,_,yN hb}
   ·exact .inl (yM hb)
  ·by_cases hb:b=a
   ·let z':=(yN hb).symm.trans z
    cases z';subst hb;exact{ha,by rw[za];exact hl,vs,_,rv,ha}
   ·let z':=(yM hb).symm.trans z
    cases z'
  ·by_cases hb:b=a
   ·exact hb
   ·exact absurd (yM hb) z
end L2
namespace L2
open PySem PySem.Spec PyProof.Rows
def Pb {l:PySem.W.OpenLaw} {n k:Nat} {q:vt} {loose:List Str} {XP:(Str->Option vo)->vz->Prop} {YP:vv->vz->Prop} {d:DefRec} {K:Params->yA} {CX:vv->Km} {sp:vv->Sp} {x:Str}
  (hn:l.most=some n) (hn2:n<=sizeLine) (hdf:d.params.defaults=[]) (hr:fG k callerA)
  (hY:∀(w:vv) (h:vz),YP w h->(K w.params).In h)
  (F:∀(w:vv) (mg:Str->Option vo) (fa:vy) (h:vz),(K w.params).In h->h.Ns mainGlobals mg->mg d.name=some (.ref fa)->
   ∃fd:vx,(∀(s:vq) (u:vo),BindsTo s fd {[u],[]} [(x,u)])/\
    ∀base:vz,(K w.params).In base->base.Ns mainGlobals mg->dA l.prog w (K w.params) mg base (CX w) k fa fd [x] (sp w))
  (hsp:∀(w:vv) (H:Hp) (a:vy) (ns:List Int),⇑ns<=n->Su H->aI (K w.params) H a (ns.map V.int)->sp w [.ref a] H (λv _=>v=.bl true) λ_ _ _=>False)
  (hCX:∀(w:vv) (H:Hp) (s:vq) (e:vo) (s':vq),CX w [] H s (λ_ _ _=>False) e s'->False) :
  PySem.W.WalkO q loose XP YP l.row.toRowW d [] (λf vs=>PySem.call f vs):=by
 refine VG.Im hn hdf λw s₀ s₁ mg mb fa o pm cd doc a vs ns G Y ho hd hcd hmg hobj hints hlen hg=>?_;let KX:=hY w _ Y;let⟨fd,hb,hF⟩:=F w mg fa _ KX G.T.g hmg;exact Oa KX G.T.g G.T.b G.T.builtins G.T.nolimit hg hobj hints (zL hlen hn2) hr hF hb (λH hO hS=>hsp w H a ns hlen hO hS) λH e s'=>hCX w H s₁ e s'
end L2
namespace L2
open PySem PySem.Spec PyProof.Rows
def inClass (s:Stmt) (j:Nat):Stmt:=match s with
 | .ClassDef _ _ _ body _ _ _ _ _ _ _=>body.getD j (.Pass {0,0,0,0})
 | _=>.Pass {0,0,0,0}
def cY (s:Stmt):Arguments:=match s with
 | .FunctionDef _ a _ _ _ _ _ _ _ _=>a
 | _=>{posonlyargs:=[],args:=[],vararg:=none,kwonlyargs:=[],kw_defaults:=[],kwarg:=none,defaults:=[]}
def ck (s:Stmt):List Stmt:=match s with
 | .FunctionDef _ _ b _ _ _ _ _ _ _=>b
 | _=>[]
def aU (s:Stmt):Scope:=match s with
 | .FunctionDef _ _ _ _ _ _ sc _ _ _=>sc
 | _=>{kind:=.function,names:=[],isGenerator:=false,isCoroutine:=false}
abbrev IG:Km:=λ_ _ _ _ _ _=>False
abbrev E0:XK:=λ_ _ _=>False
def KI:Passes IG X E0:=λ_ _ _ _ _ _ _ h=>h.elim
structure O2 (K:yA) (x qual:Str) (st:Stmt) (f:vy) (fd:vx):Prop where
 ex:∃(oc:vo) (od:Option vy) (kV doc pm:vo) (an:Option vy) (cdv ct:vo) (osl:Array (Option vo)),
  fd=PySem.W.fnOf x qual (cY st) (ck st) (aU st) .none kV doc pm an cdv ct/\K.lookup f=some {oc,od,.func fd,osl}/\PySem.W.codeIn K cdv qual=true
 kp:PySem.W.keepIn K (.ref f)=true
section
variable {P:vt} {w:vv} {K:yA} {mg:Str->Option vo} {base:vz}
def O2.ok {x qual:Str} {st:Stmt} {f:vy} {fd:vx} {N ps:List Str} {k:Nat} {sp:Sp} (F:O2 K x qual st f fd) (S:gf N ps (aU st)) (len:∀vs H Q E,sp vs H Q E->⇑vs=⇑ps)
  (hbody:∀(cdv:vo) (A:vw) (outer:List Env) (s:vq) (H:Hp) (vs:List V) (Q:VK) (E:XK),fG k (A.deeper (envOfC qual (aU st) ↑s f cdv))->sp vs H Q E->
   ∃t,DX (j7 IG P w K mg base N qual (aU st) f cdv A outer s H E).Jv (ck st) t/\t {nx:=λ_ H'=>Q .bA H',rt:=Q} (start N vs) H):dA P w K mg base IG (k+1) f fd ps sp:=by
 let⟨oc,od,kV,doc,pm,an,cdv,ct,osl,rfl,lk,hcd⟩:=F.ex;refine QU lk hcd S len λA outer s H vs Q E hr hsp=>?_;let⟨t,h,q⟩:=hbody cdv A outer s H vs Q E hr hsp;exact{(t),h.Jv,q}
def O2.binds {x qual:Str} {st:Stmt} {f:vy} {fd:vx} {ps:List Str} (F:O2 K x qual st f fd)
  (h:∀(kV doc pm:vo) (an:Option vy) (cdv ct:vo) (us:List vo),⇑us=⇑ps->bindArgs (PySem.W.fnOf x qual (cY st) (ck st) (aU st) .none kV doc pm an cdv ct) {us,[]}=pure (ps.zip us)):Binds K fd ps []:=by
 let⟨oc,od,kV,doc,pm,an,cdv,ct,osl,rfl,lk,hcd⟩:=F.ex;exact .all (h kV doc pm an cdv ct)
def j0 {x qual:Str} {st:Stmt} {f:vy} {oc:vo} {od an:Option vy} {osl:Array (Option vo)} {kV doc pm cdv ct:vo} (l:K.lookup f=some {oc,od,.func (PySem.W.fnOf x qual (cY st) (ck st) (aU st) .none kV doc pm an cdv ct),osl})
  (c:PySem.W.codeIn K cdv qual=true) (k:PySem.W.keepIn K (.ref f)=true):O2 K x qual st f (PySem.W.fnOf x qual (cY st) (ck st) (aU st) .none kV doc pm an cdv ct):={{(oc),od,kV,doc,pm,an,cdv,ct,osl,rfl,l,c},k}
end
def fQ (hr:fG k A):A.units+1<cLine:=Nat.lt_of_le_of_lt (Nat.add_le_add_left (by decide:1<=64) _) hr.units
section
variable {X:Cx}
def pv (i:Nat) (hN:X.N[i]?=some x<|>qe_) (hv:Sr X.env.scope x<|>qg_) (hd:(x == ("__debug__": Str))=false<|>qb_)
  (hcd:(x == ("__classdict__": Str))=false<|>qb_):PE X (.Name x pos) (aY i):=RG hN hv hd hcd
end
def Tt {A B:Prop} (h:B):if false=true then A else B:=by
 rw[yM zK];exact h
def Vb {A B:Prop} (h:A):if true=true then A else B:=by
 rw[yN rfl];exact h
def uP {c A B:Prop} [Decidable c] (h1:c->A) (h2:¬c->B):if c then A else B:=by
 by_cases h:c
 ·rw[yN h]
  exact h1 h
 ·rw[yM h]
  exact h2 h
def QR {c A B:Prop} [Decidable c] (hc:c) (h:B):if(!decide c)=true then A else B:=by
 rw[ze hc];exact Tt h
def aB (H H':Hp):Prop:=∀b o,H b=some o->H' b=some o
def aB.refl (H:Hp):aB H H:=λ_ _ h=>h
def aB.trans (a:aB H H1) (b:aB H1 H2):aB H H2:=λc o h=>b c o (a c o h)
def aB.seq {K:yA} {H H':Hp} {a:vy} {xs:List V} (e:aB H H') (h:aI K H a xs):aI K H' a xs:=by
 rcases h with(h | ⟨o,h⟩) | h
 ·exact .inl (.inl (e _ _ h))
 ·exact .inl (.inr {o,e _ _ h})
 ·exact .inr h
end L2
namespace Lm
def red (t b:Int):Int×Int:=(t/(Int.gcd t b:Int),b/(Int.gcd t b:Int))
def vO {t b:Int} (hb:0<b):0<(Int.gcd t b:Int):=by
 have:0<Int.gcd t b:=Int.gcd_pos_of_ne_zero_right t ();ext
def qt {t b k:Int} (hk:0<k) (hb:0<b):red (k*t) (k*b)=red t b:=by
 let g0:=vO (t:=t) hb;let e:(Int.gcd (k*t) (k*b):Int)=k*(Int.gcd t b:Int):=by
  rw[Int.gcd_mul_left];simp only[Int.natCast_mul];rw[Int.natAbs_of_nonneg ()]
 unfold red;rw[e,Int.mul_ediv_mul_of_pos _ _ hk,Int.mul_ediv_mul_of_pos _ _ hk]
def kQ {t b:Int} (hb:0<b):∃g,0<g/\t=g*(red t b).1/\b=g*(red t b).2/\0<(red t b).2/\(red t b).2<=b:=by
 let g0:=vO (t:=t) hb;let d1:(Int.gcd t b:Int) ∣ t:=Int.gcd_dvd_left ..;let d2:(Int.gcd t b:Int) ∣ b:=Int.gcd_dvd_right ..;let e1:(Int.gcd t b:Int)*(t/(Int.gcd t b:Int))=t:=Int.mul_ediv_cancel' d1;let e2:(Int.gcd t b:Int)*(b/(Int.gcd t b:Int))=b:=Int.mul_ediv_cancel' d2;refine{_,g0,e1.symm,e2.symm,?_,?_}
 ·exact Int.ediv_pos_of_pos_of_dvd hb () d2
 ·exact zW _ ()
def AH {t b:Int} (ht:0<=t):0<=(red t b).1:=zV ht (Int.natCast_nonneg _)
def AI {t b:Int} (ht:0<=t):(red t b).1<=t:=zW _ ht
def Pz {t b:Int} (hb:0<b):red (red t b).1 (red t b).2=red t b:=by
 let⟨g,g0,e1,e2,p,_⟩:=kQ (t:=t) hb;let h:=qt (t:=(red t b).1) (b:=(red t b).2) g0 p;rw[<-e1,<-e2] at h;exact h.symm
def add (x y:Int×Int):Int×Int:=red (x.1*y.2+y.1*x.2) (x.2*y.2)
def Qs {t b s c:Int} (hb:0<b) (hc:0<c):add (red t b) (red s c)=red (t*c+s*b) (b*c):=by
 let⟨g,g0,e1,e2,p,_⟩:=kQ (t:=t) hb;let⟨k,k0,f1,f2,q,_⟩:=kQ (t:=s) hc;unfold add;generalize hx:red t b=x at *;generalize hy:red s c=y at *;let h:=qt (t:=x.1*y.2+y.1*x.2) (b:=x.2*y.2) (xw g0 k0) (xw p q);rw[<-h]
 congr 1
 ·rw[e1,e2,f1,f2,Int.mul_add]
  congr 1 <;> simp only[Int.mul_assoc,Int.mul_left_comm,xA]
 ·rw[e2,f2];simp only[Int.mul_assoc,Int.mul_left_comm,xA]
end Lm
namespace Lm
def Rd (x:Int×Int):Prop:=∃t b,0<=t/\0<b/\x=red t b
def Rd.of {t b:Int} (ht:0<=t) (hb:0<b):Rd (red t b):={(t),b,ht,hb,rfl}
def Rd.pos {x:Int×Int} (h:Rd x):0<=x.1/\0<x.2/\red x.1 x.2=x:=by
 let⟨t,b,ht,hb,rfl⟩:=h;let⟨g,g0,e1,e2,p,_⟩:=kQ (t:=t) hb;exact{AH ht,p,Pz hb}
def Rd.zero:Rd (0,1):={0,1,∅,∅,∅}
theorem Rd.add {x y:Int×Int} (h:Rd x) (k:Rd y):Rd (add x y):=by
 let⟨a,b,_⟩:=h.pos;let⟨c,d,_⟩:=k.pos;refine{_,_,?_,xw b d,rfl};exact Int.add_nonneg (x6 a ()) (x6 c ())
def Hv {x y:Int} (hx:0<=x) (hy:0<y):Int.gcd y (x%y)=Int.gcd x y:=by
 let e:(x%y).natAbs=x.natAbs%y.natAbs:=by
  let⟨a,rfl⟩:=yK hx;let⟨b,rfl⟩:=yK (y6 hy);rfl
 show Nat.gcd y.natAbs (x%y).natAbs=Nat.gcd x.natAbs y.natAbs;rw[e,Nat.gcd_comm x.natAbs,Nat.gcd_rec y.natAbs x.natAbs,Nat.gcd_comm]
def Ol {t b:Int} (hb:0<b):(Int.gcd t b:Int)<=b:=by
 let h:Int.gcd t b<=b.natAbs:=Nat.gcd_le_right _ ();ext
end Lm
namespace Lm
end Lm
namespace Lm
theorem K0 {c:Nat}:∀{p q A B:List Nat},c∉p->c∉q->p++c::A=q++c::B->p=q/\A=B
 | [],[],A,B,_,_,h=>{rfl,by simpa using h}
 | [],y::q,A,B,_,hq,h=>by
  simp at h;exact absurd (by rw[h.1];exact zp) hq
 | x::p,[],A,B,hp,_,h=>by
  simp at h;exact absurd (by rw[<-h.1];exact zp) hp
 | x::p,y::q,A,B,hp,hq,h=>by
  simp only[wM,List.cons.injEq] at h;let⟨e,h⟩:=h;let⟨e1,e2⟩:=K0 (λz=>hp (zm _ z)) (λz=>hq (zm _ z)) h;exact{by rw[e,e1],e2}
def Og:∀(n:Nat),0<n->∃c r,Nat.toDigits 10 n=c::r/\c≠'0':=by
 intro n
 induction n using Nat.strongRecOn with
 | _ n ih=>
  intro hn
  by_cases h:n<10
  ·rw[Nat.toDigits_of_lt_base h]
   refine{_,[],rfl,?_};exact(by decide:∀n<10,0<n->Nat.digitChar n≠'0') n h hn
  ·let hd:n%10<10:=ve _ ∅
   let⟨c,r,e,hc⟩:=ih (n/10) () ();let t:=Nat.toDigits_append_toDigits (b:=10) (n:=n/10) (d:=n%10) ∅ () hd;rw[Nat.div_add_mod,e] at t;exact{c,r++Nat.toDigits 10 (n%10),by rw[<-t];rfl,hc}
def RZ {n k:Nat} (hk:0<k):n<10^k->⇑(Nat.toDigits 10 n)<=k:=by
 intro h
 induction k generalizing n with
 | zero=>ext
 | succ k ih=>
  by_cases h10:n<10
  ·rw[Nat.toDigits_of_lt_base h10];simp
  ·let hd:n%10<10:=ve _ ∅
   let hk0:0<k:=by
    rcases Nat.eq_zero_or_pos k with rfl | z
    ·simp at h;ext
    ·exact z
   have:=ih hk0 (n:=n/10) (by rw[Nat.div_lt_iff_lt_mul ∅];rw[Nat.pow_succ] at h;exact h);let t:=Nat.toDigits_append_toDigits (b:=10) (n:=n/10) (d:=n%10) ∅ () hd;rw[Nat.div_add_mod] at t;rw[<-t,zg,Nat.toDigits_of_lt_base hd];simp;ext
end Lm
namespace L2
open PySem
def e9 (t:Bool) (h:vz) (a:vy) (items:Array vo):Prop:=match t with
 | true=>h.IsTuple a items
 | false=>h.IsList a items
def dk (t:Bool) (h:vz) (it a:vy) (k:Nat):Prop:=match t with
 | true=>h.IsTupleIter it a k
 | false=>h.IsListIter it a k
def qV (t:Bool) (a:vy):Obj:=match t with
 | true=>{cls:=.type "tuple_iterator",data:=.fields #[.ref a,.int 0 0]}
 | false=>{cls:=.type "list_iterator",data:=.fields #[.ref a,.int 0 0]}
theorem e9.at {t:Bool} {h h':vz} {a:vy} {items:Array vo} (x:e9 t h a items) (e:∀o,h.get? a=some o->h'.get? a=some o):e9 t h' a items:=by
 cases t
 ·exact Heap.IsList.at x e
 ·let⟨o,ho,r⟩:=x;exact{o,e o ho,r}
theorem dk.at {t:Bool} {h h':vz} {it a:vy} {k:Nat} (x:dk t h it a k) (e:∀o,h.get? it=some o->h'.get? it=some o):dk t h' it a k:=by
 cases t
 ·exact Heap.IsListIter.at x e
 ·exact Heap.IsTupleIter.at x e
def e9.but {t:Bool} {h h':vz} {a b:vy} {items:Array vo} (x:e9 t h a items) (hs:Heap.SameBut b h h') (n:a≠b):e9 t h' a items:=x.at λo e=>hs.extBut a o n e
def dk.but {t:Bool} {h h':vz} {it a b:vy} {k:Nat} (x:dk t h it a k) (hs:Heap.SameBut b h h') (n:it≠b):dk t h' it a k:=x.at λo e=>hs.extBut it o n e
theorem dk.get {t:Bool} {h:vz} {it a:vy} {k:Nat} (x:dk t h it a k):∃o,h.get? it=some o/\∀v,o.data≠.cell v:=by
 cases t
 ·let⟨o,e,_,d⟩:=x;exact{o,e,λv z=>by rw[d] at z;cases z}
 ·let⟨o,e,_,d⟩:=x;exact{o,e,λv z=>by rw[d] at z;cases z}
def dk.new (t:Bool) (h:vz) (a:vy):dk t (h.push (qV t a)) h.objs.size a 0:=by
 cases t
 ·exact{_,yw _ rfl,rfl,rfl}
 ·exact{_,yw _ rfl,rfl,rfl}
section
variable {prog:vt} {w:vv} {A:vw} {E:vo->vq->Prop} {s:vq}
def Kx {t:Bool} {a:vy} {items:Array vo} {Q:vo->vq->Prop} (hl:e9 t s.heap a items) (hQ:Q (.ref ↑s) {s with heap:=s.heap.push (qV t a)}) :
  wpAny (model prog w) A (pyIter (.ref a)) Q E s:=by
 cases t
 ·exact wH hl hQ
 ·exact wpAny_pyIter_tuple hl hQ
def pT {t:Bool} {it a:vy} {i:Nat} {items:Array vo} {x:vo} {Q:vo->vq->Prop} (hit:dk t s.heap it a i) (hl:e9 t s.heap a items) (hx:items[i]?=some x)
  (hQ:∀h',dk t h' it a (i+1)->Heap.SameBut it s.heap h'->Q x {s with heap:=h'}):wpAny (model prog w) A (Builtin.SmallTypes.nextOf (.ref it)) Q E s:=by
 cases t
 ·exact wpAny_nextOf_list_item hit hl hx hQ
 ·let hit':s.heap.IsTupleIter it a i:=hit
  let⟨o,ho,hc,hd⟩:=id hit';let⟨ol,hol,_,nl,hdl⟩:=(show s.heap.IsTuple a items from hl)
  unfold Builtin.SmallTypes.nextOf;refine yt (yX (name:=Str.ofString "__next__") hit'.typeIs x9 (y7 x9 hit'.typeIs F.entry_tuple_iterator_next ?_ (F.args_tuple_iterator_next_1 _)));show wpAny _ _ (field (.ref it) 0 >>= _) _ _ s;refine yt (yZ ho hd (x:=.ref a) rfl ?_);show wpAny _ _ (if(Value.ref a == Value.none)=true then _ else _) _ _ s;rw[yM (show¬((Value.ref a == Value.none)=true) from zK)];show wpAny _ _ (field (.ref it) 1 >>= _) _ _ s;refine yt (yZ ho hd (x:=.int i 0) rfl ?_);show wpAny _ _ (seqItems? (.ref a) >>= _) _ _ s;refine yt (xo hol hdl ?_);simp only[xX,hx];refine yt (wpAny_setField ho hd (by simp) (yv {x,rfl,yv (hQ _ ?_ (wY ..))}));exact{_,yz _ ho (Obj.isFreed_of_fields (vg hd _)),(Obj.cls_mapFields ..).trans hc,by rw[vg hd];simp[rawInt]}
def Eh {t:Bool} {it a:vy} {i:Nat} {items:Array vo} {Q:vo->vq->Prop} (hh:A.handled=none) (hit:dk t s.heap it a i) (hl:e9 t s.heap a items) (hx:items[i]?=none)
  (hE:∀h' e,Heap.ExtBut it s.heap h'->(∃o,h'.get? e=some o/\o.cls=.type "StopIteration")->E (.ref e) {s with heap:=h'}):wpAny (model prog w) A (Builtin.SmallTypes.nextOf (.ref it)) Q E s:=by
 cases t
 ·exact wpAny_nextOf_list_end hh hit hl hx hE
 ·let hit':s.heap.IsTupleIter it a i:=hit
  let⟨o,ho,hc,hd⟩:=id hit';let⟨ol,hol,_,nl,hdl⟩:=(show s.heap.IsTuple a items from hl)
  unfold Builtin.SmallTypes.nextOf;refine yt (yX (name:=Str.ofString "__next__") hit'.typeIs x9 (y7 x9 hit'.typeIs F.entry_tuple_iterator_next ?_ (F.args_tuple_iterator_next_1 _)));show wpAny _ _ (field (.ref it) 0 >>= _) _ _ s;refine yt (yZ ho hd (x:=.ref a) rfl ?_);show wpAny _ _ (if(Value.ref a == Value.none)=true then _ else _) _ _ s;rw[yM (show¬((Value.ref a == Value.none)=true) from zK)];show wpAny _ _ (field (.ref it) 1 >>= _) _ _ s;refine yt (yZ ho hd (x:=.int i 0) rfl ?_);show wpAny _ _ (seqItems? (.ref a) >>= _) _ _ s;refine yt (xo hol hdl ?_);simp only[xX,hx];refine yt (wpAny_rule (yt (wpAny_setField ho hd (by simp) ?_)));show wpAny _ _ (newExc (.type "StopIteration") [] >>= _) _ _ _;refine yt ?_;simp only[newExc,newTuple];refine yt (y9 ?_ (by size_fits));refine yt (m:=firstArgMember _ _) (wpAny_of_eq (a:=Value.none) (by first | rfl | (simp only[firstArgMember];rfl)) (y9 ?_ (by size_fits)));simp only[raiseNew];refine yt (wpAny_handled ?_)
  first | rw[show A.in1.handled=none from hh] | rw[hh]
  exact yt (yv (wpAny_throw (hE _ _ (((wY ..).extBut.push _).push _) {_,yw _ rfl,rfl})))
structure Mx (z TI TO i1 i2:vy):Prop where
 a1:TI≠z
 a2:TO≠z
 a3:i1≠z
 a4:i2≠z
 a5:TI≠TO
 a6:TI≠i1
 a7:TI≠i2
 a8:TO≠i1
 a9:TO≠i2
 b1:i1≠i2
structure BW (l z TO i1 i2:vy):Prop where
 a1:l≠z
 a2:l≠TO
 a3:l≠i1
 a4:l≠i2
def rJ (z TO i1 i2:vy) (h h':vz):Prop:=∀c o,c≠z->c≠TO->c≠i1->c≠i2->h.get? c=some o->h'.get? c=some o
structure O7 (t1 t2:Bool) (h:vz) (z TI TO i1 i2 l1 l2:vy) (k:Nat) (f0:vo):Prop where
 z:IsZip h z TI TO f0
 ti:IsPair h TI (.ref i1) (.ref i2)
 to:∃a b,IsPair h TO a b
 i1:dk t1 h i1 l1 k
 i2:dk t2 h i2 l2 k
def ML {t1 t2:Bool} {z TI TO i1 i2 l1 l2:vy} {k:Nat} {xs ys:Array vo} {x y:vo} {Q:vo->vq->Prop} (D:Mx z TI TO i1 i2) (L1:BW l1 z TO i1 i2) (L2:BW l2 z TO i1 i2)
  (S:O7 t1 t2 s.heap z TI TO i1 i2 l1 l2 k .none) (hl1:e9 t1 s.heap l1 xs) (hl2:e9 t2 s.heap l2 ys) (hx:xs[k]?=some x) (hy:ys[k]?=some y)
  (hQ:∀h',O7 t1 t2 h' z TI TO i1 i2 l1 l2 (k+1) (rawInt ↑s)->IsPair h' ↑s x y->rJ z TO i1 i2 s.heap h'->Q (.ref ↑s) {s with heap:=h'}) :
  wpAny (model prog w) A (Builtin.«zip.__next__» {[.ref z],[]}) (λfin s'=>∃v,fin=.done (.ret v)/\Q v s') E s:=by
 let⟨hz,hTI,⟨a,b,hTO⟩,h1,h2⟩:=S;show wpAny _ _ (field (.ref z) 2 >>= _) _ _ _;refine yt (yZ hz rfl (x:=.bool false) rfl ?_);show wpAny _ _ (field (.ref z) 3 >>= _) _ _ _;refine yt (yZ hz rfl (x:=.ref TI) rfl (yt (xo hTI rfl ?_)));show wpAny _ _ (Builtin.SmallTypes.ownedTupleIsFree (.ref z) >>= _) _ _ _;refine yt ?_;unfold Builtin.SmallTypes.ownedTupleIsFree;refine yt (yZ hz rfl (x:=.none) rfl (yv ?_));simp only[vb];refine yt (wpAny_rule (yt (yZ hz rfl (x:=.ref TO) rfl (yt (xH hz (by simp) λg1 z1 q1=>?_)))));replace z1:IsZip g1 z TI TO .ellipsis:=z1;refine yt ?_;simp only[List.zipIdx_cons,List.zipIdx_nil,List.forIn_cons,List.forIn_nil];refine yt (yt (wpAny_onRaise ?_));show wpAny _ _ (Builtin.SmallTypes.nextOf (.ref i1) >>= _) _ _ _;refine yt (pT (h1.but q1 D.a3) (hl1.but q1 L1.a1) hx λg2 p2 q2=>yv ?_);let o2:IsPair g2 TO a b:=q2.extBut _ _ D.a8 (q1.extBut _ _ D.a2 hTO);refine yt (xo o2 rfl (yt (wpAny_updateSeq_pair o2 λg3 o3 q3=>yt (wpAny_letGo (yv (yt (yt (wpAny_onRaise ?_))))))));replace o3:IsPair g3 TO x b:=o3;show wpAny _ _ (Builtin.SmallTypes.nextOf (.ref i2) >>= _) _ _ _;refine yt (pT (((h2.but q1 D.a4).but q2 D.b1.symm).but q3 D.a9.symm) (((hl2.but q1 L2.a1).but q2 L2.a3).but q3 L2.a2) hy λg4 p4 q4=>yv ?_);let o4:IsPair g4 TO x b:=q4.extBut _ _ D.a9 o3;refine yt (xo o4 rfl (yt (wpAny_updateSeq_pair o4 λg5 o5 q5=>yt (wpAny_letGo (yv (yv ?_))))));replace o5:IsPair g5 TO x y:=o5;refine yt (xo o5 rfl (yt (wpAny_newTuple ?_)));let sz:g5.objs.size=↑s:=by rw[q5.1,q4.1,q3.1,q2.1,q1.1]
 let z5:IsZip g5 z TI TO .ellipsis:=q5.extBut _ _ D.a2.symm (q4.extBut _ _ D.a4.symm (q3.extBut _ _ D.a2.symm (q2.extBut _ _ D.a3.symm z1)));let k5:rJ z TO i1 i2 s.heap g5:=λc o c1 c2 c3 c4 e=>q5.extBut _ _ c2 (q4.extBut _ _ c4 (q3.extBut _ _ c2 (q2.extBut _ _ c3 (q1.extBut _ _ c1 e))));let r1:dk t1 g5 i1 l1 (k+1):=((p2.but q3 D.a8.symm).but q4 D.b1).but q5 D.a8.symm;let r2:dk t2 g5 i2 l2 (k+1):=p4.but q5 D.a9.symm;let zl:z<g5.objs.size:=yx z5;show wpAny _ _ (Builtin.SmallTypes.ownedTupleHandOut (.ref z) (.ref g5.objs.size) >>= _) _ _ _;refine yt ?_;unfold Builtin.SmallTypes.ownedTupleHandOut;let z6:IsZip (g5.push {cls:=.type "tuple",data:=.seq #[x,y]}) z TI TO .ellipsis:=yu _ z5;refine yt (xH z6 (by simp) λg7 z7 q7=>?_);replace z7:IsZip g7 z TI TO (rawInt g5.objs.size):=z7;refine xH z7 (by simp) λg8 z8 q8=>?_;replace z8:IsZip g8 z TI TO (rawInt g5.objs.size):=z8;let up:∀c o,c≠z->g5.get? c=some o->g8.get? c=some o:=λc o c1 e=>q8.extBut _ _ c1 (q7.extBut _ _ c1 (yu _ e));let t8:IsPair g8 g5.objs.size x y:=q8.extBut _ _ (yh zl) (q7.extBut _ _ (yh zl) (yw _ rfl));rw[sz] at z8 t8;refine yv {_,rfl,?_};show Q (.ref g5.objs.size) _;rw[sz];exact hQ g8 {z8,up _ _ D.a1 (k5 _ _ D.a1 D.a5 D.a6 D.a7 hTI),{_,_,up _ _ D.a2 o5},r1.at λo e=>up _ o D.a3 e,r2.at λo e=>up _ o D.a4 e} t8 λc o c1 c2 c3 c4 e=>up c o c1 (k5 c o c1 c2 c3 c4 e)
def MK {t1 t2:Bool} {z TI TO i1 i2 l1 l2:vy} {k:Nat} {xs ys:Array vo} {Q:Fin->vq->Prop} (hh:A.handled=none) (D:Mx z TI TO i1 i2) (L1:BW l1 z TO i1 i2) (L2:BW l2 z TO i1 i2)
  (S:O7 t1 t2 s.heap z TI TO i1 i2 l1 l2 k .none) (hl1:e9 t1 s.heap l1 xs) (hl2:e9 t2 s.heap l2 ys) (hend:xs[k]?=none\/ys[k]?=none)
  (hE:∀h' e,rJ z TO i1 i2 s.heap h'->(∃o,h'.get? e=some o/\o.cls=.type "StopIteration")->E (.ref e) {s with heap:=h'}) :
  wpAny (model prog w) A (Builtin.«zip.__next__» {[.ref z],[]}) Q E s:=by
 let⟨hz,hTI,⟨a,b,hTO⟩,h1,h2⟩:=S;show wpAny _ _ (field (.ref z) 2 >>= _) _ _ _;refine yt (yZ hz rfl (x:=.bool false) rfl ?_);show wpAny _ _ (field (.ref z) 3 >>= _) _ _ _;refine yt (yZ hz rfl (x:=.ref TI) rfl (yt (xo hTI rfl ?_)));show wpAny _ _ (Builtin.SmallTypes.ownedTupleIsFree (.ref z) >>= _) _ _ _;refine yt ?_;unfold Builtin.SmallTypes.ownedTupleIsFree;refine yt (yZ hz rfl (x:=.none) rfl (yv ?_));simp only[vb];refine yt (wpAny_rule (yt (yZ hz rfl (x:=.ref TO) rfl (yt (xH hz (by simp) λg1 z1 q1=>?_)))));replace z1:IsZip g1 z TI TO .ellipsis:=z1;refine yt ?_;simp only[List.zipIdx_cons,List.zipIdx_nil,List.forIn_cons,List.forIn_nil];refine yt (yt (wpAny_onRaise ?_));show wpAny _ _ (Builtin.SmallTypes.nextOf (.ref i1) >>= _) _ _ _;cases hx:xs[k]? with
 | none=>
  refine yt (Eh hh (h1.but q1 D.a3) (hl1.but q1 L1.a1) hx λg2 e q2 he=>?_);let⟨oe,hoe,hce⟩:=he;let z2:IsZip g2 z TI TO .ellipsis:=q2 _ _ D.a3.symm z1;let hez:e≠z:=λx=>by subst x;rw[z2] at hoe;cases hoe;simp at hce
  exact xH z2 (by simp) λg3 _ q3=>hE g3 e (λc o c1 _ c3 _ x=>q3.extBut _ _ c1 (q2 _ _ c3 (q1.extBut _ _ c1 x))) {oe,q3.extBut _ _ hez hoe,hce}
 | some x=>
  let hy:ys[k]?=none:=by rcases hend with h | h;rw[hx] at h;cases h;exact h
  refine yt (pT (h1.but q1 D.a3) (hl1.but q1 L1.a1) hx λg2 p2 q2=>yv ?_);let o2:IsPair g2 TO a b:=q2.extBut _ _ D.a8 (q1.extBut _ _ D.a2 hTO);refine yt (xo o2 rfl (yt (wpAny_updateSeq_pair o2 λg3 o3 q3=>yt (wpAny_letGo (yv (yt (yt (wpAny_onRaise ?_))))))));show wpAny _ _ (Builtin.SmallTypes.nextOf (.ref i2) >>= _) _ _ _;refine yt (Eh hh (((h2.but q1 D.a4).but q2 D.b1.symm).but q3 D.a9.symm) (((hl2.but q1 L2.a1).but q2 L2.a3).but q3 L2.a2) hy λg4 e q4 he=>?_);let⟨oe,hoe,hce⟩:=he;let z4:IsZip g4 z TI TO .ellipsis:=q4 _ _ D.a4.symm (q3.extBut _ _ D.a2.symm (q2.extBut _ _ D.a3.symm z1));let hez:e≠z:=λx=>by subst x;rw[z4] at hoe;cases hoe;simp at hce
  exact xH z4 (by simp) λg5 _ q5=>hE g5 e (λc o c1 c2 c3 c4 x=>q5.extBut _ _ c1 (q4 _ _ c4 (q3.extBut _ _ c2 (q2.extBut _ _ c3 (q1.extBut _ _ c1 x))))) {oe,q5.extBut _ _ hez hoe,hce}
def F0 {t1 t2:Bool} {z TI TO i1 i2 l1 l2:vy} {k:Nat} {xs ys:Array vo} {x y:vo} {Q:Option vo->vq->Prop} (D:Mx z TI TO i1 i2) (L1:BW l1 z TO i1 i2) (L2:BW l2 z TO i1 i2)
  (S:O7 t1 t2 s.heap z TI TO i1 i2 l1 l2 k .none) (hl1:e9 t1 s.heap l1 xs) (hl2:e9 t2 s.heap l2 ys) (hx:xs[k]?=some x) (hy:ys[k]?=some y)
  (hQ:∀h',O7 t1 t2 h' z TI TO i1 i2 l1 l2 (k+1) (rawInt ↑s)->IsPair h' ↑s x y->rJ z TO i1 i2 s.heap h'->Q (some (.ref ↑s)) {s with heap:=h'}) :
  wpAny (model prog w) A (pyNext (.ref z)) Q E s:=by
 let hT:s.TypeIs (.ref z) "zip":={_,S.z,rfl}
 unfold pyNext;exact yt (wN (yX (name:=Str.ofString "__next__") hT xI (y7 xI hT F.entry_zip_next (ML D L1 L2 S hl1 hl2 hx hy λh' a1 a2 a3=>yv (hQ h' a1 a2 a3)) (vk _))))
def FY {t1 t2:Bool} {z TI TO i1 i2 l1 l2:vy} {k:Nat} {xs ys:Array vo} {Q:Option vo->vq->Prop} (hh:A.handled=none) (D:Mx z TI TO i1 i2) (L1:BW l1 z TO i1 i2) (L2:BW l2 z TO i1 i2)
  (S:O7 t1 t2 s.heap z TI TO i1 i2 l1 l2 k .none) (hl1:e9 t1 s.heap l1 xs) (hl2:e9 t2 s.heap l2 ys) (hend:xs[k]?=none\/ys[k]?=none)
  (hQ:∀h',rJ z TO i1 i2 s.heap h'->Q none {s with heap:=h'}):wpAny (model prog w) A (pyNext (.ref z)) Q E s:=by
 let hT:s.TypeIs (.ref z) "zip":={_,S.z,rfl}
 unfold pyNext;refine yt (wN (yX (name:=Str.ofString "__next__") hT xI (y7 xI hT F.entry_zip_next (MK hh D L1 L2 S hl1 hl2 hend λh' e hk he=>?_) (vk _))));let⟨o,ho,hc⟩:=he;exact yt (wpAny_isInstance (T:="StopIteration") (b:=true) {(o),ho,hc} isSubtype_stop (yv (hQ _ hk)))
end
abbrev Ua (t1:Bool) (h:vz) (l1:vy):vz:=h.push (qV t1 l1)
abbrev SG (t1 t2:Bool) (h:vz) (l1 l2:vy):vz:=(Ua t1 h l1).push (qV t2 l2)
abbrev T9 (t1 t2:Bool) (h:vz) (l1 l2:vy):vz:=(SG t1 t2 h l1 l2).push {cls:=.type "tuple",data:=.seq #[.ref h.objs.size,.ref (Ua t1 h l1).objs.size]}
abbrev T8 (t1 t2:Bool) (h:vz) (l1 l2:vy):vz:=(T9 t1 t2 h l1 l2).push {cls:=.type "tuple",data:=.seq #[.none,.none]}
abbrev Q0 (t1 t2:Bool) (h:vz) (l1 l2:vy):vz:=(T8 t1 t2 h l1 l2).push {cls:=.type "zip",data:=.fields #[.none,.bool false,.bool false,.ref (SG t1 t2 h l1 l2).objs.size,.ref (T9 t1 t2 h l1 l2).objs.size]}
def MN (t1 t2:Bool) (l1 l2:vy) (xs ys:Array vo) :
  Meets (Builtin.«zip.__new__» {[.type "zip",.ref l1,.ref l2],[]}) (λ_ R s=>e9 t1 s.heap l1 xs/\e9 t2 s.heap l2 ys/\R (.ok (.ret (.ref (T8 t1 t2 s.heap l1 l2).objs.size))) {s with heap:=Q0 t1 t2 s.heap l1 l2}):=
 .of_wp λprog w A R s h=>by
  let⟨hp,g,d,tk,os⟩:=s;let⟨a1,a2,h⟩:=h;let hsub:=sub_zip;let b1:e9 t1 (Shared.heap {(hp),g,d,tk,os}) l1 xs:=a1;let b2:e9 t2 (Shared.heap {hp.push (qV t1 l1),g,d,tk,os}) l2 ys:=a2.at λo e=>yu _ e;wp_walk using Kx b1,Kx b2;exact{_,rfl,h}
def F1 {prog:vt} {w:vv} {A:vw} {E:vo->vq->Prop} {s:vq} {t1 t2:Bool} {l1 l2:vy} {xs ys:Array vo} {Q:vo->vq->Prop} (hl1:e9 t1 s.heap l1 xs) (hl2:e9 t2 s.heap l2 ys)
  (h:∀h',O7 t1 t2 h' (↑s+4) (↑s+2) (↑s+3) ↑s (↑s+1) l1 l2 0 .none->(∀c o,s.heap.get? c=some o->h'.get? c=some o)->Q (.ref (↑s+4)) {s with heap:=h'}) :
  wpAny (model prog w) A (call (.type "zip") [.ref l1,.ref l2]) Q E s:=by
 refine callType_new F.called_zip ∅ (F.typeCall_zip_2 _ _) (F.newCall_zip_2 _ _) (λobj=>F.args_object_init_3 obj _ _) F.entry_zip_new (MN t1 t2 l1 l2 xs ys) {hl1,hl2,?_};let z1:(Ua t1 s.heap l1).objs.size=↑s+1:=xh ..;let z2:(SG t1 t2 s.heap l1 l2).objs.size=↑s+2:=by rw[xh,z1]
 let z3:(T9 t1 t2 s.heap l1 l2).objs.size=↑s+3:=by rw[xh,z2]
 let z4:(T8 t1 t2 s.heap l1 l2).objs.size=↑s+4:=by rw[xh,z3]
 let up:∀c o,(SG t1 t2 s.heap l1 l2).get? c=some o->(Q0 t1 t2 s.heap l1 l2).get? c=some o:=λc o e=>yu _ (yu _ (yu _ e));let g5:(Q0 t1 t2 s.heap l1 l2).get? (T8 t1 t2 s.heap l1 l2).objs.size=some _:=yw _ rfl;let g4:(Q0 t1 t2 s.heap l1 l2).get? (T9 t1 t2 s.heap l1 l2).objs.size=some _:=yu _ (yw _ rfl);let g3:(Q0 t1 t2 s.heap l1 l2).get? (SG t1 t2 s.heap l1 l2).objs.size=some _:=yu _ (yu _ (yw _ rfl));let g2:dk t2 (Q0 t1 t2 s.heap l1 l2) (Ua t1 s.heap l1).objs.size l2 0:=(dk.new t2 _ l2).at (up _);let g1:dk t1 (Q0 t1 t2 s.heap l1 l2) ↑s l1 0:=((dk.new t1 _ l1).at λo e=>yu _ e).at (up _);show _/\_;rw[z2,z3,z4] at g5;rw[z1,z2] at g3;rw[z3] at g4;rw[z1] at g2;rw[z4];exact{{_,g5,rfl},h _ {g5,g3,{_,_,g4},g1,g2} λc o x=>up c o (yu _ (yu _ x))}
end L2
namespace L2
open PySem PySem.Spec PyProof.Rows
def bx (h:H p=none):aB H (upd H p o):=λb u e=>by rw[aG (bw e h)];exact e
def laid {H:Hp} {o:HO} {Q:VK} (k:∀p H',aB H H'->H' p=some o->Q (.ref p) H'):∀p,H p=none->Q (.ref p) (upd H p o):=λp hp=>k p _ (bx hp) aF
def aB.tup {K:yA} {H H':Hp} {a:vy} {xs:List V} (e:aB H H') (h:cu K H a xs):cu K H' a xs:=by
 rcases h with(h | ⟨o,h⟩) | h
 ·exact .inl (.inl (e _ _ h))
 ·exact .inl (.inr {o,e _ _ h})
 ·exact .inr h
section
variable {X:Cx} {pins:List (vy×Obj)} {U:St} {H:Hp} {s:vq} {h':vz}
def Inv.vZ {T:vy} {o:HO} {ch:List vy} {t':Nat} (I:Inv X pins U H s) (hf:∀b∈ch,pN X pins H b) (hT:↑s<=T) (k:∀b u,b∉ch->s.heap.get? b=some u->h'.get? b=some u)
  (new:cx X.prog X.w (upd H T o) h' T o):Inv X pins U (upd H T o) {s with heap:=h',toks:=t'}:=by
 let hn:H T=none:=I.bW.fresh hT;let neT:∀b u,s.heap.get? b=some u->b≠T:=λb u e=>yi (yb (yx e) hT);let nch:∀b u,H b=some u->b∉ch:=λb u e hb=>by rw[(hf b hb).1] at e;cases e
 refine I.step (g':=s.gens) (d':=s.drawn) (ch:=ch) (λb hb=>?_) (λb u _ _ hc e _=>k b u hc e) (λb u _ _ hc e _=>{u.slots,k b u hc e}) (λb u hc e n=>by rw[aG (neT b u e)];exact n) (λb u hc e=>{u,k b u hc e})
  (λb xs e=>by rw[aG (bw e hn)];exact e) (λb ob u e=>by rw[aG (bw e hn)];exact e) (λb ps e=>{#[],by rw[aG (bw e hn),e];simp}) (λm hm=>?_) (λb u e=>?_) I.bare
 ·let⟨f0,f1,f2,f3,f4,f5⟩:=hf b hb
  exact{(f3),f1,f4,f5}
 ·let⟨ob,es,ep,ho,r⟩:=hm
  exact{ob,es,ep,k _ _ (λz=>(hf _ z).2.1 rfl) ho,r}
 ·by_cases hb:b=T
  ·subst hb;rw[aF] at e;cases e;exact new
  ·rw[aG hb] at e
   refine(I.bW b u e).kI (λc v hc q=>k c v ?_ q) (λc q=>by rw[aG (bw q hn)];exact q) λc xs q=>by rw[aG (bw q hn)];exact q
   rcases hc with z | z
   ·rw[z];exact nch b u e
   ·exact nch c _ z
def Inv.turns {ch:List vy} {t':Nat} (I:Inv X pins U H s) (hf:∀b∈ch,pN X pins H b) (k:∀b u,b∉ch->s.heap.get? b=some u->h'.get? b=some u):Inv X pins U H {s with heap:=h',toks:=t'}:=by
 let nch:∀b u,H b=some u->b∉ch:=λb u e hb=>by rw[(hf b hb).1] at e;cases e
 refine I.step (g':=s.gens) (d':=s.drawn) (ch:=ch) (λb hb=>?_) (λb u _ _ hc e _=>k b u hc e) (λb u _ _ hc e _=>{u.slots,k b u hc e}) (λb u hc e n=>n) (λb u hc e=>{u,k b u hc e})
  (λb xs e=>e) (λb ob u e=>e) (λb ps e=>{#[],by rw[e];simp}) (λm hm=>?_) (λb u e=>?_) I.bare
 ·let⟨f0,f1,f2,f3,f4,f5⟩:=hf b hb
  exact{(f3),f1,f4,f5}
 ·let⟨ob,es,ep,ho,r⟩:=hm
  exact{ob,es,ep,k _ _ (λz=>(hf _ z).2.1 rfl) ho,r}
 ·refine(I.bW b u e).kI (λc v hc q=>k c v ?_ q) (λc q=>q) λc xs q=>q
  rcases hc with z | z
  ·rw[z];exact nch b u e
  ·exact nch c _ z
def Fy:bootBuiltins "enumerate"= some (.type "enumerate"):=by decide +kernel
def ON:bootBuiltins "zip"= some (.type "zip"):=by decide +kernel
def Sw (K:yA) (a:vy):It:=
 {λi H=>∃xs x,aI K H a xs/\xs[i]?=some x,λi H x H'=>∃p v,H p=none/\x=.ref p/\H'=upd H p (.tup [.int (i:Int),v])/\∀xs,aI K H a xs->xs[i]?=some v,λi H=>∃xs,aI K H a xs/\⇑xs<=i}
def Lk {P:vt} {w:vv} {K:yA} {es:List Expr} {kt:Nat} {tp:Pos} (a it e:vy) (hne:e≠it) :
  Turn P w K (.Tuple es kt tp) (Sw K a) [e,it] e (λi h=>(∃old,IsEnum h e it (i:Int) old)/\h.IsListIter it a i) where
 mem:=by simp
 obj:=λi h st b hb=>by
  let⟨⟨old,he⟩,o,e1,c,d⟩:=st;rcases zC.mp hb with z | z
  ·subst z;exact{_,he,λv z=>by cases z}
  ·let z':b=it:=by simpa using z
   subst z';exact{o,e1,λv z=>by rw[d] at z;cases z}
 keep:=λi h h' st k=>{let ⟨old,he⟩:=st.1;{old,k e (by simp) _ he},st.2.at λo e=>k it (by simp) o e}
 item:=by
  intro X hP hw hK hc i pins s U H E I hf st hg;subst hP hw hK;let⟨xs,x,hq,hx⟩:=hg;let⟨its,rv,p,hz⟩:=I.list hq;let⟨u,hu,ru⟩:=rv.get hx;let⟨⟨old,he⟩,hit⟩:=st;refine wpAny_pyNext_enum_item he hit p.isList (x:=u) (by simpa using hu) hne λg1 ho hit1 hT hsz hk=>?_;refine{_,rfl,wpAny_letOwnedTupleGo_enum (s:={s with heap:=g1,toks:=s.toks+1}) ho λg2 he2 hs2=>?_};let hel:e<↑s:=yx he;let gT:g2.get? ↑s=some {cls:=.type "tuple",data:=.seq #[.int i s.toks,u]}:=hs2.extBut _ _ (yh hel) hT;let I1:Inv X pins U (upd H ↑s (.tup [.int (i:Int),x])) {s with heap:=g2,toks:=s.toks+1}:=
   I.vZ hf (zk _) (λb ob hb q=>hs2.extBut _ _ (λz=>hb (by simp[z])) (hk b ob (λz=>hb (by simp[z])) (λz=>hb (by simp[z])) q))
    {by show 2<=sizeLine;decide,[.int i s.toks,u],.cons {_,rfl} (.cons ru .nil),{_,gT,rfl,_,rfl}}
  refine{.ref ↑s,_,I1,rfl,{_,x,I.bW.fresh (zk _),rfl,rfl,λys hy=>by rw[I.A3 hy hq];exact hx},{{_,by simpa using he2},hit1.at λo q=>hs2.extBut _ _ hne.symm q},λb hb=>?_};let hb':=(hf b hb).1;obtain⟨o,ho',_⟩:∃o,s.heap.get? b=some o/\True:=by
   rcases zC.mp hb with z | z
   ·subst z;exact{_,he,trivial}
   ·let z':b=it:=by simpa using z
    subst z';let⟨o,e1,_⟩:=hit;exact{(o),e1,trivial}
  rw[aG (yi (yx ho'))];exact hb'
 done:=by
  intro X hP hw hK hc i pins s U H E I hf st hg;subst hP hw hK;let⟨xs,hq,hx⟩:=hg;let⟨its,rv,p,hz⟩:=I.list hq;let⟨⟨old,he⟩,hit⟩:=st;let hl:=⇑rv;exact wpAny_pyNext_enum_end (I.ok.hd hc) he hit p.isList (by simp;ext) λg1 eb=>{rfl,I.turns (t':=s.toks) hf λb o hb q=>eb b o (λz=>hb (by simp[z])) q}
 self:=λ_ _ _ _ _ st h=>let ⟨_,he⟩:=st.1;wpAny_pyIter_enum he h
def QS (K:yA) (ta:TA):TI:=λU H R=>ta U H λvs H1=>∃a xs,vs=[.ref a]/\aI K H1 a xs/\R (Sw K a) H1
def vK {a:Expr} {ta:TA} {es:List Expr} {kt:Nat} {tp p pos:Pos} (hg:Gl X "enumerate") (hm:X.mg "enumerate"= none) (ha:PA X [a] ta) (hs:starEach [a] X.env=[(false,eval a X.env)]<|>qe_) :
  PI X (.Tuple es kt tp) (.Call (.Name "enumerate" p) [a] [] pos) (QS X.K ta):=by
 intro pins s U H R I h;refine Call_ (je I hg hm Fy (yL (cR (ha pos pins s U H _ I h) λus s1 ⟨vs,H1,I1,r1,q1⟩=>?_) hs rfl));let⟨l,xs,e,hq,q⟩:=q1;subst e;cases r1 with
 | cons r rr=>
  cases rr;cases r;let⟨its,rv,pl,hz⟩:=I1.list hq;refine call_enumerate_list pl.isList λg he hit hsz hk=>?_;refine wpAny_pyIter_enum (s:={s1 with heap:=g}) he ?_;let I2:Inv X pins U H1 {s1 with heap:=g}:=I1.kept (t':=s1.toks) hk;refine{↑s1+1,[↑s1+1,↑s1],_,Sw X.K l,H1,rfl,I2,Lk l ↑s1 (↑s1+1) (yh (xN _)),{{_,by simpa using he},hit},λb hb=>?_,q};let hb':↑s1<=b:=by
   rcases zC.mp hb with z | z
   ·subst z;exact xY _
   ·let z':b=↑s1:=by simpa using z
    subst z';exact zk _
  exact I1.uS hb' (I1.bW.fresh hb')
def C7 (t:Bool) (K:yA) (H:Hp) (a:vy) (xs:List V):Prop:=match t with
 | true=>cu K H a xs
 | false=>aI K H a xs
def Inv.sq (I:Inv X pins U H s) (h:C7 t X.K H a xs):∃its:List vo,Vals xs its/\e9 t s.heap a its.toArray/\⇑xs<=sizeLine:=by
 cases t
 ·let⟨its,r,p,z⟩:=I.list h;exact{(its),r,p.isList,z}
 ·let⟨its,r,p,z⟩:=I.tuple h;exact{(its),r,p,z}
def Inv.Nb (I:Inv X pins U H s) (h:C7 t X.K H a xs) (h':C7 t X.K H a ys):xs=ys:=by
 cases t
 ·exact I.A3 h h'
 ·exact I.Dj h h'
def e9.lt (x:e9 t h a items):a<h.objs.size:=by
 cases t
 ·let⟨o,e,_⟩:=x;exact yx e
 ·let⟨o,e,_⟩:=x;exact yx e
def Uq (t1 t2:Bool) (K:yA) (a b:vy):It:=
  {λi H=>∃xs ys x y,C7 t1 K H a xs/\C7 t2 K H b ys/\xs[i]?=some x/\ys[i]?=some y,
   λi H x H'=>∃p u v,H p=none/\x=.ref p/\H'=upd H p (.tup [u,v])/\(∀xs,C7 t1 K H a xs->xs[i]?=some u)/\∀ys,C7 t2 K H b ys->ys[i]?=some v,
   λi H=>∃xs ys,C7 t1 K H a xs/\C7 t2 K H b ys/\(⇑xs<=i\/⇑ys<=i)}
def MU {P:vt} {w:vv} {K:yA} {es:List Expr} {kt:Nat} {tp:Pos} (t1 t2:Bool) (a b z TI TO i1 i2:vy) (D:Mx z TI TO i1 i2) (L1:BW a z TO i1 i2) (L2:BW b z TO i1 i2) :
  Turn P w K (.Tuple es kt tp) (Uq t1 t2 K a b) [z,TI,TO,i1,i2] z (λi h=>O7 t1 t2 h z TI TO i1 i2 a b i .none) where
 mem:=by simp
 obj:=λi h st c hc=>by
  let⟨hz,hi,⟨_,_,ho⟩,h1,h2⟩:=st;simp only[zC,zD,yT] at hc;rcases hc with e | e | e | e | e
  ·subst e;exact{_,hz,λv q=>by cases q}
  ·subst e;exact{_,hi,λv q=>by cases q}
  ·subst e;exact{_,ho,λv q=>by cases q}
  ·subst e;exact h1.get
  ·subst e;exact h2.get
 keep:=λi h h' st k=>{k z (by simp) _ st.z,k TI (by simp) _ st.ti,let ⟨x,y,e⟩:=st.to;{x,y,k TO (by simp) _ e},st.i1.at λo e=>k i1 (by simp) o e,st.i2.at λo e=>k i2 (by simp) o e}
 item:=by
  intro X hP hw hK hc i pins s U H E I hf st hg;subst hP hw hK;let⟨xs,ys,x,y,hq,hq',hx,hy⟩:=hg;let⟨its,rv,p,hz⟩:=I.sq hq;let⟨jts,rw',p',hz'⟩:=I.sq hq';let⟨u,hu,ru⟩:=rv.get hx;let⟨u',hu',ru'⟩:=rw'.get hy;refine F0 D L1 L2 st p p' (x:=u) (y:=u') (by simpa using hu) (by simpa using hu') λg1 S1 hT hk=>?_;refine{_,rfl,wpAny_letOwnedTupleGo_zip (s:={s with heap:=g1}) S1.z λg2 z2 hs2=>?_};let zl:z<↑s:=yx st.z;let gT:g2.get? ↑s=some {cls:=.type "tuple",data:=.seq #[u,u']}:=hs2.extBut _ _ (yh zl) hT;let I1:Inv X pins U (upd H ↑s (.tup [x,y])) {s with heap:=g2}:=
   I.vZ (t':=s.toks) hf (zk _) (λc ob hb q=>hs2.extBut _ _ (λe=>hb (by simp[e])) (hk c ob (λe=>hb (by simp[e])) (λe=>hb (by simp[e])) (λe=>hb (by simp[e])) (λe=>hb (by simp[e])) q))
    {by show 2<=sizeLine;decide,[u,u'],.cons ru (.cons ru' .nil),{_,gT,rfl,_,rfl}}
  refine{.ref ↑s,_,I1,rfl,{_,x,y,I.bW.fresh (zk _),rfl,rfl,λzs h=>by rw[I.Nb h hq];exact hx,λzs h=>by rw[I.Nb h hq'];exact hy},{z2,hs2.extBut _ _ D.a1 S1.ti,let ⟨x,y,e⟩:=S1.to;{x,y,hs2.extBut _ _ D.a2 e},S1.i1.but hs2 D.a3,S1.i2.but hs2 D.a4},λc hc=>?_};let hb':=(hf c hc).1;obtain⟨o,ho',_⟩:∃o,s.heap.get? c=some o/\True:=by
   obtain⟨hz,hi,⟨_,_,ho⟩,⟨q1,e1,_⟩,⟨q2,e2,_⟩⟩:_/\_/\_/\_/\_:={(st.z),st.ti,st.to,st.i1.get,st.i2.get}
   simp only[zC,zD,yT] at hc;rcases hc with e | e | e | e | e
   ·subst e;exact{_,hz,trivial}
   ·subst e;exact{_,hi,trivial}
   ·subst e;exact{_,ho,trivial}
   ·subst e;exact{_,e1,trivial}
   ·subst e;exact{_,e2,trivial}
  rw[aG (yi (yx ho'))];exact hb'
 done:=by
  intro X hP hw hK hc i pins s U H E I hf st hg;subst hP hw hK;let⟨xs,ys,hq,hq',hx⟩:=hg;let⟨its,rv,p,hz⟩:=I.sq hq;let⟨jts,rw',p',hz'⟩:=I.sq hq';let hl:=⇑rv;let hl':=⇑rw';refine FY (I.ok.hd hc) D L1 L2 st p p' ?_ λg1 eb=>{rfl,I.turns (t':=s.toks) hf λc o hb q=>eb c o (λe=>hb (by simp[e])) (λe=>hb (by simp[e])) (λe=>hb (by simp[e])) (λe=>hb (by simp[e])) q}
  rcases hx with h | h
  ·exact .inl (by simp;ext)
  ·exact .inr (by simp;ext)
 self:=λ_ _ _ _ _ st h=>wpAny_pyIter_zip st.z h
def Vd (K:yA) (ta:TA):TI:=λU H R=>ta U H λvs H1=>∃t1 t2 a b xs ys,vs=[.ref a,.ref b]/\C7 t1 K H1 a xs/\C7 t2 K H1 b ys/\R (Uq t1 t2 K a b) H1
def NO {a b:Expr} {ta:TA} {es:List Expr} {kt:Nat} {tp p pos:Pos} (hg:Gl X "zip") (hm:X.mg "zip"= none) (ha:PA X [a,b] ta)
  (hs:starEach [a,b] X.env=[(false,eval a X.env),(false,eval b X.env)]<|>qe_) (hs2:starEach [b] X.env=[(false,eval b X.env)]<|>qe_) :
  PI X (.Tuple es kt tp) (.Call (.Name "zip" p) [a,b] [] pos) (Vd X.K ta):=by
 intro pins s U H R I h;refine Call_ (je I hg hm ON (yL (cR (ha pos pins s U H _ I h) λus s1 ⟨vs,H1,I1,r1,q1⟩=>?_) (by rw[hs,hs2]) (by rw[hs2];rfl)));let⟨t1,t2,a,b,xs,ys,e,hq,hq',q⟩:=q1;subst e;cases r1 with
 | cons r rr=>
  cases rr with
  | cons r' rr=>
   cases rr;cases r;cases r';let⟨its,rv,pl,hz⟩:=I1.sq hq;let⟨jts,rv',pl',hz'⟩:=I1.sq hq';let la:=pl.lt;let lb:=pl'.lt;refine F1 pl pl' λg S hk=>?_;refine wpAny_pyIter_zip (s:={s1 with heap:=g}) S.z ?_;let I2:Inv X pins U H1 {s1 with heap:=g}:=I1.kept (t':=s1.toks) hk;let D:Mx (↑s1+4) (↑s1+2) (↑s1+3) ↑s1 (↑s1+1):=by
    constructor <;> (show _≠(_:Nat)) <;> ext
   let L:∀c,c<↑s1->BW c (↑s1+4) (↑s1+3) ↑s1 (↑s1+1):=λc hc=>by
    constructor <;> (show _≠(_:Nat)) <;> ext
   refine{↑s1+4,[_,_,_,_,_],_,Uq t1 t2 X.K a b,H1,rfl,I2,MU t1 t2 a b _ _ _ _ _ D (L a la) (L b lb),S,λc hc=>?_,q};let hb':↑s1<=c:=by
    simp only[zC,zD,yT] at hc;rcases hc with e | e | e | e | e <;> (subst e;first | exact Nat.le_add_right _ _ | exact zk _)
   exact I1.uS hb' (I1.bW.fresh hb')
def EH (bs:List Bool):((List.range ⇑bs).all λi=>(bs[i]?).getD true)=bs.all id:=by
 rw[xJ,yo,yo];constructor
 ·intro h b hb
  let⟨i,hi,e⟩:=List.mem_iff_getElem.mp hb;have:=h i (yQ.mpr hi);rw[zb hi,e] at this;exact this
 ·intro h i hi
  let hi':=yQ.mp hi;rw[zb hi'];exact h _ (yk hi')
def kA (hc:X.calm=true):fF X (.builtin "all") (λxs H Q=>∃(a:vy) (bs:List Bool),xs=[.ref a]/\aI X.K H a (bs.map V.bl)/\Q (.bl (bs.all id)) H):=by
 intro pins s U H xs us Q I r h;let⟨a,bs,e,hq,q⟩:=h;subst e;cases r with
 | cons r rr=>
  cases rr;cases r;let⟨its,rv,p,hz⟩:=I.list hq;let hlt:a<↑s:=by let⟨o,n,e,_⟩:=p;exact yx e
  let hlen:⇑bs=⇑its:=by have:=⇑rv;rw[za] at this;exact this
  refine call_all_walk (wH p.isList ?_);refine{↑s,[↑s,a],[↑s],its.toArray.size,_,_,λi=>(bs[i]?).getD true,rfl,Walks.list (A:=X.A.in1) (I.ok.hd hc) _ a (yi hlt) its.toArray,
   {{_,yw _ rfl,rfl,rfl},p.isList.push _},λi v s' Q' E' hP hQ=>?_,λh' tk hk=>?_}
  ·let hP':its[i]?=some v:=by simpa using hP
   let hi:i<⇑bs:=by rw[hlen];exact(zw.mp hP').1
   let hm:(bs.map V.bl)[i]?=some (.bl bs[i]):=by rw[zJ,zb hi];rfl
   let⟨u,hu,ru⟩:=rv.get hm;rw[hP'] at hu;cases hu;cases ru;dsimp only at hQ;rw[zb hi] at hQ;exact xc hQ
  ·let e:((List.range its.toArray.size).all λi=>(bs[i]?).getD true)=bs.all id:=by rw[ya,<-hlen];exact EH bs
   rw[e];exact{.bl _,H,I.kept λb o x=>hk b o (λhm=>by rw[zy.mp hm] at x;exact ye _ (yx x)) (yu _ x),rfl,q}
end
section
variable {X:Cx} {pos:Pos}
end
inductive Ty where
 | bA | bl | int | str | tup | lst | TN
def Ty.name:Ty->String
 | .bA=> "NoneType" | .bl=> "bool" | .int=> "int" | .str=> "str" | .tup=> "tuple" | .lst=> "list" | .TN=> "dict"
def tag (H:Hp):V->Option Ty
 | .bA=>some .bA
 | .bl _=>some .bl
 | .int _=>some .int
 | .str _=>some .str
 | .ref a=>match H a with
  | some (.tup _)=>some .tup
  | some (.lst _)=>some .lst
  | some (.mF _ (.lst _))=>some .lst
  | some (.dK _)=>some .TN
  | some (.dT _)=>some .TN
  | _=>none
 | _=>none
def Pf {H:Hp} {a:vy} {xs:List V} (h:H a=some (.lst xs)):tag H (.ref a)=some .lst:=by simp only[tag,h]
def Rb {K:yA} {H:Hp} {x:V} {n:Ty} (h:tag H x=some n):tH K H x (.type n.name):=by
 cases x with
 | bA=>cases h;exact .bA
 | bl b=>cases h;exact .bl b
 | int i=>cases h;exact .int i
 | str y=>cases h;exact .str y
 | K2 _=>cases h
 | Qe _=>cases h
 | ty _=>cases h
 | ref a=>
  simp only[tag] at h;split at h
  ·cases h;exact .tup ‹_›
  ·cases h;exact .lst ‹_›
  ·cases h;exact .mF ‹_›
  ·cases h;exact .dK ‹_›
  ·cases h;exact .dT ‹_›
  ·cases h
def Ty.sub:Ty->Ty->Bool
 | .bl,.bl=>true | .int,.int=>true | .str,.str=>true | .tup,.tup=>true | .lst,.lst=>true | .TN,.TN=>true | .bA,.bA=>true
 | .bl,.int=>true
 | _,_=>false
def P9 (K:yA) (a b:Ty):PySem.W.kitOne K (.type a.name) (.type b.name)=some (a.sub b):=by
 cases a <;> cases b <;> first | rfl | decide +kernel | kernel_rfl
def UT (c:Ty) (ta:TE):TE:=λU H Q=>ta U H λx H1=>∃n,tag H1 x=some n/\Q (.bl (n.sub c)) H1
section
variable {X:Cx}
def Jq (c:Ty) (hx:bootBuiltins x=some (.type c.name)) (ha:PE X a ta) (hm:X.mg "isinstance"= none) (hm2:X.mg x=none)
  (hg:Gl X "isinstance"<|>qe_) (hg2:Gl X x<|>qe_) (hn:x≠ "__name__"<|>qb_) (hd:(x == ("__debug__": Str))=false<|>qb_)
  (hs:starEach [a,.Name x p2] X.env=(false,eval a X.env)::starEach [.Name x p2] X.env<|>qe_) (hs2:starEach [.Name x p2] X.env=[(false,eval (.Name x p2) X.env)]<|>qe_) :
  PE X (.Call (.Name "isinstance" p1) [a,.Name x p2] [] pos) (UT c ta):=by
 let hc:fF X (.builtin "isinstance") (λxs H Q=>∃v n,xs=[v,.ty c.name]/\tag H v=some n/\Q (.bl (n.sub c)) H):=by
  intro pins s U H xs us Q I r h;let⟨v,n,e,ht,q⟩:=h;subst e;cases r with
  | cons r rr=>
   cases rr with
   | cons r' rr=>
    cases rr;cases r';exact LY I r (Rb ht) (P9 _ _ _) λtk=>{.bl _,H,I.tok tk,rfl,q}
 let hb:PE X (.Name x p2) (tC (.ty c.name)):=PU (u:=.type c.name) hg2 hm2 hx rfl hn hd;let ht:=GV (p:=p1) (pos:=pos) hc hg hm (by decide +kernel) (ak ha (ak hb ag hs2) hs) (he:=hs) (hpl:=by rw[hs2];rfl);intro pins s U H Q I h;let mono:ta U H (λx H1=>∃n,tag H1 x=some n/\Q (.bl (n.sub c)) H1)->Lp (λxs H Q=>∃v n,xs=[v,.ty c.name]/\tag H v=some n/\Q (.bl (n.sub c)) H) (bM ta (bM (tC (.ty c.name)) dR)) U H Q:=λz=>by
  show ta U H λx H1=>∃v n,[x,V.ty c.name]=[v,.ty c.name]/\tag H1 v=some n/\Q (.bl (n.sub c)) H1;let e:(λx H1=>∃n,tag H1 x=some n/\Q (.bl (n.sub c)) H1)=(λ(x:V) (H1:Hp)=>∃v n,[x,V.ty c.name]=[v,V.ty c.name]/\tag H1 v=some n/\Q (.bl (n.sub c)) H1):=by
   funext x H1
   apply propext;constructor
   ·rintro⟨n,h1,h2⟩;exact{(x),n,rfl,h1,h2}
   ·rintro⟨v,n,e,h1,h2⟩;cases e;exact{(n),h1,h2}
  rw[<-e];exact z
 exact ht pins s U H Q I (mono h)
end
inductive Dt where
 | bA | bl (b:Bool) | int (i:Int) | str (x:Str) | tup (l:List Dt)
mutual
def Is (H:Hp):Dt->V->Prop
 | .bA,v=>v=.bA
 | .bl b,v=>v=.bl b
 | .int i,v=>v=.int i
 | .str x,v=>v=.str x
 | .tup l,v=>∃a vs,v=.ref a/\H a=some (.tup vs)/\aD H l vs
def aD (H:Hp):List Dt->List V->Prop
 | [],vs=>vs=[]
 | d::l,vs=>∃v r,vs=v::r/\Is H d v/\aD H l r
end
mutual
theorem Is.mono (s:aB H H'):∀{d:Dt} {v:V},Is H d v->Is H' d v
 | .bA,_,h=>by unfold Is at h ⊢;exact h
 | .bl _,_,h=>by unfold Is at h ⊢;exact h
 | .int _,_,h=>by unfold Is at h ⊢;exact h
 | .str _,_,h=>by unfold Is at h ⊢;exact h
 | .tup l,_,h=>by
  unfold Is at h ⊢;let⟨a,vs,e,ha,hl⟩:=h;exact{a,vs,e,s _ _ ha,aD.mono s hl}
theorem aD.mono (s:aB H H'):∀{l:List Dt} {vs:List V},aD H l vs->aD H' l vs
 | [],_,h=>by unfold aD at h ⊢;exact h
 | d::l,_,h=>by
  unfold aD at h ⊢;let⟨v,r,e,hv,hr⟩:=h;exact{v,r,e,Is.mono s hv,aD.mono s hr}
end
theorem aD.len:∀{l:List Dt} {vs:List V},aD H l vs->⇑vs=⇑l
 | [],_,h=>by unfold aD at h;rw[h];rfl
 | d::l,_,h=>by
  unfold aD at h;let⟨v,r,e,_,hr⟩:=h;rw[e,zt,zt,aD.len hr]
theorem aD.get:∀{l:List Dt} {vs:List V} {i:Nat} {v:V},aD H l vs->vs[i]?=some v->∃d,l[i]?=some d/\Is H d v
 | [],_,i,v,h,e=>by unfold aD at h;rw[h] at e;simp at e
 | d::l,_,i,v,h,e=>by
  unfold aD at h;let⟨u,r,e1,hv,hr⟩:=h;subst e1;cases i with
  | zero=>simp at e;subst e;exact{(d),rfl,hv}
  | succ i=>
   let⟨d',h1,h2⟩:=aD.get (i:=i) hr (by simpa using e);exact{d',by simpa using h1,h2}
def aB.i7 (e:upd H p o=H') (h:H p=none):aB H H':=e▸bx h
def jq (e:upd H p o=H'):H' p=some o:=e▸aF
def b7 {c:Bool} {A B:Prop} (h:c=true) (q:A):if c=true then A else B:=by rw[yN h];exact q
def cq {c:Bool} {A B:Prop} (h:c=false) (q:B):if c=true then A else B:=by rw[yM (by rw[h];decide)];exact q
def cT:⇑[a,b]<=sizeLine:=by show 2<=sizeLine;decide
def mR:⇑[a,b,c]<=sizeLine:=by show 3<=sizeLine;decide
def iE (h:H p=some (.tup [.int a,.int b])):Is H (.tup [.int a,.int b]) (.ref p):=by
 unfold Is;exact{p,_,rfl,h,by simp only[aD,Is];exact{_,_,rfl,rfl,_,_,rfl,rfl,rfl}}
def q9 {K:yA} {a:vy} {xs:List V} {g:TG} {tb:TS} {D:Ends} {U:St} {H:Hp} (Pv:Nat->St->Hp->Prop) (h0:Pv 0 U H) (hl:∀i U H,i<=⇑xs->Pv i U H->aI K H a xs)
  (hs:∀i x U H p H',xs[i]?=some x->Pv i U H->aB H H'->H' p=some (.tup [.int (i:Int),x])->g (.ref p) U H' λσ2 H2=>tb {D with nx:=Pv (i+1),ct:=Pv (i+1),bk:=D.nx} σ2 H2) (hd:∀U H,Pv ⇑xs U H->D.nx U H) :
  ∃W:Nat->Nat->St->Hp->Prop,(∃m,W 0 m U H)/\∀i m U H,W i m U H->
   ((Sw K a).stop i H/\D.nx U H)\/((Sw K a).go i H/\∃N:St->Hp->Prop,(∀U' H',N U' H'->∃m',m'<m/\W (i+1) m' U' H')/\∀x H',(Sw K a).II i H x H'->g x U H' λσ2 H2=>tb {D with nx:=N,ct:=N,bk:=D.nx} σ2 H2):=by
 refine{λi m U H=>m=⇑xs-i/\i<=⇑xs/\Pv i U H,{⇑xs,by simp,yf _,h0},?_};rintro i m U H ⟨rfl,hi,p⟩;let q:=hl i U H hi p
 by_cases hlt:i<⇑xs
 ·refine .inr {{xs,xs[i],q,by simp[hlt]},Pv (i+1),λU' H' p'=>{⇑xs-(i+1),(),rfl,hlt,p'},λx H' y=>?_}
  let⟨pp,v,hp,e1,e2,y⟩:=y;subst e1 e2;exact hs i v U H pp _ (y xs q) p (bx hp) aF
 ·let e:i=⇑xs:=()
  subst e;exact .inl {{xs,q,zk _},hd U H p}
section
variable {X:Cx} {pos:Pos}
def Inv.Tr (I2:Inv X pins σ2 H2 s2) (hC:↑s2<=C) (I:Inv X pins U H s) (hn:H C=none) (hs:Heap.SameBut C s.heap h'):Inv X pins U H {s with heap:=h'}:=by
 let⟨f0,f1,f2,f3,f4,f5⟩:=I2.uS hC hn;exact I.turned (t':=s.toks) (λb o hb e=>hs.extBut b o hb e) f0 f1 f3 f4 f5
end
section
variable {X:Cx} {pins:List (vy×Obj)} {U:St} {H:Hp} {s:vq}
def Sz (n:Nat) (i:Int):Prop:=i.natAbs<2^n
def Sz.mono (h:Sz n i) (k:n<=m):Sz m i:=yb h (Nat.pow_le_pow_right ∅ k)
def Sz.mul (h:Sz n i) (k:Sz m j):Sz (n+m) (i*j):=by
 unfold Sz at *;rw[Int.natAbs_mul,Nat.pow_add];exact Nat.mul_lt_mul'' h k
def Sz.add (h:Sz n i) (k:Sz n j):Sz (n+1) (i+j):=by
 unfold Sz at *;have:=Int.natAbs_add_le i j;rw[Nat.pow_succ];ext
def Sz.le (h:Sz n j) (h0:0<=i) (hl:i<=j):Sz n i:=by
 unfold Sz at *;have:i.natAbs<=j.natAbs:=()
 ext
def Sz.bits (h:Sz n i):Builtin.Int.intBits i<=n:=by
 unfold Builtin.Int.intBits;split
 ·exact yf _
 ·rename_i hz
  have:i.natAbs≠0:=by
   intro e;have:i=0:=Int.natAbs_eq_zero.mp e;subst this;exact hz rfl
  have:=(Nat.log2_lt this).mpr h;ext
def T5 (i j:Int):Prop:=Sz 20000 i/\Sz 20000 j
def T6 (_ j:Int):Prop:=0<j/\Sz 8999 j
def qJ:mG X (binaryOp .Mult) (rI T5 λi j=>.int (i*j)):=SD λ_ _ _ _ _ _ _ hc q=>mul_int q (.of_bits (zL hc.1.bits ∅) (zL hc.2.bits ∅))
def qK:mG X (binaryOp .FloorDiv) (rI T6 λi j=>.int (i/j)):=SD λi j _ _ _ _ _ hc q=>by
 let h1:(0:Int)<j:=hc.1;refine floordiv_int () (by rw[vi i ()];exact q) (.inl (PyProof.noPylong_of_log2 ?_));let h2:j.natAbs<2^8999:=hc.2;let h3:j.natAbs≠0:=()
 exact xD ((Nat.log2_lt h3).mpr h2) ∅
def OQ {ns:List Int} {j:Int} (h0:0<=j) (h1:j<⇑ns):DV (ns.map V.int) j=some (.int (ns.getD j.toNat 0)):=by
 let⟨k,rfl⟩:=yK h0;refine bj ?_;let hk:k<⇑ns:=()
 rw[zJ,zb hk];simp[List.getD,hk]
end
section
variable {X:Cx} {pos:Pos}
def QL (K:yA):R2:=λx y H Q=>∃l b xs zs,x=.ref l/\y=.ref b/\aI K H l xs/\aI K H b zs/\⇑xs+⇑zs<=sizeLine/\∀p,H p=none->Q (.ref p) (upd H p (.lst (xs++zs)))
def fN:mG X (binaryOp .Add) (QL X.K):=by
 intro pins s U H x y v u Q I rx ry h;let⟨l,b,xs,zs,rfl,rfl,hH,hB,hz,q⟩:=h;cases rx;cases ry;let⟨its,r,p,z⟩:=I.list hH;let⟨jts,r',p',z'⟩:=I.list hB;let l1:=⇑r;let l2:=⇑r';let⟨⟨cls,dd,data,sl⟩,ho,hc,n,hd⟩:=id p.isList;let⟨⟨cls2,dd2,data2,sl2⟩,ho2,hc2,n2,hd2⟩:=id p'.isList;simp only at hc hd hc2 hd2;subst hc hd hc2 hd2;refine concat_meets {_,ho,rfl} {_,ho2,rfl} noFill_list_add seq_list_add PySem.F.slot_list_add PySem.F.entry_list_add (PySem.F.args_list_add_2 _ _) (list_addW l b its.toArray jts.toArray n n2 dd dd2 sl sl2 (by rw[ya,ya];ext)) {ho,ho2,?_};let ea:its.toArray++jts.toArray=(its++jts).toArray:=by simp
 rw[ea];exact{.ref _,_,I.Tq (t':=s.toks) (r.append r') (by rw[zg];ext),rfl,q _ I.fresh}
end
def BY (n:Nat) (x:Int×Int):Prop:=Sz n x.1/\Sz n x.2
theorem BY.red (ht:0<=t) (hb:0<b) (h1:Sz n t) (h2:Sz n b):BY n (Lm.red t b):=by
 let⟨g,g0,_,_,p,l⟩:=Lm.kQ (t:=t) hb;exact{h1.le (Lm.AH ht) (Lm.AI ht),h2.le (y6 p) l}
theorem BY.add (hx:Lm.Rd x) (hy:Lm.Rd y) (h:BY n x) (k:BY m y):BY (n+m+1) (Lm.add x y):=by
 let⟨a,b,_⟩:=hx.pos;let⟨c,d,_⟩:=hy.pos;refine BY.red (Int.add_nonneg (x6 a ()) (x6 c ())) (xw b d) ?_ ((h.2.mul k.2).mono ());refine Sz.add (h.1.mul k.2) ?_;have:=k.1.mul h.2;rw[Nat.add_comm] at this;exact this
def dec (n:Int):Str:=Str.ofString (toString n)
def kG {x y:Str} (h:x.cps.toList=y.cps.toList):x=y:=by
 cases x;cases y;simp only[Str.mk.injEq];exact Array.toList_inj.mp h
def cD (x y:Str):(x++y).cps.toList=x.cps.toList++y.cps.toList:=Array.toList_append ..
def len_app (x y:Str):⇑(x++y)=⇑x+⇑y:=Array.size_append ..
def Mp (x y z:Str):x++y++z=x++(y++z):=kG (by rw[cD,cD,cD,cD,zE])
def vQ (m:Nat):(dec (m:Int)).cps.toList=(Nat.toDigits 10 m).map Char.toNat:=PySem.W.KIN.signs_num m
def Fb (m:Nat):⇑(dec (m:Int))=⇑(Nat.toDigits 10 m):=by
 let h:=yY List.length (vQ m);rw[za,yP] at h;exact h
def Ql (h:c∈(Nat.toDigits 10 m).map Char.toNat):48<=c/\c<=57:=by
 let⟨ch,hc,e⟩:=zG.mp h;let r:=Nat.isDigit_of_mem_toDigits ∅ ∅ hc;rw[<-e];simp only[Char.isDigit,zN,xB] at r;exact{(r.1),r.2}
section
variable {X:Cx}
end
section
variable {X:Cx}
def RA:V->Option Int->Option Int->Hp->VK->Prop:=λx lo hi H Q=>∃t:Str,x=.str t/\⇑t<=sizeLine/\Q (.str (PySem.Txt.slice t lo hi)) H
def I9:OW X RA:=by
 intro pins s U H x v vl vu lo hi sl Q I rx hs pl pu h;let⟨t,rfl,hz,q⟩:=h;let⟨tk,rfl⟩:=rx;let⟨o,ho,hc,hd⟩:=hs;let fin:∀(l u:Option (Int×Tok)),l.map (·.1)=lo->u.map (·.1)=hi->partValue l=vl->partValue u=vu->
   ∃T id,typeLookup (.type T) "__getitem__"= pure (some (.builtin id))/\s.TypeIs (.str t tk) T/\wpAny (model X.prog X.w) X.A (getItem (.str t tk) (.ref sl)) (EP X pins U Q) X.xe s:=by
  intro l u e1 e2 e3 e4;subst e1 e2 e3 e4;exact{"str",_,F.slot_str_getitem.lookup,wL _ _ _,wpAny_getItem_str_slice (l:=l) (u:=u) (st:=none) {(o),ho,hc,hd} rfl
   (post_val_or_str {zL (PySem.Txt.slice_le t _ _) hz,λt' k=>{.str _,H,I.tok _,{_,rfl},q}})}
 cases pl with
 | none=>
  cases pu with
  | none=>exact fin none none rfl rfl rfl rfl
  | int j tj=>exact fin none (some (j,tj)) rfl rfl rfl rfl
 | int i ti=>
  cases pu with
  | none=>exact fin (some (i,ti)) none rfl rfl rfl rfl
  | int j tj=>exact fin (some (i,ti)) (some (j,tj)) rfl rfl rfl rfl
def TZ (x:Str):It:={λi _=>i<⇑x,λi H v H'=>H'=H/\∃c,x.cps[i]?=some c/\v=.str {#[c]},λi _=>⇑x<=i}
def MV {P:vt} {w:vv} {K:yA} {tg:Expr} (x:Str) (t:Tok) (it:vy) (ty:String) (hty:ty ="str_ascii_iterator"\/ty ="str_iterator"):Turn P w K tg (TZ x) [it] it (λi h=>i<=⇑x/\h.IsStrIter it ty x t i) where
 mem:=by simp
 obj:=λi h st b hb=>by
  let e:b=it:=by simpa using hb
  subst e;let⟨_,o,e,c,d⟩:=st;exact{o,e,λv z=>by rw[d] at z;cases z}
 keep:=λi h h' st k=>{st.1,let ⟨o,ho,r⟩:=st.2;{o,k it (by simp) o ho,r}}
 item:=by
  intro X hP hw hK hc i pins s U H E I hf st hg;subst hP hw hK;let W:Walks X.prog X.w X.A it [it] [it] x.cps.size (SignAt x) (λi h=>h.IsStrIter it ty x t i):=by
   rcases hty with rfl | rfl
   ·exact Walks.strAscii (I.ok.hd hc) it x t
   ·exact Walks.strWide (I.ok.hd hc) it x t
  refine W.item i s _ _ hg st.2 λv h' tk hv z' kk=>?_;let⟨c,u,hcx,rfl⟩:=hv;let I1:Inv X pins U H {s with heap:=h',toks:=tk}:=I.turns hf λb o hb e=>kk b o (by simpa using hb) e;let⟨o,e,cc,d⟩:=id z';let hgl:i<⇑x:=hg;refine{_,rfl,DJ (s:={s with heap:=h',toks:=tk}) (n:=ty) e cc d ?_ {.str {#[c]},H,I1,{(u),rfl},{(rfl),c,hcx,rfl},{(hgl),z'},λb hb=>(hf b hb).1}};rcases hty with rfl | rfl <;> decide
 done:=by
  intro X hP hw hK hc i pins s U H E I hf st hg;subst hP hw hK;let hi:i=x.cps.size:=Nat.le_antisymm st.1 hg;subst hi;let W:Walks X.prog X.w X.A it [it] [it] x.cps.size (SignAt x) (λi h=>h.IsStrIter it ty x t i):=by
   rcases hty with rfl | rfl
   ·exact Walks.strAscii (I.ok.hd hc) it x t
   ·exact Walks.strWide (I.ok.hd hc) it x t
  exact W.done s _ _ st.2 λh' tk eb=>{rfl,I.turns hf λb o hb e=>eb b o (by simpa using hb) e}
 self:=λA i s Q E z h=>by
  rcases hty with rfl | rfl
  ·exact wpAny_pyIter_striter_ascii z.2 h
  ·exact wpAny_pyIter_striter_wide z.2 h
def Vf (tl:TE):TI:=λU H R=>tl U H λx H1=>∃t,x=.str t/\R (TZ t) H1
def NP {tg l:Expr} {tl:TE} (hl:PE X l tl):PI X tg l (Vf tl):=by
 intro pins s U H R I h;refine cR (hl pins s U H _ I h) λv s1 zz=>?_;let⟨x,H1,I1,r1,q1⟩:=zz;let⟨t,e,q⟩:=q1;subst e;let⟨tk,rfl⟩:=r1;refine wpAny_pyIter_strU ?_;refine{↑s1,[↑s1],_,_,H1,rfl,I1.kept (t':=s1.toks) λb o e=>yu _ e,MV t tk _ (strIterType t) ?_,{yf _,_,yw _ rfl,rfl,rfl},λb hb=>?_,q}
 ·unfold strIterType
  split
  ·exact .inl rfl
  ·exact .inr rfl
 ·let e:b=↑s1:=by simpa using hb
  subst e;exact I1.uS (zk _) (I1.bW.fresh (zk _))
theorem Dc:∀(l:List (Str×Tok)),Vals ((l.map (·.1)).map V.str) (strValues l)
 | []=>.nil
 | (x,t)::r=>.cons {(t),rfl} (Dc r)
def Rz:V->List V->Hp->VK->Prop:=λx vs H Q=>∃(t y:Str),x=.str t/\vs=[.str y]/\⇑y=1/\⇑t+2<=sizeLine/\∀l,H l=none->Q (.ref l) (upd H l (.lst ((PySem.Txt.split t y).map V.str)))
def i9:QY X "str.split" Rz:=by
 intro pins s U H x vs v us Q I rx rv h;let⟨t,y,rfl,rfl,hy,hz,q⟩:=h;let⟨tk,rfl⟩:=rx;let⟨u,rfl,tk',rfl⟩:=rv.one;let hy':(⇑y == 0)=false:=by rw[hy];rfl
 let hle:=split_le t y;let fin:∀(l:List (Str×Tok)) (k:Nat),l.map (·.1)=PySem.Txt.split t y->
   EP X pins U Q (.ref ↑s) {s with heap:=s.heap.push {cls:=.type "list",data:=.seq (strValues l).toArray},toks:=k}:=λl k e=>
  {.ref _,_,I.Tq (t':=k) (by rw[<-e];exact Dc l) (by rw[za];ext),rfl,q _ I.fresh}
 cases h1:(decide (⇑t<⇑y)||decide (Builtin.Str.strKind t<Builtin.Str.strKind y))
 ·cases hf:(Builtin.Str.occurrences t y 0 ⇑t (⇑t+1)).isEmpty
  ·let es:PySem.Txt.split t y=Builtin.Str.partsBetween t (Builtin.Str.occurrences t y 0 ⇑t (⇑t+1)) ⇑y:=by
    unfold PySem.Txt.split;rw[h1,hf];rfl
   refine wx F.slot_str_split (wL s t tk) F.entry_str_split (F.args_str_split_2 _ _) (meets_str_split_sep t y tk tk' h1 hy' hf () (by rw[<-es];ext)) ?_;rw[strsFrom_eq];exact fin (numbered s.toks _) _ ((numbered_texts _ _).trans es.symm)
  ·let es:PySem.Txt.split t y=[t]:=by
    unfold PySem.Txt.split;rw[h1,hf];rfl
   refine wx F.slot_str_split (wL s t tk) F.entry_str_split (F.args_str_split_2 _ _) (meets_str_split_not_found t y tk tk' h1 hy' hf) ?_;exact fin [(t,tk)] _ es.symm
 ·let es:PySem.Txt.split t y=[t]:=by
   unfold PySem.Txt.split;rw[h1];rfl
  refine wx F.slot_str_split (wL s t tk) F.entry_str_split (F.args_str_split_2 _ _) (meets_str_split_cannot_occur t y tk tk' h1) ?_;exact fin [(t,tk)] _ es.symm
def PD:V->List V->Hp->VK->Prop:=λx vs H Q=>∃(t y:Str),x=.str t/\vs=[.str y]/\Q (.bl (decide (0+⇑y<=⇑t)&&Builtin.Str.subAt t y 0)) H
def CD:QY X "str.startswith" PD:=by
 intro pins s U H x vs v us Q I rx rv h;let⟨t,y,rfl,rfl,q⟩:=h;let⟨tk,rfl⟩:=rx;let⟨u,rfl,tk',rfl⟩:=rv.one;exact wx F.slot_str_startswith (wL s t tk) F.entry_str_startswith (F.args_str_startswith_2 _ _) (gives_str_startswith t y tk tk').meets {.bl _,H,I,rfl,q}
def Ft:fF X (.type "int") (λxs H Q=>∃(t:Str) (n:Int),xs=[.str t]/\PySem.intText? t=some n/\⇑t<=640/\Q (.int n) H):=by
 intro pins s U H xs us Q I r h;let⟨t,n,rfl,hn,hl,q⟩:=h;let⟨u,rfl,tk,rfl⟩:=vals1 r;exact PySem.W.KIN.call_text hn hl {.int n,H,I.tok _,{_,rfl},q}
end
def join_one (sep x:Str):Str.join sep [x]=x:=rfl
def eR (sep x y:Str) (r:List Str):Str.join sep (x::y::r)=x++sep++Str.join sep (y::r):=rfl
theorem Hr:∀{ps qs:List Str},ps≠[]->qs≠[]->(∀p∈ps,c∉p.cps.toList)->(∀q∈qs,c∉q.cps.toList)->Str.join {#[c]} ps=Str.join {#[c]} qs->ps=qs
 | [],_,h,_,_,_,_=>absurd rfl h
 | _,[],_,h,_,_,_=>absurd rfl h
 | [p],[q],_,_,_,_,h=>by rw[join_one,join_one] at h;rw[h]
 | [p],q::q2::r,_,_,hp,_,h=>by
  rw[join_one,eR] at h;let e:=yY (λz:Str=>z.cps.toList) h;simp only[cD] at e;exact absurd (show c∈p.cps.toList by rw[e];simp) (hp p zp)
 | p::p2::r,[q],_,_,_,hq,h=>by
  rw[join_one,eR] at h;let e:=yY (λz:Str=>z.cps.toList) h;simp only[cD] at e;exact absurd (show c∈q.cps.toList by rw[<-e];simp) (hq q zp)
 | p::p2::r,q::q2::r',_,_,hp,hq,h=>by
  rw[eR,eR] at h;let e:=yY (λz:Str=>z.cps.toList) h;simp only[cD,zE] at e;let⟨e1,e2⟩:=Lm.K0 (hp p zp) (hq q zp) (show p.cps.toList++c::(Str.join {#[c]} (p2::r)).cps.toList=q.cps.toList++c::(Str.join {#[c]} (q2::r')).cps.toList from e);let ih:=Hr (ps:=p2::r) (qs:=q2::r') (by simp) (by simp) (λz hz=>hp z (zm _ hz)) (λz hz=>hq z (zm _ hz)) (kG e2);rw[ih,kG e1]
def gj (ne:ps≠[]) (fr:∀p∈ps,c∉p.cps.toList):PySem.Txt.split (Str.join {#[c]} ps) {#[c]}=ps:=by
 refine Hr ?_ ne (PySem.StrLaws.split_free _ c) fr (PySem.StrLaws.join_split _ _);intro z;have:=split_pos (Str.join {#[c]} ps) {#[c]};rw[z] at this;exact absurd this ∅
def Ei (ha:c∉a.cps.toList) (hb:c∉b.cps.toList):PySem.Txt.split (a++{#[c]}++b) {#[c]}=[a,b]:=by
 refine gj (ps:=[a,b]) (by simp) λp hp=>?_;rcases zC.mp hp with rfl | hp
 ·exact ha
 ·rw[zy.mp hp];exact hb
def split1 (ha:c∉a.cps.toList):PySem.Txt.split a {#[c]}=[a]:=by
 refine gj (ps:=[a]) (by simp) λp hp=>?_;rw[zy.mp hp];exact ha
def Rt (ha:c∉a.cps.toList) (hb:c∉b.cps.toList) (hd:c∉d.cps.toList):PySem.Txt.split (a++{#[c]}++b++{#[c]}++d) {#[c]}=[a,b,d]:=by
 let e:a++({#[c]}:Str)++b++⟨#[c]⟩++d=Str.join ⟨#[c]⟩ [a,b,d]:=by
  rw[eR,eR,join_one];simp only[Mp]
 rw[e];refine gj (ps:=[a,b,d]) (by simp) λp hp=>?_;rcases zC.mp hp with rfl | hp
 ·exact ha
 rcases zC.mp hp with rfl | hp
 ·exact hb
 ·rw[zy.mp hp];exact hd
def vP (h:n<0):dec n ="-" ++ dec (-n):=by
 obtain⟨m,rfl⟩:∃m:Nat,n=Int.negSucc m:={(-n-1).toNat,()}
 refine kG ?_;rw[cD];let e1:(dec (Int.negSucc m)).cps.toList=("-" ++ toString (m+1)).toList.map Char.toNat:=PyProof.Rows.signs_ofString _;let e2:(dec (-(Int.negSucc m))).cps.toList=(toString (m+1)).toList.map Char.toNat:=PyProof.Rows.signs_ofString _;rw[e1,e2,String.toList_append,zj];rfl
def ky {n:Nat} {c:Nat} (h:c∈(dec (n:Int)).cps.toList):48<=c/\c<=57:=by
 rw[vQ] at h;exact Ql h
def Mc {n:Nat} (h:(dec (n:Int)).cps[0]?=some 48):⇑(dec (n:Int))=1:=by
 rcases Nat.eq_zero_or_pos n with rfl | hn
 ·rw[Fb];decide
 ·let⟨c,r,e,hc⟩:=Lm.Og n hn
  rw[<-xg,vQ,e] at h;simp only[zh,List.getElem?_cons_zero,xK] at h;exact absurd (Char.toNat_inj.mp (by rw[h];rfl)) hc
def HP {n:Nat}:1<=⇑(dec (n:Int)):=by
 rw[Fb];exact PySem.toDigits_len_ge 10 n
def DO {n k:Nat} (hk:0<k) (h:n<10^k):⇑(dec (n:Int))<=k:=by rw[Fb];exact Lm.RZ hk h
def Sa (a:Option Int) (n:Nat):Builtin.Str.strSliceIndices a none 1 n=Builtin.Str.strSliceIndices a (some (n:Int)) 1 n:=by
 let h:¬((n:Int)<0):=()
 let e:max (0:Int) (min (n:Int) (n:Int))=n:=()
 simp only[Builtin.Str.strSliceIndices,h,wm,e,show((1:Int)>0)=True from by simp,vb]
def R9 (b:Option Int) (n:Nat):Builtin.Str.strSliceIndices none b 1 n=Builtin.Str.strSliceIndices (some ((0:Nat):Int)) b 1 n:=by
 let h:¬(((0:Nat):Int)<0):=()
 let e:max (0:Int) (min ((0:Nat):Int) (n:Int))=0:=()
 simp only[Builtin.Str.strSliceIndices,h,wm,e,show((1:Int)>0)=True from by simp,vb]
def Dn (x:Str) (hab:a<=b) (hb:b<=⇑x):(PySem.Txt.slice x (some (a:Int)) (some (b:Int))).cps.toList=(x.cps.toList.drop a).take (b-a):=by
 unfold PySem.Txt.slice;split
 ·rename_i h
  rw[PySem.StrLaws.strSliceIndices_plain hab hb] at h;simp only[wc,yU,vd,za,zQ] at h;let hl:⇑x.cps.toList=⇑x:=yP;let ea:a=0:=()
  let eb:b-a=⇑x.cps.toList:=()
  rw[eb,ea,List.drop_zero,zM]
 ·exact PySem.StrLaws.sliced_plain x hab hb
def oN (x:Str) (h:a<=⇑x):(PySem.Txt.slice x (some (a:Int)) none).cps.toList=x.cps.toList.drop a:=by
 let e:PySem.Txt.slice x (some (a:Int)) none=PySem.Txt.slice x (some (a:Int)) (some ((⇑x:Nat):Int)):=by
  unfold PySem.Txt.slice;rw[Sa]
 let hl:⇑x.cps.toList=⇑x:=yP;rw[e,Dn x h (zk _),xt (by rw[xy];ext)]
def Gm (x:Str) (h:b<=⇑x):(PySem.Txt.slice x none (some (b:Int))).cps.toList=x.cps.toList.take b:=by
 let e:PySem.Txt.slice x none (some (b:Int))=PySem.Txt.slice x (some ((0:Nat):Int)) (some (b:Int)):=by
  unfold PySem.Txt.slice;rw[R9]
 rw[e,Dn x (yf _) h,List.drop_zero,Nat.sub_zero]
def o7 {K:yA} {mg:Str->Option vo} {base:vz} {x:Str} {C:vy} {bm:List vo} {newId:String} (P:vt) (m:Mod K mg base) (e:PySem.W.nsIn K mainGlobals x=some (some (.ref C)))
  (q:PySem.W.excIn K C bm newId=true):OwnCls x C bm newId mg base:=by
 let⟨mb,hb,hbb⟩:=m.blt;let⟨o0,es0,ep0,hg0,hd0,sk0,look⟩:=m.glob;let fr:∀y,y∉(es0.toList.filterMap λ(d:DictEntry)=>match d.key with | .str z _=>some z | _=>none)->mg y=none:=λy hy=>by
  rw[<-look y];show(es0.find? λd=>d.key.isStr y).map (·.val)=none;cases hf:es0.find? λd=>d.key.isStr y with
  | none=>rfl
  | some d=>
   exfalso;let hm:=Array.mem_of_find?_eq_some hf;let hk:=Array.find?_some hf;let⟨z,t,ez⟩:=sk0 d hm;let ezy:z=y:=by rw[ez] at hk;exact eq_of_beq (show(z == y)=true from hk)
   exact hy (vh.mpr {d,by simpa using hm,by rw[ez,ezy]})
 exact PySem.W.own_of_in (p:=P) (loose:=es0.toList.filterMap λ(d:DictEntry)=>match d.key with | .str z _=>some z | _=>none) m.R0 {m.glob,hb,m.nolimit,hbb,λy _ hl _ _ _=>fr y hl} e q
structure MJ (P:vt) (w:vv) (fs:List vy) (H H':Hp) (h B h':vz):Prop where
 keep:∀b o,h.get? b=some o->H b=none->b∉fs->B.get? b=some o
 slot:∀b o,h.get? b=some o->H b=none->b∈fs->∃sl,h'.get? b=some {o with slots:=sl}
 free:∀b o,h.get? b=some o->H b=none->H' b=none
 there:∀b o,h.get? b=some o->b∉fs->∃o',B.get? b=some o'
 nY:∀b xs,H b=some (.tup xs)->H' b=some (.tup xs)
 mq:∀b o u,H b=some (.mF o u)->H' b=some (.mF o u)
 nZ:∀b ps,H b=some (.MY ps)->∃more,H' b=some (.MY (ps++more))
 bW:pM P w H' B
 kI:B.StaysIn h'
section
variable {P:vt} {w:vv} {fs:List vy} {H H':Hp} {h B h' h2:vz}
def MJ.un (f:MJ P w fs H H' h B h') (Hz:∀b∈fs,H b=none):Un fs [] H H' h h' where
 keep:=λb o e n hb _=>f.kI b o (f.keep b o e n hb)
 slot:=λb o e n hb _=>f.slot b o e n hb
 free:=λb o e n _=>f.free b o e n
 there:=λb o e _=>by
  by_cases hb:b∈fs
  ·let⟨sl,q⟩:=f.slot b o e (Hz b hb) hb
   exact{_,q}
  ·let⟨o',q⟩:=f.there b o e hb
   exact{o',f.kI b o' q}
 nY:=f.nY
 mq:=f.mq
 nZ:=f.nZ
def MJ.on (f:MJ P w fs H H' h B h') (u:h'.UpToSlots h2) (st:B.StaysIn h2) (nf:∀b∈fs,∃o,h'.get? b=some o/\∀vs,o.data≠.fields vs):MJ P w fs H H' h B h2:=
 {f.keep,λb o e n hb=>by
  let⟨sl,q⟩:=f.slot b o e n hb;let⟨o1,q1,nd⟩:=nf b hb;rw[q] at q1;cases q1;let⟨sl2,q2⟩:=u b _ q nd;exact{(sl2),q2},f.free,f.there,f.nY,f.mq,f.nZ,f.bW,st}
end
def IF (P:vt) (w:vv):Km:=λouter H s E e s'=>∃(a:vy) (cls a0:vo) (B:vz) (H':Hp),e=.ref a/\s'.os=s.os/\AllBare s'.gens/\Heap.FlyingW B outer a cls a0 s'.heap/\MJ P w (oE outer) H H' s.heap B s'.heap/\E cls none H'
def Oq (hf:env.frame=some L):oE (env::outer)=L::oE outer:=by
 unfold oE;rw[wX,hf]
def Rg (C:vy) (te:TA) (E:XK):TS:=λ_ U H=>te U H λvs H1=>⇑vs<=sizeLine/\E (.ref C) none H1
section
variable {P:vt} {w:vv} {K:yA} {mg:Str->Option vo} {base:vz} {N:List Str} {qual:Str} {scope:Scope} {f:vy} {cdv:vo} {A:vw} {outer:List Env} {s₀:vq} {H₀:Hp} {E:XK}
def GN
  (hC0:PySem.W.nsIn K mainGlobals x=some (some (.ref C))) (hQ0:PySem.W.excIn K C bm newId=true) (FB:ExcBaseFacts Bn newId initId bm) (hg:Gl (j7 (IF P w) P w K mg base N qual scope f cdv A outer s₀ H₀ E) x)
  (ha:PA (j7 (IF P w) P w K mg base N qual scope f cdv A outer s₀ H₀ E) (e₀::es) ta) (hd:(x == ("__debug__": Str))=false<|>qb_)
  (hs:starEach (e₀::es) (j7 (IF P w) P w K mg base N qual scope f cdv A outer s₀ H₀ E).env=(false,eval e₀ (j7 (IF P w) P w K mg base N qual scope f cdv A outer s₀ H₀ E).env)::starEach es (j7 (IF P w) P w K mg base N qual scope f cdv A outer s₀ H₀ E).env<|>qe_)
  (hpl:(backTo cpos (starEach es (j7 (IF P w) P w K mg base N qual scope f cdv A outer s₀ H₀ E).env)).any (·.1)=false<|>qe_) :
  PS (j7 (IF P w) P w K mg base N qual scope f cdv A outer s₀ H₀ E) (.Raise (some (.Call (.Name x np) (e₀::es) [] cpos)) none pos) (Rg C ta E):=by
 intro pins s U H D I h;let O:OwnCls x C bm newId mg base:=o7 P I.ok.mod hC0 hQ0;let⟨tl,Nn,nm,q,bs,hdct,sn,sub,ab,col,dd,k0,k1,k2,k3,k5,mN,hC,hN,hni,T⟩:=O.obj;refine wpAny_Raise_call_subT (C:=C) (nm:=nm) (q:=q) (N:=Nn) (bs:=bs) (bm:=tl) (hdct:=hdct) (sn:=sn) (sub:=sub) (ab:=ab) (col:=col) (dd:=dd) (k0:=k0) (k1:=k1) (k2:=k2) (k3:=k3) (k5:=k5)
  FB (mN:=mN) (T.hasType FB.hasBase) (I.ok.hd rfl) (by rw[hs];show(false||(backTo cpos (starEach es (j7 (IF P w) P w K mg base N qual scope f cdv A outer s₀ H₀ E).env)).any (·.1))=false;rw[hpl];rfl) hni (jN I hg O.bound {rfl,?_} hd)
 let hA:=ha cpos pins s U H _ I h;rw[hs] at hA ⊢;refine Calls.evalArgs_plain (xa hA (λus s2 ⟨vs,H2,I2,r2,hl,q2⟩=>{rfl,?_,I2.bk _ _ hC,hN.keeps I2.bk,T.keeps I2.bk,λh' e mk=>?_}) λ_ _ y=>y)
 ·show ⇑us<=sizeLine
  rw[<-⇑r2];exact hl
 show wpAny (model P w) (A.deeper (envOfC qual scope ↑s₀ f cdv)) (leaving (envOfC qual scope ↑s₀ f cdv) (.ref e)) (λ_ s''=>IF P w outer H₀ s₀ E (.ref e) s'') (λe' s''=>IF P w outer H₀ s₀ E e' s'') {s2 with heap:=h'};let hfr:oE (envOfC qual scope ↑s₀ f cdv::outer)=↑s₀::oE outer:=Oq rfl;let hst:s2.heap.FunFrames base (envOfC qual scope ↑s₀ f cdv::outer):=I2.stack;let hin:∀env∈(envOfC qual scope ↑s₀ f cdv::outer),∀a,env.frame=some a->a∈oE (envOfC qual scope ↑s₀ f cdv::outer):=λenv he a hf=>vh.mpr {(env),he,hf};let hl:=PySem.W.funFrames_hide (as:=oE (envOfC qual scope ↑s₀ f cdv::outer)) hst hin;refine wpAny_leaves_madeW (base:=PySem.W.hideAll s2.heap (oE (envOfC qual scope ↑s₀ f cdv::outer))) (h:=s2.heap) I2.ok.frames rfl (λb o q=>PySem.W.of_hideAll _ q) hl mk (λh'' t fl _ _ ups=>?_);let low:∀b o,s₀.heap.get? b=some o->b≠↑s₀:=λb o e z=>absurd (yx e) (by rw[z];exact ye _);let nin:∀b o,s₀.heap.get? b=some o->b∉oE outer->b∉oE (envOfC qual scope ↑s₀ f cdv::outer):=λb o e n z=>by
  rw[hfr] at z;rcases zC.mp z with z | z
  ·exact low b o e z
  ·exact n z
 let uO:∀b:vy,b∉(j7 (IF P w) P w K mg base N qual scope f cdv A outer s₀ H₀ E).ex:=λb z=>absurd (show b∈([]:List vy) from z) (by simp);refine{e,.ref C,.ref t,_,H2,rfl,I2.os,I2.bare,fl,{λb o q n hb=>wV _ (I2.base.keep b o q n hb (uO b)) (nin b o q hb),λb o q n hb=>?_,λb o q n=>I2.base.free b o q n (uO b),λb o q hb=>?_,I2.base.nY,I2.base.mq,I2.base.nZ,λa o q=>?_,fl.1},q2}
 ·let⟨sl,e1⟩:=I2.base.slot b o q n hb (uO b)
  let⟨_,o1,e2,nd⟩:=I2.ok.om.mem hb;let e3:=mk.keeps _ _ e1;let e2':s₀.heap.get? b=some o1:=e2;rw[q] at e2';cases e2';let⟨sl2,e4⟩:=ups b _ e3 nd;exact{(sl2),e4}
 ·let⟨o',e1⟩:=I2.base.there b o q (uO b)
  exact{o',wV _ e1 (nin b o q hb)}
 ·refine(I2.bW a o q).kI (λb u hb e1=>wV _ e1 λz=>?_) (λ_ z=>z) λ_ _ z=>z
  let n:=I2.pS b z;rcases hb with rfl | hb
  ·rw[q] at n;cases n
  ·rw[hb] at n;cases n
def O2.VM {x:Str} {st:Stmt} {fd:vx} {ps:List Str} {k:Nat} {sp:Sp} (F:O2 K x qual st f fd) (S:gf N ps (aU st)) (len:∀vs H Q E,sp vs H Q E->⇑vs=⇑ps)
  (hbody:∀(cdv:vo) (A:vw) (outer:List Env) (s:vq) (H:Hp) (vs:List V) (Q:VK) (E:XK),fG k (A.deeper (envOfC qual (aU st) ↑s f cdv))->sp vs H Q E->
   ∃t,DX (j7 (IF P w) P w K mg base N qual (aU st) f cdv A outer s H E) (ck st) t/\t {nx:=λ_ H'=>Q .bA H',rt:=Q} (start N vs) H):dA P w K mg base (IF P w) (k+1) f fd ps sp:=by
 let⟨oc,od,kV,doc,pm,an,cdv,ct,osl,rfl,lk,hcd⟩:=F.ex;exact QU lk hcd S len λA outer s H vs Q E hr hsp=>hbody cdv A outer s H vs Q E hr hsp
end
abbrev Cx.held (X:Cx) (e:vo):Cx:={X with A:=X.A.mark (some e),calm:=false}
theorem Cx.Ok.held {X:Cx} (ok:X.Ok) (e:vo):(X.held e).Ok:=
 {ok.mod,ok.kind,ok.glob,ok.blt,ok.above,ok.inj,ok.has,ok.Sm,λz=>(nomatch (show false=true from z)),ok.frames,ok.SA,ok.Uj,ok.bs,ok.MG,ok.uO,ok.JM,ok.om,ok.Hz}
def Cx.Ok.kE {X:Cx} {e:vo} (ok:(X.held e).Ok) (hd:X.calm=true->X.A.handled=none):X.Ok:=
 {(ok.mod),ok.kind,ok.glob,ok.blt,ok.above,ok.inj,ok.has,ok.Sm,hd,ok.frames,ok.SA,ok.Uj,ok.bs,ok.MG,ok.uO,ok.JM,ok.om,ok.Hz}
section
variable {X:Cx} {pins:List (vy×Obj)} {U:St} {H:Hp} {s:vq} {e:vo}
theorem Inv.held (I:Inv X pins U H s) (e:vo):Inv (X.held e) pins U H s:={I.ok.held e,I.os,I.bare,I.base,I.loc,I.cell,I.free,I.jQ,I.pin,I.bW,I.len}
theorem Inv.kE (I:Inv (X.held e) pins U H s) (hd:X.calm=true->X.A.handled=none):Inv X pins U H s:={I.ok.kE hd,I.os,I.bare,I.base,I.loc,I.cell,I.free,I.jQ,I.pin,I.bW,I.len}
theorem SP.kE (hd:X.calm=true->X.A.handled=none) (h:SP (X.held e) pins D f s'):SP X pins D f s':=by
 cases f with
 | next=>let⟨U',H',I,q⟩:=h;exact{U',H',I.kE hd,q}
 | brk=>let⟨U',H',I,q⟩:=h;exact{U',H',I.kE hd,q}
 | cont=>let⟨U',H',I,q⟩:=h;exact{U',H',I.kE hd,q}
 | ret u=>let⟨v,U',H',I,r,q⟩:=h;exact{v,U',H',I.kE hd,r,q}
end
def SV (i:Nat) (sp:Sp) (t:TA) (C:vy) (th:TS):TS:=λD U H=>t U H λvs H1=>sp vs H1 (λv H2=>bY i v U H2 D.nx) λcls _ H2=>cls=.ref C/\th D U H2
section
variable {X:Cx} {k:Nat} {f:vy} {fd:vx} {ps:List Str} {sp:Sp} {fx cn x:Str} {p pos cpos pa tpos np hpos:Pos} {e₀:Expr} {es:List Expr} {t:TA} {i:Nat} {C:vy} {bm:List vo} {newId:String} {b₀:Stmt} {suite:List Stmt} {th:TS}
def PK (F:dA X.prog X.w X.K X.mg X.base (IF X.prog X.w) k f fd ps sp) (hr:fG k X.A) (hg:Gl X fx) (hm:X.mg fx=some (.ref f)) (hk:PySem.W.keepIn X.K (.ref f)=true) (hb:Binds X.K fd ps []) (ha:PA X.Jv (e₀::es) t)
  (hc:X.calm=true) (hN:X.N.Nodup) (hi:X.N[i]?=some x) (hx:Loc X.env.scope x) (hgc:Gl X cn) (hC0:PySem.W.nsIn X.K mainGlobals cn=some (some (.ref C))) (hQ0:PySem.W.excIn X.K C bm newId=true) (hbase:bm.contains (.type "BaseException")=true) (hstk:X.stack=X.env::X.outer) (hfrm:X.env.frame=some X.env.locals)
  (hsu:∀e,DX (X.held e).Jv (b₀::suite) th)
  (hdb:(fx == ("__debug__": Str))=false<|>qb_) (hdc:(cn == ("__debug__": Str))=false<|>qb_) (he:starEach (e₀::es) X.env=(false,eval e₀ X.env)::starEach es X.env<|>qe_) (hpl:(backTo cpos (starEach es X.env)).any (·.1)=false<|>qe_)
  (hs:swapsWith (.Call (.Name fx p) (e₀::es) [] cpos) (some (.Name x tpos)) pa.line X.env=pure false<|>qe_) (hf:X.fn x=true\/X.env.scope.names.lookup x=some .local<|>qa_) :
  PS X (.Try [.Assign [.Name x tpos] (.Call (.Name fx p) (e₀::es) [] cpos) pa] [.ExceptHandler (some (.Name cn np)) none (b₀::suite) hpos] [] [] pos) (SV i sp t C th):=by
 intro pins s U H D I h;let O:OwnCls cn C bm newId X.mg X.base:=o7 X.prog I.ok.mod hC0 hQ0;refine wpAny_Try_except (wpAny_execs_cons ?_);refine wpAny_Assign_Name ?_ hs;refine xm (jN I hg hm ?_ hdb);let hA:wpAny (model X.prog X.w) X.A (spliced (backTo cpos (starEach (e₀::es) X.env))) (AP X.Jv pins U _) (λ_ _=>False) s:=ha cpos pins s U H _ (I.pP _) h;refine vf (h₀:=X.base) I.ok.mod.R0 hk (xa hA (λus s1 ⟨vs,H1,I1',r,q⟩=>{I1'.qS,?_}) λ_ _ z=>z.elim) he hpl;let I1:Inv X pins U H1 s1:=I1'.gS;let hl:⇑us=⇑ps:=by rw[<-⇑r];exact F.len _ _ _ _ q
 refine wpAny_call (xQ (F.run X.A X.stack s1 H1 {us,[]} us vs _ _ hr I1.Qh (by have:=hb s1 us I1.qS (by rw[zU];exact hl);rw[zU] at this;exact this) r q) λrr s' hq=>?_);cases rr with
 | ok fl=>
  cases fl with
  | ret u=>
   let⟨v,H2,I2,r2,q2⟩:=I1.after hq;refine mK I2 hN hi hx r2 (λs2 I3=>?_) hf;exact wq (wq {_,H2,I3,q2})
  | next=>exact False.elim hq
  | brk=>exact False.elim hq
  | cont=>exact False.elim hq
 | error ev=>
  let⟨a,cls,a0,B,H',rfl,os,bare,fl,fly,⟨rfl,q2⟩⟩:=hq;let Hz:∀b∈oE X.stack,H1 b=none:=I1.pS;let nf:∀{hh:vz},Heap.FunFrames hh B X.stack->∀b∈oE X.stack,∃o,hh.get? b=some o/\∀vs,o.data≠.fields vs:=λhF b hb=>(hF.mem hb).2;let back:∀(hh:vz),MJ X.prog X.w (oE X.stack) H1 H' s1.heap B hh->Inv X pins U H' {s' with heap:=hh}:=λhh fy=>
   I1.OL (s':={s' with heap:=hh}) (ch:=[]) os (fy.un Hz) (fy.bW.kept fy.kI) bare λb z=>absurd z (by simp)
  let hfr:X.A.frames=some (X.env::X.outer):=by rw[<-hstk];exact I1.ok.frames
  refine wpAny_looks_onW hfr hfrm (by rw[<-hstk];exact fl) λh4 held4 up4=>?_;refine wpAny_landsW held4 λh5 fl5 up5=>?_;let fl5':Heap.FlyingW B X.stack a (.ref C) a0 h5:=by rw[hstk];exact fl5
  let fy5:MJ X.prog X.w (oE X.stack) H1 H' s1.heap B h5:=fly.on (up4.trans up5) fl5.1 (nf fl.2.2.1);let I5:=back h5 fy5;let⟨ob,hob,hobc⟩:=fl5'.there;let⟨tl,Nn,nm,qn,bs,hdct,sn,sub,ab,col,dd,k0,k1,k2,k3,k5,mN,hC,hN',hni,T⟩:=O.obj;refine wpAny_handleBy_cons (codeAny_handlers_test (jN (X:=X.held (.ref a)) (I5.held _) hgc O.bound ?_ hdc)) (by intro q;cases q);refine wpAny_excMatches_sub_self (I5.bk _ _ hC) hob hobc (T.hasType hbase) (codeAny_handlers_suite ?_);refine lands_againW fl5' λh6 fl6 up6=>?_;let fy6:MJ X.prog X.w (oE X.stack) H1 H' s1.heap B h6:=fy5.on up6 fl6.1 (nf fl5'.2.2.1);let I6:=back h6 fy6;refine xa (hsu (.ref a) pins _ U H' D ((I6.held _).pP _) q2) (λfl s7 z=>?_) λ_ _ z=>z.elim;exact SP.kE I.ok.hd (SP.gS z)
end
section
variable {X:Cx}
def M7 {zs:List Str} {its:List vo} (r:Vals (zs.map V.str) its) {j:Nat} (h:j<⇑its):∃z t,zs[j]?=some z/\its[j]=.str z t:=by
 let hl:⇑zs=⇑its:=by have:=⇑r;rw[za] at this;exact this
 let⟨u,hu,ru⟩:=r.get (i:=j) (x:=.str (zs[j]'())) (by rw[zJ,zb ()];rfl);let⟨t,rfl⟩:=ru;rw[zb h] at hu;exact{_,t,zb (),yj hu}
end
section
variable {K:yA} {D x:vy} {prog:vt} {w:vv} {A:vw} {E:vo->vq->Prop} {h:vz} {g:Array GenState} {d:Drawn} {t:Nat} {os:OsState}
open Builtin Builtin.ObjectAttr Builtin.Getset_descriptor in
end
section
variable {X:Cx}
end
def cx.here (x:cx P w H h a o):∃ob,h.get? a=some ob:=by
 cases o with
 | lst xs=>let⟨_,_,_,_,e⟩:=x;exact{_,e}
 | tup xs=>let⟨_,_,_,o,e,_⟩:=x;exact{_,e}
 | dK kvs=>let⟨_,_,_,_,o,_,_,e,_⟩:=x;exact{_,e}
 | dT kvs=>let⟨_,_,_,_,o,_,_,e,_⟩:=x;exact{_,e}
 | set S n=>let⟨o,_,_,_,e,_⟩:=x;exact{_,e}
 | ins C dx fs=>let⟨_,_,_,e,_⟩:=x;exact{_,e}
 | own y=>exact x
 | xd fs=>let⟨_,⟨_,_,_,e,_⟩,_⟩:=x;exact{_,e}
 | LF lo hi=>let⟨_,_,_,e⟩:=x;exact{_,e}
 | mF ob u=>let⟨e,_⟩:=x;exact{_,e}
 | MY ps=>exact{_,x}
 | met f y=>exact{_,x}
 | ext φ=>exact x.2.1
section
variable {X:Cx} {pins:List (vy×Obj)} {U:St} {H:Hp} {s:vq}
def Inv.SR (I:Inv X pins U H s) (hn:H a=none) (h0:X.s₀.heap.get? a=none) (hl:a≠X.env.locals) (hc:∀x c,X.env.cells.lookup x=some c->c≠a) (hp:∀p∈X.pn++pins,p.1≠a)
  (new:cx X.prog X.w (upd H a o) s.heap a o):Inv X pins U (upd H a o) s where
 ok:=I.ok
 os:=I.os
 bare:=I.bare
 base:={I.base.keep,I.base.slot,λb ob e n hx=>by rw[aG (λz=>by rw[z,h0] at e;cases e)];exact I.base.free b ob e n hx,I.base.there,
  λb xs e=>by have:=I.base.nY b xs e;rw[aG (bw this hn)];exact this,λb ob u e=>by have:=I.base.mq b ob u e;rw[aG (bw this hn)];exact this,
  λb ps e=>by let⟨m,e1⟩:=I.base.nZ b ps e;exact{m,by rw[aG (bw e1 hn)];exact e1}}
 loc:=I.loc
 cell:=I.cell
 free:=by rw[aG (Ne.symm hl)];exact I.free
 jQ:=λx c e=>by rw[aG (hc x c e)];exact I.jQ x c e
 pin:=λp hpp=>by let⟨e,n,ne,nf,d⟩:=I.pin p hpp;exact{e,by rw[aG (hp p hpp)];exact n,ne,nf,d}
 bW:=λb u e=>by
  by_cases hb:b=a
  ·subst hb
   rw[aF] at e;cases e;exact new
  ·rw[aG hb] at e
   refine(I.bW b u e).kI (λ_ _ _ q=>q) (λc q=>?_) λc xs q=>?_
   ·rw[aG (bw q hn)];exact q
   ·rw[aG (bw q hn)];exact q
 len:=I.len
end
section
variable {X:Cx} {k:Nat} {f:vy} {fd:vx} {ps:List Str} {sp:Sp} {fx cn n x:Str} {p pos cpos pa tpos np hpos:Pos} {e₀:Expr} {es:List Expr} {t:TA} {i j:Nat} {C S:vy} {bm bmS:List vo} {newId newIdS:String} {b₀:Stmt} {suite:List Stmt} {th:TS}
end
end L2
namespace L2
open PySem PySem.Spec PyProof.Rows
section
variable {κ:Type} [DecidableEq κ]
def dn (kvs:List (κ×V)) (k:κ):Option V:=(kvs.find? λkv=>decide (kv.1=k)).map (·.2)
def putK (kvs:List (κ×V)) (k:κ) (v:V):List (κ×V):=
 if(kvs.any λkv=>decide (kv.1=k))=true then kvs.map (λkv=>if kv.1=k then(kv.1,v) else kv) else kvs++[(k,v)]
def MQ {k:κ}:dn ([]:List (κ×V)) k=none:=rfl
def d8 {p:κ×V} {r:List (κ×V)} {k:κ} (e:p.1=k):dn (p::r) k=some p.2:=by simp[dn,yR,e]
def d9 {p:κ×V} {r:List (κ×V)} {k:κ} (e:¬p.1=k):dn (p::r) k=dn r k:=by simp[dn,yR,e]
theorem mH (k:κ):∀kvs:List (κ×V),(kvs.any λkv=>decide (kv.1=k))=(dn kvs k).isSome
 | []=>rfl
 | p::r=>by
  rw[xn]
  by_cases e:p.1=k
  ·simp only[d8 e,ze e,Bool.true_or,Option.isSome_some]
  ·rw[d9 e,zd e,Bool.false_or];exact mH k r
theorem F2 (k j:κ) (y:V):∀kvs:List (κ×V),dn (kvs.map λkv=>if kv.1=k then(kv.1,y) else kv) j=(dn kvs j).map λx=>if j=k then y else x
 | []=>rfl
 | p::r=>by
  let ih:=F2 k j y r;rw[zh]
  by_cases h:p.1=k
  ·rw[yN h]
   by_cases e:p.1=j
   ·rw[d8 (p:=(p.1,y)) e,d8 e,xj,yN (e.symm.trans h)]
   ·rw[d9 (p:=(p.1,y)) e,d9 e,ih]
  ·rw[yM h]
   by_cases e:p.1=j
   ·rw[d8 (p:=p) e,d8 e,xj,yM (λz=>h (e.trans z))]
   ·rw[d9 (p:=p) e,d9 e,ih]
theorem Di (k j:κ) (y:V):∀kvs:List (κ×V),dn kvs k=none->dn (kvs++[(k,y)]) j=if j=k then some y else dn kvs j
 | [],_=>by
  by_cases e:k=j
  ·rw[yN e.symm];exact d8 (p:=(k,y)) e
  ·rw[yM (λz=>e z.symm)];exact d9 (p:=(k,y)) e
 | p::r,hn=>by
  rw[wM];let hk:¬p.1=k:=λz=>by rw[d8 z] at hn;cases hn
  rw[d9 hk] at hn;let ih:=Di k j y r hn
  by_cases e:p.1=j
  ·rw[d8 e,d8 e,yM (λz=>hk (e.trans z))]
  ·rw[d9 e,d9 e,ih]
def vX (kvs:List (κ×V)) (k j:κ) (y:V):dn (putK kvs k y) j=if j=k then some y else dn kvs j:=by
 unfold putK
 by_cases a:(kvs.any λkv=>decide (kv.1=k))=true
 ·rw[yN a,F2]
  rw[mH] at a
  by_cases e:j=k
  ·let⟨x,hx⟩:=Option.isSome_iff_exists.mp a
   rw[yN e,e,hx,xj,yN rfl]
  ·rw[yM e]
   cases dn kvs j with
   | none=>rfl
   | some x=>rw[xj,yM e]
 ·rw[yM a]
  refine Di k j y kvs ?_;rw[mH] at a;cases q:dn kvs k with
  | none=>rfl
  | some x=>rw[q] at a;exact(a rfl).elim
def eF (kvs:List (κ×V)) (k:κ) (v:V):⇑(putK kvs k v)<=⇑kvs+1:=by
 unfold putK;split
 ·rw[za];ext
 ·rw[zg,zt,xk];ext
def NG {kvs:List (κ×V)} {k:κ} (v:V) (h:dn kvs k=none):putK kvs k v=kvs++[(k,v)]:=by
 unfold putK;rw[mH,h];exact yM ∅
def lN.ko (r:lN o u):o.isSome=u.isSome:=by
 cases o with
 | none=>cases u with
  | none=>rfl
  | some _=>exact(show False from r).elim
 | some _=>cases u with
  | none=>exact(show False from r).elim
  | some _=>rfl
theorem lN.getD (r:lN o u) (rd:RelV d d'):RelV (o.getD d) (u.getD d'):=by
 cases o with
 | none=>cases u with
  | none=>exact rd
  | some _=>exact(show False from r).elim
 | some _=>cases u with
  | none=>exact(show False from r).elim
  | some _=>exact r
def KV.val {kvs:List (κ×V)} {vs:List (κ×vo)} (r:KV kvs vs) (k:κ):lN (dn kvs k) (valueAt vs k):=by
 unfold KV at r
 induction r with
 | nil=>exact True.intro
 | @cons p q ps qs h t ih=>
  let⟨h1,h2⟩:=h
  by_cases e:p.1=k
  ·let e':q.1=k:=h1.symm.trans e
   let b:valueAt (q::qs) k=some q.2:=by simp[valueAt,yR,e']
   rw[d8 e,b];exact h2
  ·let e':¬q.1=k:=λz=>e (h1.trans z)
   let b:valueAt (q::qs) k=valueAt qs k:=by simp[valueAt,yR,e']
   rw[d9 e,b];exact ih
theorem KV.any (r:KV kvs vs) (k:κ):(kvs.any λkv=>decide (kv.1=k))=vs.any λkv=>decide (kv.1=k):=by
 unfold KV at r
 induction r with
 | nil=>rfl
 | cons h t ih=>rw[xn,xn,ih,h.1]
def KV.Ry (r:KV kvs vs) (k:κ) (ry:RelV y u) :
  KV (kvs.map λkv=>if kv.1=k then(kv.1,y) else kv) (vs.map λkv=>if kv.1=k then(kv.1,u) else kv):=by
 unfold KV at r ⊢
 induction r with
 | nil=>exact .nil
 | @cons p q ps qs h t ih=>
  rw[zh,zh];refine .cons ?_ ih;let⟨h1,h2⟩:=h
  by_cases e:p.1=k
  ·rw[yN e,yN (h1.symm.trans e)];exact{(h1),ry}
  ·rw[yM e,yM (λz=>e (h1.trans z))];exact{(h1),h2}
def KV.put (r:KV kvs vs) (k:κ) (ry:RelV y u):KV (putK kvs k y) (stored vs k u):=by
 unfold putK stored;rw[r.any k]
 by_cases e:(vs.any λkv=>decide (kv.1=k))=true
 ·rw[yN e,yN e];exact r.Ry k ry
 ·rw[yM e,yM e];exact Paired.snoc r {(rfl),ry}
theorem KV.length (r:KV kvs vs):⇑kvs=⇑vs:=xW r
end
def DD (r:RelV (kV k) u):(cX P w).is k u=true:=by
 cases k with
 | inl i=>let⟨t,e⟩:=(show∃t,u=Value.int i t from r);subst e;exact Hl P w i t
 | inr x=>let⟨t,e⟩:=(show∃t,u=Value.str x t from r);subst e;exact tQ P w x t
 | bA=>let e:=(show u=Value.none from r);subst e;rfl
theorem DE:∀{ks:List Key} {us:List vo},Vals (ks.map kV) us->ItemsAre (cX P w) ks us
 | [],_,r=>by rw[ym] at r;cases r;exact .nil
 | k::ks,_,r=>by
  rw[zh] at r;cases r with
  | cons h t=>exact .cons (DD h) (DE t)
abbrev KT (H:Hp):List (List Key×V)->List (List Key×vy×vo)->Prop:=Paired λp q=>p.1=q.1/\H q.2.1=some (.tup (p.1.map kV))/\RelV p.2 q.2.2
def KT.val {H:Hp} {kvs:List (List Key×V)} {xs:List (List Key×vy×vo)} (r:KT H kvs xs) (k:List Key):lN (dn kvs k) ((atKey xs k).map (·.2)):=by
 induction r with
 | nil=>exact True.intro
 | @cons p q ps qs h t ih=>
  let⟨h1,_,h2⟩:=h
  by_cases e:p.1=k
  ·let e':q.1=k:=h1.symm.trans e
   let b:atKey (q::qs) k=some q.2:=by simp[atKey,yR,e']
   rw[d8 e,b];exact h2
  ·let e':¬q.1=k:=λz=>e (h1.trans z)
   let b:atKey (q::qs) k=atKey qs k:=by simp[atKey,yR,e']
   rw[d9 e,b];exact ih
def KT.Ry (r:KT H kvs xs) (k:List Key) (ry:RelV y u) :
  KT H (kvs.map λkv=>if kv.1=k then(kv.1,y) else kv) (xs.map (putAt k u)):=by
 induction r with
 | nil=>exact .nil
 | @cons p q ps qs h t ih=>
  rw[zh,zh];refine .cons ?_ ih;let⟨h1,h2,h3⟩:=h;unfold putAt
  by_cases e:p.1=k
  ·rw[yN e,yN (h1.symm.trans e)];exact{(h1),h2,ry}
  ·rw[yM e,yM (λz=>e (h1.trans z))];exact{(h1),h2,h3}
def KT.put (r:KT H kvs xs) (k:List Key) (hb:H b=some (.tup (k.map kV))) (ry:RelV y u) :
  KT H (putK kvs k y) (storedH xs k b u):=by
 let e:(kvs.any λkv=>decide (kv.1=k))=(atKey xs k).isSome:=by
  rw[mH,(r.val k).ko,Option.isSome_map]
 unfold putK storedH;rw[e]
 by_cases q:(atKey xs k).isSome=true
 ·rw[yN q,yN q];exact r.Ry k ry
 ·rw[yM q,yM q];exact Paired.snoc r {(rfl),hb,ry}
def KT.keeps (r:KT H kvs xs) (ht:∀b ys,H b=some (.tup ys)->H' b=some (.tup ys)):KT H' kvs xs:=
 Paired.RX r λ_ _ z=>{z.1,ht _ _ z.2.1,z.2.2}
section
variable {P:vt} {w:vv} {H:Hp} {h:vz} {a:vy}
def QH (ok:pM P w H h) (e:Rd H a u):cx P w H h a u:=e.ok ok
def tX (ok:pM P w H h) (e:Rd H a (.dK kvs)):⇑kvs<=sizeLine/\(a == sysModules)=false/\∃vs,KV kvs vs/\h.DictOf (cX P w) a vs:=
 show cx P w H h a (.dK kvs) from QH ok e
def TM (ok:pM P w H h) (e:H a=some (.dK kvs)):⇑kvs<=sizeLine/\(a == sysModules)=false/\∃vs,KV kvs vs/\h.DictOf (cX P w) a vs:=tX ok (.inl e)
def sP (ok:pM P w H h) (e:H a=some (.tup (ks.map kV))):(tupleKind (cX P w)).is h ks a:=by
 let⟨_,its,r,o,h1,h2,n,h3⟩:=(show cx P w H h a (.tup (ks.map kV)) from ok a _ e)
 exact{o,its.toArray,n,h1,h2,h3,by simpa using DE r}
def Bg (ok:pM P w H h) (e:Rd H a (.dT kvs)):⇑kvs<=sizeLine/\(a == sysModules)=false/\
  ∃xs,KT H kvs xs/\h.DictOfH (tupleKind (cX P w)) a xs:=by
 let⟨z,y,xs,r,o,es,ep,h1,h2,h3,h4,h5⟩:=(show cx P w H h a (.dT kvs) from QH ok e)
 refine{z,y,xs,r,o,es,ep,h1,h2,h3,h4,λx hx=>?_,h5};let all:∀{l:List (List Key×V)} {m:List (List Key×vy×vo)},KT H l m->∀x∈m,(tupleKind (cX P w)).is h x.1 x.2.1:=by
  intro l m q
  induction q with
  | nil=>intro x hx;exact nomatch hx
  | @cons p q ps qs hq t ih=>
   intro x hx;rcases zC.mp hx with e | hx
   ·subst e
    exact sP ok (by rw[<-hq.1];exact hq.2.1)
   ·exact ih x hx
 exact all r x hx
def TL (ok:pM P w H h) (e:H a=some (.dT kvs)):⇑kvs<=sizeLine/\(a == sysModules)=false/\
  ∃xs,KT H kvs xs/\h.DictOfH (tupleKind (cX P w)) a xs:=Bg ok (.inl e)
end
def FU (H:Hp) (a:vy) (y:V) (r:Option V):Prop:=
 (∃kvs k,Rd H a (.dK kvs)/\y=kV k/\r=dn kvs k)\/∃kvs k b,Rd H a (.dT kvs)/\y=.ref b/\H b=some (.tup (k.map kV))/\r=dn kvs k
def T4 (H:Hp) (a:vy) (y v:V) (H':Hp):Prop:=
 (∃kvs k,H a=some (.dK kvs)/\y=kV k/\⇑kvs<sizeLine/\H'=upd H a (.dK (putK kvs k v)))\/
 ∃kvs k b,H a=some (.dT kvs)/\y=.ref b/\H b=some (.tup (k.map kV))/\⇑kvs<sizeLine/\H'=upd H a (.dT (putK kvs k v))
section
variable {X:Cx} {pins:List (vy×Obj)} {U:St} {H:Hp} {s:vq} {a:vy} {y v:V} {u r:vo} {o:Option V} {A:vw} {E:vo->vq->Prop}
def Inv.big (I:Inv X pins U H s):sysModules<↑s:=by
 let h:mainGlobals<↑s:=(I.mod.glob.keeps I.bk).lt;exact xD ∅ h
def Mf (hu:A.units+1<cLine) (I:Inv X pins U H s) (g:FU H a y (some v)) (ry:RelV y u) (h:∀w' s',Inv X pins U H s'->RelV v w'->Q w' s') :
  wpAny (model X.prog X.w) A (getItem (.ref a) u) Q E s:=by
 rcases g with⟨kvs,k,e,ey,l⟩ | ⟨kvs,k,b,e,ey,eb,l⟩
 ·subst ey
  let⟨z,hd,vs,rel,dd⟩:=tX I.bW e;let⟨w',hw,rw'⟩:=lN.some_of (v:=v) (o:=valueAt vs k) (by rw[l];exact rel.val k);exact wpAny_getItem_of (DD ry) dd.mapOf hw (h w' _ (I.tok _) rw')
 ·subst ey
  cases(show u=Value.ref b from ry);let⟨z,hd,xs,rel,dd⟩:=Bg I.bW e;let⟨w',hw,rw'⟩:=lN.some_of (v:=v) (o:=(atKey xs k).map (·.2)) (by rw[l];exact rel.val k);let⟨p,hp,hp2⟩:=Option.map_eq_some_iff.mp hw;refine wpAny_getItem_heap (wy hu) (sP I.bW eb) dd hp ?_;rw[hp2];exact h w' _ (I.tok _) rw'
def Vm (hu:A.units+1<cLine) (I:Inv X pins U H s) (g:FU H a y o) (ry:RelV y u) (h:∀s',Inv X pins U H s'->Q (.bool o.isSome) s') :
  wpAny (model X.prog X.w) A (compareOp .In u (.ref a)) Q E s:=by
 rcases g with⟨kvs,k,e,ey,l⟩ | ⟨kvs,k,b,e,ey,eb,l⟩
 ·subst ey
  let⟨z,hd,vs,rel,dd⟩:=tX I.bW e;refine wpAny_in_of (DD ry) hd dd.mapOf ?_;rw[<-(rel.val k).ko,<-l];exact h _ (I.tok _)
 ·subst ey
  cases(show u=Value.ref b from ry);let⟨z,hd,xs,rel,dd⟩:=Bg I.bW e;refine wpAny_in_heap (wy hu) (sP I.bW eb) hd dd ?_;let q:=(rel.val k).ko;rw[Option.isSome_map] at q;rw[<-q,<-l];exact h _ (I.tok _)
def Qm (hu:A.units+1<cLine) (I:Inv X pins U H s) (g:FU H a y o) (ry:RelV y u) (h:∀s',Inv X pins U H s'->Q (.bool (!o.isSome)) s') :
  wpAny (model X.prog X.w) A (compareOp .NotIn u (.ref a)) Q E s:=by
 rcases g with⟨kvs,k,e,ey,l⟩ | ⟨kvs,k,b,e,ey,eb,l⟩
 ·subst ey
  let⟨z,hd,vs,rel,dd⟩:=tX I.bW e;refine wpAny_notIn_of (DD ry) hd dd.mapOf ?_;rw[<-(rel.val k).ko,<-l];exact h _ (I.tok _)
 ·subst ey
  cases(show u=Value.ref b from ry);let⟨z,hd,xs,rel,dd⟩:=Bg I.bW e;refine wpAny_notIn_heap (wy hu) (sP I.bW eb) hd dd ?_;let q:=(rel.val k).ko;rw[Option.isSome_map] at q;rw[<-q,<-l];exact h _ (I.tok _)
def KZ (I:Inv X pins U H s) (mu:TX (H a)) (hs:Heap.SameBut a s.heap h') (he:∃q,h'.get? a=some q) (new:cx X.prog X.w (upd H a ob) h' a ob) :
  Inv X pins U (upd H a ob) {s with heap:=h',toks:=t'}:=
 I.write (x:=a) (e:=a) mu (.inl rfl) (λb q hb z=>(hs.2 b hb).trans z) he new
def Sk (z:⇑kvs<=sizeLine) (hd:(a == sysModules)=false) (rel:KV kvs vs) (dd:h'.DictOf (cX P w) a vs) :
  cx P w H' h' a (.dK kvs):={(z),hd,vs,rel,dd}
def Me (hu:A.units+1<cLine) (I:Inv X pins U H s) (g:T4 H a y v H') (ry:RelV y u) (rv:RelV v r) (h:∀s',Inv X pins U H' s'->Q .unit s') :
  wpAny (model X.prog X.w) A (setItem (.ref a) u r) Q E s:=by
 rcases g with⟨kvs,k,e,ey,l,eH⟩ | ⟨kvs,k,b,e,ey,eb,l,eH⟩
 ·subst ey eH
  let⟨z,hd,vs,rel,dd⟩:=TM I.bW e;let hz:⇑vs<=sizeLine:=by rw[<-⇑rel];exact z
  let hl:⇑(putK kvs k v)<=sizeLine:=by have:=eF kvs k v;ext
  refine wpAny_setItem_pairs (hsz:=hz) (DD ry) dd λh' dd' hs=>h _ ?_;let he:∃q,h'.get? a=some q:=let ⟨q,_,_,hq,_⟩:=dd';{(q),hq};exact KZ I (by rw[e];exact True.intro) hs he (Sk hl hd (rel.put k rv) dd')
 ·subst ey eH
  cases(show u=Value.ref b from ry);let⟨z,hd,xs,rel,dd⟩:=TL I.bW e;let hz:⇑xs<=sizeLine:=by rw[<-xW rel];exact z
  let hl:⇑(putK kvs k v)<=sizeLine:=by have:=eF kvs k v;ext
  refine wpAny_setItem_heap (hsz:=hz) (wy hu) (sP I.bW eb) dd λh' dd' hs=>h _ ?_;let⟨q,es,ep,hq,h2,h3,h4,_,h5⟩:=dd';refine KZ I (by rw[e];exact True.intro) hs ⟨q,hq⟩ ⟨hl,hd,_,(rel.put k eb rv).keeps λc ys ec=>?_,q,es,ep,hq,h2,h3,h4,h5⟩;rw[aG (bf ec e (λz=>nomatch z))];exact ec
end
section
variable {X:Cx} {pins:List (vy×Obj)} {U:St} {H:Hp} {s:vq} {a:vy} {kvs:List (Key×V)} {k:Key} {u:vo} {A:vw} {E:vo->vq->Prop}
def TQ (I:Inv X pins U H s) (e:Rd H a (.dK kvs)) (h:∀t s',Inv X pins U H s'->Q (.int ⇑kvs t) s'):wpAny (model X.prog X.w) A (call (.builtin "len") [.ref a]) Q E s:=by
 let⟨z,hd,vs,rel,dd⟩:=tX I.bW e;refine call_len_dict hd dd (by rw[<-⇑rel];rw[yB] at z;ext) ?_;rw[<-⇑rel];exact h _ _ (I.tok _)
end
def Sv (i:Expr):Prop:=∀ov iv,subscripted i false ov iv=operate [ov,iv] (getItem ov iv)
def Kv {prog:vt} {w:vv} {A:vw} {E:vo->vq->Prop} {s:vq} {env:Env} {value slice:Expr} {pos:Pos} {T id:String} {Q:vo->vq->Prop}
  (hl:typeLookup (.type T) "__getitem__"= pure (some (.builtin id))) (hs:Sv slice)
  (h:wpAny (model prog w) A (eval value env) (λo s₁=>wpAny (model prog w) A (eval slice env) (λi s₂=>s₂.TypeIs o T/\wpAny (model prog w) A (getItem o i) Q E s₂) E s₁) E s) :
  wpAny (model prog w) A (eval (.Subscript value slice pos) env) Q E s:=by
 refine Subscript_ (xa h (λo s₁ h₁=>xa h₁ (λi s₂ h₂=>?_) λ_ _ x=>x) λ_ _ x=>x);let⟨hT,h₂⟩:=h₂;unfold subscriptTail;refine yt ?_;rw[getitemInPython_of_ne hT.not_modules];refine yt (wpAny_specialOf hT hl ?_);let fin:wpAny (model prog w) A (subscripted slice false o i) (λr s₃=>wpAny (model prog w) A (letTemporaryGo value o r >>= λ_=>pure r) Q E s₃) E s₂:=by
  rw[hs o i];exact wpAny_operating (xa h₂ (λr s₃ h₃=>yt (wpAny_letTemporaryGo (yv h₃))) λ_ _ x=>x)
 first
  | exact yv (yt fin)
  | exact yt (yv (yt fin))
  | exact yt fin
def HM (I:Inv X pins U H s) (g:FU H a y o):s.TypeIs (.ref a) "dict":=by
 rcases g with⟨kvs,k,e,_,_⟩ | ⟨kvs,k,b,e,_,_,_⟩
 ·let⟨_,_,vs,_,dd⟩:=tX I.bW e
  exact dd.typeIs
 ·let⟨_,_,xs,_,dd⟩:=Bg I.bW e
  exact dd.typeIs
def S5 (td ty:TE):TE:=λU H Q=>td U H λx H1=>ty U H1 λy H2=>∃a v,x=.ref a/\FU H2 a y (some v)/\Q v H2
def UU (ty td:TE):TE:=λU H Q=>ty U H λy H1=>td U H1 λx H2=>∃a o,x=.ref a/\FU H2 a y o/\Q (.bl o.isSome) H2
def Pk (ty td:TE):TE:=λU H Q=>ty U H λy H1=>td U H1 λx H2=>∃a o,x=.ref a/\FU H2 a y o/\Q (.bl (!o.isSome)) H2
def Tc (td ty tv:TE):TS:=λD U H=>tv U H λv H1=>td U H1 λx H2=>ty U H2 λy H3=>∃a H4,x=.ref a/\T4 H3 a y v H4/\D.nx U H4
section
variable {X:Cx} {o i e value:Expr} {pos pos' tpos:Pos} {td ty tv:TE}
def PQ (hu:X.A.units+1<cLine) (ho:PE X o td) (hi:PE X i ty) (hs:Sv i):PE X (.Subscript o i pos) (S5 td ty):=by
 intro pins s U H Q I h;refine Kv PySem.F.slot_dict_getitem.lookup hs (cR (ho pins s U H _ I h) λu s1 ⟨x,H1,I1,rx,q1⟩=>cR (hi pins s1 U H1 _ I1 q1) λiv s2 zz=>?_);let⟨y,H2,I2,ry,a,v,ex,g,q2⟩:=zz;subst ex;obtain rfl:u=Value.ref a:=rx;exact{HM I2 g,Mf hu I2 g ry λw' s3 I3 rw'=>{(v),H2,I3,rw',q2}}
def Jr (hu:X.A.units+1<cLine) (hi:PE X i ty) (ho:PE X o td):PC X .In i o (UU ty td):=by
 intro pins s U H Q I h;refine cR (hi pins s U H _ I h) λiv s1 ⟨y,H1,I1,ry,q1⟩=>cR (ho pins s1 U H1 _ I1 q1) λu s2 zz=>?_;let⟨x,H2,I2,rx,a,ov,ex,g,q2⟩:=zz;subst ex;obtain rfl:u=Value.ref a:=rx;exact Vm hu I2 g ry λs3 I3=>{.bl ov.isSome,H2,I3,rfl,q2}
def Ds (hu:X.A.units+1<cLine) (hi:PE X i ty) (ho:PE X o td):PC X .NotIn i o (Pk ty td):=by
 intro pins s U H Q I h;refine cR (hi pins s U H _ I h) λiv s1 ⟨y,H1,I1,ry,q1⟩=>cR (ho pins s1 U H1 _ I1 q1) λu s2 zz=>?_;let⟨x,H2,I2,rx,a,ov,ex,g,q2⟩:=zz;subst ex;obtain rfl:u=Value.ref a:=rx;exact Qm hu I2 g ry λs3 I3=>{.bl (!ov.isSome),H2,I3,rfl,q2}
def iw (hu:X.A.units+1<cLine) (ho:PE X o td) (hi:PE X i ty) (hv:PE X value tv) (hs:swapsWith value (some (.Subscript o i pos')) pos.line X.env=pure false) :
  PS X (.Assign [.Subscript o i pos'] value pos) (Tc td ty tv):=by
 intro pins s U H D I h;refine wpAny_Assign_Subscript (cR (hv pins s U H _ I h) λr s1 ⟨v,H1,I1,rv,q1⟩=>cR (ho pins s1 U H1 _ I1 q1) λu s2 ⟨x,H2,I2,rx,q2⟩=>cR (hi pins s2 U H2 _ I2 q2) λiv s3 ⟨y,H3,I3,ry,a,H4,ex,g,q3⟩=>?_) hs;subst ex;obtain rfl:u=Value.ref a:=rx;exact Me hu I3 g ry rv λs4 I4=>{U,H4,I4,q3}
end
def OF (h:vz) (hb:sysModules<h.objs.size):cx P w H (h.push {cls:=.type "dict",data:=.dict #[]}) h.objs.size (.dK []):=
 {yf _,xC.mpr (Ne.symm (yi hb)),[],.nil,Heap.DictOf.new h}
def OB (h:vz) (hb:sysModules<h.objs.size):cx P w H (h.push {cls:=.type "dict",data:=.dict #[]}) h.objs.size (.dT []):=
 {yf _,xC.mpr (Ne.symm (yi hb)),[],.nil,_,#[],0,yw _ rfl,{(rfl),rfl,rfl},rfl,rfl,xZ}
def Rm:TE:=λ_ H Q=>∀p,H p=none->Q (.ref p) (upd H p (.dK []))
def Rl:TE:=λ_ H Q=>∀p,H p=none->Q (.ref p) (upd H p (.dT []))
section
variable {X:Cx} {pos:Pos}
def qF:PE X (.Dict [] [] pos) Rm:=λpins s U H Q I h=>
 wpAny_Dict_empty {.ref ↑s,_,I.laid (a:=↑s) (o:=.dK []) (t':=s.toks) (λ_ _ q=>yu _ q) (zk _) (OF s.heap I.big),rfl,h _ (I.bW.fresh (zk _))}
def NT:PE X (.Dict [] [] pos) Rl:=λpins s U H Q I h=>
 wpAny_Dict_empty {.ref ↑s,_,I.laid (a:=↑s) (o:=.dT []) (t':=s.toks) (λ_ _ q=>yu _ q) (zk _) (OB s.heap I.big),rfl,h _ (I.bW.fresh (zk _))}
end
structure M2 (X:Cx) (o:Expr) (m:Str) (apos:Pos) (e f:Expr) (cpos:Pos):Prop where
 base:attributeBase o m X.env (eval o X.env)=eval o X.env
 VQ:((backTo cpos (starEach [e,f] X.env)).all (λx=>!x.1)&&(backToKw cpos (keywordEach [] X.env)).all (λx=>x.1.isSome)
  &&decide (⇑([e,f]:List Expr)+⇑([]:List Keyword)+(if([]:List Keyword).isEmpty then 0 else 1)<30))=true
 line:(apos.endLine == cpos.line)=true
 trees:backTo cpos (starEach [e,f] X.env)=[(false,eval e X.env),(false,eval f X.env)]
def VE (H:Hp) (a:vy):Prop:=(∃kvs,Rd H a (.dK kvs))\/∃kvs,Rd H a (.dT kvs)
def R7 (I:Inv X pins U H s) (d:VE H a) :
  s.TypeIs (.ref a) "dict"/\(∀b,Value.ref a=.ref b->∃ob,s.heap.get? b=some ob/\ob.dict=none)/\(a == sysModules)=false:=by
 rcases d with⟨kvs,e⟩ | ⟨kvs,e⟩
 ·let⟨_,hd,vs,_,dd⟩:=tX I.bW e
  refine{dd.typeIs,λb q=>?_,hd};cases q;let⟨ob,_,_,h1,h2,_⟩:=dd;exact{(ob),h1,h2.2.1}
 ·let⟨_,hd,xs,_,dd⟩:=Bg I.bW e
  refine{dd.typeIs,λb q=>?_,hd};cases q;let⟨ob,_,_,h1,h2,_⟩:=dd;exact{(ob),h1,h2.2.1}
section
variable {X:Cx} {pins:List (vy×Obj)} {U:St} {H:Hp} {s:vq} {a:vy} {y d:V} {u r:vo} {o:Option V} {A:vw} {E:vo->vq->Prop}
def Sl (hu:A.units+1<cLine) (I:Inv X pins U H s) (g:FU H a y o) (ry:RelV y u) (rd:RelV d r) (h:∀w' s',Inv X pins U H s'->RelV (o.getD d) w'->Q w' s') :
  wpAny (model X.prog X.w) A (call (.builtin "dict.get") [.ref a,u,r]) Q E s:=by
 rcases g with⟨kvs,k,e,ey,l⟩ | ⟨kvs,k,b,e,ey,eb,l⟩
 ·subst ey
  let⟨z,hd,vs,rel,dd⟩:=tX I.bW e;refine call_meetsIn PySem.F.slot_dict_get dd.typeIs PySem.F.entry_dict_get (PySem.F.args_dict_get_3 _ _ _) (meets_dict_get_default (cX X.prog X.w) a (DD ry) hd r) {_,dd.mapOf,h _ _ (I.tok _) ?_};rw[l];exact(rel.val k).getD rd
 ·subst ey
  cases(show u=Value.ref b from ry);let⟨z,hd,xs,rel,dd⟩:=Bg I.bW e;refine call_meetsIn PySem.F.slot_dict_get dd.typeIs PySem.F.entry_dict_get (PySem.F.args_dict_get_3 _ _ _) (meetsH_dict_get_default (tupleKind (cX X.prog X.w)) a b hd r) {wy hu,k,xs,sP I.bW eb,dd,h _ _ (I.tok _) ?_};rw[l];exact(rel.val k).getD rd
end
def Ro (td ty tx:TE):TE:=λU H Q=>td U H λx H1=>∃a,x=.ref a/\VE H1 a/\ty U H1 λy H2=>tx U H2 λz H3=>∃o,FU H3 a y o/\Q (o.getD z) H3
section
variable {X:Cx} {o e f:Expr} {apos cpos:Pos} {td ty tx:TE}
def qG (hu:X.A.units+1<cLine) (ho:PE X o td) (he:PE X e ty) (hf:PE X f tx) (m:M2 X o "get" apos e f cpos):PE X (.Call (.Attribute o "get" apos) [e,f] [] cpos) (Ro td ty tx):=by
 intro pins s U H Q I h;refine wpAny_Call_method m.base m.VQ m.line PySem.F.plainAttrs_dict PySem.F.slot_dict_get PySem.F.type_dict_get (cR (ho pins s U H _ I h) λu s1 zz=>?_);let⟨x,H1,I1,rx,a,ex,d,q1⟩:=zz;subst ex;obtain rfl:u=Value.ref a:=rx;let⟨t1,t2,_⟩:=R7 I1 d;refine{t1,t2,?_};rw[m.trees];refine wJ rfl (Calls.evalArgs_plain (wA (cR (he pins s1 U H1 _ I1 q1) λiv s2 ⟨y,H2,I2,ry,q2⟩=>
  wA (cR (hf pins s2 U H2 _ I2 q2) λfv s3 ⟨z,H3,I3,rz,ov,g,q3⟩=>vm ?_))))
 exact Sl hu I3 g ry rz λw' s4 I4 rw'=>{_,H3,I4,rw',q3}
end
section
variable {X:Cx} {pins:List (vy×Obj)} {U:St} {H:Hp} {s:vq} {a:vy} {kvs:List (Key×V)} {A:vw} {E:vo->vq->Prop}
end
section
variable {X:Cx} {pins:List (vy×Obj)} {U:St} {H:Hp} {s:vq} {a:vy} {y:V} {u:vo} {A:vw} {E:vo->vq->Prop}
end
end L2
namespace L2
open PySem PySem.Spec PyProof.Rows
section
variable {κ:Type} [DecidableEq κ]
end
end L2
namespace L2
open PySem PySem.Spec PyProof.Rows
def dF (U₀:St) (g:TG) (tc:TT) (te:TE) (Q:VK) (J:It) (H1:Hp):Prop:=∃W:Nat->Nat->List V->St->Hp->Prop,(∃m,W 0 m [] U₀ H1)/\∀i m xs U' H',W i m xs U' H'->
 (J.stop i H'/\⇑xs<=sizeLine/\∀D,H' D=none->Q (.ref D) (upd H' D (.lst xs)))\/
 (J.go i H'/\⇑xs<sizeLine/\∀x H2,J.II i H' x H2->g x U' H2 λσ3 H3=>tc σ3 H3 λb H4=>if b=true then te σ3 H4 λy H5=>∃m',m'<m/\W (i+1) m' (xs++[y]) σ3 H5 else∃m',m'<m/\W (i+1) m' xs σ3 H4)
def cO (X:Cx) (N:List Str) (scope:Scope) (cl:List (Str×vy)) (C:vy) (s₀:vq) (H₀:Hp) (ex:List vy):Cx:=
 {X with N:=N,s₀:=s₀,H₀:=H₀,env:=compEnvC scope (cellsFrom (C+1) scope.names cl) C X.env,outer:=X.stack,stack:=X.stack,ex:=ex,fn:=λx=>((cellsFrom (C+1) scope.names []).lookup x).isSome,pn:=[],xe:=λ_ _=>False}
def mJ (fr:List (Option Nat)) (wi:TI) (g:TG) (tc:TT) (te:TE):TE:=λU H Q=>wi U H λJ H1=>dF (fr.map λo=>o.bind λj=>(U[j]?).join) g tc te Q J H1
def Qv (X:Cx) (ifs:List Expr) (tc:TT):Prop:=∀(pins:List (vy×Obj)) (s:vq) (U:St) (H:Hp) (Q:Bool->Hp->Prop),Inv X pins U H s->tc U H Q->
 wpAny (model X.prog X.w) X.A (forIn ifs true λc r=>if r=true then do let ok <-isTrue c X.env (eval c X.env);pure (ForInStep.yield ok) else pure (ForInStep.yield r)) (TP X pins U Q) X.xe s
def uf:TT:=λ_ H Q=>Q true H
def bg:Qv X [] uf:=λ_ _ _ H _ I h=>wpAny_tests_nil {(H),I,h}
def gD (h:PT X c tc):Qv X [c] tc:=λpins s U H Q I q=>wpAny_tests_one (h pins s U H Q I q)
theorem df:∀(names:List (Str×NameKind)) (n:Nat) (acc:List (Str×vy)),cellsFrom n names acc=cellsFrom n names []++acc
 | [],_,_=>rfl
 | (x,k)::r,n,acc=>by
  unfold cellsFrom;split
  ·rw[df r (n+1) ((x,n)::acc),df r (n+1) [(x,n)],zE];rfl
  ·exact df r n acc
def PY {h:vz} {lo:Nat} {cs:List (Str×vy)} (ok:CellsOk h lo cs) {x y:Str} {c:vy} (e:cs.lookup x=some c) (e':cs.lookup y=some c):x=y:=by
 let key:∀(l:List (Str×vy)),l.Pairwise (λx y=>x.2≠y.2)->(x,c)∈l->(y,c)∈l->x=y:=by
  intro l
  induction l with
  | nil=>intro _ h;cases h
  | cons p r ih=>
   intro hp h1 h2;rw[y8] at hp;rcases zC.mp h1 with h1 | h1
   ·rcases zC.mp h2 with h2 | h2
    ·rw[<-h1] at h2;exact(Prod.mk.inj h2).1.symm
    ·exact absurd rfl (by have:=hp.1 _ h2;rw[<-h1] at this;exact this)
   ·rcases zC.mp h2 with h2 | h2
    ·exact absurd rfl (by have:=hp.1 _ h1;rw[<-h2] at this;exact this)
    ·exact ih hp.2 h1 h2
 exact key cs ok.apart (mem_of_lookup e) (mem_of_lookup e')
def EY
  (hQ:∀g1:vz,g1.Ns ↑s (λ_=>none)->(∀b o,s.heap.get? b=some o->g1.get? b=some o)->CellsOk g1 (↑s+1) (cellsFrom (↑s+1) scope.names [])->
   Q (newEnv scope ↑s globals (cellsFrom (↑s+1) scope.names cl) qual none .none (some outer) builtinsNs) {s with heap:=g1}) :
  wpAny M A (newFunctionEnv scope globals cl [] qual none .none (some outer)) Q E s:=by
 simp only[newFunctionEnv,Option.isSome_some,vb];refine yt (wpAny_alloc ?_);refine yt (wpAny_layCells _ (λname kind cells=>by cases hkc:kind == NameKind.cell <;> simp[hkc]) _ _ _ _ ?_);let ok:=cellsFrom_ok scope.names (s.heap.push {cls:=.type "dict",data:=.dict #[]}) (↑s+1) [] {λ_ _ hm=>(nomatch hm),List.Pairwise.nil} (by rw[xh];exact zk _);rw[xh] at ok;rw[show({s with heap:=s.heap.push {cls:=.type "dict",data:=.dict #[]}}:vq).heap.objs.size=↑s+1 from xh ..];exact yt (yv (yv (hQ _ ((Heap.Ns.new s.heap (.type "dict")).keeps (pushCells_keeps _ _)) (λb o e=>pushCells_keeps _ _ b o (yu _ e)) ok)))
def J1 (I:Nat->vq->Prop)
  (turn:∀n s,I n s->wpAny (model prog w) A (pyNext it) (λr s1=>match r with
   | none=>R (.ok .next) s1
   | some v=>wpAny (model prog w) A (letOwnedTupleGo target it v) (λ_ s2=>wpAny (model prog w) A (assign target env v) (λ_ s3=>
     wpAny (model prog w) A (forIn ifs true λc r=>if r=true then do let ok <-isTrue c env (eval c env);pure (ForInStep.yield ok) else pure (ForInStep.yield r)) (λok s3'=>if ok=true then wpAny (model prog w) A (eval elt env) (λx s4=>
     wpAny (model prog w) A (call (.builtin "list.append") [acc,x]) (λ_ s5=>∃m,m<n/\I m s5) (λ_ _=>False) s4) (λ_ _=>False) s3' else∃m,m<n/\I m s3') (λ_ _=>False) s3) (λ_ _=>False) s2) (λ_ _=>False) s1) (λ_ _=>False) s)
  (n:Nat) (h:I n s):codeAny (model prog w) A (.compLoop (.ListComp elt [{target,iter,ifs,0}] scope pos) 0 it acc env) R s:=by
 refine codeAny_loop rfl I (λn s hI=>?_) n h;show wpAny _ _ ((compTurn (.ListComp elt [{target,iter,ifs,0}] scope pos) 0 it acc env).onRaise (λx=>do noteFrame x env;theTreesLotGoes x)) _ _ s;refine wpAny_noted ?_;rw[compTurn_list];let no:∀(E:vo->vq->Prop) (x:vo) (s':vq),False->E x s':=λ_ _ _ f=>f.elim;refine yt (wpAny_standAt (yt (xa (turn n s hI) (λr s1 h1=>?_) (no _))));cases r with
 | none=>exact yv h1
 | some v=>
  refine yt (xa h1 (λ_ s2 h2=>yt (xa h2 (λ_ s3 h3=>yt (xa h3 (λok s3' h3'=>?_) (no _))) (no _))) (no _));cases ok with
  | false=>
   rw[yM ∅] at h3';exact yv {(rfl),h3'}
  | true=>
   rw[yN rfl] at h3';exact yt (yt (xa h3' (λx s4 h4=>yt (xa h4 (λ_ s5 h5=>yv (yv {(rfl),h5})) (no _))) (no _)))
section
variable {X:Cx} {pos:Pos}
def By {elt target iter:Expr} {scope:Scope} {N:List Str} {fr:List (Option Nat)} {cl:List (Str×vy)} {g:TG} {tc:TT} {te:TE} {ifs:List Expr} (hc:X.calm=true) (hsub:∀x c,cl.lookup x=some c->X.env.cells.lookup x=some c) (hhas:∀C x,((compEnvC scope cl C X.env).kindOf x=some .cell\/(compEnvC scope cl C X.env).kindOf x=some .free)->(∃c,cl.lookup x=some c)\/∃c,(cellsFrom (C+1) scope.names []).lookup x=some c)
  (hlen:⇑fr=N.length) (hfr:∀(i:Nat) x j,N[i]?=some x->fr[i]?=some (some j)->X.N[j]?=some x/\Sr X.env.scope x/\X.env.kindOf x≠some .local/\(∀C,(compEnvC scope cl C X.env).kindOf x=some .cell\/(compEnvC scope cl C X.env).kindOf x=some .free)/\(∀c,X.env.cells.lookup x=some c->cl.lookup x=some c)/\∀C,(cellsFrom (C+1) scope.names []).lookup x=none) (hkind:scope.kind=.function)
  (hg:∀C s₀ H₀ ex,PG (cO X N scope cl C s₀ H₀ ex) target g) (hif:∀C s₀ H₀ ex,Qv (cO X N scope cl C s₀ H₀ ex) ifs tc) (he:∀C s₀ H₀ ex,PE (cO X N scope cl C s₀ H₀ ex) elt te)
  {pins:List (vy×Obj)} {U:St} {s2:vq} {it:vy} {fp:List vy} {tn:Nat->vz->Prop} {J:It} {H2:Hp} {Q:VK} {RR:vo->vy->Result->vq->Prop} (I2:Inv X pins U H2 s2) (T:Turn X.prog X.w X.K target J fp it tn) (st2:tn 0 s2.heap) (f2:∀b∈fp,pN X pins H2 b)
  (ok:dF (fr.map λo=>o.bind λj=>(U[j]?).join) g tc te Q J H2)
  (fin:∀D C s4 H' xs,↑s2<=D->↑s2<=C->C≠D->Inv X pins U (upd H' D (.lst xs)) s4->H' D=none->H' C=none->(∃m,s4.heap.Ns C m)->(∀D,H' D=none->Q (.ref D) (upd H' D (.lst xs)))->RR (.ref D) C (.ok .next) s4) :
  wpAny (model X.prog X.w) X.A (newList []) (λacc s3=>wpAny (model X.prog X.w) X.A (newFunctionEnv scope X.env.globals cl [] X.env.qual none .none (some X.env)) (λcenv s4=>
   codeAny (model X.prog X.w) X.A (.compStart (.ListComp elt [{target,iter,ifs,0}] scope pos) 0 (.ref it) acc {cenv with scope:=relabel scope X.env}) (RR acc cenv.locals) s4) X.xe s3) X.xe s2:=by
 let⟨W,⟨m0,w0⟩,turn⟩:=ok;refine y9 (EY λg1 hns hold hown=>?_);dsimp only at hns hold hown ⊢;generalize hG:s2.heap.push {cls:=.type "list",dict:=none,data:=.seq ([]:List vo).toArray}=G2 at hns hold hown ⊢;let hC:G2.objs.size=↑s2+1:=by rw[<-hG,xh]
 let below:∀b,b<↑s2->b≠G2.objs.size/\b≠↑s2:=λb hb=>{by rw[hC];exact yi (wI hb),yi hb}
 let hDC:↑s2≠G2.objs.size:=by rw[hC];exact yi (xN _)
 let old:∀b o,s2.heap.get? b=some o->g1.get? b=some o:=λb o e=>hold b o (hG▸yu _ e);let hacc:g1.get? ↑s2=some {cls:=.type "list",data:=.seq ([]:List vo).toArray 0}:=hold _ _ (hG▸yw _ rfl);let hsC:↑s2<G2.objs.size:=by rw[hC];exact xN _
 let csl:∀x c,(cellsFrom (G2.objs.size+1) scope.names cl).lookup x=some c->((cellsFrom (G2.objs.size+1) scope.names []).lookup x=some c/\G2.objs.size<c/\g1.IsCell c none)\/((cellsFrom (G2.objs.size+1) scope.names []).lookup x=none/\cl.lookup x=some c/\X.env.cells.lookup x=some c/\c<↑s2):=λx c e=>by
  rw[df,wz] at e;cases q:(cellsFrom (G2.objs.size+1) scope.names []).lookup x with
  | some d=>
   rw[q] at e;cases e;let⟨z1,z2⟩:=hown.empty x _ (mem_of_lookup q);exact .inl {(rfl),z2,z1}
  | none=>
   rw[q] at e;let⟨v,z⟩:=I2.cell x c (hsub x c e);exact .inr {rfl,e,hsub x c e,z.lt}
 let fplt:∀b∈fp,b<↑s2:=λb hb=>let ⟨o,e,_⟩:=T.obj _ _ st2 b hb;yx e;let O6:∀b∈fp,∀x c,(cellsFrom (G2.objs.size+1) scope.names cl).lookup x=some c->c≠b:=λb hb x c e=>by
  rcases csl x c e with⟨_,l,_⟩ | ⟨_,_,z,_⟩
  ·exact yh (xD (fplt b hb) (xD hsC l))
  ·exact(f2 b hb).2.2.2.2.1 x c z
 letI Y:Cx:=cO X N scope cl G2.objs.size s2 H2 fp
 let okY:Y.Ok:=by
  refine{I2.ok.mod,hkind,I2.ok.glob,I2.ok.blt,?_,λx y c e e'=>?_,λx hx=>?_,λx c hf e=>?_,I2.ok.hd,I2.ok.frames,.inl rfl,λb hb=>{(below b (fplt b hb)).1,λx c e=>O6 b hb x c e},I2.bs,zL I2.ok.MG I2.sz,λb o e hb=>?_,λb hb hf=>?_,I2.stack,I2.pS}
  ·show ↑s2<=G2.objs.size
   rw[hC];exact xY _
  ·rcases csl x c e with⟨q,l,_⟩ | ⟨_,q,z,l⟩
   ·rcases csl y c e' with⟨q',l',_⟩ | ⟨_,q',z',l'⟩
    ·exact PY hown q q'
    ·exact absurd (xD (xD hsC l) l') (ye _)
   ·rcases csl y c e' with⟨q',l',_⟩ | ⟨_,q',z',l'⟩
    ·exact absurd (xD (xD hsC l') l) (ye _)
    ·exact I2.ok.inj x y c z z'
  ·show∃c,(cellsFrom (G2.objs.size+1) scope.names cl).lookup x=some c
   rw[df,wz];rcases hhas G2.objs.size x hx with⟨c,e⟩ | ⟨c,e⟩
   ·rw[e];cases(cellsFrom (G2.objs.size+1) scope.names []).lookup x with
    | none=>exact{(c),rfl}
    | some d=>exact{(d),rfl}
   ·rw[e];exact{(c),rfl}
  ·let hf':((cellsFrom (G2.objs.size+1) scope.names []).lookup x).isSome=true:=hf
   rcases csl x c e with⟨q,l,_⟩ | ⟨q,_⟩
   ·exact yg (xD hsC l)
   ·rw[q] at hf';cases hf'
  ·rcases(f2 b hb).2.2.2.1 with z | z
   ·exact I2.ok.uO b o e z
   ·exact absurd (yb (yx e) (zL I2.ok.MG z)) (ye _)
  ·rcases zC.mp (I2.Ef b hf) with z | z
   ·exact(f2 b hb).2.1 z
   ·exact(f2 b hb).2.2.1 z
 let cl2:∀x c,(cellsFrom (G2.objs.size+1) scope.names cl).lookup x=some c->(∃v,g1.IsCell c v)/\H2 c=none/\c≠↑s2:=λx c e=>by
  rcases csl x c e with⟨_,l,z⟩ | ⟨_,_,z,l⟩
  ·exact{{_,z},I2.bW.fresh (yg (xD hsC l)),yh (xD hsC l)}
  ·let⟨v,oc,hoc,hd⟩:=I2.cell x c z
   exact{{v,oc,old _ _ hoc,hd},I2.jQ x c z,yi l}
 let Dfs:↑s2∉Y.fs:=λhb=>by
  rcases zC.mp (I2.Ef _ hb) with z | z
  ·exact absurd (z▸I2.lt) (ye _)
  ·exact I2.Tj (zk _) z
 let hCf:H2 G2.objs.size=none:=I2.bW.fresh (by rw[hC];exact xY _);let start:∀tk,Inv Y [(↑s2,{cls:=.type "list",data:=.seq ([]:List vo).toArray 0})] (fr.map λo=>o.bind λj=>(U[j]?).join) H2 {s2 with heap:=g1,toks:=tk}:=λtk=>
  {okY,rfl,I2.bare,Un.kept old,{_,hns,λi x v e1 e2 _=>by
    rw[zJ] at e2;cases ef:fr[i]? with
    | none=>rw[ef] at e2;cases e2
    | some o=>
     cases o with
     | none=>rw[ef] at e2;cases e2
     | some j=>
      rw[ef] at e2;let e2':(U[j]?).join=some v:=by simpa using e2
      let ej:U[j]?=some (some v):=by
       cases q:U[j]? with
       | none=>rw[q] at e2';cases e2'
       | some w=>rw[q] at e2';cases w with
        | none=>cases e2'
        | some w=>cases e2';rfl
      let⟨k1,k2,k3,k4,k5,k6⟩:=hfr i x j e1 ef;let⟨m,_,hl⟩:=I2.loc;let⟨u,r,l⟩:=hl j x v k1 ej k2;refine{u,r,?_};rcases l with l | ⟨_,c,ec,z⟩
      ·exact absurd l.1 k3
      ·let⟨oc,hoc,hd⟩:=z
       exact .inr {k4 G2.objs.size,c,by show(cellsFrom (G2.objs.size+1) scope.names cl).lookup x=some c;rw[df,wz,k6];exact k5 c ec,oc,old _ _ hoc,hd}},
   λx c e=>(cl2 x c e).1,hCf,λx c e=>(cl2 x c e).2.1,
   λp hp=>by
    let e:p=(↑s2,{cls:=.type "list",data:=.seq ([]:List vo).toArray 0}):=by simpa using (show p∈[]++[_] from hp)
    subst e;exact{hacc,I2.bW.fresh (zk _),hDC,Dfs,λv z=>by cases z},I2.bW.kept old,by rw[za,hlen];rfl}
 let stat:∀{H':Hp} {ob:Obj},(∀b∈fp,H' b=none)->∀b∈fp,pN Y [(↑s2,ob)] H' b:=λ{H' ob} hn b hb=>by
  refine{hn b hb,(below b (fplt b hb)).1,λz=>okY.JM b hb z,.inl hb,O6 b hb,λp hp=>?_};let e:p=(↑s2,ob):=by simpa using (show p∈[]++[_] from hp)
  subst e;exact(below b (fplt b hb)).2.symm
 let loop:∀tk,codeAny (model X.prog X.w) X.A (.compLoop (.ListComp elt [{target,iter,ifs,0}] scope pos) 0 (.ref it) (.ref ↑s2) (compEnvC scope (cellsFrom (G2.objs.size+1) scope.names cl) G2.objs.size X.env))
   (RR (.ref ↑s2) G2.objs.size) {s2 with heap:=g1,toks:=tk}:=by
  intro tk;refine J1 (λn s'=>∃i U' H' xs its k,Inv Y [(↑s2,{cls:=.type "list",data:=.seq its.toArray k})] U' H' s'/\tn i s'.heap/\(∀b∈fp,H' b=none)/\Vals xs its/\W i n xs U' H') ?_ m0
   {0,_,H2,[],[],0,start tk,T.keep _ _ _ st2 λb _ o e=>old b o e,λb hb=>(f2 b hb).1,.nil,w0}
  rintro n s3 ⟨i,σ3,H3,xs,its,k,I3,st3,fr3,rv3,w3⟩;rcases turn i n xs σ3 H3 w3 with⟨stop,hz,qn⟩ | ⟨go,hz,step⟩
  ·refine cR (T.done Y rfl rfl rfl hc i _ s3 σ3 H3 _ I3 (stat fr3) st3 stop) λr s4 ⟨hr,I4⟩=>?_
   subst hr;let⟨m,hm,_⟩:=id I4.loc;let⟨pD,nD,neD,fD,_⟩:=I4.pin (↑s2,{cls:=.type "list",data:=.seq its.toArray k}) (by show _∈[]++[_];simp);refine fin ↑s2 G2.objs.size s4 H3 xs (zk _) (by rw[hC];exact xY _) hDC.symm (I2.OL (s':=s4) (ch:=fp) I4.os ?_ ?_ I4.bare (λb hb=>{(f2 b hb).2.2.2.1,(f2 b hb).2.1,(f2 b hb).2.2.2.2.1,(f2 b hb).2.2.2.2.2})) nD I4.free {(m),hm} qn
   ·let ub:Un Y.fs Y.ex H2 H3 s2.heap s4.heap:=I4.base
    let lt:∀b o,s2.heap.get? b=some o->b≠G2.objs.size/\b≠↑s2:=λb o e=>below b (yx e);refine{λb o e n hb hx=>ub.keep b o e n hb hx,λb o e n hb hx=>ub.slot b o e n hb hx,λb o e n hx=>?_,λb o e hx=>ub.there b o e hx,λb ys e=>?_,λb o u e=>?_,λb ps e=>?_}
    ·rw[aG (lt b o e).2];exact ub.free b o e n hx
    ·let q:=ub.nY b ys e
     rw[aG (bw q nD)];exact q
    ·let q:=ub.mq b o u e
     rw[aG (bw q nD)];exact q
    ·let⟨more,q⟩:=ub.nZ b ps e
     exact{more,by rw[aG (bw q nD)];exact q}
   ·intro b u e
    by_cases hb:b=↑s2
    ·subst hb;rw[aF] at e;cases e
     exact{(hz),its,k,rv3,pD}
    ·rw[aG hb] at e
     exact(I4.bW b u e).kI (λc v hc' q=>q) (λc q=>by rw[aG (bw q nD)];exact q) λc ys q=>by rw[aG (bw q nD)];exact q
  ·refine cR (T.item Y rfl rfl rfl hc i _ s3 σ3 H3 _ I3 (stat fr3) st3 go) λr s4 ⟨u,hr,h4⟩=>?_
   subst hr;refine cR h4 λ_ s5 zz=>?_;let⟨x,H5,I5,r5,y5,st5,fr5⟩:=zz;let I5':=I5.pinned (stat fr5) (T.obj _ _ st5);refine cR (hg G2.objs.size s2 H2 fp _ s5 σ3 H5 x u _ I5' r5 (step x H5 y5)) λ_ s6 ⟨σ6,H6,I6,q6⟩=>?_;refine cR (hif G2.objs.size s2 H2 fp _ s6 σ6 H6 _ I6 q6) λb s6' ⟨H6',I6',q6'⟩=>?_;cases b with
   | false=>
    rw[yM ∅] at q6' ⊢;let⟨m',hm,w7⟩:=q6';let inD:(↑s2,({cls:=.type "list",data:=.seq its.toArray k}:Obj))∈Y.pn++([(↑s2,({cls:=.type "list",data:=.seq its.toArray k}:Obj))]++sD fp s5.heap):=by show _∈[]++_;simp
    let⟨pD,nD,neD,fD,dD⟩:=I6'.pin _ inD;let I7':Inv Y [] σ6 H6' s6':=I6'.nL λp hp=>nomatch hp;refine{m',hm,i+1,σ6,H6',xs,its,k,I7'.nL λp hp=>?_,T.keep _ _ _ st5 (λb hb o e=>(I6'.pin (b,o) (zH _ (zH _ (gk hb e)))).1),λb hb=>?_,rv3,w7}
    ·let e:p=(↑s2,{cls:=.type "list",data:=.seq its.toArray k}):=by simpa using hp
     subst e;exact{(pD),nD,neD,fD,dD}
    ·let⟨o,e,d⟩:=T.obj _ _ st5 b hb
     exact(I6'.pin (b,o) (zH _ (zH _ (gk hb e)))).2.1
   | true=>
   rw[yN rfl] at q6' ⊢;refine cR (he G2.objs.size s2 H2 fp _ s6' σ6 H6' _ I6' q6') λv s7 zz=>?_;let⟨y,H7,I7,r7,m',hm,w7⟩:=zz;let inD:(↑s2,({cls:=.type "list",data:=.seq its.toArray k}:Obj))∈Y.pn++([(↑s2,({cls:=.type "list",data:=.seq its.toArray k}:Obj))]++sD fp s5.heap):=by show _∈[]++_;simp
   let⟨pD,nD,neD,fD,dD⟩:=I7.pin _ inD;let hlen:=⇑rv3;refine wpAny_list_append_plain (items:=its.toArray) (hsz:=by rw[ya];ext) {(k),pD} λg8 pl8 sb8=>?_;let⟨k8,e8⟩:=pl8;let I7':Inv Y [] σ6 H7 s7:=I7.nL λp hp=>nomatch hp;let I8:Inv Y [] σ6 H7 {s7 with heap:=g8}:=I7'.turned (t':=s7.toks) (λb o hb e=>sb8.extBut b o hb e) nD neD (.inr (zk _)) (λx c e=>(cl2 x c e).2.2) (λp hp=>(nomatch (show p∈([]:List (vy×Obj)) from hp)));let e8':g8.get? ↑s2=some {cls:=.type "list",data:=.seq (its++[v]).toArray k8}:=by rw[e8];simp
   let fpD:∀b∈fp,∀o,s5.heap.get? b=some o->g8.get? b=some o:=λb hb o e=>sb8.extBut b o (below b (fplt b hb)).2 (I7.pin (b,o) (zH _ (zH _ (gk hb e)))).1;refine{m',hm,i+1,σ6,H7,xs++[y],its++[v],k8,I8.nL λp hp=>?_,T.keep _ _ _ st5 fpD,λb hb=>?_,rv3.append (.cons r7 .nil),w7}
   ·let e:p=(↑s2,{cls:=.type "list",data:=.seq (its++[v]).toArray k8}):=by simpa using hp
    subst e;exact{e8',nD,neD,fD,λv z=>by cases z}
   ·let⟨o,e,d⟩:=T.obj _ _ st5 b hb
    exact(I7.pin (b,o) (zH _ (zH _ (gk hb e)))).2.1
 exact codeAny_compStart_list (loop _) (T.self _ _ _ _ _ (T.keep _ _ _ st2 λb _ o e=>old b o e) (loop _))
def LL {elt target iter:Expr} {scope:Scope} {N:List Str} {fr:List (Option Nat)} {cl:List (Str×vy)} {wi:TI} {g:TG} {tc:TT} {te:TE} {ifs:List Expr} (hc:X.calm=true) (hclos:closureFor scope X.env=pure cl) (hsub:∀x c,cl.lookup x=some c->X.env.cells.lookup x=some c) (hhas:∀C x,((compEnvC scope cl C X.env).kindOf x=some .cell\/(compEnvC scope cl C X.env).kindOf x=some .free)->(∃c,cl.lookup x=some c)\/∃c,(cellsFrom (C+1) scope.names []).lookup x=some c)
  (hlen:⇑fr=N.length) (hfr:∀(i:Nat) x j,N[i]?=some x->fr[i]?=some (some j)->X.N[j]?=some x/\Sr X.env.scope x/\X.env.kindOf x≠some .local/\(∀C,(compEnvC scope cl C X.env).kindOf x=some .cell\/(compEnvC scope cl C X.env).kindOf x=some .free)/\(∀c,X.env.cells.lookup x=some c->cl.lookup x=some c)/\∀C,(cellsFrom (C+1) scope.names []).lookup x=none) (hkind:scope.kind=.function)
  (hnames:∀y∈scope.names,y.2=.local->scope.names.lookup y.1=some .local) (hi:PI X target iter wi)
  (hg:∀C s₀ H₀ ex,PG (cO X N scope cl C s₀ H₀ ex) target g) (hif:∀C s₀ H₀ ex,Qv (cO X N scope cl C s₀ H₀ ex) ifs tc) (he:∀C s₀ H₀ ex,PE (cO X N scope cl C s₀ H₀ ex) elt te) (hs:(∀x,foldedSetIterable iter X.env x=pure x)<|>qd_) :
  PE X (.ListComp elt [{target,iter,ifs,0}] scope pos) (mJ fr wi g tc te):=by
 intro pins s U H Q I h;rw[eval_ListComp];refine wpAny_comprehension_free (use:=none) (cl:=cl) rfl hs hclos hkind hnames (cR (hi pins s U H _ I h) λxv s1 h1=>cR h1 λitv s2 h2=>?_);let⟨it,fp,tn,J,H2,e,I2,T,st2,f2,ok⟩:=h2;subst e;refine By (RR:=λacc C=>compPost (model X.prog X.w) X.A X.xe none (EP X pins U Q) acc C) hc hsub hhas hlen hfr hkind hg hif he I2 T st2 f2 ok ?_;intro D C s4 H' xs hD hC hne I4 nD nC ⟨m,hm⟩ qn;refine{m,hm,λg5 hs5=>{.ref D,upd H' D (.lst xs),I2.Tr hC I4 (by rw[aG hne];exact nC) hs5,rfl,qn D nD}}
def LH {elt target iter:Expr} {scope:Scope} {N:List Str} {fr:List (Option Nat)} {cl:List (Str×vy)} {wi:TI} {g:TG} {tc:TT} {te:TE} {ifs:List Expr} (hc:X.calm=true) (hclos:closureFor scope X.env=pure cl) (hsub:∀x c,cl.lookup x=some c->X.env.cells.lookup x=some c) (hhas:∀C x,((compEnvC scope cl C X.env).kindOf x=some .cell\/(compEnvC scope cl C X.env).kindOf x=some .free)->(∃c,cl.lookup x=some c)\/∃c,(cellsFrom (C+1) scope.names []).lookup x=some c)
  (hlen:⇑fr=N.length) (hfr:∀(i:Nat) x j,N[i]?=some x->fr[i]?=some (some j)->X.N[j]?=some x/\Sr X.env.scope x/\X.env.kindOf x≠some .local/\(∀C,(compEnvC scope cl C X.env).kindOf x=some .cell\/(compEnvC scope cl C X.env).kindOf x=some .free)/\(∀c,X.env.cells.lookup x=some c->cl.lookup x=some c)/\∀C,(cellsFrom (C+1) scope.names []).lookup x=none) (hkind:scope.kind=.function)
  (hnames:∀y∈scope.names,y.2=.local->scope.names.lookup y.1=some .local) (hi:PI X target iter wi)
  (hg:∀C s₀ H₀ ex,PG (cO X N scope cl C s₀ H₀ ex) target g) (hif:∀C s₀ H₀ ex,Qv (cO X N scope cl C s₀ H₀ ex) ifs tc) (he:∀C s₀ H₀ ex,PE (cO X N scope cl C s₀ H₀ ex) elt te) (hs:(∀x,foldedSetIterable iter X.env x=pure x)<|>qd_)  {i:Nat} {x:Str} {ps pa:Pos} (hN:X.N.Nodup) (hx1:X.N[i]?=some x) (hx2:Loc X.env.scope x) (hsw:swapsWith (.ListComp elt [{target,iter,ifs,0}] scope pos) (some (.Name x ps)) pa.line X.env=pure true<|>qe_)
  (hf:X.fn x=true\/X.env.scope.names.lookup x=some .local<|>qa_) :
  PS X (.Assign [.Name x ps] (.ListComp elt [{target,iter,ifs,0}] scope pos) pa) (Ga (mJ fr wi g tc te) (bY i)):=by
 intro pins s U H D I h;rw[exec_Assign_Name_used _ _ _ _ hsw];refine yt (wpAny_standAt (yt ?_));show wpAny _ X.A (do let _ <-comprehension (.ListComp elt [{target,iter,ifs,0}] scope pos) scope X.env _ (newList []) false (eval iter X.env) (some (assign (.Name x ps) X.env))) _ _ s;refine yt (xa (wpAny_comprehension_free (use:=some (assign (.Name x ps) X.env)) (cl:=cl) (Q:=λ_ s'=>SP X pins D .next s') rfl hs hclos hkind hnames (cR (hi pins s U H _ I h) λxv s1 h1=>cR h1 λitv s2 h2=>?_)) (λ_ s' hq=>yv (yv hq)) λ_ _ e=>e);let⟨it,fp,tn,J,H2,e,I2,T,st2,f2,ok⟩:=h2;subst e;refine By (RR:=λacc C=>compPost (model X.prog X.w) X.A X.xe (some (assign (.Name x ps) X.env)) (λ_ s'=>SP X pins D .next s') acc C) hc hsub hhas hlen hfr hkind hg hif he I2 T st2 f2 ok ?_;intro E C s4 H' xs hE hC hne I4 nE nC ⟨m,hm⟩ qn;show wpAny _ X.A (assign (.Name x ps) X.env (.ref E)) _ _ s4;refine wpAny_assign_Name (Dl I4 hN hx1 hx2 (v:=.ref E) rfl (λs5 I5 hw=>?_) hf);let⟨aw,sb,ha⟩:=hw;let hCn:(upd H' E (.lst xs)) C=none:=by rw[aG hne];exact nC
 let⟨f0,f1,f2',f3,f4,f5⟩:=I2.uS hC hCn;let neC:C≠aw:=by
  rcases ha with z | z
  ·rw[z];exact f1
  ·exact λq=>f4 x aw z q.symm
 refine{m,hm.sameBut sb neC,λg6 hs6=>?_};exact{_,_,I2.Tr hC I5 hCn hs6,qn E nE}
end
def FN (cells:List (Str×vy)):List (Str×vy)->Prop
 | []=>True
 | p::r=>cells.lookup p.1=some p.2/\FN cells r
theorem FN.sub:∀{cl:List (Str×vy)},FN cells cl->∀x c,cl.lookup x=some c->cells.lookup x=some c
 | [],_,x,c,e=>by cases e
 | (y,d)::r,h,x,c,e=>by
  rw[yp] at e;split at e
  ·rename_i q
   cases e;rw[eq_of_beq q];exact h.1
  ·exact FN.sub h.2 x c e
def MD (X:Cx) (scope:Scope) (cl:List (Str×vy)):List Str->List Nat->Prop
 | [],[]=>True
 | y::ys,j::js=>(X.N[j]?=some y/\(X.env.kindOf y=some .cell\/X.env.kindOf y=some .free)/\((relabel scope X.env).names.lookup y=some .cell\/(relabel scope X.env).names.lookup y=some .free)/\∃c,X.env.cells.lookup y=some c/\cl.lookup y=some c)/\MD X scope cl ys js
 | _,_=>False
theorem MD.len:∀{ys:List Str} {js:List Nat},MD X scope cl ys js->⇑js=⇑ys
 | [],[],_=>rfl
 | _::_,_::_,h=>by rw[zt,zt,MD.len h.2]
 | [],_::_,h=>h.elim
 | _::_,[],h=>h.elim
theorem MD.get:∀{ys:List Str} {js:List Nat} {i:Nat} {y:Str} {j:Nat},MD X scope cl ys js->ys[i]?=some y->js[i]?=some j->
  X.N[j]?=some y/\(X.env.kindOf y=some .cell\/X.env.kindOf y=some .free)/\((relabel scope X.env).names.lookup y=some .cell\/(relabel scope X.env).names.lookup y=some .free)/\∃c,X.env.cells.lookup y=some c/\cl.lookup y=some c
 | [],_,_,_,_,_,e,_=>by simp at e
 | _::_,[],_,_,_,h,_,_=>h.elim
 | y::ys,j::js,0,_,_,h,e,e'=>by simp at e e';subst e e';exact h.1
 | y::ys,j::js,i+1,_,_,h,e,e'=>MD.get (i:=i) h.2 (by simpa using e) (by simpa using e')
theorem J3:∀{names:List (Str×NameKind)} {n:Nat} {x:Str} {c:vy},(cellsFrom n names []).lookup x=some c->(x,NameKind.cell)∈names
 | [],_,_,_,e=>by cases e
 | (y,k)::r,n,x,c,e=>by
  unfold cellsFrom at e;split at e
  ·rename_i hk
   rw[df,wz] at e;cases q:(cellsFrom (n+1) r []).lookup x with
   | some d=>exact zm _ (J3 q)
   | none=>
    rw[q] at e;let e':([(y,n)]:List (Str×vy)).lookup x=some c:=e;rw[yp] at e';split at e'
    ·rename_i z
     rw[eq_of_beq z,eq_of_beq hk];exact zp
    ·cases e'
  ·exact zm _ (J3 e)
theorem J4:∀{names:List (Str×NameKind)} {n:Nat} {x:Str},(x,NameKind.cell)∈names->∃c,(cellsFrom n names []).lookup x=some c
 | [],_,_,h=>by cases h
 | (y,k)::r,n,x,h=>by
  unfold cellsFrom;split
  ·rw[df,wz]
   cases q:(cellsFrom (n+1) r []).lookup x with
   | some d=>exact{(d),rfl}
   | none=>
    rcases zC.mp h with h | h
    ·let⟨e1,_⟩:=Prod.mk.inj h
     exact{n,by show([(y,n)]:List (Str×vy)).lookup x=some n;rw[e1,yp,wc]}
    ·let⟨c,e⟩:=J4 (n:=n+1) h
     rw[q] at e;cases e
  ·rename_i hk
   rcases zC.mp h with h | h
   ·cases h;exact absurd rfl hk
   ·exact J4 h
theorem tR:∀{L:List (Str×NameKind)} {x:Str} {k:NameKind},L.lookup x=some k->(x,k)∈L
 | [],_,_,h=>by cases h
 | (y,j)::r,x,k,h=>by
  rw[yp] at h;split at h
  ·rename_i q;cases h;rw[eq_of_beq q];exact zp
  ·exact zm _ (tR h)
section
variable {X:Cx} {pos:Pos} {elt target iter:Expr} {ifs:List Expr} {scope:Scope} {ts ys:List Str} {js:List Nat} {cl:List (Str×vy)} {wi:TI} {g:TG} {tc:TT} {te:TE}
def DP (hcl:FN X.env.cells cl) (hLo:((relabel scope X.env).names.all λp=>(p.2 != .cell&&p.2 != .free)||ys.contains p.1||scope.names.contains (p.1,.cell))=true) (hno:∀p∈scope.names,p.2=.cell->p.1∉ys) (hfr:MD X scope cl ys js) :
  (∀(C:vy) x,((compEnvC scope cl C X.env).kindOf x=some .cell\/(compEnvC scope cl C X.env).kindOf x=some .free)->(∃c,cl.lookup x=some c)\/∃c,(cellsFrom (C+1) scope.names []).lookup x=some c)/\
  ⇑(ts.map (λ_=>(none:Option Nat))++js.map some)=⇑(ts++ys)/\
  (∀(i:Nat) x j,(ts++ys)[i]?=some x->(ts.map (λ_=>(none:Option Nat))++js.map some)[i]?=some (some j)->X.N[j]?=some x/\Sr X.env.scope x/\X.env.kindOf x≠some .local/\(∀C,(compEnvC scope cl C X.env).kindOf x=some .cell\/(compEnvC scope cl C X.env).kindOf x=some .free)/\(∀c,X.env.cells.lookup x=some c->cl.lookup x=some c)/\∀C,(cellsFrom (C+1) scope.names []).lookup x=none):=by
 refine{λC x hx=>?_,by simp[MD.len hfr],λi x j h1 h2=>?_}
 ·let key:∀k,(relabel scope X.env).names.lookup x=some k->(k=.cell\/k=.free)->(∃c,cl.lookup x=some c)\/∃c,(cellsFrom (C+1) scope.names []).lookup x=some c:=λk hk hk'=>by
   have:=(yo.mp hLo) _ (tR hk);rw[Bool.or_eq_true,Bool.or_eq_true] at this;rcases this with(z | z) | z
   ·rcases hk' with rfl | rfl <;> simp at z
   ·let hm:x∈ys:=List.contains_iff_mem.mp z
    let⟨n,hn⟩:=List.getElem?_of_mem hm;let hl:n<⇑js:=by rw[hfr.len];exact(zw.mp hn).1
    let⟨_,_,_,c,_,e⟩:=hfr.get hn (zb hl);exact .inl {(c),e}
   ·exact .inr (J4 (List.contains_iff_mem.mp z))
  rcases hx with hx | hx
  ·exact key _ hx (.inl rfl)
  ·exact key _ hx (.inr rfl)
 ·let hi:⇑ts<=i:=by
   rcases xE i ⇑ts with h | h
   ·rw[wj (by simpa using h),zJ] at h2
    cases q:ts[i]? with
    | none=>rw[q] at h2;cases h2
    | some z=>rw[q] at h2;cases h2
   ·exact h
  rw[zZ hi] at h1;rw[zZ (by simpa using hi),za,zJ] at h2;let h2':js[i-⇑ts]?=some j:=by
   cases q:js[i-⇑ts]? with
   | none=>rw[q] at h2;cases h2
   | some z=>rw[q] at h2;cases h2;rfl
  let⟨k1,k2,k3,c,k4,k5⟩:=hfr.get h1 h2';refine{k1,.inr k2,λz=>?_,λC=>k3,λd hd=>?_,λC=>?_}
  ·rcases k2 with k2 | k2 <;> (rw[z] at k2;cases k2)
  ·rw[k4] at hd;cases hd;exact k5
  ·cases q:(cellsFrom (C+1) scope.names []).lookup x with
   | none=>rfl
   | some d=>exact absurd (zB h1) (hno _ (J3 q) rfl)
def NU (hc:X.calm=true) (hclos:closureFor scope X.env=pure cl) (hcl:FN X.env.cells cl) (hLo:((relabel scope X.env).names.all λp=>(p.2 != .cell&&p.2 != .free)||ys.contains p.1||scope.names.contains (p.1,.cell))=true) (hno:∀p∈scope.names,p.2=.cell->p.1∉ys) (hfr:MD X scope cl ys js) (hkind:scope.kind=.function)
  (hnames:∀y∈scope.names,y.2=.local->scope.names.lookup y.1=some .local) (hi:PI X target iter wi)
  (hg:∀C s₀ H₀ ex,PG (cO X (ts++ys) scope cl C s₀ H₀ ex) target g) (hif:∀C s₀ H₀ ex,Qv (cO X (ts++ys) scope cl C s₀ H₀ ex) ifs tc) (he:∀C s₀ H₀ ex,PE (cO X (ts++ys) scope cl C s₀ H₀ ex) elt te) (hs:(∀x,foldedSetIterable iter X.env x=pure x)<|>qd_) :
  PE X (.ListComp elt [{target,iter,ifs,0}] scope pos) (mJ (ts.map (λ_=>none)++js.map some) wi g tc te):=by
 let⟨a,b,c⟩:=DP (ts:=ts) hcl hLo hno hfr;exact LL hc hclos hcl.sub a b c hkind hnames hi hg hif he hs
def NK (hc:X.calm=true) (hclos:closureFor scope X.env=pure cl) (hcl:FN X.env.cells cl) (hLo:((relabel scope X.env).names.all λp=>(p.2 != .cell&&p.2 != .free)||ys.contains p.1||scope.names.contains (p.1,.cell))=true) (hno:∀p∈scope.names,p.2=.cell->p.1∉ys) (hfr:MD X scope cl ys js) (hkind:scope.kind=.function)
  (hnames:∀y∈scope.names,y.2=.local->scope.names.lookup y.1=some .local) (hi:PI X target iter wi)
  (hg:∀C s₀ H₀ ex,PG (cO X (ts++ys) scope cl C s₀ H₀ ex) target g) (hif:∀C s₀ H₀ ex,Qv (cO X (ts++ys) scope cl C s₀ H₀ ex) ifs tc) (he:∀C s₀ H₀ ex,PE (cO X (ts++ys) scope cl C s₀ H₀ ex) elt te) (hN:X.N.Nodup) (hx1:X.N[i]?=some x) (hx2:Loc X.env.scope x) (hs:(∀x,foldedSetIterable iter X.env x=pure x)<|>qd_) (hsw:swapsWith (.ListComp elt [{target,iter,ifs,0}] scope pos) (some (.Name x ps)) pa.line X.env=pure true<|>qe_)
  (hf:X.fn x=true\/X.env.scope.names.lookup x=some .local<|>qa_) :
  PS X (.Assign [.Name x ps] (.ListComp elt [{target,iter,ifs,0}] scope pos) pa) (Ga (mJ (ts.map (λ_=>none)++js.map some) wi g tc te) (bY i)):=by
 let⟨a,b,c⟩:=DP (ts:=ts) hcl hLo hno hfr;exact LH hc hclos hcl.sub a b c hkind hnames hi hg hif he hs hN hx1 hx2 hsw hf
end
def IH (n:Nat) (f:Nat->List V) (Pv:Nat->St->Hp->Prop) (i m:Nat) (xs:List V) (U:St) (H:Hp):Prop:=m=n-i/\i<=n/\xs=f i/\Pv i U H
def IH.push (hi:i<n) (e:f (i+1)=f i++[y]) (p:Pv (i+1) U H):∃m',m'<n-i/\IH n f Pv (i+1) m' (f i++[y]) U H:={n-(i+1),(),rfl,hi,e.symm,p}
def IH.skip (hi:i<n) (e:f (i+1)=f i) (p:Pv (i+1) U H):∃m',m'<n-i/\IH n f Pv (i+1) m' (f i) U H:={n-(i+1),(),rfl,hi,e.symm,p}
def nc (n:Nat) (f:Nat->List V) (Pv:Nat->St->Hp->Prop) (hz:∀i,i<=n->⇑(f i)<=i) (hn:n<=sizeLine) (f0:f 0=[]) (h0:Pv 0 U₀ H1)
  (go:∀i U H,i<n->Pv i U H->J.go i H) (stop:∀U H,Pv n U H->J.stop n H)
  (turn:∀i x U H H2,i<n->Pv i U H->J.II i H x H2->g x U H2 λσ3 H3=>tc σ3 H3 λb H4=>if b=true then te σ3 H4 λy H5=>∃m',m'<n-i/\IH n f Pv (i+1) m' (f i++[y]) σ3 H5 else∃m',m'<n-i/\IH n f Pv (i+1) m' (f i) σ3 H4)
  (fin:∀U H,Pv n U H->∀D,H D=none->Q (.ref D) (upd H D (.lst (f n)))):dF U₀ g tc te Q J H1:=by
 refine{IH n f Pv,{n,by simp,yf _,f0.symm,h0},?_};rintro i m xs U H ⟨rfl,hi,rfl,p⟩;have:=hz i hi;rcases xE i n with hlt | hge
 ·exact .inr {go i U H hlt p,(),λx H2 y=>turn i x U H H2 hlt p y}
 ·let e:i=n:=()
  subst e;exact .inl {stop U H p,(),fin U H p}
section
variable {X:Cx}
def EG (bs:List Bool):((List.range ⇑bs).any λi=>(bs[i]?).getD false)=bs.any id:=by
 rw[xJ,yn,yn];constructor
 ·rintro⟨i,hi,e⟩
  let hi':=yQ.mp hi;rw[zb hi'] at e;exact{_,yk hi',e}
 ·rintro⟨b,hb,e⟩
  let⟨i,hi,e'⟩:=List.mem_iff_getElem.mp hb;exact{i,yQ.mpr hi,by rw[zb hi,e'];exact e}
def gy (hc:X.calm=true):fF X (.builtin "any") (λxs H Q=>∃(a:vy) (bs:List Bool),xs=[.ref a]/\aI X.K H a (bs.map V.bl)/\Q (.bl (bs.any id)) H):=by
 intro pins s U H xs us Q I r h;let⟨a,bs,e,hq,q⟩:=h;subst e;cases r with
 | cons r rr=>
  cases rr;cases r;let⟨its,rv,p,hz⟩:=I.list hq;let hlt:a<↑s:=by let⟨o,n,e,_⟩:=p;exact yx e
  let hlen:⇑bs=⇑its:=by have:=⇑rv;rw[za] at this;exact this
  refine call_any_walk (wH p.isList ?_);refine{↑s,[↑s,a],[↑s],its.toArray.size,_,_,λi=>(bs[i]?).getD false,rfl,Walks.list (A:=X.A.in1) (I.ok.hd hc) _ a (yi hlt) its.toArray,
   {{_,yw _ rfl,rfl,rfl},p.isList.push _},λi v s' Q' E' hP hQ=>?_,λh' tk hk=>?_}
  ·let hP':its[i]?=some v:=by simpa using hP
   let hi:i<⇑bs:=by rw[hlen];exact(zw.mp hP').1
   let hm:(bs.map V.bl)[i]?=some (.bl bs[i]):=by rw[zJ,zb hi];rfl
   let⟨u,hu,ru⟩:=rv.get hm;rw[hP'] at hu;cases hu;cases ru;dsimp only at hQ;rw[zb hi] at hQ;exact xc hQ
  ·let e:((List.range its.toArray.size).any λi=>(bs[i]?).getD false)=bs.any id:=by rw[ya,<-hlen];exact EG bs
   rw[e];exact{.bl _,H,I.kept λb o x=>hk b o (λhm=>by rw[zy.mp hm] at x;exact ye _ (yx x)) (yu _ x),rfl,q}
def tP (ns:List Int):∀k,k<=⇑ns->preSum (λi=>(ns[i]?).getD 0) k=(ns.take k).sum:=by
 intro k
 induction k with
 | zero=>intro _;simp[preSum]
 | succ k ih=>
  intro hk;let hk':k<⇑ns:=hk;let e:=ih (yg hk');rw[List.take_succ,List.sum_append,<-e,zb hk'];simp[preSum,zb hk']
def Mj (hc:X.calm=true):fF X (.builtin "sum") (λxs H Q=>∃(a:vy) (ns:List Int),xs=[.ref a]/\aI X.K H a (ns.map V.int)/\(∀n∈ns,0<=n/\n<1000000)/\⇑ns<=1000/\Q (.int ns.sum) H):=by
 intro pins s U H xs us Q I r h;let⟨a,ns,e,hq,hb,hl,q⟩:=h;subst e;cases r with
 | cons r rr=>
  cases rr;cases r;let⟨its,rv,p,hz⟩:=I.list hq;let hlt:a<↑s:=by let⟨o,n,e,_⟩:=p;exact yx e
  let hlen:⇑ns=⇑its:=by have:=⇑rv;rw[za] at this;exact this
  let bnd:∀k,k<=⇑ns->0<=(ns.take k).sum/\(ns.take k).sum<=1000000*k:=by
   intro k
   induction k with
   | zero=>intro _;simp
   | succ k ih=>
    intro hk;let hk':k<⇑ns:=hk;have:=ih (yg hk');rw[List.take_succ,List.sum_append,zb hk'];let hb':=hb _ (yk hk');simp only[Option.toList_some,wO,List.sum_nil];ext
  refine call_sum_walk (wH p.isList ?_);refine{↑s,[↑s,a],[↑s],its.toArray.size,_,_,λi=>(ns[i]?).getD 0,rfl,Walks.list (A:=X.A.in1) (I.ok.hd hc) _ a (yi hlt) its.toArray,
   {{_,yw _ rfl,rfl,rfl},p.isList.push _},λb hb'=>?_,λi v hP=>?_,λj hj=>?_,λh' tk t' hk=>?_}
  ·rw[xh]
   rcases zC.mp hb' with e | e
   ·rw[e];exact xN _
   ·rw[zy.mp e];exact wI hlt
  ·let hP':its[i]?=some v:=by simpa using hP
   let hi:i<⇑ns:=by rw[hlen];exact(zw.mp hP').1
   let hm:(ns.map V.int)[i]?=some (.int ns[i]):=by rw[zJ,zb hi];rfl
   let⟨u,hu,ru⟩:=rv.get hm;rw[hP'] at hu;cases hu;dsimp only;rw[zb hi];exact ru
  ·let hj':j<⇑ns:=by rw[hlen];simpa using hj
   let b1:=hb _ (yk hj');let b2:=bnd (j+1) hj';rw[tP ns (j+1) hj'];dsimp only;rw[zb hj'];simp only[Option.getD_some];constructor <;> (unfold InLong;ext)
  ·let e:preSum (λi=>(ns[i]?).getD 0) its.toArray.size=ns.sum:=by rw[ya,<-hlen,tP ns _ (zk _),zM]
   rw[e];exact{.int _,H,I.kept λb o x=>hk b o (λhm=>by rw[zy.mp hm] at x;exact ye _ (yx x)) (yu _ x),{_,rfl},q}
end
section
variable {prog:vt} {w:vv} {A:vw} {E:vo->vq->Prop} {s:vq}
def CT (hl:IsTup s.heap l vs.toArray)
  (h:Q vs {s with heap:=(s.heap.push (seqObj "list" #[] 0)).update ↑s (Obj.mapSeq (·++vs.toArray))}) (hsz:⇑vs<=sizeLine) :
  wpAny (model prog w) A (collect (.ref l)) Q E s:=by
 let⟨o,ho,hc,n,hd⟩:=id hl;unfold collect;refine yt (wpAny_runValue (xT entry_proto_collect' ?_));show wpAny _ _ (do again (.builtin "list.__iadd__" {[<-newList [],.ref l],[]})) _ _ s;refine yt (wpAny_newList (yv {Code.quiet_builtin _ (by decide +kernel),xT entry_list_iadd' ?_}));show wpAny _ _ (Builtin.List.listExtendWith (.ref ↑s) (.ref l) (.ref ↑s)) _ _ {s with heap:=s.heap.push (seqObj "list" #[] 0)};unfold Builtin.List.listExtendWith;let ho':(s.heap.push (seqObj "list" #[] 0)).get? l=some o:=yu _ ho;refine yt (vc (T:="tuple") {(o),ho',hc} ?_);let ht:(Value.type "tuple"== Value.type "tuple")=true:=by rfl
 rw[yN (by rw[ht];simp)];refine yt (listItems_at ho' hd ?_);refine yt (listItems_at (xs:=#[]) (n:=0) (yw _ rfl) rfl ?_);rw[yM (by simp)];refine yt (listUpdate_at (xs:=#[]) (n:=0) (yw _ rfl) rfl ?_ (yf _) (by show(#[]++vs.toArray).size<=sizeLine+1;simp only[Array.size_append,ya,xk];ext));refine yv ?_;show wpAny (model prog w) A (do
   let o <-load ↑s
   match o.data with
   | .seq xs _=>pure xs.toList
   | _=>unsupported "internal:collect") Q E {s with heap:=(s.heap.push (seqObj "list" #[] 0)).update ↑s (Obj.mapSeq (·++vs.toArray))}
 refine yt (wpAny_load (get?_update_seq (yw _ rfl) _) ?_);show wpAny _ _ (pure ((#[]:Array vo)++vs.toArray).toList) Q E _;rw[show((#[]:Array vo)++vs.toArray).toList=vs by simp];exact yv h
def I0 (hl:IsTup s.heap l vs.toArray) (hI:IntsAre vs ns) (h64:⇑vs<64)
  (h:∀(out:Array vo) (ns':List Int),IntsAre out.toList ns'->ns'.Perm ns->ns'.Pairwise (·<=·)->Q (.ref (↑s+1)) {s with heap:=sortedAll s.heap vs out}) :
  wpAny (model prog w) A (call (.builtin "sorted") [.ref l]) Q E s:=by
 refine Calls.call_function_entry kind_sorted plain_sorted entry_sorted (args_sorted1 _) ?_;unfold Builtin.«sorted»;refine yt (m:=checkCount "sorted" 1 1 _) (yv ?_);refine yt (CT hl ?_ (by rw[yB];ext));refine yt (wpAny_newList ?_);let hsz:((s.heap.push (seqObj "list" #[] 0)).update ↑s (Obj.mapSeq (·++vs.toArray))).objs.size=↑s+1:=by
  rw[Heap.size_update,size_push']
 let hoL:(((s.heap.push (seqObj "list" #[] 0)).update ↑s (Obj.mapSeq (·++vs.toArray))).push (seqObj "list" vs.toArray 0)).get? (↑s+1)=some (seqObj "list" vs.toArray 0):=by
  rw[<-hsz];exact yw _ rfl
 show wpAny _ _ _ _ _ {s with heap:=((s.heap.push (seqObj "list" #[] 0)).update ↑s (Obj.mapSeq (·++vs.toArray))).push (seqObj "list" vs.toArray 0)};rw[hsz];refine yt (xF (y7 slot_list_sort {_,hoL,rfl} entry_list_sort (list_sort_tree hoL hI h64 λout ns' a1 a2 a3=>{_,rfl,?_}) (args_list_sort _)));exact yv {_,rfl,h out ns' a1 a2 a3}
def B9 (h:vz) (vs:List vo) (out:Array vo):∃n,(sortedAll h vs out).get? (h.objs.size+1)=some {cls:=.type "list",data:=.seq out n}:=by
 let hsz:((h.push (seqObj "list" #[] 0)).update h.objs.size (Obj.mapSeq (·++vs.toArray))).objs.size=h.objs.size+1:=by rw[Heap.size_update,size_push']
 let h1:(((h.push (seqObj "list" #[] 0)).update h.objs.size (Obj.mapSeq (·++vs.toArray))).push (seqObj "list" vs.toArray 0)).get? (h.objs.size+1)=some (seqObj "list" vs.toArray 0):=by
  rw[<-hsz];exact yw _ rfl
 unfold sortedAll sortedHeap;let h2:=get?_update_seq h1 (λ_=>#[]);let h3:=yu (seqObj "list" #[] 0) (yu (seqObj "tuple" vs.toArray 0) h2);exact{_,get?_update_seq h3 (λ_=>out)}
def ux (h:vz) (vs:List vo) (out:Array vo) (b:vy) (o:Obj) (e:h.get? b=some o):(sortedAll h vs out).get? b=some o:=by
 let hb:b<h.objs.size:=yx e;unfold sortedAll sortedHeap;let n1:h.objs.size≠b:=yh hb;let n2:h.objs.size+1≠b:=yh (wI hb);rw[yy _ _ n2];refine yu _ (yu _ ?_);rw[yy _ _ n2];refine yu _ ?_;rw[yy _ _ n1];exact yu _ e
end
theorem pQ:∀{us:List vo} {ns:List Int},IntsAre us ns->Vals (ns.map V.int) us
 | _,_,.nil=>.nil
 | _,_,.cons r t h=>.cons {_,rfl} (pQ h)
section
variable {X:Cx}
def rC:fF X (.builtin "sorted") (λxs H Q=>∃(a:vy) (ns:List Int),xs=[.ref a]/\(aI X.K H a (ns.map V.int)\/cu X.K H a (ns.map V.int))/\⇑ns<64/\∀ns':List Int,ns'.Perm ns->ns'.Pairwise (·<=·)->∀l,H l=none->Q (.ref l) (upd H l (.lst (ns'.map V.int)))):=by
 intro pins s U H xs us Q I r h;let⟨a,ns,rfl,hq,h64,q⟩:=h;let⟨u,rfl,rx⟩:=vals1 r;cases rx;let fin:∀(its:List vo),⇑ns=⇑its->∀(out:Array vo) (ns':List Int),IntsAre out.toList ns'->ns'.Perm ns->ns'.Pairwise (·<=·)->EP X pins U Q (.ref (↑s+1)) {s with heap:=sortedAll s.heap its out}:=λits hl out ns' a1 a2 a3=>by
  let⟨n,hn⟩:=B9 s.heap its out;refine{.ref _,_,I.laid (t':=s.toks) (a:=↑s+1) (o:=.lst (ns'.map V.int)) (ux s.heap its out) (xY _) ?_,rfl,q ns' a2 a3 _ (I.bW.fresh (xY _))};refine{by rw[za,a2.length_eq,yB];ext,out.toList,n,pQ a1,by simpa using hn}
 rcases hq with hq | hq
 ·let⟨its,rv,p,_⟩:=I.list hq
  let hl:⇑ns=⇑its:=by have:=⇑rv;rw[za] at this;exact this
  exact sorted_ints p.isList (intsAre_of rv) () (fin its hl)
 ·let⟨its,rv,p,_⟩:=I.tuple hq
  let hl:⇑ns=⇑its:=by have:=⇑rv;rw[za] at this;exact this
  exact I0 p (intsAre_of rv) () (fin its hl)
theorem Kw:∀{zs:List Str} {us:List vo},Vals (zs.map V.str) us->∃l:List (Str×Tok),us=strValues l/\l.map (·.1)=zs
 | [],_,.nil=>{[],rfl,rfl}
 | z::zs,_,.cons ⟨t,e⟩ r=>by
  let⟨l,e1,e2⟩:=Kw r;subst e e1 e2;exact{(z,t)::l,rfl,rfl}
def rJoin (K:yA):V->List V->Hp->VK->Prop:=λx vs H Q=>∃(sep:Str) (a:vy) (zs:List Str),x=.str sep/\vs=[.ref a]/\aI K H a (zs.map V.str)/\(zs.map (λz:Str=>⇑z+⇑sep)).sum<=sizeLine/\Q (.str (Str.join sep zs)) H
theorem HA (sep:Str):∀(zs:List Str) (k:Nat),zs.foldl (λn z=>n+⇑z+⇑sep) k=k+(zs.map (λz:Str=>⇑z+⇑sep)).sum
 | [],k=>by simp
 | z::zs,k=>by
  rw[List.foldl_cons,HA sep zs,zh,wO];ext
theorem Ku (sep:Str):∀zs:List Str,(zs.map (·.length)).sum+⇑zs*⇑sep=(zs.map (λz:Str=>⇑z+⇑sep)).sum
 | []=>by simp
 | z::zs=>by
  let ih:=Ku sep zs;simp only[zh,wO,zt,Nat.succ_mul] at ih ⊢;ext
def gE:QY X "str.join" (rJoin X.K):=by
 intro pins s U H x vs v us Q I rx rv h;let⟨sep,a,zs,rfl,rfl,hq,hz,q⟩:=h;let⟨tk,rfl⟩:=rx;let⟨u,rfl,ru⟩:=rv.one;cases ru;let⟨its,ri,p,_⟩:=I.list hq;let⟨l,e1,e2⟩:=Kw ri;subst e1;let hl:Builtin.Str.tooLong ((l.map (·.1)).toArray.foldl (·+·.length+⇑sep) 0)=false:=by
  rw[e2,List.foldl_toArray,HA,Nat.zero_add];exact zd ()
 let hj:Builtin.Str.glued sep (l.map (·.1))=Str.join sep zs:=by rw[e2];exact StrLaws.glued_eq_join sep zs
 let jl:⇑(Str.join sep zs)<=sizeLine:=by
  exact zL (StrLaws.join_length_le sep zs) (zL (Nat.le_of_eq (Ku sep zs)) hz)
 refine wx F.slot_str_join (wL s sep tk) F.entry_str_join (F.args_str_join_2 _ _) (meets_str_join_list sep tk a l hl) {p.isList,?_}
 match l,e2,hj with
 | [],e2,hj=>
  subst e2;exact{by rw[hj];exact jl,.str _,H,I.tok _,{_,rfl},by rw[hj];exact q}
 | [z],e2,hj=>
  subst e2;exact{.str _,H,I,{_,rfl},q}
 | z::z'::r,e2,hj=>
  subst e2;exact{by rw[hj];exact jl,.str _,H,I.tok _,{_,rfl},by rw[hj];exact q}
def oW (x:Str) (n:Nat):Str:={(List.replicate n x.cps).foldl (·++·) #[]}
def QK:R2:=λx y H Q=>∃(t:Str) (n:Int),x=.str t/\y=.int n/\0<=n/\n<=1000/\⇑t<=1000/\Q (.str (oW t n.toNat)) H
def qp (x:Str) (n:Nat):(oW x n).cps.toList=(List.replicate n x.cps.toList).flatten:=by
 let key:∀(n:Nat) (a:Array Nat),((List.replicate n x.cps).foldl (·++·) a).toList=a.toList++(List.replicate n x.cps.toList).flatten:=by
  intro n
  induction n with
  | zero=>intro a;simp
  | succ n ih=>intro a;rw[List.replicate_succ,List.foldl_cons,ih,List.replicate_succ,z9];simp
 have:=key n #[];show((List.replicate n x.cps).foldl (·++·) #[]).toList=_;rw[this];rfl
def GI (x:Str) (n:Nat):⇑(oW x n)=n*⇑x:=by
 let e:⇑(oW x n)=⇑(oW x n).cps.toList:=yP.symm;rw[e,qp];let e2:⇑x.cps.toList=⇑x:=yP;simp[e2]
def Nt (x:Str):oW x 1=x:=kG (by rw[qp];simp)
def PZ:mG X (binaryOp .Mult) QK:=by
 intro pins s U H x y v u Q I rx ry h;let⟨t,n,rfl,rfl,h0,h1,hl,q⟩:=h;let⟨tk,rfl⟩:=rx;let⟨tk',rfl⟩:=ry;let sl:=yB;let hm:⇑t*n.toNat<=1000000:=by
  have:⇑t*n.toNat<=1000*1000:=wD hl ();ext
 refine P.mul_str (by rw[zd (),zd ()];rfl) (λh2 _=>?_) (λ_ _=>zd ()) ?_
 ·have:(2^63-1)/1000<=((2:Int)^63-1)/n:=by
   rw[Int.le_ediv_iff_mul_le ()];have:n*9223372036854775<=1000*9223372036854775:=Int.mul_le_mul_of_nonneg_right h1 ∅;ext
  ext
 ·by_cases c1:n<1
  ·let e:n.toNat=0:=()
   rw[yN c1];rw[e] at q;exact{∅,.str _,H,I.tok _,{_,rfl},q}
  ·rw[yM c1]
   refine post_val_or_str {?_,λt' k=>{.str _,H,I.tok _,{_,rfl},?_}}
   ·split
    ·ext
    ·have:=GI t n.toNat
     let e:n.toNat*⇑t=⇑t*n.toNat:=Nat.mul_comm _ _;show(oW t n.toNat).length<=sizeLine;ext
   ·let ee:(if(n == 1||⇑t == 0)=true then t else oW t n.toNat)=oW t n.toNat:=by
     split
     ·rename_i c2
      rw[Bool.or_eq_true,vd,vd] at c2;rcases c2 with rfl | c2
      ·exact(Nt t).symm
      ·refine kG ?_
       let e2:t.cps.toList=[]:=yr.mp (by rw[yP];exact c2);rw[qp,e2];simp
     ·rfl
    show Q (.str (if(n == 1||⇑t == 0)=true then t else oW t n.toNat)) H;rw[ee];exact q
end
def KD (P:vt) (w:vv) (K:yA) (a:vy) (kvs:List (Str×V)):Prop:=
 (a == sysModules)=false/\(kvs.map (·.1)).Nodup/\∀h:vz,K.In h->∃vs:List (Key×vo),KV (kvs.map λp=>((Key.inr p.1:Key),p.2)) vs/\h.DictOf (cX P w) a vs
def HJ (Pm:Params) (l:List (Str×Tok×vy)):List DictEntry:=l.map λp=>{PyData.keyHash Pm p.1,.str p.1 p.2.1,.ref p.2.2}
theorem NZ:∀{l:List Str},l.Nodup->(l.map (Key.inr:Str->Key)).Nodup
 | [],_=>xZ
 | x::r,h=>by
  rw[yc] at h;rw[zh,yc];exact{λz=>by let⟨y,hy,e⟩:=zG.mp z;exact h.1 (Key.inr.inj e▸hy),NZ h.2}
def Ts {P:vt} {w:vv} {K:yA} {a:vy} {l:List (Str×Tok×vy)} {n:Nat} (hl:K.lookup a=some {cls:=.type "dict",data:=.dict (HJ w.params l).toArray n}) (hs:(a == sysModules)=false) (nd:(l.map (·.1)).Nodup) :
  KD P w K a (l.map λp=>(p.1,V.ref p.2.2)):=by
 let e1:(l.map λp=>(p.1,V.ref p.2.2)).map (·.1)=l.map (·.1):=by rw[zA];rfl
 refine{hs,by rw[e1];exact nd,λh X=>{l.map λp=>(Key.inr p.1,.ref p.2.2),?_,_,_,_,X _ _ hl,{(rfl),rfl,rfl},rfl,?_,?_,?_}}
 ·clear hl nd e1
  induction l with
  | nil=>exact .nil
  | cons p r ih=>exact .cons {(rfl),rfl} ih
 ·intro e he
  rw[List.mem_toArray] at he;let⟨p,_,rfl⟩:=zG.mp he;exact{Key.inr p.1,nQ p.1 p.2.1,rfl}
 ·show PySem.Pairs _ (HJ w.params l) _
  clear hl nd e1
  induction l with
  | nil=>exact .nil
  | cons p r ih=>exact .cons (nQ p.1 p.2.1) rfl ih
 ·let e2:(l.map λp=>((Key.inr p.1:Key),(Value.ref p.2.2))).map (·.1)=(l.map (·.1)).map Key.inr:=by rw[zA,zA];rfl
  rw[e2];exact NZ nd
def rO (kvs:List (Str×V)) (k:Str):Option V:=(kvs.find? λp=>decide (p.1=k)).map (·.2)
theorem JE:∀{kvs:List (Str×V)} {vs:List (Key×vo)} (k:Str),KV (kvs.map λp=>((Key.inr p.1:Key),p.2)) vs->lN (rO kvs k) (valueAt vs (Key.inr k))
 | [],_,_,.nil=>trivial
 | (x,v)::r,_,k,.cons (b:=b) h t=>by
  let⟨h1,h2⟩:=h;let⟨bk,bv⟩:=b;dsimp only at h1 h2;subst h1
  by_cases e:x=k
  ·subst e
   simp only[rO,valueAt,yR,decide_true];exact h2
  ·let ih:=JE k t
   let e':¬((Key.inr x:Key)=Key.inr k):=λz=>e (Key.inr.inj z);simp only[rO,valueAt,yR,e,e',decide_false] at ih ⊢;exact ih
def Rn (P:vt) (w:vv) (K:yA) (td ty:TE):TE:=λU H Q=>td U H λx H1=>ty U H1 λy H2=>∃a kvs k v,x=.ref a/\KD P w K a kvs/\y=.str k/\rO kvs k=some v/\Q v H2
def SY (P:vt) (w:vv) (K:yA) (b:Bool) (ty td:TE):TE:=λU H Q=>ty U H λy H1=>td U H1 λx H2=>∃a kvs k,x=.ref a/\KD P w K a kvs/\y=.str k/\Q (.bl (b ^^ (rO kvs k).isSome)) H2
section
variable {X:Cx} {pos:Pos} {o i:Expr} {td ty:TE}
theorem lN.JF:∀{a:Option V} {b:Option vo},lN a b->a.isSome=b.isSome
 | some _,some _,_=>rfl
 | none,none,_=>rfl
 | some _,none,h=>h.elim
 | none,some _,h=>h.elim
def GR (ho:PE X o td) (hi:PE X i ty) (hs:Sv i):PE X (.Subscript o i pos) (Rn X.prog X.w X.K td ty):=by
 intro pins s U H Q I h;refine Kv PySem.F.slot_dict_getitem.lookup hs (cR (ho pins s U H _ I h) λu s1 ⟨x,H1,I1,rx,q1⟩=>cR (hi pins s1 U H1 _ I1 q1) λiv s2 zz=>?_);let⟨y,H2,I2,ry,a,kvs,k,v,ex,kd,ey,hv,q2⟩:=zz;subst ex ey;obtain rfl:u=Value.ref a:=rx;let⟨tk,rfl⟩:=ry;let⟨hd,_,hk⟩:=kd;let⟨vs,rel,dd⟩:=hk _ I2.qS;let rv:=JE k rel;rw[hv] at rv;cases hw:valueAt vs (Key.inr k) with
 | none=>rw[hw] at rv;exact rv.elim
 | some w'=>
  rw[hw] at rv;exact{dd.typeIs,wpAny_getItem_of (nQ k tk) dd.mapOf hw {v,H2,I2.tok _,rv,q2}}
def PV (hi:PE X i ty) (ho:PE X o td):PC X .In i o (SY X.prog X.w X.K false ty td):=by
 intro pins s U H Q I h;refine cR (hi pins s U H _ I h) λiv s1 ⟨y,H1,I1,ry,q1⟩=>cR (ho pins s1 U H1 _ I1 q1) λu s2 zz=>?_;let⟨x,H2,I2,rx,a,kvs,k,ex,kd,ey,q2⟩:=zz;subst ex ey;obtain rfl:u=Value.ref a:=rx;let⟨tk,rfl⟩:=ry;let⟨hd,_,hk⟩:=kd;let⟨vs,rel,dd⟩:=hk _ I2.qS;refine wpAny_in_of (tQ _ _ k tk) hd dd.mapOf ?_;let e:=lN.JF (JE k rel);exact{.bl _,H2,I2.tok _,rfl,by rw[e,Bool.false_xor] at q2;exact q2}
end
structure Sx (X:Cx) (CX:Km) (k:Nat) (f:vy) (sp:Sp):Prop where
 ok:∃fd ps,dA X.prog X.w X.K X.mg X.base CX k f fd ps sp/\PySem.W.keepIn X.K (.ref f)=true/\Binds X.K fd ps []
def Rp (Tb:vy->Sp->Prop) (E:XK) (i:Nat) (t:TA):TE:=λU H Q=>∃f sp,U[i]?=some (some (.ref f))/\Tb f sp/\t U H λvs H1=>sp vs H1 Q E
section
variable {X:Cx} {CX:Km} {k:Nat} {x:Str} {i:Nat} {p pos:Pos} {e:Expr} {es:List Expr} {t:TA} {E:XK}
def GU (Tb:vy->Sp->Prop) (hT:∀f sp,Tb f sp->Sx X CX k f sp) (hr:fG k X.A) (hv:PE X (.Name x p) (aY i)) (hx:Passes CX X E)
  (ha:PA X (e::es) t) (he:starEach (e::es) X.env=(false,eval e X.env)::starEach es X.env<|>qe_) (hpl:(backTo pos (starEach es X.env)).any (·.1)=false<|>qe_) :
  PE X (.Call (.Name x p) (e::es) [] pos) (Rp Tb E i t):=by
 intro pins s U H Q I h;let⟨f,sp,hf,hTb,h⟩:=h;let⟨fd,ps,F,hk,hb⟩:=(hT f sp hTb).ok;refine xm (cR (hv pins s U H (λv H1=>v=.ref f/\H1=H) I {_,hf,rfl,rfl}) λu s1 zz=>?_);let⟨v,H1,I1,rv,ev,eH⟩:=zz;subst ev eH;obtain rfl:u=Value.ref f:=rv;refine vf (h₀:=X.base) I1.ok.mod.R0 hk (cR (ha pos pins s1 U _ _ I1 h) λus s2 ⟨vs,H2,I2,r,q⟩=>{I2.qS,?_}) he hpl;exact Nl F hr hb .nil hx I2 r (by rw[zU];exact q)
end
def SU (sp:Sp) (t:TA) (C:vy) (th:TS):TS:=λD U H=>t U H λvs H1=>sp vs H1 (λv H2=>D.rt v H2) λcls _ H2=>cls=.ref C/\th D U H2
section
variable {X:Cx} {k:Nat} {f:vy} {fd:vx} {ps:List Str} {sp:Sp} {fx cn:Str} {p pos cpos pa np hpos:Pos} {e₀:Expr} {es:List Expr} {t:TA} {C:vy} {bm:List vo} {newId:String} {b₀:Stmt} {suite:List Stmt} {th:TS}
def PJ (F:dA X.prog X.w X.K X.mg X.base (IF X.prog X.w) k f fd ps sp) (hr:fG k X.A) (hg:Gl X fx) (hm:X.mg fx=some (.ref f)) (hk:PySem.W.keepIn X.K (.ref f)=true) (hb:Binds X.K fd ps []) (ha:PA X.Jv (e₀::es) t)
  (hc:X.calm=true) (hgc:Gl X cn) (hC0:PySem.W.nsIn X.K mainGlobals cn=some (some (.ref C))) (hQ0:PySem.W.excIn X.K C bm newId=true) (hbase:bm.contains (.type "BaseException")=true) (hstk:X.stack=X.env::X.outer) (hfrm:X.env.frame=some X.env.locals)
  (hsu:∀e,DX (X.held e).Jv (b₀::suite) th)
  (hdb:(fx == ("__debug__": Str))=false<|>qb_) (hdc:(cn == ("__debug__": Str))=false<|>qb_) (he:starEach (e₀::es) X.env=(false,eval e₀ X.env)::starEach es X.env<|>qe_) (hpl:(backTo cpos (starEach es X.env)).any (·.1)=false<|>qe_) :
  PS X (.Try [.Return (some (.Call (.Name fx p) (e₀::es) [] cpos)) pa] [.ExceptHandler (some (.Name cn np)) none (b₀::suite) hpos] [] [] pos) (SU sp t C th):=by
 intro pins s U H D I h;let O:OwnCls cn C bm newId X.mg X.base:=o7 X.prog I.ok.mod hC0 hQ0;refine wpAny_Try_except (wpAny_execs_cons ?_);refine wpAny_Return_some ?_;refine xm (jN I hg hm ?_ hdb);let hA:wpAny (model X.prog X.w) X.A (spliced (backTo cpos (starEach (e₀::es) X.env))) (AP X.Jv pins U _) (λ_ _=>False) s:=ha cpos pins s U H _ (I.pP _) h;refine vf (h₀:=X.base) I.ok.mod.R0 hk (xa hA (λus s1 ⟨vs,H1,I1',r,q⟩=>{I1'.qS,?_}) λ_ _ z=>z.elim) he hpl;let I1:Inv X pins U H1 s1:=I1'.gS;let hl:⇑us=⇑ps:=by rw[<-⇑r];exact F.len _ _ _ _ q
 refine wpAny_call (xQ (F.run X.A X.stack s1 H1 {us,[]} us vs _ _ hr I1.Qh (by have:=hb s1 us I1.qS (by rw[zU];exact hl);rw[zU] at this;exact this) r q) λrr s' hq=>?_);cases rr with
 | ok fl=>
  cases fl with
  | ret u=>
   let⟨v,H2,I2,r2,q2⟩:=I1.after hq;exact{v,U,H2,I2,r2,q2}
  | next=>exact False.elim hq
  | brk=>exact False.elim hq
  | cont=>exact False.elim hq
 | error ev=>
  let⟨a,cls,a0,B,H',rfl,os,bare,fl,fly,⟨rfl,q2⟩⟩:=hq;let Hz:∀b∈oE X.stack,H1 b=none:=I1.pS;let nf:∀{hh:vz},Heap.FunFrames hh B X.stack->∀b∈oE X.stack,∃o,hh.get? b=some o/\∀vs,o.data≠.fields vs:=λhF b hb=>(hF.mem hb).2;let back:∀(hh:vz),MJ X.prog X.w (oE X.stack) H1 H' s1.heap B hh->Inv X pins U H' {s' with heap:=hh}:=λhh fy=>
   I1.OL (s':={s' with heap:=hh}) (ch:=[]) os (fy.un Hz) (fy.bW.kept fy.kI) bare λb z=>absurd z (by simp)
  let hfr:X.A.frames=some (X.env::X.outer):=by rw[<-hstk];exact I1.ok.frames
  refine wpAny_looks_onW hfr hfrm (by rw[<-hstk];exact fl) λh4 held4 up4=>?_;refine wpAny_landsW held4 λh5 fl5 up5=>?_;let fl5':Heap.FlyingW B X.stack a (.ref C) a0 h5:=by rw[hstk];exact fl5
  let fy5:MJ X.prog X.w (oE X.stack) H1 H' s1.heap B h5:=fly.on (up4.trans up5) fl5.1 (nf fl.2.2.1);let I5:=back h5 fy5;let⟨ob,hob,hobc⟩:=fl5'.there;let⟨tl,Nn,nm,qn,bs,hdct,sn,sub,ab,col,dd,k0,k1,k2,k3,k5,mN,hC,hN',hni,T⟩:=O.obj;refine wpAny_handleBy_cons (codeAny_handlers_test (jN (X:=X.held (.ref a)) (I5.held _) hgc O.bound ?_ hdc)) (by intro q;cases q);refine wpAny_excMatches_sub_self (I5.bk _ _ hC) hob hobc (T.hasType hbase) (codeAny_handlers_suite ?_);refine lands_againW fl5' λh6 fl6 up6=>?_;let fy6:MJ X.prog X.w (oE X.stack) H1 H' s1.heap B h6:=fy5.on up6 fl6.1 (nf fl5'.2.2.1);let I6:=back h6 fy6;refine xa (hsu (.ref a) pins _ U H' D ((I6.held _).pP _) q2) (λfl s7 z=>?_) λ_ _ z=>z.elim;exact SP.kE I.ok.hd (SP.gS z)
end
section
variable {prog:vt} {w:vv} {A:vw} {E:vo->vq->Prop} {s:vq}
def Nz (hd:(d == sysModules)=false) (ho:s.heap.get? d=some o) (hx:o.ExactDict) (hdat:o.data=.dict es ep)
  (hQ:Q (.ref ↑s) {s with heap:=s.heap.push {cls:=.type "dict_keyiterator",data:=.fields #[.ref d,.int 0 0,.int es.size 0,.int ep 0]}}) :
  wpAny (model prog w) A (pyIter (.ref d)) Q E s:=by
 let hT:s.TypeIs (.ref d) "dict":={(o),ho,hx.1}
 refine wpAny_pyIter_slot hT F.slot_dict_iter (y7 F.slot_dict_iter hT F.entry_dict_iter ?_ (F.args_dict_iter_1 _));unfold Builtin.«dict.__iter__»;refine yt ?_;unfold Builtin.Dict.dictSlotNone;refine yt (wpAny_notOrdered_dict hT ?_);show wpAny _ _ (pure (Value.ref d)) _ _ s;refine yv ?_;show wpAny _ _ (Builtin.Dict.showsAll d >>= _) _ _ s;unfold Builtin.Dict.showsAll;rw[yM (by rw[hd];exact zK)];refine yt (yv ?_);refine yt (wpAny_dictEntries ho hdat ?_);refine yt (wpAny_dictEpoch ho hdat ?_);refine yt (y9 (yv {_,rfl,"dict_keyiterator",_,{_,yw _ rfl,rfl},xV.lookup,?_}))
 simpa[rawInt] using hQ
def NA (hit:s.heap.IsKeyIter it d i es.size ep)
  (hod:s.heap.get? d=some od) (hdd:od.data=.dict es ep) (hx:es[i]?=some e)
  (hQ:∀h',h'.IsKeyIter it d (i+1) es.size ep->Heap.SameBut it s.heap h'->Q (some e.key) {s with heap:=h'}) :
  wpAny (model prog w) A (pyNext (.ref it)) Q E s:=by
 let⟨o,ho,hc,hd⟩:=id hit;unfold pyNext;refine yt (wN (yX (name:=Str.ofString "__next__") hit.typeIs xV
  (y7 xV hit.typeIs F.entry_dict_keyiterator_next ?_ (F.args_dict_keyiterator_next_1 _))))
 refine yt (yv ?_);refine yt ?_;refine yt ?_
 first | refine yt (xP hit.typeIs (yv ?_)) | refine yt (wo hit.typeIs (yv ?_))
 refine yt (wpAny_fieldsOf ho hd ?_);let hown:Builtin.Dict_items.ownsTuple "dict_keyiterator"= false:=by decide
 simp only[hown,wB,wm];show wpAny _ _ (if(Value.ref d == Value.none)=true then _ else _) _ _ s;rw[yM (show¬((Value.ref d == Value.none)=true) from zK)];refine yt (yv ?_);refine yt (wpAny_dictEntries hod hdd ?_);rw[yM (by simp)];refine yt (yv ?_);refine yt (wpAny_dictEpoch hod hdd ?_);rw[yM (by simp)];refine yv ?_;simp only[show¬((i:Int)<0) from by ext,wm,xX,hx];refine yt ?_
 first | refine yt (xP hit.typeIs (yv ?_)) | refine yt (wo hit.typeIs (yv ?_))
 refine yt (wpAny_isOneOf_keyiter hit.typeIs ?_);show wpAny _ _ (setField (.ref it) 1 (rawInt ((i:Int)+1)) >>= _) _ _ s;refine yt (wpAny_setField ho hd (by simp) ?_);let hit':(s.heap.update it (Obj.mapFields (·.setIfInBounds 1 (rawInt ((i:Int)+1))))).IsKeyIter it d (i+1) es.size ep:=
  {_,yz _ ho (Obj.isFreed_of_fields (vg hd _)),(Obj.cls_mapFields ..).trans hc,by rw[vg hd];simp[rawInt]}
 refine yt (xF ?_);refine yt (wpAny_isOneOf_keyiter (s:={s with heap:=s.heap.update it (Obj.mapFields (·.setIfInBounds 1 (rawInt ((i:Int)+1))))}) hit'.typeIs ?_);show wpAny _ _ (pure e.key) _ _ _;exact yv (yv {_,rfl,yv (hQ _ hit' (wY ..))})
def PB (hh:A.handled=none) (hit:s.heap.IsKeyIter it d i es.size ep)
  (hod:s.heap.get? d=some od) (hdd:od.data=.dict es ep) (hx:es.size<=i)
  (hQ:∀h',Heap.ExtBut it s.heap h'->Q none {s with heap:=h'}):wpAny (model prog w) A (pyNext (.ref it)) Q E s:=by
 let⟨o,ho,hc,hd⟩:=id hit;unfold pyNext;refine yt (wN (yX (name:=Str.ofString "__next__") hit.typeIs xV
  (y7 xV hit.typeIs F.entry_dict_keyiterator_next ?_ (F.args_dict_keyiterator_next_1 _))))
 refine yt (yv ?_);refine yt ?_;refine yt ?_
 first | refine yt (xP hit.typeIs (yv ?_)) | refine yt (wo hit.typeIs (yv ?_))
 refine yt (wpAny_fieldsOf ho hd ?_);let hown:Builtin.Dict_items.ownsTuple "dict_keyiterator"= false:=by decide
 simp only[hown,wB,wm];show wpAny _ _ (if(Value.ref d == Value.none)=true then _ else _) _ _ s;rw[yM (show¬((Value.ref d == Value.none)=true) from zK)];refine yt (yv ?_);refine yt (wpAny_dictEntries hod hdd ?_);rw[yM (by simp)];refine yt (yv ?_);refine yt (wpAny_dictEpoch hod hdd ?_);rw[yM (by simp)];refine yv ?_;simp only[show¬((i:Int)<0) from by ext,wm,xX,Array.getElem?_eq_none hx];refine yt ?_
 first | refine yt (xP hit.typeIs (yv ?_)) | refine yt (wo hit.typeIs (yv ?_))
 show wpAny _ _ (setField (.ref it) 0 .none >>= _) _ _ s;refine yt (wpAny_setField ho hd (by simp) ?_);show wpAny _ _ (newExc (.type "StopIteration") [] >>= _) _ _ _;refine yt ?_;simp only[newExc,newTuple];refine yt (y9 ?_ (by size_fits));refine yt (m:=firstArgMember _ _) (wpAny_of_eq (a:=Value.none) (by first | rfl | (simp only[firstArgMember];rfl)) ?_);refine y9 ?_ (by size_fits);simp only[raiseNew];refine yt (wpAny_handled ?_);rw[show A.in1.handled=none from hh];refine yt (yv (wpAny_throw ?_));refine yt (wpAny_isInstance (T:="StopIteration") (b:=true) {_,yw _ rfl,rfl} isSubtype_stop ?_);exact yv (hQ _ (((wY ..).extBut.push _).push _))
end
def O3 (H:Hp) (d:vy) (o:Obj) (n:Nat) (kat:Hp->Nat->V->Prop):Prop:=∃u,H d=some (.mF o u)/\((∃kvs:List (Key×V),u=.dK kvs/\n=⇑kvs/\kat=λ_ i x=>∃p,kvs[i]?=some p/\x=kV p.1)\/
 ∃kvs:List (List Key×V),u=.dT kvs/\n=⇑kvs/\kat=λH i x=>∃p b,kvs[i]?=some p/\H b=some (.tup (p.1.map kV))/\x=.ref b)
theorem Dv {K:Type} [DecidableEq K] {prog:vt} {w:vv} {knd:KeyKind prog w K}:∀{es:List DictEntry} {kvs:List (K×vo)} {i:Nat} {e:DictEntry},PySem.Pairs knd es kvs->es[i]?=some e->∃kv,kvs[i]?=some kv/\knd.is kv.1 e.key=true/\e.val=kv.2
 | _,_,_,_,.nil,h=>by simp at h
 | _,_,0,_,.cons a b _,h=>by simp at h;subst h;exact{_,rfl,a,b}
 | _,_,i+1,_,.cons _ _ t,h=>by
  let⟨kv,h1,h2⟩:=Dv (i:=i) t (by simpa using h);exact{kv,by simpa using h1,h2}
theorem kY:∀{l:List α} {m:List β} {i:Nat} {b:β},Paired F l m->m[i]?=some b->∃a,l[i]?=some a/\F a b
 | _,_,_,_,.nil,h=>by simp at h
 | _,_,0,_,.cons r _,h=>by simp at h;subst h;exact{_,rfl,r}
 | _,_,i+1,_,.cons _ t,h=>by
  let⟨a,h1,h2⟩:=kY (i:=i) t (by simpa using h);exact{a,by simpa using h1,h2}
section
variable {X:Cx} {pins:List (vy×Obj)} {U:St} {H:Hp} {s:vq} {d:vy} {o:Obj} {n:Nat} {kat:Hp->Nat->V->Prop}
def O3.raw (f:O3 H d o n kat) (I:Inv X pins U H s):(d == sysModules)=false/\∃es ep,s.heap.get? d=some o/\o.ExactDict/\o.data=.dict es ep/\es.size=n/\∀i e,es[i]?=some e->∃x,RelV x e.key/\kat H i x:=by
 let⟨u,hH,hu⟩:=f;let⟨ho,ok⟩:=(show cx X.prog X.w H s.heap d (.mF o u) from I.bW d _ hH)
 rcases hu with⟨kvs,rfl,rfl,rfl⟩ | ⟨kvs,rfl,rfl,rfl⟩
 ·let⟨_,hd,vs,rel,o',es,ep,ho',hx,hdat,_,hp,_⟩:=ok
  let hl:es.size=⇑kvs:=by
   let h1:=⇑hp;let h2:⇑kvs=⇑vs:=xW rel;let h3:⇑es.toList=es.size:=yP;ext
  rw[ho] at ho';cases ho';refine{hd,es,ep,ho,hx,hdat,hl,λi e he=>?_};let⟨kv,h1,h2,_⟩:=Dv hp (i:=i) (e:=e) (by rw[xg];exact he);let⟨p,h3,h4,_⟩:=kY rel h1;refine{kV p.1,?_,p,h3,rfl};rw[<-h4] at h2;rcases cw h2 with⟨j,t,e1,e2⟩ | ⟨y,t,e1,e2⟩ | ⟨e1,e2⟩
  ·rw[e1,e2];exact{(t),rfl}
  ·rw[e1,e2];exact{(t),rfl}
  ·rw[e1,e2];exact rfl
 ·let⟨_,hd,xs,rel,o',es,ep,ho',hx,hdat,he,_⟩:=ok
  let h3:⇑es.toList=es.size:=yP;let hl:es.size=⇑kvs:=by
   let h2:⇑kvs=⇑xs:=xW rel;rw[he,za] at h3;ext
  rw[ho] at ho';cases ho';refine{hd,es,ep,ho,hx,hdat,hl,λi e hi=>?_};rw[<-xg,he,zJ] at hi;cases q:xs[i]? with
  | none=>rw[q] at hi;cases hi
  | some y=>
   rw[q] at hi;cases hi;let⟨p,h4,h5,h6,_⟩:=kY rel q;exact{.ref y.2.1,rfl,p,y.2.1,h4,h6,rfl}
end
def VD (d:vy) (o:Obj) (n:Nat) (kat:Hp->Nat->V->Prop):It:={λi H=>O3 H d o n kat/\i<n,λi H x H'=>H'=H/\kat H i x,λi H=>O3 H d o n kat/\n<=i}
def Lj {P:vt} {w:vv} {K:yA} {tg:Expr} (d it:vy) (n:Nat) (kat:Hp->Nat->V->Prop) (o:Obj) (es:Array DictEntry) (ep:Nat) (hdat:o.data=.dict es ep) (hn:es.size=n) :
  Turn P w K tg (VD d o n kat) [it] it (λi h=>h.IsKeyIter it d i n ep) where
 mem:=by simp
 obj:=λi h st b hb=>by
  let e:b=it:=by simpa using hb
  subst e;let⟨o,e,c,d⟩:=st;exact{o,e,λv z=>by rw[d] at z;cases z}
 keep:=λi h h' st k=>st.at λo e=>k it (by simp) o e
 item:=by
  intro X hP hw hK hc i pins s U H E I hf st hg;subst hP hw hK hn;let⟨fz,hlt⟩:=hg;let⟨hd,es',ep',ho,hx,hdat',hsz,hk⟩:=fz.raw I;rw[hdat] at hdat';cases hdat';let⟨f0,f1,f2,f3,f4,f5⟩:=hf it (by simp);let he:es[i]?=some es[i]:=Array.getElem?_eq_getElem hlt;let⟨x,rx,kx⟩:=hk i _ he;refine NA st ho hdat he λh' st' sb=>?_;let I1:Inv X pins U H {s with heap:=h'}:=I.turned (t':=s.toks) (λb o hb e=>(sb.2 b hb).trans e) f0 f1 f3 f4 f5;let⟨oi,e,c,dd⟩:=id st';exact{_,rfl,DJ (s:={s with heap:=h'}) e c dd ∅ {x,H,I1,rx,{(rfl),kx},st',λb hb=>(hf b hb).1}}
 done:=by
  intro X hP hw hK hc i pins s U H E I hf st hg;subst hP hw hK hn;let⟨fz,hge⟩:=hg;let⟨hd,es',ep',ho,hx,hdat',hsz,hk⟩:=fz.raw I;rw[hdat] at hdat';cases hdat';let⟨f0,f1,f2,f3,f4,f5⟩:=hf it (by simp);exact PB (I.ok.hd hc) st ho hdat hge λh' eb=>{rfl,I.turned (t':=s.toks) (λb o hb e=>eb b o hb e) f0 f1 f3 f4 f5}
 self:=λ_ _ _ _ _ st h=>wpAny_pyIter_keyiter st h
def Tz (td:TE):TI:=λU H R=>td U H λx H1=>∃d o n kat,x=.ref d/\O3 H1 d o n kat/\R (VD d o n kat) H1
section
variable {X:Cx} {tg l:Expr} {tl:TE}
def PM (hl:PE X l tl):PI X tg l (Tz tl):=by
 intro pins s U H R I h;refine cR (hl pins s U H _ I h) λv s1 zz=>?_;let⟨x,H1,I1,r1,q1⟩:=zz;let⟨d,o,n,kat,e,fz,q⟩:=q1;subst e;cases r1;let⟨hd,es,ep,ho,hx,hdat,hsz,hk⟩:=fz.raw I1;refine Nz hd ho hx hdat ?_;refine{↑s1,[↑s1],_,_,H1,rfl,I1.kept (t':=s1.toks) λb o e=>yu _ e,Lj d _ n kat o es ep hdat hsz,{_,yw _ rfl,rfl,by rw[hsz];rfl},λb hb=>?_,q};let e:b=↑s1:=by simpa using hb
 subst e;exact I1.uS (zk _) (I1.bW.fresh (zk _))
end
def Kk (H:Hp) (d:vy) (o:Obj) (kvs:List (Key×V)):Prop:=H d=some (.mF o (.dK kvs))
def O1 (d:vy) (o:Obj) (kvs:List (Key×V)):It:={λi H=>Kk H d o kvs/\i<⇑kvs,λi H x H'=>H'=H/\∃p,kvs[i]?=some p/\x=p.2,λi H=>Kk H d o kvs/\⇑kvs<=i}
section
variable {X:Cx} {pins:List (vy×Obj)} {U:St} {H:Hp} {s:vq} {d:vy} {o:Obj} {kvs:List (Key×V)}
def Kk.at' (f:Kk H d o kvs) (I:Inv X pins U H s):(d == sysModules)=false/\∃vs es ep,KV kvs vs/\o.data=.dict es ep/\s.heap.DictAt (cX X.prog X.w) d vs ep:=by
 let⟨ho,ok⟩:=(show cx X.prog X.w H s.heap d (.mF o (.dK kvs)) from I.bW d _ f)
 let⟨_,hd,vs,rel,o',es,ep,ho',hx,hdat,hk,hp,nd⟩:=ok;rw[ho] at ho';cases ho';exact{(hd),vs,es,ep,rel,hdat,o,es,ho,hx,hdat,hk,hp,nd}
end
def F4 {P:vt} {w:vv} {K:yA} {tg:Expr} (d it:vy) (o:Obj) (kvs:List (Key×V)) (es:Array DictEntry) (ep:Nat) (hdat:o.data=.dict es ep) :
  Turn P w K tg (O1 d o kvs) [it] it (λi h=>h.IsValIter it d i ⇑kvs ep) where
 mem:=by simp
 obj:=λi h st b hb=>by
  let e:b=it:=by simpa using hb
  subst e;let⟨o,e,c,d⟩:=st;exact{o,e,λv z=>by rw[d] at z;cases z}
 keep:=λi h h' st k=>st.at λo e=>k it (by simp) o e
 item:=by
  intro X hP hw hK hc i pins s U H E I hf st hg;subst hP hw hK;let⟨fz,hlt⟩:=hg;let⟨hd,vs,es',ep',rel,hdat',da⟩:=fz.at' I;rw[hdat] at hdat';cases hdat';let⟨f0,f1,f2,f3,f4,f5⟩:=hf it (by simp);let hl:⇑kvs=⇑vs:=xW rel;let hi:vs[i]?=some (vs[i]'()):=zb ();let⟨p,h3,h4,h5⟩:=kY rel hi;refine wpAny_pyNext_values_item (by rw[<-hl];exact st) da hi λh' st' sb=>?_;let I1:Inv X pins U H {s with heap:=h'}:=I.turned (t':=s.toks) (λb o hb e=>(sb.2 b hb).trans e) f0 f1 f3 f4 f5;let⟨oi,e,c,dd⟩:=id st';exact{_,rfl,DJ (s:={s with heap:=h'}) e c dd ∅ {p.2,H,I1,h5,{(rfl),p,h3,rfl},by rw[hl];exact st',λb hb=>(hf b hb).1}}
 done:=by
  intro X hP hw hK hc i pins s U H E I hf st hg;subst hP hw hK;let⟨fz,hge⟩:=hg;let⟨hd,vs,es',ep',rel,hdat',da⟩:=fz.at' I;rw[hdat] at hdat';cases hdat';let⟨f0,f1,f2,f3,f4,f5⟩:=hf it (by simp);let hl:⇑kvs=⇑vs:=xW rel;exact wpAny_pyNext_values_end (I.ok.hd hc) (by rw[<-hl];exact st) da (by simp;ext) λh' eb=>{rfl,I.turned (t':=s.toks) (λb o hb e=>eb b o hb e) f0 f1 f3 f4 f5}
 self:=λ_ _ _ _ _ st h=>wpAny_pyIter_valiter st h
def Qc (td:TE):TI:=λU H R=>td U H λx H1=>∃d o kvs,x=.ref d/\Kk H1 d o kvs/\R (O1 d o kvs) H1
section
variable {X:Cx} {tg l:Expr} {tl:TE} {apos cpos:Pos}
def LK (hl:PE X l tl) (hbase:attributeBase l "values" X.env (eval l X.env)=eval l X.env<|>qe_) (hline:(apos.endLine == cpos.line)=true<|>qe_):PI X tg (.Call (.Attribute l "values" apos) [] [] cpos) (Qc tl):=by
 intro pins s U H R I h;refine wpAny_Call_method0_late hbase hline (cR (hl pins s U H _ I h) λv s1 zz=>?_);let⟨x,H1,I1,r1,q1⟩:=zz;let⟨d,o,kvs,e,fz,q⟩:=q1;subst e;cases r1;let⟨hd,vs,es,ep,rel,hdat,da⟩:=fz.at' I1;refine{"dict","dict.values",F.plainAttrs_dict,F.slot_dict_values,F.type_dict_values,da.dictOf.typeIs,da.dictOf.mapOf.noDict,wJ rfl (PySem.evalArgs_none ?_)};refine call_meetsIn F.slot_dict_values da.dictOf.typeIs F.entry_dict_values (F.args_dict_values_1 _) (meets_dict_values (cX X.prog X.w) d hd) {{(vs),da.dictOf},?_};let I2:Inv X pins U H1 {s1 with heap:=s1.heap.push {cls:=.type "dict_values",data:=.fields #[.ref d]}}:=I1.kept (t':=s1.toks) λb o e=>yu _ e;let⟨_,vs2,es2,ep2,rel2,hdat2,da2⟩:=fz.at' I2;rw[hdat] at hdat2;cases hdat2;let hl2:⇑kvs=⇑vs2:=xW rel2;refine wpAny_pyIter_values (knd:=cX X.prog X.w) {_,yw _ rfl,rfl,rfl} da2 ?_;refine{_,[_],_,_,H1,rfl,I2.kept (t':=s1.toks) λb o e=>yu _ e,F4 d _ o kvs es ep hdat,{_,yw _ rfl,rfl,by rw[hl2];rfl},λb hb=>?_,q};rw[zy.mp hb];exact I2.uS (zk _) (I2.bW.fresh (zk _))
end
def JJ {d:vy} {o:Obj} {kvs:List (Key×V)} {g:TG} {tb:TS} {D:Ends} {U:St} {H:Hp} (Pv:Nat->St->Hp->Prop) (h0:Pv 0 U H) (hf:∀i U H,i<=⇑kvs->Pv i U H->Kk H d o kvs)
  (hs:∀i p U H,kvs[i]?=some p->Pv i U H->g p.2 U H λσ2 H2=>tb {D with nx:=Pv (i+1),ct:=Pv (i+1),bk:=D.nx} σ2 H2) (hd:∀U H,Pv ⇑kvs U H->D.nx U H) :
  ∃W:Nat->Nat->St->Hp->Prop,(∃m,W 0 m U H)/\∀i m U H,W i m U H->
   ((O1 d o kvs).stop i H/\D.nx U H)\/((O1 d o kvs).go i H/\∃Nn:St->Hp->Prop,(∀U' H',Nn U' H'->∃m',m'<m/\W (i+1) m' U' H')/\∀v H',(O1 d o kvs).II i H v H'->g v U H' λσ2 H2=>tb {D with nx:=Nn,ct:=Nn,bk:=D.nx} σ2 H2):=by
 refine{λi m U H=>m=⇑kvs-i/\i<=⇑kvs/\Pv i U H,{⇑kvs,by simp,yf _,h0},?_};rintro i m U H ⟨rfl,hi,pv'⟩;rcases xE i ⇑kvs with hlt | hge
 ·refine .inr {{hf i U H hi pv',hlt},Pv (i+1),λU' H' p'=>{⇑kvs-(i+1),(),rfl,hlt,p'},λv H' y=>?_}
  let⟨e1,p,hp,e2⟩:=y;rw[e1,e2];exact hs i p U H hp pv'
 ·let e:i=⇑kvs:=()
  subst e;exact .inl {{hf _ U H hi pv',zk _},hd U H pv'}
def Tw:HO->Bool
 | .dK _=>true
 | .dT _=>true
 | _=>false
def dA.QF {P:vt} {w:vv} {K:yA} {mg:Str->Option vo} {base:vz} {k:Nat} {f:vy} {fd:vx} {ps:List Str} {sp sp':Sp} (F:dA P w K mg base IG k f fd ps sp) (len:∀vs H Q E,sp' vs H Q E->⇑vs=⇑ps)
  (h:∀vs H Q E,sp' vs H Q E->∃d u,H d=some u/\Tw u=true/\∀o,sp vs (upd H d (.mF o u)) (λv H'=>Q v (upd H' d u)) E):dA P w K mg base IG k f fd ps sp':=by
 refine{len,λA outer s H args us vs Q E hr e hb hv hs=>?_};let⟨d,u,hd,hu,hsp⟩:=h vs H Q E hs;let okd:=e.bW d u hd;let⟨o,ho⟩:=okd.here;let nt:∀xs,u≠.tup xs:=λxs z=>by rw[z] at hu;cases hu
 let no:∀x,u≠.own x:=λx z=>by rw[z] at hu;cases hu
 let nf:∀a b,u≠.mF a b:=λa b z=>by rw[z] at hu;cases hu
 let nb:∀a,u≠.MY a:=λa z=>by rw[z] at hu;cases hu
 let off:∀b,H b=none->b≠d:=λb n z=>by rw[z,hd] at n;cases n
 let tup1:∀b xs,H b=some (.tup xs)->upd H d (.mF o u) b=some (.tup xs):=λb xs q=>by rw[aG (λz=>by rw[z,hd] at q;exact nt xs (yj q))];exact q
 let own1:∀b x,H b=some (.own x)->upd H d (.mF o u) b=some (.own x):=λb x q=>by rw[aG (λz=>by rw[z,hd] at q;exact no x (yj q))];exact q
 let e1:IE P w K mg base A outer s (upd H d (.mF o u)):=by
  refine{e.frames,e.mod,λb ob q=>{(e.bs b ob q).1,by rw[aG (off b (e.bs b ob q).2)];exact(e.bs b ob q).2},e.MG,e.om,λb hb=>by rw[aG (off b (e.Hz b hb))];exact e.Hz b hb,λb ub q=>?_,e.bare}
  by_cases hbd:b=d
  ·subst hbd
   rw[aF] at q;cases q;exact{ho,okd.kI (λ_ _ _ z=>z) (λc z=>own1 c _ z) tup1}
  ·rw[aG hbd] at q
   exact(e.bW b ub q).kI (λ_ _ _ z=>z) (λc z=>own1 c _ z) tup1
 refine xQ (F.run A outer s _ args us vs _ E hr e1 hb hv (hsp o)) λr s' hq=>?_;cases r with
 | error x=>exact hq
 | ok fl=>
  cases fl with
  | next=>exact hq
  | brk=>exact hq
  | cont=>exact hq
  | ret uv=>
   let⟨v,H',os,bare,un,bW,rv,q⟩:=hq;let hd':H' d=some (.mF o u):=un.mq d o u aF;let off1:∀b,H b=none->upd H d (.mF o u) b=none:=λb n=>by rw[aG (off b n)];exact n
   let back:∀b z,H b=some z->b≠d->upd H d (.mF o u) b=some z:=λb z q n=>by rw[aG n];exact q
   refine{v,upd H' d u,os,bare,{λb ob q n hb hx=>un.keep b ob q (off1 b n) hb hx,λb ob q n hb hx=>un.slot b ob q (off1 b n) hb hx,λb ob q n hx=>by rw[aG (off b n)];exact un.free b ob q (off1 b n) hx,un.there,
    λb xs q=>?_,λb ob uu q=>?_,λb ps' q=>?_},λb ub q=>?_,rv,q}
   ·let n:b≠d:=λz=>by rw[z,hd] at q;exact nt xs (yj q)
    rw[aG n];exact un.nY b xs (back b _ q n)
   ·let n:b≠d:=λz=>by rw[z,hd] at q;exact nf ob uu (yj q)
    rw[aG n];exact un.mq b ob uu (back b _ q n)
   ·let n:b≠d:=λz=>by rw[z,hd] at q;exact nb ps' (yj q)
    let⟨m,z⟩:=un.nZ b ps' (back b _ q n);exact{m,by rw[aG n];exact z}
   ·let own2:∀c x,H' c=some (.own x)->upd H' d u c=some (.own x):=λc x z=>by rw[aG (λy=>by rw[y,hd'] at z;cases z)];exact z
    let tup2:∀c xs,H' c=some (.tup xs)->upd H' d u c=some (.tup xs):=λc xs z=>by rw[aG (λy=>by rw[y,hd'] at z;cases z)];exact z
    by_cases hbd:b=d
    ·subst hbd
     rw[aF] at q;cases q;let⟨_,ok'⟩:=(show cx P w H' s'.heap b (.mF o u) from bW b _ hd')
     exact ok'.kI (λ_ _ _ z=>z) (λc z=>own2 c _ z) tup2
    ·rw[aG hbd] at q
     exact(bW b ub q).kI (λ_ _ _ z=>z) (λc z=>own2 c _ z) tup2
def GL (U:List Str) (x:Str):List Str:=if x∈U then U else U++[x]
def gs (l:List Str):List Str:=l.foldl GL []
def HN (l:List Str):⇑(gs l)<=⇑l/\(⇑(gs l)=⇑l↔l.Nodup):=by
 let key:∀(l U:List Str),U.Nodup->⇑(l.foldl GL U)<=U.length+⇑l/\(⇑(l.foldl GL U)=U.length+⇑l↔(U++l).Nodup):=by
  intro l
  induction l with
  | nil=>intro U h;simp[h]
  | cons x l ih=>
   intro U h;rw[List.foldl_cons,zt]
   by_cases hx:x∈U
   ·rw[show GL U x=U from yN hx]
    have:=ih U h;refine{(),{λe=>(),λe=>?_}};exact absurd hx (λz=>(zR.mp e).2.2 x z x zp rfl)
   ·rw[show GL U x=U++[x] from yM hx]
    let hn:(U++[x]).Nodup:=zR.mpr {h,by simp,λa ha b hb e=>by rw[zy.mp hb] at e;exact hx (e▸ha)};have:=ih (U++[x]) hn;rw[zg,List.length_singleton,zE,List.singleton_append] at this;exact{(),{λe=>this.2.mp (),λe=>by have:=this.2.mpr e;ext}}
 have:=key l [] xZ
 simpa[gs] using this
def sub_tuple_set:isSubtype (.type "tuple") (.type "set")=pure false:=by rw[isSubtype_type];kernel_rfl
def sub_tuple_frozenset:isSubtype (.type "tuple") (.type "frozenset")=pure false:=by rw[isSubtype_type];kernel_rfl
section
variable {prog:vt} {w:vv}
def Nh {A:vw} {R:Result->vq->Prop} {I:vy} {fp wr:List vy} {G:Array GenState->Array GenState->Prop} {n:Nat} {P:Nat->vo->Prop} {St:Nat->vq->Prop} (W:WalksS prog w A.in1 I fp wr G n P St) (S:vy) (hSf:S∉fp)
  (zs:List Str) (hn:n=⇑zs) (hval:∀i v,P i v->∃z t,zs[i]?=some z/\v=.str z t) (hb:n+1<scanBound) :
  ∀(k i:Nat) (s:vq),n-i=k->i<=n->St i s->s.heap.SetOf (PySem.strKind prog w) S (λx=>decide (x∈gs (zs.take i))) ⇑(gs (zs.take i))->
   (∀s',Moved (S::wr) G s s'->s'.heap.SetOf (PySem.strKind prog w) S (λx=>decide (x∈gs zs)) ⇑(gs zs)->R (.ok (.ret .none)) s')->
   codeAny (model prog w) A (.builtin "set.update.loop" {[.ref S,.ref I],[]}) R s:=by
 let hSw:S∉wr:=λh=>hSf (W.sub _ h);let hsub:∀b∈wr,b∈S::wr:=λb hb=>zm _ hb;intro k
 induction k with
 | zero=>
  intro i s hk hi hst hS hR;let hin:i=n:=()
  subst hin;rw[hn,zM] at hS;refine xT F.entry_set_update_loop ?_;rw[wU F.plain_set_update_loop _];show wpAny _ A.in1 (pyNext (.ref I) >>= _) _ _ s;refine yt (W.done s _ _ hst λs' hm=>?_);let⟨o,es,ep,t,ho,rest⟩:=hS;exact yv (hR s' (hm.mono hsub) {o,es,ep,t,hm.heap S _ hSw ho,rest})
 | succ k ih=>
  intro i s hk hi hst hS hR;let hlt:i<n:=()
  refine xT F.entry_set_update_loop ?_;rw[wU F.plain_set_update_loop _];show wpAny _ A.in1 (pyNext (.ref I) >>= _) _ _ s;refine yt (W.item i s _ _ hlt hst λv s' hP hst' hm=>?_);let⟨z,t,hz,rfl⟩:=hval i v hP;let⟨o,es,ep,tb,ho,rest⟩:=hS;let hS':s'.heap.SetOf (PySem.strKind prog w) S (λx=>decide (x∈gs (zs.take i))) ⇑(gs (zs.take i)):={o,es,ep,tb,hm.heap S _ hSw ho,rest}
  show wpAny _ A.in1 (holding [Value.str z t] (setAdd S (.str z t)) >>= _) _ _ s';refine yt (xF ?_);unfold setAdd;refine xF ?_;refine yt ((PySem.strKind prog w).pyHash (k:=z) (strKind_is _ _ _ _) ?_);let hl:=(HN (zs.take i)).1;rw[zP] at hl;refine wpAny_setAddHashed_of (knd:=PySem.strKind prog w) (s:={s' with toks:=s'.toks+1}) (strKind_is _ _ _ _) rfl hS' () λh' hsb hS2=>?_;let et:zs.take (i+1)=zs.take i++[z]:=by rw[List.take_succ,hz];rfl
  let ed:gs (zs.take (i+1))=GL (gs (zs.take i)) z:=by rw[et];unfold gs;rw[zX];rfl
  let hSi:h'.SetOf (PySem.strKind prog w) S (λx=>decide (x∈gs (zs.take (i+1)))) ⇑(gs (zs.take (i+1))):=by
   refine SetOf_congr hS2 (λx=>?_) ?_
   ·rw[ed]
    unfold GL
    by_cases hx:z∈gs (zs.take i)
    ·rw[yN hx]
     by_cases e:x=z
     ·subst e;simp[hx]
     ·simp[e]
    ·rw[yM hx];simp[zF]
   ·rw[ed]
    unfold GL
    by_cases hx:z∈gs (zs.take i) <;> simp[hx]
  refine yv {plainId_quiet F.plain_set_update_loop _,ih (i+1) _ () hlt (W.frame _ s' _ _ hst' (xY _) λb hb o e=>?_) hSi λs'' hm'' hS''=>?_}
  ·rw[hsb.2 b (λh:b=S=>hSf (by rw[<-h];exact hb))];exact e
  ·refine hR s'' (Moved.trans W.gtrans ((hm.mono hsub).then_heap (xY _) λb o hb e=>?_) hm'') hS''
   rw[hsb.2 b (λh:b=S=>hb (by rw[h];exact zp))];exact e
variable {A:vw} {E:vo->vq->Prop} {s:vq}
def Jb {l:vy} {items:Array vo} {zs:List Str} {Q:vo->vq->Prop} (hh:A.handled=none) (hl:IsTup s.heap l items) (hi:∀(i:Nat) (v:vo),items[i]?=some v->∃z t,zs[i]?=some z/\v=.str z t) (hn:items.size=⇑zs) (hb:items.size+1<scanBound)
  (h:∀(h':vz) (tk:Nat),h'.SetOf (PySem.strKind prog w) ↑s (λx=>decide (x∈gs zs)) ⇑(gs zs)->(∀b o,b<↑s->s.heap.get? b=some o->h'.get? b=some o)->Q (.ref ↑s) {s with heap:=h',toks:=tk}) :
  wpAny (model prog w) A (call (.type "set") [.ref l]) Q E s:=by
 let⟨c,tl,hmro⟩:=F.called_set.mro;let hmade:=F.called_set.made;let hsub:=F.called_set.sub;refine wpAny_call (codeAny_of_tree ?_);show wpAny _ _ (callAny (.type "set") _) _ _ _;refine yv {Code.quiet_builtin _ (by decide +kernel),xT F.entry_type_call ?_};rw[Around.under_plain (weight_type_call_type "set" [.ref l] []) rfl];let h1:=F.called_set.notType;let h2:=F.called_set.canCreate;let hct:=F.typeCall_set_1 (.ref l)
 repeat (any_goals (first | assumption | wp_step))
 letI fresh:Bool->Obj:=λled=>{cls:=.type "set",dict:=none,data:=.set #[] 0 (.fresh 0 0 led)}
 refine xQ (code_set_new_1 (.ref l) (E:=E) (Q₁:=λobj s₁=>∃led:Bool,obj=.ref ↑s/\s₁={s with heap:=s.heap.push (fresh led)}) λled=>{(led),rfl,rfl}) λr s₁ hr=>?_;cases r with
 | error e=>exact hr
 | ok fl=>
  cases fl with
  | next=>exact hr.elim
  | brk=>exact hr.elim
  | cont=>exact hr.elim
  | ret obj=>
   let⟨led,rfl,rfl⟩:=hr;let hS:(s.heap.push (fresh led)).get? ↑s=some (fresh led):=yw _ rfl;let hT:Shared.TypeIs {s with heap:=s.heap.push (fresh led)} (.ref ↑s) "set":={_,hS,rfl}
   let hli:=F.called_set.init.lookup;let hbi:=F.called_set.init.bind (.ref ↑s)
   repeat (any_goals (first | assumption | wp_step))
   refine xQ (codeAny_call_builtin (R:=wants (λr s₂=>r=.none/\∃h' tk,s₂={s with heap:=h',toks:=tk}/\h'.SetOf (PySem.strKind prog w) ↑s (λx=>decide (x∈gs zs)) ⇑(gs zs)/\
     (∀b o,b<↑s->s.heap.get? b=some o->h'.get? b=some o)) E) F.called_set.init.plain F.entry_set_init (check_set_init_1 hT ?_)) λr₂ s₂ hr₂=>?_
   ·let⟨⟨ocls,odict,odata,oslots⟩,hol,hcl,nl,hdl⟩:=hl
    simp only at hcl hdl;subst hcl hdl;let hol':(s.heap.push (fresh led)).get? l=some {cls:=.type "tuple",dict:=odict,data:=.seq items nl,slots:=oslots}:=yu _ hol;let hsls:=sub_tuple_set;let hslf:=sub_tuple_frozenset;let hne:(Value.type "tuple"== Value.type "dict")=false:=by decide
    let hl1:(s.heap.push (fresh led)).IsTuple l items:={_,hol',rfl,nl,rfl}
    unfold Builtin.«set.__init__» noKeywords Builtin.Frozenset.updateFrom;generalize hPI:pyIter=PI;wp_walk;subst hPI;refine wpAny_pyIter_tuple hl1 ?_;refine yt (wpAny_runValue ?_);let hlS:l<↑s:=yx hol;let hh3:A.in1.in1.in1.handled=none:=by simp[hh]
    let hz:(s.heap.push (fresh led)).objs.size=↑s+1:=xh ..;let hSf:↑s∉[(s.heap.push (fresh led)).objs.size,l]:=by
     rw[hz];simp only[zC,zD,yT,not_or];exact{yi (xN _),yh hlS}
    refine Nh ((Walks.tuple hh3 _ l (by rw[hz];exact yi (wI hlS)) items).toS) ↑s hSf zs hn hi hb (items.size-0) 0 _ () (yf _)
     {{_,yw _ rfl,rfl,rfl},(hl1.push _)} ?hS0 ?hR
    case hS0=>
     exact SetOf_congr ((setObjOf_fresh (knd:=PySem.strKind prog w) led).setOf (yu _ hS) (by unfold scanBound;ext)) (λ_=>rfl) rfl
    case hR=>
     intro s' hm hS';let⟨h',g',d',tk',os'⟩:=s';let eg:g'=s.gens:=hm.gens;let ed:d'=s.drawn:=hm.drawn;let eo:os'=s.os:=hm.os;subst eg ed eo;refine yv (yv {rfl,h',tk',rfl,hS',λb o hb e=>?_});refine hm.heap b o ?_ (yu _ (yu _ e));simp only[zC,zD,yT,not_or];exact{yi hb,by rw[hz];exact yi (wI hb)}
   ·cases r₂ with
    | error e=>exact hr₂
    | ok fl₂=>
     cases fl₂ with
     | next=>exact hr₂.elim
     | brk=>exact hr₂.elim
     | cont=>exact hr₂.elim
     | ret r=>
      let⟨rfl,h',tk,rfl,hS',hk'⟩:=hr₂
      repeat (any_goals (first | assumption | wp_step))
      exact h _ _ hS' hk'
end
def ID (a:vy) (n:Nat):HO:=.ext λh=>∃o es ep t,h.get? a=some o/\o.ExactSet/\o.data=.set es ep t/\t.fits es.size=true/\es.size=n
section
variable {X:Cx}
def Ml (hc:X.calm=true):fF X (.type "set") (λxs H Q=>∃(a:vy) (zs:List Str),xs=[.ref a]/\cu X.K H a (zs.map V.str)/\⇑zs<=1000/\∀p,H p=none->Q (.ref p) (upd H p (ID p ⇑(gs zs)))):=by
 intro pins s U H xs us Q I r h;let⟨a,zs,rfl,hq,hz,q⟩:=h;let⟨u,rfl,rx⟩:=vals1 r;cases rx;let⟨its,rv,p,_⟩:=I.tuple hq;let hl:⇑zs=⇑its:=by have:=⇑rv;rw[za] at this;exact this
 refine Jb (zs:=zs) (I.ok.hd hc) p (λi v hv=>?_) (by rw[ya,hl]) (by rw[ya];unfold scanBound;ext) λh' tk hS hk=>?_
 ·let hv':its[i]?=some v:=by simpa using hv
  let hi:i<⇑its:=(zw.mp hv').1;let⟨z,t,e1,e2⟩:=M7 rv hi;have:=(zw.mp hv').2;exact{z,t,e1,by rw[<-this,e2]}
 ·let⟨o,es,ep,t,ho,hex,hd,hel,hmem,hb,hf,hn⟩:=hS
  refine{.ref _,_,I.laid (t':=tk) (a:=↑s) (o:=ID ↑s ⇑(gs zs)) (λb ob e=>hk b ob (yx e) e) (zk _) ?_,rfl,q _ (I.bW.fresh (zk _))};exact{{(o),es,ep,t,ho,hex,hd,hf,hn},{(o),ho},λh1 h2 ⟨o,es,ep,t,e1,r⟩ kk=>{o,es,ep,t,kk o e1,r}}
def Mn:fF X (.builtin "len") (λxs H Q=>∃(p:vy) (n:Nat),xs=[.ref p]/\H p=some (ID p n)/\n<=1000/\Q (.int n) H):=by
 intro pins s U H xs us Q I r h;let⟨p,n,rfl,hp,hn,q⟩:=h;let⟨u,rfl,rx⟩:=vals1 r;cases rx;let⟨⟨o,es,ep,t,ho,hex,hd,hf,rfl⟩,_⟩:=(show cx X.prog X.w H s.heap p (ID p n) from I.bW p _ hp)
 exact call_len_set ho hex hd hf () {.int _,H,I.tok _,{_,rfl},q}
end
def PL:V->Bool
 | .bA=>true
 | .int _=>true
 | .str _=>true
 | _=>false
def GP (h:PL x=true):mf x=true:=by cases x <;> first | rfl | cases h
def RF {x y:V} (a:PL x=true) (b:PL y=true):JN x y=decide (x=y):=by
 cases x <;> first | cases a;done | skip
 all_goals (cases y <;> first | rfl | exact Fc.symm | exact E9.symm | cases b)
def Vy (K:yA) (H:Hp) (a b:vy) (xs ys:List V):Prop:=(aI K H a xs/\aI K H b ys)\/(cu K H a xs/\cu K H b ys)
def Vq (xs ys:List V):Prop:=xs=[]\/ys=[]\/(xs.all PL=true/\ys.all PL=true)
inductive Te (K:yA) (x y:V) (H:Hp) (Q:VK):Prop
 | mk (a b:vy) (xs ys:List V) (_:x=.ref a) (_:y=.ref b) (_:Vy K H a b xs ys) (_:Vq xs ys) (_:Q (.bl (decide (xs=ys))) H)
inductive RB (K:yA) (x y:V) (H:Hp) (Q:VK):Prop
 | mk (a b:vy) (xs ys:List V) (_:x=.ref a) (_:y=.ref b) (_:Vy K H a b xs ys) (_:Vq xs ys) (_:Q (.bl (!decide (xs=ys))) H)
def Ks (r:Vals xs its) (h:j<⇑its):∃x,xs[j]?=some x/\RelV x its[j]:=by
 let hl:=⇑r;let⟨u,hu,ru⟩:=r.get (i:=j) (x:=xs[j]'()) (zb ());rw[zb h] at hu;cases hu;exact{_,zb (),ru}
section
variable {X:Cx}
def Bc (r:Vals xs its) (r':Vals ys jts) (p:Vq xs ys):∀j (h1:j<its.toArray.size) (h2:j<jts.toArray.size),SeqAt.EqAt A s its.toArray[j] jts.toArray[j] (decide (xs[j]?=ys[j]?)):=by
 intro j h1 h2;let h1':j<⇑its:=by simpa using h1
 let h2':j<⇑jts:=by simpa using h2
 let⟨x,ex,rx⟩:=Ks r h1';let⟨y,ey,ry⟩:=Ks r' h2';let l1:=⇑r;let l2:=⇑r';let hp:PL x=true/\PL y=true:=by
  rcases p with e | e | ⟨q1,q2⟩
  ·rw[e] at ex;simp at ex
  ·rw[e] at ey;simp at ey
  ·exact{yo.mp q1 x (zB ex),yo.mp q2 y (zB ey)}
 let g1:its.toArray[j]=its[j]:=by simp
 let g2:jts.toArray[j]=jts[j]:=by simp
 let z:=Oz (A:=A) (s:=s) rx ry (GP hp.1) (GP hp.2);rw[RF hp.1 hp.2] at z;let e:decide (xs[j]?=ys[j]?)=decide (x=y):=by rw[ex,ey,xJ];simp
 rw[g1,g2,e];exact z
def all_eq {xs ys:List V} (h:⇑xs=⇑ys):((List.range ⇑xs).all λj=>decide (xs[j]?=ys[j]?))=decide (xs=ys):=by
 rw[xJ,yo,xB];constructor
 ·intro hh
  refine List.ext_getElem? λj=>?_;rcases xE j ⇑xs with hj | hj
  ·exact yd (hh j (yQ.mpr hj))
  ·rw[wK hj,wK ()]
 ·intro hh j _
  rw[hh];exact ze rfl
def EZ {xs ys:List V} (h:⇑xs≠⇑ys):decide (xs=ys)=false:=zd λe=>h (by rw[e])
def AS (hu:X.A.units+64<cLine):mG X (compareOp .Eq) (Te X.K):=by
 intro pins s U H x y v u Q I rx ry h;let⟨a,b,xs,ys,rfl,rfl,hs,pl,q⟩:=h;cases rx;cases ry;rcases hs with⟨ha,hb⟩ | ⟨ha,hb⟩
 ·let⟨its,r,p,_⟩:=I.list ha
  let⟨jts,r',p',_⟩:=I.list hb;let l1:=⇑r;let l2:=⇑r'
  by_cases hl:⇑xs=⇑ys
  ·let z:=SeqAt.RcAt.lists (A:=X.A) (s:=s) p.isList p'.isList (by rw[ya,ya];ext) () (Bc r r' pl)
   rw[ya,<-l1,all_eq hl] at z;exact z _ _ _ _ {.bl _,H,I,rfl,q}
  ·let z:=SeqAt.RcAt.lists_lengths (A:=X.A) (s:=s) p.isList p'.isList (by rw[ya,ya];simp;ext) ()
   rw[EZ hl] at q;exact z _ _ _ _ {.bl false,H,I,rfl,q}
 ·let⟨its,r,p,_⟩:=I.tuple ha
  let⟨jts,r',p',_⟩:=I.tuple hb;let l1:=⇑r;let l2:=⇑r';let z:=SeqAt.RcAt.tuples (A:=X.A) (s:=s) p p' () (Bc r r' pl);rw[ya,ya,<-l1,<-l2] at z
  by_cases hl:⇑xs=⇑ys
  ·let em:min ⇑xs ⇑ys=⇑xs:=()
   rw[em,all_eq hl,hl,wc,Bool.and_true] at z;exact z _ _ _ _ {.bl _,H,I,rfl,q}
  ·rw[show(⇑xs == ⇑ys)=false by simpa using hl,wG] at z
   rw[EZ hl] at q;exact z _ _ _ _ {.bl false,H,I,rfl,q}
def kZ (hu:X.A.units+64<cLine):mG X (compareOp .NotEq) (RB X.K):=by
 intro pins s U H x y v u Q I rx ry h;let⟨a,b,xs,ys,rfl,rfl,hs,pl,q⟩:=h;cases rx;cases ry;rcases hs with⟨ha,hb⟩ | ⟨ha,hb⟩
 ·let⟨its,r,p,_⟩:=I.list ha
  let⟨jts,r',p',_⟩:=I.list hb;let l1:=⇑r;let l2:=⇑r'
  by_cases hl:⇑xs=⇑ys
  ·let z:=SeqAt.RcNeAt.lists (A:=X.A) (s:=s) p.isList p'.isList (by rw[ya,ya];ext) () (Bc r r' pl)
   rw[ya,<-l1,all_eq hl] at z;exact z _ _ _ _ {.bl _,H,I,rfl,q}
  ·let z:=SeqAt.RcNeAt.lists_lengths (A:=X.A) (s:=s) p.isList p'.isList (by rw[ya,ya];simp;ext) ()
   rw[EZ hl] at q;exact z _ _ _ _ {.bl true,H,I,rfl,q}
 ·let⟨its,r,p,_⟩:=I.tuple ha
  let⟨jts,r',p',_⟩:=I.tuple hb;let l1:=⇑r;let l2:=⇑r';let z:=SeqAt.RcNeAt.tuples (A:=X.A) (s:=s) p p' () (Bc r r' pl);rw[ya,ya,<-l1,<-l2] at z
  by_cases hl:⇑xs=⇑ys
  ·let em:min ⇑xs ⇑ys=⇑xs:=()
   rw[em,all_eq hl,hl,wc,Bool.and_true] at z;exact z _ _ _ _ {.bl _,H,I,rfl,q}
  ·rw[show(⇑xs == ⇑ys)=false by simpa using hl,wG] at z
   rw[EZ hl] at q;exact z _ _ _ _ {.bl true,H,I,rfl,q}
def QI (K:yA):V->Option Int->Option Int->Hp->VK->Prop:=λx lo hi H Q=>∃a xs,x=.ref a/\cu K H a xs/\(HT.d7 ⇑xs 0 lo=0/\HT.d7 ⇑xs ⇑xs hi=⇑xs)/\Q (.ref a) H
def Pn:OW X (QI X.K):=by
 intro pins s U H x v vl vu lo hi sl Q I rx hs pl pu h;let⟨a,xs,rfl,hx,hw,q⟩:=h;cases rx;let⟨its,r,ht,hz⟩:=I.tuple hx;let hlen:its.toArray.size=⇑xs:=by rw[ya];exact r.length.symm
 refine{"tuple",_,xM.lookup,ht.typeIs,?_};rw[<-hlen] at hw;let⟨os,hos,hcs,hds⟩:=id hs;let hTs:s.TypeIs (.ref sl) "slice":={(os),hos,hcs}
 unfold getItem
 try with_reducible refine xF ?_
 first | refine yt (yv ?_) | skip
 refine yt (wpAny_sequenceKey ht.typeIs ∅ ?_);refine yt (yX (name:=Str.ofString "__getitem__") ht.typeIs xM
  (y7 xM ht.typeIs entry_tuple_getitem ?_ (args_tuple_getitem _ _)))
 show wpAny _ _ (Builtin.Tuple.tupleItemsOf (.ref a) >>= _) _ _ s;refine yt (tupleItemsOf_ ht ?_);refine yt (vc hTs ?_);rw[yN ∅];refine yt (HT.kh hs pl pu ?_);show wpAny _ _ (if(((HT.d7 its.toArray.size 0 lo:Nat):Int) == 0&&(1:Int) == 1&&(HT.d7 its.toArray.size its.toArray.size hi-HT.d7 its.toArray.size 0 lo) == its.toArray.size)=true then _ else _) _ _ s;rw[yN (by rw[hw.1,hw.2];simp)];unfold Builtin.Tuple.tupleIsExact;refine yt ?_
 repeat (any_goals (first | assumption | exact⟨_,rfl,yv ⟨.ref a,H,I,rfl,q⟩⟩ | refine yt (vc ht.typeIs ?_) | wp_step))
def QJ (K:yA):V->Option Int->Option Int->Hp->VK->Prop:=λx lo hi H Q=>Td K x lo hi H Q\/QI K x lo hi H Q
def vJ:OW X (QJ X.K):=OW.or Ru Pn
def GK (K:yA):V->List V->Hp->VK->Prop:=λx vs H Q=>∃l b xs zs,x=.ref l/\vs=[.ref b]/\H l=some (.lst xs)/\H b=some (.tup zs)/\⇑xs+⇑zs<=sizeLine/\Q .bA (upd H l (.lst (xs++zs)))
def NF (K:yA):V->List V->Hp->VK->Prop:=λx vs H Q=>KC x vs H Q\/GK K x vs H Q
def Jy:QY X "list.extend" (GK X.K):=by
 intro pins s U H x vs v us Q I rx rv h;let⟨l,b,xs,zs,rfl,rfl,hH,hB,hz,q⟩:=h;cases rx;let⟨u,rfl,ru⟩:=rv.one;cases ru;let⟨z,its,n,r,hl,e⟩:=I.N3 hH;let⟨_,its2,r2,⟨oc,od,oda,osl⟩,ho,hoc,n2,hod⟩:=(show cx X.prog X.w H s.heap b (.tup zs) from I.bW b _ hB)
 let l1:=⇑r;let l2:=⇑r2;let hsz:its.toArray.size+its2.toArray.size<=sizeLine:=by rw[ya,ya];ext
 let hlong:¬(!its.toArray.isEmpty&&Builtin.List.listTooLong (its.toArray.size+its2.toArray.size))=true:=by
  rw[G9 hsz,wG];exact zK
 dsimp only at hoc hod;subst hoc hod;refine y7 F.slot_list_extend {_,e,rfl} F.entry_list_extend ?_ (F.args_list_extend_2 _ _);show wpAny _ _ (Builtin.List.listExtendWith (.ref l) (.ref b) .none) _ _ s;unfold Builtin.List.listExtendWith;refine yt (vc (T:="tuple") {_,ho,rfl} ?_);let ht:(Value.type "tuple"== Value.type "tuple")=true:=by rfl
 rw[yN (by rw[ht];simp)];refine yt (listItems_at ho rfl ?_);refine yt (listItems_at e rfl ?_);rw[yM hlong];refine yt (listUpdate_at e rfl ?_ (by rw[ya];ext) (by show(its.toArray++its2.toArray).size<=sizeLine+1;rw[Array.size_append];ext));refine yv {_,rfl,?_};refine{.bA,_,I.P6 (its':=its++its2) hH e (by simp) (r.append r2) ?_,rfl,q};rw[zg];ext
def pz:QY X "list.extend" (NF X.K):=by
 intro pins s U H x vs v us Q I rx rv h;rcases h with h | h
 ·exact LP pins s U H x vs v us Q I rx rv h
 ·exact Jy pins s U H x vs v us Q I rx rv h
def J5:fF X (.builtin "len") (λxs H Q=>∃p kvs,xs=[.ref p]/\H p=some (.dK kvs)/\Q (.int (⇑kvs:Nat)) H):=by
 intro pins s U H xs us Q I r h;let⟨p,kvs,rfl,hp,q⟩:=h;let⟨u,rfl,rx⟩:=vals1 r;cases rx;exact TQ I (.inl hp) λt s' I'=>{.int _,H,I',{_,rfl},q}
end
abbrev U5 (K:yA):List V->Hp->VK->Prop:=λxs H Q=>∃p ys,xs=[.ref p]/\(aI K H p ys\/cu K H p ys)/\Q (.int ⇑ys) H
abbrev U6 (K:yA):List V->Hp->VK->Prop:=λxs H Q=>∃(a:vy) (bs:List Bool),xs=[.ref a]/\aI K H a (bs.map V.bl)/\Q (.bl (bs.any id)) H
abbrev Tg:List V->Hp->VK->Prop:=λxs H Q=>∃i,xs=[.int i]/\i.natAbs.log2<1920/\Q (.str (toString i)) H
abbrev RD (K:yA):List V->Hp->VK->Prop:=λxs H Q=>∃p ys,xs=[.ref p]/\((aI K H p ys/\∀l,H l=none->Q (.ref l) (upd H l (.tup ys)))\/(cu K H p ys/\Q (.ref p) H))
abbrev Th (K:yA):List V->Hp->VK->Prop:=λxs H Q=>∃p ys,xs=[.ref p]/\(aI K H p ys\/cu K H p ys)/\∀l,H l=none->Q (.ref l) (upd H l (.lst ys))
def LD (lo:Int) (n:Nat):List Int:=(List.range n).map λi=>lo+(i:Nat)
def Rj (ta:TA):TE:=λU H Q=>ta U H λvs H1=>∃i j:Int,vs=[.int i,.int j]/\(-(2^62)<=i/\i<2^62/\-(2^62)<=j/\j<2^62)/\(j-i).toNat<=1000000/\∀l,H1 l=none->Q (.ref l) (upd H1 l (.lst ((LD i (j-i).toNat).map V.int)))
theorem Kr:∀{xs:List V} {us:List vo},⇑xs=⇑us->(∀(i:Nat) (x:V) (u:vo),xs[i]?=some x->us[i]?=some u->RelV x u)->Vals xs us
 | [],[],_,_=>.nil
 | x::xs,u::us,h,k=>.cons (k 0 x u rfl rfl) (Kr (by simpa using h) λi y v e e'=>k (i+1) y v (by simpa using e) (by simpa using e'))
 | [],_::_,h,_=>by simp at h
 | _::_,[],h,_=>by simp at h
section
variable {X:Cx}
def NS (hc:X.calm=true) (hg0:Gl X "list") (hm0:X.mg "list"= none) (hg:Gl X "range") (hm:X.mg "range"= none) (ha:PA X [a,b] ta)
  (hs:starEach [a,b] X.env=[(false,eval a X.env),(false,eval b X.env)]<|>qe_) (hs2:starEach [b] X.env=[(false,eval b X.env)]<|>qe_)
  (hs1:starEach [.Call (.Name "range" p2) [a,b] [] pos2] X.env=[(false,eval (.Call (.Name "range" p2) [a,b] [] pos2) X.env)]<|>qe_) :
  PE X (.Call (.Name "list" p1) [.Call (.Name "range" p2) [a,b] [] pos2] [] pos1) (Rj ta):=by
 intro pins s U H Q I h;refine xm (je I hg0 hm0 (by decide +kernel:bootBuiltins "list"= some (.type "list")) ?_ ∅ ∅);refine yL (Q:=_) ?_ hs1 rfl;rw[hs1];refine wA ?_;refine Call_ (je I hg hm boot_range (yL (cR (ha pos2 pins s U H _ I h) λus s1 ⟨vs,H1,I1,r1,q1⟩=>?_) (by rw[hs,hs2]) (by rw[hs2];rfl)));let⟨i,j,e,⟨q1,q2,q3,q4⟩,hz,q⟩:=q1;subst e;cases r1 with
 | cons r rr=>
  cases rr with
  | cons r' rr=>
   cases rr;let⟨t,rfl⟩:=r;let⟨t',rfl⟩:=r';refine call_range_2 ?_;refine vm ?_;let I2:Inv X pins U H1 {s1 with heap:=s1.heap.push {cls:=.type "range",data:=.fields #[.int i t,.int j t',.int 1 s1.toks]},toks:=s1.toks+1}:=I1.kept λb o e=>yu _ e;let hn:Builtin.Range.rangeSize i j 1=(((j-i).toNat:Nat):Int):=by rw[rangeSize_one];split <;> ext
   refine call_list_range (I2.ok.hd hc) (IsRange.new ..) (small_one q1 q2 q3 q4) hn (zL hz ∅) λh' tk acc c hk hS hit=>?_;let rv:Vals ((LD i (j-i).toNat).map V.int) acc.toList:=by
    refine Kr ?_ ?_
    ·let e1:⇑acc.toList=(j-i).toNat:=by rw[yP];exact hit.1
     rw[za,e1];unfold LD;simp
    ·intro k x u hx hu
     rw[xg] at hu;let⟨tk',rfl⟩:=hit.2 k u hu;let hk':k<(j-i).toNat:=by
      have:=(Array.getElem?_eq_some_iff.mp hu).1;rw[hit.1] at this;exact this
     unfold LD at hx;rw[zA,zJ,List.getElem?_range hk'] at hx;cases hx;exact{tk',by simp}
   let hl:H1 (s1.heap.push {cls:=.type "range",data:=.fields #[.int i t,.int j t',.int 1 s1.toks]}).objs.size=none:=I2.bW.fresh (zk _);refine{.ref _,_,I2.laid (t':=tk) hk (zk _) (show cx X.prog X.w _ h' _ (.lst ((LD i (j-i).toNat).map V.int)) from{?_,acc.toList,c,rv,?_}),rfl,q _ hl}
   ·rw[za]
    let sl:=yB;unfold LD;simp;ext
   ·simpa using hS
end
def IJ:typeLookup (.type "zip") "__len__"= pure none:=by rw[typeLookup_type,builtinLookup_eq_fast];kernel_rfl
def FZ:typeLookup (.type "zip") "__length_hint__"= pure none:=by rw[typeLookup_type,builtinLookup_eq_fast];kernel_rfl
section
variable {prog:vt} {w:vv} {A:vw} {E:vo->vq->Prop} {s:vq}
def uc (ho:s.heap.get? a=some o) (h:Q (some o) s):wpAny (model prog w) A (loadIfAlive a) Q E s:=
 λΓ p _=>by
  unfold loadIfAlive;rw[Sem.wp_loadIfAlive,ho];exact h
abbrev Kj (h:vz) (z TI TO T:vy) (f1:Bool):Prop:=h.get? z=some {cls:=.type "zip",dict:=none,data:=.fields #[rawInt T,.bool f1,.bool false,.ref TI,.ref TO],slots:=#[]}
structure Uk (t1 t2:Bool) (h:vz) (z TI TO i1 i2 l1 l2:vy) (k:Nat):Prop where
 z:∃T f1,Kj h z TI TO T f1/\(∃o,h.get? T=some o)/\T≠z/\T≠i1/\T≠i2
 ti:IsPair h TI (.ref i1) (.ref i2)
 to:∃o,h.get? TO=some o
 i1:dk t1 h i1 l1 k
 i2:dk t2 h i2 l2 k
def G8 {z TI TO T:vy} {f1:Bool} {o:Obj} {Q:Bool->vq->Prop} (hz:Kj s.heap z TI TO T f1) (hT:s.heap.get? T=some o)
  (hQ:∀h',Kj h' z TI TO T true->Heap.SameBut z s.heap h'->Q false {s with heap:=h'}):wpAny (model prog w) A (Builtin.SmallTypes.ownedTupleIsFree (.ref z)) Q E s:=by
 unfold Builtin.SmallTypes.ownedTupleIsFree;refine yt (yZ hz rfl (x:=rawInt T) rfl ?_);show wpAny _ _ (loadIfAlive ((T:Int).toNat) >>= _) _ _ _;rw[xX];refine yt (uc hT ?_);show wpAny _ _ (field (.ref z) 1 >>= _) _ _ _;refine yt (yZ hz rfl (x:=.bool f1) rfl ?_);cases f1 with
 | true=>exact yv (hQ s.heap hz {rfl,λ_ _=>rfl})
 | false=>
  show wpAny _ _ (setField (.ref z) 1 (.bool true) >>= _) _ _ _;exact yt (xH hz (by simp) λg1 z1 q1=>yv (hQ g1 z1 q1))
def Lf {t1 t2:Bool} {z TI TO i1 i2 l1 l2:vy} {k:Nat} {xs ys:Array vo} {x y:vo} {Q:vo->vq->Prop} (D:Mx z TI TO i1 i2) (L1:BW l1 z TO i1 i2) (L2:BW l2 z TO i1 i2)
  (S:Uk t1 t2 s.heap z TI TO i1 i2 l1 l2 k) (hl1:e9 t1 s.heap l1 xs) (hl2:e9 t2 s.heap l2 ys) (hx:xs[k]?=some x) (hy:ys[k]?=some y)
  (hQ:∀h',Uk t1 t2 h' z TI TO i1 i2 l1 l2 (k+1)->IsPair h' ↑s x y->rJ z TO i1 i2 s.heap h'->Q (.ref ↑s) {s with heap:=h'}) :
  wpAny (model prog w) A (Builtin.«zip.__next__» {[.ref z],[]}) (λfin s'=>∃v,fin=.done (.ret v)/\Q v s') E s:=by
 let⟨⟨T,f1,hz,⟨o,hT⟩,n1,n2,n3⟩,hTI,⟨oT,hTO⟩,h1,h2⟩:=S;show wpAny _ _ (field (.ref z) 2 >>= _) _ _ _;refine yt (yZ hz rfl (x:=.bool false) rfl ?_);show wpAny _ _ (field (.ref z) 3 >>= _) _ _ _;refine yt (yZ hz rfl (x:=.ref TI) rfl (yt (xo hTI rfl ?_)));show wpAny _ _ (Builtin.SmallTypes.ownedTupleIsFree (.ref z) >>= _) _ _ _;refine yt (G8 hz hT λg1 z1 q1=>?_);simp only[wB,wm];refine yt ?_;simp only[List.forIn_toArray,List.forIn_cons,List.forIn_nil];refine yt (yt (xF ?_));show wpAny _ _ (Builtin.SmallTypes.nextOf (.ref i1) >>= _) _ _ _;refine yt (pT (h1.but q1 D.a3) (hl1.but q1 L1.a1) hx λg2 p2 q2=>yv ?_);refine yv ?_;refine yt (yt (xF ?_));show wpAny _ _ (Builtin.SmallTypes.nextOf (.ref i2) >>= _) _ _ _;refine yt (pT ((h2.but q1 D.a4).but q2 D.b1.symm) ((hl2.but q1 L2.a1).but q2 L2.a3) hy λg3 p3 q3=>yv ?_);refine yv (yv ?_);let sz:g3.objs.size=↑s:=by rw[q3.1,q2.1,q1.1]
 let k3:∀c o,c≠z->c≠i1->c≠i2->s.heap.get? c=some o->g3.get? c=some o:=λc o c1 c3 c4 e=>q3.extBut _ _ c4 (q2.extBut _ _ c3 (q1.extBut _ _ c1 e));show wpAny _ _ (newTuple [x,y] >>= _) _ _ _;refine yt (wpAny_newTuple ?_);refine yv {_,rfl,?_};let up:∀c o,g3.get? c=some o->(g3.push {cls:=.type "tuple",data:=.seq #[x,y]}).get? c=some o:=λc o e=>yu _ e;let gp:(g3.push {cls:=.type "tuple",data:=.seq #[x,y]}).get? g3.objs.size=some {cls:=.type "tuple",data:=.seq #[x,y]}:=yw _ rfl;rw[sz] at gp;show Q (.ref g3.objs.size) _;rw[sz];refine hQ _ {{T,true,up _ _ (q3.extBut _ _ D.a4.symm (q2.extBut _ _ D.a3.symm z1)),{o,up _ _ (k3 _ _ n1 n2 n3 hT)},n1,n2,n3},up _ _ (k3 _ _ D.a1 D.a6 D.a7 hTI),{oT,up _ _ (k3 _ _ D.a2 D.a8 D.a9 hTO)},(p2.but q3 D.b1).at (up _),p3.at (up _)} gp λc o c1 c2 c3 c4 e=>up _ _ (k3 c o c1 c3 c4 e)
def Le {t1 t2:Bool} {z TI TO i1 i2 l1 l2:vy} {k:Nat} {xs:Array vo} {Q:Fin->vq->Prop} (hh:A.handled=none) (D:Mx z TI TO i1 i2) (L1:BW l1 z TO i1 i2)
  (S:Uk t1 t2 s.heap z TI TO i1 i2 l1 l2 k) (hl1:e9 t1 s.heap l1 xs) (hx:xs[k]?=none)
  (hE:∀h' e,rJ z TO i1 i2 s.heap h'->(∃o,h'.get? e=some o/\o.cls=.type "StopIteration")->E (.ref e) {s with heap:=h'}) :
  wpAny (model prog w) A (Builtin.«zip.__next__» {[.ref z],[]}) Q E s:=by
 let⟨⟨T,f1,hz,⟨o,hT⟩,n1,n2,n3⟩,hTI,⟨oT,hTO⟩,h1,h2⟩:=S;show wpAny _ _ (field (.ref z) 2 >>= _) _ _ _;refine yt (yZ hz rfl (x:=.bool false) rfl ?_);show wpAny _ _ (field (.ref z) 3 >>= _) _ _ _;refine yt (yZ hz rfl (x:=.ref TI) rfl (yt (xo hTI rfl ?_)));show wpAny _ _ (Builtin.SmallTypes.ownedTupleIsFree (.ref z) >>= _) _ _ _;refine yt (G8 hz hT λg1 z1 q1=>?_);simp only[wB,wm];refine yt ?_;simp only[List.forIn_toArray,List.forIn_cons,List.forIn_nil];refine yt (yt (xF ?_));show wpAny _ _ (Builtin.SmallTypes.nextOf (.ref i1) >>= _) _ _ _;refine yt (Eh hh (h1.but q1 D.a3) (hl1.but q1 L1.a1) hx λg2 e q2 he=>?_);exact hE g2 e (λc o c1 c2 c3 c4 x=>q2 _ _ c3 (q1.extBut _ _ c1 x)) he
def Mw (t1 t2:Bool) (h:vz) (z TI TO i1 i2 l1 l2:vy) (k:Nat):Prop:=(k=0/\O7 t1 t2 h z TI TO i1 i2 l1 l2 0 .none)\/Uk t1 t2 h z TI TO i1 i2 l1 l2 k
def Mw.type {t1 t2:Bool} {z TI TO i1 i2 l1 l2:vy} {k:Nat} (S:Mw t1 t2 s.heap z TI TO i1 i2 l1 l2 k):s.TypeIs (.ref z) "zip":=by
 rcases S with⟨_,S⟩ | S
 ·exact{_,S.z,rfl}
 ·let⟨_,_,e,_⟩:=S.z;exact{_,e,rfl}
theorem Mw.at {t1 t2:Bool} {h h':vz} {z TI TO i1 i2 l1 l2:vy} {k:Nat} (S:Mw t1 t2 h z TI TO i1 i2 l1 l2 k) {B:vy} (hk:∀c o,c≠B->h.get? c=some o->h'.get? c=some o) (hB:∃o,h'.get? B=some o) (nB:B∉[z,TI,TO,i1,i2]):Mw t1 t2 h' z TI TO i1 i2 l1 l2 k:=by
 simp only[zC,zD,yT,not_or] at nB;let⟨b1,b2,b3,b4,b5⟩:=nB;rcases S with⟨e,S⟩ | S
 ·exact .inl {e,hk _ _ (Ne.symm b1) S.z,hk _ _ (Ne.symm b2) S.ti,(let ⟨x,y,q⟩:=S.to;{x,y,hk _ _ (Ne.symm b3) q}),S.i1.at λo=>hk _ o (Ne.symm b4),S.i2.at λo=>hk _ o (Ne.symm b5)}
 ·let⟨T,f1,z1,⟨o,hT⟩,n1,n2,n3⟩:=S.z
  refine .inr {{T,f1,hk _ _ (Ne.symm b1) z1,?_,n1,n2,n3},hk _ _ (Ne.symm b2) S.ti,(let ⟨x,q⟩:=S.to;{x,hk _ _ (Ne.symm b3) q}),S.i1.at λo=>hk _ o (Ne.symm b4),S.i2.at λo=>hk _ o (Ne.symm b5)}
  by_cases e:T=B
  ·rw[e];exact hB
  ·exact{o,hk _ _ e hT}
def Mw.obj {t1 t2:Bool} {h:vz} {z TI TO i1 i2 l1 l2:vy} {k:Nat} (S:Mw t1 t2 h z TI TO i1 i2 l1 l2 k):∀b∈[z,TI,TO,i1,i2],∃o,h.get? b=some o:=by
 intro b hb;simp only[zC,zD,yT] at hb;rcases S with⟨e,S⟩ | S
 ·rcases hb with rfl | rfl | rfl | rfl | rfl
  ·exact{_,S.z}
  ·exact{_,S.ti}
  ·exact let ⟨x,y,q⟩:=S.to;{_,q}
  ·exact let ⟨o,e,_⟩:=S.i1.get;{(o),e}
  ·exact let ⟨o,e,_⟩:=S.i2.get;{(o),e}
 ·rcases hb with rfl | rfl | rfl | rfl | rfl
  ·let⟨_,_,e,_⟩:=S.z;exact{_,e}
  ·exact{_,S.ti}
  ·exact S.to
  ·exact let ⟨o,e,_⟩:=S.i1.get;{(o),e}
  ·exact let ⟨o,e,_⟩:=S.i2.get;{(o),e}
def Ld {t1 t2:Bool} {z TI TO i1 i2 l1 l2:vy} {k:Nat} {xs ys:Array vo} {x y:vo} {Q:Option vo->vq->Prop} (D:Mx z TI TO i1 i2) (L1:BW l1 z TO i1 i2) (L2:BW l2 z TO i1 i2)
  (S:Mw t1 t2 s.heap z TI TO i1 i2 l1 l2 k) (hl1:e9 t1 s.heap l1 xs) (hl2:e9 t2 s.heap l2 ys) (hx:xs[k]?=some x) (hy:ys[k]?=some y)
  (hQ:∀h',Mw t1 t2 h' z TI TO i1 i2 l1 l2 (k+1)->IsPair h' ↑s x y->rJ z TO i1 i2 s.heap h'->Q (some (.ref ↑s)) {s with heap:=h'}) :
  wpAny (model prog w) A (pyNext (.ref z)) Q E s:=by
 let ob:=S.obj;let lt:∀b∈[z,TI,TO,i1,i2],↑s≠b:=λb hb e=>by
  let⟨o,ho⟩:=ob b hb;rw[<-e] at ho;exact absurd (yx ho) (ye _)
 rcases S with⟨e,S⟩ | S
 ·subst e
  refine F0 D L1 L2 S hl1 hl2 hx hy λh' a1 a2 a3=>hQ h' (.inr {{_,false,a1.z,{_,a2},lt z (by simp),lt i1 (by simp),lt i2 (by simp)},a1.ti,(let ⟨x,y,q⟩:=a1.to;{_,q}),a1.i1,a1.i2}) a2 a3
 ·let hT:s.TypeIs (.ref z) "zip":=by let⟨_,_,e,_⟩:=S.z;exact{_,e,rfl}
  unfold pyNext;exact yt (wN (yX (name:=Str.ofString "__next__") hT xI (y7 xI hT F.entry_zip_next (Lf D L1 L2 S hl1 hl2 hx hy λh' a1 a2 a3=>yv (hQ h' (.inr a1) a2 a3)) (vk _))))
def Lc {t1 t2:Bool} {z TI TO i1 i2 l1 l2:vy} {k:Nat} {xs ys:Array vo} {Q:Option vo->vq->Prop} (hh:A.handled=none) (D:Mx z TI TO i1 i2) (L1:BW l1 z TO i1 i2) (L2:BW l2 z TO i1 i2)
  (S:Mw t1 t2 s.heap z TI TO i1 i2 l1 l2 k) (hl1:e9 t1 s.heap l1 xs) (hl2:e9 t2 s.heap l2 ys) (hx:xs[k]?=none)
  (hQ:∀h',rJ z TO i1 i2 s.heap h'->Q none {s with heap:=h'}):wpAny (model prog w) A (pyNext (.ref z)) Q E s:=by
 rcases S with⟨e,S⟩ | S
 ·subst e
  exact FY hh D L1 L2 S hl1 hl2 (.inl hx) hQ
 ·let hT:s.TypeIs (.ref z) "zip":=by let⟨_,_,e,_⟩:=S.z;exact{_,e,rfl}
  unfold pyNext;refine yt (wN (yX (name:=Str.ofString "__next__") hT xI (y7 xI hT F.entry_zip_next (Le hh D L1 S hl1 hx λh' e hk he=>?_) (vk _))));let⟨o,ho,hc⟩:=he;exact yt (wpAny_isInstance (T:="StopIteration") (b:=true) {(o),ho,hc} isSubtype_stop (yv (hQ _ hk)))
end
def Pairs (H:Hp) (xs ys us:List V) (k:Nat):Prop:=⇑us=k/\∀(j:Nat) (x y:V),j<k->xs[j]?=some x->ys[j]?=some y->∃q,us[j]?=some (.ref q)/\H q=some (.tup [x,y])
def aB.QG {t:Bool} {K:yA} {H H':Hp} {a:vy} {xs:List V} (e:aB H H') (h:C7 t K H a xs):C7 t K H' a xs:=by
 cases t
 ·exact e.seq h
 ·exact e.tup h
abbrev La (h:vz) (S:vy) (acc:Array vo) (c:Nat):Prop:=h.get? S=some {cls:=.type "list",dict:=none,data:=.seq acc c,slots:=#[]}
section
variable {X:Cx} {pins:List (vy×Obj)} {U:St}
def MO {A:vw} {R:Result->vq->Prop} {t1 t2:Bool} {a b z TI TO i1 i2 S:vy} {xs ys:List V} {res:vo} (hh:A.handled=none) (D:Mx z TI TO i1 i2) (L1:BW a z TO i1 i2) (L2:BW b z TO i1 i2) (hl:⇑xs=⇑ys) (hz:⇑xs<=sizeLine) (nS:S∉[z,TI,TO,i1,i2]) :
  ∀(n k:Nat) (s:vq) (H:Hp) (acc:Array vo) (c:Nat) (us:List V),⇑xs-k=n->k<=⇑xs->Inv X pins U H s->(∀b∈[z,TI,TO,i1,i2,S],pN X pins H b)->Mw t1 t2 s.heap z TI TO i1 i2 a b k->C7 t1 X.K H a xs->C7 t2 X.K H b ys->
  La s.heap S acc c->Vals us acc.toList->Pairs H xs ys us k->
  (∀(s':vq) (H':Hp) (us':List V) (acc':Array vo) (c':Nat),Inv X pins U H' s'->pN X pins H' S->aB H H'->La s'.heap S acc' c'->Vals us' acc'.toList->Pairs H' xs ys us' ⇑xs->R (.ok (.ret res)) s')->
  codeAny (model X.prog X.w) A (.builtin "list.extend.loop" {[.ref S,.ref z,res],[]}) R s:=by
 intro n
 induction n with
 | zero=>
  intro k s H acc c us hk hi I hf S0 q1 q2 hS rv pr hR;let e:k=⇑xs:=()
  subst e;let⟨its,rx,p1,_⟩:=I.sq q1;let⟨jts,ry,p2,_⟩:=I.sq q2;refine xT F.entry_extend_loop ?_;rw[wU wZ _];show wpAny _ A.in1 (pyNext (.ref z) >>= _) _ _ s;let hl:=⇑rx;refine yt (Lc (A:=A.in1) hh D L1 L2 S0 p1 p2 (by simp;ext) λh' hk'=>?_);let kk:∀b u,b∉[z,TI,TO,i1,i2,S]->s.heap.get? b=some u->h'.get? b=some u:=λb u hb e=>hk' b u (λz=>hb (by simp[z])) (λz=>hb (by simp[z])) (λz=>hb (by simp[z])) (λz=>hb (by simp[z])) e;let kS:La h' S acc c:=hk' S _ (λz=>nS (by simp[z])) (λz=>nS (by simp[z])) (λz=>nS (by simp[z])) (λz=>nS (by simp[z])) hS;exact yv (hR _ H us acc c (I.turns (t':=s.toks) hf kk) (hf S (by simp)) (λ_ _ e=>e) kS rv pr)
 | succ n ih=>
  intro k s H acc c us hk hi I hf S0 q1 q2 hS rv pr hR;let hlt:k<⇑xs:=()
  let⟨its,rx,p1,_⟩:=I.sq q1;let⟨jts,ry,p2,_⟩:=I.sq q2;let⟨u,hu,ru⟩:=rx.get (zb hlt);let⟨u',hu',ru'⟩:=ry.get (zb (show k<⇑ys by ext));refine xT F.entry_extend_loop ?_;rw[wU wZ _];show wpAny _ A.in1 (pyNext (.ref z) >>= _) _ _ s;let ob:=S0.obj;let lt:∀b∈[z,TI,TO,i1,i2,S],b≠↑s:=λb hb e=>by
   obtain⟨o,ho⟩:∃o,s.heap.get? b=some o:=by
    rcases zF.mp (show b∈[z,TI,TO,i1,i2]++[S] from hb) with z' | z'
    ·exact ob b z'
    ·rw[zy.mp z'];exact{_,hS}
   rw[e] at ho;exact absurd (yx ho) (ye _)
  refine yt (Ld (A:=A.in1) D L1 L2 S0 p1 p2 (x:=u) (y:=u') (by simpa using hu) (by simpa using hu') λh' S1 hT hk'=>?_);let kS:La h' S acc c:=hk' S _ (λz=>nS (by simp[z])) (λz=>nS (by simp[z])) (λz=>nS (by simp[z])) (λz=>nS (by simp[z])) hS;let az:acc.size=k:=by rw[<-yP,<-⇑rv];exact pr.1
  show wpAny _ A.in1 (updateSeq S (·.push (.ref ↑s)) >>= _) _ _ _;refine yt ?_;let oth:∀b o,b≠S->h'.get? b=some o->(h'.update S (Obj.mapSeq (·.push (.ref ↑s)))).get? b=some o:=λb o hb e=>(yy _ _ (Ne.symm hb)).trans e;let S2:=yz (Obj.mapSeq (·.push (Value.ref ↑s))) kS rfl;let hn:H ↑s=none:=I.bW.fresh (zk _);let hT2:=oth _ _ (Ne.symm (lt S (by simp))) hT;let I2:Inv X pins U (upd H ↑s (.tup [xs[k],ys[k]])) {s with heap:=h'.update S (Obj.mapSeq (·.push (.ref ↑s))),toks:=s.toks}:=
   I.vZ (t':=s.toks) hf (zk _) (λb o hb e=>oth b o (λz=>hb (by simp[z])) (hk' b o (λz=>hb (by simp[z])) (λz=>hb (by simp[z])) (λz=>hb (by simp[z])) (λz=>hb (by simp[z])) e))
    {by show 2<=sizeLine;decide,[u,u'],.cons ru (.cons ru' .nil),{_,hT2,rfl,_,rfl}}
  let s1:aB H (upd H ↑s (.tup [xs[k],ys[k]])):=bx hn;refine wpAny_updateSeq kS rfl (yv {plainId_quiet wZ _,ih (k+1) _ (upd H ↑s (.tup [xs[k],ys[k]])) (acc.push (.ref ↑s)) _ (us++[.ref ↑s]) () hlt I2 (λb hb=>?_) ?_ (s1.QG q1) (s1.QG q2) S2 ?_ ?_ ?_})
   (by rw[az];ext) (by show(acc.push _).size<=sizeLine+1;rw[Array.size_push,az];ext)
  ·let⟨f0,f1,f2,f3,f4,f5⟩:=hf b hb
   exact{by rw[aG (lt b hb)];exact f0,f1,f2,f3,f4,f5}
  ·exact S1.at (B:=S) oth {_,S2} nS
  ·rw[Array.toList_push]
   exact Vals.append rv (.cons rfl .nil)
  ·refine{by rw[zg,pr.1];rfl,λj x y hj hx hy=>?_}
   rcases xE j k with z' | z'
   ·let⟨q,e1,e2⟩:=pr.2 j x y z' hx hy
    exact{q,by rw[wj (by rw[pr.1];exact z')];exact e1,s1 _ _ e2}
   ·let e:j=k:=()
    subst e;rw[zb hlt] at hx;rw[zb (show j<⇑ys by ext)] at hy;cases hx;cases hy;exact{↑s,by rw[zZ (by rw[pr.1];exact zk _),pr.1,Nat.sub_self];rfl,aF}
  ·exact λs' H' us' acc' c' I' f' sm l' v' p'=>hR s' H' us' acc' c' I' f' (s1.trans sm) l' v' p'
def CU {A:vw} {E:vo->vq->Prop} {s:vq} {H:Hp} {Q:vo->vq->Prop} {t1 t2:Bool} {a b z TI TO i1 i2:vy} {xs ys:List V} (hh:A.handled=none) (D:Mx z TI TO i1 i2) (L1:BW a z TO i1 i2) (L2:BW b z TO i1 i2) (hl:⇑xs=⇑ys) (hz:⇑xs<=sizeLine)
  (I:Inv X pins U H s) (hf:∀b∈[z,TI,TO,i1,i2],pN X pins H b) (Z0:O7 t1 t2 s.heap z TI TO i1 i2 a b 0 .none) (q1:C7 t1 X.K H a xs) (q2:C7 t2 X.K H b ys)
  (hQ:∀(s':vq) (H':Hp) (us':List V) (l:vy),Inv X pins U H' s'->H l=none->aB H H'->H' l=some (.lst us')->Pairs H' xs ys us' ⇑xs->Q (.ref l) s') :
  wpAny (model X.prog X.w) A (call (.type "list") [.ref z]) Q E s:=by
 let S0:Mw t1 t2 s.heap z TI TO i1 i2 a b 0:=.inl {(rfl),Z0};let nS:↑s∉[z,TI,TO,i1,i2]:=λhb=>by
  let⟨o,ho⟩:=S0.obj _ hb;exact absurd (yx ho) (ye _)
 refine callType_codes (Q₁:=λobj s₁=>obj=.ref ↑s/\s₁={s with heap:=s.heap.push {cls:=.type "list",data:=.seq #[]}}) F.called_list (F.typeCall_list_1 _) F.entry_list_init
  (code_list_new _ {(rfl),rfl}) λobj s₁ h₁=>?_
 let⟨rfl,rfl⟩:=h₁;let hS:(s.heap.push {cls:=.type "list",data:=.seq #[]}).get? ↑s=some {cls:=.type "list",data:=.seq #[]}:=yw _ rfl;refine{{_,hS,rfl},F.args_list_init_2 _ _,?_};let kp:∀b o,s.heap.get? b=some o->(s.heap.push {cls:=.type "list",data:=.seq #[]}).get? b=some o:=λb o e=>yu _ e;let fS:pN X pins H ↑s:=I.uS (zk _) (I.bW.fresh (zk _));let hf6:∀b∈[z,TI,TO,i1,i2,↑s],pN X pins H b:=λb hb=>by
  rcases zF.mp (show b∈[z,TI,TO,i1,i2]++[↑s] from hb) with z' | z'
  ·exact hf b z'
  ·rw[zy.mp z'];exact fS
 let S1:Mw t1 t2 (s.heap.push {cls:=.type "list",data:=.seq #[]}) z TI TO i1 i2 a b 0:=S0.at (B:=↑s) (λc o _ e=>kp c o e) {_,hS} nS;let I1:Inv X pins U H {s with heap:=s.heap.push {cls:=.type "list",data:=.seq #[]}}:=I.kept (t':=s.toks) kp;let zz:IsZip (s.heap.push {cls:=.type "list",data:=.seq #[]}) z TI TO .none:=kp _ _ Z0.z;generalize hS0:↑s=S at hS nS fS hf6 ⊢;let s0S:X.s₀.heap.objs.size<=S:=by rw[<-hS0];exact I.sz
 let lo:↑s<=S:=Nat.le_of_eq hS0;clear kp;generalize (s.heap.push {cls:=.type "list",data:=.seq #[]}:vz)=h1 at hS S1 I1 zz;show wpAny _ A.in1.in1 (do let old <-Builtin.List.listItems (.ref S);Builtin.List.listUpdate (.ref S) (λ_=>#[]);letGo old.toList.reverse;Builtin.List.listExtendWith (.ref S) (.ref z) .none) _ _ _;refine yt ?_;unfold Builtin.List.listItems;refine yt (xo hS rfl (yv ?_));show wpAny _ A.in1.in1 (updateSeq S (λ_=>#[]) >>= λ_=>letGo (#[]:Array vo).toList.reverse >>= λ_=>Builtin.List.listExtendWith (.ref S) (.ref z) .none) _ _ _;refine yt (wpAny_updateSeq hS rfl ?_);let hS2:=yz (Obj.mapSeq (λ_=>(#[]:Array vo))) hS rfl;let oth:∀b o,b≠S->h1.get? b=some o->(h1.update S (Obj.mapSeq (λ_=>(#[]:Array vo)))).get? b=some o:=
  λb o hb e=>(yy _ _ (Ne.symm hb)).trans e
 refine yt (wpAny_letGo ?_);let hSI:S≠z:=λe=>nS (by rw[e];simp);replace zz:=oth _ _ hSI.symm zz;let S2:=S1.at (B:=S) oth {_,hS2} nS;let I2:=I1.turns (t':=s.toks) (ch:=[S]) (λb hb=>by rw[zy.mp hb];exact fS) (λb o hb e=>oth b o (λz=>hb (by simp[z])) e);clear oth S1 I1 hS;generalize (h1.update S (Obj.mapSeq (λ_=>(#[]:Array vo))):vz)=h2 at hS2 S2 I2 zz;dsimp only at I2 ⊢;unfold Builtin.List.listExtendWith;let hT:Shared.TypeIs {s with heap:=h2,toks:=s.toks} (.ref z) "zip":=S2.type (s:={s with heap:=h2,toks:=s.toks});refine yt (vc hT ?_);let e1:Builtin.List.listSameRef (.ref S) (.ref z)=false:=by simp[Builtin.List.listSameRef,hSI]
 let e2:(Value.type "zip"== Value.type "list")=false:=by decide
 let e3:(Value.type "zip"== Value.type "tuple")=false:=by decide
 simp only[e1,e2,e3,Bool.or_false,wB,wm];refine yt (wpAny_pyIter_zip (s:={s with heap:=h2,toks:=s.toks}) zz ?_);refine yt (xF ?_);unfold Builtin.List.listLengthHint;refine yt (wpAny_specialOf hT IJ ?_);show wpAny _ A.in1.in1 (specialOf (Value.ref z) (Str.ofString "__length_hint__") >>= _) _ _ _;refine yt (wpAny_specialOf hT FZ ?_);refine yv ?_;show wpAny _ A.in1.in1 (rule "list.extend.makes-room" >>= λ_=>Builtin.List.listTouch (.ref S) >>= λ_=>
  again (.builtin "list.extend.loop" {[.ref S,.ref z,.none],[]})) _ _ _
 refine yt (wpAny_rule ?_);refine yt ?_;show wpAny _ A.in1.in1 (updateSeq S (·.push .none) >>= λ_=>updateSeq S (·.pop)) _ _ _;refine yt (wpAny_updateSeq hS2 rfl ?_);let hS3:=yz (Obj.mapSeq (·.push Value.none)) hS2 rfl;refine wpAny_updateSeq (hz:=by seq_fits) hS3 rfl ?_;let hS4:=yz (Obj.mapSeq (·.pop)) hS3 rfl;let oth:∀b o,b≠S->h2.get? b=some o->((h2.update S (Obj.mapSeq (·.push Value.none))).update S (Obj.mapSeq (·.pop))).get? b=some o:=
  λb o hb e=>(yy _ _ (Ne.symm hb)).trans ((yy _ _ (Ne.symm hb)).trans e)
 let S4:=S2.at (B:=S) oth {_,hS4} nS;let I4:=I2.turns (t':=s.toks) (ch:=[S]) (λb hb=>by rw[zy.mp hb];exact fS) (λb o hb e=>oth b o (λz=>hb (by simp[z])) e);refine yv {plainId_quiet wZ _,MO (X:=X) (pins:=pins) (U:=U) (A:=A.in1) hh D L1 L2 hl hz nS ⇑xs 0 _ H _ _ [] rfl (yf _) I4 hf6 S4 q1 q2 hS4 .nil {rfl,λj x y hj=>()} λs' H' us' acc' c' I' f' sm l' v' p'=>?_};refine{rfl,?_};let⟨f0,f1,f2,f3,f4,f5⟩:=f';let I5:Inv X pins U (upd H' S (.lst us')) s':=I'.SR f0 (by
  cases q:X.s₀.heap.get? S with
  | none=>rfl
  | some o=>exact absurd (yx q) (Nat.not_lt.mpr s0S)) f1 f4 f5 {by rw[p'.1];exact hz,acc'.toList,c',v',l'}
 refine hQ s' _ us' S I5 fS.1 (sm.trans (bx f0)) aF {p'.1,λj x y hj hx hy=>?_};let⟨q,e1,e2⟩:=p'.2 j x y hj hx hy;exact{q,e1,bx f0 _ _ e2}
def Ri (K:yA) (ta:TA):TE:=λU H Q=>ta U H λvs H1=>∃t1 t2 a b xs ys,vs=[.ref a,.ref b]/\C7 t1 K H1 a xs/\C7 t2 K H1 b ys/\⇑xs=⇑ys/\∀l H2 us,aB H1 H2->H1 l=none->H2 l=some (.lst us)->Pairs H2 xs ys us ⇑xs->Q (.ref l) H2
def NR (hc:X.calm=true) (hg0:Gl X "list") (hm0:X.mg "list"= none) (hg:Gl X "zip") (hm:X.mg "zip"= none) (ha:PA X [a,b] ta)
  (hs:starEach [a,b] X.env=[(false,eval a X.env),(false,eval b X.env)]<|>qe_) (hs2:starEach [b] X.env=[(false,eval b X.env)]<|>qe_)
  (hs1:starEach [.Call (.Name "zip" p2) [a,b] [] pos2] X.env=[(false,eval (.Call (.Name "zip" p2) [a,b] [] pos2) X.env)]<|>qe_) :
  PE X (.Call (.Name "list" p1) [.Call (.Name "zip" p2) [a,b] [] pos2] [] pos1) (Ri X.K ta):=by
 intro pins s U H Q I h;refine xm (je I hg0 hm0 (by decide +kernel:bootBuiltins "list"= some (.type "list")) ?_ ∅ ∅);refine yL (Q:=_) ?_ hs1 rfl;rw[hs1];refine wA ?_;refine Call_ (je I hg hm ON (yL (cR (ha pos2 pins s U H _ I h) λus s1 ⟨vs,H1,I1,r1,q1⟩=>?_) (by rw[hs,hs2]) (by rw[hs2];rfl)));let⟨t1,t2,a,b,xs,ys,e,hq,hq',hl,q⟩:=q1;subst e;cases r1 with
 | cons r rr=>
  cases rr with
  | cons r' rr=>
   cases rr;cases r;cases r';let⟨its,rv,pl,hz⟩:=I1.sq hq;let⟨jts,rv',pl',hz'⟩:=I1.sq hq';let la:=pl.lt;let lb:=pl'.lt;refine F1 pl pl' λg S hk=>?_;refine vm ?_;let I2:Inv X pins U H1 {s1 with heap:=g}:=I1.kept (t':=s1.toks) hk;let D:Mx (↑s1+4) (↑s1+2) (↑s1+3) ↑s1 (↑s1+1):=by
    constructor <;> (show _≠(_:Nat)) <;> ext
   let L:∀c,c<↑s1->BW c (↑s1+4) (↑s1+3) ↑s1 (↑s1+1):=λc hc=>by
    constructor <;> (show _≠(_:Nat)) <;> ext
   refine CU (I2.ok.hd hc) D (L a la) (L b lb) hl hz I2 (λc hc=>?_) S hq hq' λs' H' us' l I' hn sm e pr=>{.ref l,H',I',rfl,q l H' us' sm hn e pr}
   let hb':↑s1<=c:=by
    simp only[zC,zD,yT] at hc;rcases hc with e | e | e | e | e <;> (subst e;first | exact Nat.le_add_right _ _ | exact zk _)
   exact I1.uS hb' (I1.bW.fresh hb')
end
end L2
namespace Sc
open PySem L2 Lm
noncomputable def mixed (c k:Int):Int:=(c%2305843009213693951+1)*(k*k+48271)*40692%2147483399
def di (h0:0<=i) (h1:i<2^n):Sz n i:=by
 unfold Sz;let e:((2^n:Nat):Int)=(2:Int)^n:=by simp
 rw[<-e] at h1;ext
def Sd (h1:48<=c) (h2:c<=57):c∈("0123456789": Str).cps.toList:=by
 have:c=48\/c=49\/c=50\/c=51\/c=52\/c=53\/c=54\/c=55\/c=56\/c=57:=()
 rcases this with rfl | rfl | rfl | rfl | rfl | rfl | rfl | rfl | rfl | rfl <;> decide
noncomputable def iD (x:Int×Int):Str:=if x.2=1 then dec x.1 else dec x.1 ++"/" ++ dec x.2
abbrev Item:=Option (Int×Int)×(Int×Int)
noncomputable def pA:Item->Str
 | (none,x)=> "r:" ++ iD x
 | (some q,x)=>dec q.1 ++":" ++ dec q.2 ++":" ++ iD x
def O8 (x:Int×Int):Prop:=Rd x/\0<x.1/\x.1<10000/\x.2<10000
def OX (q:Int×Int):Prop:=-100<q.1/\q.1<100/\-100<q.2/\q.2<100/\(q.2-7*q.1)%12=0
def MC (it:Item):Prop:=O8 it.2/\∀q,it.1=some q->OX q
def fW (h1:c≠45) (h2:¬(48<=c/\c<=57)):c∉(dec n).cps.toList:=by
 intro z
 by_cases h0:0<=n
 ·let⟨m,rfl⟩:=yK h0
  exact h2 (ky z)
 ·obtain⟨m,em⟩:∃m:Nat,-n=(m:Int):={(-n).toNat,()}
  rw[vP (),em,cD] at z;rcases zF.mp z with z | z
  ·let e:("-": Str).cps.toList=[45]:=rfl
   rw[e] at z;exact h1 (zy.mp z)
  ·exact h2 (ky z)
def DB (h:O8 x):58∉(iD x).cps.toList:=by
 unfold iD;split
 ·exact fW ∅ ∅
 ·rw[cD,cD]
  intro z;rcases zF.mp z with z | z
  ·rcases zF.mp z with z | z
   ·exact fW ∅ ∅ z
   ·let e:("/": Str).cps.toList=[47]:=rfl
    rw[e] at z;exact absurd (zy.mp z) ∅
  ·exact fW ∅ ∅ z
def HQ (h0:0<=n) (h:n<10000):⇑(dec n)<=4:=by
 let⟨m,rfl⟩:=yK h0;exact DO ∅ ()
abbrev jx (x:Int×Int):HO:=.tup [.int x.1,.int x.2]
inductive Ki (H:Hp):V->Option (Int×Int)->Prop where
 | bA:Ki H .bA none
 | ref {b:vy} {q:Int×Int}:H b=some (jx q)->Ki H (.ref b) (some q)
def Ki.mono (s:aB H H') (h:Ki H v o):Ki H' v o:=by
 cases h with
 | bA=>exact .bA
 | ref h=>exact .ref (s _ _ h)
def Vs (H:Hp) (v:V) (it:Item):Prop:=∃p pv a,v=.ref p/\H p=some (.tup [pv,.ref a])/\H a=some (jx it.2)/\Ki H pv it.1
noncomputable def uT:List Nat:=("0123456789": Str).cps.toList
noncomputable def rn (most:Int) (cs:List Nat):Option Int:=
 if(⇑cs:Int)<1 then none else if most<⇑cs then none else if cs.all (λc=>decide (c∈uT))=true then(if cs[0]?=some 48/\1<⇑cs then none else some ((NumText.digitsVal cs:Nat):Int)) else none
noncomputable def ov:Option Int->V
 | none=>.bA
 | some n=>.int n
noncomputable def rs (most:Int) (t:Str):Option Int:=if t.cps.toList[0]?=some 45 then(match rn most (t.cps.toList.drop 1) with | some n=>if n=0 then none else some (-n) | none=>none) else rn most t.cps.toList
noncomputable def rp (a b:Str):Option (Int×Int):=match rs 2 a,rs 2 b with
 | some f,some h=>if(h-7*f)%12=0 then some (f,h) else none
 | _,_=>none
noncomputable def O5 (t:Str):Option (Int×Int):=match Txt.split t "/" with
 | [a]=>(match rn 4 a.cps.toList with | some n=>some (red n 1) | none=>none)
 | [a,b]=>(match rn 4 a.cps.toList,rn 4 b.cps.toList with | some n,some m=>if m=0 then none else some (red n m) | _,_=>none)
 | _=>none
noncomputable def lr (t:Str):Option (Int×Int):=match O5 t with
 | some x=>if x.1=0 then none else some x
 | none=>none
noncomputable def ir (t:Str):Option Item:=match lr ((Txt.split t ":").getLast?.getD "") with
 | none=>none
 | some x=>if(Txt.split t ":").dropLast=[("r": Str)] then some (none,x) else match (Txt.split t ":").dropLast with
  | [a,b]=>(match rp a b with | some q=>some (some q,x) | none=>none)
  | _=>none
def Qx (H:Hp) (v:V):Option Item->Prop
 | none=>v=.bA
 | some it=>Vs H v it
def HG (h:c∈uT):48<=c/\c<=57:=by
 let e:uT=[48,49,50,51,52,53,54,55,56,57]:=rfl;rw[e] at h;simp at h;ext
def Nq (h:rn most cs=some n) (hm:most<=4):0<=n/\n<10000/\(cs.all (λc=>decide (c∈uT))=true):=by
 unfold rn at h;split at h
 ·cases h
 ·split at h
  ·cases h
  ·split at h
   ·rename_i h1 h2 h3
    split at h
    ·cases h
    ·cases h
     refine{Int.natCast_nonneg _,?_,h3};let hl:⇑cs<=4:=()
     let key:∀(l:List Nat) (a:Nat),l.all (λc=>decide (c∈uT))=true->l.foldl (λacc c=>acc*10+(c-48)) a<(a+1)*10^⇑l:=by
      intro l
      induction l with
      | nil=>intro a _;simp
      | cons c l ih=>
       intro a ha;rw[wQ,zN] at ha;let i3:=HG (yd ha.1);let i1:=ih (a*10+(c-48)) ha.2;let i2:(a*10+(c-48)+1)*10^⇑l<=((a+1)*10)*10^⇑l:=Nat.mul_le_mul_right _ ();rw[List.foldl_cons,zt,Nat.pow_succ,Nat.mul_comm (10^⇑l) 10,<-Nat.mul_assoc];exact yb i1 i2
     let k1:NumText.digitsVal cs<10^⇑cs:=by have:=key cs 0 h3;rw[Nat.zero_add,Nat.one_mul] at this;exact this
     let k2:10^⇑cs<=10^4:=Nat.pow_le_pow_right ∅ hl;ext
   ·cases h
def J6 (h:cs.all (λc=>decide (c∈uT))=true):NumText.AllDigits cs:=λc hc=>by
 have:=(yo.mp h) c hc;exact HG (yd this)
inductive jA (vs:List V) (H:Hp) (Q:VK) (E:XK):Prop
 | mk (a b:Int) (_:vs=[.int a,.int b]) (_:0<=a) (_:0<=b) (_:Q (.int (Int.gcd a b:Nat)) H)
inductive fK (vs:List V) (H:Hp) (Q:VK) (E:XK):Prop
 | mk (t b:Int) (_:vs=[.int t,.int b]) (_:0<=t) (_:0<b) (_:Sz 8999 b) (_:∀p H',aB H H'->H' p=some (jx (red t b))->Q (.ref p) H')
inductive Nf (vs:List V) (H:Hp) (Q:VK) (E:XK):Prop
 | mk (x y:Int×Int) (p q:vy) (n m:Nat) (_:vs=[.ref p,.ref q]) (_:H p=some (jx x)) (_:H q=some (jx y)) (_:Rd x) (_:Rd y) (_:BY n x) (_:BY m y) (_:n+m<=8999) (_:∀r H',aB H H'->H' r=some (jx (add x y))->Q (.ref r) H')
inductive IX (vs:List V) (H:Hp) (Q:VK) (E:XK):Prop
 | mk (x y:Int×Int) (p q:vy) (_:vs=[.ref p,.ref q]) (_:H p=some (jx x)) (_:H q=some (jx y)) (_:BY 8999 x) (_:BY 8999 y) (_:Q (.bl (decide (x.1*y.2<y.1*x.2))) H)
inductive B7 (vs:List V) (H:Hp) (Q:VK) (E:XK):Prop
 | mk (c k:Int) (_:vs=[.int c,.int k]) (_:0<=k) (_:k<1000000) (_:Q (.int (mixed c k)) H)
abbrev Ak:Sp:=fK
inductive gU (vs:List V) (H:Hp) (Q:VK) (E:XK):Prop
 | mk (t:Str) (most:Int) (_:vs=[.str t,.int most]) (_:⇑t<=600) (_:∀H',aB H H'->Q (ov (rn most t.cps.toList)) H')
inductive lQ (vs:List V) (H:Hp) (Q:VK) (E:XK):Prop
 | mk (t:Str) (most:Int) (_:vs=[.str t,.int most]) (_:⇑t<=600) (_:∀H',aB H H'->Q (ov (rs most t)) H')
inductive mM (vs:List V) (H:Hp) (Q:VK) (E:XK):Prop
 | mk (a b:Str) (_:vs=[.str a,.str b]) (_:⇑a<=600) (_:⇑b<=600) (_:∀v H',aB H H'->Ki H' v (rp a b)->Q v H')
def lP (C:vy):Sp:=λvs H Q E=>∃(t:Str),vs=[.str t]/\⇑t<=600/\(∀x,O5 t=some x->∀p H',aB H H'->H' p=some (jx x)->Q (.ref p) H')/\(O5 t=none->∀H',aB H H'->E (.ref C) none H')
def gM:Sp:=λvs H Q _=>∃(t:Str),vs=[.str t]/\⇑t<=600/\∀v H',aB H H'->Ki H' v (lr t)->Q v H'
def ox:Sp:=λvs H Q _=>∃(t:Str),vs=[.str t]/\⇑t<=600/\∀v H',aB H H'->Qx H' v (ir t)->Q v H'
noncomputable def dL (x:Int×Int):Dt:=.tup [.int x.1,.int x.2]
noncomputable def dO (f:α->Dt):Option α->Dt
 | none=>.bA
 | some x=>f x
noncomputable def eJ (it:Item):Dt:=.tup [dO dL it.1,dL it.2]
noncomputable def tY (l:List Int):Dt:=.tup (l.map .int)
noncomputable def kz (l:List Str):Dt:=.tup (l.map .str)
abbrev End:=Int×List Int
noncomputable def mz (e:End):Dt:=.tup [.int e.1,tY e.2]
structure Rep where
 first:Int
 last:Int
 times:Int
 ends:List End
noncomputable def ji (r:Rep):Dt:=.tup [.int r.first,.int r.last,.int r.times,.tup (r.ends.map mz)]
structure MF where
 aP:Int×Int
 key:Int
 marks:List Str
noncomputable def jz (b:MF):Dt:=.tup [dL b.aP,.int b.key,kz b.marks]
structure Jump where
 rM:Int
 tU:Int
 cN:Int
 eK:Option Int
noncomputable def jk (j:Jump):Dt:=.tup [.int j.rM,.int j.tU,.int j.cN,dO .int j.eK]
noncomputable def words (t:Str):List Str:=(Txt.split t " ").filter λw=>decide (w≠ "")
noncomputable def sgn:List Nat:=("abcdefghijklmnopqrstuvwxyz0123456789": Str).cps.toList
noncomputable def cH (t:Str):Option Str:=if(⇑t:Int)<1 then none else if(12:Int)<⇑t then none else if t.cps.toList.all (λc=>decide (c∈sgn))=true then some t else none
noncomputable def os:Option Str->V
 | none=>.bA
 | some x=>.str x
noncomputable def fw (t:Str):Option Int:=rn 3 t.cps.toList
noncomputable def lU (t:Str) (lo hi:Int):Option Int:=match fw t with
 | some n=>if n<lo then none else if hi<n then none else some n
 | none=>none
noncomputable def AF (a b:Str):Option (Int×Int):=match rp a b with
 | some q=>if 12<(if q.1<0 then -q.1 else q.1) then none else some q
 | none=>none
noncomputable def CY:List Int:=[1,2,4,8,16,32]
noncomputable def iX (t:Str):Option (Int×Int):=match Txt.split t "/" with
 | [a,b]=>(match lU a 1 32,fw b with | some m,some n=>if n∈CY then some (m,n) else none | _,_=>none)
 | _=>none
noncomputable def GG (t:Str):Option Int:=match rs 3 t with
 | some k=>if 7<(if k<0 then -k else k) then none else some k
 | none=>none
noncomputable def nr:List (Option α)->Option (List α)
 | []=>some []
 | none::_=>none
 | some x::r=>match nr r with
  | some l=>some (x::l)
  | none=>none
noncomputable def AG (t:Str):Option End:=match Txt.split t ":" with
 | [a,b]=>(match fw a,nr ((Txt.split b ",").map fw) with | some n,some ps=>some (n,ps) | _,_=>none)
 | _=>none
noncomputable def kW:List Str->Option (Str×(Int×Int)×(Int×Int))
 | [a,b,c,d]=>(match cH a,AF b c,O5 d with | some n,some t,some l=>some (n,t,l) | _,_,_=>none)
 | _=>none
noncomputable def o6 (ws:List Str):Option (Str×List Str):=match ws with
 | a::b::r=>(match nr ((a::b::r).map cH) with | some (n::ps)=>some (n,ps) | _=>none)
 | _=>none
noncomputable def Cs:List Str->Option MF
 | m::k::ms=>(match nr (ms.map cH) with | some l=>(match iX m,GG k with | some x,some y=>some {(x),y,l} | _,_=>none) | none=>none)
 | _=>none
noncomputable def qB:List Str->Option (Str×Int×Str)
 | [a,b,c]=>(match cH a,fw b,cH c with | some x,some y,some z=>some (x,y,z) | _,_,_=>none)
 | _=>none
noncomputable def jX:List Str->Option (Int×Str×List Item)
 | b::p::i::r=>(match nr ((i::r).map ir) with | some l=>if l.all (λit=>it.1.isNone)=true then none else(match fw b,cH p with | some x,some y=>some (x,y,l) | _,_=>none) | none=>none)
 | _=>none
noncomputable def jG:List Str->Option Rep
 | a::b::c::r=>(match nr (r.map AG) with | some l=>(match fw a,fw b,lU c 2 9 with | some x,some y,some z=>some {(x),y,z,l} | _,_,_=>none) | none=>none)
 | _=>none
noncomputable def tO:List Str->Option Jump
 | [a,b,c,d]=>(match fw a,fw b,fw c with | some x,some y,some z=>(match fw d with | some n=>some {x,y,z,some n} | none=>if d ="end" then some {(x),y,z,none} else none) | _,_,_=>none)
 | _=>none
noncomputable def one (f:Str->Option α):List Str->Option α
 | [w]=>f w
 | _=>none
inductive Told where
 | bH (n:Str)
 | cI (n:Str) (t l:Int×Int)
 | cj (n:Str) (ps:List Str)
 | bar (b:MF)
 | aH (l:Int×Int)
 | holds (p:Str) (b:Int) (i:Str)
 | aK (b:Int) (p:Str) (its:List Item)
 | rep (r:Rep)
 | bu (j:Jump)
noncomputable def nK:List Str->Option Told
 | []=>none
 | w::r=>
  if w ="player" then(one cH r).map .bH
  else if w ="instrument" then(kW r).map λx=>.cI x.1 x.2.1 x.2.2
  else if w ="staff" then(o6 r).map λx=>.cj x.1 x.2
  else if w ="bar" then(Cs r).map .bar
  else if w ="upbeat" then(one lr r).map .aH
  else if w ="holds" then(qB r).map λx=>.holds x.1 x.2.1 x.2.2
  else if w ="notes" then(jX r).map λx=>.aK x.1 x.2.1 x.2.2
  else if w ="repeat" then(jG r).map .rep
  else if w ="jump" then(tO r).map .bu
  else none
noncomputable def jh (r:Rep):List (Int×Int×List Int):=(r.ends.zip ((r.ends.drop 1).map (·.1)++[r.last+1])).map λp=>(p.1.1,p.2-1,p.1.2)
noncomputable def sortI (l:List Int):List Int:=l.mergeSort
noncomputable def fU:List End->Int->List Int->Option (Int×List Int)
 | [],a,ps=>some (a,ps)
 | e::r,a,ps=>if e.1<=a then none else if e.2≠sortI e.2 then none else fU r e.1 (ps++e.2)
noncomputable def LF (lo:Int) (n:Nat):List Int:=(List.range n).map λi=>lo+(i:Nat)
noncomputable def fV (r:Rep):Bool:=match r.ends with
 | []=>true
 | _=>(match fU r.ends (r.first-1) [] with | none=>false | some (a,ps)=>decide (a<=r.last)&&decide (sortI ps=LF 1 (r.times+1-1).toNat))
noncomputable def kP (rs:List Rep) (r:Rep):Bool:=match rs.getLast? with
 | some q=>if r.first<=q.last then false else decide (r.first<=r.last)&&fV r
 | none=>decide (r.first<=r.last)&&fV r
noncomputable def dC (rs:List Rep) (b:Int):Option Rep:=rs.find? λr=>decide (r.first<=b)&&decide (b<=r.last)
noncomputable def gO (rs:List Rep) (b:Int):Bool:=match dC rs b with
 | none=>true
 | some r=>decide (b=r.last)
noncomputable def dU (rs:List Rep) (b:Int):Bool:=match dC rs b with
 | none=>true
 | some r=>decide (b=r.first)
noncomputable def lC (rs:List Rep) (b:Int):Bool:=rs.all λr=>(jh r).all λe=>!(decide (e.1<=b)&&decide (b<=e.2.1)&&!decide (r.times∈e.2.2))
noncomputable def gQ (rs:List Rep) (j:Jump):Bool:=
 if j.cN<j.tU then false else if j.rM<j.cN then false else
 match j.eK with
 | some c=>(decide (j.rM<c)&&dU rs c&&lC rs c)&&(gO rs j.rM&&dU rs j.tU&&lC rs j.cN)
 | none=>gO rs j.rM&&dU rs j.tU&&lC rs j.cN
structure cg where
 players:List Str:=[]
 aq:List (Str×(Int×Int)×(Int×Int)):=[]
 aL:List (Str×List Str):=[]
 aO:List MF:=[]
 aH:Option (Int×Int):=none
 holds:List (Str×List (Int×Str)):=[]
 aK:List ((Int×Str)×List Item):=[]
 repeats:List Rep:=[]
 bu:Option Jump:=none
noncomputable def cg.aP (S:cg) (b:Nat):Int×Int:=match S.aO[b]? with
 | some x=>red x.aP.1 x.aP.2
 | none=>(0,1)
noncomputable def cg.len (S:cg) (b:Nat):Int×Int:=match S.aH with
 | some u=>if b=0 then u else S.aP b
 | none=>S.aP b
noncomputable def jU (l:List Item):Int×Int:=l.foldl (λt it=>add t it.2) (0,1)
noncomputable def cg.has (S:cg) (bs:List Int):Bool:=bs.all λb=>decide (b<⇑S.aO)
noncomputable def fault (S:cg):Told->Option Str
 | .bH n=>if n∈S.players then some "twice" else if 12<=⇑S.players then some "many" else none
 | .cI n _ _=>if n∈S.aq.map (·.1) then some "twice" else if 12<=⇑S.aq then some "many" else none
 | .cj n ps=>if n∈S.aL.map (·.1) then some "twice" else if¬ps.Nodup then some "twice" else if S.aL.any (λq=>ps.any λp=>decide (p∈q.2))=true then some "twice" else if ps.any (λp=>!decide (p∈S.players))=true then some "name" else none
 | .bar _=>if 200<=⇑S.aO then some "many" else none
 | .aH l=>if S.aH.isSome=true then some "twice" else if ⇑S.aO=0 then some "bar" else if¬l.1*(S.aP 0).2<(S.aP 0).1*l.2 then some "length" else if S.aK.any (λp=>decide (p.1.1=0))=true then some "length" else none
 | .holds p b i=>
  let hs:=(S.holds.lookup p).getD []
  if(match hs.getLast? with | some q=>decide (b<=q.1) | none=>false)=true then some "twice" else if p∉S.players then some "name" else if i∉S.aq.map (·.1) then some "name" else if¬S.has [b]=true then some "bar" else if 20<=⇑hs then some "many" else none
 | .aK b p its=>if(b,p)∈S.aK.map (·.1) then some "twice" else if p∉S.players then some "name" else if¬S.has [b]=true then some "bar" else if jU its≠S.len b.toNat then some "length" else if 40<⇑its then some "many" else none
 | .rep r=>if¬S.has ([r.first,r.last]++r.ends.map (·.1))=true then some "bar" else if S.bu.isSome=true then some "form" else if¬kP S.repeats r=true then some "form" else if 20<=⇑S.repeats then some "many" else none
 | .bu j=>if S.bu.isSome=true then some "twice" else if¬S.has ([j.rM,j.tU,j.cN]++j.eK.toList)=true then some "bar" else if¬gQ S.repeats j=true then some "form" else none
noncomputable def eV (hs:List (Str×List (Int×Str))) (p:Str) (h:Int×Str):List (Str×List (Int×Str)):=
 if p∈hs.map (·.1) then hs.map λq=>if q.1=p then(q.1,q.2++[h]) else q else hs++[(p,[h])]
noncomputable def bK (S:cg):Told->cg
 | .bH n=>{S with players:=S.players++[n]}
 | .cI n t l=>{S with aq:=S.aq++[(n,t,l)]}
 | .cj n ps=>{S with aL:=S.aL++[(n,ps)]}
 | .bar b=>{S with aO:=S.aO++[b]}
 | .aH l=>{S with aH:=some l}
 | .holds p b i=>{S with holds:=eV S.holds p (b,i)}
 | .aK b p its=>{S with aK:=S.aK++[((b,p),its)]}
 | .rep r=>{S with repeats:=S.repeats++[r]}
 | .bu j=>{S with bu:=some j}
theorem cS (h:Is H d v):∀{ds:List Dt} {vs:List V},aD H ds vs->aD H (ds++[d]) (vs++[v])
 | [],_,q=>by unfold aD at q;subst q;show aD H [d] [v];unfold aD;exact{v,[],rfl,h,by unfold aD;rfl}
 | c::ds,_,q=>by
  unfold aD at q;let⟨u,r,rfl,h1,h2⟩:=q;show aD H (c::(ds++[d])) (u::(r++[v]));unfold aD;exact{u,_,rfl,h1,cS h h2}
def Hu (h:aI K H p xs) (hi:i<⇑xs):(K9 K p).go i H:={xs,xs[i],h,zb hi}
def JH (h:cu K H p xs) (hi:i<⇑xs):(O0 K p).go i H:={xs,xs[i],h,zb hi}
def iR (e:aB H H') (h:H a=some (.tup xs)):cu K H' a xs:=cu.of (e _ _ h)
theorem _root_.L2.aB.back (s:aB H H') (h:H' a=none):H a=none:=by
 cases q:H a with
 | none=>rfl
 | some u=>rw[s _ _ q] at h;cases h
def m9 {α:Type} {J:It} {ws:List α} {enc:α->V} {U₀:St} {g:TG} {te:TE} {Q:VK} {H1:Hp} (F:α->Dt) (Pσ:St->Prop) (hn:⇑ws<=sizeLine) (h0:Pσ U₀)
  (go:∀i H,i<⇑ws->aB H1 H->J.go i H) (stop:∀H,aB H1 H->J.stop ⇑ws H) (yl:∀(i:Nat) x H H2 (hi:i<⇑ws),aB H1 H->J.II i H x H2->H2=H/\x=enc ws[i])
  (turn:∀(a:α) (U:St) (H:Hp) (R:St->V->Hp->Prop),a∈ws->aB H1 H->Pσ U->(∀σ3 y H5,aB H H5->Is H5 (F a) y->Pσ σ3->R σ3 y H5)->g (enc a) U H λσ3 H3=>te σ3 H3 λy H5=>R σ3 y H5)
  (fin:∀D vs H,aB H1 H->H1 D=none->H D=some (.lst vs)->aD H (ws.map F) vs->Q (.ref D) H):dF U₀ g uf te Q J H1:=by
 refine{λi m xs U H=>m=⇑ws-i/\i<=⇑ws/\⇑xs=i/\aB H1 H/\aD H ((ws.take i).map F) xs/\Pσ U,{_,rfl,yf _,rfl,aB.refl _,by simp[aD],h0},?_};rintro i m xs U H ⟨rfl,hi,hx,sm,il,pσ⟩;rcases xE i ⇑ws with hlt | hge
 ·refine .inr {go i H hlt sm,(),?_}
  intro x H2 hy;let⟨rfl,rfl⟩:=yl i x H H2 hlt sm hy;refine turn ws[i] U H2 (λσ3 y H5=>if true=true then∃m',m'<⇑ws-i/\(m'=⇑ws-(i+1)/\i+1<=⇑ws/\⇑(xs++[y])=i+1/\aB H1 H5/\aD H5 ((ws.take (i+1)).map F) (xs++[y])/\Pσ σ3) else False) (yk hlt) sm pσ ?_;rintro σ3 y H5 s5 iy p3;rw[yN rfl];refine{_,(),rfl,hlt,by simp[hx],sm.trans s5,?_,p3};rw[xq,zb hlt,zj];exact cS iy (il.mono s5)
 ·let e:i=⇑ws:=()
  subst e;refine .inl {stop H sm,(),λD hD=>?_};let il':aD H (ws.map F) xs:=by rw[zM] at il;exact il
  exact fin D xs _ (sm.trans (bx hD)) (sm.back hD) aF (il'.mono (bx hD))
def Bx {α:Type} {J:It} {ws:List α} {enc:α->V} {U₀:St} {g:TG} {te:TE} {Q:VK} {H1:Hp} (F:α->Dt) (Pσ:St->Prop) (hn:⇑ws<=sizeLine) (h0:Pσ U₀)
  (go:∀i H,i<⇑ws->aB H1 H->J.go i H) (stop:∀H,aB H1 H->J.stop ⇑ws H) (yl:∀(i:Nat) x H H2 (hi:i<⇑ws),aB H1 H->J.II i H x H2->H2=H/\x=enc ws[i])
  (turn:∀(a:α) (U:St) (H:Hp) (R:St->V->Hp->Prop),a∈ws->aB H1 H->Pσ U->(∀σ3 y H5,aB H H5->Is H5 (F a) y->Pσ σ3->R σ3 y H5)->g (enc a) U H λσ3 H3=>te σ3 H3 λy H5=>R σ3 y H5)
  (fin:∀D vs H,aB H1 H->H D=some (.lst vs)->aD H (ws.map F) vs->Q (.ref D) H):dF U₀ g uf te Q J H1:=m9 F Pσ hn h0 go stop yl turn λD vs H s _=>fin D vs H s
def dz {K:yA} {α:Type} {p:vy} {ws:List α} {enc:α->V} {U₀:St} {g:TG} {te:TE} {Q:VK} {H1:Hp} (F:α->Dt) (Pσ:St->Prop) (hn:⇑ws<=sizeLine) (hp:aI K H1 p (ws.map enc)) (h0:Pσ U₀)
  (turn:∀(a:α) (U:St) (H:Hp) (R:St->V->Hp->Prop),a∈ws->aB H1 H->Pσ U->(∀σ3 y H5,aB H H5->Is H5 (F a) y->Pσ σ3->R σ3 y H5)->g (enc a) U H λσ3 H3=>te σ3 H3 λy H5=>R σ3 y H5)
  (fin:∀D vs H,aB H1 H->H1 D=none->H D=some (.lst vs)->aD H (ws.map F) vs->Q (.ref D) H):dF U₀ g uf te Q (K9 K p) H1:=by
 refine m9 F Pσ hn h0 (λi H hi sm=>Hu (sm.seq hp) (by rw[za];exact hi)) (λH sm=>{_,sm.seq hp,by rw[za];exact zk _}) ?_ turn fin;rintro i x H H2 hi sm ⟨rfl,hy⟩;let hx':=hy _ (sm.seq hp);rw[zJ,zb hi] at hx';cases hx';exact{(rfl),rfl}
def eU {K:yA} {α:Type} {p:vy} {ws:List α} {enc:α->V} {U₀:St} {g:TG} {te:TE} {Q:VK} {H1:Hp} (F:α->Dt) (Pσ:St->Prop) (hn:⇑ws<=sizeLine) (hp:aI K H1 p (ws.map enc)) (h0:Pσ U₀)
  (turn:∀(a:α) (U:St) (H:Hp) (R:St->V->Hp->Prop),a∈ws->aB H1 H->Pσ U->(∀σ3 y H5,aB H H5->Is H5 (F a) y->Pσ σ3->R σ3 y H5)->g (enc a) U H λσ3 H3=>te σ3 H3 λy H5=>R σ3 y H5)
  (fin:∀D vs H,aB H1 H->H D=some (.lst vs)->aD H (ws.map F) vs->Q (.ref D) H):dF U₀ g uf te Q (K9 K p) H1:=by
 refine Bx F Pσ hn h0 (λi H hi sm=>Hu (sm.seq hp) (by rw[za];exact hi)) (λH sm=>{_,sm.seq hp,by rw[za];exact zk _}) ?_ turn fin;rintro i x H H2 hi sm ⟨rfl,hy⟩;let hx':=hy _ (sm.seq hp);rw[zJ,zb hi] at hx';cases hx';exact{(rfl),rfl}
def fu {K:yA} {α:Type} {p:vy} {ws:List α} {enc:α->V} {U₀:St} {g:TG} {te:TE} {Q:VK} {H1:Hp} (F:α->Dt) (Pσ:St->Prop) (hn:⇑ws<=sizeLine) (hp:H1 p=some (.tup (ws.map enc))) (h0:Pσ U₀)
  (turn:∀(a:α) (U:St) (H:Hp) (R:St->V->Hp->Prop),a∈ws->aB H1 H->Pσ U->(∀σ3 y H5,aB H H5->Is H5 (F a) y->Pσ σ3->R σ3 y H5)->g (enc a) U H λσ3 H3=>te σ3 H3 λy H5=>R σ3 y H5)
  (fin:∀D vs H,aB H1 H->H D=some (.lst vs)->aD H (ws.map F) vs->Q (.ref D) H):dF U₀ g uf te Q (O0 K p) H1:=by
 refine Bx F Pσ hn h0 (λi H hi sm=>JH (iR sm hp) (by rw[za];exact hi)) (λH sm=>{_,iR sm hp,by rw[za];exact zk _}) ?_ turn fin;rintro i x H H2 hi sm ⟨rfl,hy⟩;let hx':=hy _ (iR sm hp);rw[zJ,zb hi] at hx';cases hx';exact{(rfl),rfl}
noncomputable def gi (v:V):Bool:=decide (v=.bA)
noncomputable def Dt.gi:Dt->Bool
 | .bA=>true
 | _=>false
def Od:∀{d:Dt} {v:V},Is H d v->gi v=Dt.gi d
 | .bA,_,h=>by unfold Is at h;subst h;rfl
 | .bl _,_,h=>by unfold Is at h;subst h;rfl
 | .int _,_,h=>by unfold Is at h;subst h;rfl
 | .str _,_,h=>by unfold Is at h;subst h;rfl
 | .tup _,_,h=>by unfold Is at h;let⟨a,vs,rfl,_⟩:=h;rfl
theorem jP:∀{ds:List Dt} {vs:List V},aD H ds vs->vs.any gi=ds.any Dt.gi
 | [],_,h=>by unfold aD at h;subst h;rfl
 | d::ds,_,h=>by
  unfold aD at h;let⟨v,r,rfl,h1,h2⟩:=h;rw[xn,xn,Od h1,jP h2]
theorem jf:∀{bs:List Bool} {vs:List V},aD H (bs.map Dt.bl) vs->vs=bs.map V.bl
 | [],_,h=>by unfold aD at h;exact h
 | b::bs,_,h=>by
  rw[zh] at h;unfold aD at h;let⟨v,r,rfl,h1,h2⟩:=h;unfold Is at h1;rw[h1,jf h2];rfl
theorem dw:∀{bs:List Str} {vs:List V},aD H (bs.map Dt.str) vs->vs=bs.map V.str
 | [],_,h=>by unfold aD at h;exact h
 | b::bs,_,h=>by
  rw[zh] at h;unfold aD at h;let⟨v,r,rfl,h1,h2⟩:=h;unfold Is at h1;rw[h1,dw h2];rfl
theorem d4:∀{bs:List Int} {vs:List V},aD H (bs.map Dt.int) vs->vs=bs.map V.int
 | [],_,h=>by unfold aD at h;exact h
 | b::bs,_,h=>by
  rw[zh] at h;unfold aD at h;let⟨v,r,rfl,h1,h2⟩:=h;unfold Is at h1;rw[h1,d4 h2];rfl
theorem Ee:∀{bs:List Str},aD H (bs.map Dt.str) (bs.map V.str)
 | []=>by simp[aD]
 | b::bs=>by rw[zh,zh];unfold aD;exact{_,_,rfl,by unfold Is;rfl,Ee}
theorem qW:∀{bs:List Int},aD H (bs.map Dt.int) (bs.map V.int)
 | []=>by simp[aD]
 | b::bs=>by rw[zh,zh];unfold aD;exact{_,_,rfl,by unfold Is;rfl,qW}
def Kl (d:α->Dt):Prop:=∀a,Dt.gi (d a)=false
theorem iU {α:Type} {d:α->Dt} (f:Kl d):∀{l:List (Option α)},(l.map (dO d)).any Dt.gi=true->nr l=none
 | [],h=>by cases h
 | none::_,_=>rfl
 | some x::r,h=>by
  rw[zh,xn] at h;let e:Dt.gi (dO d (some x))=false:=f x;rw[e,Bool.false_or] at h;show(match nr r with | some l=>some (x::l) | none=>none)=none;rw[iU f h]
theorem iT:∀{l:List (Option α)},(l.map (dO d)).any Dt.gi=false->∃xs,nr l=some xs/\l.map (dO d)=xs.map d/\⇑xs=⇑l
 | [],_=>{[],rfl,rfl,rfl}
 | none::_,h=>by cases h
 | some x::r,h=>by
  rw[zh,xn,Bool.or_eq_false_iff] at h;let⟨xs,e1,e2,e3⟩:=iT h.2;refine{x::xs,?_,?_,by simp[e3]}
  ·show(match nr r with | some l=>some (x::l) | none=>none)=_
   rw[e1]
  ·rw[zh,zh,e2];rfl
def HD:Kl Dt.str:=λ_=>rfl
def Ou:Kl Dt.int:=λ_=>rfl
def Sb:Kl dL:=λ_=>rfl
def Ov:Kl mz:=λ_=>rfl
def L6:Kl eJ:=λ_=>rfl
def A7 (h:Ki H v o):Is H (dO dL o) v:=by
 cases h with
 | bA=>unfold dO Is;rfl
 | ref h=>exact iE h
def eD (h:Is H (dO dL o) v):Ki H v o:=by
 cases o with
 | none=>unfold dO Is at h;subst h;exact .bA
 | some q=>
  unfold dO dL Is at h;let⟨a,vs,rfl,ha,hl⟩:=h;let e:[Dt.int q.1,Dt.int q.2]=[q.1,q.2].map Dt.int:=rfl;rw[e] at hl;rw[d4 hl] at ha;exact .ref ha
def A8 (o:Option Int):Is H (dO .int o) (ov o):=by cases o <;> (unfold dO Is;rfl)
def DF (o:Option Str):Is H (dO .str o) (os o):=by cases o <;> (unfold dO Is;rfl)
def Tu (h:Qx H v o):Is H (dO eJ o) v:=by
 cases o with
 | none=>unfold dO Is;exact h
 | some it=>
  let⟨p,pv,a,rfl,h1,h2,h3⟩:=h;unfold dO eJ;unfold Is;refine{p,_,rfl,h1,?_};unfold aD;refine{_,_,rfl,A7 h3,?_};unfold aD;exact{_,_,rfl,iE h2,by unfold aD;rfl}
def Ge:Sp:=λvs H Q _=>∃(t:Str),vs=[.str t]/\⇑t<=1000000/\∀p H',aB H H'->H' p=some (.lst ((words t).map V.str))->Q (.ref p) H'
def kJ:Sp:=λvs H Q _=>∃(t:Str),vs=[.str t]/\⇑t<=600/\∀H',aB H H'->Q (os (cH t)) H'
def jV:Sp:=λvs H Q _=>∃(t:Str),vs=[.str t]/\⇑t<=600/\∀H',aB H H'->Q (ov (fw t)) H'
inductive Aj (vs:List V) (H:Hp) (Q:VK) (E:XK):Prop
 | mk (t:Str) (lo hi:Int) (_:vs=[.str t,.int lo,.int hi]) (_:⇑t<=600) (_:∀H',aB H H'->Q (ov (lU t lo hi)) H')
def El:Sp:=λvs H Q _=>∃(t:Str),vs=[.str t]/\⇑t<=600/\∀v H',aB H H'->Ki H' v (O5 t)->Q v H'
inductive Ek (vs:List V) (H:Hp) (Q:VK) (E:XK):Prop
 | mk (a b:Str) (_:vs=[.str a,.str b]) (_:⇑a<=600) (_:⇑b<=600) (_:∀v H',aB H H'->Ki H' v (AF a b)->Q v H')
def B4 (K:yA):Sp:=λvs H Q _=>∃(t:Str),vs=[.str t]/\⇑t<=600/\∀v H',aB H H'->Ki H' v (iX t)->Q v H'
def Gh:Sp:=λvs H Q _=>∃(t:Str),vs=[.str t]/\⇑t<=600/\∀H',aB H H'->Q (ov (GG t)) H'
inductive B6 (K:yA) (vs:List V) (H:Hp) (Q:VK) (E:XK):Prop
 | mk (a:vy) (us:List V) (_:vs=[.ref a]) (_:aI K H a us) (_:⇑us<=1000000) (_:∀H',aB H H'->Q (if us.any gi=true then .bA else .ref a) H')
inductive B5 (vs:List V) (H:Hp) (Q:VK) (E:XK):Prop
 | mk (a:vy) (us:List V) (_:vs=[.ref a]) (_:H a=some (.tup us)) (_:⇑us<=1000000) (_:∀H',aB H H'->Q (if us.any gi=true then .bA else .ref a) H')
def tJ:Sp:=λvs H Q _=>∃(t:Str),vs=[.str t]/\⇑t<=600/\∀v H',aB H H'->Is H' (dO mz (AG t)) v->Q v H'
inductive fJ (K:yA) (D:Hp->Hp->V->List Str->Prop) (vs:List V) (H:Hp) (Q:VK) (E:XK):Prop
 | mk (p:vy) (ws:List Str) (_:vs=[.ref p]) (_:aI K H p (ws.map V.str)) (_:⇑ws<=1000000) (_:(∀x∈ws,⇑x<=600)) (_:∀v H',aB H H'->D H H' v ws->Q v H')
noncomputable def dZ (x:Str×(Int×Int)×(Int×Int)):Dt:=.tup [.str x.1,dL x.2.1,dL x.2.2]
noncomputable def gw (x:Str×List Str):Dt:=.tup [.str x.1,kz x.2]
noncomputable def tZ (x:Str×Int×Str):Dt:=.tup [.str x.1,.int x.2.1,.str x.2.2]
def K7 (H:Hp) (v:V) (x:Int×Str×List Item):Prop:=∃a q vs,v=.ref a/\H a=some (.tup [.int x.1,.str x.2.1,.ref q])/\H q=some (.lst vs)/\aD H (x.2.2.map eJ) vs
def iQ (H0 H:Hp) (v:V) (x:Int×Str×List Item):Prop:=∃a q vs,v=.ref a/\H a=some (.tup [.int x.1,.str x.2.1,.ref q])/\H q=some (.lst vs)/\aD H (x.2.2.map eJ) vs/\H0 q=none
def iQ.at (h:iQ H0 H v x):K7 H v x:=by
 let⟨a,q,vs,h1,h2,h3,h4,_⟩:=h;exact{(a),q,vs,h1,h2,h3,h4}
theorem iQ.back (s:aB H00 H0) (h:iQ H0 H v x):iQ H00 H v x:=by
 let⟨a,q,vs,h1,h2,h3,h4,h5⟩:=h;exact{a,q,vs,h1,h2,h3,h4,s.back h5}
def oF (d:α->Dt) (f:List Str->Option α) (_ H:Hp) (v:V) (ws:List Str):Prop:=Is H (dO d (f ws)) v
def TV (H0 H:Hp) (v:V) (ws:List Str):Prop:=match jX ws with
 | none=>v=.bA
 | some x=>iQ H0 H v x
def m7 (h:Is H d v):aD H [d] [v]:=by unfold aD;exact{_,_,rfl,h,by unfold aD;rfl}
def aR (h:Is H d v) (r:aD H ds vs):aD H (d::ds) (v::vs):=by unfold aD;exact{_,_,rfl,h,r}
def cF:aD H [] []:=by unfold aD;rfl
def cB (h:H a=some (.tup vs)) (r:aD H ds vs):Is H (.tup ds) (.ref a):=by unfold Is;exact{_,_,rfl,h,r}
def eG:Is H (.str x) (.str x):=by unfold Is;rfl
def cG:Is H (.int x) (.int x):=by unfold Is;rfl
def dP:Is H .bA .bA:=by unfold Is;rfl
def fC (xs:List V) (k:Nat):j8 xs (some (k:Int)) none=xs.drop k:=by
 unfold j8;rw[HT.GC];let e:HT.d7 ⇑xs 0 (some (k:Int))=min k ⇑xs:=by unfold HT.d7;simp;ext
 rw[e];rcases Nat.le_total k ⇑xs with h | h
 ·rw[Nat.min_eq_left h]
  exact xt (by rw[xy];exact zk _)
 ·rw[Nat.min_eq_right h,List.drop_eq_nil_of_le (zk _),List.drop_eq_nil_of_le h,List.take_nil]
def Fq (xs:List V) (k:Nat):j8 xs none (some (k:Int))=xs.take k:=by
 unfold j8;rw[HT.GC,List.drop_zero,Nat.sub_zero];let e:HT.d7 ⇑xs ⇑xs (some (k:Int))=min k ⇑xs:=by unfold HT.d7;simp;ext
 rw[e];rcases Nat.le_total k ⇑xs with h | h
 ·rw[Nat.min_eq_left h]
 ·rw[Nat.min_eq_right h,xt (zk _),xt h]
def oZ (a b:Str) (r:List Str):o6 (a::b::r)=(match nr ((a::b::r).map cH) with | some (n::ps)=>some (n,ps) | _=>none):=rfl
def gA (H0 H:Hp) (v:V):Option Told->Prop
 | none=>v=.bA
 | some (.bH n)=>v=.str n
 | some (.cI n t l)=>Is H (dZ (n,t,l)) v
 | some (.cj n ps)=>Is H (gw (n,ps)) v
 | some (.bar b)=>Is H (jz b) v
 | some (.aH l)=>Is H (dL l) v
 | some (.holds p b i)=>Is H (tZ (p,b,i)) v
 | some (.aK b p its)=>iQ H0 H v (b,p,its)
 | some (.rep r)=>Is H (ji r) v
 | some (.bu j)=>Is H (jk j) v
inductive Gg (K:yA) (vs:List V) (H:Hp) (Q:VK) (E:XK):Prop
 | mk (p:vy) (x:Str) (ws:List Str) (_:vs=[.ref p]) (_:aI K H p ((x::ws).map V.str)) (_:⇑ws<=999999) (_:(∀y∈x::ws,⇑y<=600)) (_:∀v H',aB H H'->gA H H' v (nK (x::ws))->Q v H')
def mI (h:Is H (dO d o) v) (hg:∀x,Is H (d x) v->gA H0 H v (some (g x))):gA H0 H v (o.map g):=by
 cases o with
 | none=>unfold dO Is at h;exact h
 | some x=>exact hg x h
theorem gA.back (s:aB H00 H0):∀{t:Option Told},gA H0 H v t->gA H00 H v t
 | none,h=>h
 | some (.bH _),h=>h
 | some (.cI _ _ _),h=>h
 | some (.cj _ _),h=>h
 | some (.bar _),h=>h
 | some (.aH _),h=>h
 | some (.holds _ _ _),h=>h
 | some (.aK _ _ _),h=>iQ.back s h
 | some (.rep _),h=>h
 | some (.bu _),h=>h
def cC {α:Type} {l:List α} {i:Nat} {x:α} (h:l[i]?=some x):l.take (i+1)=l.take i++[x]:=by rw[xq,h];rfl
theorem KS:∀{l:List α} {i:Nat} {x:α},l[i]?=some x->(l.take i).find? p=none->p x=true->l.find? p=some x
 | [],i,x,h,_,_=>by simp at h
 | y::l,0,x,h,_,hx=>by simp at h;subst h;rw[yR,hx]
 | y::l,i+1,x,h,hn,hx=>by
  rw[wW,yR] at hn;rw[yR];cases q:p y with
  | true=>rw[q] at hn;cases hn
  | false=>rw[q] at hn;exact KS (by simpa using h) hn hx
def DK {α:Type} {p:α->Bool} {l:List α} {i:Nat} {x:α} (h:l[i]?=some x) (hn:(l.take i).find? p=none) (hx:p x=false):(l.take (i+1)).find? p=none:=by
 rw[cC h,List.find?_append,hn];simp[hx]
def C8 (K:yA) (H:Hp) (p:vy) (rs:List Rep):Prop:=∃vs,aI K H p vs/\aD H (rs.map ji) vs
theorem C8.mono {K:yA} {H H':Hp} (s:aB H H') {p:vy} {rs:List Rep} (h:C8 K H p rs):C8 K H' p rs:=by
 let⟨vs,h1,h2⟩:=h;exact{vs,s.seq h1,h2.mono s}
def eX (h:Is H (ji r) v):∃a e,v=.ref a/\H a=some (.tup [.int r.first,.int r.last,.int r.times,.ref e])/\Is H (.tup (r.ends.map mz)) (.ref e):=by
 unfold ji Is at h;let⟨a,vs,rfl,ha,hl⟩:=h;unfold aD at hl;let⟨v1,r1,rfl,h1,hl⟩:=hl;unfold aD at hl;let⟨v2,r2,rfl,h2,hl⟩:=hl;unfold aD at hl;let⟨v3,r3,rfl,h3,hl⟩:=hl;unfold aD at hl;let⟨v4,r4,rfl,h4,hl⟩:=hl;unfold aD at hl;subst hl;unfold Is at h1 h2 h3;subst h1 h2 h3;let h4':=h4;unfold Is at h4;let⟨e,us,rfl,he,hle⟩:=h4;exact{(a),e,rfl,ha,h4'}
def m8 (h:Is H (mz e) v):∃a q,v=.ref a/\H a=some (.tup [.int e.1,.ref q])/\H q=some (.tup (e.2.map V.int)):=by
 unfold mz Is at h;let⟨a,vs,rfl,ha,hl⟩:=h;unfold aD at hl;let⟨v1,r1,rfl,h1,hl⟩:=hl;unfold aD at hl;let⟨v2,r2,rfl,h2,hl⟩:=hl;unfold aD at hl;subst hl;unfold Is at h1;subst h1;unfold tY Is at h2;let⟨q,us,rfl,hq,hle⟩:=h2;rw[d4 hle] at hq;exact{(a),q,rfl,ha,hq}
def cA {H:Hp} {α:Type} {d:α->Dt} {xs:List α} {vs:List V} {i:Nat} {v:V} (h:aD H (xs.map d) vs) (e:vs[i]?=some v):∃x,xs[i]?=some x/\Is H (d x) v:=by
 let⟨c,h1,h2⟩:=h.get e;rw[zJ] at h1;cases q:xs[i]? with
 | none=>rw[q] at h1;cases h1
 | some x=>rw[q] at h1;cases h1;exact{(x),rfl,h2}
def aQ {H:Hp} {α:Type} {d:α->Dt} {xs:List α} {vs:List V} (h:aD H (xs.map d) vs):⇑vs=⇑xs:=by rw[h.len,za]
inductive ug (K:yA) (vs:List V) (H:Hp) (Q:VK) (E:XK):Prop
 | mk (p:vy) (rs:List Rep) (b:Int) (_:vs=[.ref p,.int b]) (_:C8 K H p rs) (_:∀v,Is H (dO ji (dC rs b)) v->Q v H)
inductive Em (K:yA) (vs:List V) (H:Hp) (Q:VK) (E:XK):Prop
 | mk (p:vy) (rs:List Rep) (b:Int) (_:vs=[.ref p,.int b]) (_:C8 K H p rs) (_:Q (.bl (gO rs b)) H)
inductive En (K:yA) (vs:List V) (H:Hp) (Q:VK) (E:XK):Prop
 | mk (p:vy) (rs:List Rep) (b:Int) (_:vs=[.ref p,.int b]) (_:C8 K H p rs) (_:Q (.bl (dU rs b)) H)
noncomputable def Mi (x:Int×Int×List Int):Dt:=.tup [.int x.1,.int x.2.1,tY x.2.2]
inductive IY (vs:List V) (H:Hp) (Q:VK) (E:XK):Prop
 | mk (v:V) (r:Rep) (_:vs=[v]) (_:Is H (ji r) v) (_:⇑r.ends<=1000000) (_:∀p us H',aB H H'->H' p=some (.lst us)->aD H' ((jh r).map Mi) us->Q (.ref p) H')
inductive uj (K:yA) (vs:List V) (H:Hp) (Q:VK) (E:XK):Prop
 | mk (p:vy) (rs:List Rep) (b:Int) (_:vs=[.ref p,.int b]) (_:C8 K H p rs) (_:(∀r∈rs,⇑r.ends<=1000000)) (_:∀H',aB H H'->Q (.bl (lC rs b)) H')
def Bw {α:Type} {J:It} {ws:List α} {U₀:St} {g:TG} {te:TE} {Q:VK} {H1:Hp} (Y:α->V->Hp->Prop) (F:α->Dt) (Pσ:St->Prop) (hn:⇑ws<=sizeLine) (h0:Pσ U₀)
  (go:∀i H,i<⇑ws->aB H1 H->J.go i H) (stop:∀H,aB H1 H->J.stop ⇑ws H) (yl:∀(i:Nat) x H H2 (hi:i<⇑ws),aB H1 H->J.II i H x H2->aB H H2/\Y ws[i] x H2)
  (turn:∀(a:α) (x:V) (U:St) (H:Hp) (R:St->V->Hp->Prop),a∈ws->aB H1 H->Y a x H->Pσ U->(∀σ3 y H5,aB H H5->Is H5 (F a) y->Pσ σ3->R σ3 y H5)->g x U H λσ3 H3=>te σ3 H3 λy H5=>R σ3 y H5)
  (fin:∀D vs H,aB H1 H->H D=some (.lst vs)->aD H (ws.map F) vs->Q (.ref D) H):dF U₀ g uf te Q J H1:=by
 refine{λi m xs U H=>m=⇑ws-i/\i<=⇑ws/\⇑xs=i/\aB H1 H/\aD H ((ws.take i).map F) xs/\Pσ U,{_,rfl,yf _,rfl,aB.refl _,by simp[aD],h0},?_};rintro i m xs U H ⟨rfl,hi,hx,sm,il,pσ⟩;rcases xE i ⇑ws with hlt | hge
 ·refine .inr {go i H hlt sm,(),?_}
  intro x H2 hy;let⟨s2,hY⟩:=yl i x H H2 hlt sm hy;refine turn ws[i] x U H2 (λσ3 y H5=>if true=true then∃m',m'<⇑ws-i/\(m'=⇑ws-(i+1)/\i+1<=⇑ws/\⇑(xs++[y])=i+1/\aB H1 H5/\aD H5 ((ws.take (i+1)).map F) (xs++[y])/\Pσ σ3) else False) (yk hlt) (sm.trans s2) hY pσ ?_;rintro σ3 y H5 s5 iy p3;rw[yN rfl];refine{_,(),rfl,hlt,by simp[hx],(sm.trans s2).trans s5,?_,p3};rw[xq,zb hlt,zj];exact cS iy (il.mono (s2.trans s5))
 ·let e:i=⇑ws:=()
  subst e;refine .inl {stop H sm,(),λD hD=>?_};let il':aD H (ws.map F) xs:=by rw[zM] at il;exact il
  exact fin D xs _ (sm.trans (bx hD)) aF (il'.mono (bx hD))
structure Ow where
 dx:vy
 pl:vy
 ins:vy
 st:vy
 ba:vy
 ho:vy
 no:vy
 re:vy
 hs:List vy
 ns:List vy
noncomputable def Ow.lists (o:Ow):List vy:=[o.pl,o.ba,o.re]++o.hs++o.ns
noncomputable def Pt (o:Ow) (ub jm:V):List (Str×V):=[("players",.ref o.pl),("instruments",.ref o.ins),("staffs",.ref o.st),("bars",.ref o.ba),("upbeat",ub),("holds",.ref o.ho),("notes",.ref o.no),("repeats",.ref o.re),("jump",jm)]
noncomputable def kS (x:Str):Key:=Key.inr x
noncomputable def kN (x:Int×Str):List Key:=[Key.inl x.1,Key.inr x.2]
noncomputable def OK (x:Str×(Int×Int)×(Int×Int)):Dt:=.tup [dL x.2.1,dL x.2.2]
noncomputable def Qo (x:Str×List Str):Dt:=kz x.2
noncomputable def J0 (x:Int×Str):Dt:=.tup [.int x.1,.str x.2]
def b9 (H:Hp) (d:α->Dt):List (List α)->List vy->Prop
 | [],as=>as=[]
 | l::r,as=>∃a t vs,as=a::t/\H a=some (.lst vs)/\aD H (l.map d) vs/\b9 H d r t
inductive Vz (C:vy) (H:Hp) (a:vy) (o:Ow) (u:Option (Int×Int)) (j:Option Jump):Prop
 | mk (ub jm:V) (_:H a=some (.ins C o.dx (Pt o ub jm))) (_:Is H (dO dL u) ub) (_:Is H (dO jk j) jm)
inductive OY {α:Type} (H:Hp) (d:α->Dt) (a:vy) (l:List α):Prop
 | mk (vs:List V) (_:H a=some (.lst vs)) (_:aD H (l.map d) vs)
inductive Qz {α:Type} (H:Hp) (d:Str×α->Dt) (a:vy) (l:List (Str×α)):Prop
 | mk (vs:List V) (_:H a=some (.dK ((l.map λx=>kS x.1).zip vs))) (_:aD H (l.map d) vs)
structure bV (C:vy) (H:Hp) (a:vy) (S:cg) (o:Ow):Prop where
 obj:Vz C H a o S.aH S.bu
 pl:H o.pl=some (.lst (S.players.map V.str))
 ins:Qz H OK o.ins S.aq
 st:Qz H Qo o.st S.aL
 ba:OY H jz o.ba S.aO
 ho:H o.ho=some (.dK ((S.holds.map λx=>kS x.1).zip (o.hs.map V.ref)))/\b9 H J0 (S.holds.map (·.2)) o.hs
 no:H o.no=some (.dT ((S.aK.map λx=>kN x.1).zip (o.ns.map V.ref)))/\b9 H eJ (S.aK.map (·.2)) o.ns
 re:OY H ji o.re S.repeats
 nd:o.lists.Nodup
 dd:[o.ins,o.st,o.ho].Nodup
theorem b9.mono (s:aB H H'):∀{ls:List (List α)} {as:List vy},b9 H d ls as->b9 H' d ls as
 | [],_,h=>h
 | l::r,_,⟨a,t,vs,e,h1,h2,h3⟩=>{a,t,vs,e,s _ _ h1,h2.mono s,b9.mono s h3}
theorem bV.mono (s:aB H H') (h:bV C H a S o):bV C H' a S o where
 obj:=by let⟨ub,jm,h1,h2,h3⟩:=h.obj;exact{ub,jm,s _ _ h1,h2.mono s,h3.mono s}
 pl:=s _ _ h.pl
 ins:=by let⟨vs,h1,h2⟩:=h.ins;exact{vs,s _ _ h1,h2.mono s}
 st:=by let⟨vs,h1,h2⟩:=h.st;exact{vs,s _ _ h1,h2.mono s}
 ba:=by let⟨vs,h1,h2⟩:=h.ba;exact{vs,s _ _ h1,h2.mono s}
 ho:={s _ _ h.ho.1,h.ho.2.mono s}
 no:={s _ _ h.no.1,h.no.2.mono s}
 re:=by let⟨vs,h1,h2⟩:=h.re;exact{vs,s _ _ h1,h2.mono s}
 nd:=h.nd
 dd:=h.dd
def cP (o:Option HO):Prop:=∀vs,o≠some (.tup vs)
mutual
theorem Is.upd (hx:cP (H x)):∀{d:Dt} {v:V},Is H d v->Is (upd H x o) d v
 | .bA,_,h=>by unfold Is at h ⊢;exact h
 | .bl _,_,h=>by unfold Is at h ⊢;exact h
 | .int _,_,h=>by unfold Is at h ⊢;exact h
 | .str _,_,h=>by unfold Is at h ⊢;exact h
 | .tup l,_,h=>by
  unfold Is at h ⊢;let⟨a,vs,e,ha,hl⟩:=h;let ne:a≠x:=λz=>hx vs (by rw[<-z];exact ha);exact{a,vs,e,by rw[aG ne];exact ha,aD.upd hx hl}
theorem aD.upd (hx:cP (H x)):∀{l:List Dt} {vs:List V},aD H l vs->aD (L2.upd H x o) l vs
 | [],_,h=>by unfold aD at h ⊢;exact h
 | d::l,_,h=>by
  unfold aD at h ⊢;let⟨v,r,e,hv,hr⟩:=h;exact{v,r,e,Is.upd hx hv,aD.upd hx hr}
end
theorem b9.upd (hx:cP (H x)):∀{ls:List (List α)} {as:List vy},x∉as->b9 H d ls as->b9 (L2.upd H x o) d ls as
 | [],_,_,h=>h
 | l::r,_,nx,⟨a,t,vs,e,h1,h2,h3⟩=>by
  subst e;let ne:a≠x:=λz=>nx (by rw[z];exact zp);exact{a,t,vs,rfl,by rw[aG ne];exact h1,aD.upd hx h2,b9.upd hx (λz=>nx (zm _ z)) h3}
structure Cf (K:yA) (C:vy):Prop where
 cls:QA K C
 players:eN K C "players"
 aq:eN K C "instruments"
 aL:eN K C "staffs"
 aO:eN K C "bars"
 aH:eN K C "upbeat"
 holds:eN K C "holds"
 aK:eN K C "notes"
 repeats:eN K C "repeats"
 bu:eN K C "jump"
def Qk (n:Nat):NumText.digitsVal (dec (n:Int)).cps.toList=n:=by rw[vQ];exact PySem.W.KIN.val_back n
def Rx {most:Int} {n k:Nat} (hk:0<k) (hm:(k:Int)<=most) (h:n<10^k):rn most (dec (n:Int)).cps.toList=some (n:Int):=by
 let l1:=HP (n:=n);let l2:=DO hk h;let el:⇑(dec (n:Int)).cps.toList=⇑(dec (n:Int)):=yP;let ha:((dec (n:Int)).cps.toList.all λc=>decide (c∈uT))=true:=yo.mpr λc hc=>ze (Sd (ky hc).1 (ky hc).2);unfold rn;rw[yM (),yM (),yN ha,yM,Qk];rintro⟨z1,z2⟩;have:=Mc (n:=n) (by rw[<-xg];exact z1);ext
def nH {most n:Int} {k:Nat} (hk:0<k) (hm:(k:Int)<=most) (h0:0<=n) (h:n<10^k):rn most (dec n).cps.toList=some n:=by
 let⟨m,rfl⟩:=yK h0;exact Rx hk hm (by exact_mod_cast h)
def fk {n:Int} (h0:0<=n) (h:n<1000):fw (dec n)=some n:=nH (k:=3) ∅ ∅ h0 ()
def Dp (h0:0<=n) (h:n<1000) (h1:lo<=n) (h2:n<=hi):lU (dec n) lo hi=some n:=by
 unfold lU;rw[fk h0 h];dsimp only;rw[yM (),yM ()]
def Jk {most n:Int} {k:Nat} (hk:0<k) (hm:(k:Int)<=most) (h1:-(10^k)<n) (h2:n<10^k):rs most (dec n)=some n:=by
 unfold rs
 by_cases h0:0<=n
 ·rw[yM,nH hk hm h0 h2]
  intro z;let⟨m,rfl⟩:=yK h0;have:=ky (zB z);ext
 ·let e:(dec n).cps.toList=45::(dec (-n)).cps.toList:=by rw[vP (),cD];rfl
  rw[e,yN (show(45::(dec (-n)).cps.toList)[0]?=some 45 from rfl)];show(match rn most (dec (-n)).cps.toList with | some n=>if n=0 then none else some (-n) | none=>none)=_;rw[nH hk hm () ()];dsimp only;rw[yM (),Int.neg_neg]
def Nm {q:Int×Int} (h:OX q):rp (dec q.1) (dec q.2)=some q:=by
 let⟨h1,h2,h3,h4,h5⟩:=h;unfold rp;rw[Jk (k:=2) ∅ ∅ () (),Jk (k:=2) ∅ ∅ () ()];dsimp only;rw[yN h5]
def HR (n:Int):47∉(dec n).cps.toList:=fW ∅ ∅
def KY (n:Int):58∉(dec n).cps.toList:=fW ∅ ∅
def Hn {x:Int×Int} (h:Rd x) (h1:x.1<10000) (h2:x.2<10000):O5 (iD x)=some x:=by
 let⟨p1,p2,p3⟩:=h.pos;unfold iD O5
 by_cases c:x.2=1
 ·rw[yN c,show Txt.split (dec x.1) "/"= [dec x.1] from split1 (c:=47) (HR _)]
  dsimp only;rw[nH (k:=4) ∅ ∅ p1 ()];dsimp only;rw[<-c,p3]
 ·rw[yM c,show Txt.split (dec x.1 ++"/" ++ dec x.2) "/"= [dec x.1,dec x.2] from Ei (c:=47) (HR _) (HR _)]
  dsimp only;rw[nH (k:=4) ∅ ∅ p1 (),nH (k:=4) ∅ ∅ () ()];dsimp only;rw[yM (),p3]
def E1 (h:O8 x):lr (iD x)=some x:=by
 let⟨h1,h2,h3,h4⟩:=h;unfold lr;rw[Hn h1 h3 h4];dsimp only;rw[yM ()]
def Qb (h:MC it):ir (pA it)=some it:=by
 let⟨o,x⟩:=it;let⟨h1,h2⟩:=h;cases o with
 | none=>
  let e:Txt.split (pA (none,x)) ":"= [("r": Str),iD x]:=Ei (c:=58) (a:="r") ∅ (DB h1);unfold ir;rw[e];show(match lr (iD x) with | none=>none | some x=>_)=_;rw[E1 h1];exact yN rfl
 | some q=>
  let e:Txt.split (pA (some q,x)) ":"= [dec q.1,dec q.2,iD x]:=Rt (c:=58) (KY _) (KY _) (DB h1);unfold ir;rw[e];show(match lr (iD x) with | none=>none | some x=>_)=_;rw[E1 h1];dsimp only;rw[yM (by simp)];show(match rp (dec q.1) (dec q.2) with | some q=>some (some q,x) | none=>none)=_;rw[Nm (h2 q rfl)]
def Jl (h1:1<=a) (h2:a<=32) (h3:b∈CY):iX (dec a ++"/" ++ dec b)=some (a,b):=by
 let hb:0<=b/\b<1000:=by
  unfold CY at h3;simp at h3;ext
 unfold iX;rw[show Txt.split (dec a ++"/" ++ dec b) "/"= [dec a,dec b] from Ei (c:=47) (HR _) (HR _)];dsimp only;rw[Dp () () h1 h2,fk hb.1 hb.2];dsimp only;rw[yN h3]
def Nr {k:Int} (h1:-7<=k) (h2:k<=7):GG (dec k)=some k:=by
 unfold GG;rw[Jk (k:=3) ∅ ∅ () ()];dsimp only;rw[yM (by split <;> ext)]
def LB (h:OX q) (h1:-12<=q.1) (h2:q.1<=12):AF (dec q.1) (dec q.2)=some q:=by
 unfold AF;rw[Nm h];dsimp only;rw[yM (by split <;> ext)]
theorem ng:∀{l:List α},(∀x∈l,f (g x)=some x)->nr ((l.map g).map f)=some l
 | [],_=>rfl
 | x::l,h=>by
  rw[zh,zh,h x zp];unfold nr;rw[ng λy hy=>h y (zm _ hy)]
noncomputable def oo (e:End):Str:=dec e.1 ++":" ++ Str.join "," (e.2.map dec)
def Vt (e:End):Prop:=0<=e.1/\e.1<1000/\e.2≠[]/\∀p∈e.2,0<=p/\p<1000
theorem nT (hs:c∉sep.cps.toList):∀{zs:List Str},(∀z∈zs,c∉z.cps.toList)->c∉(Str.join sep zs).cps.toList
 | [],_=>by show c∉("": Str).cps.toList;exact zD
 | [z],h=>h z zp
 | z::y::r,h=>by
  rw[eR,cD,cD];intro m;rcases zF.mp m with m | m
  ·rcases zF.mp m with m | m
   ·exact h z zp m
   ·exact hs m
  ·exact nT hs (λx hx=>h x (zm _ hx)) m
def Nu (h:Vt e):AG (oo e)=some e:=by
 let⟨h1,h2,h3,h4⟩:=h;let f:58∉(Str.join "," (e.2.map dec)).cps.toList:=nT ∅ λz hz=>by
  let⟨y,_,rfl⟩:=zG.mp hz;exact KY _
 unfold AG oo;rw[show Txt.split (dec e.1 ++":" ++ Str.join "," (e.2.map dec)) ":"= [dec e.1,Str.join "," (e.2.map dec)] from Ei (c:=58) (KY _) f];dsimp only;rw[show Txt.split (Str.join "," (e.2.map dec)) ","= e.2.map dec from gj (c:=44) (by simpa using h3) λz hz=>by
  let⟨y,_,rfl⟩:=zG.mp hz;exact fW ∅ ∅]
 rw[fk h1 h2,ng λx hx=>fk (h4 x hx).1 (h4 x hx).2]
def My (w:Str):Prop:=w≠ ""/\32∉w.cps.toList/\10∉w.cps.toList
def IM (ne:ws≠[]) (h:∀w∈ws,My w):words (Str.join " " ws)=ws:=by
 unfold words;rw[show Txt.split (Str.join " " ws) " "= ws from gj (c:=32) ne λw hw=>(h w hw).2.1];exact List.filter_eq_self.mpr λw hw=>ze (h w hw).1
def fB (n:Int):My (dec n):=by
 refine{λz=>?_,fW ∅ ∅,fW ∅ ∅}
 by_cases h:0<=n
 ·let⟨m,rfl⟩:=yK h
  have:=HP (n:=m);rw[z] at this;exact absurd this ∅
 ·let e:(dec n).cps.toList=45::(dec (-n)).cps.toList:=by rw[vP (),cD];rfl
  rw[z] at e;cases e
def Io (ha:My a) (hb1:32∉b.cps.toList) (hb2:10∉b.cps.toList):My (a++b):=by
 refine{λz=>ha.1 (kG ?_),λm=>?_,λm=>?_}
 ·let e:(a++b).cps.toList=("": Str).cps.toList:=by rw[z]
  rw[cD] at e;exact(List.append_eq_nil_iff.mp e).1
 ·rw[cD] at m
  rcases zF.mp m with m | m
  ·exact ha.2.1 m
  ·exact hb1 m
 ·rw[cD] at m
  rcases zF.mp m with m | m
  ·exact ha.2.2 m
  ·exact hb2 m
def FC (ha:My a) (hb1:32∉b.cps.toList) (hb2:10∉b.cps.toList) (hc:My c):My (a++b++c):=Io (Io ha hb1 hb2) hc.2.1 hc.2.2
def A2 (x:Int×Int):My (iD x):=by
 unfold iD;split
 ·exact fB _
 ·exact FC (fB _) ∅ ∅ (fB _)
def R6 (it:Item):My (pA it):=by
 let⟨o,x⟩:=it;cases o with
 | none=>exact Io (a:="r:") {∅,∅,∅} (A2 x).2.1 (A2 x).2.2
 | some q=>exact FC (FC (fB _) ∅ ∅ (fB _)) ∅ ∅ (A2 x)
def Sj (e:End):My (oo e):=by
 let f:∀c,c≠44->c≠45->¬(48<=c/\c<=57)->c∉(Str.join "," (e.2.map dec)).cps.toList:=λc h0 h1 h2=>nT (by show c∉[44];simpa using h0) λz hz=>by
  let⟨y,_,rfl⟩:=zG.mp hz;exact fW h1 h2
 unfold oo;exact Io (Io (fB _) ∅ ∅) (f 32 ∅ ∅ ∅) (f 10 ∅ ∅ ∅)
def gh (n:Str):Prop:=cH n=some n
def gh.w (h:gh n):My n:=by
 unfold gh cH at h;split at h
 ·cases h
 ·split at h
  ·cases h
  ·split at h
   ·rename_i h1 _ h3
    let hs:∀c,c∉sgn->c∉n.cps.toList:=λc hc m=>hc (yd (yo.mp h3 c m));refine{λz=>h1 (by rw[z];decide),hs 32 ∅,hs 10 ∅}
   ·cases h
noncomputable def ctxt:Option Int->Str
 | none=> "end"
 | some n=>dec n
noncomputable def wordsOf:Told->List Str
 | .bH n=>["player",n]
 | .cI n t l=>["instrument",n,dec t.1,dec t.2,iD l]
 | .cj n ps=> "staff":: n::ps
 | .bar b=> "bar":: (dec b.aP.1 ++"/" ++ dec b.aP.2)::dec b.key::b.marks
 | .aH l=>["upbeat",iD l]
 | .holds p b i=>["holds",p,dec b,i]
 | .aK b p its=> "notes":: dec b::p::its.map pA
 | .rep r=> "repeat":: dec r.first::dec r.last::dec r.times::r.ends.map oo
 | .bu j=>["jump",dec j.rM,dec j.tU,dec j.cN,ctxt j.eK]
noncomputable def rowOf (t:Told):Str:=Str.join " " (wordsOf t)
def NB (n:Int):Prop:=0<=n/\n<1000
def QV:Told->Prop
 | .bH n=>gh n
 | .cI n t l=>gh n/\OX t/\-12<=t.1/\t.1<=12/\Lm.Rd l/\l.1<10000/\l.2<10000
 | .cj n ps=>gh n/\ps≠[]/\∀p∈ps,gh p
 | .bar b=>1<=b.aP.1/\b.aP.1<=32/\b.aP.2∈CY/\-7<=b.key/\b.key<=7/\∀m∈b.marks,gh m
 | .aH l=>O8 l
 | .holds p b i=>gh p/\NB b/\gh i
 | .aK b p its=>NB b/\gh p/\(∀it∈its,MC it)/\its.all (λit=>it.1.isNone)=false
 | .rep r=>NB r.first/\NB r.last/\2<=r.times/\r.times<=9/\∀e∈r.ends,Vt e
 | .bu j=>NB j.rM/\NB j.tU/\NB j.cN/\∀c,j.eK=some c->NB c
def K5 (h:∀p∈l,gh p):nr (l.map cH)=some l:=by
 have:=ng (f:=cH) (g:=λx:Str=>x) (l:=l) h
 rwa [List.map_id'] at this
def Jn (h:QV t):nK (wordsOf t)=some t:=by
 cases t with
 | bH n=>
  show(cH n).map Told.bH=_;rw[show cH n=some n from h];rfl
 | cI n t l=>
  let⟨h1,h2,h3,h4,h5,h6,h7⟩:=h;show(kW [n,dec t.1,dec t.2,iD l]).map (λx=>Told.cI x.1 x.2.1 x.2.2)=_;unfold kW;dsimp only;rw[show cH n=some n from h1,LB h2 h3 h4,Hn h5 h6 h7];rfl
 | cj n ps=>
  let⟨h1,h2,h3⟩:=h;show(o6 (n::ps)).map (λx=>Told.cj x.1 x.2)=_;let⟨b,r,rfl⟩:=List.exists_cons_of_ne_nil h2;rw[oZ,K5 (l:=n::b::r) λp hp=>by
   rcases zC.mp hp with e | e
   ·rw[e];exact h1
   ·exact h3 p e]
  rfl
 | bar b=>
  let⟨h1,h2,h3,h4,h5,h6⟩:=h;show(Cs ((dec b.aP.1 ++"/" ++ dec b.aP.2)::dec b.key::b.marks)).map Told.bar=_;unfold Cs;dsimp only;rw[K5 h6,Jl h1 h2 h3,Nr h4 h5];rfl
 | aH l=>
  show(lr (iD l)).map Told.aH=_;rw[E1 h];rfl
 | holds p b i=>
  let⟨h1,h2,h3⟩:=h;show(qB [p,dec b,i]).map (λx=>Told.holds x.1 x.2.1 x.2.2)=_;unfold qB;dsimp only;rw[show cH p=some p from h1,fk h2.1 h2.2,show cH i=some i from h3];rfl
 | aK b p its=>
  let⟨h1,h2,h3,h4⟩:=h;show(jX (dec b::p::its.map pA)).map (λx=>Told.aK x.1 x.2.1 x.2.2)=_;cases its with
  | nil=>cases h4
  | cons i r=>
   show(jX (dec b::p::pA i::r.map pA)).map _=_;unfold jX;let e:=ng (f:=ir) (g:=pA) (l:=i::r) λx hx=>Qb (h3 x hx);rw[zh] at e;dsimp only;rw[e];dsimp only;rw[h4,fk h1.1 h1.2,show cH p=some p from h2];rfl
 | rep r=>
  let⟨h1,h2,h3,h4,h5⟩:=h;show(jG (dec r.first::dec r.last::dec r.times::r.ends.map oo)).map Told.rep=_;unfold jG;dsimp only;rw[ng λx hx=>Nu (h5 x hx),fk h1.1 h1.2,fk h2.1 h2.2,Dp () () h3 h4];rfl
 | bu j=>
  let⟨h1,h2,h3,h4⟩:=h;show(tO [dec j.rM,dec j.tU,dec j.cN,ctxt j.eK]).map Told.bu=_;unfold tO;dsimp only;rw[fk h1.1 h1.2,fk h2.1 h2.2,fk h3.1 h3.2];let⟨a,b,c,d⟩:=j;cases d with
  | none=>rfl
  | some n=>
   dsimp only[ctxt];rw[fk (h4 n rfl).1 (h4 n rfl).2];rfl
def Kq (h:QV t):∀w∈wordsOf t,My w:=by
 let lit:∀s:Str,s≠ ""->32∉s.cps.toList->10∉s.cps.toList->My s:=λs a b c=>{(a),b,c}
 cases t with
 | bH n=>
  intro w hw;simp only[wordsOf,zC,zD,yT] at hw;rcases hw with rfl | rfl
  ·exact lit _ ∅ ∅ ∅
  ·exact gh.w h
 | cI n t l=>
  intro w hw;simp only[wordsOf,zC,zD,yT] at hw;rcases hw with rfl | rfl | rfl | rfl | rfl
  ·exact lit _ ∅ ∅ ∅
  ·exact gh.w h.1
  ·exact fB _
  ·exact fB _
  ·exact A2 _
 | cj n ps=>
  intro w hw;simp only[wordsOf,zC] at hw;rcases hw with rfl | rfl | hw
  ·exact lit _ ∅ ∅ ∅
  ·exact gh.w h.1
  ·exact gh.w (h.2.2 _ hw)
 | bar b=>
  intro w hw;simp only[wordsOf,zC] at hw;rcases hw with rfl | rfl | rfl | hw
  ·exact lit _ ∅ ∅ ∅
  ·exact FC (fB _) ∅ ∅ (fB _)
  ·exact fB _
  ·exact gh.w (h.2.2.2.2.2 _ hw)
 | aH l=>
  intro w hw;simp only[wordsOf,zC,zD,yT] at hw;rcases hw with rfl | rfl
  ·exact lit _ ∅ ∅ ∅
  ·exact A2 _
 | holds p b i=>
  intro w hw;simp only[wordsOf,zC,zD,yT] at hw;rcases hw with rfl | rfl | rfl | rfl
  ·exact lit _ ∅ ∅ ∅
  ·exact gh.w h.1
  ·exact fB _
  ·exact gh.w h.2.2
 | aK b p its=>
  intro w hw;simp only[wordsOf,zC,zG] at hw;rcases hw with rfl | rfl | rfl | ⟨x,_,rfl⟩
  ·exact lit _ ∅ ∅ ∅
  ·exact fB _
  ·exact gh.w h.2.1
  ·exact R6 _
 | rep r=>
  intro w hw;simp only[wordsOf,zC,zG] at hw;rcases hw with rfl | rfl | rfl | rfl | ⟨x,_,rfl⟩
  ·exact lit _ ∅ ∅ ∅
  ·exact fB _
  ·exact fB _
  ·exact fB _
  ·exact Sj _
 | bu j=>
  intro w hw;simp only[wordsOf,zC,zD,yT] at hw;rcases hw with rfl | rfl | rfl | rfl | rfl
  ·exact lit _ ∅ ∅ ∅
  ·exact fB _
  ·exact fB _
  ·exact fB _
  ·unfold ctxt
   cases j.eK with
   | none=>exact lit _ ∅ ∅ ∅
   | some n=>exact fB _
def IP (t:Told):wordsOf t≠[]:=by cases t <;> simp[wordsOf]
def LC (h:QV t):words (rowOf t)=wordsOf t:=IM (IP t) (Kq h)
def Np (h:QV t):10∉(rowOf t).cps.toList:=nT ∅ λw hw=>(Kq h w hw).2.2
noncomputable def kindOf:HO->Nat
 | .lst _=>0
 | .tup _=>1
 | .ins _ _ _=>2
 | .dK _=>3
 | .dT _=>4
 | _=>5
def bf {H:Hp} {a b:vy} {u v:HO} (h1:H a=some u) (h2:H b=some v) (k:kindOf u≠kindOf v):a≠b:=λz=>by
 rw[z,h2] at h1;cases h1;exact k rfl
noncomputable def own (a:vy) (o:Ow):List vy:=[a,o.pl,o.ins,o.st,o.ba,o.ho,o.no,o.re]++o.hs++o.ns
def vI (L:List vy) (H H':Hp):Prop:=∀b u,b∉L->H b=some u->H' b=some u
def vI.of (s:aB H H'):vI L H H':=λb u _ h=>s b u h
def vI.trans (s:vI L H H') (t:vI L H' H''):vI L H H'':=λb u n h=>t b u n (s b u n h)
theorem vI.upd (h:x∈L):vI L H (L2.upd H x o):=λb u n e=>by
 rw[aG (λz=>n (by rw[z];exact h))];exact e
structure Nd (o:Ow):Prop where
 pb:o.pl≠o.ba
 pr:o.pl≠o.re
 ph:o.pl∉o.hs
 pn:o.pl∉o.ns
 br:o.ba≠o.re
 bh:o.ba∉o.hs
 bn:o.ba∉o.ns
 rh:o.re∉o.hs
 rn:o.re∉o.ns
 hh:o.hs.Nodup
 nn:o.ns.Nodup
 hn:∀x∈o.hs,x∉o.ns
def Nd.of (h:o.lists.Nodup):Nd o:=by
 unfold Ow.lists at h;rw[zR] at h;let⟨h1,h2,h3⟩:=h;rw[zR] at h1;let⟨h4,h5,h6⟩:=h1;simp only[yc,zC,zD,yT,not_or] at h4;refine{h4.1.1,h4.1.2,λz=>?_,λz=>?_,h4.2.1,λz=>?_,λz=>?_,λz=>?_,λz=>?_,h5,h2,λx hx z=>?_}
 ·exact h6 o.pl (by simp) o.pl z rfl
 ·exact h3 o.pl (by simp) o.pl z rfl
 ·exact h6 o.ba (by simp) o.ba z rfl
 ·exact h3 o.ba (by simp) o.ba z rfl
 ·exact h6 o.re (by simp) o.re z rfl
 ·exact h3 o.re (by simp) o.re z rfl
 ·exact h3 x (by simp[hx]) x z rfl
def Nd.to (h:Nd o):o.lists.Nodup:=by
 unfold Ow.lists;rw[zR];refine{?_,h.nn,?_}
 ·rw[zR]
  refine{?_,h.hh,?_}
  ·simp only[yc,zC,zD,yT,not_or]
   exact{{(h.pb),h.pr},h.br,λz=>z,xZ}
  ·intro x hx y hy e
   subst e;simp only[zC,zD,yT] at hx;rcases hx with rfl | rfl | rfl
   ·exact h.ph hy
   ·exact h.bh hy
   ·exact h.rh hy
 ·intro x hx y hy e
  subst e;rw[zF] at hx;rcases hx with hx | hx
  ·simp only[zC,zD,yT] at hx
   rcases hx with rfl | rfl | rfl
   ·exact h.pn hy
   ·exact h.bn hy
   ·exact h.rn hy
  ·exact h.hn x hx hy
section
variable {C a x:vy} {H:Hp} {S:cg} {o:Ow} {u:HO}
def bV.DA (h:bV C H a S o) (nx:cP (H x)) (n:a≠x):Vz C (L2.upd H x u) a o S.aH S.bu:=by
 let⟨ub,jm,h1,h2,h3⟩:=h.obj;exact{ub,jm,by rw[aG n];exact h1,Is.upd nx h2,Is.upd nx h3}
def bV.EI (h:bV C H a S o) (n:o.pl≠x):L2.upd H x u o.pl=some (.lst (S.players.map V.str)):=by rw[aG n];exact h.pl
def bV.qX (h:bV C H a S o) (nx:cP (H x)) (n:o.ins≠x):Qz (L2.upd H x u) OK o.ins S.aq:=by
 let⟨vs,h1,h2⟩:=h.ins;exact{vs,by rw[aG n];exact h1,aD.upd nx h2}
def bV.Eg (h:bV C H a S o) (nx:cP (H x)) (n:o.st≠x):Qz (L2.upd H x u) Qo o.st S.aL:=by
 let⟨vs,h1,h2⟩:=h.st;exact{vs,by rw[aG n];exact h1,aD.upd nx h2}
def bV.Fz (h:bV C H a S o) (nx:cP (H x)) (n:o.ba≠x):OY (L2.upd H x u) jz o.ba S.aO:=by
 let⟨vs,h1,h2⟩:=h.ba;exact{vs,by rw[aG n];exact h1,aD.upd nx h2}
def bV.EF (h:bV C H a S o) (nx:cP (H x)) (n:o.re≠x):OY (L2.upd H x u) ji o.re S.repeats:=by
 let⟨vs,h1,h2⟩:=h.re;exact{vs,by rw[aG n];exact h1,aD.upd nx h2}
def bV.Ht (h:bV C H a S o) (nx:cP (H x)) (n:o.ho≠x) (nn:x∉o.hs):L2.upd H x u o.ho=some (.dK ((S.holds.map λx=>kS x.1).zip (o.hs.map V.ref)))/\b9 (L2.upd H x u) J0 (S.holds.map (·.2)) o.hs:=
 {by rw[aG n];exact h.ho.1,b9.upd nx nn h.ho.2}
def bV.EW (h:bV C H a S o) (nx:cP (H x)) (n:o.no≠x) (nn:x∉o.ns):L2.upd H x u o.no=some (.dT ((S.aK.map λx=>kN x.1).zip (o.ns.map V.ref)))/\b9 (L2.upd H x u) eJ (S.aK.map (·.2)) o.ns:=
 {by rw[aG n];exact h.no.1,b9.upd nx nn h.no.2}
end
theorem cE:∀{ls:List (List α)} {as:List vy},b9 H d ls as->x∈as->∃vs,H x=some (.lst vs)
 | [],_,h,hx=>by unfold b9 at h;subst h;simp at hx
 | l::r,_,⟨a,t,vs,e,h1,_,h3⟩,hx=>by
  subst e;rcases zC.mp hx with rfl | hx
  ·exact{(vs),h1}
  ·exact cE h3 hx
theorem b9.snoc (hx:H x=some (.lst vs)) (im:aD H (m.map d) vs):∀{ls:List (List α)} {as:List vy},b9 H d ls as->b9 H d (ls++[m]) (as++[x])
 | [],_,h=>by unfold b9 at h;subst h;exact{x,[],vs,rfl,hx,im,rfl}
 | l::r,_,⟨a,t,vs',e,h1,h2,h3⟩=>by
  subst e;exact{a,t++[x],vs',rfl,h1,h2,b9.snoc hx im h3}
def MM (h:l.length=m.length) (x:α) (y:β):(l++[x]).zip (m++[y])=l.zip m++[(x,y)]:=by
 rw[List.zip_append h];rfl
def qC {κ:Type} [DecidableEq κ] {ks:List κ} {vs:List V} (hl:⇑ks=⇑vs) {k:κ} {v:V} (h:dn (ks.zip vs) k=none):putK (ks.zip vs) k v=(ks++[k]).zip (vs++[v]):=by
 rw[MM hl];exact NG v h
theorem DH (p:Str):∀{hs:List (Str×List α)} {as:List vy},b9 H d (hs.map (·.2)) as->as.Nodup->(hs.map (·.1)).Nodup->p∈hs.map (·.1)->
  ∃x vs,dn ((hs.map λx=>kS x.1).zip (as.map V.ref)) (kS p)=some (.ref x)/\x∈as/\H x=some (.lst vs)/\∀y e,Is (L2.upd H x (.lst (vs++[y]))) (d e) y->
   b9 (L2.upd H x (.lst (vs++[y]))) d ((hs.map λq=>if q.1=p then(q.1,q.2++[e]) else q).map (·.2)) as
 | [],_,_,_,_,h=>by simp at h
 | (k,l)::r,_,hL,na,nk,hm=>by
  rw[zh] at hL;let⟨a,t,vs,rfl,h1,h2,h3⟩:=hL;rw[zh,yc] at nk;rw[yc] at na
  by_cases e:k=p
  ·subst e
   refine{a,vs,?_,zp,h1,λy e iy=>?_}
   ·rw[zh,zh,yV]
    unfold dn;rw[yR];simp
   ·let nx:cP (H a):=by rw[h1];exact λ_ z=>by cases z
    let er:(r.map λq=>if q.1=k then(q.1,q.2++[e]) else q)=r:=by
     conv=>rhs;rw[<-List.map_id r]
     refine xu λq hq=>?_;rw[yM (λz=>nk.1 (by rw[show(k,l).1=q.1 from z.symm];exact zO (f:=λx:Str×List α=>x.1) hq))];rfl
    rw[zh,zh,yN rfl,er];refine{a,t,vs++[y],rfl,aF,?_,b9.upd nx na.1 h3};rw[zj];exact cS iy (aD.upd nx h2)
  ·let hm':p∈r.map (·.1):=by
    rcases zC.mp hm with z | z
    ·exact absurd z.symm e
    ·exact z
   let⟨x,vs',e1,e2,e3,e4⟩:=DH p h3 na.2 nk.2 hm';refine{x,vs',?_,zm _ e2,e3,λy e iy=>?_}
   ·let e':¬kS k=kS p:=λz=>e (Key.inr.inj z)
    rw[zh,zh,yV];unfold dn at e1 ⊢;rw[yR];simp only[e',decide_false];exact e1
   ·let nx:cP (H x):=by rw[e3];exact λ_ z=>by cases z
    rw[zh,zh,yM (by assumption)];refine{a,t,vs,rfl,?_,aD.upd nx h2,e4 y e iy};rw[aG (λz=>na.1 (by rw[z];exact e2))];exact h1
section
variable {C a:vy} {H:Hp} {S:cg} {o:Ow}
def bV.J9 (h:bV C H a S o) (n:Str):bV C (L2.upd H o.pl (.lst (S.players.map V.str++[.str n]))) a (bK S (.bH n)) o:=by
 let d:=Nd.of h.nd;let hp:=h.pl;let nx:cP (H o.pl):=by rw[hp];exact λ_ z=>by cases z
 let⟨_,_,ha,_⟩:=h.obj;let⟨_,hi,_⟩:=h.ins;let⟨_,hs,_⟩:=h.st;exact{h.DA nx (bf ha hp (by simp[kindOf])),by rw[aF];show _=some (HO.lst ((S.players++[n]).map V.str));rw[zj];rfl,h.qX nx (bf hi hp (by simp[kindOf])),h.Eg nx (bf hs hp (by simp[kindOf])),h.Fz nx d.pb.symm,
  h.Ht nx (bf h.ho.1 hp (by simp[kindOf])) d.ph,h.EW nx (bf h.no.1 hp (by simp[kindOf])) d.pn,h.EF nx d.pr.symm,h.nd,h.dd}
def bV.Qt (h:bV C H a S o) {b:MF} {v:V} {vs:List V} (hb:H o.ba=some (.lst vs)) (il:aD H (S.aO.map jz) vs) (iv:Is H (jz b) v):bV C (L2.upd H o.ba (.lst (vs++[v]))) a (bK S (.bar b)) o:=by
 let d:=Nd.of h.nd;let nx:cP (H o.ba):=by rw[hb];exact λ_ z=>by cases z
 let⟨_,_,ha,_⟩:=h.obj;let⟨_,hi,_⟩:=h.ins;let⟨_,hs,_⟩:=h.st;refine{h.DA nx (bf ha hb (by simp[kindOf])),h.EI d.pb,h.qX nx (bf hi hb (by simp[kindOf])),h.Eg nx (bf hs hb (by simp[kindOf])),{_,aF,?_},
  h.Ht nx (bf h.ho.1 hb (by simp[kindOf])) d.bh,h.EW nx (bf h.no.1 hb (by simp[kindOf])) d.bn,h.EF nx d.br.symm,h.nd,h.dd}
 show aD _ ((S.aO++[b]).map jz) _;rw[zj];exact cS (Is.upd nx iv) (aD.upd nx il)
def bV.Qr (h:bV C H a S o) {r:Rep} {v:V} {vs:List V} (hb:H o.re=some (.lst vs)) (il:aD H (S.repeats.map ji) vs) (iv:Is H (ji r) v):bV C (L2.upd H o.re (.lst (vs++[v]))) a (bK S (.rep r)) o:=by
 let d:=Nd.of h.nd;let nx:cP (H o.re):=by rw[hb];exact λ_ z=>by cases z
 let⟨_,_,ha,_⟩:=h.obj;let⟨_,hi,_⟩:=h.ins;let⟨_,hs,_⟩:=h.st;refine{h.DA nx (bf ha hb (by simp[kindOf])),h.EI d.pr,h.qX nx (bf hi hb (by simp[kindOf])),h.Eg nx (bf hs hb (by simp[kindOf])),h.Fz nx d.br,
  h.Ht nx (bf h.ho.1 hb (by simp[kindOf])) d.rh,h.EW nx (bf h.no.1 hb (by simp[kindOf])) d.rn,{_,aF,?_},h.nd,h.dd}
 show aD _ ((S.repeats++[r]).map ji) _;rw[zj];exact cS (Is.upd nx iv) (aD.upd nx il)
def vW {n:Str} {ks:List Str} {vs:List V} (h:n∉ks):dn ((ks.map kS).zip vs) (kS n)=none:=by
 unfold dn;rw[Option.map_eq_none_iff,xR];intro x hx z;let e:=yd z;let m:=(wt hx).1;let⟨k,hk,ek⟩:=zG.mp m;rw[<-ek] at e;exact h ((Key.inr.inj e)▸hk)
def OH (h:[o.ins,o.st,o.ho].Nodup):o.ins≠o.st/\o.ins≠o.ho/\o.st≠o.ho:=by
 simp only[yc,zC,zD,yT,not_or] at h;exact{(h.1.1),h.1.2,h.2.1}
def bV.Ms (h:bV C H a S o) {n:Str} {t l:Int×Int} {p:vy} {vs:List V} (hb:H o.ins=some (.dK ((S.aq.map λx=>kS x.1).zip vs))) (il:aD H (S.aq.map OK) vs) (iv:Is H (OK (n,t,l)) (.ref p))
  (fr:n∉S.aq.map (·.1)):bV C (L2.upd H o.ins (.dK (putK ((S.aq.map λx=>kS x.1).zip vs) (kS n) (.ref p)))) a (bK S (.cI n t l)) o:=by
 let d:=Nd.of h.nd;let⟨d1,d2,d3⟩:=OH h.dd;let nx:cP (H o.ins):=by rw[hb];exact λ_ z=>by cases z
 let⟨_,_,ha,_⟩:=h.obj;let⟨_,hba,_⟩:=h.ba;let⟨_,hre,_⟩:=h.re;let vl:=aQ il;let em:(S.aq.map λx=>kS x.1)=(S.aq.map (·.1)).map kS:=by rw[zA];rfl
 let hns:o.ins∉o.ns:=λz=>by
  let⟨_,q⟩:=cE h.no.2 z;rw[hb] at q;cases q
 let hhs:o.ins∉o.hs:=λz=>by
  let⟨_,q⟩:=cE h.ho.2 z;rw[hb] at q;cases q
 refine{h.DA nx (bf ha hb (by simp[kindOf])),h.EI (bf h.pl hb (by simp[kindOf])),{vs++[.ref p],?_,?_},h.Eg nx d1.symm,h.Fz nx (bf hba hb (by simp[kindOf])),
  h.Ht nx d2.symm hhs,h.EW nx (bf h.no.1 hb (by simp[kindOf])) hns,h.EF nx (bf hre hb (by simp[kindOf])),h.nd,h.dd}
 ·rw[aF,qC (by rw[za];exact vl.symm) (by rw[em];exact vW fr)]
  show _=some (HO.dK (((S.aq++[(n,t,l)]).map λx=>kS x.1).zip (vs++[.ref p])));rw[zj];rfl
 ·show aD _ ((S.aq++[(n,t,l)]).map OK) _
  rw[zj];exact cS (Is.upd nx iv) (aD.upd nx il)
def bV.Mq (h:bV C H a S o) {n:Str} {ps:List Str} {v:V} {vs:List V} (hb:H o.st=some (.dK ((S.aL.map λx=>kS x.1).zip vs))) (il:aD H (S.aL.map Qo) vs) (iv:Is H (Qo (n,ps)) v)
  (fr:n∉S.aL.map (·.1)):bV C (L2.upd H o.st (.dK (putK ((S.aL.map λx=>kS x.1).zip vs) (kS n) v))) a (bK S (.cj n ps)) o:=by
 let d:=Nd.of h.nd;let⟨d1,d2,d3⟩:=OH h.dd;let nx:cP (H o.st):=by rw[hb];exact λ_ z=>by cases z
 let⟨_,_,ha,_⟩:=h.obj;let⟨_,hba,_⟩:=h.ba;let⟨_,hre,_⟩:=h.re;let vl:=aQ il;let em:(S.aL.map λx=>kS x.1)=(S.aL.map (·.1)).map kS:=by rw[zA];rfl
 let hns:o.st∉o.ns:=λz=>by
  let⟨_,q⟩:=cE h.no.2 z;rw[hb] at q;cases q
 let hhs:o.st∉o.hs:=λz=>by
  let⟨_,q⟩:=cE h.ho.2 z;rw[hb] at q;cases q
 refine{h.DA nx (bf ha hb (by simp[kindOf])),h.EI (bf h.pl hb (by simp[kindOf])),h.qX nx d1,{vs++[v],?_,?_},h.Fz nx (bf hba hb (by simp[kindOf])),
  h.Ht nx d3.symm hhs,h.EW nx (bf h.no.1 hb (by simp[kindOf])) hns,h.EF nx (bf hre hb (by simp[kindOf])),h.nd,h.dd}
 ·rw[aF,qC (by rw[za];exact vl.symm) (by rw[em];exact vW fr)]
  show _=some (HO.dK (((S.aL++[(n,ps)]).map λx=>kS x.1).zip (vs++[v])));rw[zj];rfl
 ·show aD _ ((S.aL++[(n,ps)]).map Qo) _
  rw[zj];exact cS (Is.upd nx iv) (aD.upd nx il)
def Lh {n:Int×Str} {ks:List (Int×Str)} {vs:List V} (h:n∉ks):dn ((ks.map kN).zip vs) (kN n)=none:=by
 unfold dn;rw[Option.map_eq_none_iff,xR];intro x hx z;let e:=yd z;let m:=(wt hx).1;let⟨k,hk,ek⟩:=zG.mp m;rw[<-ek] at e;unfold kN at e;simp at e;have:k=n:=Prod.ext e.1 e.2;exact h (this▸hk)
def bV.Mr (h:bV C H a S o) {b:Int} {pn:Str} {its:List Item} {q:vy} {us:List V} (hq:H q=some (.lst us)) (iq:aD H (its.map eJ) us) (nq:q∉o.lists) (fr:(b,pn)∉S.aK.map (·.1)) :
  bV C (L2.upd H o.no (.dT (putK ((S.aK.map λx=>kN x.1).zip (o.ns.map V.ref)) (kN (b,pn)) (.ref q)))) a (bK S (.aK b pn its)) {o with ns:=o.ns++[q]}:=by
 let d:=Nd.of h.nd;let hb:=h.no.1;let nx:cP (H o.no):=by rw[hb];exact λ_ z=>by cases z
 let⟨ub,jm,ha,hub,hjm⟩:=h.obj;let⟨_,hi,_⟩:=h.ins;let⟨_,hs,_⟩:=h.st;let⟨_,hba,_⟩:=h.ba;let⟨_,hre,_⟩:=h.re;let em:(S.aK.map λx=>kN x.1)=(S.aK.map (·.1)).map kN:=by rw[zA];rfl
 let hns:o.no∉o.ns:=λz=>by
  let⟨_,q⟩:=cE h.no.2 z;rw[hb] at q;cases q
 let hhs:o.no∉o.hs:=λz=>by
  let⟨_,q⟩:=cE h.ho.2 z;rw[hb] at q;cases q
 let ll:⇑(o.ns.map V.ref)=⇑S.aK:=by
  have:∀{ls:List (List Item)} {as:List vy},b9 H eJ ls as->⇑as=⇑ls:=by
   intro ls
   induction ls with
   | nil=>intro as z;unfold b9 at z;rw[z];rfl
   | cons l r ih=>rintro _ ⟨a,t,vs,rfl,_,_,h3⟩;rw[zt,zt,ih h3]
  rw[za,this h.no.2,za]
 let nn:q∉[o.pl,o.ba,o.re]/\q∉o.hs/\q∉o.ns:=by
  unfold Ow.lists at nq;rw[zF,zF] at nq;exact{λz=>nq (.inl (.inl z)),λz=>nq (.inl (.inr z)),λz=>nq (.inr z)}
 let⟨n1,n2,n3⟩:=nn;simp only[zC,zD,yT,not_or] at n1;refine{{ub,jm,by rw[aG (bf ha hb (by simp[kindOf]))];exact ha,Is.upd nx hub,Is.upd nx hjm},h.EI (bf h.pl hb (by simp[kindOf])),h.qX nx (bf hi hb (by simp[kindOf])),h.Eg nx (bf hs hb (by simp[kindOf])),h.Fz nx (bf hba hb (by simp[kindOf])),
  h.Ht nx (bf h.ho.1 hb (by simp[kindOf])) hhs,{?_,?_},h.EF nx (bf hre hb (by simp[kindOf])),?_,h.dd}
 ·show L2.upd H o.no _ o.no=some (HO.dT (((S.aK++[((b,pn),its)]).map λx=>kN x.1).zip ((o.ns++[q]).map V.ref)))
  rw[aF,qC (by rw[za];exact ll.symm) (by rw[em];exact Lh fr),zj,zj];rfl
 ·show b9 _ eJ ((S.aK++[((b,pn),its)]).map (·.2)) (o.ns++[q])
  rw[zj];exact b9.snoc (by rw[aG (bf hq hb (by simp[kindOf]))];exact hq) (aD.upd nx iq) (b9.upd nx hns h.no.2)
 ·refine Nd.to {d.pb,d.pr,d.ph,?_,d.br,d.bh,?_,d.rh,?_,d.hh,?_,?_}
  ·show o.pl∉o.ns++[q]
   rw[zF,zy];rintro(z | z)
   ·exact d.pn z
   ·exact n1.1 z.symm
  ·show o.ba∉o.ns++[q]
   rw[zF,zy];rintro(z | z)
   ·exact d.bn z
   ·exact n1.2.1 z.symm
  ·show o.re∉o.ns++[q]
   rw[zF,zy];rintro(z | z)
   ·exact d.rn z
   ·exact n1.2.2 z.symm
  ·show(o.ns++[q]).Nodup
   rw[zR];exact{d.nn,by simp,λx hx y hy e=>by rw[zy] at hy;subst hy;subst e;exact n3 hx}
  ·intro x hx z
   let z':x∈o.ns++[q]:=z;rw[zF,zy] at z';rcases z' with z' | z'
   ·exact d.hn x hx z'
   ·subst z';exact n2 hx
def bV.J8 (h:bV C H a S o) {l:Int×Int} {v ub jm:V} (ha:H a=some (.ins C o.dx (Pt o ub jm))) (ij:Is H (dO jk S.bu) jm) (iv:Is H (dL l) v):bV C (L2.upd H a (.ins C o.dx (Pt o v jm))) a (bK S (.aH l)) o:=by
 let nx:cP (H a):=by rw[ha];exact λ_ z=>by cases z
 let⟨_,hi,_⟩:=h.ins;let⟨_,hs,_⟩:=h.st;let⟨_,hba,_⟩:=h.ba;let⟨_,hre,_⟩:=h.re;let hns:a∉o.ns:=λz=>by
  let⟨_,q⟩:=cE h.no.2 z;rw[ha] at q;cases q
 let hhs:a∉o.hs:=λz=>by
  let⟨_,q⟩:=cE h.ho.2 z;rw[ha] at q;cases q
 exact{{v,jm,aF,Is.upd nx iv,Is.upd nx ij},h.EI (bf h.pl ha (by simp[kindOf])),h.qX nx (bf hi ha (by simp[kindOf])),h.Eg nx (bf hs ha (by simp[kindOf])),h.Fz nx (bf hba ha (by simp[kindOf])),
  h.Ht nx (bf h.ho.1 ha (by simp[kindOf])) hhs,h.EW nx (bf h.no.1 ha (by simp[kindOf])) hns,h.EF nx (bf hre ha (by simp[kindOf])),h.nd,h.dd}
def bV.OU (h:bV C H a S o) {j:Jump} {v ub jm:V} (ha:H a=some (.ins C o.dx (Pt o ub jm))) (iu:Is H (dO dL S.aH) ub) (iv:Is H (jk j) v):bV C (L2.upd H a (.ins C o.dx (Pt o ub v))) a (bK S (.bu j)) o:=by
 let nx:cP (H a):=by rw[ha];exact λ_ z=>by cases z
 let⟨_,hi,_⟩:=h.ins;let⟨_,hs,_⟩:=h.st;let⟨_,hba,_⟩:=h.ba;let⟨_,hre,_⟩:=h.re;let hns:a∉o.ns:=λz=>by
  let⟨_,q⟩:=cE h.no.2 z;rw[ha] at q;cases q
 let hhs:a∉o.hs:=λz=>by
  let⟨_,q⟩:=cE h.ho.2 z;rw[ha] at q;cases q
 exact{{ub,v,aF,Is.upd nx iu,Is.upd nx iv},h.EI (bf h.pl ha (by simp[kindOf])),h.qX nx (bf hi ha (by simp[kindOf])),h.Eg nx (bf hs ha (by simp[kindOf])),h.Fz nx (bf hba ha (by simp[kindOf])),
  h.Ht nx (bf h.ho.1 ha (by simp[kindOf])) hhs,h.EW nx (bf h.no.1 ha (by simp[kindOf])) hns,h.EF nx (bf hre ha (by simp[kindOf])),h.nd,h.dd}
def bV.NY (h:bV C H a S o) {pn:Str} {q:vy} (hq:H q=some (.lst [])) (nq:q∉o.lists) (fr:pn∉S.holds.map (·.1)) :
  bV C (L2.upd H o.ho (.dK (putK ((S.holds.map λx=>kS x.1).zip (o.hs.map V.ref)) (kS pn) (.ref q)))) a {S with holds:=S.holds++[(pn,[])]} {o with hs:=o.hs++[q]}:=by
 let d:=Nd.of h.nd;let⟨d1,d2,d3⟩:=OH h.dd;let hb:=h.ho.1;let nx:cP (H o.ho):=by rw[hb];exact λ_ z=>by cases z
 let⟨ub,jm,ha,hub,hjm⟩:=h.obj;let⟨_,hba,_⟩:=h.ba;let⟨_,hre,_⟩:=h.re;let em:(S.holds.map λx=>kS x.1)=(S.holds.map (·.1)).map kS:=by rw[zA];rfl
 let hns:o.ho∉o.ns:=λz=>by
  let⟨_,q⟩:=cE h.no.2 z;rw[hb] at q;cases q
 let hhs:o.ho∉o.hs:=λz=>by
  let⟨_,q⟩:=cE h.ho.2 z;rw[hb] at q;cases q
 let ll:⇑(o.hs.map V.ref)=⇑S.holds:=by
  have:∀{ls:List (List (Int×Str))} {as:List vy},b9 H J0 ls as->⇑as=⇑ls:=by
   intro ls
   induction ls with
   | nil=>intro as z;unfold b9 at z;rw[z];rfl
   | cons l r ih=>rintro _ ⟨a,t,vs,rfl,_,_,h3⟩;rw[zt,zt,ih h3]
  rw[za,this h.ho.2,za]
 let nn:q∉[o.pl,o.ba,o.re]/\q∉o.hs/\q∉o.ns:=by
  unfold Ow.lists at nq;rw[zF,zF] at nq;exact{λz=>nq (.inl (.inl z)),λz=>nq (.inl (.inr z)),λz=>nq (.inr z)}
 let⟨n1,n2,n3⟩:=nn;simp only[zC,zD,yT,not_or] at n1;refine{{ub,jm,by rw[aG (bf ha hb (by simp[kindOf]))];exact ha,Is.upd nx hub,Is.upd nx hjm},h.EI (bf h.pl hb (by simp[kindOf])),h.qX nx d2,h.Eg nx d3,h.Fz nx (bf hba hb (by simp[kindOf])),
  {?_,?_},h.EW nx (bf h.no.1 hb (by simp[kindOf])) hns,h.EF nx (bf hre hb (by simp[kindOf])),?_,h.dd}
 ·show L2.upd H o.ho _ o.ho=some (HO.dK (((S.holds++[((pn,[]):Str×List (Int×Str))]).map λx:Str×List (Int×Str)=>kS x.1).zip ((o.hs++[q]).map V.ref)))
  rw[aF,qC (by rw[za];exact ll.symm) (by rw[em];exact vW fr),zj,zj];rfl
 ·show b9 _ J0 ((S.holds++[((pn,[]):Str×List (Int×Str))]).map λx:Str×List (Int×Str)=>x.2) (o.hs++[q])
  rw[zj];exact b9.snoc (vs:=[]) (by rw[aG (bf hq hb (by simp[kindOf]))];exact hq) (by show aD _ [] [];unfold aD;rfl) (b9.upd nx hhs h.ho.2)
 ·refine Nd.to {d.pb,d.pr,?_,d.pn,d.br,?_,d.bn,?_,d.rn,?_,d.nn,?_}
  ·show o.pl∉o.hs++[q]
   rw[zF,zy];rintro(z | z)
   ·exact d.ph z
   ·exact n1.1 z.symm
  ·show o.ba∉o.hs++[q]
   rw[zF,zy];rintro(z | z)
   ·exact d.bh z
   ·exact n1.2.1 z.symm
  ·show o.re∉o.hs++[q]
   rw[zF,zy];rintro(z | z)
   ·exact d.rh z
   ·exact n1.2.2 z.symm
  ·show(o.hs++[q]).Nodup
   rw[zR];exact{d.hh,by simp,λx hx y hy e=>by rw[zy] at hy;subst hy;subst e;exact n2 hx}
  ·intro x hx z
   let hx':x∈o.hs++[q]:=hx;rw[zF,zy] at hx';rcases hx' with hx' | hx'
   ·exact d.hn x hx' z
   ·subst hx';exact n3 z
def bV.nN (h:bV C H a S o) {pn:Str} (nk:(S.holds.map (·.1)).Nodup) (hm:pn∈S.holds.map (·.1)) :
  ∃x vs,dn ((S.holds.map λx=>kS x.1).zip (o.hs.map V.ref)) (kS pn)=some (.ref x)/\x∈o.hs/\H x=some (.lst vs)/\∀y b i,Is H (J0 (b,i)) y->bV C (L2.upd H x (.lst (vs++[y]))) a (bK S (.holds pn b i)) o:=by
 let d:=Nd.of h.nd;let⟨x,vs,e1,e2,e3,e4⟩:=DH pn h.ho.2 d.hh nk hm;refine{x,vs,e1,e2,e3,λy b i iy=>?_};let nx:cP (H x):=by rw[e3];exact λ_ z=>by cases z
 let⟨ub,jm,ha,hub,hjm⟩:=h.obj;let⟨_,hi,_⟩:=h.ins;let⟨_,hs,_⟩:=h.st;let ea:bK S (.holds pn b i)={S with holds:=S.holds.map λq:Str×List (Int×Str)=>if q.1=pn then(q.1,q.2++[(b,i)]) else q}:=by
  show({S with holds:=eV S.holds pn (b,i)}:cg)=_;unfold eV;rw[yN hm]
 rw[ea];refine{h.DA nx (bf ha e3 (by simp[kindOf])),h.EI (λz=>d.ph (by rw[z];exact e2)),h.qX nx (bf hi e3 (by simp[kindOf])),h.Eg nx (bf hs e3 (by simp[kindOf])),h.Fz nx (λz=>d.bh (by rw[z];exact e2)),
  {?_,e4 y (b,i) (Is.upd nx iy)},h.EW nx (bf h.no.1 e3 (by simp[kindOf])) (d.hn x e2),h.EF nx (λz=>d.rh (by rw[z];exact e2)),h.nd,h.dd}
 rw[aG (bf h.ho.1 e3 (by simp[kindOf])),h.ho.1];show _=some (HO.dK (((S.holds.map λq:Str×List (Int×Str)=>if q.1=pn then(q.1,q.2++[(b,i)]) else q).map λx:Str×List (Int×Str)=>kS x.1).zip _));rw[zA];have:(S.holds.map λx:Str×List (Int×Str)=>kS x.1)=S.holds.map ((λx:Str×List (Int×Str)=>kS x.1)∘λq:Str×List (Int×Str)=>if q.1=pn then(q.1,q.2++[(b,i)]) else q):=by
  refine xu λq _=>?_;show kS q.1=kS (if q.1=pn then((q.1,q.2++[(b,i)]):Str×List (Int×Str)) else q).1;split <;> rfl
 rw[this]
end
end Sc
namespace L2
open PySem PySem.Spec PyProof.Rows
noncomputable def noStar:Expr->Bool
 | .Starred ..=>false
 | _=>true
def nF (h:noStar e=true):starEach (e::es) env=(false,eval e env)::starEach es env:=by
 cases e <;> first | rfl | (simp[noStar] at h)
def aa (ha:PE X e te) (hr:PA X es t) (hs:noStar e=true<|>qe_):PA X (e::es) (bM te t):=ak ha hr (nF hs)
end L2
namespace Sc
open PySem L2 Lm
def lF (F:Nat->Dt) (Pσ:St->Prop) (hn:n<=sizeLine) (h0:Pσ U₀)
  (turn:∀(i:Nat) (U:St) (H:Hp) (R:St->V->Hp->Prop),i<n->aB H1 H->Pσ U->(∀σ3 y H5,aB H H5->Is H5 (F i) y->Pσ σ3->R σ3 y H5)->g (.int (lo+i)) U H λσ3 H3=>te σ3 H3 λy H5=>R σ3 y H5)
  (fin:∀D vs H,aB H1 H->H1 D=none->H D=some (.lst vs)->aD H ((List.range n).map F) vs->Q (.ref D) H):dF U₀ g uf te Q (K8 lo n) H1:=by
 refine m9 (ws:=List.range n) (enc:=λi=>.int (lo+(i:Nat))) F Pσ (by rw[zQ];exact hn) h0 (λi H hi _=>by rw[zQ] at hi;exact hi) (λH _=>by rw[zQ];exact zk _) ?_ ?_ fin
 ·rintro i x H H2 hi _ ⟨rfl,rfl⟩
  exact{rfl,by rw[List.getElem_range]}
 ·intro i U H R hi s p r
  exact turn i U H R (yQ.mp hi) s p r
def dX {c:Bool} {T:(Bool->Hp->Prop)->Prop} {Z:Bool->Hp->Prop} {H:Hp} (v:Bool) (h1:c=true->∀Z,Z v H->T Z) (h2:c=false->v=false) (hz:Z v H):if c=true then T Z else Z false H:=by
 cases c with
 | true=>rw[yN rfl];exact h1 rfl Z hz
 | false=>rw[yM (by simp)];rw[<-h2 rfl];exact hz
def F8:List (Int×Int)->TA
 | []=>dR
 | p::r=>bM (Ec (bM (tC (.int p.1)) (bM (tC (.int p.2)) dR))) (F8 r)
theorem NL:∀{ps:List (Int×Int)} {H:Hp} {R:List V->Hp->Prop},(∀vs H',aB H H'->aD H' (ps.map dL) vs->R vs H')->F8 ps U H R
 | [],H,R,h=>h [] H (aB.refl _) cF
 | p::r,H,R,h=>by
  let sl:=yB;refine{by show 2<=sizeLine;ext,λq hq=>?_};refine NL λvs H' s' il=>?_;let s1:=bx (o:=HO.tup [.int p.1,.int p.2]) hq;exact h _ _ (s1.trans s') (aR (iE (s' _ _ aF)) il)
def Ud (ps:List (Int×Int)):TE:=λ_ H Q=>∀D vs H',aB H H'->H' D=some (.lst vs)->aD H' (ps.map dL) vs->Q (.ref D) H'
def P5 (hl:⇑ps<=1000) (h:Ud ps U H Q):F9 (F8 ps) U H Q:=by
 let sl:=yB;refine NL λvs H' s' il=>{by have:=aQ il;ext,λD hD=>?_}
 exact h D vs _ (s'.trans (bx hD)) aF (il.mono (bx hD))
def RM:PA X [] (F8 []):=ag
def Ti (h:PA X es (F8 r)):PA X (.Tuple [.Constant (.int a) x1 p1,.Constant (.int b) x2 p2] k pos::es) (F8 ((a,b)::r)):=
 ak (bI (ak af (ak af ag (nF rfl)) (nF rfl))) h (nF rfl)
def RH (h:PA X es (F8 ps)) (hl:⇑ps<=1000<|>qb_):PE X (.List es pos) (Ud ps):=by
 intro pins s U H Q I hq;exact bq h pins s U H Q I (P5 hl hq)
def rD (h:xs[⇑xs-1]?=some x):DV xs (-1)=some x:=by
 let hp:0<⇑xs:=by
  have:=(zw.mp h).1;ext
 let ne:xs≠[]:=yq.mp hp;let e:=xU ne;let e2:xs.getLast ne=x:=by
  have:=(zw.mp h).2;rw[List.getLast_eq_getElem];exact this
 rw[<-e,e2];exact L2.BF _ _
theorem A6:∀l:List Str,aD H (l.map Dt.str) (l.map V.str)
 | []=>cF
 | x::r=>aR eG (A6 r)
def vM (h:Is H (jz b) v):∃a m q,v=.ref a/\H a=some (.tup [m,.int b.key,.ref q])/\Is H (dL b.aP) m/\H q=some (.tup (b.marks.map V.str)):=by
 unfold jz Is at h;let⟨a,vs,rfl,ha,hl⟩:=h;unfold aD at hl;let⟨v1,r1,rfl,h1,hl⟩:=hl;unfold aD at hl;let⟨v2,r2,rfl,h2,hl⟩:=hl;unfold aD at hl;let⟨v3,r3,rfl,h3,hl⟩:=hl;unfold aD at hl;subst hl;unfold Is at h2;subst h2;unfold kz Is at h3;let⟨q,us,rfl,hq,hle⟩:=h3;rw[dw hle] at hq;exact{(a),v1,q,rfl,ha,h1,hq}
noncomputable def lets:Str:="abcdefghijklmnopqrstuvwxyz"
def N7:∀j:Fin 26,lets.cps.toList[j.val]?=some (97+j.val):=by decide
def KJ (h0:0<=i) (h:i<26):DV lets.cps.toList i=some (97+i.toNat):=by
 let⟨j,rfl⟩:=yK h0;exact bj (N7 {(j),()})
def Po:∀j:Fin 36,(lets ++"0123456789").cps.toList[j.val]?=some (sgn.getD j.val 0)/\sgn.getD j.val 0∈sgn:=by decide
def Rv (h0:0<=i) (h:i<36):∃c,c∈sgn/\DV (lets ++"0123456789").cps.toList i=some c:=by
 let⟨j,rfl⟩:=yK h0;have:=Po {(j),()};exact{_,this.2,bj this.1}
noncomputable def Pp (i:Int):Nat:=(DV (lets ++"0123456789").cps.toList i).getD 0
def Ng (h0:0<=i) (h:i<36):DV (lets ++"0123456789").cps.toList i=some (Pp i)/\Pp i∈sgn:=by
 let⟨c,h1,h2⟩:=Rv h0 h;unfold Pp;rw[h2];exact{(rfl),h1}
def KL:∀j:Fin 26,97+j.val∈sgn:=by decide
def N8 {i:Int} (h0:0<=i) (h:i<26):97+i.toNat∈sgn:=KL {(i.toNat),()}
def QN (h1:1<=⇑n) (h2:⇑n<=12) (h3:∀c∈n.cps.toList,c∈sgn):gh n:=by
 unfold gh cH;rw[yM (),yM (),yN (yo.mpr λc hc=>ze (h3 c hc))]
def BV (ns:List Str):Prop:=(∀n∈ns,gh n)/\ns.Nodup
theorem sN:∀{l:List α},l.Nodup->(∀x∈l,∀y∈l,f x=f y->x=y)->(l.map f).Nodup
 | [],_,_=>xZ
 | x::r,h,k=>by
  rw[yc] at h;rw[zh,yc];refine{λz=>?_,sN h.2 λa ha b hb e=>k a (zm _ ha) b (zm _ hb) e};let⟨y,hy,e⟩:=zG.mp z;have:=k y (zm _ hy) x zp e;subst this;exact h.1 hy
def LO (hm:m<=12) (hc:c∈sgn):BV ((List.range m).map λk=>oW {#[c]} (m-k)):=by
 let el:∀k,⇑(oW {#[c]} k)=k:=λk=>by rw[GI];exact Nat.mul_one k
 refine{λn hn=>?_,sN List.nodup_range λx hx y hy e=>?_}
 ·let⟨k,hk,rfl⟩:=zG.mp hn
  have:=yQ.mp hk;refine QN (by rw[el];ext) (by rw[el];ext) λd hd=>?_;rw[qp] at hd;let⟨l,hl,hd⟩:=wd.mp hd;rw[List.mem_replicate] at hl;rw[hl.2] at hd;have:d=c:=by simpa using hd
  rw[this];exact hc
 ·have:=yY Str.length e
  rw[el,el] at this;have:=yQ.mp hx;have:=yQ.mp hy;ext
def Jw {stem:Str} {pl first m:Nat} (hs:⇑stem<=11) (hp:pl<=⇑stem) (hc:∀c∈stem.cps.toList,c∈sgn) (hm:m<=26) :
  BV ((List.range m).map λk=>Txt.slice stem none (some (pl:Int))++{#[97+(first+5*k)%26]}++Txt.slice stem (some (pl:Int)) none):=by
 let sl:⇑stem.cps.toList=⇑stem:=yP;let cp:∀k,(Txt.slice stem none (some (pl:Int))++{#[97+(first+5*k)%26]}++Txt.slice stem (some (pl:Int)) none).cps.toList=stem.cps.toList.take pl++[97+(first+5*k)%26]++stem.cps.toList.drop pl:=λk=>by
  rw[cD,cD,Gm stem hp,oN stem hp]
 refine{λn hn=>?_,sN List.nodup_range λx hx y hy e=>?_}
 ·let⟨k,hk,rfl⟩:=zG.mp hn
  let el:⇑(Txt.slice stem none (some (pl:Int))++{#[97+(first+5*k)%26]}++Txt.slice stem (some (pl:Int)) none)=⇑stem+1:=by
   rw[<-show _=⇑(Txt.slice stem none (some (pl:Int))++{#[97+(first+5*k)%26]}++Txt.slice stem (some (pl:Int)) none) from yP,cp,zg,zg,zP,xy,List.length_singleton];ext
  refine QN () () λd hd=>?_;rw[cp,zF,zF,zy] at hd;rcases hd with(hd | hd) | hd
  ·exact hc d (List.mem_of_mem_take hd)
  ·rw[hd];exact KL {(first+5*k)%26,ve _ ∅}
  ·exact hc d (List.mem_of_mem_drop hd)
 ·let q:(Txt.slice stem none (some (pl:Int))++{#[97+(first+5*x)%26]}++Txt.slice stem (some (pl:Int)) none).cps.toList=(Txt.slice stem none (some (pl:Int))++{#[97+(first+5*y)%26]}++Txt.slice stem (some (pl:Int)) none).cps.toList:=by rw[e]
  rw[cp,cp,zE,zE] at q;let q2:=List.append_cancel_left q;simp at q2;have:=yQ.mp hx;have:=yQ.mp hy;ext
theorem qT:∀zs:List Str,(Str.join "" zs).cps.toList=(zs.map λz:Str=>z.cps.toList).flatten
 | []=>rfl
 | [z]=>by rw[join_one];simp
 | z::y::r=>by
  rw[eR,cD,cD,qT (y::r)];show z.cps.toList++[]++_=_;rw[zU];rfl
noncomputable def mL (c:Int) (n:Nat):List Str:=(List.range n).map λk=>{#[Pp ((c/16224+7*(0+(k:Nat)))%36)]}
theorem HC (f:α->β):∀l:List α,((l.map f).map λx=>[x]).flatten=l.map f
 | []=>rfl
 | x::r=>by rw[zh,zh,z9,HC f r];rfl
def Gb (c:Int) (n:Nat):(Str.join "" (mL c n)).cps.toList=(List.range n).map λk:Nat=>Pp ((c/16224+7*(0+(k:Nat)))%36):=by
 rw[qT];unfold mL;rw[zA];have:=HC (λk:Nat=>Pp ((c/16224+7*(0+(k:Nat)))%36)) (List.range n);rw[zA] at this;exact this
def Na (c:Int) (n:Nat):(Str.join "" (mL c n)).length=n:=by
 rw[<-show _=(Str.join "" (mL c n)).length from yP,Gb,za,zQ]
def M9:∀d∈(Str.join "" (mL c n)).cps.toList,d∈sgn:=λd hd=>by
 rw[Gb] at hd;let⟨k,_,rfl⟩:=zG.mp hd;exact(Ng (zv _ ∅) (zr _ ∅)).2
def M8 (c:Int) (n:Nat):((mL c n).map (λz:Str=>⇑z+("": Str).length)).sum=n:=by
 unfold mL;rw[zA];have:((λz:Str=>⇑z+("": Str).length)∘λk:Nat=>({#[Pp ((c/16224+7*(0+(k:Nat)))%36)]}:Str))=λ_=>1:=rfl;rw[this,List.map_const',List.sum_replicate_nat,zQ,Nat.mul_one]
end Sc
namespace Sc
open PySem L2 Lm
def bC (n:H D=none) (s:aB H H2):aB H (L2.upd H2 D u):=λb v hb=>by
 rw[aG (λz=>by rw[z,n] at hb;cases hb)];exact s b v hb
def FT (its:List Item) (x:Int×Int):Prop:=⇑its<=40/\(∀it∈its,MC it)/\jU its=x/\its.all (λit=>it.1.isNone)=false
def MB (x:Int×Int):Prop:=Lm.Rd x/\0<x.1/\x.1<=32/\x.2<=160
def IW (l:List Item) (it:Item):jU (l++[it])=add (jU l) it.2:=by unfold jU;rw[zX];rfl
def M4 {x:Int×Int} (hx:0<x.2) {W:Int} (hW:0<W) {l:List Item} {t w:Int} {it:Item} (h:jU l=red (x.1*t) (x.2*W)) (e:it.2=red (x.1*w) (x.2*W)):jU (l++[it])=red (x.1*(t+w)) (x.2*W):=by
 let hb:0<x.2*W:=xw hx hW;rw[IW,h,e,Qs hb hb,<-qt hb hb (t:=x.1*(t+w))]
 congr 1
 rw[<-Int.add_mul,<-Int.mul_add,xA]
def M5 {x:Int×Int} (hx:0<x.2) {W:Int} (hW:0<W):jU []=red (x.1*0) (x.2*W):=by
 let hb:0<x.2*W:=xw hx hW;show((0,1):Int×Int)=_;rw[Int.mul_zero];have:=qt (t:=0) (b:=1) (k:=x.2*W) hb ∅;rw[Int.mul_zero,Int.mul_one] at this;rw[this];decide
def Lq (hx:Lm.Rd x) (hW:0<W):red (x.1*W) (x.2*W)=x:=by
 let⟨_,p2,p3⟩:=hx.pos;rw[xA x.1,xA x.2,qt hW p2,p3]
def N5 (h:MB x) (w1:1<=w) (w2:w<=4) (W1:1<=W) (W2:W<=24):O8 (red (x.1*w) (x.2*W)):=by
 let⟨hr,h1,h2,h3⟩:=h;let⟨_,p2,_⟩:=hr.pos;let a1:0<x.1*w:=xw h1 ();let a2:x.1*w<=32*4:=x8 h2 w2 () ∅;let b1:0<x.2*W:=xw p2 ();let b2:x.2*W<=160*24:=x8 h3 W2 () ∅;let⟨g,g1,g2,g3,g4,g5⟩:=kQ (t:=x.1*w) b1;let r1:=AI (t:=x.1*w) (b:=x.2*W) (y6 a1);refine{Lm.Rd.of (y6 a1) b1,?_,(),()};let r0:=AH (t:=x.1*w) (b:=x.2*W) (y6 a1);rcases Int.lt_or_eq_of_le r0 with z | z
 ·exact z
 ·rw[<-z,Int.mul_zero] at g2;ext
noncomputable def rN (m:Int) (n:Nat):List Int:=(List.range n).map λj=>1+m/(7+5*(0+(j:Nat)))%4
def Pa (m:Int) (n:Nat):⇑(rN m n)=n:=by unfold rN;rw[za,zQ]
def IL (h:w∈rN m n):1<=w/\w<=4:=by
 unfold rN at h;let⟨j,_,rfl⟩:=zG.mp h;let a:=zv (m/(7+5*(0+(j:Int)))) (b:=4) ∅;let b:=zr (m/(7+5*(0+(j:Int)))) (b:=4) ∅;ext
theorem M6:∀{l:List Int},(∀w∈l,1<=w/\w<=4)->(⇑l:Int)<=l.sum/\l.sum<=4*⇑l
 | [],_=>by simp
 | w::r,h=>by
  let ih:=M6 (l:=r) λz hz=>h z (zm _ hz);have:=h w zp;rw[wO,zt];ext
def LJ (m:Int):OX (m%41-20,7*(m%41-20)%12+(m/41%14-7)*12):=by
 let a:=zv m (b:=41) ∅;let b:=zr m (b:=41) ∅;let c:=zv (m/41) (b:=14) ∅;let d:=zr (m/41) (b:=14) ∅;unfold OX;dsimp only;ext
def join {c:Bool} {t1 t2:TS} {D:Ends} {U:St} {H:Hp} (P:St->Hp->Prop) (ha:∀N:St->Hp->Prop,(∀U H,P U H->N U H)->c=true->t1 {D with nx:=N} U H)
  (hb:∀N:St->Hp->Prop,(∀U H,P U H->N U H)->c=false->t2 {D with nx:=N} U H) (hN:∀U H,P U H->D.nx U H):if c=true then t1 D U H else t2 D U H:=by
 cases c with
 | true=>rw[yN rfl];exact ha D.nx hN rfl
 | false=>rw[yM (by simp)];exact hb D.nx hN rfl
def RL (R:α->V->Prop):List α->List V->Prop
 | [],vs=>vs=[]
 | x::xs,vs=>∃v r,vs=v::r/\R x v/\RL R xs r
theorem RL.imp {α:Type} {R R':α->V->Prop} (h:∀x v,R x v->R' x v):∀{xs:List α} {vs:List V},RL R xs vs->RL R' xs vs
 | [],_,e=>e
 | _::_,_,⟨v,r,e,h1,h2⟩=>{v,r,e,h _ _ h1,RL.imp h h2}
theorem RL.snoc {α:Type} {R:α->V->Prop} {x:α} {v:V} (h:R x v):∀{xs:List α} {vs:List V},RL R xs vs->RL R (xs++[x]) (vs++[v])
 | [],_,e=>by unfold RL at e;subst e;exact{v,[],rfl,h,rfl}
 | _::_,_,⟨u,r,e,h1,h2⟩=>by subst e;exact{u,r++[v],rfl,h1,RL.snoc h h2}
theorem RL.len:∀{xs:List α} {vs:List V},RL R xs vs->⇑vs=⇑xs
 | [],_,e=>by unfold RL at e;rw[e];rfl
 | _::_,_,⟨u,r,e,_,h2⟩=>by rw[e,zt,zt,RL.len h2]
theorem RL.at:∀{xs:List α} {vs:List V} {i:Nat} {v:V},RL R xs vs->vs[i]?=some v->∃x,xs[i]?=some x/\R x v
 | [],_,_,_,e,h=>by unfold RL at e;subst e;simp at h
 | x::_,_,0,_,⟨u,r,e,h1,_⟩,h=>by subst e;simp at h;subst h;exact{(x),rfl,h1}
 | _::_,_,i+1,_,⟨u,r,e,_,h2⟩,h=>by subst e;simpa using RL.at (i:=i) h2 (by simpa using h)
inductive jy (D:vy) (H:Hp) (x:Str×List (Int×Str)) (v:V):Prop
 | mk (a r:vy) (us:List V) (_:v=.ref a) (_:H a=some (.tup [.str x.1,.ref r])) (_:H r=some (.lst us)) (_:aD H (x.2.map J0) us) (_:r≠D)
theorem jy.mono (s:aB H H') (h:jy D H x v):jy D H' x v:=by
 let⟨a,r,us,h1,h2,h3,h4,h5⟩:=h;exact{a,r,us,h1,s _ _ h2,s _ _ h3,h4.mono s,h5}
theorem jy.upd (hD:H D=some (.lst vs)) (h:jy D H x v):jy D (L2.upd H D o) x v:=by
 let⟨a,r,us,h1,h2,h3,h4,h5⟩:=h;let nt:cP (H D):=by rw[hD];exact λ_ z=>by cases z
 exact{a,r,us,h1,by rw[aG (Sc.bf h2 hD (by simp[kindOf]))];exact h2,by rw[aG h5];exact h3,aD.upd nt h4,h5}
inductive hX (D:vy) (H:Hp) (x:(Int×Str)×List Item) (v:V):Prop
 | mk (a q:vy) (us:List V) (_:v=.ref a) (_:H a=some (.tup [.int x.1.1,.str x.1.2,.ref q])) (_:H q=some (.lst us)) (_:aD H (x.2.map eJ) us) (_:q≠D)
theorem hX.mono (s:aB H H') (h:hX D H x v):hX D H' x v:=by
 let⟨a,r,us,h1,h2,h3,h4,h5⟩:=h;exact{a,r,us,h1,s _ _ h2,s _ _ h3,h4.mono s,h5}
theorem hX.upd (hD:H D=some (.lst vs)) (h:hX D H x v):hX D (L2.upd H D o) x v:=by
 let⟨a,r,us,h1,h2,h3,h4,h5⟩:=h;let nt:cP (H D):=by rw[hD];exact λ_ z=>by cases z
 exact{a,r,us,h1,by rw[aG (Sc.bf h2 hD (by simp[kindOf]))];exact h2,by rw[aG h5];exact h3,aD.upd nt h4,h5}
def K6 (ins:List Str) (many:Int) (row:List (Int×Str)):Prop:=row≠[]/\⇑row<=4/\(row.map (·.1)).Pairwise (·<·)/\∀h∈row,0<=h.1/\h.1<many/\h.2∈ins
noncomputable def dI (S:cg):List Told:=
 S.players.map .bH++(S.aq.map λx=>.cI x.1 x.2.1 x.2.2)++(S.aL.map λx=>.cj x.1 x.2)++S.aO.map .bar++S.aH.toList.map .aH ++
 (S.holds.map λx=>x.2.map λh=>Told.holds x.1 h.1 h.2).flatten++(S.aK.map λx=>.aK x.1.1 x.1.2 x.2)++(S.repeats.map .rep++S.bu.toList.map .bu)
inductive kD (H:Hp) (p:vy) (S:cg):Prop
 | mk (pl il sl bl hl nl rl:vy) (ub jm:V) (iv sv bv hv nv rv:List V) (_:H p=some (.tup [.ref pl,.ref il,.ref sl,.ref bl,ub,.ref hl,.ref nl,.ref rl,jm])) (_:H pl=some (.lst (S.players.map V.str)))
  (_:H il=some (.lst iv)/\aD H (S.aq.map dZ) iv) (_:H sl=some (.lst sv)/\aD H (S.aL.map gw) sv) (_:H bl=some (.lst bv)/\aD H (S.aO.map jz) bv) (_:Is H (dO dL S.aH) ub)
  (_:H hl=some (.lst hv)/\RL (jy hl H) S.holds hv) (_:H nl=some (.lst nv)/\RL (hX nl H) S.aK nv) (_:H rl=some (.lst rv)/\aD H (S.repeats.map ji) rv) (_:Is H (dO jk S.bu) jm)
def kD.at' {H:Hp} {p:vy} {S:cg} (h:kD H p S):kD H p S:=h
theorem kD.mono (s:aB H H') (h:kD H p S):kD H' p S:=by
 let⟨pl,il,sl,bl,hl,nl,rl,ub,jm,iv,sv,bv,hv,nv,rv,h1,h2,h3,h4,h5,h6,h7,h8,h9,ha⟩:=h;exact{pl,il,sl,bl,hl,nl,rl,ub,jm,iv,sv,bv,hv,nv,rv,s _ _ h1,s _ _ h2,{s _ _ h3.1,h3.2.mono s},{s _ _ h4.1,h4.2.mono s},{s _ _ h5.1,h5.2.mono s},h6.mono s,{s _ _ h7.1,h7.2.imp λx v z=>z.mono s},{s _ _ h8.1,h8.2.imp λx v z=>z.mono s},{s _ _ h9.1,h9.2.mono s},ha.mono s}
def bz (h1:-10000<n) (h2:n<10000):⇑(dec n)<=5:=by
 by_cases h:0<=n
 ·have:=HQ h h2;ext
 ·rw[vP (),len_app]
  have:=HQ (n:=-n) () ();have:("-": Str).length=1:=rfl;ext
def bO (h1:-10000<n) (h2:n<10000):n.natAbs.log2<1920:=by
 by_cases z:n.natAbs=0
 ·rw[z];decide
 ·exact yb ((Nat.log2_lt z).mpr (show n.natAbs<2^14 by ext)) ∅
def km (h1:-10000<x.1) (h2:x.1<10000) (h3:-10000<x.2) (h4:x.2<10000):⇑(iD x)<=11:=by
 unfold iD;let a:=bz h1 h2;let b:=bz h3 h4;split
 ·ext
 ·rw[len_app,len_app]
  have:("/": Str).length=1:=rfl;ext
def LX (h:MC it):⇑(pA it)<=30:=by
 let⟨o,x⟩:=it;let⟨⟨hr,h1,h2,h3⟩,hq⟩:=h;let⟨_,p2,_⟩:=hr.pos;dsimp only at h1 h2 h3 p2 hq;let lx:=km (x:=x) () h2 () h3;cases o with
 | none=>
  show("r:" ++ iD x).length<=30;rw[len_app];have:("r:": Str).length=2:=rfl;ext
 | some q=>
  let⟨q1,q2,q3,q4,_⟩:=hq q rfl;let a:=bz (n:=q.1) () ();let b:=bz (n:=q.2) () ();show(dec q.1 ++":" ++ dec q.2 ++":" ++ iD x).length<=30;rw[len_app,len_app,len_app,len_app];have:(":": Str).length=1:=rfl;ext
theorem oH {sep:Str} {k:Nat}:∀{zs:List Str},(∀z∈zs,⇑z<=k)->(zs.map (λz:Str=>⇑z+⇑sep)).sum<=⇑zs*(k+⇑sep)
 | [],_=>by simp
 | z::r,h=>by
  let ih:=oH (sep:=sep) (zs:=r) λy hy=>h y (zm _ hy);have:=h z zp;rw[zh,wO,zt,Nat.succ_mul];ext
theorem join_le (sep:Str):∀zs:List Str,⇑(Str.join sep zs)<=(zs.map (λz:Str=>⇑z+⇑sep)).sum
 | []=>zk _
 | [z]=>by rw[join_one];simp
 | z::y::r=>by
  let ih:=join_le sep (y::r);rw[eR,len_app,len_app,zh,wO];ext
def A5 (h:∀z∈zs,⇑z<=k):⇑(Str.join sep zs)<=⇑zs*(k+⇑sep):=zL (join_le sep zs) (oH h)
def Mz (r:Rep):Prop:=QV (.rep r)/\⇑r.ends<=9/\∀e∈r.ends,⇑e.2<=9
def HI (h:Vt e) (hl:⇑e.2<=9):⇑(oo e)<=60:=by
 let⟨h1,h2,h3,h4⟩:=h;let a:=bz (n:=e.1) () ();let b:(Str.join "," (e.2.map dec)).length<=⇑(e.2.map dec)*(5+(",": Str).length):=A5 λz hz=>by
  let⟨p,hp,rfl⟩:=zG.mp hz;have:=h4 p hp;exact bz () ()
 let l1:(":": Str).length=1:=rfl;let l2:(",": Str).length=1:=rfl;rw[za,l2] at b;unfold oo;rw[len_app,len_app];ext
def Ky (h1:ns.Perm l) (h2:ns.Pairwise (·<=·)):sortI l=ns:=by
 unfold sortI;refine(List.Perm.eq_of_pairwise (le:=λa b:Int=>a<=b) (λa b _ _ x y=>Int.le_antisymm x y) h2 ?_ (h1.trans (List.mergeSort_perm _ _).symm)).symm;have:=List.pairwise_mergeSort (le:=λa b:Int=>decide (a<=b)) (λa b c x y=>by simp at x y ⊢;ext) (λa b=>by simp;ext) l;exact this.imp λh=>yd h
theorem Be:∀{es:List End} {a:Int} {ps:List Int},(es.map (·.1)).Pairwise (·<·)->(∀e∈es,a<e.1)->(∀e∈es,e.2.Pairwise (·<=·))->fU es a ps=some (((es.map (·.1)).getLast?).getD a,ps++(es.map (·.2)).flatten)
 | [],a,ps,_,_,_=>by simp[fU]
 | e::r,a,ps,h1,h2,h3=>by
  rw[zh,y8] at h1;let ih:=Be (es:=r) (a:=e.1) (ps:=ps++e.2) h1.2 (λx hx=>h1.1 _ (zO (f:=λy:End=>y.1) hx)) (λx hx=>h3 x (zm _ hx));show(if e.1<=a then none else if e.2≠sortI e.2 then none else fU r e.1 (ps++e.2))=_;let c1:=h2 e zp;rw[yM (),yM (λz=>z (Ky (List.Perm.refl _) (h3 e zp)).symm),ih,zh,zh,z9,zE]
  congr 2
  cases r with
  | nil=>rfl
  | cons x t=>rw[zh,List.getLast?_cons_cons,List.getLast?_cons];rfl
theorem HB:∀{n:Nat},k<n->((List.range n).map λi=>if i=k then g i++[x] else g i).flatten.Perm (((List.range n).map g).flatten++[x])
 | 0,h=>()
 | n+1,h=>by
  rw[List.range_succ,zj,zj,xb,xb];simp only[zh,ym,z9,List.flatten_nil,zU]
  by_cases e:n=k
  ·rw[yN e,<-zE]
   have:((List.range n).map λi=>if i=k then g i++[x] else g i)=(List.range n).map g:=xu λi hi=>by
    have:=yQ.mp hi;rw[yM ()]
   rw[this]
  ·rw[yM e]
   let ih:=HB (g:=g) (x:=x) (k:=k) (n:=n) ();refine(ih.append_right _).trans ?_;rw[zE,zE];exact List.Perm.append_left _ (List.perm_append_comm)
noncomputable def cM (sp:Nat->Nat):Nat->Nat->List Int
 | 0,_=>[]
 | k+1,i=>if i=sp k then cM sp k i++[(k:Int)+1] else cM sp k i
theorem qH:∀{k:Nat},p∈cM sp k i->∃j,j<k/\p=(j:Int)+1/\i=sp j
 | 0,h=>by cases h
 | k+1,h=>by
  unfold cM at h;split at h
  ·rename_i e
   rcases zF.mp h with h | h
   ·let⟨j,h1,h2⟩:=qH h
    exact{(j),(),h2}
   ·exact{k,(),by simpa using h,e}
  ·let⟨j,h1,h2⟩:=qH h
   exact{(j),(),h2}
theorem AR:∀{k:Nat},(cM sp k i).Pairwise (·<=·)
 | 0=>List.Pairwise.nil
 | k+1=>by
  unfold cM;split
  ·rw[zT]
   refine{AR,by simp,λa ha b hb=>?_};let⟨j,h1,h2,_⟩:=qH ha;have:b=(k:Int)+1:=by simpa using hb
   ext
  ·exact AR
theorem GW (e:i=sp j):∀{k:Nat},j<k->((j:Int)+1)∈cM sp k i
 | 0,h=>()
 | k+1,h=>by
  unfold cM
  by_cases c:j=k
  ·subst c
   rw[yN e];exact zH _ (zy.mpr rfl)
  ·let ih:=GW e (k:=k) ()
   split
   ·exact zI _ ih
   ·exact ih
theorem AQ:∀{k:Nat},⇑(cM sp k i)<=k
 | 0=>zk _
 | k+1=>by
  let ih:=AQ (sp:=sp) (i:=i) (k:=k);unfold cM;split
  ·rw[zg];simp;ext
  ·ext
theorem Du:∀{k:Nat},(∀j,j<k->sp j<n)->((List.range n).map (cM sp k)).flatten.Perm (LF 1 k)
 | 0,_=>by
  have:((List.range n).map (cM sp 0)).flatten=[]:=by
   rw[List.flatten_eq_nil_iff];intro l hl;let⟨i,_,rfl⟩:=zG.mp hl;rfl
  rw[this];exact List.Perm.refl _
 | k+1,h=>by
  let ih:=Du (sp:=sp) (n:=n) (k:=k) λj hj=>h j ();let e:(List.range n).map (cM sp (k+1))=(List.range n).map λi=>if i=sp k then cM sp k i++[(k:Int)+1] else cM sp k i:=xu λi _=>by rw[cM]
  rw[e];refine(HB (h k ())).trans ?_;unfold LF at ih ⊢;rw[List.range_succ,zj];refine(ih.append_right _).trans ?_;rw[List.map_singleton,Int.add_comm]
def Px (k:Nat):(LF 1 k).Pairwise (·<=·):=by
 unfold LF;rw[List.pairwise_map];exact(List.pairwise_lt_range).imp λh=>()
noncomputable def ra (bs:List Int) (sp:Nat->Nat) (t:Nat):List End:=bs.zip ((List.range ⇑bs).map (cM sp t))
theorem FX:∀{a:List α} {b:List β},⇑a=⇑b->(a.zip b).map (·.1)=a
 | [],[],_=>rfl
 | x::xs,y::ys,h=>by rw[yV,zh,FX (by simpa using h)]
 | [],_::_,h=>by simp at h
 | _::_,[],h=>by simp at h
theorem FW:∀{a:List α} {b:List β},⇑a=⇑b->(a.zip b).map (·.2)=b
 | [],[],_=>rfl
 | x::xs,y::ys,h=>by rw[yV,zh,FW (by simpa using h)]
 | [],_::_,h=>by simp at h
 | _::_,[],h=>by simp at h
def ku:(ra bs sp t).map (·.1)=bs:=FX (by simp)
def sT:(ra bs sp t).map (·.2)=(List.range ⇑bs).map (cM sp t):=FW (by simp)
def Ma:⇑(ra bs sp t)=⇑bs:=by
 have:=yY List.length (ku (bs:=bs) (sp:=sp) (t:=t))
 rwa [za] at this
def sU (h:e∈ra bs sp t):e.1∈bs/\∃i,i<⇑bs/\e.2=cM sp t i:=by
 let h1:=zO (f:=λx:End=>x.1) h;let h2:=zO (f:=λx:End=>x.2) h;rw[ku] at h1;rw[sT] at h2;let⟨i,hi,e2⟩:=zG.mp h2;exact{h1,i,yQ.mp hi,e2.symm}
def Lb (first last times:Int) (es:List End):Prop:=fV {(first),last,times,es}=true/\⇑es<=9/\(∀e∈es,first<=e.1/\e.1<=last/\e.2≠[]/\⇑e.2<=9/\∀p∈e.2,0<=p/\p<1000)/\⇑((es.map (·.2)).flatten)<=9/\(es.map (·.1)).Pairwise (·<·)
def L8:Lb first last times []:={rfl,∅,by simp,by simp,by simp}
def JP (t9:t<=9) (ne:bs≠[]) (asc:bs.Pairwise (·<·)) (hin:∀b∈bs,first<=b/\b<=last) (hsp:∀j,j<t->sp j<⇑bs) (hon:∀i,i<⇑bs->∃j,j<t/\sp j=i) (bt:⇑bs<=t):Lb first last t (ra bs sp t):=by
 let pm:=Du (k:=t) hsp;let pl:((List.range ⇑bs).map (cM sp t)).flatten.length=t:=by rw[pm.length_eq];unfold LF;simp
 refine{?_,by rw[Ma];ext,λe he=>?_,by rw[sT,pl];exact t9,by rw[ku];exact asc}
 ·let e1:=Be (es:=ra bs sp t) (a:=first-1) (ps:=[]) (by rw[ku];exact asc) (λe he=>by have:=hin _ (sU he).1;ext) (λe he=>by let⟨_,i,_,e2⟩:=sU he;rw[e2];exact AR)
  let e2:sortI (([]:List Int)++((ra bs sp t).map (·.2)).flatten)=LF 1 t:=by rw[List.nil_append,sT];exact Ky pm.symm (Px t)
  unfold fV;dsimp only;cases q:ra bs sp t with
  | nil=>rfl
  | cons x r=>
   rw[q] at e1 e2;dsimp only;rw[e1];dsimp only;rw[e2,show((t:Int)+1-1).toNat=t by ext,ze rfl,Bool.and_true,xB,<-q,ku];cases q2:bs.getLast? with
   | none=>exact absurd (List.getLast?_eq_none_iff.mp q2) ne
   | some b=>exact(hin b (wR q2)).2
 ·let⟨hb,i,hi,e2⟩:=sU he
  let⟨j,hj,ej⟩:=hon i hi;refine{(hin _ hb).1,(hin _ hb).2,?_,?_,λp hp=>?_}
  ·rw[e2];exact List.ne_nil_of_mem (GW ej.symm hj)
  ·rw[e2];have:=AQ (sp:=sp) (i:=i) (k:=t);ext
  ·rw[e2] at hp
   let⟨j,h1,h2,_⟩:=qH hp;ext
def Pl {n c:Nat} {i:Nat} (hi:i<n):∃j,j<n/\(j+c)%n=i:=by
 refine{(i+(n-c%n))%n,ve _ (),?_};let hc:c%n<n:=ve _ ();rw[Nat.add_mod,Nat.mod_mod,<-Nat.add_mod];let e:i+(n-c%n)+c=i+n+n*(c/n):=by
  have:=Nat.div_add_mod c n;ext
 rw[e,Nat.add_mul_mod_self_left,Nat.add_mod_right,Nat.mod_eq_of_lt hi]
def Lg (Pv:Nat->St->Hp->Prop) (Pe:St->Hp->Prop) (h0:∃m,Pv m U H)
  (turn:∀m U H,Pv m U H->∀N:St->Hp->Prop,(∀U H,Pe U H->N U H)->c U H λb H1=>if b=true then∃N':St->Hp->Prop,(∀U' H',N' U' H'->∃m',m'<m/\Pv m' U' H')/\tb {D with nx:=N',ct:=N',bk:=N} U H1 else N U H1)
  (hd:∀U H,Pe U H->D.nx U H):MZ c tb D U H:={Pv,h0,λm U H p=>turn m U H p D.nx hd}
def qI {c:Bool} {T:(Bool->Hp->Prop)->Prop} {Z:Bool->Hp->Prop} {H:Hp} (v:Bool) (h1:c=false->∀Z,Z v H->T Z) (h2:c=true->v=true) (hz:Z v H):if c=true then Z true H else T Z:=by
 cases c with
 | false=>rw[yM (by simp)];exact h1 rfl Z hz
 | true=>rw[yN rfl];rw[<-h2 rfl];exact hz
def J2 {K:yA} {α:Type} {t1 t2:Bool} {a b:vy} {ws:List α} {e1 e2:α->V} {U₀:St} {g:TG} {te:TE} {Q:VK} {H1:Hp} (F:α->Dt) (Pσ:St->Prop) (hn:⇑ws<=sizeLine) (ha:C7 t1 K H1 a (ws.map e1)) (hb:C7 t2 K H1 b (ws.map e2)) (h0:Pσ U₀)
  (turn:∀(x:α) (U:St) (H:Hp) (p:vy) (R:St->V->Hp->Prop),x∈ws->aB H1 H->H p=some (.tup [e1 x,e2 x])->Pσ U->(∀σ3 y H5,aB H H5->Is H5 (F x) y->Pσ σ3->R σ3 y H5)->g (.ref p) U H λσ3 H3=>te σ3 H3 λy H5=>R σ3 y H5)
  (fin:∀D vs H,aB H1 H->H1 D=none->H D=some (.lst vs)->aD H (ws.map F) vs->Q (.ref D) H):dF U₀ g uf te Q (Uq t1 t2 K a b) H1:=by
 refine{λi m xs U H=>m=⇑ws-i/\i<=⇑ws/\⇑xs=i/\aB H1 H/\aD H ((ws.take i).map F) xs/\Pσ U,{_,rfl,yf _,rfl,aB.refl _,by simp[aD],h0},?_};rintro i m xs U H ⟨rfl,hi,hx,sm,il,pσ⟩;rcases xE i ⇑ws with hlt | hge
 ·let g1:(ws.map e1)[i]?=some (e1 ws[i]):=by rw[zJ,zb hlt];rfl
  let g2:(ws.map e2)[i]?=some (e2 ws[i]):=by rw[zJ,zb hlt];rfl
  refine .inr {{_,_,_,_,sm.QG ha,sm.QG hb,g1,g2},(),?_};rintro x H2 ⟨p,u,v,np,rfl,rfl,hu,hv⟩;let eu:=hu _ (sm.QG ha);let ev:=hv _ (sm.QG hb);rw[g1] at eu;rw[g2] at ev;cases eu;cases ev;let s2:aB H (upd H p (.tup [e1 ws[i],e2 ws[i]])):=bx np;refine turn ws[i] U _ p (λσ3 y H5=>if true=true then∃m',m'<⇑ws-i/\(m'=⇑ws-(i+1)/\i+1<=⇑ws/\⇑(xs++[y])=i+1/\aB H1 H5/\aD H5 ((ws.take (i+1)).map F) (xs++[y])/\Pσ σ3) else False) (yk hlt) (sm.trans s2) aF pσ ?_;rintro σ3 y H5 s5 iy p3;rw[yN rfl];refine{_,(),rfl,hlt,by simp[hx],(sm.trans s2).trans s5,?_,p3};rw[xq,zb hlt,zj];exact cS iy ((il.mono s2).mono s5)
 ·let e:i=⇑ws:=()
  subst e;refine .inl {{_,_,sm.QG ha,sm.QG hb,.inl (by rw[za];exact zk _)},(),λD hD=>?_};let il':aD H (ws.map F) xs:=by rw[zM] at il;exact il
  exact fin D xs _ (sm.trans (bx hD)) (sm.back hD) aF (il'.mono (bx hD))
def Fs (hn:⇑xs<=sizeLine) (hp:aI K H1 p xs) (h0:∃v,U₀=[v])
  (fin:∀(D:vy) (qs:List vy) (H:Hp),aB H1 H->H1 D=none->H D=some (.lst (qs.map V.ref))->qs.Nodup->D∉qs->⇑qs=⇑xs->(∀q∈qs,H1 q=none/\H q=some (.lst []))->Q (.ref D) H):dF U₀ (bY 0) uf (F9 dR) Q (K9 K p) H1:=by
 refine{λi m ys U H=>m=⇑xs-i/\i<=⇑xs/\⇑ys=i/\(∃v,U=[v])/\aB H1 H/\∃qs:List vy,ys=qs.map V.ref/\qs.Nodup/\∀q∈qs,H1 q=none/\H q=some (.lst []),{_,rfl,yf _,rfl,h0,aB.refl _,[],rfl,xZ,by simp},?_};rintro i m ys U H ⟨rfl,hi,hx,⟨v,rfl⟩,sm,qs,rfl,nd,hq⟩;rw[za] at hx;rcases xE i ⇑xs with hlt | hge
 ·refine .inr {Hu (sm.seq hp) hlt,by rw[za];ext,?_}
  rintro x H2 ⟨rfl,_⟩;refine{yf _,λq n=>?_};refine{_,(),rfl,hlt,by rw[zg,za,hx];rfl,{_,rfl},sm.trans (bx n),qs++[q],by rw[zj];rfl,?_,λr hr=>?_}
  ·rw[zR]
   refine{nd,by simp,λa ha b hb e=>?_};have:b=q:=by simpa using hb
   subst this;subst e;rw[(hq a ha).2] at n;cases n
  ·rcases zF.mp hr with z | z
   ·exact{(hq r z).1,bx n _ _ (hq r z).2}
   ·rw[zy.mp z]
    exact{sm.back n,aF}
 ·let e:i=⇑xs:=()
  subst e;refine .inl {{_,sm.seq hp,zk _},by rw[za];ext,λD hD=>?_};exact fin D qs _ (sm.trans (bx hD)) (sm.back hD) aF nd (λz=>by rw[(hq D z).2] at hD;cases hD) hx λq z=>{(hq q z).1,bx hD _ _ (hq q z).2}
theorem sC (f:α->β) (d:α):∀l:List α,(List.range ⇑l).map (λi=>f (l.getD i d))=l.map f
 | []=>rfl
 | x::r=>by
  rw[zt,List.range_succ_eq_map,zh,zA,zh]
  congr 1
  exact sC f d r
theorem C9 (F:α->β->γ) (g:Nat->β) (d:α):∀(l:List α) (k:Nat),(List.range ⇑l).map (λi=>F (l.getD i d) (g (k+i)))=(l.zip ((List.range ⇑l).map λi=>g (k+i))).map λp=>F p.1 p.2
 | [],_=>rfl
 | x::r,k=>by
  rw[zt,List.range_succ_eq_map,zh,zA,zh,zA,yV,zh]
  congr 1
  have:=C9 F g d r (k+1);let e:∀i,k+1+i=k+(i+1):=λi=>()
  simp only[e] at this;exact this
theorem Hh:∀{l:List α} {i j:Nat},l.Nodup->l[i]?=some x->l[j]?=some x->i=j
 | [],_,_,_,h,_=>by simp at h
 | y::r,0,0,_,_,_=>rfl
 | y::r,0,j+1,n,h,k=>by
  simp at h k;subst h;exact absurd (zB k) (yc.mp n).1
 | y::r,i+1,0,n,h,k=>by
  simp at h k;subst k;exact absurd (zB h) (yc.mp n).1
 | y::r,i+1,j+1,n,h,k=>by
  simp at h k;rw[Hh (yc.mp n).2 h k]
def L9 (bs:List Int) (sp:Nat->Nat) (t:Nat):(List.range ⇑bs).map (λi=>mz (bs.getD i 0,cM sp t i))=(ra bs sp t).map mz:=by
 have:=C9 (λb p=>mz (b,p)) (cM sp t) 0 bs 0;simp only[Nat.zero_add] at this;rw[this];rfl
theorem vN (n:Int):∀ns:List Int,E4 (.int n) (ns.map V.int)=decide (n∈ns)
 | []=>rfl
 | m::ns=>by
  let ih:=vN n ns;unfold E4 at ih ⊢;rw[zh,xn,ih]
  by_cases e:n=m
  ·subst e
   simp[JN]
  ·simp[JN,e,Ne.symm (a:=m) (b:=n) (λz=>e z.symm)]
   try ext
def Bv {α:Type} {J:It} {ws:List α} {enc:α->V} {U₀:St} {g:TG} {tc:TT} {te:TE} {Q:VK} {H1:Hp} (f:α->Bool) (F:α->Dt) (Pσ:St->Prop) (hn:⇑ws<=sizeLine) (h0:Pσ U₀)
  (go:∀i H,i<⇑ws->aB H1 H->J.go i H) (stop:∀H,aB H1 H->J.stop ⇑ws H) (yl:∀(i:Nat) x H H2 (hi:i<⇑ws),aB H1 H->J.II i H x H2->H2=H/\x=enc ws[i])
  (turn:∀(a:α) (U:St) (H:Hp) (R:St->V->Hp->Prop) (N:St->Hp->Prop),a∈ws->aB H1 H->Pσ U->(f a=true->∀σ3 y H5,aB H H5->Is H5 (F a) y->Pσ σ3->R σ3 y H5)->(f a=false->∀σ3 H5,aB H H5->Pσ σ3->N σ3 H5)->g (enc a) U H λσ3 H3=>tc σ3 H3 λb H4=>if b=true then te σ3 H4 λy H5=>R σ3 y H5 else N σ3 H4)
  (fin:∀D vs H,aB H1 H->H1 D=none->H D=some (.lst vs)->aD H ((ws.filter f).map F) vs->Q (.ref D) H):dF U₀ g tc te Q J H1:=by
 refine{λi m xs U H=>m=⇑ws-i/\i<=⇑ws/\⇑xs<=i/\aB H1 H/\aD H (((ws.take i).filter f).map F) xs/\Pσ U,{_,rfl,yf _,zk _,aB.refl _,by simp[aD],h0},?_};rintro i m xs U H ⟨rfl,hi,hx,sm,il,pσ⟩;rcases xE i ⇑ws with hlt | hge
 ·refine .inr {go i H hlt sm,(),?_}
  intro x H2 hy;let⟨rfl,rfl⟩:=yl i x H H2 hlt sm hy;let tk:ws.take (i+1)=ws.take i++[ws[i]]:=by rw[xq,zb hlt];rfl
  refine turn ws[i] U H2 _ _ (yk hlt) sm pσ ?_ ?_
  ·intro ff σ3 y H5 s5 iy p3
   refine{_,(),rfl,hlt,by rw[zg];show ⇑xs+1<=i+1;ext,sm.trans s5,?_,p3};rw[tk,yW,zj];have:[ws[i]].filter f=[ws[i]]:=by simp[ff]
   rw[this];exact cS iy (il.mono s5)
  ·intro ff σ3 H5 s5 p3
   refine{_,(),rfl,hlt,(),sm.trans s5,?_,p3};rw[tk,yW,zj];have:[ws[i]].filter f=[]:=by simp[ff]
   rw[this,ym,zU];exact il.mono s5
 ·let e:i=⇑ws:=()
  subst e;refine .inl {stop H sm,(),λD hD=>?_};let il':aD H ((ws.filter f).map F) xs:=by rw[zM] at il;exact il
  exact fin D xs _ (sm.trans (bx hD)) (sm.back hD) aF (il'.mono (bx hD))
noncomputable def fT (f:Int->Bool) (lo:Int) (n:Nat):List Int:=((List.range n).map λi=>lo+(i:Nat)).filter f
def nV (h:x∈fT f lo n):lo<=x/\x<lo+n/\f x=true:=by
 unfold fT at h;rw[wu] at h;let⟨i,hi,rfl⟩:=zG.mp h.1;have:=yQ.mp hi;exact{(()),(),h.2}
def L7:⇑(fT f lo n)<=n:=by
 unfold fT;refine zL (xf _ _) ?_;simp
def HF {f:Int->Bool} {lo x:Int} {n:Nat} (h1:lo<=x) (h2:x<lo+n) (h3:f x=true):x∈fT f lo n:=by
 unfold fT;rw[wu];exact{zG.mpr {(x-lo).toNat,yQ.mpr (),()},h3}
def gx {lo:Int} {n:Nat} {U₀ rest:St} {tc:TT} {Q:VK} {H1:Hp} (f:Int->Bool) (hn:n<=sizeLine) (h0:∃v,U₀=v::rest)
  (turn:∀(i:Int) (H:Hp) (R:Bool->Hp->Prop),lo<=i->i<lo+n->aB H1 H->(∀H',aB H H'->R (f i) H')->tc (some (.int i)::rest) H R)
  (fin:∀D H,aB H1 H->H1 D=none->H D=some (.lst ((fT f lo n).map V.int))->Q (.ref D) H):dF U₀ (bY 0) tc (aY 0) Q (K8 lo n) H1:=by
 refine Bv (ws:=(List.range n).map λi=>lo+(i:Nat)) (enc:=V.int) f Dt.int (λU=>∃v,U=v::rest) (by simp;exact hn) h0 (λi H hi _=>by rw[za,zQ] at hi;exact hi) (λH _=>by rw[za,zQ];exact zk n) ?_ ?_ ?_
 ·rintro i x H H2 hi _ ⟨rfl,rfl⟩
  exact{rfl,by simp}
 ·rintro a U H R N ha s1 ⟨v,rfl⟩ hR hN
  let⟨i,hi,rfl⟩:=zG.mp ha;have:=yQ.mp hi;refine turn (lo+(i:Nat)) H _ () () s1 λH' s'=>?_;cases q:f (lo+(i:Nat)) with
  | true=>exact b7 rfl {_,rfl,hR q _ _ _ s' cG {_,rfl}}
  | false=>exact cq rfl (hN q _ _ s' {_,rfl})
 ·intro D vs H s1 nD hD il
  rw[d4 il] at hD;exact fin D H s1 nD hD
noncomputable def jO (rs:List Rep) (b:Int):Bool:=match dC rs b with
 | none=>true
 | some r=>match (r.ends.filter λe=>decide (e.1<=b)).getLast? with
  | none=>true
  | some e=>decide (r.times∈e.2)
noncomputable def eI (rs:List Rep) (b:Int):Bool:=rs.any λr=>decide (r.first<b)&&decide (b<=r.last)
noncomputable def FV (r:Rep) (b:Int):Bool:=decide (r.first<=b)&&decide (b<=r.last)
theorem Ba:∀{l:List α} {i:Nat} {x:α},l[i]?=some x->p x=true->(∀y∈l.take i,p y=false)->l.find? p=some x
 | [],_,_,h,_,_=>by simp at h
 | y::r,0,x,h,hx,_=>by simp at h;subst h;rw[yR,hx]
 | y::r,i+1,x,h,hx,hn=>by
  rw[yR,hn y (by rw[wW];exact zp)];exact Ba (i:=i) (by simpa using h) hx λz hz=>hn z (by rw[wW];exact zm _ hz)
theorem DL:∀{es:List End},(es.map (·.1)).Pairwise (·<·)->x∈(es.zip ((es.drop 1).map (·.1)++[hi])).map (λp=>(p.1.1,p.2-1,p.1.2))->x.1<=b->b<=x.2.1->∃e,(es.filter λe=>decide (e.1<=b)).getLast?=some e/\e.2=x.2.2
 | [],_,h,_,_=>by simp at h
 | [e],_,h,h1,h2=>by
  simp at h;subst h;exact{e,by simp at h1 ⊢;exact h1,rfl}
 | e::e'::r,asc,h,h1,h2=>by
  rw[zh,y8] at asc;rw[List.drop_one,List.tail_cons,zh,wM,yV,zh,zC] at h;rcases h with h | h
  ·subst h
   dsimp only at h1 h2;let no:(e'::r).filter (λe=>decide (e.1<=b))=[]:=by
    rw[List.filter_eq_nil_iff];intro y hy;let hm:y.1∈(e'::r).map (·.1):=zO (f:=λz:End=>z.1) hy;let a2:=asc.2;rw[zh,y8] at a2;rw[zh,zC] at hm;rcases hm with z | z
    ·simp;ext
    ·have:=a2.1 _ z
     simp;ext
   refine{e,?_,rfl};rw[xG,yN (ze h1),no];rfl
  ·let⟨e2,f1,f2⟩:=DL (es:=e'::r) asc.2 (by rw[List.drop_one,List.tail_cons];exact h) h1 h2
   refine{e2,?_,f2};rw[xG];split
   ·cases q:(e'::r).filter (λe=>decide (e.1<=b)) with
    | nil=>rw[q] at f1;cases f1
    | cons y t=>rw[q] at f1;rw[List.getLast?_cons_cons];exact f1
   ·exact f1
theorem KU:∀{es:List End},(∀e∈es,lo<=e.1/\e.1<hi)->x∈(es.zip ((es.drop 1).map (·.1)++[hi])).map (λp=>(p.1.1,p.2-1,p.1.2))->lo<=x.1/\x.2.1<hi
 | [],_,h=>by simp at h
 | [e],hx,h=>by
  simp at h;subst h;have:=hx e (by simp);exact{this.1,by show hi-1<hi;ext}
 | e::e'::r,hx,h=>by
  rw[List.drop_one,List.tail_cons,zh,wM,yV,zh,zC] at h;rcases h with h | h
  ·subst h
   let a:=hx e (by simp);let c:=hx e' (by simp);exact{a.1,by show e'.1-1<hi;ext}
  ·exact KU (es:=e'::r) (λy hy=>hx y (zm _ hy)) (by rw[List.drop_one,List.tail_cons];exact h)
def Apart (rs:List Rep):Prop:=(∀r∈rs,r.first<=r.last/\(r.ends.map (·.1)).Pairwise (·<·)/\∀e∈r.ends,r.first<=e.1/\e.1<=r.last)/\rs.Pairwise λa b=>a.last<b.first
theorem tq:∀{rs:List Rep} {r r':Rep} {b:Int},(∀r∈rs,r.first<=r.last)->rs.Pairwise (λa b=>a.last<b.first)->r∈rs->r'∈rs->r.first<=b->b<=r.last->r'.first<=b->b<=r'.last->r=r'
 | [],_,_,_,_,_,h,_,_,_,_,_=>by cases h
 | x::l,r,r',b,hf,hp,h,h',h1,h2,h3,h4=>by
  rw[y8] at hp;rcases zC.mp h with e | e <;> rcases zC.mp h' with e' | e'
  ·rw[e,e']
  ·subst e
   have:=hp.1 r' e';ext
  ·subst e'
   have:=hp.1 r e;ext
  ·exact tq (λy hy=>hf y (zm _ hy)) hp.2 e e' h1 h2 h3 h4
def oV {rs:List Rep} {b:Int} {r:Rep} (h:dC rs b=some r):r∈rs/\r.first<=b/\b<=r.last:=by
 unfold dC at h;let h1:=List.mem_of_find?_eq_some h;let h2:=List.find?_some h;simp at h2;exact{(h1),h2}
def KN {rs:List Rep} {b:Int} (ap:Apart rs) (h:jO rs b=true):lC rs b=true:=by
 unfold lC;rw[yo];intro r hr;rw[yo];intro x hx;let⟨a1,a2,a3⟩:=ap.1 r hr
 by_cases c1:x.1<=b
 ·by_cases c2:b<=x.2.1
  ·unfold jh at hx
   let ein:=KU (lo:=r.first) (λe he=>{(a3 e he).1,by have:=(a3 e he).2;ext}) hx;let⟨e,f1,f2⟩:=DL a2 hx c1 c2;unfold jO at h;let hro:dC rs b=some r:=by
    cases q:dC rs b with
    | none=>
     unfold dC at q;have:=xR.mp q r hr;simp at this;ext
    | some r'=>
     let⟨g1,g2,g3⟩:=oV q;rw[tq (λy hy=>(ap.1 y hy).1) ap.2 g1 hr g2 g3 () ()]
   rw[hro] at h;dsimp only at h;rw[f1] at h;dsimp only at h;rw[f2] at h;rw[h];simp
  ·rw[zd c2];simp
 ·rw[zd c1];simp
def tW {rs:List Rep} {b:Int} (h:eI rs b=false):dU rs b=true:=by
 unfold dU;cases q:dC rs b with
 | none=>rfl
 | some r=>
  let⟨g1,g2,g3⟩:=oV q;dsimp only;unfold eI at h;rw[vj] at h;have:=h r g1;simp at this;exact ze ()
def N9 {rs:List Rep} {b:Int} (ap:Apart rs) (h:(∃r∈rs,r.last=b)\/(rs.any λr=>FV r b)=false):gO rs b=true:=by
 unfold gO;cases q:dC rs b with
 | none=>rfl
 | some r=>
  let⟨g1,g2,g3⟩:=oV q;dsimp only;rcases h with⟨r',hr',e⟩ | h
  ·have:=tq (b:=b) (λy hy=>(ap.1 y hy).1) ap.2 g1 hr' g2 g3 (by have:=(ap.1 r' hr').1;ext) ()
   rw[this,e];exact ze rfl
  ·rw[vj] at h
   have:=h r g1;unfold FV at this;simp at this;ext
def OZ (many:Int) (rs:List Rep) (j:Jump):Prop:=gQ rs j=true/\(0<=j.rM/\j.rM<many)/\(0<=j.tU/\j.tU<many)/\(0<=j.cN/\j.cN<many)/\∀c,j.eK=some c->0<=c/\c<many
def R4 {many:Int} {rs:List Rep} (ap:Apart rs) {a t u:Int} {c:Option Int} (ha:0<=a) (ha2:a<many) (hl:(∃r∈rs,r.last=a)\/(rs.any λr=>FV r a)=false) (ht:0<=t) (ht2:t<=a) (hti:eI rs t=false)
  (hu:t<=u) (hu2:u<=a) (hul:jO rs u=true) (hc:∀x,c=some x->a<x/\x<many/\eI rs x=false/\jO rs x=true):OZ many rs {(a),t,u,c}:=by
 refine{?_,{(ha),ha2},{ht,by show t<many;ext},{by show 0<=u;ext,by show u<many;ext},λx hx=>?_}
 ·unfold gQ
  dsimp only;rw[yM (),yM (),N9 ap hl,tW hti,KN ap hul];cases c with
  | none=>rfl
  | some x=>
   let⟨h1,h2,h3,h4⟩:=hc x rfl;dsimp only;rw[ze h1,tW h3,KN ap h4];rfl
 ·let⟨h1,h2,_⟩:=hc x hx
  exact{(()),h2}
def JD (t1:0<t) (t2:t<=32) (b1:0<b) (b2:b<=160):MB (red t b):=by
 let⟨g,g1,g2,g3,g4,g5⟩:=kQ (t:=t) b1;let r1:=AI (t:=t) (b:=b) (y6 t1);let r0:=AH (t:=t) (b:=b) (y6 t1);refine{Lm.Rd.of (y6 t1) b1,?_,(),()};rcases Int.lt_or_eq_of_le r0 with z | z
 ·exact z
 ·rw[<-z,Int.mul_zero] at g2;ext
inductive LU:List Expr->List (Int×Int)->Prop
 | n:LU [] []
 | c {a b:Int} {x y u v m k r ps} (h:LU r ps):LU (.Tuple [.Constant (.int a) x y,.Constant (.int b) u v] m k::r) ((a,b)::ps)
def RN {X:Cx} {es:List Expr} {ps:List (Int×Int)} (h:LU es ps):PA X es (F8 ps):=by
 induction h with
 | n=>exact RM
 | c _ q=>exact Ti q
def RJ {X:Cx} {es:List Expr} {p1 pos:Pos} {b:Expr} {tb:TE} (ps:List (Int×Int)) (hb:PE X b tb) (hs:rK b) (h:LU es ps<|>qh_) (hl:⇑ps<=1000<|>qb_):PE X (.Subscript (.List es p1) b pos) (eO (ND X.K) (Ud ps) tb):=AO KO (RH (RN h) hl) hb hs
@[irreducible] def QX (X:Cx) (s:Stmt) (t:TS):Prop:=PS X s t
@[irreducible] def Uo (X:Cx) (e:Expr) (t:TE):Prop:=PE X e t
def U7 {X:Cx} {x:Str} {e:Expr} {te:TE} {pos pos':Pos} (i:Nat) (hN:X.N.Nodup) (he:Uo X e te) (hi:X.N[i]?=some x<|>qe_) (hx:Loc X.env.scope x<|>qi_) (hs:swapsWith e (some (.Name x pos')) pos.line X.env=pure false<|>qe_) (hf:X.fn x=true\/X.env.scope.names.lookup x=some .local<|>qa_) :
  QX X (.Assign [.Name x pos'] e pos) (Ga te (bY i)):=by
 unfold QX;unfold Uo at he;exact NI hN hi hx he hs hf
def PN {X:Cx} {es:List Expr} {p1 pos:Pos} {b:Expr} {tb:TE} (ps:List (Int×Int)) (hb:PE X b tb) (hs:rK b) (h:LU es ps<|>qh_) (hl:⇑ps<=1000<|>qb_):Uo X (.Subscript (.List es p1) b pos) (eO (ND X.K) (Ud ps) tb):=by
 unfold Uo;exact RJ ps hb hs h hl
@[irreducible] def Kh (X:Cx) (s:List Stmt) (t:TS):Prop:=DX X s t
def zS {X:Cx} {s:Stmt} {t:TS} (h:PS X s t):QX X s t:=by unfold QX;exact h
def zo {X:Cx} {s:Stmt} {t:TS} (h:QX X s t):Kh X [s] t:=by unfold Kh;unfold QX at h;exact ao h
def zc {X:Cx} {s:Stmt} {r:List Stmt} {t u:TS} (h:QX X s t) (h2:Kh X r u):Kh X (s::r) (Rc t u):=by unfold Kh at h2 ⊢;unfold QX at h;exact ah h h2
def zf {X:Cx} {s:List Stmt} {t:TS} (h:Kh X s t):DX X s t:=by unfold Kh at h;exact h
inductive U4 (x y:V) (H:Hp) (Q:VK):Prop
 | mk (a b p q:vy) (m n:Int×Int) (k l:Int) (_:x=.ref a) (_:y=.ref b) (_:H a=some (.tup [.ref p,.int k])) (_:H b=some (.tup [.ref q,.int l])) (_:H p=some (jx m)) (_:H q=some (jx n)) (_:Q (.bl (decide (m=n)&&decide (k=l))) H)
def RP {X:Cx} (hu:X.A.units+64<cLine):mG X (compareOp .Eq) U4:=by
 intro pins s U H x y v u Q I rx ry h;let⟨a,b,p,q,m,n,k,l,rfl,rfl,ha,hb,hp,hq,qq⟩:=h;cases rx;cases ry;let⟨its,r,pa,_⟩:=I.tuple (cu.of ha);let⟨jts,r',pb,_⟩:=I.tuple (cu.of hb);cases r with | cons r1 r=>
 cases r with | cons r2 r=>
 cases r with | nil=>
 cases r' with | cons r1' r'=>
 cases r' with | cons r2' r'=>
 cases r' with | nil=>
 cases r1;cases r1';let⟨t,rfl⟩:=r2;let⟨t',rfl⟩:=r2';let e0:SeqAt.EqAt X.A.in1 s (.ref p) (.ref q) (decide (m=n)):=by
  by_cases e:p=q
  ·subst e
   rw[hp] at hq;let em:m=n:=by
    let z:=yj hq;unfold jx at z;injection z with z;injection z with z1 z2;injection z2 with z2 _;exact Prod.ext (V.int.inj z1) (V.int.inj z2)
   rw[ze em];exact SeqAt.EqAt.same _
  ·let⟨us,ru,pp,_⟩:=I.tuple (cu.of hp)
   let⟨ws,rw',pq,_⟩:=I.tuple (cu.of hq);let l1:=⇑ru;let l2:=⇑rw';let z:=SeqAt.RcAt.tuples (A:=X.A.in1) (s:=s) pp pq (by show X.A.units+1<cLine;ext) (Bc ru rw' (.inr (.inr {(rfl),rfl})));rw[ya,ya,<-l1,<-l2] at z;rw[show min ⇑[V.int m.1,V.int m.2] ⇑[V.int n.1,V.int n.2]=⇑[V.int m.1,V.int m.2] from rfl,all_eq (xs:=[V.int m.1,V.int m.2]) (ys:=[V.int n.1,V.int n.2]) rfl,show(⇑[V.int m.1,V.int m.2] == ⇑[V.int n.1,V.int n.2])=true from rfl,Bool.and_true] at z;let em:decide ([V.int m.1,V.int m.2]=[V.int n.1,V.int n.2])=decide (m=n):=by
    rw[xJ,xB,xB];constructor
    ·intro w
     injection w with w1 w2;injection w2 with w2 _;exact Prod.ext (V.int.inj w1) (V.int.inj w2)
    ·intro w;rw[w]
   rw[em] at z;exact SeqAt.EqAt.of_refs e z
 let e1:SeqAt.EqAt X.A.in1 s (.int k t) (.int l t') (decide (k=l)):=by
  let z:=SeqAt.EqAt.int_int (A:=X.A.in1) (s:=s) k t l t';rw[show(k == l)=decide (k=l) from by rw[xJ];simp] at z;exact z
 let z:=SeqAt.RcAt.tuples (A:=X.A) (s:=s) (e:=λj=>if j=0 then decide (m=n) else decide (k=l)) pa pb () (λj h1 h2=>by
  match j,h1,h2 with
  | 0,_,_=>exact e0
  | 1,_,_=>exact e1)
 exact z _ _ _ _ {.bl _,H,I,rfl,by simpa[List.range_succ] using qq}
def NM (m n:Int×Int):decide ([V.int m.1,V.int m.2]=[V.int n.1,V.int n.2])=decide (m=n):=by
 rw[xJ,xB,xB];constructor
 ·intro w
  injection w with w1 w2;injection w2 with w2 _;exact Prod.ext (V.int.inj w1) (V.int.inj w2)
 ·intro w;rw[w]
def R8 (m n:Int):decide (V.int m=V.int n)=decide (m=n):=by
 rw[xJ,xB,xB];exact{V.int.inj,λw=>by rw[w]}
def gq {K:yA} {a:vy} {xs:List V} {g:TG} {tb:TS} {D:Ends} {U:St} {H:Hp} (Pv:Nat->St->Hp->Prop) (h0:Pv 0 U H) (hl:∀i U H,i<=⇑xs->Pv i U H->aI K H a xs)
  (hs:∀(N:Ends) (i:Nat) (x:V) (U:St) (H:Hp),(∀U' H',Pv (i+1) U' H'->N.nx U' H')->xs[i]?=some x->Pv i U H->g x U H λσ2 H2=>tb N σ2 H2) (hd:∀U H,Pv ⇑xs U H->D.nx U H) :
  ∃W:Nat->Nat->St->Hp->Prop,(∃m,W 0 m U H)/\∀i m U H,W i m U H->
   (((K9 K a).stop i H/\D.nx U H)\/((K9 K a).go i H/\∃N:St->Hp->Prop,(∀U' H',N U' H'->∃m',m'<m/\W (i+1) m' U' H')/\∀x H',(K9 K a).II i H x H'->g x U H' λσ2 H2=>tb {D with nx:=N,ct:=N,bk:=D.nx} σ2 H2)):=fi Pv h0 hl (λi x U H hx p=>hs _ i x U H (λ_ _ z=>z) hx p) hd
def JK {lo:Int} {n:Nat} {g:TG} {tb:TS} {D:Ends} {U:St} {H:Hp} (Pv:Nat->St->Hp->Prop) (h0:Pv 0 U H)
  (hs:∀(N:Ends) (i:Nat) (U:St) (H:Hp),(∀U' H',Pv (i+1) U' H'->N.nx U' H')->i<n->Pv i U H->g (.int (lo+i)) U H λσ2 H2=>tb N σ2 H2) (hd:∀U H,Pv n U H->D.nx U H) :
  ∃W:Nat->Nat->St->Hp->Prop,(∃m,W 0 m U H)/\∀i m U H,W i m U H->
   (((K8 lo n).stop i H/\D.nx U H)\/((K8 lo n).go i H/\∃N:St->Hp->Prop,(∀U' H',N U' H'->∃m',m'<m/\W (i+1) m' U' H')/\∀x H',(K8 lo n).II i H x H'->g x U H' λσ2 H2=>tb {D with nx:=N,ct:=N,bk:=D.nx} σ2 H2)):=gn Pv h0 (λi U H hi p=>hs _ i U H (λ_ _ z=>z) hi p) hd
def Ot {K:yA} {a:vy} {xs:List V} {g:TG} {tb:TS} {D:Ends} {U:St} {H:Hp} (Pv:Nat->St->Hp->Prop) (h0:Pv 0 U H) (hl:∀i U H,i<=⇑xs->Pv i U H->cu K H a xs)
  (hs:∀(N:Ends) (i:Nat) (x:V) (U:St) (H:Hp),(∀U' H',Pv (i+1) U' H'->N.nx U' H')->xs[i]?=some x->Pv i U H->g x U H λσ2 H2=>tb N σ2 H2) (hd:∀U H,Pv ⇑xs U H->D.nx U H) :
  ∃W:Nat->Nat->St->Hp->Prop,(∃m,W 0 m U H)/\∀i m U H,W i m U H->
   (((O0 K a).stop i H/\D.nx U H)\/((O0 K a).go i H/\∃N:St->Hp->Prop,(∀U' H',N U' H'->∃m',m'<m/\W (i+1) m' U' H')/\∀x H',(O0 K a).II i H x H'->g x U H' λσ2 H2=>tb {D with nx:=N,ct:=N,bk:=D.nx} σ2 H2)):=E7 Pv h0 hl (λi x U H hx p=>hs _ i x U H (λ_ _ z=>z) hx p) hd
def vT (L:List Int) (kvs:List (Key×V)):Prop:=∀k:Int,(dn kvs (.inl k)).getD (.bl false)=.bl (decide (k∈L))
def vT.nil:vT [] []:=λ_=>by rw[MQ];rfl
def vT.put {L:List Int} {kvs:List (Key×V)} (h:vT L kvs) (m:Int) (b:Bool):vT (if b=true then L++[m] else L) (putK kvs (.inl m) (.bl (decide (m∈L)||b))):=λk=>by
 rw[vX];split
 ·rename_i e
  let e2:k=m:=Key.inl.inj e;rw[e2];cases b <;> simp
 ·rename_i ne
  rw[h k];let e2:k≠m:=λz=>ne (by rw[z]);cases b <;> simp[e2]
def vT.yes {L:List Int} {kvs:List (Key×V)} (h:vT L kvs) (m:Int):vT (L++[m]) (putK kvs (.inl m) (.bl true)):=by
 let z:=h.put m true;rw[Bool.or_true] at z;exact z
theorem vT.bA {L:List Int} {kvs:List (Key×V)} (h:vT L kvs) (v:V):vT L (putK kvs .bA v):=λk=>by
 rw[vX,yM (λz=>by cases z)];exact h k
def intsOf (ks:List Key):List Int:=ks.filterMap λk=>match k with | .inl i=>some i | _=>none
def vT.key {L:List Int} {kvs:List (Key×V)} (h:vT L kvs) (k:Key):vT (L++intsOf [k]) (putK kvs k (.bl true)):=by
 cases k with
 | inl m=>exact h.yes m
 | inr x=>
  let e:L++intsOf [Key.inr x]=L:=zU L;rw[e];intro k;rw[vX,yM (λz=>by cases z)];exact h k
 | bA=>
  let e:L++intsOf [Key.bA]=L:=zU L;rw[e];exact h.bA _
def JG (a b:List Key):intsOf (a++b)=intsOf a++intsOf b:=List.filterMap_append
def VP {c:Bool} {T1 T2:VK->Prop} {Z:VK} {H:Hp} (v:V) (h1:c=true->∀Z:VK,(∀H',aB H H'->Z v H')->T1 Z) (h2:c=false->∀Z:VK,(∀H',aB H H'->Z v H')->T2 Z) (hz:∀H',aB H H'->Z v H'):if c=true then T1 Z else T2 Z:=by
 cases c with
 | true=>exact h1 rfl Z hz
 | false=>exact h2 rfl Z hz
def vS (l:List Int):(l.map V.int).all PL=true:=by rw[wa];exact yo.mpr λ_ _=>rfl
end Sc
namespace K22
open PySem L2 Lm Sc
def top (i:Nat):Stmt:=PySem.Challenge.pw_partsmith_k28_breaks.main.body.getD i (.Pass {0,0,0,0})
abbrev Cn:=top 7
abbrev Cj:=top 8
abbrev sg:=top 11
abbrev Cp:=top 12
abbrev Pu:=top 13
abbrev Lx:=top 14
abbrev oB:=top 15
abbrev Ex:=top 21
abbrev oP:=top 22
abbrev Gu:=top 23
abbrev Jc:=top 33
abbrev Ji:=top 34
abbrev Gr:=top 35
abbrev Ew:=top 36
abbrev Cg:=top 37
abbrev Gq:=top 38
abbrev Gp:=top 39
abbrev Ez:=top 40
abbrev Jd:=top 41
abbrev Je:=top 42
abbrev Cm:=top 43
abbrev pZ:=top 44
abbrev Et:=top 45
abbrev Jf:=top 46
abbrev Ci:=top 47
abbrev Gv:=top 48
abbrev Ey:=top 49
abbrev Ck:=top 50
abbrev Gs:=top 51
abbrev uy:=top 53
abbrev oO:=top 54
abbrev Ly:=top 55
abbrev Jh:=top 56
abbrev Ce:=top 57
abbrev Ao:=top 58
abbrev Gw:=top 59
abbrev Gx:=top 60
abbrev Au:=top 61
abbrev Gz:=top 62
abbrev Gy:=top 63
abbrev Ar:=top 72
abbrev Cc:=top 73
abbrev As:=top 74
abbrev Jg:=top 75
abbrev Aq:=top 76
abbrev oQ:=top 77
abbrev Cd:=top 78
abbrev GB:=top 79
abbrev An:=top 80
abbrev EB:=top 81
abbrev Co:=top 82
abbrev Ap:=top 83
abbrev EA:=top 84
abbrev oR:=top 86
abbrev Jj:=top 87
abbrev Lz:=top 88
abbrev Eu:=top 89
abbrev Av:=top 91
abbrev GA:=top 93
abbrev mm:=top 94
abbrev og:=top 95
abbrev Ni:=top 96
abbrev Az:=top 98
abbrev ED:=top 99
abbrev uC:=top 100
abbrev Cq:=top 101
abbrev uA:=top 102
abbrev uD:=top 103
abbrev AA:=top 104
abbrev sj:=top 105
abbrev uE:=top 106
abbrev uB:=top 107
abbrev Ay:=top 108
abbrev qh:=top 109
abbrev Aw:=top 110
abbrev EE:=top 111
abbrev Ax:=top 112
abbrev mn:=top 113
abbrev si:=top 114
abbrev uz:=top 115
abbrev oU:=top 116
abbrev sk:=top 117
abbrev oS:=top 118
abbrev so:=top 119
abbrev qg:=top 120
abbrev qd:=top 121
abbrev EC:=top 122
abbrev Cr:=top 123
abbrev S8:=top 124
abbrev qi:=inClass (top 71) 0
structure Df (K:yA) (mg:Str->Option vo) (x:Str) (st:Stmt) (a:vy) (d:vx) (ps:List Str):Prop where
 F:O2 K x x st a d
 g:mg x=some (.ref a)
 b:Binds K d ps []
structure VF (K:yA) (x y:Str) (st:Stmt) (a:vy) (d:vx) (ps:List Str):Prop where
 F:O2 K x y st a d
 b:Binds K d ps []
set_option genInjectivity false in
set_option genSizeOf false in
structure Txt (K:yA) (mg:Str->Option vo) where
 (C3 C2 tw C4 Qu Mt j9 FH pH Iw Ka Kf Iv FG C1 Iu Ir FI Kb Kc gI d5 iH lI gG jS iI gH jR vB BI Mu Ke C0 BH Iy Iz BL IB IA BJ CZ BK Kd gd dQ gF jT gb iM gJ gc iK BM Kg Mv FF BN IC mB ou OV BR FK vF C5 vD vG BS tE vH vE BQ rH BO FL BP mC tD vC pJ tF pI tG rG rF FJ C6 TR lJ lH jn dS iS qA:vy)
 (CN CK sV CP Qn Md j6 Fg pB HY JQ JY HW Ff CI HV HU Fi JS JT CM rg Fd JU CJ HZ Fh CL HX uU JR Mg JX CH Bi Ia Ib Bo Ie Ic Bl CF Bm JV Bk pC CG Ih Bh Fl CO Bj Fj JW JZ Mh Fe Bp Ig mr oq OJ Bt Fn uY CQ uW uZ Bu sX u7 uX Bs rA Bq Fo Br mw sW uV pF sY pE sZ rk rj Fm CS OI rB:vx)
 (Ln rQ B0 Aa B1 ud DZ Ad rP Ae ue Af D1 Ac oG F7 Eb Ea Ab:Tok)
 dr:Df K mg "read_number" Cn C3 CN ["text","most"]
 fA:Df K mg "read_signed" Cj C2 CK ["text","most"]
 fX:Df K mg "common_divisor" sg tw sV ["one","other"]
 eE:Df K mg "made_length" Cp C4 CP ["top","bottom"]
 added:Df K mg "added" Pu Qu Qn ["one","other"]
 Es:Df K mg "shorter" Lx Mt Md ["one","other"]
 eB:Df K mg "read_length" oB j9 j6 ["text"]
 iY:Df K mg "read_pitch" Ex FH Fg ["fifths_text","steps_text"]
 dH:Df K mg "read_item_length" oP pH pB ["text"]
 sA:Df K mg "read_item" Gu Iw HY ["text"]
 words_of:Df K mg "words_of" Jc Ka JQ ["row"]
 dj:Df K mg "all_read" Ji Kf JY ["values"]
 eP:Df K mg "read_name" Gr Iv HW ["word"]
 cQ:Df K mg "read_plain" Ew FG Ff ["word"]
 jC:Df K mg "read_within" Cg C1 CI ["word","lowest","highest"]
 su:Df K mg "read_time" Gq Iu HV ["word"]
 sr:Df K mg "read_turn" Gp Ir HU ["fifths_word","steps_word"]
 oY:Df K mg "read_metre" Ez FI Fi ["word"]
 AK:Df K mg "read_key" Jd Kb JS ["word"]
 AL:Df K mg "read_end" Je Kc JT ["word"]
 jF:Df K mg "read_player" Cm gI CM ["words"]
 fm:Df K mg "read_instrument" pZ d5 rg ["words"]
 kR:Df K mg "read_staff" Et iH Fd ["words"]
 qz:Df K mg "read_bar" Jf lI JU ["words"]
 jD:Df K mg "read_upbeat" Ci gG CJ ["words"]
 nJ:Df K mg "read_hold" Gv jS HZ ["words"]
 kT:Df K mg "read_notes" Ey iI Fh ["words"]
 jE:Df K mg "read_repeat" Ck gH CL ["words"]
 nI:Df K mg "read_jump" Gs jR HX ["words"]
 jZ:Df K mg "is_score_word" uy vB uU ["word"]
 AJ:Df K mg "read_row" oO BI JR ["words"]
 E8:Df K mg "ends_of" Ly Mu Mg ["repeat"]
 Bd:Df K mg "ends_fit" Jh Ke JX ["repeat"]
 mS:Df K mg "repeat_fits" Ce C0 CH ["repeats","repeat"]
 ig:Df K mg "repeat_round" Ao BH Bi ["repeats","bar"]
 sM:Df K mg "may_leave" Gw Iy Ia ["repeats","bar"]
 nO:Df K mg "may_enter" Gx Iz Ib ["repeats","bar"]
 iF:Df K mg "in_last_pass" Au BL Bo ["repeats","bar"]
 tf:Df K mg "coda_fits" Gz IB Ie ["repeats","at","coda"]
 sQ:Df K mg "jump_fits" Gy IA Ic ["repeats","jump"]
 iC:Df K mg "metre_length" Ar BJ Bl ["score","bar"]
 gK:Df K mg "told_length" Cc CZ CF ["score","bar"]
 lB:Df K mg "items_length" As BK Bm ["items"]
 kr:Df K mg "has_bars" Jg Kd JV ["score","bars"]
 iA:Df K mg "player_fault" Aq gd Bk ["score","player"]
 eT:Df K mg "instrument_fault" oQ dQ pC ["score","told"]
 gL:Df K mg "staff_fault" Cd gF CG ["score","told"]
 nX:Df K mg "bar_fault" GB jT Ih ["score","told"]
 fH:Df K mg "upbeat_fault" An gb Bh ["score","length"]
 lD:Df K mg "hold_fault" EB iM Fl ["score","told"]
 jJ:Df K mg "notes_fault" Co gJ CO ["score","told"]
 ik:Df K mg "repeat_fault" Ap gc Bj ["score","repeat"]
 lz:Df K mg "jump_fault" EA iK Fj ["score","jump"]
 Bb:Df K mg "fault_of" oR BM JW ["score","sort","told"]
 BG:Df K mg "add_hold" Jj Kg JZ ["score","told"]
 FE:Df K mg "add_row" Lz Mv Mh ["score","sort","told"]
 oX:Df K mg "read_score" Eu FF Fe ["text"]
 lG:Df K mg "check_player" Av BN Bp ["score","player"]
 tm:Df K mg "bar_tells" GA IC Ig ["score","bar"]
 eY:Df K mg "bars_told_by_repeat" mm mB mr ["repeat"]
 fZ:Df K mg "bars_told_by_jump" og ou oq ["jump"]
 breaks:Df K mg "breaks" Ni OV OJ ["score","player"]
 bX:Df K mg "_law_cell_at" Az BR Bt ["_law_script","_law_k"]
 cm:Df K mg "_law_mixed" ED FK Fn ["_law_cell","_law_k"]
 dY:Df K mg "_law_names_by" uC vF uY ["_law_cell","_law_many"]
 fE:Df K mg "_law_lowest" Cq C5 CQ ["_law_top","_law_bottom"]
 kb:Df K mg "_law_pitch_by" uA vD uW ["_law_m"]
 ke:Df K mg "_law_items_by" uD vG uZ ["_law_m","_law_length"]
 lM:Df K mg "_law_bars_by" AA BS Bu ["_law_cell","_law_many"]
 eM:Df K mg "_law_length_of" sj tE sX ["_law_bars","_law_upbeat","_law_bar"]
 kf:Df K mg "_law_holds_by" uE vH u7 ["_law_cell","_law_players","_law_instruments","_law_many"]
 kc:Df K mg "_law_notes_by" uB vE uX ["_law_cell","_law_players","_law_bars","_law_upbeat"]
 lL:Df K mg "_law_ends_by" Ay BQ Bs ["_law_m","_law_first","_law_last","_law_times"]
 hV:Df K mg "_law_repeats_by" qh rH rA ["_law_cell","_law_many"]
 iO:Df K mg "_law_lasting" Aw BO Bq ["_law_repeats","_law_bar"]
 lK:Df K mg "_law_inner" EE FL Fo ["_law_repeats","_law_bar"]
 iP:Df K mg "_law_jump_by" Ax BP Br ["_law_cell","_law_many","_law_repeats"]
 eZ:Df K mg "_law_instruments_by" mn mC mw ["_law_cell"]
 jr:Df K mg "_law_staffs_by" si tD sW ["_law_cell","_law_players"]
 ka:Df K mg "_law_score_by" uz vC uV ["_law_script","_law_most"]
 dh:Df K mg "_law_length_text" oU pJ pF ["_law_length"]
 jt:Df K mg "_law_item_text" sk tF sY ["_law_item"]
 gz:Df K mg "_law_repeat_text" oS pI pE ["_law_repeat"]
 jw:Df K mg "_law_form_rows" so tG sZ ["_law_s"]
 g9:Df K mg "_law_score_rows" qg rG rk ["_law_s"]
 gZ:Df K mg "_law_score_text" qd rF rj ["_law_s"]
 pK:Df K mg "_law_whole" EC FJ Fm ["_law_found"]
 nu:Df K mg "_law_breaks" Cr C6 CS ["_law_s","_law_player"]
 U9:Df K mg "law" S8 TR OI ["_law_script"]
 Pc:mg "Score"= some (.ref lH)
 Qw:Mk K lH lJ
 BU:VF K "__init__" "Score.__init__" qi lJ rB ["self"]
 Mo:mg "FIGURES"= some (.str "0123456789" Ln)
 kC:mg "LENGTH_FIGURES"= some (.int (4) rQ)
 CV:mg "HIGHEST_KEY"= some (.int (7) B0)
 Bz:mg "OCTAVE_STEPS"= some (.int (12) Aa)
 CW:mg "FIFTH_STEPS"= some (.int (7) B1)
 mi:mg "PITCH_FIGURES"= some (.int (2) ud)
 Fu:mg "NAME_SIGNS"= some (.str "abcdefghijklmnopqrstuvwxyz0123456789" DZ)
 BC:mg "LONGEST_NAME"= some (.int (12) Ad)
 kB:mg "NUMBER_FIGURES"= some (.int (3) rP)
 BD:mg "HIGHEST_TURN"= some (.int (12) Ae)
 vA:mg "HIGHEST_METRE"= some (.int (32) ue)
 u9:mg "METRE_BOTTOMS"= some (.ref dS)
 md:∀H,cu K H dS [.int 1,.int 2,.int 4,.int 8,.int 16,.int 32]
 BE:mg "FEWEST_TIMES"= some (.int (2) Af)
 Fv:mg "MOST_TIMES"= some (.int (9) D1)
 DQ:mg "READERS"= some (.ref iS)
 BB:mg "MOST_PLAYERS"= some (.int (12) Ac)
 pG:mg "MOST_INSTRUMENTS"= some (.int (12) oG)
 Ik:mg "MOST_BARS"= some (.int (200) F7)
 Fx:mg "MOST_HOLDS"= some (.int (20) Eb)
 Fw:mg "MOST_ITEMS"= some (.int (40) Ea)
 BA:mg "MOST_REPEATS"= some (.int (20) Ab)
 OM:mg "FAULTS"= some (.ref qA)
 QP:mg "abs"= none
 Hk:mg "all"= none
 A1:mg "any"= none
 RW:mg "bool"= none
 jK:mg "enumerate"= none
 QO:mg "int"= none
 ly:mg "isinstance"= none
 bE:mg "len"= none
 pw:mg "list"= none
 Tp:mg "min"= none
 dm:mg "range"= none
 To:mg "set"= none
 Hj:mg "sorted"= none
 fh:mg "str"= none
 Tn:mg "sum"= none
 iB:mg "tuple"= none
 N0:mg "zip"= none
 lE:PySem.W.nsIn K mainGlobals "NoLength"= some (some (.ref jn))
 kX:PySem.W.excIn K jn [.type "ValueError",.type "Exception",.type "BaseException",.type "object"] "ValueError.__new__"= true
 Q6:mg "NoLength"= some (.ref jn)
 cf:Cf K lH
def bN {X:Cx} {x:Str} {st:Stmt} {k n:Nat} {f:vy} {fd:vx} {ps:List Str} {sp:Sp} {e:Expr} {es:List Expr} {t:TA} {p pos:Pos} (F:dA X.prog X.w X.K X.mg X.base IG k f fd ps sp) (hr:fG n X.A) (D:Df X.K X.mg x st f fd ps)
  (ha:PA X (e::es) t) (hk:k<=n<|>qb_) (hg:Gl X x<|>qe_) (hdb:(x == ("__debug__": Str))=false<|>qb_) (he:starEach (e::es) X.env=(false,eval e X.env)::starEach es X.env<|>qe_) (hpl:(backTo pos (starEach es X.env)).any (·.1)=false<|>qe_) :
  PE X (.Call (.Name x p) (e::es) [] pos) (fI sp [] E0 t):=PR F (hr.mono hk) hg D.g D.F.kp D.b .nil KI ha hdb he hpl
def fc {X:Cx} {a b:Expr} {ta tb:TE} {pos:Pos} (ha:PE X a ta) (hb:PE X b tb) (hs:rK b<|>qj_):PE X (.Subscript a b pos) (eO (ND X.K) ta tb):=AO KO ha hb hs
def bB {X:Cx} {a b:Expr} {ta tb:TE} {pos:Pos} (ha:PE X a ta) (hb:PE X b tb) (hs:rK b<|>qj_):PE X (.Subscript a b pos) (eO (kU X.K) ta tb):=AO R5 ha hb hs
def ptr {X:Cx} {a b:Expr} {ta tb:TE} {pos:Pos} {op:CmpOp} {r:R2} (ho:mG X (compareOp op) r) (ha:PE X a ta) (hb:PE X b tb) (h:op≠.In<|>qb_) (h2:op≠.NotIn<|>qb_):PT X (.Compare a [op] [b] pos) (lO (eO r ta tb)):=gC ho ha hb (fq b h h2)
def Lo (p:St) (n:Nat) (U:St):Prop:=∃e:Nat->Option V,U=p++(List.range n).map e
def Lo.of {p:St} {n:Nat} {U:St} (h:U.take ⇑p=p) (l:U.length=⇑p+n):Lo p n U:=by
 refine{λi=>U[⇑p+i]?.join,List.ext_getElem? λi=>?_}
 by_cases c:i<⇑p
 ·rw[wj c]
  conv=>rhs;rw[<-h]
  rw[List.getElem?_take_of_lt c]
 ·rw[zZ (),zJ]
  by_cases d:i-⇑p<n
  ·rw[List.getElem?_range d]
   have:⇑p+(i-⇑p)=i:=()
   simp only[xj,this];rw[zb ()];rfl
  ·rw[wK (),wK (by simp;ext)]
   rfl
abbrev At (b:yA->TS) (K:yA):TS:=b K
abbrev Sq (b:yA->TS) (K:yA) (D:Ends):Ends:={D with nx:=b K D}
abbrev Dz (Q:VK):Ends:={nx:=λ_ H'=>Q .bA H',rt:=Q}
def Ev (t:TE) (U:St) (H:Hp) (v:V):Prop:=∀Q:VK,Q v H->t U H Q
def O9 (t:TA) (U:St) (H:Hp) (vs:List V):Prop:=∀R:List V->Hp->Prop,R vs H->t U H R
def Qy (t:TT) (U:St) (H:Hp) (b:Bool):Prop:=∀R:Bool->Hp->Prop,R b H->t U H R
inductive Vg (K:yA) (f:Str) (x:V) (H:Hp) (Q:VK):Prop
 | mk (a C dx:vy) (fs:List (Str×V)) (v:V) (_:x=.ref a) (_:H a=some (.ins C dx fs)) (_:QA K C) (_:eN K C f) (_:fs.lookup f=some v) (_:Q v H)
section
variable {t u:TE} {ta:TA} {c:TT} {wi:TI} {a b:TS} {gt:TG} {D:Ends} {U:St} {H:Hp} {v x y:V} {vs:List V} {g:Int->Int->V} {i j:Int} {r:R2} {Q:VK} {R:List V->Hp->Prop} {S:Bool->Hp->Prop} {k:Bool} {K:yA} {p:vy} {xs:List V}
def Sf {n:Nat} (e:U[n]?=some (some v)):Ev (aY n) U H v:=λ_ q=>{(v),e,q}
def Vj:Ev (tC v) U H v:=λ_ q=>q
def TJ (a:Ev t U H (.int i)) (b:Ev u U H (.int j)):Ev (eO (uG g) t u) U H (g i j):=λ_ q=>a _ (b _ {_,_,rfl,rfl,q})
def TH {C:Int->Int->Prop} (a:Ev t U H (.int i)) (b:Ev u U H (.int j)) (c:C i j):Ev (eO (rI C g) t u) U H (g i j):=λ_ q=>a _ (b _ {_,_,rfl,rfl,c,q})
def TF (a:Ev t U H (.ref p)) (b:Ev u U H (.int j)) (h:H p=some (.tup xs)) (e:DV xs j=some v):Ev (eO (kU K) t u) U H v:=λ_ q=>a _ (b _ {_,_,_,_,rfl,rfl,cu.of h,e,q})
def Sh:O9 dR U H []:=λ_ q=>q
def Qg (a:Ev t U H v) (b:O9 ta U H vs):O9 (bM t ta) U H (v::vs):=λ_ q=>a _ (b _ q)
def Si (a:Ev t U H v):Ev (M3 t) U H (.bl (decide (v=.bA))):=λ_ q=>a _ q
def Qf (a:Ev t U H v):Ev (M1 t) U H (.bl (!decide (v=.bA))):=λ_ q=>a _ q
def Sg (a:Ev t U H (.bl k)):Ev (QB t) U H (.bl (!k)):=λ_ q=>a _ {_,rfl,q}
def TK (a:Ev t U H x) (b:Ev u U H y) (s:Pr x y=true):Ev (eO Uh t u) U H (.bl (decide (x=y))):=λ_ q=>a _ (b _ {(s),q})
def TC (a:Ev t U H x) (b:Ev u U H y) (s:Pr x y=true):Ev (eO U3 t u) U H (.bl (!decide (x=y))):=λ_ q=>a _ (b _ {(s),q})
def Vh (a:Ev t U H (.bl k)):Qy (lO t) U H k:=λ_ q=>a _ {_,rfl,q}
def Vk (a:Ev t U H (.bl k)):Qy (tB t) U H k:=λ_ q=>a _ {_,rfl,q}
def Vi (a:Qy c U H k):Qy (Pg c) U H (!k):=λ_ q=>a _ q
def S9 (e:Ev t U H v) (q:gt v U H D.nx):Ga t gt D U H:=e _ q
def S7 (e:Ev t U H v) (q:D.rt v H):Rf t D U H:=e _ q
def UZ {a b:yA->TS} (e:Qy c U H k) (q:if k=true then At a K D U H else At b K D U H):Ph c (a K) (b K) D U H:=e _ q
def Ur {b:yA->TS} (q:a (Sq b K D) U H):Rc a (b K) D U H:=q
def Ux {n:Nat} {S:St->Hp->Prop} (q:S (U.set n (some v)) H):bY n v U H S:=q
def Uu {b:yA->TS} (q:b K D U H):(Sq b K D).nx U H:=q
def Ut (q:D.nx U H):QC D U H:=q
def SM (q:t U H λx H1=>gt x U H1 D.nx):Ga t gt D U H:=q
def SI (q:t U H D.rt):Rf t D U H:=q
def Q1 (q:t U H λ_ H1=>D.nx U H1):QD t D U H:=q
def Uw (q:c U H λz H1=>if z=true then a D U H1 else b D U H1):Ph c a b D U H:=q
def Uy {a b:yA->TS} (q:c U H λz H1=>if z=true then At a K D U H1 else At b K D U H1):Ph c (a K) (b K) D U H:=q
def S6 (e:Qy c U H k) (q:S k H):c U H S:=e S q
def VH (q:t U H λx H'=>∃k,x=.bl k/\S k H'):lO t U H S:=q
def VI (q:t U H λx H'=>∃k,x=.bl k/\S k H'):tB t U H S:=q
def UC (e:Ev t U H v) (q:Q v H):t U H Q:=e Q q
def w_arg (e:O9 ta U H vs) (q:R vs H):ta U H R:=e R q
def x_call {sp:Sp} {dv:List V} {E:XK} (q:ta U H λvs H1=>sp (vs++dv) H1 Q E):fI sp dv E ta U H Q:=q
def Uz {q':List V->Hp->VK->Prop} (q:ta U H λvs H1=>q' vs H1 Q):Lp q' ta U H Q:=q
def SH (q:ta U H λxs H1=>⇑xs<=sizeLine/\∀p,H1 p=none->Q (.ref p) (upd H1 p (.tup xs))):Ec ta U H Q:=q
def SJ (q:ta U H λxs H1=>⇑xs<=sizeLine/\∀p,H1 p=none->Q (.ref p) (upd H1 p (.lst xs))):F9 ta U H Q:=q
def Q2 {fr:List (Option Nat)} (q:wi U H λJ H1=>dF (fr.map λo=>o.bind λj=>(U[j]?).join) gt c t Q J H1):mJ fr wi gt c t U H Q:=q
def UY {R:It->Hp->Prop} (e:Ev t U H (.ref p)) (q:(∃xs,aI K H p xs)/\R (K9 K p) H):KP K t U H R:=e _ {_,rfl,q}
def Us {R:It->Hp->Prop} (q:ta U H λvs H1=>∃j:Int,vs=[.int j]/\-(2^62)<=j/\j<2^62/\R (K8 0 j.toNat) H1):Oe ta U H R:=q
abbrev iJ (J:It):TI:=λ_ H R=>R J H
def Fr (g:TG) (b:TS) (D:Ends) (U:St) (J:It) (H:Hp):Prop:=Rk (iJ J) g b D U H
def SK {b:yA->TS} (q:wi U H (Fr gt (At b K) D U)):Rk wi gt (b K) D U H:=q
def x_at {b:yA->TS} (q:b K D U H):At b K D U H:=q
def Uv {R:It->Hp->Prop} (q:t U H λx H1=>∃a,x=.ref a/\(∃xs,aI K H1 a xs)/\R (K9 K a) H1):KP K t U H R:=q
def UM {R:It->Hp->Prop} (e:O9 ta U H vs) (q:∃a xs,vs=[.ref a]/\aI K H a xs/\R (Sw K a) H):QS K ta U H R:=e _ q
def UI {R:It->Hp->Prop} (e:O9 ta U H vs) (q:∃j:Int,vs=[.int j]/\-(2^62)<=j/\j<2^62/\R (K8 0 j.toNat) H):Oe ta U H R:=e _ q
def Q5 {sp:Sp} {dv:List V} {E:XK} (e:O9 ta U H vs) (q:sp (vs++dv) H Q E):fI sp dv E ta U H Q:=e _ q
def UN {q':List V->Hp->VK->Prop} (e:O9 ta U H vs) (q:q' vs H Q):Lp q' ta U H Q:=e _ q
def UH (e:O9 ta U H vs) (q:⇑vs<=sizeLine/\∀p,H p=none->Q (.ref p) (upd H p (.tup vs))):Ec ta U H Q:=e _ q
def UL (e:O9 ta U H vs) (q:⇑vs<=sizeLine/\∀p,H p=none->Q (.ref p) (upd H p (.lst vs))):F9 ta U H Q:=e _ q
def Ta {d:TT} (e:Qy c U H k) (q:if k=true then d U H S else S false H):Rq c d U H S:=e _ q
def UX {d:TT} (e:Qy c U H k) (q:if k=true then S true H else d U H S):Ue c d U H S:=e _ q
def U0 (e:Qy c U H k) (q:if k=true then t U H Q else u U H Q):Vu c t u U H Q:=e _ q
def SO {f:Str} (e:Ev t U H x) (q:Vg K f x H Q):Pj K t f U H Q:=e _ (by let⟨a,C,dx,fs,v,h1,h2,h3,h4,h5,h6⟩:=q;exact{(a),C,dx,fs,v,h1,h2,h3,h4,h5,h6})
def UO {T:String} {q':V->List V->Hp->VK->Prop} (e:Ev t U H x) (q:Ub K T x H/\ta U H λxs H2=>q' x xs H2 Q):Ug K T q' t ta U H Q:=e _ q
def SQ (e:Ev t U H (.bl k)) (q:if k=true then u U H Q else Q (.bl false) H):QE t u U H Q:=e _ {_,rfl,q}
def UJ (e:Ev t U H (.bl k)) (q:if k=true then Q (.bl true) H else u U H Q):SW t u U H Q:=e _ {_,rfl,q}
def UK (q:t U H λx H1=>u U H1 λy H2=>r x y H2 Q):eO r t u U H Q:=q
def Q4 (q:t U H λx H1=>ta U H1 λxs H2=>R (x::xs) H2):bM t ta U H R:=q
def UA (e:Ev t U H x) (q:u U H λy H2=>r x y H2 Q):eO r t u U H Q:=e _ q
def Q3 (e:Ev t U H v) (q:ta U H λxs H2=>R (v::xs) H2):bM t ta U H R:=e _ q
def UB (q:Q (g i j) H):uG g (.int i) (.int j) H Q:={(i),j,rfl,rfl,q}
def SN (h:H p=some (.tup xs)) (e:DV xs j=some v) (q:Q v H):kU K (.ref p) (.int j) H Q:={_,_,_,_,rfl,rfl,cu.of h,e,q}
end
def dG {g:TG} {tb:TS} {x:V} {U:St} {H:Hp} {A C:St->Hp->Prop} {B:VK} (h:∀N:Ends,(∀U H,A U H->N.nx U H)->(∀v H,B v H->N.rt v H)->(∀U H,A U H->N.ct U H)->(∀U H,C U H->N.bk U H)->g x U H λσ2 H2=>tb N σ2 H2):g x U H λσ2 H2=>tb {nx:=A,rt:=B,bk:=C,ct:=A} σ2 H2:=h _ (λ_ _ z=>z) (λ_ _ z=>z) (λ_ _ z=>z) λ_ _ z=>z
def UE {r:Sp} {vs:List V} {H:Hp} {Q:VK} {E:XK} (h:∀Q':VK,(∀v H',Q v H'->Q' v H')->r vs H Q' E):r vs H Q E:=h Q λ_ _ z=>z
def UG {r:R2} {x y:V} {H:Hp} {Q:VK} (h:∀Q':VK,(∀v H',Q v H'->Q' v H')->r x y H Q'):r x y H Q:=h Q λ_ _ z=>z
def UD {r:V->Hp->VK->Prop} {x:V} {H:Hp} {Q:VK} (h:∀Q':VK,(∀v H',Q v H'->Q' v H')->r x H Q'):r x H Q:=h Q λ_ _ z=>z
abbrev cZ (P:vt) (w:vv) (base:vz) (n:Nat) {K:yA} {mg:Str->Option vo} {x:Str} {st:Stmt} {a:vy} {d:vx} {ps:List Str} (_:Df K mg x st a d ps) (sp:Sp):Prop:=dA P w K mg base IG n a d ps sp
theorem _root_.L2.O2.Ui {P:vt} {w:vv} {K:yA} {mg:Str->Option vo} {base:vz} {x qual:Str} {st:Stmt} {f:vy} {fd:vx} {N ps:List Str} {k:Nat} {sp:Sp} (F:O2 K x qual st f fd) (S:gf N ps (aU st))
  (hbody:∀(cdv:vo) (A:vw) (outer:List Env) (s:vq) (H:Hp) (vs:List V) (Q:VK) (E:XK),fG k (A.deeper (PyProof.Rows.envOfC qual (aU st) ↑s f cdv))->sp vs H Q E->
   ∃t,DX (j7 IG P w K mg base N qual (aU st) f cdv A outer s H E).Jv (ck st) t/\t (Dz Q) (start N vs) H)
  (len:(∀vs H Q E,sp vs H Q E->⇑vs=⇑ps)<|>qk_):dA P w K mg base IG (k+1) f fd ps sp:=F.ok S len hbody
def Vv {P:vt} {w:vv} {K:yA} {mg:Str->Option vo} {base:vz} {x:Str} {st:Stmt} {f:vy} {fd:vx} {N ps:List Str} {k:Nat} {sp:Sp} (D:Df K mg x st f fd ps) (S:gf N ps (aU st))
  (hbody:N.Nodup->∀(cdv:vo) (A:vw) (outer:List Env) (s:vq) (H:Hp) (vs:List V) (Q:VK) (E:XK),fG k (A.deeper (PyProof.Rows.envOfC x (aU st) ↑s f cdv))->sp vs H Q E->
   ∃t,DX (j7 IG P w K mg base N x (aU st) f cdv A outer s H E).Jv (ck st) t/\t (Dz Q) (start N vs) H)
  (len:(∀vs H Q E,sp vs H Q E->⇑vs=⇑ps)<|>qk_):dA P w K mg base IG (k+1) f fd ps sp:=D.F.ok S len (hbody S.nd)
def TB {N P:List Str} {sc:Scope} (h1:sc.kind=.function<|>qe_) (h2:sc.isCoroutine=false<|>qe_) (h3:sc.isGenerator=false<|>qe_) (h4:N.Nodup<|>ql_) (h5:N.take P.length=P<|>qe_) (h6:(∀x∈P,sc.names.lookup x=some .local\/sc.names.lookup x=some .cell)<|>ql_) (h7:(∀y∈sc.names,y.2≠.free)<|>ql_):gf N P sc:={(h1),h2,h3,h4,h5,h6,h7}
def d6 {X:Cx} {x:Str} {id:String} {r:List V->Hp->VK->Prop} {e:Expr} {es:List Expr} {t:TA} {p pos:Pos} (hc:fF X (.builtin id) r) (hm:X.mg x=none) (ha:PA X (e::es) t) (hg:Gl X x<|>qe_) (hv:bootBuiltins x=some (.builtin id)<|>ql_) (hn:x≠ "__name__"<|>qb_) (hdb:(x == ("__debug__": Str))=false<|>qb_)
  (he:starEach (e::es) X.env=(false,eval e X.env)::starEach es X.env<|>qe_) (hpl:(backTo pos (starEach es X.env)).any (·.1)=false<|>qe_):PE X (.Call (.Name x p) (e::es) [] pos) (Lp r t):=GV hc hg hm hv ha hn hdb he hpl
def mD {X:Cx} {x:Str} {id:String} {r:List V->Hp->VK->Prop} {e:Expr} {es:List Expr} {t:TA} {p pos:Pos} (hc:fF X (.type id) r) (hm:X.mg x=none) (ha:PA X (e::es) t) (hg:Gl X x<|>qe_) (hv:bootBuiltins x=some (.type id)<|>ql_) (hn:x≠ "__name__"<|>qb_) (hdb:(x == ("__debug__": Str))=false<|>qb_)
  (he:starEach (e::es) X.env=(false,eval e X.env)::starEach es X.env<|>qe_) (hpl:(backTo pos (starEach es X.env)).any (·.1)=false<|>qe_):PE X (.Call (.Name x p) (e::es) [] pos) (Lp r t):=LM hc hg hm hv ha hn hdb he hpl
def bR {X:Cx} {x:Str} {e:Expr} {te:TE} {pos pos':Pos} (i:Nat) (hN:X.N.Nodup) (he:PE X e te) (hi:X.N[i]?=some x<|>qe_) (hx:Loc X.env.scope x<|>qi_) (hs:swapsWith e (some (.Name x pos')) pos.line X.env=pure false<|>qe_) (hf:X.fn x=true\/X.env.scope.names.lookup x=some .local<|>qa_) :
  PS X (.Assign [.Name x pos'] e pos) (Ga te (bY i)):=NI hN hi hx he hs hf
def gR {X:Cx} {x:Str} {pos:Pos} (i:Nat) (hN:X.N.Nodup) (hi:X.N[i]?=some x<|>qe_) (hx:Loc X.env.scope x<|>qi_) (hf:X.fn x=true\/X.env.scope.names.lookup x=some .local<|>qa_):PG X (.Name x pos) (bY i):=KG hN hi hx hf
def gg {X:Cx} {ts ys:List Str} {scope:Scope} {cl:List (Str×vy)} {C:vy} {s₀:vq} {H₀:Hp} {ex:List vy} {x:Str} {pos:Pos} (i:Nat) (hN:(ts++ys).Nodup<|>ql_) (hi:(ts++ys)[i]?=some x<|>qe_) (hx:Loc (cO X (ts++ys) scope cl C s₀ H₀ ex).env.scope x<|>qi_) (hf:(cO X (ts++ys) scope cl C s₀ H₀ ex).fn x=true\/(cO X (ts++ys) scope cl C s₀ H₀ ex).env.scope.names.lookup x=some .local<|>qa_):PG (cO X (ts++ys) scope cl C s₀ H₀ ex) (.Name x pos) (bY i):=KG hN hi hx hf
section
variable {X:Cx} {pos:Pos} {elt target iter:Expr} {ifs:List Expr} {scope:Scope} {ts ys:List Str} {js:List Nat} {cl:List (Str×vy)} {wi:TI} {g:TG} {tc:TT} {te:TE}
def mE (hi:PI X target iter wi) (hg:∀{C s₀ H₀ ex},PG (cO X (ts++ys) scope cl C s₀ H₀ ex) target g) (hif:∀{C s₀ H₀ ex},Qv (cO X (ts++ys) scope cl C s₀ H₀ ex) ifs tc) (he:∀{C s₀ H₀ ex},PE (cO X (ts++ys) scope cl C s₀ H₀ ex) elt te)
  (hclos:closureFor scope X.env=pure cl<|>qe_) (hc:X.calm=true<|>qe_) (hcl:FN X.env.cells cl<|>qm_)
  (hLo:((relabel scope X.env).names.all λp=>(p.2 != .cell&&p.2 != .free)||ys.contains p.1||scope.names.contains (p.1,.cell))=true<|>qe_) (hno:(∀p∈scope.names,p.2=.cell->p.1∉ys)<|>ql_)
  (hfr:MD X scope cl ys js<|>qm_)
  (hkind:scope.kind=.function<|>qe_) (hnames:(∀y∈scope.names,y.2=.local->scope.names.lookup y.1=some .local)<|>ql_) (hs:(∀x,foldedSetIterable iter X.env x=pure x)<|>qd_) :
  PE X (.ListComp elt [{target,iter,ifs,0}] scope pos) (mJ (ts.map (λ_=>none)++js.map some) wi g tc te):=NU hc hclos hcl hLo hno hfr hkind hnames hi (λ_ _ _ _=>hg) (λ_ _ _ _=>hif) (λ_ _ _ _=>he) hs
def O4 {i:Nat} {x:Str} {ps pa:Pos} (hi:PI X target iter wi) (hg:∀{C s₀ H₀ ex},PG (cO X (ts++ys) scope cl C s₀ H₀ ex) target g) (hif:∀{C s₀ H₀ ex},Qv (cO X (ts++ys) scope cl C s₀ H₀ ex) ifs tc) (he:∀{C s₀ H₀ ex},PE (cO X (ts++ys) scope cl C s₀ H₀ ex) elt te) (hN:X.N.Nodup)
  (hclos:closureFor scope X.env=pure cl<|>qe_) (hc:X.calm=true<|>qe_) (hcl:FN X.env.cells cl<|>qm_)
  (hLo:((relabel scope X.env).names.all λp=>(p.2 != .cell&&p.2 != .free)||ys.contains p.1||scope.names.contains (p.1,.cell))=true<|>qe_) (hno:(∀p∈scope.names,p.2=.cell->p.1∉ys)<|>ql_)
  (hfr:MD X scope cl ys js<|>qm_)
  (hkind:scope.kind=.function<|>qe_) (hnames:(∀y∈scope.names,y.2=.local->scope.names.lookup y.1=some .local)<|>ql_) (hx1:X.N[i]?=some x<|>qe_) (hx2:Loc X.env.scope x<|>qi_) (hs:(∀x,foldedSetIterable iter X.env x=pure x)<|>qd_) (hsw:swapsWith (.ListComp elt [{target,iter,ifs,0}] scope pos) (some (.Name x ps)) pa.line X.env=pure true<|>qe_)
  (hf:X.fn x=true\/X.env.scope.names.lookup x=some .local<|>qa_) :
  PS X (.Assign [.Name x ps] (.ListComp elt [{target,iter,ifs,0}] scope pos) pa) (Ga (mJ (ts.map (λ_=>none)++js.map some) wi g tc te) (bY i)):=NK hc hclos hcl hLo hno hfr hkind hnames hi (λ_ _ _ _=>hg) (λ_ _ _ _=>hif) (λ_ _ _ _=>he) hN hx1 hx2 hs hsw hf
end
section
variable {P:vt} {w:vv} {K:yA} {mg:Str->Option vo} {base:vz} (T:Txt K mg)
local macro_rules | `(tactic|right) => `(tactic| (intro pp hn; generalize hG : upd _ pp _ = HH; have sm := aB.i7 hG hn; have hh := jq hG; clear hG hn))
local macro_rules | `(tactic| intros $D:ident $n:ident $s:ident $h:ident $H:ident) => `(tactic| ((try refine ⟨yf _, ?_⟩); intro $D $n; generalize hG : upd _ $D _ = $H; have $s:ident := aB.i7 hG $n; have $h:ident := jq hG; clear hG))
local macro_rules|`(tactic|ac_rfl)=>`(tactic|try dsimp only[j7,Cx.Jv])
local macro_rules|`(tactic|intros $p:ident $H:ident $s:ident $h:ident)=>`(tactic|(intro $p hn;generalize hG:upd _ $p _=$H;have $s:ident:=aB.i7 hG hn;have $h:ident:=jq hG;clear hG hn))
local macro_rules|`(tactic|change $e:term)=>`(tactic|(left ;exact $e))
set_option hygiene false
local macro_rules|`(tactic|fail "h")=>`(tactic|(refine aB.on (by assumption) ?_; fail "h"))
local macro_rules|`(tactic|fail "h")=>`(tactic|assumption)
local macro_rules|`(tactic|fail "e")=>`(tactic|((with_reducible apply TH); fail "e"; fail "e"; (first | (show (0 : Int) < _; decide) | exact And.intro ∅ ∅ | exact Or.inl ⟨∅, by decide⟩ | exact Or.inr ⟨∅, by decide⟩)))
local macro_rules|`(tactic|fail "e")=>`(tactic|((with_reducible (first | apply TK | apply TC)); fail "e"; fail "e"; exact rfl))
local macro_rules|`(tactic|fail "e")=>`(tactic|((with_reducible (first | apply Vh | apply Vk | apply Vi | apply Si | apply Qf | apply Sg)); fail "e"))
local macro_rules|`(tactic|fail "e")=>`(tactic|((with_reducible apply TF); fail "e"; fail "e"; fail "h"; exact rfl))
local macro_rules|`(tactic|fail "e")=>`(tactic|((with_reducible (first | apply TJ | apply Qg)); fail "e"; fail "e"))
local macro_rules|`(tactic|fail "e")=>`(tactic|with_reducible (first | exact Vj | exact Sh))
local macro_rules|`(tactic|fail "e")=>`(tactic|((with_reducible apply Sf); exact rfl))
local macro_rules | `(tactic| exists $es,*) => `(tactic| (left; first | ((with_reducible (first | refine UE fun _ kq => ?_ | refine UG fun _ kq => ?_ | refine UD fun _ kq => ?_)); refine ⟨$es,*⟩; refine kq _ _ ?_) | refine ⟨$es,*⟩))
local macro_rules|`(tactic|fail "s")=>`(tactic|refine Or.inr ⟨_, rfl, ?_⟩)
local macro_rules|`(tactic|fail "s")=>`(tactic|refine ⟨Or.inr ⟨∅, by decide⟩, ?_⟩)
local macro_rules|`(tactic|fail "s")=>`(tactic|refine ⟨Or.inl ⟨∅, by decide⟩, ?_⟩)
local macro_rules|`(tactic|fail "s")=>`(tactic|refine ⟨(And.intro ∅ ∅), ?_⟩)
local macro_rules|`(tactic|fail "s")=>`(tactic|refine ⟨(by show (0 : Int) < _; decide), ?_⟩)
local macro_rules|`(tactic|fail "s")=>`(tactic|refine ⟨_, tag_tup (by fail "h"), ?_⟩)
local macro_rules|`(tactic|fail "s")=>`(tactic|refine ⟨_, _, _, _, rfl, rfl, cu.of (by fail "h"), rfl, ?_⟩)
local macro_rules|`(tactic|fail "s")=>`(tactic|refine Vb ?_)
local macro_rules|`(tactic|fail "s")=>`(tactic|refine Tt ?_)
local macro_rules|`(tactic|fail "s")=>`(tactic|refine ⟨rfl, ?_⟩)
local macro_rules|`(tactic|fail "s")=>`(tactic|refine ⟨_, _, rfl, rfl, ?_⟩)
local macro_rules|`(tactic|fail "s")=>`(tactic|refine ⟨_, rfl, ?_⟩)
local macro_rules|`(tactic|fail "s")=>`(tactic|with_reducible (first | apply UB | apply VH | apply VI | apply x_call | apply Uz | apply SH | apply SJ | apply Q2 | apply Us | apply Uv | apply UK | apply Q4))
local macro_rules|`(tactic|fail "s")=>`(tactic|((with_reducible apply SN); fail "h"; exact rfl))
local macro_rules|`(tactic|fail "s")=>`(tactic|((with_reducible (first | apply Q5 | apply UN | apply UY | apply SO | apply UO | apply SQ | apply UJ | apply UA | apply Q3 | apply UH | apply UL | apply UM | apply UI | apply Ta | apply UX | apply U0)); fail "e"))
local macro_rules|`(tactic|fail "s")=>`(tactic|((with_reducible apply S6); fail "e"))
local macro_rules|`(tactic|fail "s")=>`(tactic|((with_reducible apply w_arg); fail "e"))
local macro_rules|`(tactic|fail "s")=>`(tactic|((with_reducible apply UC); fail "e"))
local macro_rules|`(tactic|fail "s")=>`(tactic|with_reducible (first | apply Ur (K := K) | apply Ux | apply Uu | apply Ut | apply x_at | apply SM | apply SI | apply Q1 | apply Uy (K := K) | apply Uw | apply SK (K := K)))
local macro_rules|`(tactic|fail "s")=>`(tactic|((with_reducible (first | apply S9 | apply S7 | apply UZ (K := K))); fail "e"))
local macro_rules | `(tactic|left) => `(tactic| ((repeat fail "s"); (first | (first | apply kN4 | apply kN3 | apply kN2 | apply kN1 | apply kN0 | apply kR4 | apply kR3 | apply kR2 | apply kR1 | apply kR0); left | skip)))
local macro_rules | `(tactic| nomatch $a:term, $b:term) => `(tactic| refine Vv $a (N := $b) TB fun qN _ _ _ _ H vs Q E hr h => ?_)
set_option hygiene true
def qM:cZ P w base 1 T.fX jA:=by
 nomatch T.fX,["one","other","rest"]
 let⟨a,b,rfl,h1,h2,kk⟩:=h;refine{_,(ah (AN yO (ptr jH (pv 1) af)
  (ah (bR 2 qN (aA aS (pv 0) (pv 1)))
   (ah (bR 0 qN (pv 1))
   (ao (bR 1 qN (pv 2))))))
  (ao (au (pv 0)))),?_}
 refine{λm U H'=>H'=H/\∃(x y:Int) (r:Option V),U=[some (.int x),some (.int y),r]/\0<=x/\0<=y/\Int.gcd x y=Int.gcd a b/\m=y.toNat,{_,rfl,a,b,none,rfl,h1,h2,rfl,rfl},?_};rintro m U H' ⟨rfl,x,y,r,rfl,hx,hy,hg,rfl⟩;left
 by_cases e:y=0
 ·subst e
  refine QR rfl ?_;refine{_,rfl,?_};let e2:Int.gcd a b=x.natAbs:=by rw[<-hg];simp
  let e3:((Int.gcd a b:Nat):Int)=x:=by rw[e2];ext
  rw[e3] at kk;exact kk
 ·refine b7 (by simp[e]) ?_
  refine{λU' H''=>∃m',m'<y.toNat/\H''=H'/\∃(x y:Int) (r:Option V),U'=[some (.int x),some (.int y),r]/\0<=x/\0<=y/\Int.gcd x y=Int.gcd a b/\m'=y.toNat,λ_ _ h=>h,?_};exists(by show(0:Int)<y;ext),?_;left;let hp:(0:Int)<y:=()
  let l1:=zv x (by omega:y≠0);let l2:=zr x hp;exact{(x%y).toNat,(),rfl,y,x%y,_,rfl,hy,l1,(Hv hx hp).trans hg,rfl}
def i6:cZ P w base 2 T.eE fK:=by
 let G_common_divisor:cZ P w base 1 T.fX jA:=qM T
 nomatch T.eE,["top","bottom","divisor"]
 let⟨t,b,rfl,h1,h2,h3,kk⟩:=h;refine{_,(ah (bR 2 qN (bN G_common_divisor hr T.fX (ak (pv 0) (ak (pv 1) ag))))
  (ao (au (bI (ak (aA qK (pv 0) (pv 2)) (ak (aA qK (pv 1) (pv 2)) ag)))))),?_}
 exists t,b,rfl,h1,y6 h2,?_;let g0:=vO (t:=t) h2;let g1:Sz 8999 ((Int.gcd t b:Nat):Int):=h3.le (y6 g0) (Ol h2);exists{(g0),g1},?_;exists{(g0),g1},?_;refine{cT,laid λp H' sm hp=>kk p H' sm ?_};exact hp
def NX:cZ P w base 3 T.added Nf:=by
 let G_made_length:cZ P w base 2 T.eE fK:=i6 T
 nomatch T.added,["one","other"]
 let⟨x,y,p,q,n,m,rfl,hp,hq,rx,ry,sx,sy,hnm,kk⟩:=h;let⟨x1,x2,_⟩:=rx.pos;let⟨y1,y2,_⟩:=ry.pos;let bx1:Sz 20000 x.1:=sx.1.mono ();let bx2:Sz 20000 x.2:=sx.2.mono ();let by1:Sz 20000 y.1:=sy.1.mono ();let by2:Sz 20000 y.2:=sy.2.mono ();refine{_,(ao (au (bN G_made_length hr T.eE (ak (aA aW (aA qJ (bB (pv 0) af) (bB (pv 1) af)) (aA qJ (bB (pv 1) af) (bB (pv 0) af))) (ak (aA qJ (bB (pv 0) af) (bB (pv 1) af)) ag))))),?_};exists{(bx1),by2},?_;exists{(by1),bx2},?_;exists{(bx2),by2},?_;refine{_,_,rfl,Int.add_nonneg (x6 x1 (y6 y2)) (x6 y1 (y6 x2)),xw x2 y2,(sx.2.mul sy.2).mono hnm,λr H' sm hr'=>kk r H' sm hr'}
def Js:cZ P w base 1 T.Es IX:=by
 nomatch T.Es,["one","other"]
 let⟨x,y,p,q,rfl,hp,hq,sx,sy,kk⟩:=h;let bx1:Sz 20000 x.1:=sx.1.mono ();let bx2:Sz 20000 x.2:=sx.2.mono ();let by1:Sz 20000 y.1:=sy.1.mono ();let by2:Sz 20000 y.2:=sy.2.mono ();refine{_,(ao (au (cW fe (aA qJ (bB (pv 0) af) (bB (pv 1) af)) (aA qJ (bB (pv 1) af) (bB (pv 0) af)) (fq _)))),?_};exists{(bx1),by2},?_;exists{(by1),bx2},?_;change kk
def bP:cZ P w base 1 T.cm B7:=by
 nomatch T.cm,["_law_cell","_law_k"]
 let⟨c,k,rfl,h1,h2,kk⟩:=h;refine{_,(ao (au (aA aS (aA dM (aA dM (aA aW (aA aS (pv 0) af) af) (aA aW (aA dM (pv 1) (pv 1)) af)) af) af))),?_};exists Or.inl {(()),()},?_;left;let e1:0<=c%2305843009213693951:=zv _ ∅;let e2:c%2305843009213693951<2305843009213693951:=zr _ ∅;refine{Or.inl {(()),()},?_};change kk
def fO:cZ P w base 1 T.fE Ak:=by
 nomatch T.fE,["_law_top","_law_bottom","_law_one","_law_other"]
 let⟨t,b,rfl,h1,h2,h3,kk⟩:=h;let g0:=vO (t:=t) h2;let g1:Sz 8999 ((Int.gcd t b:Nat):Int):=h3.le (y6 g0) (Ol h2);refine{_,(ah (NJ (i:=2) (j:=3) rfl qN rfl rfl ∅ rfl rfl (ak (pv 0) (ak (pv 1) ag)) rfl)
  (ah (AN yO (ptr eW (pv 3) af)
  (ao (NJ (i:=2) (j:=3) rfl qN rfl rfl ∅ rfl rfl (ak (pv 3) (ak (aA aS (pv 2) (pv 3)) ag)) rfl)))
  (ao (au (bI (ak (aA qK (pv 0) (pv 2)) (ak (aA qK (pv 1) (pv 2)) ag))))))),?_}
 exists _,_,rfl,?_;refine{λm U H'=>H'=H/\∃(x y:Int),U=[some (.int t),some (.int b),some (.int x),some (.int y)]/\0<=x/\0<=y/\Int.gcd x y=Int.gcd t b/\m=y.toNat,{_,rfl,t,b,rfl,h1,y6 h2,rfl,rfl},?_};rintro m U H' ⟨rfl,x,y,rfl,hx,hy,hg,rfl⟩;left
 by_cases e:y=0
 ·subst e
  refine cq (by simp) ?_;let e2:Int.gcd t b=x.natAbs:=by rw[<-hg];simp
  let e3:x=((Int.gcd t b:Nat):Int):=by rw[e2];ext
  subst e3;exists{(g0),g1},?_;exists{(g0),g1},?_;refine{cT,laid λp H' sm hp=>kk p H' sm ?_};exact hp
 ·let hp:(0:Int)<y:=()
  refine b7 (ze hp) ?_;refine{λU' H''=>∃m',m'<y.toNat/\H''=H'/\∃(x y:Int),U'=[some (.int t),some (.int b),some (.int x),some (.int y)]/\0<=x/\0<=y/\Int.gcd x y=Int.gcd t b/\m'=y.toNat,λ_ _ h=>h,?_};exists(by show(0:Int)<y;ext),?_;refine{_,_,rfl,?_};let l1:=zv x (by omega:y≠0);let l2:=zr x hp;exact{(x%y).toNat,(),rfl,y,x%y,rfl,hy,l1,(Hv hx hp).trans hg,rfl}
def eA:gf ["text","parts","top","bottom"] ["text"] (aU oB):=TB
def gY:cZ P w base 1 T.dr gU:=by
 nomatch T.dr,["text","most"]
 let⟨t,most,rfl,hl,kk⟩:=h;let sl:=yB;let hz:⇑t<=sizeLine:=()
 let el:⇑t.cps.toList=⇑t:=yP;unfold rn at kk;rw[el] at kk;refine{_,(ah (aJ (PW.pt (dB (ptr fe (d6 fY T.bE (ak (pv 0) ag)) af) (cU (ptr eW (d6 fY T.bE (ak (pv 0) ag)) (pv 1)))))
  (ao (au aT))
  aC)
  (ah (aJ (eC (cy (d6 (kA rfl) T.Hk (ak (mE (ts:=["sign"]) (ys:=[]) (js:=[]) (te:=(eO (λx y H Q=>∃i j,x=.str i/\y=.str j/\Q (.bl (!(Builtin.Str.occurrences j i 0 ⇑j 1).isEmpty)) H) (aY 0) (tC (.str "0123456789")))) (NP (pv 0)) (gg 0) bg (cW Dw (pv 0) (bT (v:=.str "0123456789") (by rfl) T.Mo {_,rfl}) (by with_unfolding_all rfl))) ag))))
  (ao (au aT))
  aC)
  (ah (aJ (PW.pt (dq (ptr de (AO E2 (pv 0) af (λ_ _=>rfl)) aN) (cV (ptr eW (d6 fY T.bE (ak (pv 0) ag)) af))))
  (ao (au aT))
  aC)
  (ao (au (mD Ft T.QO (ak (pv 0) ag))))))),?_}
 exists hz,?_;left;refine uP (λc1=>?_) (λc1=>?_)
 ·left
  let z:=kk H (aB.refl H);rw[yN (yd c1)] at z;exact z
 let c1':¬(⇑t:Int)<1:=λz=>c1 (ze z);rw[yM c1'] at kk;exists hz,?_;left;refine uP (λc2=>?_) (λc2=>?_)
 ·left
  let z:=kk H (aB.refl H);rw[yN (yd c2)] at z;exact z
 let c2':¬most<(⇑t:Int):=λz=>c2 (ze z);rw[yM c2'] at kk;left;refine nc ⇑t (λi=>(t.cps.toList.take i).map λc=>V.bl (decide (c∈uT))) (λi U H'=>H'=H/\∃v,U=[v]) (λi hi=>by rw[za,zP];ext) () rfl {(rfl),none,rfl} (λi U H' hi _=>hi) (λU H' _=>zk _) ?_ ?_
 ·rintro i x U H1 H2 hi ⟨rfl,v,rfl⟩ ⟨rfl,c,hc,rfl⟩
  left;refine IH.push hi ?_ {rfl,_,rfl};rw[PySem.StrLaws.found_one];rw[<-xg] at hc;show List.map _ (List.take (i+1) t.cps.toList)=_;rw[xq,hc,zj];rfl
 ·rintro U H1 ⟨rfl,_⟩
  rw[<-el,zM];intros D H2 sm h2;refine{D,t.cps.toList.map (λc=>decide (c∈uT)),rfl,aI.of (by rw[h2,zA];rfl),?_};let ea:(t.cps.toList.map (λc=>decide (c∈uT))).all id=t.cps.toList.all (λc=>decide (c∈uT)):=by rw[wa];rfl
  rw[ea]
  by_cases ha:t.cps.toList.all (λc=>decide (c∈uT))=true
  ·rw[ha]
   rw[yN ha] at kk;left;let h1:0<t.cps.size:=by show 0<⇑t;ext
   obtain⟨c,hc⟩:∃c,t.cps[0]?=some c:={t.cps[0]'h1,Array.getElem?_eq_getElem h1}
   let hc':t.cps.toList[0]?=some c:=by rw[xg];exact hc
   rw[hc'] at kk;refine{_,0,c,rfl,rfl,hz,bj (j:=0) hc',?_};left;let rd:PySem.intText? t=some ((NumText.digitsVal t.cps.toList:Nat):Int):=PySem.intText_digits (J6 ha) (λz=>by rw[z] at el;simp at el;ext) ()
   by_cases e0:c=48
   ·subst e0
    refine b7 ∅ ?_;exists hz,?_;left;refine uP (λc3=>?_) (λc3=>?_)
    ·left
     let c3':1<⇑t:=by have:=yd c3;ext
     let z:=kk H2 sm;rw[yN {(rfl),c3'}] at z;exact z
    ·let c3':¬1<⇑t:=λz=>c3 (ze ())
     let z:=kk H2 sm;rw[yM (λq=>c3' q.2)] at z;change{_,_,rfl,rd,(),z}
   ·refine cq (zd λz=>e0 ?_) ?_
    ·let z':=V.str.inj z
     exact(List.cons.inj (show [c]=[48] from yY (λy:Str=>y.cps.toList) z')).1
    let z:=kk H2 sm;rw[yM (λq=>e0 (yj q.1))] at z;change{_,_,rfl,rd,(),z}
  ·rw[yM ha] at kk
   rw[Bool.eq_false_iff.mpr ha];change kk H2 sm
def lW:cZ P w base 2 T.fA lQ:=by
 let G_read_number:cZ P w base 1 T.dr gU:=gY T
 nomatch T.fA,["text","most","number"]
 let⟨t,most,rfl,hl,kk⟩:=h;let sl:=yB;unfold rs at kk;refine{_,(ah (aJ (eC (cy (bU yF PySem.F.slot_str_startswith PySem.F.type_str_startswith CD (pv 0) (ak aN ag))))
  (ao (au (bN G_read_number hr T.dr (ak (pv 0) (ak (pv 1) ag)))))
  aC)
  (ah (bR 2 qN (bN G_read_number hr T.dr (ak (cL I9 (pv 0) (dt af) du) (ak (pv 1) ag))))
  (ah (aJ (PW.pt (dB (bG (cz (pv 2))) (cU (ptr de (pv 2) af))))
  (ao (au aT))
  aC)
  (ao (au (qE kF (pv 2))))))),?_}
 left
 by_cases hn:t.cps.toList[0]?=some 45
 ·rw[yN hn] at kk
  let q:=(PySem.StrLaws.subAt_one t 45 0).mpr hn;let es:(decide (0+("-": Str).length<=⇑t)&&Builtin.Str.subAt t "-" 0)=true:=by
   rw[zN];exact{ze q.1,q.2}
  rw[es];exists by ext,?_
  let h1:1<=⇑t:=by have:=q.1;let e:⇑({#[45]}:Str)=1:=rfl;ext
  let e1:(PySem.Txt.slice t (some 1) none).cps.toList=t.cps.toList.drop 1:=oN t h1;exists _,most,rfl,zL (PySem.Txt.slice_le t _ _) hl,λH1 s1=>?_;rw[e1];let z:=kk H1 s1;cases hr':rn most (t.cps.toList.drop 1) with
  | none=>
   rw[hr'] at z;change z
  | some n=>
   rw[hr'] at z;left
   by_cases e0:n=0
   ·subst e0
    refine b7 ∅ ?_;change z
   ·refine cq (zd λy=>e0 (V.int.inj y)) ?_
    left;let z':Q (ov (if n=0 then none else some (-n))) H1:=z;rw[yM e0] at z';exact z'
 ·rw[yM hn] at kk
  let es:(decide (0+("-": Str).length<=⇑t)&&Builtin.Str.subAt t "-" 0)=false:=by
   rw[Bool.eq_false_iff];intro z;rw[zN] at z;exact hn ((PySem.StrLaws.subAt_one t 45 0).mp {yd z.1,z.2})
  rw[es];change{t,most,rfl,hl,λH1 s1=>kk H1 s1}
def mV:cZ P w base 3 T.iY mM:=by
 let G_read_signed:cZ P w base 2 T.fA lQ:=lW T
 nomatch T.iY,["fifths_text","steps_text","fifths","steps"]
 let⟨a,b,rfl,la,lb,kk⟩:=h;unfold rp at kk;refine{_,(ah (bR 2 qN (bN G_read_signed hr T.fA (ak (pv 0) (ak (bT (v:=.int 2) (by rfl) T.mi {_,rfl}) ag))))
  (ah (bR 3 qN (bN G_read_signed hr T.fA (ak (pv 1) (ak (bT (v:=.int 2) (by rfl) T.mi {_,rfl}) ag))))
  (ah (aJ (PW.pt (dB (bG (cz (pv 2))) (cU (bG (cz (pv 3))))))
  (ao (au aT))
  aC)
  (ah (aJ (ptr jH (aA aS (aA fM (pv 3) (aA dM (bT (v:=.int 7) (by rfl) T.CW {_,rfl}) (pv 2))) (bT (v:=.int 12) (by rfl) T.Bz {_,rfl})) af)
  (ao (au aT))
  aC)
  (ao (au (bI (ak (pv 2) (ak (pv 3) ag))))))))),?_}
 exists a,2,rfl,la,λH1 s1=>?_;exists b,2,rfl,lb,λH2 s2=>?_;let S2:=s1.trans s2;cases ea:rs 2 a with
 | none=>
  rw[ea] at kk;change kk .bA H2 S2 .bA
 | some f=>
  cases eb:rs 2 b with
  | none=>
   rw[ea,eb] at kk;change kk .bA H2 S2 .bA
  | some g=>
   rw[ea,eb] at kk;left
   by_cases hm:(g-7*f)%12=0
   ·refine QR (yY V.int hm) ?_
    left;refine{cT,laid λp H3 s3 hp=>kk (.ref p) H3 (S2.trans s3) ?_};show Ki H3 (.ref p) (if(g-7*f)%12=0 then some (f,g) else none);rw[yN hm];exact .ref hp
   ·refine b7 (by simp[hm]) ?_
    left;refine kk .bA H2 S2 ?_;show Ki H2 .bA (if(g-7*f)%12=0 then some (f,g) else none);rw[yM hm];exact .bA
def lV:dA P w K mg base (IF P w) 3 T.j9 T.j6 ["text"] (lP T.jn):=by
 let G_read_number:cZ P w base 1 T.dr gU:=gY T;let G_made_length:cZ P w base 2 T.eE fK:=i6 T;refine T.eB.F.VM eA (λvs H Q E h=>?_) (λcdv A' outer s H vs Q E hr h=>?_)
 ·let⟨_,rfl,_⟩:=h;rfl
 ·let⟨t,rfl,lt,k1,k2⟩:=h
  let sl:=yB;let pl:=PyProof.Rows.split_pos t "/";let sh:∀z∈Txt.split t "/",⇑z<=600:=λz hz=>zL (xO hz) lt;unfold O5 at k1 k2;refine{_,(ah (bR 1 eA.nd (bU yF yJ yI i9 (pv 0) (ak aN ag)))
   (ah (aJ (ptr eW (d6 aE T.bE (ak (pv 1) ag)) af)
   (ao (GN T.lE T.kX PySem.F.excBase_ValueError rfl (ak aN ag)))
   aC)
   (ah (bR 2 eA.nd (bN G_read_number hr T.dr (ak (fc (pv 1) af) (ak (bT (v:=.int 4) (by rfl) T.kC {_,rfl}) ag))))
   (ah (bR 3 eA.nd af)
   (ah (aJ (ptr de (d6 aE T.bE (ak (pv 1) ag)) af)
   (ao (bR 3 eA.nd (bN G_read_number hr T.dr (ak (fc (pv 1) af) (ak (bT (v:=.int 4) (by rfl) T.kC {_,rfl}) ag)))))
   aC)
   (ah (aJ (PW.pt (dB (bG (cz (pv 2))) (dB (bG (cz (pv 3))) (cU (ptr de (pv 3) af)))))
   (ao (GN T.lE T.kX PySem.F.excBase_ValueError rfl (ak aN ag)))
   aC)
   (ao (au (bN G_made_length hr T.eE (ak (pv 2) (ak (pv 3) ag))))))))))),?_}
  exists by ext,?_
  generalize Txt.split t "/"= ws at k1 k2 pl sh;intros p1 H1 s1 h1;exists p1,_,rfl,.inl (aI.of h1),?_
  match ws,pl,sh,k1,k2,h1 with
  | [a],_,sh,k1,k2,h1=>
   exists p1,_,0,_,rfl,rfl,aI.of h1,rfl,?_;exists a,4,rfl,sh a (by simp),λH2 s2=>?_;replace h1:=s2 _ _ h1;exists p1,_,rfl,.inl (aI.of h1),?_;cases ea:rn 4 a.cps.toList with
   | none=>
    simp only[ea] at k1 k2;left;refine{by show 1<=sizeLine;decide,k2 trivial H2 (s1.trans s2)}
   | some n=>
    simp only[ea] at k1 k2;let⟨n0,n1,_⟩:=Nq ea ∅;change{_,_,rfl,n0,∅,(di (n:=1) ∅ ∅).mono ∅,λp3 H3 s3 h3=>k1 _ rfl p3 H3 ((s1.trans s2).trans s3) h3}
  | [a,b],_,sh,k1,k2,h1=>
   exists p1,_,0,_,rfl,rfl,aI.of h1,rfl,?_;exists a,4,rfl,sh a (by simp),λH2 s2=>?_;replace h1:=s2 _ _ h1;exists p1,_,rfl,.inl (aI.of h1),?_;exists p1,_,1,_,rfl,rfl,aI.of h1,rfl,?_;exists b,4,rfl,sh b (by simp),λH3 s3=>?_;let S3:=(s1.trans s2).trans s3;cases ea:rn 4 a.cps.toList with
   | none=>
    simp only[ea] at k1 k2;change{by show 1<=sizeLine;decide,k2 trivial H3 S3}
   | some n=>
    cases eb:rn 4 b.cps.toList with
    | none=>
     simp only[ea,eb] at k1 k2;change{by show 1<=sizeLine;decide,k2 trivial H3 S3}
    | some m=>
     simp only[ea,eb] at k1 k2;let⟨n0,n1,_⟩:=Nq ea ∅;let⟨m0,m1,_⟩:=Nq eb ∅;left
     by_cases e0:m=0
     ·subst e0
      refine b7 ∅ ?_;change{by show 1<=sizeLine;decide,k2 rfl H3 S3}
     ·rw[yM e0] at k1
      refine cq (zd λy=>e0 (V.int.inj y)) ?_;change{_,_,rfl,n0,(),(di (n:=14) () ()).mono ∅,λp4 H4 s4 h4=>k1 _ rfl p4 H4 (S3.trans s4) h4}
  | a::b::c::r,_,sh,k1,k2,h1=>
   left;refine b7 (ze (show(2:Int)<(⇑((a::b::c::r).map V.str):Int) by rw[za];simp only[zt];ext)) ?_;change{by show 1<=sizeLine;decide,k2 rfl H1 s1}
def gN:cZ P w base 4 T.dH gM:=by
 let G_read_length:dA P w K mg base (IF P w) 3 T.j9 T.j6 ["text"] (lP T.jn):=lV T
 nomatch T.dH,["text","length"]
 let⟨t,rfl,lt,kk⟩:=h;unfold lr at kk;refine{_,(ah (PK G_read_length (hr.mono ∅) rfl T.eB.g T.eB.F.kp T.eB.b (ak (pv 0) ag) rfl qN (i:=1) rfl (Or.inl rfl) rfl T.lE T.kX rfl rfl rfl (λe=>(ao (au aT))))
  (ah (aJ (ptr de (bB (pv 1) af) af)
  (ao (au aT))
  aC)
  (ao (au (pv 1))))),?_}
 left;refine{lt,λx ex p1 H1 s1 h1=>?_,λen H1 s1=>{rfl,?_}}
 ·simp only[ex] at kk
  left
  by_cases e0:x.1=0
  ·refine b7 (by rw[e0];rfl) ?_
   left;rw[yN e0] at kk;exact kk .bA H1 s1 .bA
  ·refine cq (zd λy=>e0 (V.int.inj y)) ?_
   left;rw[yM e0] at kk;exact kk (.ref p1) H1 s1 (.ref h1)
 ·simp only[en] at kk
  change kk .bA H1 s1 .bA
def P8 {ws:List Str} (h:1<=⇑ws):DV (ws.map V.str) (-1)=some (.str (ws.getLast?.getD "")):=by
 let ne:ws≠[]:=λz=>by rw[z] at h;simp at h
 let e:=xU ne;let e2:ws.getLast?.getD ""= ws.getLast ne:=by rw[List.getLast?_eq_some_getLast ne];rfl
 rw[e2];let e3:ws.map V.str=ws.dropLast.map V.str++[V.str (ws.getLast ne)]:=by rw[<-List.map_singleton (f:=V.str),<-zj,e]
 rw[e3];exact BF _ _
def Ob {ws:List Str} (h:1<=⇑ws):ws.getLast?.getD "" ∈ws:=by
 let ne:ws≠[]:=λz=>by rw[z] at h;simp at h
 rw[List.getLast?_eq_some_getLast ne];exact List.getLast_mem ne
def Ct:cZ P w base 5 T.sA ox:=by
 let G_read_item_length:cZ P w base 4 T.dH gM:=gN T;let G_read_pitch:cZ P w base 3 T.iY mM:=mV T
 nomatch T.sA,["text","parts","length","pitch"]
 let⟨t,rfl,lt,kk⟩:=h;let sl:=yB;let pl:=PyProof.Rows.split_pos t ":";let sh:∀z∈Txt.split t ":",⇑z<=600:=λz hz=>zL (xO hz) lt;unfold ir at kk;refine{_,(ah (bR 1 qN (bU yF yJ yI i9 (pv 0) (ak aN ag)))
  (ah (bR 2 qN (bN G_read_item_length hr T.dH (ak (fc (pv 1) (qE kF af)) ag)))
  (ah (aJ (bG (cz (pv 2)))
  (ao (au aT))
  aC)
  (ah (aJ (PW.pt (dq (ptr de (d6 aE T.bE (ak (pv 1) ag)) af) (cV (ptr de (fc (pv 1) af) aN))))
  (ao (au (bI (ak aT (ak (pv 2) ag)))))
  aC)
  (ah (aJ (ptr jH (d6 aE T.bE (ak (pv 1) ag)) af)
  (ao (au aT))
  aC)
  (ah (bR 3 qN (bN G_read_pitch hr T.iY (ak (fc (pv 1) af) (ak (fc (pv 1) af) ag))))
  (ah (aJ (bG (cz (pv 3)))
  (ao (au aT))
  aC)
  (ao (au (bI (ak (pv 3) (ak (pv 2) ag)))))))))))),?_}
 exists by ext,?_
 generalize Txt.split t ":"= ws at kk pl sh;intros p1 H1 s1 h1;exists p1,_,-1,_,rfl,rfl,aI.of h1,P8 pl,?_;refine{_,rfl,sh _ (Ob pl),λv H2 s2 hv=>?_};let h2:=s2 _ _ h1;let S2:=s1.trans s2;generalize lr (ws.getLast?.getD "")=o at kk hv;cases hv with
 | bA=>
  change kk .bA H2 S2 rfl
 | @ref p2 x hx=>
  let kk':∀v H',aB H H'->Qx H' v (if ws.dropLast=[("r": Str)] then some (none,x) else match ws.dropLast with
   | [a,b]=>(match rp a b with | some q=>some (some q,x) | none=>none)
   | _=>none)->Q v H':=kk
  clear kk;exists p1,_,rfl,.inl (aI.of h2),?_
  match ws,pl,sh,kk',h2 with
  | [a],_,sh,kk,h2=>
   exists p1,_,rfl,.inl (aI.of h2),?_;change kk .bA H2 S2 rfl
  | [a,b],_,sh,kk,h2=>
   exists p1,_,0,_,rfl,rfl,aI.of h2,rfl,?_;left
   by_cases ea:a ="r"
   ·subst ea
    refine b7 ∅ ?_;change{cT,laid λp3 H3 s3 h3=>kk (.ref p3) H3 (S2.trans s3) {p3,_,p2,rfl,h3,s3 _ _ hx,.bA}}
   ·refine cq (zd λz=>ea (V.str.inj z)) ?_
    exists p1,_,rfl,.inl (aI.of h2),?_;left;refine kk .bA H2 S2 ?_;rw[yM (by intro z;exact ea (List.cons.inj z).1)];rfl
  | [a,b,c],_,sh,kk,h2=>
   exists p1,_,rfl,.inl (aI.of h2),?_;exists p1,_,0,_,rfl,rfl,aI.of h2,rfl,?_;exists p1,_,1,_,rfl,rfl,aI.of h2,rfl,?_;refine{a,b,rfl,sh a (by simp),sh b (by simp),λv H3 s3 hv=>?_};let kk2:∀v H',aB H H'->Qx H' v (match rp a b with | some q=>some (some q,x) | none=>none)->Q v H':=λv H' s' z=>kk v H' s' (by
    rw[yM (by intro y;simp at y)];exact z)
   generalize rp a b=o at kk2 hv;cases hv with
   | bA=>
    change kk2 .bA H3 (S2.trans s3) rfl
   | @ref p4 q hq=>
    change{cT,laid λp5 H5 s5 h5=>kk2 (.ref p5) H5 ((S2.trans s3).trans s5) {p5,_,p2,rfl,h5,s5 _ _ (s3 _ _ hx),.ref (s5 _ _ hq)}}
  | a::b::c::d::r,_,sh,kk,h2=>
   exists p1,_,rfl,.inl (aI.of h2),?_;left;refine kk .bA H2 S2 ?_;rw[yM (by intro y;simp at y)];rfl
def GY:cZ P w base 1 T.words_of Ge:=by
 nomatch T.words_of,["row"]
 let⟨t,rfl,hl,kk⟩:=h;let sl:=yB;let ple:=PyProof.Rows.split_le t " ";refine{_,(ao (au (mE (ts:=["word"]) (ys:=[]) (js:=[]) (g:=(bY 0)) (tc:=(lO (eO U3 (aY 0) (tC (.str ""))))) (te:=(aY 0)) (bc (bU yF yJ yI i9 (pv 0) (ak aN ag))) (gg 0) (gD (ptr jH (pv 0) aN)) (pv 0)))),?_};ac_rfl;exists by ext,?_
 unfold words at kk;generalize Txt.split t " "= ws at kk ple;intros p1 H1 s1 h1;refine{p1,rfl,{_,aI.of h1},?_};refine nc ⇑ws (λi=>((ws.take i).filter λw=>decide (w≠("": Str))).map V.str) (λi U H'=>H'=H1/\∃v,U=[v]) ?_ () rfl {(rfl),none,rfl} ?_ ?_ ?_ ?_
 ·intro i hi
  rw[za];exact zL (xf _ _) (by rw[zP];ext)
 ·rintro i U H' hi ⟨rfl,_⟩
  exact Hu (aI.of h1) (by rw[za];exact hi)
 ·rintro U H' ⟨rfl,_⟩
  exact{_,aI.of h1,by rw[za];exact zk _}
 ·rintro i x U H' H2 hi ⟨rfl,v,rfl⟩ ⟨rfl,hy⟩
  let hx:=hy _ (aI.of h1);rw[zJ,zb hi] at hx;cases hx;left
  by_cases e:ws[i] =""
  ·refine cq (by rw[e];rfl) ?_
   refine IH.skip hi ?_ {rfl,_,rfl};show List.map V.str (List.filter _ (List.take (i+1) ws))=List.map V.str (List.filter _ (List.take i ws));rw[xq,zb hi,e,yW];simp
  ·refine b7 (by rw[zd λz=>e (V.str.inj z)];rfl) ?_
   left;refine IH.push hi ?_ {rfl,_,rfl};show List.map V.str (List.filter _ (List.take (i+1) ws))=List.map V.str (List.filter _ (List.take i ws))++[V.str ws[i]];rw[xq,zb hi,yW,zj];have:List.filter (λw=>decide (w≠("": Str))) (Option.toList (some ws[i]))=[ws[i]]:=by simp[e]
   rw[this];rfl
 ·rintro U H' ⟨rfl,_⟩
  rw[zM];exact laid λp H' sm h=>kk p H' (s1.trans sm) h
def cb:cZ P w base 2 T.cQ jV:=by
 nomatch T.cQ,["word"]
 let⟨t,rfl,hl,kk⟩:=h;refine{_,(ao (au (bN (gY T) hr T.dr (ak (pv 0) (ak (bT (v:=.int (3)) (by rfl) T.kB {_,rfl}) ag))))),?_};ac_rfl;change{_,_,rfl,hl,kk}
def dN:cZ P w base 1 T.eP kJ:=by
 nomatch T.eP,["word"]
 let⟨t,rfl,hl,kk⟩:=h;let sl:=yB;let hz:⇑t<=sizeLine:=()
 let el:⇑t.cps.toList=⇑t:=yP;unfold cH at kk;refine{_,(ah (aJ (PW.pt (dB (ptr fe (d6 fY T.bE (ak (pv 0) ag)) af) (cU (ptr eW (d6 fY T.bE (ak (pv 0) ag)) (bT (v:=.int (12)) (by rfl) T.BC {_,rfl})))))
  (ao (au aT))
  aC)
  (ah (aJ (eC (cy (d6 (kA rfl) T.Hk (ak (mE (ts:=["sign"]) (ys:=[]) (js:=[]) (te:=(eO (λx y H Q=>∃i j,x=.str i/\y=.str j/\Q (.bl (!(Builtin.Str.occurrences j i 0 ⇑j 1).isEmpty)) H) (aY 0) (tC (.str "abcdefghijklmnopqrstuvwxyz0123456789")))) (NP (pv 0)) (gg 0) bg (cW Dw (pv 0) (bT (v:=.str "abcdefghijklmnopqrstuvwxyz0123456789") (by rfl) T.Fu {_,rfl}) (by with_unfolding_all rfl))) ag))))
  (ao (au aT))
  aC)
  (ao (au (pv 0))))),?_}
 ac_rfl;exists hz,?_;left;refine uP (λc1=>?_) (λc1=>?_)
 ·left
  let z:=kk H (aB.refl H);rw[yN (yd c1)] at z;exact z
 let c1':¬(⇑t:Int)<1:=λz=>c1 (ze z);rw[yM c1'] at kk;exists hz,?_;left;refine uP (λc2=>?_) (λc2=>?_)
 ·left
  let z:=kk H (aB.refl H);rw[yN (yd c2)] at z;exact z
 let c2':¬(12:Int)<(⇑t:Int):=λz=>c2 (ze z);rw[yM c2'] at kk;left;refine nc ⇑t (λi=>(t.cps.toList.take i).map λc=>V.bl (decide (c∈sgn))) (λi U H'=>H'=H/\∃v,U=[v]) (λi hi=>by rw[za,zP];ext) () rfl {(rfl),none,rfl} (λi U H' hi _=>hi) (λU H' _=>zk _) ?_ ?_
 ·rintro i x U H1 H2 hi ⟨rfl,v,rfl⟩ ⟨rfl,c,hc,rfl⟩
  left;refine IH.push hi ?_ {rfl,_,rfl};rw[PySem.StrLaws.found_one];rw[<-xg] at hc;show List.map _ (List.take (i+1) t.cps.toList)=_;rw[xq,hc,zj];rfl
 ·rintro U H1 ⟨rfl,_⟩
  rw[<-el,zM];intros D H2 s2 h2;refine{D,t.cps.toList.map (λc=>decide (c∈sgn)),rfl,aI.of (by rw[h2,zA];rfl),?_};let ea:(t.cps.toList.map (λc=>decide (c∈sgn))).all id=t.cps.toList.all (λc=>decide (c∈sgn)):=by rw[wa];rfl
  rw[ea]
  by_cases ha:t.cps.toList.all (λc=>decide (c∈sgn))=true
  ·rw[ha]
   rw[yN ha] at kk;change kk _ s2
  ·rw[yM ha] at kk
   rw[show t.cps.toList.all (λc=>decide (c∈sgn))=false from by simpa using ha];change kk _ s2
def mW:cZ P w base 3 T.jC Aj:=by
 nomatch T.jC,["word","lowest","highest","number"]
 let⟨t,lo,hi,rfl,hl,kk⟩:=h;unfold lU at kk;refine{_,(ah (bR 3 qN (bN (cb T) hr T.cQ (ak (pv 0) ag)))
  (ah (aJ (PW.pt (dB (bG (cz (pv 3))) (dB (ptr fe (pv 3) (pv 1)) (cU (ptr eW (pv 3) (pv 2))))))
  (ao (au aT))
  aC)
  (ao (au (pv 3))))),?_}
 ac_rfl;exists hl,λH1 s1=>?_;cases e:fw t with
 | none=>
  rw[e] at kk;change kk _ s1
 | some n=>
  rw[e] at kk;left
  by_cases c1:n<lo
  ·refine b7 (ze c1) ?_
   simp only[yN c1] at kk;change kk _ s1
  ·refine cq (zd c1) ?_
   simp only[yM c1] at kk;left
   by_cases c2:hi<n
   ·refine b7 (ze c2) ?_
    simp only[yN c2] at kk;change kk _ s1
   ·refine cq (zd c2) ?_
    simp only[yM c2] at kk;change kk _ s1
def EM:cZ P w base 4 T.su El:=by
 nomatch T.su,["word"]
 let⟨t,rfl,hl,kk⟩:=h;refine{_,(ao (PJ (lV T) (hr.mono ∅) rfl T.eB.g T.eB.F.kp T.eB.b (ak (pv 0) ag) rfl rfl T.lE T.kX rfl rfl rfl (λe=>(ao (au aT))))),?_};ac_rfl;left;refine{hl,λx e p H1 s1 h1=>?_,λe H1 s1=>{rfl,?_}}
 ·rw[e] at kk
  exact kk _ H1 s1 (.ref h1)
 ·rw[e] at kk
  change kk _ H1 s1 .bA
def EL:cZ P w base 4 T.sr Ek:=by
 nomatch T.sr,["fifths_word","steps_word","turn"]
 let⟨a,b,rfl,la,lb,kk⟩:=h;unfold AF at kk;refine{_,(ah (bR 2 qN (bN (mV T) hr T.iY (ak (pv 0) (ak (pv 1) ag))))
  (ah (aJ (PW.pt (dB (bG (cz (pv 2))) (cU (ptr eW (d6 Ij T.QP (ak (bB (pv 2) af) ag)) (bT (v:=.int (12)) (by rfl) T.BD {_,rfl})))))
  (ao (au aT))
  aC)
  (ao (au (pv 2))))),?_}
 ac_rfl;exists _,_,rfl,la,lb,λv H1 s1 h1=>?_;cases e:rp a b with
 | none=>
  rw[e] at kk h1;cases h1;change kk _ _ s1 .bA
 | some q=>
  rw[e] at kk h1;cases h1 with
  | ref h1=>
   left;refine uP (λc=>?_) (λc=>?_)
   ·simp only[yN (yd c)] at kk
    change kk _ _ s1 .bA
   ·simp only[yM (λz=>c (ze z))] at kk
    change kk _ _ s1 (.ref h1)
def G1:cZ P w base 3 T.AK Gh:=by
 nomatch T.AK,["word","key"]
 let⟨t,rfl,hl,kk⟩:=h;unfold GG at kk;refine{_,(ah (bR 1 qN (bN (lW T) hr T.fA (ak (pv 0) (ak (bT (v:=.int (3)) (by rfl) T.kB {_,rfl}) ag))))
  (ah (aJ (PW.pt (dB (bG (cz (pv 1))) (cU (ptr eW (d6 Ij T.QP (ak (pv 1) ag)) (bT (v:=.int (7)) (by rfl) T.CV {_,rfl})))))
  (ao (au aT))
  aC)
  (ao (au (pv 1))))),?_}
 ac_rfl;exists _,_,rfl,hl,λH1 s1=>?_;cases e:rs 3 t with
 | none=>
  rw[e] at kk;change kk _ s1
 | some n=>
  rw[e] at kk;left;refine uP (λc=>?_) (λc=>?_)
  ·simp only[yN (yd c)] at kk
   change kk _ s1
  ·simp only[yM (λz=>c (ze z))] at kk
   change kk _ s1
def dW:cZ P w base 1 T.dj (B6 K):=by
 nomatch T.dj,["values"]
 let⟨a,us,rfl,ha,hl,kk⟩:=h;let sl:=yB;refine{_,(ah (aJ (cy (d6 (gy rfl) T.A1 (ak (mE (ts:=["value"]) (ys:=[]) (js:=[]) (te:=(M3 (aY 0))) (bc (pv 0)) (gg 0) bg (sE (cz (pv 0)))) ag)))
  (ao (au aT))
  aC)
  (ao (au (pv 0)))),?_}
 ac_rfl;exists{_,ha},?_;refine eU (enc:=λv=>v) (ws:=us) (λv=>.bl (gi v)) (λU=>∃v,U=[v]) () (by rw[List.map_id'];exact ha) {(none),rfl} ?_ ?_
 ·rintro v U H1 R hv s1 ⟨_,rfl⟩ r
  change r _ _ _ (aB.refl _) (by unfold Is;rfl) {_,rfl}
 ·intro D vs H1 s1 hD il
  let e:us.map (λv=>Dt.bl (gi v))=(us.map gi).map Dt.bl:=by rw[zA];rfl
  rw[e] at il;rw[jf il] at hD;refine{D,us.map gi,rfl,aI.of hD,?_};let e2:(us.map gi).any id=us.any gi:=by rw[wC];rfl
  rw[e2];cases q:us.any gi with
  | true=>
   rw[q] at kk;change kk _ s1
  | false=>
   rw[q] at kk;change kk _ s1
def fg:cZ P w base 1 T.dj B5:=by
 nomatch T.dj,["values"]
 let⟨a,us,rfl,ha,hl,kk⟩:=h;let sl:=yB;refine{_,(ah (aJ (cy (d6 (gy rfl) T.A1 (ak (mE (ts:=["value"]) (ys:=[]) (js:=[]) (te:=(M3 (aY 0))) (gX (pv 0)) (gg 0) bg (sE (cz (pv 0)))) ag)))
  (ao (au aT))
  aC)
  (ao (au (pv 0)))),?_}
 ac_rfl;exists{_,cu.of ha},?_;refine fu (enc:=λv=>v) (ws:=us) (λv=>.bl (gi v)) (λU=>∃v,U=[v]) () (by rw[List.map_id'];exact ha) {(none),rfl} ?_ ?_
 ·rintro v U H1 R hv s1 ⟨_,rfl⟩ r
  change r _ _ _ (aB.refl _) (by unfold Is;rfl) {_,rfl}
 ·intro D vs H1 s1 hD il
  let e:us.map (λv=>Dt.bl (gi v))=(us.map gi).map Dt.bl:=by rw[zA];rfl
  rw[e] at il;rw[jf il] at hD;refine{D,us.map gi,rfl,aI.of hD,?_};let e2:(us.map gi).any id=us.any gi:=by rw[wC];rfl
  rw[e2];cases q:us.any gi with
  | true=>
   rw[q] at kk;change kk _ s1
  | false=>
   rw[q] at kk;change kk _ s1
theorem qY (n:Int):∀ns:List Int,E4 (.int n) (ns.map V.int)=decide (n∈ns)
 | []=>rfl
 | m::ns=>by
  let ih:=qY n ns;unfold E4 at ih ⊢;rw[zh,xn,ih]
  by_cases e:n=m
  ·subst e
   simp[JN]
  ·simp[JN,e,Ne.symm (a:=m) (b:=n) (λz=>e z.symm)]
   try ext
def Jm {t a b:Str} (h:Txt.split t "/"= [a,b]):iX t=(match lU a 1 32,fw b with | some m,some n=>if n∈CY then some (m,n) else none | _,_=>none):=by unfold iX;rw[h];try rfl
def LG {t:Str} (h:(Txt.split t "/").length≠2):iX t=none:=by
 unfold iX;split
 ·rename_i e;rw[e] at h;exact absurd rfl h
 ·rfl
def Nv {t a b:Str} (h:Txt.split t ":"= [a,b]):AG t=(match fw a,nr ((Txt.split b ",").map fw) with | some n,some ps=>some (n,ps) | _,_=>none):=by unfold AG;rw[h];try rfl
def Py {t:Str} (h:(Txt.split t ":").length≠2):AG t=none:=by
 unfold AG;split
 ·rename_i e;rw[e] at h;exact absurd rfl h
 ·rfl
def Cy:cZ P w base 4 T.oY (B4 K):=by
 nomatch T.oY,["word","parts","top","bottom"]
 let⟨t,rfl,hl,kk⟩:=h;let sl:=yB;let sh:∀z∈Txt.split t "/",⇑z<=600:=λz hz=>zL (xO hz) hl;refine{_,(ah (bR 1 qN (bU yF yJ yI i9 (pv 0) (ak aN ag)))
  (ah (aJ (ptr jH (d6 aE T.bE (ak (pv 1) ag)) af)
  (ao (au aT))
  aC)
  (ah (bR 2 qN (bN (mW T) hr T.jC (ak (fc (pv 1) af) (ak af (ak (bT (v:=.int (32)) (by rfl) T.vA {_,rfl}) ag)))))
  (ah (bR 3 qN (bN (cb T) hr T.cQ (ak (fc (pv 1) af) ag)))
  (ah (aJ (PW.pt (dB (bG (cz (pv 2))) (cU (gC dJ (pv 3) (bT (v:=.ref T.dS) (by rfl) T.u9 rfl) (by with_unfolding_all rfl)))))
  (ao (au aT))
  aC)
  (ao (au (bI (ak (pv 2) (ak (pv 3) ag)))))))))),?_}
 ac_rfl;exists by ext,?_
 generalize ew:Txt.split t "/"= ws at sh;intros p1 H1 s1 h1;exists p1,_,rfl,.inl (aI.of h1),?_;rw[za];left
 by_cases hw:⇑ws=2
 ·obtain⟨a,b,rfl⟩:∃a b,ws=[a,b]:=by
   match ws,hw with
   | [a,b],_=>exact{(a),b,rfl}
  refine cq rfl ?_;exists p1,_,0,_,rfl,rfl,aI.of h1,rfl,?_;refine{_,_,_,rfl,sh a (by simp),λH2 s2=>?_};exists p1,_,1,_,rfl,rfl,aI.of (s2 _ _ h1),rfl,?_;refine{_,rfl,sh b (by simp),λH3 s3=>?_};let s03:=(s1.trans s2).trans s3;rw[Jm ew] at kk;cases ea:lU a 1 32 with
  | none=>
   rw[ea] at kk;change kk _ _ s03 .bA
  | some m=>
   rw[ea] at kk;left;cases eb:fw b with
   | none=>
    rw[eb] at kk;refine{T.dS,_,rfl,.inr (T.md H3),rfl,rfl,?_};change kk _ _ s03 .bA
   | some n=>
    rw[eb] at kk;refine{T.dS,CY.map V.int,rfl,.inr (T.md H3),rfl,rfl,?_};show∃k,V.bl (!E4 (.int n) (CY.map V.int))=.bl k/\_;rw[qY]
    by_cases c:n∈CY
    ·rw[ze c]
     simp only[yN c] at kk;left;refine{cT,laid λp4 H4 s4 h4=>kk _ _ (s03.trans s4) (.ref h4)}
    ·rw[zd c]
     simp only[yM c] at kk;change kk _ _ s03 .bA
 ·refine b7 (by rw[zd λz=>hw (by have:=V.int.inj z;ext)];rfl) ?_
  left;rw[LG (by rw[ew];exact hw)] at kk;exact kk _ _ s1 .bA
def G3:cZ P w base 4 T.AL tJ:=by
 nomatch T.AL,["word","parts","bar","passes"]
 let⟨t,rfl,hl,kk⟩:=h;let sl:=yB;let sh:∀z∈Txt.split t ":",⇑z<=600:=λz hz=>zL (xO hz) hl;refine{_,(ah (bR 1 qN (bU yF yJ yI i9 (pv 0) (ak aN ag)))
  (ah (aJ (ptr jH (d6 aE T.bE (ak (pv 1) ag)) af)
  (ao (au aT))
  aC)
  (ah (bR 2 qN (bN (cb T) hr T.cQ (ak (fc (pv 1) af) ag)))
  (ah (bR 3 qN (bN (dW T) hr T.dj (ak (mE (ts:=["part"]) (ys:=[]) (js:=[]) (te:=(fI jV [] E0 (bM (aY 0) dR))) (bc (bU yF yJ yI i9 (fc (pv 1) af) (ak aN ag))) (gg 0) bg (bN (cb T) hr T.cQ (ak (pv 0) ag))) ag)))
  (ah (aJ (PW.pt (dB (bG (cz (pv 2))) (cU (bG (cz (pv 3))))))
  (ao (au aT))
  aC)
  (ao (au (bI (ak (pv 2) (ak (mD cK T.iB (ak (pv 3) ag)) ag)))))))))),?_}
 ac_rfl;exists by ext,?_
 generalize ew:Txt.split t ":"= ws at sh;intros p1 H1 s1 h1;exists p1,_,rfl,.inl (aI.of h1),?_;rw[za];left
 by_cases hw:⇑ws=2
 ·obtain⟨a,b,rfl⟩:∃a b,ws=[a,b]:=by
   match ws,hw with
   | [a,b],_=>exact{(a),b,rfl}
  refine cq rfl ?_;exists p1,_,0,_,rfl,rfl,aI.of h1,rfl,?_;refine{_,rfl,sh a (by simp),λH2 s2=>?_};exists p1,_,1,_,rfl,rfl,aI.of (s2 _ _ h1),rfl,?_;left;let lb:=sh b (by simp);let bl:=PyProof.Rows.split_le b ",";let bsh:∀z∈Txt.split b ",",⇑z<=600:=λz hz=>zL (xO hz) lb;refine{(),?_};rw[Nv ew] at kk;generalize Txt.split b ","= bs at kk bl bsh;intros p3 H3 s3 h3;exists{_,aI.of h3},?_;refine eU (enc:=V.str) (ws:=bs) (λz=>dO .int (fw z)) (λU=>∃v,U=[v]) () (aI.of h3) {(none),rfl} ?_ ?_
  ·rintro z U H4 R hz s4 ⟨_,rfl⟩ r
   change{bsh z hz,λH5 s5=>r _ _ _ s5 (A8 _) {_,rfl}}
  ·intro D vs H4 s4 hD il
   let s04:=((s1.trans s2).trans s3).trans s4;refine{D,vs,rfl,aI.of hD,by rw[il.len,za];ext,λH5 s5=>?_};let e1:bs.map (λz=>dO Dt.int (fw z))=(bs.map fw).map (dO Dt.int):=by rw[zA];rfl
   rw[e1] at il;rw[jP il];cases q:((bs.map fw).map (dO Dt.int)).any Dt.gi with
   | true=>
    rw[iU Ou q] at kk;let kn:=kk .bA H5 (s04.trans s5) (by cases fw a <;> (unfold dO Is;rfl));cases ea:fw a with
    | none=>change kn
    | some n=>change kn
   | false=>
    let⟨xs,e2,e3,e4⟩:=iT q;rw[e2] at kk;rw[e3] at il;let ev:=d4 il;subst ev;cases ea:fw a with
    | none=>
     rw[ea] at kk;change kk .bA H5 (s04.trans s5) (by unfold dO Is;rfl)
    | some n=>
     rw[ea] at kk;left;refine{D,_,rfl,.inl {aI.of (s5 _ _ hD),?_}};intros p6 H6 s6 h6;left;refine{cT,laid λp7 H7 s7 h7=>kk _ _ (((s04.trans s5).trans s6).trans s7) ?_};show Is H7 (.tup [.int n,.tup (xs.map .int)]) _;unfold Is;refine{p7,_,rfl,h7,?_};unfold aD;refine{_,_,rfl,by unfold Is;rfl,?_};unfold aD;refine{_,_,rfl,?_,by unfold aD;rfl};unfold Is;exact{p6,_,rfl,s7 _ _ h6,qW}
 ·refine b7 (by rw[zd λz=>hw (by have:=V.int.inj z;ext)];rfl) ?_
  left;rw[Py (by rw[ew];exact hw)] at kk;exact kk _ _ s1 (by unfold dO Is;rfl)
def NW {α:Type} {f:Str->Option α} {ws:List Str} (h:⇑ws≠1):one f ws=none:=by
 match ws,h with
 | [],_=>rfl
 | [_],h=>exact absurd rfl h
 | _::_::_,_=>rfl
def AY:cZ P w base 2 T.jF (fJ K (oF .str (one cH))):=by
 nomatch T.jF,["words"]
 let⟨p,ws,rfl,hp,hl,sh,kk⟩:=h;refine{_,(ah (aJ (ptr jH (d6 aE T.bE (ak (pv 0) ag)) af)
  (ao (au aT))
  aC)
  (ao (au (bN (dN T) hr T.eP (ak (fc (pv 0) af) ag))))),?_}
 ac_rfl;exists p,_,rfl,.inl hp,?_;rw[za];left
 by_cases hw:⇑ws=1
 ·obtain⟨a,rfl⟩:∃a,ws=[a]:=by
   match ws,hw with
   | [a],_=>exact{(a),rfl}
  refine cq rfl ?_;exists p,_,0,_,rfl,rfl,hp,rfl,?_;exact{_,rfl,sh a (by simp),λH1 s1=>kk _ _ s1 (DF _)}
 ·refine b7 (by rw[zd λz=>hw (by have:=V.int.inj z;ext)];rfl) ?_
  left;refine kk _ _ (aB.refl _) ?_;unfold oF;rw[NW hw];exact dP
def AW:cZ P w base 5 T.jD (fJ K (oF dL (one lr))):=by
 nomatch T.jD,["words"]
 let⟨p,ws,rfl,hp,hl,sh,kk⟩:=h;refine{_,(ah (aJ (ptr jH (d6 aE T.bE (ak (pv 0) ag)) af)
  (ao (au aT))
  aC)
  (ao (au (bN (gN T) hr T.dH (ak (fc (pv 0) af) ag))))),?_}
 ac_rfl;exists p,_,rfl,.inl hp,?_;rw[za];left
 by_cases hw:⇑ws=1
 ·obtain⟨a,rfl⟩:∃a,ws=[a]:=by
   match ws,hw with
   | [a],_=>exact{(a),rfl}
  refine cq rfl ?_;exists p,_,0,_,rfl,rfl,hp,rfl,?_;exact{_,rfl,sh a (by simp),λv H1 s1 h1=>kk _ _ s1 (A7 h1)}
 ·refine b7 (by rw[zd λz=>hw (by have:=V.int.inj z;ext)];rfl) ?_
  left;refine kk _ _ (aB.refl _) ?_;unfold oF;rw[NW hw];exact dP
def Fp {α:Type} (d:α->Dt) (o:Option α):dO d o=(o.map d).getD .bA:=by cases o <;> rfl
def FD {H:Hp} {ds:List Dt} {us:List V} {a:vy} {d:Option Dt} (ha:H a=some (.tup us)) (il:aD H ds us) (h1:ds.any Dt.gi=true->d=none) (h2:ds.any Dt.gi=false->d=some (.tup ds)):Is H (d.getD .bA) (if us.any gi=true then .bA else .ref a):=by
 rw[jP il];cases q:ds.any Dt.gi with
 | true=>rw[h1 q];exact dP
 | false=>rw[h2 q];exact cB ha il
def o9:cZ P w base 5 T.fm (fJ K (oF dZ kW)):=by
 nomatch T.fm,["words"]
 let⟨p,ws,rfl,hp,hl,sh,kk⟩:=h;refine{_,(ah (aJ (ptr jH (d6 aE T.bE (ak (pv 0) ag)) af)
  (ao (au aT))
  aC)
  (ao (au (bN (fg T) hr T.dj (ak (bI (ak (bN (dN T) hr T.eP (ak (fc (pv 0) af) ag)) (ak (bN (EL T) hr T.sr (ak (fc (pv 0) af) (ak (fc (pv 0) af) ag))) (ak (bN (EM T) hr T.su (ak (fc (pv 0) af) ag)) ag)))) ag))))),?_}
 ac_rfl;exists p,_,rfl,.inl hp,?_;rw[za];left
 by_cases hw:⇑ws=4
 ·obtain⟨a,b,c,d,rfl⟩:∃a b c d,ws=[a,b,c,d]:=by
   match ws,hw with
   | [a,b,c,d],_=>exact{(a),b,c,d,rfl}
  refine cq rfl ?_;exists p,_,0,_,rfl,rfl,hp,rfl,?_;refine{_,rfl,sh a (by simp),λH1 s1=>?_};exists p,_,1,_,rfl,rfl,s1.seq hp,rfl,?_;exists p,_,2,_,rfl,rfl,s1.seq hp,rfl,?_;refine{_,_,rfl,sh b (by simp),sh c (by simp),λv2 H2 s2 h2=>?_};exists p,_,3,_,rfl,rfl,(s1.trans s2).seq hp,rfl,?_;refine{_,rfl,sh d (by simp),λv3 H3 s3 h3=>?_};exists mR,?_;intros p4 H4 s4 h4;let s24:=s3.trans s4;refine{p4,_,rfl,h4,(by show 3<=1000000;decide),λH5 s5=>kk _ _ (((s1.trans s2).trans s24).trans s5) ?_};unfold oF;rw[Fp];refine FD (s5 _ _ h4) (aR (DF _) (aR (A7 (h2.mono (s24.trans s5))) (m7 (A7 (h3.mono (s4.trans s5)))))) ?_ ?_
  ·simp only[kW]
   cases cH a <;> cases AF b c <;> cases O5 d <;> first | (intro _;rfl) | (intro q;exact absurd q (by simp[dO,dL,Dt.gi]))
  ·simp only[kW]
   cases cH a <;> cases AF b c <;> cases O5 d <;> first | (intro _;rfl) | (intro q;exact absurd q (by simp[dO,dL,Dt.gi]))
 ·refine b7 (by rw[zd λz=>hw (by have:=V.int.inj z;ext)];rfl) ?_
  left;refine kk _ _ (aB.refl _) ?_;let e:kW ws=none:=by
   unfold kW;split
   ·exact absurd rfl hw
   ·rfl
  unfold oF;rw[e];exact dP
def EO:cZ P w base 3 T.nJ (fJ K (oF tZ qB)):=by
 nomatch T.nJ,["words"]
 let⟨p,ws,rfl,hp,hl,sh,kk⟩:=h;refine{_,(ah (aJ (ptr jH (d6 aE T.bE (ak (pv 0) ag)) af)
  (ao (au aT))
  aC)
  (ao (au (bN (fg T) hr T.dj (ak (bI (ak (bN (dN T) hr T.eP (ak (fc (pv 0) af) ag)) (ak (bN (cb T) hr T.cQ (ak (fc (pv 0) af) ag)) (ak (bN (dN T) hr T.eP (ak (fc (pv 0) af) ag)) ag)))) ag))))),?_}
 ac_rfl;exists p,_,rfl,.inl hp,?_;rw[za];left
 by_cases hw:⇑ws=3
 ·obtain⟨a,b,c,rfl⟩:∃a b c,ws=[a,b,c]:=by
   match ws,hw with
   | [a,b,c],_=>exact{(a),b,c,rfl}
  refine cq rfl ?_;exists p,_,0,_,rfl,rfl,hp,rfl,?_;refine{_,rfl,sh a (by simp),λH1 s1=>?_};exists p,_,1,_,rfl,rfl,s1.seq hp,rfl,?_;refine{_,rfl,sh b (by simp),λH2 s2=>?_};exists p,_,2,_,rfl,rfl,(s1.trans s2).seq hp,rfl,?_;refine{_,rfl,sh c (by simp),λH3 s3=>?_};exists mR,?_;intros p4 H4 s4 h4;refine{p4,_,rfl,h4,(by show 3<=1000000;decide),λH5 s5=>kk _ _ (((s1.trans s2).trans (s3.trans s4)).trans s5) ?_};unfold oF;rw[Fp];refine FD (s5 _ _ h4) (aR (DF _) (aR (A8 _) (m7 (DF _)))) ?_ ?_
  ·simp only[qB]
   cases cH a <;> cases fw b <;> cases cH c <;> first | (intro _;rfl) | (intro q;exact absurd q (by simp[dO,dL,Dt.gi]))
  ·simp only[qB]
   cases cH a <;> cases fw b <;> cases cH c <;> first | (intro _;rfl) | (intro q;exact absurd q (by simp[dO,dL,Dt.gi]))
 ·refine b7 (by rw[zd λz=>hw (by have:=V.int.inj z;ext)];rfl) ?_
  left;refine kk _ _ (aB.refl _) ?_;let e:qB ws=none:=by
   unfold qB;split
   ·exact absurd rfl hw
   ·rfl
  unfold oF;rw[e];exact dP
def mZ {H:Hp} {ws:List Str} {vs:List V} {α:Type} {d:α->Dt} {f:Str->Option α} (il:aD H (ws.map λz=>dO d (f z)) vs):aD H ((ws.map f).map (dO d)) vs:=by
 let e:ws.map (λz=>dO d (f z))=(ws.map f).map (dO d):=by rw[zA];rfl
 rw[<-e];exact il
def Cu:cZ P w base 2 T.kR (fJ K (oF gw o6)):=by
 nomatch T.kR,["words","names"]
 let⟨p,ws,rfl,hp,hl,sh,kk⟩:=h;let sl:=yB;refine{_,(ah (aJ (ptr fe (d6 aE T.bE (ak (pv 0) ag)) af)
  (ao (au aT))
  aC)
  (ah (bR 1 qN (bN (dW T) hr T.dj (ak (mE (ts:=["word"]) (ys:=[]) (js:=[]) (te:=(fI kJ [] E0 (bM (aY 0) dR))) (bc (pv 0)) (gg 0) bg (bN (dN T) hr T.eP (ak (pv 0) ag))) ag)))
  (ah (aJ (bG (cz (pv 1)))
  (ao (au aT))
  aC)
  (ao (au (bI (ak (fc (pv 1) af) (ak (mD cK T.iB (ak (cL gB (pv 1) (dt af) du) ag)) ag)))))))),?_}
 ac_rfl;exists p,_,rfl,.inl hp,?_;rw[za];left;refine uP (λc=>?_) (λc=>?_)
 ·left
  refine kk _ _ (aB.refl _) ?_;let hw:=yd c;let e:o6 ws=none:=by
   unfold o6;split
   ·simp at hw;ext
   ·rfl
  unfold oF;rw[e];exact dP
 ·let hw:¬(⇑ws:Int)<2:=λz=>c (ze z)
  obtain⟨a,b,r,rfl⟩:∃a b r,ws=a::b::r:=by
   match ws,hw with
   | [],h=>exact absurd (by simp) h
   | [_],h=>exact absurd (by simp) h
   | a::b::r,_=>exact{(a),b,r,rfl}
  exists{_,hp},?_;refine eU (enc:=V.str) (ws:=a::b::r) (λz=>dO .str (cH z)) (λU=>∃v,U=[v]) () hp {(none),rfl} ?_ ?_
  ·rintro z U H4 R hz s4 ⟨_,rfl⟩ r
   change{sh z hz,λH5 s5=>r _ _ _ s5 (DF _) {_,rfl}}
  ·intro D vs H4 s4 hD il
   refine{D,vs,rfl,aI.of hD,by rw[il.len,za];ext,λH5 s5=>?_};let il:=mZ il;rw[jP il];cases q:(((a::b::r).map cH).map (dO Dt.str)).any Dt.gi with
   | true=>
    left;refine kk _ _ (s4.trans s5) ?_;unfold oF;rw[oZ,iU HD q];exact dP
   | false=>
    let⟨xs,e2,e3,e4⟩:=iT q;rw[e3] at il;let ev:=dw il;subst ev;obtain⟨n,ps,rfl⟩:∃n ps,xs=n::ps:=by
     match xs,e4 with
     | n::ps,_=>exact{(n),ps,rfl}
    let hD5:=s5 _ _ hD;exists D,_,0,_,rfl,rfl,aI.of hD5,bj (j:=0) rfl,?_;exists D,_,rfl,aI.of hD5,?_;rw[show j8 (List.map V.str (n::ps)) (some 1) none=ps.map V.str from(fC _ 1).trans rfl];intros p6 H6 s6 h6;left;refine{p6,_,rfl,.inl {aI.of h6,?_}};intros p7 H7 s7 h7;left;refine{cT,laid λp8 H8 s8 h8=>kk _ _ (((((s4.trans s5).trans s6).trans s7)).trans s8) ?_};unfold oF;rw[oZ,e2];exact cB h8 (aR eG (m7 (cB (s8 _ _ h7) Ee)))
def G4:cZ P w base 5 T.qz (fJ K (oF jz Cs)):=by
 nomatch T.qz,["words","marks"]
 let⟨p,ws,rfl,hp,hl,sh,kk⟩:=h;let sl:=yB;refine{_,(ah (aJ (ptr fe (d6 aE T.bE (ak (pv 0) ag)) af)
  (ao (au aT))
  aC)
  (ah (bR 1 qN (bN (dW T) hr T.dj (ak (mE (ts:=["word"]) (ys:=[]) (js:=[]) (te:=(fI kJ [] E0 (bM (aY 0) dR))) (bc (cL gB (pv 0) (dt af) du)) (gg 0) bg (bN (dN T) hr T.eP (ak (pv 0) ag))) ag)))
  (ah (aJ (bG (cz (pv 1)))
  (ao (au aT))
  aC)
  (ao (au (bN (fg T) hr T.dj (ak (bI (ak (bN (Cy T) hr T.oY (ak (fc (pv 0) af) ag)) (ak (bN (G1 T) hr T.AK (ak (fc (pv 0) af) ag)) (ak (mD cK T.iB (ak (pv 1) ag)) ag)))) ag))))))),?_}
 ac_rfl;exists p,_,rfl,.inl hp,?_;rw[za];left;refine uP (λc=>?_) (λc=>?_)
 ·left
  refine kk _ _ (aB.refl _) ?_;let hw:=yd c;let e:Cs ws=none:=by
   unfold Cs;split
   ·simp at hw;ext
   ·rfl
  unfold oF;rw[e];exact dP
 ·let hw:¬(⇑ws:Int)<2:=λz=>c (ze z)
  obtain⟨a,b,r,rfl⟩:∃a b r,ws=a::b::r:=by
   match ws,hw with
   | [],h=>exact absurd (by simp) h
   | [_],h=>exact absurd (by simp) h
   | a::b::r,_=>exact{(a),b,r,rfl}
  rw[zt,zt] at hl;exists p,_,rfl,hp,?_;rw[show j8 (List.map V.str (a::b::r)) (some 2) none=r.map V.str from(fC _ 2).trans rfl];intros p1 H1 s1 h1;exists{_,aI.of h1},?_;refine eU (enc:=V.str) (ws:=r) (λz=>dO .str (cH z)) (λU=>∃v,U=[v]) () (aI.of h1) {(none),rfl} ?_ ?_
  ·rintro z U H4 R hz s4 ⟨_,rfl⟩ r
   change{sh z (by simp[hz]),λH5 s5=>r _ _ _ s5 (DF _) {_,rfl}}
  ·intro D vs H4 s4 hD il
   refine{D,vs,rfl,aI.of hD,by rw[il.len,za];ext,λH5 s5=>?_};let il:=mZ il;rw[jP il];let s05:=(s1.trans s4).trans s5;cases q:((r.map cH).map (dO Dt.str)).any Dt.gi with
   | true=>
    left;refine kk _ _ s05 ?_;unfold oF;simp only[Cs];rw[iU HD q];exact dP
   | false=>
    let⟨xs,e2,e3,e4⟩:=iT q;rw[e3] at il;let ev:=dw il;subst ev;let hD5:=s5 _ _ hD;exists p,_,0,_,rfl,rfl,s05.seq hp,bj (j:=0) rfl,?_;refine{_,rfl,sh a (by simp),λv6 H6 s6 h6=>?_};exists p,_,1,_,rfl,rfl,(s05.trans s6).seq hp,bj (j:=1) rfl,?_;refine{_,rfl,sh b (by simp),λH7 s7=>?_};left;refine{D,_,rfl,.inl {aI.of (s7 _ _ (s6 _ _ hD5)),?_}};intros p8 H8 s8 h8;exists mR,?_;intros p9 H9 s9 h9;refine{p9,_,rfl,h9,(by show 3<=1000000;decide),λHx sx=>kk _ _ (((((s05.trans s6).trans s7).trans s8).trans s9).trans sx) ?_};unfold oF;rw[Fp];refine FD (ds:=[dO dL (iX a),dO .int (GG b),kz xs]) (sx _ _ h9) (aR (A7 (h6.mono (((s7.trans s8).trans s9).trans sx))) (aR (A8 _) (m7 (cB (sx _ _ (s9 _ _ h8)) Ee)))) ?_ ?_
    ·simp only[Cs]
     rw[e2];cases iX a <;> cases GG b <;> first | (intro _;rfl) | (intro q;exact absurd q (by simp[dO,dL,Dt.gi,kz]))
    ·simp only[Cs]
     rw[e2];cases iX a <;> cases GG b <;> first | (intro _;rfl) | (intro q;exact absurd q (by simp[dO,dL,Dt.gi,kz]))
theorem nU {H:Hp} {α:Type} {d:α->Dt}:∀{xs:List α} {vs:List V},aD H (xs.map d) vs->∃ps:List (α×V),ps.map (·.1)=xs/\ps.map (·.2)=vs/\∀q∈ps,Is H (d q.1) q.2
 | [],_,h=>by unfold aD at h;exact{[],rfl,h.symm,λ_ z=>nomatch z}
 | x::xs,_,h=>by
  rw[zh] at h;unfold aD at h;let⟨u,r,rfl,h1,h2⟩:=h;let⟨ps,e1,e2,hh⟩:=nU h2;refine{(x,u)::ps,by simp[e1],by simp[e2],λq m=>?_};rcases zC.mp m with e | m
  ·subst e;exact h1
  ·exact hh q m
def item_at {H:Hp} {it:Item} {v:V} (h:Is H (eJ it) v):∃a pv lv,v=.ref a/\H a=some (.tup [pv,lv])/\Is H (dO dL it.1) pv/\Is H (dL it.2) lv:=by
 unfold eJ Is at h;let⟨a,vs,rfl,ha,hl⟩:=h;unfold aD at hl;let⟨pv,r,rfl,h1,hl⟩:=hl;unfold aD at hl;let⟨lv,r,rfl,h2,hl⟩:=hl;unfold aD at hl;subst hl;exact{(a),pv,lv,rfl,ha,h1,h2}
def Tv {H:Hp} {α:Type} {d:α->Dt} (f:Kl d) {o:Option α} {v:V} (h:Is H (dO d o) v):gi v=o.isNone:=by
 rw[Od h];cases o with
 | none=>rfl
 | some x=>exact f x
def Cw:cZ P w base 6 T.kT (fJ K TV):=by
 nomatch T.kT,["words","items"]
 let⟨p,ws,rfl,hp,hl,sh,kk⟩:=h;let sl:=yB;refine{_,(ah (aJ (ptr fe (d6 aE T.bE (ak (pv 0) ag)) af)
  (ao (au aT))
  aC)
  (ah (bR 1 qN (bN (dW T) hr T.dj (ak (mE (ts:=["word"]) (ys:=[]) (js:=[]) (te:=(fI ox [] E0 (bM (aY 0) dR))) (bc (cL gB (pv 0) (dt af) du)) (gg 0) bg (bN (Ct T) hr T.sA (ak (pv 0) ag))) ag)))
  (ah (aJ (PW.pt (dB (bG (cz (pv 1))) (cU (cy (d6 (kA rfl) T.Hk (ak (mE (ts:=["item"]) (ys:=[]) (js:=[]) (te:=(M3 (eO (kU K) (aY 0) (tC (.int (0)))))) (bc (pv 1)) (gg 0) bg (sE (cz (bB (pv 0) af)))) ag))))))
  (ao (au aT))
  aC)
  (ao (au (bN (fg T) hr T.dj (ak (bI (ak (bN (cb T) hr T.cQ (ak (fc (pv 0) af) ag)) (ak (bN (dN T) hr T.eP (ak (fc (pv 0) af) ag)) (ak (pv 1) ag)))) ag))))))),?_}
 ac_rfl;exists p,_,rfl,.inl hp,?_;rw[za];left;refine uP (λc=>?_) (λc=>?_)
 ·left
  refine kk _ _ (aB.refl _) ?_;let hw:=yd c;let e:jX ws=none:=by
   unfold jX;split
   ·simp at hw;ext
   ·rfl
  unfold TV;rw[e]
 ·let hw:¬(⇑ws:Int)<3:=λz=>c (ze z)
  obtain⟨a,b,i,r,rfl⟩:∃a b i r,ws=a::b::i::r:=by
   match ws,hw with
   | [],h=>exact absurd (by simp) h
   | [_],h=>exact absurd (by simp) h
   | [_,_],h=>exact absurd (by simp) h
   | a::b::i::r,_=>exact{(a),b,i,r,rfl}
  let en:jX (a::b::i::r)=(match nr ((i::r).map ir) with | some l=>if l.all (λit=>it.1.isNone)=true then none else(match fw a,cH b with | some x,some y=>some (x,y,l) | _,_=>none) | none=>none):=rfl;unfold TV at kk;rw[en] at kk;let sh':∀z∈i::r,⇑z<=600:=λz hz=>sh z (by simp at hz ⊢;rcases hz with h | h <;> simp[h]);let hl':⇑(i::r)<=1000000:=by simp at hl ⊢;ext
  exists p,_,rfl,hp,?_;rw[show j8 (List.map V.str (a::b::i::r)) (some 2) none=(i::r).map V.str from(fC _ 2).trans rfl];clear en;generalize i::r=its at kk sh' hl';intros p1 H1 s1 h1;exists{_,aI.of h1},?_;refine dz (enc:=V.str) (ws:=its) (λz=>dO eJ (ir z)) (λU=>∃v,U=[v]) () (aI.of h1) {(none),rfl} ?_ ?_
  ·rintro z U H4 R hz s4 ⟨_,rfl⟩ r
   change{sh' z hz,λv H5 s5 h5=>r _ _ _ s5 (Tu h5) {_,rfl}}
  ·intro D vs H4 s4 nD hD il
   refine{D,vs,rfl,aI.of hD,by rw[il.len,za];ext,λH5 s5=>?_};let il:=mZ il;rw[jP il];let s05:=(s1.trans s4).trans s5;cases q:((its.map ir).map (dO eJ)).any Dt.gi with
   | true=>
    left;refine kk _ _ s05 ?_;rw[iU L6 q]
   | false=>
    let⟨xs,e2,e3,e4⟩:=iT q;rw[e3] at il;rw[e2] at kk;let il5:=il.mono s5;let hD5:=s5 _ _ hD;let⟨ps,f1,f2,f3⟩:=nU il5;let pl:⇑ps<=1000000:=by
     have:⇑ps=⇑xs:=by rw[<-f1,za]
     rw[this,e4,za];exact hl'
    exists{_,aI.of hD5},?_;refine eU (enc:=λq:Item×V=>q.2) (ws:=ps) (λq=>.bl q.1.1.isNone) (λU=>∃v,U=[v]) () (by rw[f2];exact aI.of hD5) {(none),rfl} ?_ ?_
    ·rintro z U H6 R hz s6 ⟨_,rfl⟩ r
     let⟨a6,pv,lv,ev,h6,h7,h8⟩:=item_at (f3 z hz);rw[ev];let h66:=s6 _ _ h6;left;refine r _ _ _ (aB.refl _) ?_ {_,rfl};rw[<-Tv Sb h7];unfold Is;rfl
    ·intro D2 vs2 H6 s6 hD2 il2
     let e5:ps.map (λq=>Dt.bl q.1.1.isNone)=(ps.map λq=>q.1.1.isNone).map Dt.bl:=by rw[zA];rfl
     rw[e5] at il2;rw[jf il2] at hD2;refine{D2,_,rfl,aI.of hD2,?_};let e6:(ps.map λq=>q.1.1.isNone).all id=xs.all λit=>it.1.isNone:=by rw[<-f1,wa,wa];rfl
     rw[e6];cases qa:xs.all λit=>it.1.isNone with
     | true=>
      dsimp only at kk;rw[qa] at kk;change kk _ _ (s05.trans s6) rfl
     | false=>
      dsimp only at kk;rw[qa] at kk;let s06:=s05.trans s6;exists p,_,0,_,rfl,rfl,s06.seq hp,bj (j:=0) rfl,?_;refine{_,rfl,sh a (by simp),λH7 s7=>?_};exists p,_,1,_,rfl,rfl,(s06.trans s7).seq hp,bj (j:=1) rfl,?_;refine{_,rfl,sh b (by simp),λH8 s8=>?_};exists mR,?_;intros p9 H9 s9 h9;let s59:=((s6.trans s7).trans s8).trans s9;refine{p9,_,rfl,h9,(by show 3<=1000000;decide),λHx sx=>kk _ _ ((s05.trans s59).trans sx) ?_};let s5x:=s59.trans sx;let h9x:=sx _ _ h9;clear h9
      revert h9x
      cases fw a <;> cases cH b <;> intro h9x <;> first | rfl | exact⟨p9,D,vs,rfl,h9x,s5x _ _ hD5,il5.mono s5x,s1.back nD⟩
def AX:cZ P w base 5 T.jE (fJ K (oF ji jG)):=by
 nomatch T.jE,["words","times","ends"]
 let⟨p,ws,rfl,hp,hl,sh,kk⟩:=h;let sl:=yB;refine{_,(ah (aJ (ptr fe (d6 aE T.bE (ak (pv 0) ag)) af)
  (ao (au aT))
  aC)
  (ah (bR 1 qN (bN (mW T) hr T.jC (ak (fc (pv 0) af) (ak (bT (v:=.int (2)) (by rfl) T.BE {_,rfl}) (ak (bT (v:=.int (9)) (by rfl) T.Fv {_,rfl}) ag)))))
  (ah (bR 2 qN (bN (dW T) hr T.dj (ak (mE (ts:=["word"]) (ys:=[]) (js:=[]) (te:=(fI tJ [] E0 (bM (aY 0) dR))) (bc (cL gB (pv 0) (dt af) du)) (gg 0) bg (bN (G3 T) hr T.AL (ak (pv 0) ag))) ag)))
  (ah (aJ (bG (cz (pv 2)))
  (ao (au aT))
  aC)
  (ao (au (bN (fg T) hr T.dj (ak (bI (ak (bN (cb T) hr T.cQ (ak (fc (pv 0) af) ag)) (ak (bN (cb T) hr T.cQ (ak (fc (pv 0) af) ag)) (ak (pv 1) (ak (mD cK T.iB (ak (pv 2) ag)) ag))))) ag)))))))),?_}
 ac_rfl;exists p,_,rfl,.inl hp,?_;rw[za];left;refine uP (λc=>?_) (λc=>?_)
 ·left
  refine kk _ _ (aB.refl _) ?_;let hw:=yd c;let e:jG ws=none:=by
   unfold jG;split
   ·simp at hw;ext
   ·rfl
  unfold oF;rw[e];exact dP
 ·let hw:¬(⇑ws:Int)<3:=λz=>c (ze z)
  obtain⟨a,b,c',r,rfl⟩:∃a b i r,ws=a::b::i::r:=by
   match ws,hw with
   | [],h=>exact absurd (by simp) h
   | [_],h=>exact absurd (by simp) h
   | [_,_],h=>exact absurd (by simp) h
   | a::b::i::r,_=>exact{(a),b,i,r,rfl}
  let en:jG (a::b::c'::r)=(match nr (r.map AG) with | some l=>(match fw a,fw b,lU c' 2 9 with | some x,some y,some z=>some {(x),y,z,l} | _,_,_=>none) | none=>none):=rfl;unfold oF at kk;rw[en] at kk;let sh':∀z∈r,⇑z<=600:=λz hz=>sh z (by simp[hz]);let hl':⇑r<=1000000:=by simp at hl ⊢;ext
  exists p,_,2,_,rfl,rfl,hp,bj (j:=2) rfl,?_;refine{_,_,_,rfl,sh c' (by simp),λH0 s0=>?_};exists p,_,rfl,s0.seq hp,?_;rw[show j8 (List.map V.str (a::b::c'::r)) (some 3) none=r.map V.str from(fC _ 3).trans rfl];intros p1 H1 s1 h1;exists{_,aI.of h1},?_;refine eU (enc:=V.str) (ws:=r) (λz=>dO mz (AG z)) (λU=>∃v,U=[v]) () (aI.of h1) {(none),rfl} ?_ ?_
  ·rintro z U H4 R hz s4 ⟨_,rfl⟩ r
   change{sh' z hz,λv H5 s5 h5=>r _ _ _ s5 h5 {_,rfl}}
  ·intro D vs H4 s4 hD il
   refine{D,vs,rfl,aI.of hD,by rw[il.len,za];ext,λH5 s5=>?_};let il:=mZ il;rw[jP il];let s05:=((s0.trans s1).trans s4).trans s5;cases q:((r.map AG).map (dO mz)).any Dt.gi with
   | true=>
    left;refine kk _ _ s05 ?_;rw[iU Ov q];exact dP
   | false=>
    let⟨xs,e2,e3,e4⟩:=iT q;rw[e3] at il;rw[e2] at kk;let il5:=il.mono s5;let hD5:=s5 _ _ hD;exists p,_,0,_,rfl,rfl,s05.seq hp,bj (j:=0) rfl,?_;refine{_,rfl,sh a (by simp),λH6 s6=>?_};exists p,_,1,_,rfl,rfl,(s05.trans s6).seq hp,bj (j:=1) rfl,?_;refine{_,rfl,sh b (by simp),λH7 s7=>?_};left;refine{D,_,rfl,.inl {aI.of (s7 _ _ (s6 _ _ hD5)),?_}};intros p8 H8 s8 h8;exists by show 4<=sizeLine;ext,?_
    intros p9 H9 s9 h9;let s59:=((s6.trans s7).trans s8).trans s9;refine{p9,_,rfl,h9,(by show 4<=1000000;decide),λHx sx=>kk _ _ ((s05.trans s59).trans sx) ?_};rw[Fp];refine FD (ds:=[dO .int (fw a),dO .int (fw b),dO .int (lU c' 2 9),.tup (xs.map mz)]) (sx _ _ h9) (aR (A8 _) (aR (A8 _) (aR (A8 _) (m7 (cB (sx _ _ (s9 _ _ h8)) (il5.mono (s59.trans sx))))))) ?_ ?_
    ·cases fw a <;> cases fw b <;> cases lU c' 2 9 <;> first | (intro _;rfl) | (intro q;exact absurd q (by simp[dO,dL,Dt.gi]))
    ·cases fw a <;> cases fw b <;> cases lU c' 2 9 <;> first | (intro _;rfl) | (intro q;exact absurd q (by simp[dO,dL,Dt.gi]))
def EN:cZ P w base 3 T.nI (fJ K (oF jk tO)):=by
 nomatch T.nI,["words","stops","coda"]
 let⟨p,ws,rfl,hp,hl,sh,kk⟩:=h;let sl:=yB;refine{_,(ah (aJ (ptr jH (d6 aE T.bE (ak (pv 0) ag)) af)
  (ao (au aT))
  aC)
  (ah (bR 1 qN (bN (dW T) hr T.dj (ak (mE (ts:=["word"]) (ys:=[]) (js:=[]) (te:=(fI jV [] E0 (bM (aY 0) dR))) (bc (cL gB (pv 0) du (dt af))) (gg 0) bg (bN (cb T) hr T.cQ (ak (pv 0) ag))) ag)))
  (ah (bR 2 qN (bN (cb T) hr T.cQ (ak (fc (pv 0) af) ag)))
  (ah (aJ (PW.pt (dB (bG (cz (pv 1))) (cU (PW.pt (dq (bG (cz (pv 2))) (cV (ptr jH (fc (pv 0) af) aN)))))))
  (ao (au aT))
  aC)
  (ao (au (bI (ak (fc (pv 1) af) (ak (fc (pv 1) af) (ak (fc (pv 1) af) (ak (pv 2) ag))))))))))),?_}
 ac_rfl;exists p,_,rfl,.inl hp,?_;rw[za];left
 by_cases hw:⇑ws=4
 ·obtain⟨a,b,c,d,rfl⟩:∃a b c d,ws=[a,b,c,d]:=by
   match ws,hw with
   | [a,b,c,d],_=>exact{(a),b,c,d,rfl}
  let en:tO [a,b,c,d]=(match fw a,fw b,fw c with | some x,some y,some z=>(match fw d with | some n=>some {x,y,z,some n} | none=>if d ="end" then some {(x),y,z,none} else none) | _,_,_=>none):=rfl;unfold oF at kk;rw[en] at kk;refine cq rfl ?_;exists p,_,rfl,hp,?_;rw[show j8 (List.map V.str [a,b,c,d]) none (some 3)=[a,b,c].map V.str from(Fq _ 3).trans rfl];intros p1 H1 s1 h1;exists{_,aI.of h1},?_;refine eU (enc:=V.str) (ws:=[a,b,c]) (λz=>dO .int (fw z)) (λU=>∃v,U=[v]) (by show 3<=sizeLine;ext) (aI.of h1) {(none),rfl} ?_ ?_
  ·rintro z U H4 R hz s4 ⟨_,rfl⟩ r
   change{sh z (by simp at hz ⊢;rcases hz with h | h | h <;> simp[h]),λH5 s5=>r _ _ _ s5 (A8 _) {_,rfl}}
  ·intro D vs H4 s4 hD il
   refine{D,vs,rfl,aI.of hD,by rw[il.len];show 3<=1000000;decide,λH5 s5=>?_};let il:=mZ il;rw[jP il];let s05:=(s1.trans s4).trans s5;cases q:(([a,b,c].map fw).map (dO Dt.int)).any Dt.gi with
   | true=>
    exists p,_,3,_,rfl,rfl,s05.seq hp,rfl,?_;refine{_,rfl,sh d (by simp),λH6 s6=>?_};left;refine kk _ _ (s05.trans s6) ?_;let q':([fw a,fw b,fw c].map (dO Dt.int)).any Dt.gi=true:=q;clear q en kk
    revert q'
    cases fw a <;> cases fw b <;> cases fw c <;> intro q' <;> first | exact dP | exact absurd q' (by simp[dO,Dt.gi])
   | false=>
    obtain⟨x,y,z,ea,eb,ec⟩:∃x y z,fw a=some x/\fw b=some y/\fw c=some z:=by
     let q':([fw a,fw b,fw c].map (dO Dt.int)).any Dt.gi=false:=q;clear q en kk il
     revert q'
     cases fw a <;> cases fw b <;> cases fw c <;> intro q' <;> first | exact⟨_,_,_,rfl,rfl,rfl⟩ | exact absurd q' (by simp[dO,Dt.gi])
    rw[ea,eb,ec] at kk;let il':aD H4 ([x,y,z].map Dt.int) vs:=by
     have:([a,b,c].map fw).map (dO Dt.int)=[x,y,z].map Dt.int:=by simp[ea,eb,ec,dO]
     rw[this] at il;exact il
    let ev:=d4 il';subst ev;let hD5:=s5 _ _ hD;exists p,_,3,_,rfl,rfl,s05.seq hp,rfl,?_;refine{_,rfl,sh d (by simp),λH6 s6=>?_};let hD6:=s6 _ _ hD5;let s06:=s05.trans s6;let fin:∀(o:Option Int) (v:V),Is H6 (dO .int o) v->fw d=o->(o=none->d ="end")->∀p7 H7,aB H6 H7->H7 p7=some (.tup [.int x,.int y,.int z,v])->Q (.ref p7) H7:=λo v iv eo hend p7 H7 s7 h7=>by
     refine kk _ _ (s06.trans s7) ?_;rw[eo];cases o with
     | none=>
      simp only[hend rfl,yN];exact cB h7 (aR cG (aR cG (aR cG (m7 (iv.mono s7)))))
     | some n=>exact cB h7 (aR cG (aR cG (aR cG (m7 (iv.mono s7)))))
    cases ed:fw d with
    | none=>
     exists p,_,3,_,rfl,rfl,s06.seq hp,rfl,?_;left
     by_cases he:d ="end"
     ·refine cq (by rw[he];rfl) ?_
      exists D,_,0,_,rfl,rfl,aI.of hD6,rfl,?_;exists D,_,1,_,rfl,rfl,aI.of hD6,rfl,?_;exists D,_,2,_,rfl,rfl,aI.of hD6,rfl,?_;left;refine{by show 4<=sizeLine;ext,laid ?_};exact fin none .bA dP ed λ_=>he
     ·refine b7 (by rw[zd λz=>he (V.str.inj z)];rfl) ?_
      left;refine kk _ _ s06 ?_;rw[ed];simp only[yM he];exact dP
    | some n=>
     exists D,_,0,_,rfl,rfl,aI.of hD6,rfl,?_;exists D,_,1,_,rfl,rfl,aI.of hD6,rfl,?_;exists D,_,2,_,rfl,rfl,aI.of hD6,rfl,?_;left;refine{by show 4<=sizeLine;ext,laid ?_};exact fin (some n) (.int n) cG ed λz=>nomatch z
 ·refine b7 (by rw[zd λz=>hw (by have:=V.int.inj z;ext)];rfl) ?_
  left;refine kk _ _ (aB.refl _) ?_;let e:tO ws=none:=by
   unfold tO;split
   ·exact absurd rfl hw
   ·rfl
  unfold oF;rw[e];exact dP
structure Dk (P:vt) (w:vv) (K:yA) {mg:Str->Option vo} (T:Txt K mg):Prop where
 KA:KD P w K T.iS [("player",.ref T.gI),("instrument",.ref T.d5),("staff",.ref T.iH),("bar",.ref T.lI),("upbeat",.ref T.gG),("holds",.ref T.jS),("notes",.ref T.iI),("repeat",.ref T.gH),("jump",.ref T.jR)]
 Se:KD P w K T.qA [("player",.ref T.gd),("instrument",.ref T.dQ),("staff",.ref T.gF),("bar",.ref T.jT),("upbeat",.ref T.gb),("holds",.ref T.iM),("notes",.ref T.gJ),("repeat",.ref T.gc),("jump",.ref T.iK)]
inductive MH (K:yA) {mg:Str->Option vo} (T:Txt K mg):vy->Sp->Prop where
 | bH:MH K T T.gI (fJ K (oF .str (one cH)))
 | cI:MH K T T.d5 (fJ K (oF dZ kW))
 | cj:MH K T T.iH (fJ K (oF gw o6))
 | bar:MH K T T.lI (fJ K (oF jz Cs))
 | aH:MH K T T.gG (fJ K (oF dL (one lr)))
 | holds:MH K T T.jS (fJ K (oF tZ qB))
 | aK:MH K T T.iI (fJ K TV)
 | rep:MH K T T.gH (fJ K (oF ji jG))
 | bu:MH K T T.jR (fJ K (oF jk tO))
noncomputable def AM {K:yA} {mg:Str->Option vo} (T:Txt K mg):List (Str×V):=[("player",V.ref T.gI),("instrument",.ref T.d5),("staff",.ref T.iH),("bar",.ref T.lI),("upbeat",.ref T.gG),("holds",.ref T.jS),("notes",.ref T.iI),("repeat",.ref T.gH),("jump",.ref T.jR)]
def Nw (K:yA) {mg:Str->Option vo} (T:Txt K mg) (x:Str):(rO (AM T) x=none/\∀ws,nK (x::ws)=none)\/∃f D,rO (AM T) x=some (.ref f)/\MH K T f (fJ K D)/\∀H0 H v ws,D H0 H v ws->gA H0 H v (nK (x::ws)):=by
 by_cases e0:x ="player"
 ·subst e0
  refine .inr {_,_,rfl,.bH,λH0 H v ws h=>?_};exact mI (g:=Told.bH) h λx z=>by unfold Is at z;exact z
 by_cases e1:x ="instrument"
 ·subst e1
  refine .inr {_,_,rfl,.cI,λH0 H v ws h=>?_};exact mI (g:=λ(x:Str×(Int×Int)×(Int×Int))=>Told.cI x.1 x.2.1 x.2.2) h λx z=>(show Is H (dZ x) v from z)
 by_cases e2:x ="staff"
 ·subst e2
  refine .inr {_,_,rfl,.cj,λH0 H v ws h=>?_};exact mI (g:=λ(x:Str×List Str)=>Told.cj x.1 x.2) h λx z=>(show Is H (gw x) v from z)
 by_cases e3:x ="bar"
 ·subst e3
  refine .inr {_,_,rfl,.bar,λH0 H v ws h=>?_};exact mI (g:=Told.bar) h λx z=>z
 by_cases e4:x ="upbeat"
 ·subst e4
  refine .inr {_,_,rfl,.aH,λH0 H v ws h=>?_};exact mI (g:=Told.aH) h λx z=>z
 by_cases e5:x ="holds"
 ·subst e5
  refine .inr {_,_,rfl,.holds,λH0 H v ws h=>?_};exact mI (g:=λ(x:Str×Int×Str)=>Told.holds x.1 x.2.1 x.2.2) h λx z=>(show Is H (tZ x) v from z)
 by_cases e6:x ="notes"
 ·subst e6
  refine .inr {_,_,rfl,.aK,λH0 H v ws h=>?_};let e:nK ("notes":: ws)=(jX ws).map λx=>Told.aK x.1 x.2.1 x.2.2:=rfl;rw[e];unfold TV at h;cases q:jX ws with
  | none=>rw[q] at h;exact h
  | some y=>rw[q] at h;exact h
 by_cases e7:x ="repeat"
 ·subst e7
  refine .inr {_,_,rfl,.rep,λH0 H v ws h=>?_};exact mI (g:=Told.rep) h λx z=>z
 by_cases e8:x ="jump"
 ·subst e8
  refine .inr {_,_,rfl,.bu,λH0 H v ws h=>?_};exact mI (g:=Told.bu) h λx z=>z
 refine .inl {?_,λws=>?_}
 ·let f0:∀(k:Str) (v:V) (r:List (Str×V)),x≠k->rO ((k,v)::r) x=rO r x:=λk v r h=>by
   unfold rO;rw[yR];rw[show decide ((k,v).1=x)=false from zd λz=>h z.symm]
  unfold AM;rw[f0 _ _ _ e0,f0 _ _ _ e1,f0 _ _ _ e2,f0 _ _ _ e3,f0 _ _ _ e4,f0 _ _ _ e5,f0 _ _ _ e6,f0 _ _ _ e7,f0 _ _ _ e8];rfl
 ·unfold nK
  dsimp only;rw[yM e0,yM e1,yM e2,yM e3,yM e4,yM e5,yM e6,yM e7,yM e8]
def rS {K:yA} {mg:Str->Option vo} (T:Txt K mg):Sp:=λvs H Q _=>∃x:Str,vs=[.str x]/\Q (.bl (rO (AM T) x).isSome) H
def sF (B:Dk P w K T):cZ P w base 1 T.jZ (rS T):=by
 nomatch T.jZ,["word"]
 let⟨x,rfl,kk⟩:=h;refine{_,(ao (au (sE (PV (pv 0) (bT (v:=.ref T.iS) (by rfl) T.DQ rfl))))),?_};ac_rfl;exists T.iS,AM T,x,rfl,B.KA,rfl,?_;left;show Q (V.bl (false ^^ (rO (AM T) x).isSome)) H;rw[Bool.false_xor];exact kk
def tL:gf ["words","reader"] ["words"] (aU oO):=TB
def G0 (B:Dk P w K T):cZ P w base 7 T.AJ (Gg K):=by
 refine T.AJ.F.Ui tL λcdv A' outer s H vs Q E hr h=>?_
 ·let⟨p,x,ws,rfl,hp,hl,sh,kk⟩:=h
  let sl:=yB;let hTbV:∀f sp,MH K T f sp->Sx (j7 IG P w K mg base ["words","reader"] "read_row" (aU oO) T.BI cdv A' outer s H E).Jv IG 6 f sp:=by
   intro f sp h;cases h with
   | bH=>exact{_,_,L2.dA.mono (AY T) ∅,T.jF.F.kp,T.jF.b}
   | cI=>exact{_,_,L2.dA.mono (o9 T) ∅,T.fm.F.kp,T.fm.b}
   | cj=>exact{_,_,L2.dA.mono (Cu T) ∅,T.kR.F.kp,T.kR.b}
   | bar=>exact{_,_,L2.dA.mono (G4 T) ∅,T.qz.F.kp,T.qz.b}
   | aH=>exact{_,_,L2.dA.mono (AW T) ∅,T.jD.F.kp,T.jD.b}
   | holds=>exact{_,_,L2.dA.mono (EO T) ∅,T.nJ.F.kp,T.nJ.b}
   | aK=>exact{_,_,L2.dA.mono (Cw T) ∅,T.kT.F.kp,T.kT.b}
   | rep=>exact{_,_,L2.dA.mono (AX T) ∅,T.jE.F.kp,T.jE.b}
   | bu=>exact{_,_,L2.dA.mono (EN T) ∅,T.nI.F.kp,T.nI.b}
  refine{_,(ah (aJ (eC (cy (bN (sF T B) hr T.jZ (ak (fc (pv 0) af) ag))))
   (ao (au aT))
   aC)
   (ah (bR 1 tL.nd (GR (bT (v:=.ref T.iS) (by rfl) T.DQ rfl) (fc (pv 0) af) (λ_ _=>rfl)))
   (ao (au (GU (MH K T) hTbV (hr.mono ∅) (pv 1) KI (ak (cL gB (pv 0) (dt af) du) ag)))))),?_}
  ac_rfl;exists p,_,0,_,rfl,rfl,hp,bj (j:=0) rfl,?_;refine{x,rfl,?_};rcases Nw K T x with⟨ev,er⟩ | ⟨f,D,ev,htb,hd⟩
  ·rw[ev]
   left;refine kk _ _ (aB.refl _) ?_;rw[er];rfl
  ·rw[ev]
   exists p,_,0,_,rfl,rfl,hp,bj (j:=0) rfl,?_;refine{T.iS,AM T,x,_,rfl,B.KA,rfl,ev,?_};exists f,_,rfl,htb,?_;exists p,_,rfl,hp,?_;rw[show j8 (List.map V.str (x::ws)) (some 1) none=ws.map V.str from(fC _ 1).trans rfl];intros p1 H1 s1 h1;refine{p1,ws,rfl,aI.of h1,(),λy hy=>sh y (by simp[hy]),λv H2 s2 h2=>kk _ _ (s1.trans s2) ((hd _ _ _ _ h2).back s1)}
def lX:cZ P w base 1 T.ig (ug K):=by
 nomatch T.ig,["repeats","bar","repeat"]
 let⟨p,rs,b,rfl,⟨vs,hp,il⟩,kk⟩:=h;unfold dC at kk;refine{_,(ah (bZ yO rfl (bc (pv 0)) (gR 2 qN)
  (ao (aJ (PW.pt (dq (ptr ic (bB (pv 2) af) (pv 1)) (cV (ptr ic (pv 1) (bB (pv 2) af)))))
   (ao (au (pv 2)))
   aC)))
  (ao (au aT))),?_}
 ac_rfl;exists{_,hp},?_;refine fi (K:=K) (a:=p) (xs:=vs) (λi U H'=>H'=H/\(rs.take i).find? (λr=>decide (r.first<=b)&&decide (b<=r.last))=none/\∃v,U=[some (.ref p),some (.int b),v]) {(rfl),rfl,none,rfl} (λi U H' _ h=>by rw[h.1];exact hp) ?_ ?_
 ·intro i x U H' hx hh
  refine dG λN kN0 kR0 _ _=>?_;let⟨rfl,hn,v,rfl⟩:=hh;let⟨r,hr',hi⟩:=cA il hx;let⟨a,e,rfl,ha,he⟩:=eX hi;left
  by_cases c1:r.first<=b
  ·refine b7 (ze c1) ?_
   left
   by_cases c2:b<=r.last
   ·refine b7 (ze c2) ?_
    left;refine kk _ ?_;rw[KS hr' hn (by rw[ze c1,ze c2];rfl)];exact hi
   ·refine cq (zd c2) ?_
    change{DK hr' hn (by rw[zd c2,wG]),_,rfl}
  ·refine cq (zd c1) ?_
   change{DK hr' hn (by rw[zd c1,yS]),_,rfl}
 ·rintro U H' ⟨rfl,hn,v,rfl⟩
  rw[aQ il,zM] at hn;left;refine kk _ ?_;rw[hn];exact dP
def ER:cZ P w base 2 T.sM (Em K):=by
 nomatch T.sM,["repeats","bar","repeat"]
 let⟨p,rs,b,rfl,hp,kk⟩:=h;unfold gO at kk;refine{_,(ah (bR 2 qN (bN (lX T) hr T.ig (ak (pv 0) (ak (pv 1) ag))))
  (ao (au (KH (sE (cz (pv 2))) (jY (cW de (pv 1) (bB (pv 2) af) (fq _))))))),?_}
 ac_rfl;exists p,rs,b,rfl,hp,λv iv=>?_;cases q:dC rs b with
 | none=>
  rw[q] at iv kk;unfold dO Is at iv;subst iv;change kk
 | some r=>
  rw[q] at iv kk;let⟨a,e,rfl,ha,he⟩:=eX iv;left;let e1:decide (V.int b=V.int r.last)=decide (b=r.last):=by simp
  show Q (.bl (decide (V.int b=V.int r.last))) H;rw[e1];exact kk
def qL:cZ P w base 2 T.nO (En K):=by
 nomatch T.nO,["repeats","bar","repeat"]
 let⟨p,rs,b,rfl,hp,kk⟩:=h;unfold dU at kk;refine{_,(ah (bR 2 qN (bN (lX T) hr T.ig (ak (pv 0) (ak (pv 1) ag))))
  (ao (au (KH (sE (cz (pv 2))) (jY (cW de (pv 1) (bB (pv 2) af) (fq _))))))),?_}
 ac_rfl;exists p,rs,b,rfl,hp,λv iv=>?_;cases q:dC rs b with
 | none=>
  rw[q] at iv kk;unfold dO Is at iv;subst iv;change kk
 | some r=>
  rw[q] at iv kk;let⟨a,e,rfl,ha,he⟩:=eX iv;left;let e1:decide (V.int b=V.int r.first)=decide (b=r.first):=by simp
  show Q (.bl (decide (V.int b=V.int r.first))) H;rw[e1];exact kk
def OA (us:List V) (h:us≠[]):¬(HT.d7 ⇑us 0 (some 1)=0/\HT.d7 ⇑us ⇑us none=⇑us):=by
 rintro⟨h1,_⟩;let hp:0<⇑us:=yq.mpr h;let e:HT.d7 ⇑us 0 (some ((1:Nat):Int))=min 1 ⇑us:=by unfold HT.d7;simp
 let e':HT.d7 ⇑us 0 (some (1:Int))=min 1 ⇑us:=e;rw[e'] at h1;ext
def Lv {K:yA} {H:Hp} {e:vy} {us:List V} {Q:VK} (hu:H e=some (.tup us)) (k:∀q H1,aB H H1->H1 q=some (.tup (us.drop 1))->Q (.ref q) H1):QJ K (.ref e) (some 1) none H Q:=by
 by_cases h:us=[]
 ·subst h
  exact .inr {e,[],rfl,cu.of hu,{(rfl),rfl},k e H (aB.refl H) hu}
 ·refine .inl {e,us,rfl,cu.of hu,OA us h,?_}
  rw[show j8 us (some 1) none=us.drop 1 from fC us 1];exact laid k
def Jt:cZ P w base 1 T.E8 IY:=by
 nomatch T.E8,["repeat","ends","behind"]
 let⟨v,r,rfl,iv,hl,kk⟩:=h;let sl:=yB;let⟨a,e,rfl,ha,he⟩:=eX iv;unfold Is at he;let⟨e',us,ee,hu,ilu⟩:=he;cases ee;refine{_,(ah (bR 1 qN (bB (pv 0) af))
  (ah (bR 2 qN (aA fN (mE (ts:=["end"]) (ys:=[]) (js:=[]) (te:=(eO (kU K) (aY 0) (tC (.int (0))))) (gX (cL vJ (pv 1) (dt af) du)) (gg 0) bg (bB (pv 0) af)) (bq (ak (aA aW (bB (pv 0) af) af) ag))))
  (ao (au (mE (ts:=["end","after"]) (ys:=[]) (js:=[]) (g:=(Hw K 2 (fR (bY 0) (fR (bY 1) Hy)))) (te:=(Ec (bM (eO (kU K) (aY 0) (tC (.int (0)))) (bM (eO (uG λi j=>.int (i-j)) (aY 1) (tC (.int (1)))) (bM (eO (kU K) (aY 0) (tC (.int (1)))) dR))))) (NO (by rfl) T.N0 (ak (pv 1) (ak (pv 2) ag))) (dy (n:=2) rfl (aM (gg 0) (aM (gg 1) cJ))) bg (bI (ak (bB (pv 0) af) (ak (aA fM (pv 1) af) (ak (bB (pv 0) af) ag))))))))),?_}
 ac_rfl;left;let main:∀(q:vy) (H1:Hp),aB H H1->H1 q=some (.tup (us.drop 1))->∀(R:VK),(∀D H2,aB H1 H2->H2 D=some (.lst ((r.ends.drop 1).map λx=>V.int x.1))->R (.ref D) H2)->
   dF [none] (bY 0) uf (eO (kU K) (aY 0) (tC (.int 0))) R (O0 K q) H1:=by
  intro q H1 s1 h1 R hR;let il1:aD H ((r.ends.drop 1).map mz) (us.drop 1):=by
   cases re:r.ends with
   | nil=>
    rw[re] at ilu;unfold aD at ilu;subst ilu;unfold aD;rfl
   | cons x xs=>
    rw[re,zh] at ilu;unfold aD at ilu;let⟨u,ur,rfl,_,h2⟩:=ilu;exact h2
  let⟨ps,f1,f2,f3⟩:=nU il1;let pl:⇑ps<=1000000:=by
   have:⇑ps=⇑(r.ends.drop 1):=by rw[<-f1,za]
   rw[this,xy];ext
  refine fu (enc:=λz:Sc.End×V=>z.2) (ws:=ps) (λz=>.int z.1.1) (λU=>∃v,U=[v]) () (by rw[f2];exact h1) {(none),rfl} ?_ ?_
  ·rintro z U H6 R' hz s6 ⟨_,rfl⟩ r'
   let⟨a6,q6,ev,h6,h7⟩:=m8 (f3 z hz);rw[ev];let h66:=s6 _ _ (s1 _ _ h6);change r' _ _ _ (aB.refl _) cG {_,rfl}
  ·intro D vs H6 s6 hD il
   let e5:ps.map (λz=>Dt.int z.1.1)=((r.ends.drop 1).map (·.1)).map Dt.int:=by rw[<-f1,zA,zA];rfl
   rw[e5] at il;rw[d4 il,zA] at hD;exact hR D H6 s6 hD
 refine Lv hu λq H1 s1 h1=>{q,rfl,{_,cu.of h1},main q H1 s1 h1 _ λD H2 s2 h2=>?_}
 let ha2:=s2 _ _ (s1 _ _ ha);exists by show 1<=sizeLine;ext,?_
 intros p3 H3 s3 h3;refine{D,p3,_,_,rfl,rfl,aI.of (s3 _ _ h2),aI.of h3,by rw[za,xy];show _+1<=_;ext,?_};intros p4 H4 s4 h4;let s04:=(s1.trans s2).trans (s3.trans s4);let hu4:=s04 _ _ hu;let eb:(List.map (λx=>V.int x.1) (r.ends.drop 1)++[V.int (r.last+1)])=((r.ends.drop 1).map (·.1)++[r.last+1]).map V.int:=by rw[zj,zA];rfl
 rw[eb] at h4;left;let ilu4:=ilu.mono s04;let ul:=aQ ilu;refine{true,false,e,p4,us,_,rfl,cu.of hu4,aI.of h4,?_};generalize hbs:(r.ends.drop 1).map (·.1)++[r.last+1]=bs at h4;let zl:⇑(r.ends.zip bs)=min ⇑r.ends ⇑bs:=xx;refine Bw (ws:=r.ends.zip bs) (λz x H'=>∃p u,x=.ref p/\H' p=some (.tup [u,.int z.2])/\Is H' (mz z.1) u) (λz=>Mi (z.1.1,z.2-1,z.1.2)) (λU=>∃u v,U=[u,v]) () {(none),none,rfl} ?_ ?_ ?_ ?_ ?_
 ·intro i H5 hi s5
  let i1:i<⇑us:=()
  let i2:i<⇑(bs.map V.int):=by rw[za];ext
  exact{us,bs.map V.int,us[i],(bs.map V.int)[i],cu.of (s5 _ _ hu4),aI.of (s5 _ _ h4),zb i1,zb i2}
 ·intro H5 s5
  refine{us,bs.map V.int,cu.of (s5 _ _ hu4),aI.of (s5 _ _ h4),?_};rw[za];rcases Nat.le_total ⇑r.ends ⇑bs with h | h
  ·exact Or.inl ()
  ·right;ext
 ·rintro i x H5 H6 hi s5 ⟨p,u,v,hp,rfl,rfl,hu',hv'⟩
  let i1:i<⇑r.ends:=()
  let i2:i<⇑bs:=()
  let gu:=hu' us (cu.of (s5 _ _ hu4));let gv:=hv' (bs.map V.int) (aI.of (s5 _ _ h4));rw[zJ,zb i2] at gv;cases gv;let⟨x0,hx0,ix0⟩:=cA (ilu4.mono s5) gu;rw[zb i1] at hx0;cases hx0;refine{bx hp,p,u,rfl,?_,?_}
  ·rw[aF,List.getElem_zip]
  ·rw[List.getElem_zip];exact ix0.mono (bx hp)
 ·rintro z x U H5 R hz s5 ⟨p,u,rfl,hp,iu⟩ ⟨_,_,rfl⟩ rr
  let⟨a6,q6,rfl,h6,h7⟩:=m8 iu;refine{p,_,rfl,cu.of hp,rfl,?_};refine{_,_,rfl,_,_,rfl,rfl,?_};left;refine{mR,laid λp7 H7 s7 h7'=>rr _ _ _ s7 ?_ {_,_,rfl}};exact cB h7' (aR cG (aR cG (m7 (cB (s7 _ _ h7) qW))))
 ·intro D5 vs5 H5 s5 hD5 il5
  refine kk _ _ _ (s04.trans s5) hD5 ?_;let ee:(jh r).map Mi=(r.ends.zip bs).map λz=>Mi (z.1.1,z.2-1,z.1.2):=by
   unfold jh;rw[hbs,zA];rfl
  rw[ee];exact il5
def Q9 {H:Hp} {e:Int×Int×List Int} {v:V} (h:Is H (Mi e) v):∃a q,v=.ref a/\H a=some (.tup [.int e.1,.int e.2.1,.ref q])/\H q=some (.tup (e.2.2.map V.int)):=by
 unfold Mi Is at h;let⟨a,vs,rfl,ha,hl⟩:=h;unfold aD at hl;let⟨v1,r1,rfl,h1,hl⟩:=hl;unfold aD at hl;let⟨v2,r2,rfl,h2,hl⟩:=hl;unfold aD at hl;let⟨v3,r3,rfl,h3,hl⟩:=hl;unfold aD at hl;subst hl;unfold Is at h1 h2;subst h1 h2;unfold tY Is at h3;let⟨q,us,rfl,hq,hle⟩:=h3;rw[d4 hle] at hq;exact{(a),q,rfl,ha,hq}
noncomputable def Bf (r:Rep) (b:Int) (e:Int×Int×List Int):Bool:=decide (e.1<=b)&&decide (b<=e.2.1)&&!decide (r.times∈e.2.2)
def L3 (rs:List Rep) (b:Int):lC rs b=rs.all λr=>(jh r).all λe=>!Bf r b e:=rfl
theorem sS:∀ns:List Int,(ns.map V.int).all mf=true
 | []=>rfl
 | n::ns=>by rw[zh,wQ,sS ns];rfl
def lZ:cZ P w base 2 T.iF (uj K):=by
 nomatch T.iF,["repeats","bar","repeat","end"]
 let⟨p,rs,b,rfl,⟨vs,hp,il⟩,hl,kk⟩:=h;rw[L3] at kk;refine{_,(ah (bZ yO rfl (bc (pv 0)) (gR 2 qN)
  (ao (bZ yO rfl (bc (bN (Jt T) hr T.E8 (ak (pv 2) ag))) (gR 3 qN)
   (ao (aJ (PW.pt (dq (ptr ic (bB (pv 3) af) (pv 1)) (dq (ptr ic (pv 1) (bB (pv 3) af)) (cV (gC dJ (bB (pv 2) af) (bB (pv 3) af) (by with_unfolding_all rfl))))))
    (ao (au fL))
    aC)))))
  (ao (au fL))),?_}
 ac_rfl;exists{_,hp},?_;refine fi (K:=K) (a:=p) (xs:=vs) (λi U H'=>aB H H'/\(rs.take i).all (λr=>(jh r).all λe=>!Bf r b e)=true/\∃v u,U=[some (.ref p),some (.int b),v,u]) {aB.refl H,rfl,none,none,rfl} (λi U H' _ h=>h.1.seq hp) ?_ ?_
 ·intro i x U H' hx hh
  refine dG λN kN0 kR0 _ _=>?_;let⟨s1,hn,v,u,rfl⟩:=hh;let⟨r,hr',hi⟩:=cA il hx;let hm:=zB hr';exists _,r,rfl,hi.mono s1,hl r hm,λD us H2 s2 hD ilD=>?_;refine{D,rfl,{_,aI.of hD},?_};let⟨a,e,rfl,ha,he⟩:=eX (hi.mono (s1.trans s2));refine fi (K:=K) (a:=D) (xs:=us) (λj U H'=>H'=H2/\((jh r).take j).all (λe=>!Bf r b e)=true/\∃u,U=[some (.ref p),some (.int b),some (.ref a),u]) {rfl,rfl,_,rfl} (λj U H' _ h=>by rw[h.1];exact aI.of hD) ?_ ?_
  ·intro j y U H3 hy hh
   refine dG λN kN1 kR1 _ _=>?_;let⟨rfl,hnj,u',rfl⟩:=hh;let⟨t,ht,it⟩:=cA ilD hy;let⟨a6,q6,rfl,h6,h7⟩:=Q9 it;let good:Bf r b t=false->((jh r).take (j+1)).all (λe=>!Bf r b e)=true:=λz=>by
    rw[cC ht,List.all_append,hnj,yU];simp[z]
   left
   by_cases c1:t.1<=b
   ·refine b7 (ze c1) ?_
    left
    by_cases c2:b<=t.2.1
    ·refine b7 (ze c2) ?_
     exists q6,t.2.2.map V.int,rfl,.inr (cu.of h7),rfl,sS _,?_;show∃k,V.bl (!E4 (.int r.times) (t.2.2.map V.int))=.bl k/\_;rw[qY]
     by_cases c3:r.times∈t.2.2
     ·rw[ze c3]
      change{good (by unfold Bf;rw[ze c3];simp),_,rfl}
     ·rw[zd c3]
      left;let z:=kk H3 (s1.trans s2);let e0:(rs.all λr=>(jh r).all λe=>!Bf r b e)=false:=by
       rw[List.all_eq_false];refine{r,hm,?_};have:((jh r).all λe=>!Bf r b e)=false:=by
        rw[List.all_eq_false];exact{t,zB ht,by unfold Bf;simp[c1,c2,c3]}
       rw[this];decide
      rw[e0] at z;exact z
    ·refine cq (zd c2) ?_
     change{good (by unfold Bf;rw[zd c2];simp),_,rfl}
   ·refine cq (zd c1) ?_
    change{good (by unfold Bf;rw[zd c1];simp),_,rfl}
  ·rintro U H3 ⟨rfl,hnj,u',rfl⟩
   rw[aQ ilD,zM] at hnj;left;refine{s1.trans s2,?_,_,_,rfl};rw[cC hr',List.all_append,hn,yU];simp[hnj]
 ·rintro U H' ⟨s1,hn,v,u,rfl⟩
  rw[aQ il,zM] at hn;left;let z:=kk H' s1;rw[hn] at z;exact z
inductive Ep (K:yA) (vs:List V) (H:Hp) (Q:VK) (E:XK):Prop
 | mk (p:vy) (rs:List Rep) (a c:Int) (_:vs=[.ref p,.int a,.int c]) (_:C8 K H p rs) (_:(∀r∈rs,⇑r.ends<=1000000)) (_:∀H',aB H H'->Q (.bl (decide (a<c)&&dU rs c&&lC rs c)) H')
inductive Eo (K:yA) (vs:List V) (H:Hp) (Q:VK) (E:XK):Prop
 | mk (p:vy) (rs:List Rep) (v:V) (j:Jump) (_:vs=[.ref p,v]) (_:C8 K H p rs) (_:(∀r∈rs,⇑r.ends<=1000000)) (_:Is H (jk j) v) (_:∀H',aB H H'->Q (.bl (gQ rs j)) H')
def lA {H:Hp} {j:Jump} {v:V} (h:Is H (jk j) v):∃a,v=.ref a/\H a=some (.tup [.int j.rM,.int j.tU,.int j.cN,ov j.eK]):=by
 unfold jk Is at h;let⟨a,vs,rfl,ha,hl⟩:=h;unfold aD at hl;let⟨v1,r1,rfl,h1,hl⟩:=hl;unfold aD at hl;let⟨v2,r2,rfl,h2,hl⟩:=hl;unfold aD at hl;let⟨v3,r3,rfl,h3,hl⟩:=hl;unfold aD at hl;let⟨v4,r4,rfl,h4,hl⟩:=hl;unfold aD at hl;subst hl;unfold Is at h1 h2 h3;subst h1 h2 h3;refine{a,rfl,?_};cases q:j.eK with
 | none=>rw[q] at h4;unfold dO Is at h4;subst h4;exact ha
 | some n=>rw[q] at h4;unfold dO Is at h4;subst h4;exact ha
def ET:cZ P w base 3 T.tf (Ep K):=by
 nomatch T.tf,["repeats","at","coda"]
 let⟨p,rs,a,c,rfl,hp,hl,kk⟩:=h;refine{_,(ao (au (mU (cW fe (pv 1) (pv 2) (fq _)) (mU (bN (qL T) hr T.nO (ak (pv 0) (ak (pv 2) ag))) (jY (bN (lZ T) hr T.iF (ak (pv 0) (ak (pv 2) ag)))))))),?_};ac_rfl;left
 by_cases c1:a<c
 ·rw[ze c1,yU] at kk
  refine b7 (ze c1) ?_;exists p,rs,c,rfl,hp,?_;cases q:dU rs c with
  | true=>
   rw[q,yU] at kk;change{(p),rs,c,rfl,hp,hl,kk}
  | false=>
   rw[q,yS] at kk;change kk _ (aB.refl _)
 ·rw[zd c1,yS,yS] at kk
  refine cq (zd c1) ?_;change kk _ (aB.refl _)
def ES:cZ P w base 4 T.sQ (Eo K):=by
 nomatch T.sQ,["repeats","jump","at","to","until","coda"]
 let⟨p,rs,v,j,rfl,hp,hl,iv,kk⟩:=h;let⟨a,rfl,ha⟩:=lA iv;unfold gQ at kk;refine{_,(ah (bR 2 qN (bB (pv 1) af))
  (ah (bR 3 qN (bB (pv 1) af))
  (ah (bR 4 qN (bB (pv 1) af))
  (ah (bR 5 qN (bB (pv 1) af))
  (ah (aJ (PW.pt (dB (ptr fe (pv 4) (pv 3)) (cU (ptr fe (pv 2) (pv 4)))))
  (ao (au fL))
  aC)
  (ah (aJ (PW.pt (dq (bG (fo (pv 5))) (cV (eC (cy (bN (ET T) hr T.tf (ak (pv 0) (ak (pv 2) (ak (pv 5) ag)))))))))
  (ao (au fL))
  aC)
  (ao (au (mU (bN (ER T) hr T.sM (ak (pv 0) (ak (pv 2) ag))) (mU (bN (qL T) hr T.nO (ak (pv 0) (ak (pv 3) ag))) (jY (bN (lZ T) hr T.iF (ak (pv 0) (ak (pv 4) ag)))))))))))))),?_}
 ac_rfl;left
 by_cases c1:j.cN<j.tU
 ·refine b7 (ze c1) ?_
  simp only[yN c1] at kk;change kk _ (aB.refl _)
 ·refine cq (zd c1) ?_
  simp only[yM c1] at kk;left
  by_cases c2:j.rM<j.cN
  ·refine b7 (ze c2) ?_
   simp only[yN c2] at kk;change kk _ (aB.refl _)
  ·refine cq (zd c2) ?_
   simp only[yM c2] at kk;left;cases q:j.eK with
   | none=>
    rw[q] at kk;exists p,rs,_,rfl,hp,?_;cases q1:gO rs j.rM with
    | false=>
     rw[q1] at kk;change kk _ (aB.refl _)
    | true=>
     rw[q1] at kk;exists p,rs,_,rfl,hp,?_;cases q2:dU rs j.tU with
     | false=>
      rw[q2] at kk;change kk _ (aB.refl _)
     | true=>
      rw[q2] at kk;change{p,rs,_,rfl,hp,hl,kk}
   | some n=>
    rw[q] at kk;exists p,rs,_,_,rfl,hp,hl,λH1 s1=>?_;cases q0:(decide (j.rM<n)&&dU rs n&&lC rs n) with
    | false=>
     simp only[q0] at kk;change kk _ s1
    | true=>
     simp only[q0,yU] at kk;exists p,rs,_,rfl,hp.mono s1,?_;cases q1:gO rs j.rM with
     | false=>
      rw[q1] at kk;change kk _ s1
     | true=>
      rw[q1] at kk;exists p,rs,_,rfl,hp.mono s1,?_;cases q2:dU rs j.tU with
      | false=>
       rw[q2] at kk;change kk _ s1
      | true=>
       rw[q2] at kk;change{p,rs,_,rfl,hp.mono s1,hl,λH2 s2=>kk _ (s1.trans s2)}
def Dm {l ns:List Int} (h1:ns.Perm l) (h2:ns.Pairwise (·<=·)):ns=sortI l:=by
 unfold sortI;refine List.Perm.eq_of_pairwise (le:=λa b:Int=>a<=b) (λa b _ _ x y=>Int.le_antisymm x y) h2 ?_ (h1.trans (List.mergeSort_perm _ _).symm);have:=List.pairwise_mergeSort (le:=λa b:Int=>decide (a<=b)) (λa b c x y=>by simp at x y ⊢;ext) (λa b=>by simp;ext) l;exact this.imp λh=>by simpa using h
noncomputable def IV:List Sc.End->Nat
 | []=>0
 | e::r=>⇑e.2+IV r
def Ra {es:List Sc.End} {e:Sc.End} (h:e∈es):⇑e.2<=IV es:=by
 induction es with
 | nil=>cases h
 | cons x r ih=>
  rcases zC.mp h with rfl | h
  ·unfold IV;ext
  ·have:=ih h;unfold IV;ext
def MP {a b:List Int}:(decide (a.map V.int=b.map V.int))=decide (a=b):=by
 by_cases h:a=b
 ·subst h;simp
 ·rw[zd h,zd]
  intro z;have:∀{a b:List Int},a.map V.int=b.map V.int->a=b:=by
   intro a
   induction a with
   | nil=>intro b z;cases b with | nil=>rfl | cons _ _=>cases z
   | cons x r ih=>intro b z;cases b with | nil=>cases z | cons y s=>simp at z;rw[z.1,ih (by simpa using z.2)]
  exact h (this z)
theorem qD:∀ns:List Int,(ns.map V.int).all PL=true
 | []=>rfl
 | n::ns=>by rw[zh,wQ,qD ns];rfl
def HK {e:Sc.End} {r:List Sc.End} {a:Int} {ps:List Int} (h1:¬e.1<=a) (h2:e.2=sortI e.2):fU (e::r) a ps=fU r e.1 (ps++e.2):=by
 show(if e.1<=a then none else if e.2≠sortI e.2 then none else fU r e.1 (ps++e.2))=_;rw[yM h1,yM (λz=>z h2)]
def DM {e:Sc.End} {r:List Sc.End} {a:Int} {ps:List Int} (h:e.1<=a\/e.2≠sortI e.2):fU (e::r) a ps=none:=by
 show(if e.1<=a then none else if e.2≠sortI e.2 then none else fU r e.1 (ps++e.2))=_;rcases h with h | h
 ·rw[yN h]
 ·rw[yN h];split <;> rfl
def Qi {α:Type} {l:List α} {i:Nat} {x:α} (h:l[i]?=some x):l.drop i=x::l.drop (i+1):=by
 let⟨hi,rfl⟩:=zw.mp h;exact List.drop_eq_getElem_cons hi
inductive tK (vs:List V) (H:Hp) (Q:VK) (E:XK):Prop
 | mk (v:V) (r:Rep) (_:vs=[v]) (_:Is H (ji r) v) (_:IV r.ends<64) (_:-1000000<=r.times) (_:r.times<=1000000) (_:∀H',aB H H'->Q (.bl (fV r)) H')
def G6:cZ P w base 1 T.Bd tK:=by
 nomatch T.Bd,["repeat","ends","ahead","passes","end"]
 let⟨v,r,rfl,iv,ht,t0,t1,kk⟩:=h;let sl:=yB;let⟨a,e,rfl,ha,he⟩:=eX iv;unfold Is at he;let⟨e',us,ee,hu,ilu⟩:=he;cases ee;let ul:=aQ ilu;refine{_,(ah (bR 1 qN (bB (pv 0) af))
  (ah (aJ (ptr de (d6 aE T.bE (ak (pv 1) ag)) af)
  (ao (au fL))
  aC)
  (ah (bR 2 qN (aA fM (bB (pv 0) af) af))
  (ah (bR 3 qN (bq ag))
  (ah (bZ yO rfl (gX (pv 1)) (gR 4 qN)
  (ah (aJ (PW.pt (dB (ptr ic (bB (pv 4) af) (pv 2)) (cU (ptr (kZ hr.units) (mD iG T.pw (ak (bB (pv 4) af) ag)) (d6 rC T.Hj (ak (bB (pv 4) af) ag))))))
   (ao (au fL))
   aC)
   (ah (bR 2 qN (bB (pv 4) af))
   (ao (bJ (bU yC y4 y3 pz (pv 3) (ak (bB (pv 4) af) ag)))))))
  (ao (au (mU (cW ic (pv 2) (bB (pv 0) af) (fq _)) (jY (cW (AS hr.units) (d6 rC T.Hj (ak (pv 3) ag)) (NS rfl (by rfl) T.pw (by rfl) T.dm (ak af (ak (aA aW (bB (pv 0) af) af) ag))) (fq _))))))))))),?_}
 ac_rfl;exists e,_,rfl,.inr (cu.of hu),?_;rw[ul];left
 by_cases h0:⇑r.ends=0
 ·refine b7 (by rw[h0];rfl) ?_
  left;let e0:fV r=true:=by
   unfold fV;rw[yr.mp h0]
  rw[e0] at kk;exact kk _ (aB.refl _)
 ·refine cq (zd λz=>h0 (by have:=V.int.inj z;ext)) ?_
  let ef:fV r=(match fU r.ends (r.first-1) [] with | none=>false | some (a,ps)=>decide (a<=r.last)&&decide (sortI ps=LF 1 (r.times+1-1).toNat)):=by
   unfold fV;cases q:r.ends with
   | nil=>rw[q] at h0;exact absurd rfl h0
   | cons x xs=>rfl
  rw[ef] at kk;exists by show 0<=sizeLine;ext,?_
  intro pp hn;generalize hG:upd _ pp _=H1;let s1:=aB.i7 hG hn;let h1:=jq hG;clear hG;exists{_,cu.of (s1 _ _ hu)},?_;refine E7 (K:=K) (a:=e) (xs:=us) (λi U H'=>aB H H'/\∃(z:Int) (ps:List Int) (u:Option V),U=[some (.ref a),some (.ref e),some (.int z),some (.ref pp),u]/\H' pp=some (.lst (ps.map V.int))/\⇑ps+IV (r.ends.drop i)=IV r.ends/\fU r.ends (r.first-1) []=fU (r.ends.drop i) z ps) {s1,_,[],none,rfl,h1,by simp,rfl} (λi U H' _ h=>cu.of (h.1 _ _ hu)) ?_ ?_
  ·intro i x U H2 hx hh
   refine dG λN kN0 kR0 _ _=>?_;let⟨s2,z,ps,u,rfl,h2,hc,hgo⟩:=hh;let⟨en,hen,ien⟩:=cA ilu hx;let⟨a6,q6,rfl,h6,h7⟩:=m8 (ien.mono s2);let hle:=Ra (zB hen);rw[Qi hen] at hgo hc;rw[show IV (en::List.drop (i+1) r.ends)=⇑en.2+IV (List.drop (i+1) r.ends) from rfl] at hc;left
   by_cases c1:en.1<=z
   ·refine b7 (ze c1) ?_
    rw[hgo,DM (.inl c1)] at kk;change kk _ s2
   ·refine cq (zd c1) ?_
    exists q6,_,rfl,.inr (cu.of h7),?_;intros p8 H8 s8 h8;let h68:=s8 _ _ h6;let h78:=s8 _ _ h7;exists q6,en.2,rfl,.inr (cu.of h78),(),λns np ns'=>?_;intros p9 H9 s9 h9;let h69:=s9 _ _ h68;let h79:=s9 _ _ h78;let h29:=s9 _ _ (s8 _ _ h2);rw[Dm np ns'] at h9;refine{p8,p9,_,_,rfl,rfl,.inl {aI.of (s9 _ _ h8),aI.of h9},.inr (.inr {qD _,qD _}),?_};rw[MP]
    by_cases c2:en.2=sortI en.2
    ·rw[ze c2]
     rw[HK c1 c2] at hgo;exists .inl {rfl,_,aI.of h29},?_;left;refine .inr {pp,q6,_,_,rfl,rfl,h29,h79,by rw[za,za];ext,?_};left;let s29:=(s2.trans s8).trans s9;refine{λb o hb=>?_,en.1,ps++en.2,_,rfl,by rw[aF,zj],by rw[zg];ext,hgo};let ne:b≠pp:=λz=>by rw[z,hn] at hb;cases hb
     rw[aG ne];exact s29 b o hb
    ·rw[zd c2]
     rw[hgo,DM (.inr c2)] at kk;change kk _ ((s2.trans s8).trans s9)
  ·rintro U H2 ⟨s2,z,ps,u,rfl,h2,hc,hgo⟩
   rw[ul,List.drop_length] at hgo hc;rw[hgo] at kk;let ha2:=s2 _ _ ha;unfold fU at kk;simp only at kk;rw[show IV []=0 from rfl] at hc;left
   by_cases c1:z<=r.last
   ·rw[ze c1,yU] at kk
    refine b7 (ze c1) ?_;exists pp,ps,rfl,.inl (aI.of h2),(),λns np ns'=>?_;intros p9 H9 s9 h9;rw[Dm np ns'] at h9;let ha9:=s9 _ _ ha2;exists 1,r.times+1,rfl,{∅,(by decide),(),()},(),?_;intros p10 H10 s10 h10;refine{p9,p10,_,_,rfl,rfl,.inl {aI.of (s10 _ _ h9),aI.of h10},.inr (.inr {qD _,qD _}),?_};rw[MP];exact kk _ ((s2.trans s9).trans s10)
   ·rw[zd c1,yS] at kk
    refine cq (zd c1) ?_;exact kk _ s2
def K4 {xs:List V} {x:V} (h:xs[⇑xs-1]?=some x):DV xs (-1)=some x:=by
 let hp:0<⇑xs:=by
  have:=(zw.mp h).1;ext
 let ne:xs≠[]:=yq.mp hp;let e:=xU ne;let e2:xs.getLast ne=x:=by
  have:=(zw.mp h).2;rw[List.getLast_eq_getElem];exact this
 rw[<-e,e2];exact L2.BF _ _
inductive Ai (K:yA) (vs:List V) (H:Hp) (Q:VK) (E:XK):Prop
 | mk (p:vy) (rs:List Rep) (v:V) (r:Rep) (_:vs=[.ref p,v]) (_:C8 K H p rs) (_:Is H (ji r) v) (_:IV r.ends<64) (_:-1000000<=r.times) (_:r.times<=1000000) (_:∀H',aB H H'->Q (.bl (kP rs r)) H')
def AV:cZ P w base 2 T.mS (Ai K):=by
 nomatch T.mS,["repeats","repeat"]
 let⟨p,rs,v,r,rfl,⟨vs,hp,il⟩,iv,ht,t0,t1,kk⟩:=h;let⟨a,e,rfl,ha,he⟩:=eX iv;let vl:=aQ il;let tail:(∀H',aB H H'->Q (.bl (decide (r.first<=r.last)&&fV r)) H')->(if decide (r.first<=r.last)=true then fI tK [] E0 (bM (aY 1) dR) [some (.ref p),some (.ref a)] H Q else Q (.bl false) H):=by
  intro k
  by_cases c:r.first<=r.last
  ·rw[ze c,yU] at k
   refine b7 (ze c) ?_;exact{_,rfl,_,r,rfl,iv,ht,t0,t1,k}
  ·rw[zd c,yS] at k
   refine cq (zd c) ?_;exact k _ (aB.refl _)
 refine{_,(ah (aJ (PW.pt (dq (ptr eW (d6 aE T.bE (ak (pv 0) ag)) af) (cV (ptr ic (bB (pv 1) af) (bB (fc (pv 0) (qE kF af)) af)))))
  (ao (au fL))
  aC)
  (ao (au (mU (cW ic (bB (pv 1) af) (bB (pv 1) af) (fq _)) (jY (bN (G6 T) hr T.Bd (ak (pv 1) ag))))))),?_}
 ac_rfl;exists p,_,rfl,.inl hp,?_;rw[vl];left
 by_cases h0:0<⇑rs
 ·refine b7 (ze ()) ?_
  let hi:⇑rs-1<⇑vs:=()
  let⟨q,hq,iq⟩:=cA il (zb hi);let⟨b,eb,evb,hb,_⟩:=eX iq;let eg:rs.getLast?=some q:=by rw[wg];exact hq
  unfold kP at kk;rw[eg] at kk;left;refine{p,vs,-1,_,rfl,rfl,hp,K4 (by rw[vl];exact zb hi),?_};rw[evb];left
  by_cases c:r.first<=q.last
  ·refine b7 (ze c) ?_
   simp only[yN c] at kk;change kk _ (aB.refl _)
  ·refine cq (zd c) ?_
   simp only[yM c] at kk;change tail kk
 ·refine cq (zd ()) ?_
  let e0:rs=[]:=yr.mp ();unfold kP at kk;rw[e0] at kk;change tail kk
def BX (x:Sc.MF):Prop:=0<=x.aP.1/\x.aP.1<=1000/\0<x.aP.2/\x.aP.2<=1000
inductive Vp (C:vy) (H:Hp) (a:vy) (o:Ow):Prop
 | mk (ub jm:V) (_:H a=some (.ins C o.dx (Pt o ub jm)))
structure Ul (C:vy) (H:Hp) (a:vy) (S:cg) (o:Ow):Prop where
 obj:Vp C H a o
 ba:OY H jz o.ba S.aO
def Ul.of {C a:vy} {H:Hp} {S:cg} {o:Ow} (h:bV C H a S o):Ul C H a S o:={by let⟨ub,jm,h1,_⟩:=h.obj;exact{(ub),jm,h1},h.ba}
inductive uh (C:vy) (vs:List V) (H:Hp) (Q:VK) (E:XK):Prop
 | mk (a:vy) (S:cg) (o:Ow) (b:Nat) (_:vs=[.ref a,.int b]) (_:Ul C H a S o) (_:b<⇑S.aO) (_:(∀x∈S.aO,BX x)) (_:∀p H',aB H H'->H' p=some (jx (S.aP b))->Q (.ref p) H')
def So {H:Hp} {b:Sc.MF} {v:V} (h:Is H (jz b) v):∃a m q,v=.ref a/\H a=some (.tup [.ref m,.int b.key,.ref q])/\H m=some (jx b.aP):=by
 unfold jz Is at h;let⟨a,vs,rfl,ha,hl⟩:=h;unfold aD at hl;let⟨v1,r1,rfl,h1,hl⟩:=hl;unfold aD at hl;let⟨v2,r2,rfl,h2,hl⟩:=hl;unfold aD at hl;let⟨v3,r3,rfl,h3,hl⟩:=hl;unfold aD at hl;subst hl;unfold Is at h2;subst h2;unfold kz Is at h3;let⟨q,us,rfl,hq,hle⟩:=h3;have:=eD (o:=some b.aP) h1;cases this with
 | ref hm=>exact{a,_,q,rfl,ha,hm}
def lY {C:vy} (F:Cf K C):cZ P w base 3 T.iC (uh C):=by
 nomatch T.iC,["score","bar","metre"]
 let⟨a,S,o,b,rfl,sc,hb,bW,kk⟩:=h;let⟨ub,jm,ho⟩:=sc.obj;let⟨vs,hv,il⟩:=sc.ba;let hi:b<⇑vs:=by rw[aQ il];exact hb
 let⟨x,hx,ix⟩:=cA il (zb hi);let⟨a1,m,q,ev,h1,hm⟩:=So ix;let⟨k1,k2,k3,k4⟩:=bW x (zB hx);unfold cg.aP at kk;rw[hx] at kk;refine{_,(ah (bR 2 qN (bB (fc (bD (pv 0) rfl) (pv 1)) af))
  (ao (au (bN (i6 T) hr T.eE (ak (bB (pv 2) af) (ak (bB (pv 2) af) ag)))))),?_}
 ac_rfl;exists a,C,o.dx,_,_,rfl,ho,F.cls,F.aO,rfl,?_;left;refine{o.ba,vs,b,_,rfl,rfl,aI.of hv,bj (zb hi),?_};rw[ev];change{_,_,rfl,k1,k3,(di (n:=10) () ()).mono ∅,λp H' s' h'=>kk p H' s' h'}
inductive Ah (C:vy) (vs:List V) (H:Hp) (Q:VK) (E:XK):Prop
 | mk (a:vy) (S:cg) (o:Ow) (b:Nat) (_:vs=[.ref a,.int b]) (_:bV C H a S o) (_:b<⇑S.aO) (_:(∀x∈S.aO,BX x)) (_:∀p H',aB H H'->H' p=some (jx (S.len b))->Q (.ref p) H')
def i4 {C:vy} (F:Cf K C):cZ P w base 4 T.gK (Ah C):=by
 nomatch T.gK,["score","bar"]
 let⟨a,S,o,b,rfl,sc,hb,bW,kk⟩:=h;let⟨ub,jm,ho,hub,hjm⟩:=sc.obj;unfold cg.len at kk;refine{_,(ah (aJ (PW.pt (dq (ptr de (pv 1) af) (cV (bG (fo (bD (pv 0) rfl))))))
  (ao (au (bD (pv 0) rfl)))
  aC)
  (ao (au (bN (lY T F) hr T.iC (ak (pv 0) (ak (pv 1) ag)))))),?_}
 ac_rfl;left
 by_cases c:b=0
 ·refine b7 (by rw[c];rfl) ?_
  exists a,C,o.dx,_,_,rfl,ho,F.cls,F.aH,rfl,?_;cases q:S.aH with
  | none=>
   rw[q] at kk hub;unfold dO Is at hub;subst hub;change{a,S,o,b,rfl,.of sc,hb,bW,kk}
  | some u=>
   rw[q] at kk hub;cases eD (o:=some u) hub with
   | ref hu=>
    exists a,C,o.dx,_,_,rfl,ho,F.cls,F.aH,rfl,?_;refine kk _ _ (aB.refl _) ?_;simp only[yN c];exact hu
 ·refine cq (zd λz=>c (by have:=V.int.inj z;ext)) ?_
  left;refine{a,S,o,b,rfl,.of sc,hb,bW,λp H' s' h'=>kk p H' s' ?_};cases q:S.aH with
  | none=>exact h'
  | some u=>simp only[yM c];exact h'
theorem jg (n:Str):∀ns:List Str,E4 (.str n) (ns.map V.str)=decide (n∈ns)
 | []=>rfl
 | m::ns=>by
  let ih:=jg n ns;unfold E4 at ih ⊢;rw[zh,xn,ih]
  by_cases e:n=m
  ·subst e
   simp[JN]
  ·let e':¬m=n:=λz=>e z.symm
   simp[JN,e,e']
theorem gr:∀ns:List Str,(ns.map V.str).all mf=true
 | []=>rfl
 | n::ns=>by rw[zh,wQ,gr ns];rfl
inductive fb (C:vy) (D:Hp->V->cg->Option Str->Prop) (vs:List V) (H:Hp) (Q:VK) (E:XK):Prop
 | mk (a:vy) (S:cg) (o:Ow) (v:V) (f:Option Str) (_:vs=[.ref a,v]) (_:bV C H a S o) (_:D H v S f) (_:∀H',aB H H'->Q (os f) H')
def lT (C:vy):Sp:=fb C λ_ v S f=>∃n,v=.str n/\f=fault S (.bH n)
def uJ {C:vy} (F:Cf K C):cZ P w base 1 T.iA (lT C):=by
 nomatch T.iA,["score","player"]
 let⟨a,S,o,v,f,rfl,sc,⟨n,rfl,rfl⟩,kk⟩:=h;let⟨ub,jm,ho,hub,hjm⟩:=sc.obj;let k:=kk H (aB.refl H);unfold fault at k;dsimp only at k;refine{_,(ah (aJ (gC ki (pv 1) (bD (pv 0) rfl) (by with_unfolding_all rfl))
  (ao (au aN))
  aC)
  (ah (aJ (ptr GX (d6 aE T.bE (ak (bD (pv 0) rfl) ag)) (bT (v:=.int (12)) (by rfl) T.BB {_,rfl}))
  (ao (au aN))
  aC)
  (ao (au aT)))),?_}
 ac_rfl;exists a,C,o.dx,_,_,rfl,ho,F.cls,F.players,rfl,?_;refine{o.pl,_,rfl,.inl (aI.of sc.pl),rfl,gr _,?_};show∃k,V.bl (E4 (.str n) (S.players.map V.str))=.bl k/\_;rw[jg]
 by_cases c1:n∈S.players
 ·rw[ze c1]
  rw[yN c1] at k;change k
 ·rw[zd c1]
  rw[yM c1] at k;exists a,C,o.dx,_,_,rfl,ho,F.cls,F.players,rfl,?_;exists o.pl,_,rfl,.inl (aI.of sc.pl),?_;rw[za];left
  by_cases c2:12<=⇑S.players
  ·refine b7 (ze ()) ?_
   rw[yN c2] at k;change k
  ·refine cq (zd ()) ?_
   rw[yM c2] at k;change k
def pV (C:vy):Sp:=fb C λ_ _ S f=>∃b,f=fault S (.bar b)
def EV {C:vy} (F:Cf K C):cZ P w base 1 T.nX (pV C):=by
 nomatch T.nX,["score","told"]
 let⟨a,S,o,v,f,rfl,sc,⟨b,rfl⟩,kk⟩:=h;let⟨ub,jm,ho,hub,hjm⟩:=sc.obj;let⟨vs,hv,il⟩:=sc.ba;let vl:=aQ il;let k:=kk H (aB.refl H);unfold fault at k;dsimp only at k;refine{_,(ah (aJ (ptr GX (d6 aE T.bE (ak (bD (pv 0) rfl) ag)) (bT (v:=.int (200)) (by rfl) T.Ik {_,rfl}))
  (ao (au aN))
  aC)
  (ao (au aT))),?_}
 ac_rfl;exists a,C,o.dx,_,_,rfl,ho,F.cls,F.aO,rfl,?_;exists o.ba,_,rfl,.inl (aI.of hv),?_;rw[vl];left
 by_cases c2:200<=⇑S.aO
 ·refine b7 (ze ()) ?_
  rw[yN c2] at k;change k
 ·refine cq (zd ()) ?_
  rw[yM c2] at k;change k
theorem pR (n:Str):∀{ks:List Str} {vs:List V},⇑vs=⇑ks->(dn ((ks.map kS).zip vs) (kS n)).isSome=decide (n∈ks)
 | [],_,_=>by simp[dn]
 | k::ks,[],h=>by simp at h
 | k::ks,v::vs,h=>by
  let ih:=pR n (ks:=ks) (vs:=vs) (by simpa using h);rw[zh,yV];unfold dn at ih ⊢;rw[yR]
  by_cases e:k=n
  ·subst e
   simp
  ·let e1:¬kS k=kS n:=λz=>e (Key.inr.inj z)
   let e2:¬n=k:=λz=>e z.symm;simp only[e1,decide_false] at ih ⊢;rw[ih];simp[e2]
def hZ (C:vy):Sp:=fb C λH v S f=>∃x,Is H (dZ x) v/\f=fault S (.cI x.1 x.2.1 x.2.2)
def Hs {H:Hp} {x:Str×(Int×Int)×(Int×Int)} {v:V} (h:Is H (dZ x) v):∃a t l,v=.ref a/\H a=some (.tup [.str x.1,t,l])/\Is H (dL x.2.1) t/\Is H (dL x.2.2) l:=by
 unfold dZ Is at h;let⟨a,vs,rfl,ha,hl⟩:=h;unfold aD at hl;let⟨v1,r1,rfl,h1,hl⟩:=hl;unfold aD at hl;let⟨v2,r2,rfl,h2,hl⟩:=hl;unfold aD at hl;let⟨v3,r3,rfl,h3,hl⟩:=hl;unfold aD at hl;subst hl;unfold Is at h1;subst h1;exact{(a),v2,v3,rfl,ha,h2,h3}
def oh {C:vy} (F:Cf K C):cZ P w base 1 T.eT (hZ C):=by
 nomatch T.eT,["score","told"]
 let⟨a,S,o,v,f,rfl,sc,⟨x,iv,rfl⟩,kk⟩:=h;let⟨ub,jm,ho,hub,hjm⟩:=sc.obj;let⟨vs,hv,il⟩:=sc.ins;let⟨a1,t,l,rfl,h1,_,_⟩:=Hs iv;let vl:=aQ il;let em:(S.aq.map λx=>kS x.1)=(S.aq.map (·.1)).map kS:=by rw[zA];rfl
 let k:=kk H (aB.refl H);unfold fault at k;dsimp only at k;refine{_,(ah (aJ (bG (Jr (fQ hr) (bB (pv 1) af) (bD (pv 0) rfl)))
  (ao (au aN))
  aC)
  (ah (aJ (ptr GX (d6 J5 T.bE (ak (bD (pv 0) rfl) ag)) (bT (v:=.int (12)) (by rfl) T.pG {_,rfl}))
  (ao (au aN))
  aC)
  (ao (au aT)))),?_}
 ac_rfl;exists a,C,o.dx,_,_,rfl,ho,F.cls,F.aq,rfl,?_;refine{o.ins,_,rfl,.inl {_,kS x.1,.inl hv,rfl,rfl},?_};rw[em,pR x.1 (by rw[za];exact vl)];left
 by_cases c1:x.1∈S.aq.map (·.1)
 ·rw[ze c1]
  rw[yN c1] at k;change k
 ·rw[zd c1]
  rw[yM c1] at k;exists a,C,o.dx,_,_,rfl,ho,F.cls,F.aq,rfl,?_;exists o.ins,_,rfl,hv,?_;rw[xx,za,vl,Nat.min_self];left
  by_cases c2:12<=⇑S.aq
  ·refine b7 (ze ()) ?_
   rw[yN c2] at k;change k
  ·refine cq (zd ()) ?_
   rw[yM c2] at k;change k
inductive Gi (K:yA) (C:vy) (vs:List V) (H:Hp) (Q:VK) (E:XK):Prop
 | mk (a p:vy) (S:cg) (o:Ow) (bs:List Int) (_:vs=[.ref a,.ref p]) (_:bV C H a S o) (_:aI K H p (bs.map V.int)) (_:⇑bs<=1000000) (_:∀H',aB H H'->Q (.bl (S.has bs)) H')
def jI {C:vy} (F:Cf K C):cZ P w base 1 T.kr (Gi K C):=by
 nomatch T.kr,["score","bars"]
 let⟨a,p,S,o,bs,rfl,sc,hp,hl,kk⟩:=h;let sl:=yB;refine{_,(ao (au (d6 (kA rfl) T.Hk (ak (mE (ts:=["bar"]) (ys:=["score"]) (js:=[0]) (te:=(eO (uG λi j=>.bl (decide (i<j))) (aY 0) (Lp (U5 K) (bM (Pj K (aY 1) "bars") dR)))) (bc (pv 1)) (gg 0) bg (cW fe (pv 0) (d6 aE T.bE (ak (bD (pv 1) rfl) ag)) (fq _))) ag)))),?_};ac_rfl;exists{_,hp},?_;refine eU (enc:=V.int) (ws:=bs) (λz=>.bl (decide (z<(⇑S.aO:Int)))) (λU=>∃v,U=[v,some (.ref a)]) () hp {(none),rfl} ?_ ?_
 ·rintro z U H1 R hz s1 ⟨_,rfl⟩ r
  let sc1:=sc.mono s1;let⟨ub,jm,ho,hub,hjm⟩:=sc1.obj;let⟨vs,hv,il⟩:=sc1.ba;let vl:=aQ il;exists a,C,o.dx,_,_,rfl,ho,F.cls,F.aO,rfl,?_;exists o.ba,vs,rfl,.inl (aI.of hv),?_;rw[vl];change r _ _ _ (aB.refl _) (by unfold Is;rfl) {_,rfl}
 ·intro D vs H1 s1 hD il
  let e:bs.map (λz=>Dt.bl (decide (z<(⇑S.aO:Int))))=(bs.map λz=>decide (z<(⇑S.aO:Int))).map Dt.bl:=by rw[zA];rfl
  rw[e] at il;rw[jf il] at hD;refine{D,_,rfl,aI.of hD,?_};let e2:(bs.map λz=>decide (z<(⇑S.aO:Int))).all id=S.has bs:=by rw[wa];rfl
  rw[e2];exact kk _ s1
inductive ui (K:yA) (vs:List V) (H:Hp) (Q:VK) (E:XK):Prop
 | mk (p:vy) (us:List V) (its:List Item) (_:vs=[.ref p]) (_:aI K H p us) (_:aD H (its.map eJ) us) (_:⇑its<=500) (_:(∀it∈its,O8 it.2)) (_:∀r H',aB H H'->H' r=some (jx (jU its))->Q (.ref r) H')
def rR (l:List Item) (it:Item):jU (l++[it])=add (jU l) it.2:=by unfold jU;rw[zX];rfl
def uK:cZ P w base 4 T.lB (ui K):=by
 nomatch T.lB,["items","length","item"]
 let⟨p,us,its,rfl,hp,il,hl,bW,kk⟩:=h;let sl:=yB;let ul:=aQ il;refine{_,(ah (bR 1 qN (bI (ak af (ak af ag))))
  (ah (bZ yO rfl (bc (pv 0)) (gR 2 qN)
  (ao (bR 1 qN (bN (NX T) hr T.added (ak (pv 1) (ak (bB (pv 2) af) ag))))))
  (ao (au (pv 1))))),?_}
 ac_rfl;exists cT,?_;intros p1 H1 s1 h1;exists{_,s1.seq hp},?_;refine fi (K:=K) (a:=p) (xs:=us) (λi U H'=>aB H H'/\∃q v,U=[some (.ref p),some (.ref q),v]/\H' q=some (jx (jU (its.take i)))/\Lm.Rd (jU (its.take i))/\BY (15*i+1) (jU (its.take i))) {s1,p1,none,rfl,h1,?_,?_} (λi U H' _ h=>h.1.seq hp) ?_ ?_
 ·exact Lm.Rd.zero
 ·show BY 1 (0,1)
  exact{di ∅ ∅,di ∅ ∅}
 ·rintro i x U H2 hx ⟨s2,q,v,rfl,hq,rq,zq⟩
  let⟨it,hit,iit⟩:=cA il hx;let⟨a6,pv,lv,rfl,h6,_,i8⟩:=item_at (iit.mono s2);let hi:i<⇑its:=(zw.mp hit).1;let⟨ok1,Ui,Vv,ok4⟩:=bW it (zB hit);cases eD (o:=some it.2) i8 with
  | ref h8=>
   let zi:BY 14 it.2:={di () (),di (by have:=ok1.pos;ext) ()}
   exists _,_,_,_,_,_,rfl,hq,h8,rq,ok1,zq,zi,(),λr H3 s3 h3=>?_;let e:=cC hit;refine{s2.trans s3,r,_,rfl,?_,?_,?_}
   ·rw[e,rR];exact h3
   ·rw[e,rR];exact rq.add ok1
   ·rw[e,rR];exact{(BY.add rq ok1 zq zi).1.mono (),(BY.add rq ok1 zq zi).2.mono ()}
 ·rintro U H2 ⟨s2,q,v,rfl,hq,_,_⟩
  rw[ul,zM] at hq;change kk _ _ s2 hq
def FP (S:cg):Prop:=∀r∈S.repeats,⇑r.ends<=1000000
def oy (C:vy):Sp:=fb C λH v S f=>∃j,Is H (jk j) v/\FP S/\f=fault S (.bu j)
def HE {l:List V} {i:Nat} {x:V} (h:l[i]?=some x):(l.take (i+1)).filter (λv=>!gi v)=(l.take i).filter (λv=>!gi v)++(if gi x=true then [] else [x]):=by
 rw[cC h,yW];cases q:gi x with
 | true=>simp[q]
 | false=>simp[q]
def Cz {C:vy} (F:Cf K C):cZ P w base 5 T.lz (oy C):=by
 nomatch T.lz,["score","jump"]
 let⟨a,S,o,v,f,rfl,sc,⟨j,iv,uF,rfl⟩,kk⟩:=h;let sl:=yB;let⟨ub,jm,ho,hub,hjm⟩:=sc.obj;let⟨vs,hv,il⟩:=sc.re;let⟨a1,rfl,h1⟩:=lA iv;unfold fault at kk;dsimp only at kk;refine{_,(ah (aJ (bG (fo (bD (pv 0) rfl)))
  (ao (au aN))
  aC)
  (ah (aJ (eC (cy (bN (jI T F) hr T.kr (ak (pv 0) (ak (mE (ts:=["bar"]) (ys:=[]) (js:=[]) (g:=(bY 0)) (tc:=(tB (M1 (aY 0)))) (te:=(aY 0)) (gX (pv 1)) (gg 0) (gD (bG (fo (pv 0)))) (pv 0)) ag)))))
  (ao (au aN))
  aC)
  (ah (aJ (eC (cy (bN (ES T) hr T.sQ (ak (bD (pv 0) rfl) (ak (pv 1) ag)))))
  (ao (au aN))
  aC)
  (ao (au aT))))),?_}
 ac_rfl;exists a,C,o.dx,_,_,rfl,ho,F.cls,F.bu,rfl,?_;cases q:S.bu with
 | some j'=>
  rw[q] at hjm kk;let⟨a2,rfl,_⟩:=lA hjm;change kk _ (aB.refl _)
 | none=>
  rw[q] at hjm kk;unfold dO Is at hjm;subst hjm;rw[yM ∅] at kk;exists{_,cu.of h1},?_;generalize hw:[V.int j.rM,V.int j.tU,V.int j.cN,ov j.eK]=ws at h1;let wl:⇑ws=4:=by rw[<-hw];rfl
  refine nc ⇑ws (λi=>(ws.take i).filter λv=>!gi v) (λi U H'=>H'=H/\∃v,U=[v]) (λi hi=>zL (xf _ _) (by rw[zP];ext)) () rfl {(rfl),none,rfl} ?_ ?_ ?_ ?_
  ·rintro i U H' hi ⟨rfl,_⟩
   exact JH (cu.of h1) hi
  ·rintro U H' ⟨rfl,_⟩
   exact{_,cu.of h1,zk _}
  ·rintro i x U H' H2 hi ⟨rfl,v,rfl⟩ ⟨rfl,hy⟩
   let hx:=hy _ (cu.of h1);left
   by_cases e:x=.bA
   ·refine cq (by rw[ze e];rfl) ?_
    refine IH.skip hi ?_ {rfl,_,rfl};show List.filter _ (List.take (i+1) ws)=List.filter _ (List.take i ws);rw[HE hx,yN (show gi x=true from ze e),zU]
   ·refine b7 (by rw[zd e];rfl) ?_
    left;refine IH.push hi ?_ {rfl,_,rfl};show List.filter _ (List.take (i+1) ws)=List.filter _ (List.take i ws)++[x];rw[HE hx,yM (by unfold gi;rw[zd e];decide)]
  ·rintro U H' ⟨rfl,_⟩
   rw[zM];let ef:(ws.filter λv=>!gi v)=([j.rM,j.tU,j.cN]++j.eK.toList).map V.int:=by
    rw[<-hw];cases j.eK <;> rfl
   rw[ef];intros D H2 s2 h2;refine{a,D,S,o,_,rfl,sc.mono s2,aI.of h2,?_,λH3 s3=>?_}
   ·cases j.eK <;> simp
   ·cases qb:S.has ([j.rM,j.tU,j.cN]++j.eK.toList) with
    | false=>
     rw[qb] at kk;change kk _ (s2.trans s3)
    | true=>
     rw[qb,yM (by simp)] at kk;let s03:=s2.trans s3;let sc3:=sc.mono s03;exists a,C,o.dx,_,_,rfl,s03 _ _ ho,F.cls,F.repeats,rfl,?_;exists o.re,S.repeats,_,j,rfl,{vs,aI.of (s03 _ _ hv),il.mono s03},uF,iv.mono s03,λH4 s4=>?_;cases qj:gQ S.repeats j with
     | false=>
      rw[qj] at kk;change kk _ (s03.trans s4)
     | true=>
      rw[qj,yM (by simp)] at kk;change kk _ (s03.trans s4)
def lS (C:vy):Sp:=fb C λH v S f=>∃r:Rep,Is H (ji r) v/\IV r.ends<64/\⇑r.ends<=1000/\-1000000<=r.times/\r.times<=1000000/\f=fault S (.rep r)
def uI {C:vy} (F:Cf K C):cZ P w base 3 T.ik (lS C):=by
 nomatch T.ik,["score","repeat"]
 let⟨a,S,o,v,f,rfl,sc,⟨r,iv,ht,hl,t0,t1,rfl⟩,kk⟩:=h;let sl:=yB;let⟨ub,jm,ho,hub,hjm⟩:=sc.obj;let⟨vs,hv,il⟩:=sc.re;let vl:=aQ il;let⟨a1,e,rfl,h1,he⟩:=eX iv;unfold Is at he;let⟨e',us,ee,hu,ilu⟩:=he;cases ee;unfold fault at kk;dsimp only at kk;refine{_,(ah (aJ (eC (cy (bN (jI T F) hr T.kr (ak (pv 0) (ak (aA fN (bq (ak (bB (pv 1) af) (ak (bB (pv 1) af) ag))) (mE (ts:=["end"]) (ys:=[]) (js:=[]) (te:=(eO (kU K) (aY 0) (tC (.int (0))))) (gX (bB (pv 1) af)) (gg 0) bg (bB (pv 0) af))) ag)))))
  (ao (au aN))
  aC)
  (ah (aJ (PW.pt (dB (bG (fo (bD (pv 0) rfl))) (cU (eC (cy (bN (AV T) hr T.mS (ak (bD (pv 0) rfl) (ak (pv 1) ag))))))))
  (ao (au aN))
  aC)
  (ah (aJ (ptr GX (d6 aE T.bE (ak (bD (pv 0) rfl) ag)) (bT (v:=.int (20)) (by rfl) T.BA {_,rfl}))
  (ao (au aN))
  aC)
  (ao (au aT))))),?_}
 ac_rfl;exists cT,?_;intros p2 H2 s2 h2;let h12:=s2 _ _ h1;exists{_,cu.of (s2 _ _ hu)},?_;let⟨ps,f1,f2,f3⟩:=nU ilu;let pl:⇑ps<=1000:=by
  have:⇑ps=⇑r.ends:=by rw[<-f1,za]
  ext
 refine fu (enc:=λz:Sc.End×V=>z.2) (ws:=ps) (λz=>.int z.1.1) (λU=>∃v,U=[v]) () (by rw[f2];exact s2 _ _ hu) {(none),rfl} ?_ ?_
 ·rintro z U H6 R' hz s6 ⟨_,rfl⟩ r'
  let⟨a6,q6,ev,h6,h7⟩:=m8 (f3 z hz);rw[ev];let h66:=s6 _ _ (s2 _ _ h6);change r' _ _ _ (aB.refl _) cG {_,rfl}
 ·intro D vs5 H3 s3 hD il5
  let e5:ps.map (λz=>Dt.int z.1.1)=(r.ends.map (·.1)).map Dt.int:=by rw[<-f1,zA,zA];rfl
  rw[e5] at il5;rw[d4 il5] at hD;refine{p2,D,_,_,rfl,rfl,aI.of (s3 _ _ h2),aI.of hD,by rw[za,za];show 2+_<=_;ext,?_};rw[show [V.int r.first,V.int r.last]++List.map V.int (r.ends.map (·.1))=([r.first,r.last]++r.ends.map (·.1)).map V.int from by rw[zj];rfl];intros p4 H4 s4 h4;let s04:=(s2.trans s3).trans s4;refine{a,p4,S,o,_,rfl,sc.mono s04,aI.of h4,by rw[zg,za];show 2+_<=_;ext,λH5 s5=>?_};let s05:=s04.trans s5;cases qb:S.has ([r.first,r.last]++r.ends.map (·.1)) with
  | false=>
   rw[qb] at kk;change kk _ s05
  | true=>
   rw[qb,yM (by simp)] at kk;exists a,C,o.dx,_,_,rfl,s05 _ _ ho,F.cls,F.bu,rfl,?_;cases q:S.bu with
   | some j'=>
    rw[q] at hjm kk;let⟨a2,rfl,_⟩:=lA hjm;change kk _ s05
   | none=>
    rw[q] at hjm kk;unfold dO Is at hjm;subst hjm;rw[yM ∅] at kk;exists a,C,o.dx,_,_,rfl,s05 _ _ ho,F.cls,F.repeats,rfl,?_;exists o.re,S.repeats,_,r,rfl,{vs,aI.of (s05 _ _ hv),il.mono s05},iv.mono s05,ht,t0,t1,λH6 s6=>?_;let s06:=s05.trans s6;cases qj:kP S.repeats r with
    | false=>
     rw[qj] at kk;change kk _ s06
    | true=>
     rw[qj,yM (by simp)] at kk;exists a,C,o.dx,_,_,rfl,s06 _ _ ho,F.cls,F.repeats,rfl,?_;exists o.re,vs,rfl,.inl (aI.of (s06 _ _ hv)),?_;rw[vl];left
     by_cases c2:20<=⇑S.repeats
     ·refine b7 (ze ()) ?_
      rw[yN c2] at kk;change kk _ s06
     ·refine cq (zd ()) ?_
      rw[yM c2] at kk;change kk _ s06
theorem F3 (n:Int×Str):∀{ks:List (Int×Str)} {vs:List V},⇑vs=⇑ks->(dn ((ks.map kN).zip vs) (kN n)).isSome=decide (n∈ks)
 | [],_,_=>by simp[dn]
 | k::ks,[],h=>by simp at h
 | k::ks,v::vs,h=>by
  let ih:=F3 n (ks:=ks) (vs:=vs) (by simpa using h);rw[zh,yV];unfold dn at ih ⊢;rw[yR]
  by_cases e:k=n
  ·subst e
   simp
  ·let e1:¬kN k=kN n:=λz=>e (by
    unfold kN at z;simp at z;exact Prod.ext z.1 z.2)
   let e2:¬n=k:=λz=>e z.symm;simp only[e1,decide_false] at ih ⊢;rw[ih];simp[e2]
theorem nP {α:Type} {d:α->Dt} {H:Hp}:∀{ls:List (List α)} {as:List vy},b9 H d ls as->⇑as=⇑ls
 | [],_,h=>by unfold b9 at h;rw[h];rfl
 | l::r,_,⟨a,t,vs,e,_,_,h3⟩=>by rw[e,zt,zt,nP h3]
def PX {x y:Int×Int}:decide ([V.int x.1,V.int x.2]=[V.int y.1,V.int y.2])=decide (x=y):=by
 by_cases h:x=y
 ·subst h;simp
 ·rw[zd h,zd]
  intro z;simp at z;exact h (Prod.ext z.1 z.2)
def mP (C:vy):Sp:=fb C λH v S f=>∃x:Int×Str×List Item,K7 H v x/\0<=x.1/\⇑x.2.2<=500/\(∀it∈x.2.2,O8 it.2)/\(∀b∈S.aO,BX b)/\f=fault S (.aK x.1 x.2.1 x.2.2)
def AZ {C:vy} (F:Cf K C):cZ P w base 5 T.jJ (mP C):=by
 nomatch T.jJ,["score","told","bar","player","items"]
 let⟨a,S,o,v,f,rfl,sc,⟨⟨b,pn,its⟩,⟨a1,q,us,rfl,h1,hq,ilq⟩,b0,il5,iok,bok,rfl⟩,kk⟩:=h;let sl:=yB;let⟨ub,jm,ho,hub,hjm⟩:=sc.obj;let nl:⇑(o.ns.map V.ref)=⇑(S.aK.map (·.1)):=by rw[za,za,nP sc.no.2,za]
 let em:(S.aK.map λx=>kN x.1)=(S.aK.map (·.1)).map kN:=by rw[zA];rfl
 unfold fault at kk;dsimp only at kk h1 b0 il5 iok ilq;refine{_,(ah (bR 2 qN (bB (pv 1) af))
  (ah (bR 3 qN (bB (pv 1) af))
  (ah (bR 4 qN (bB (pv 1) af))
  (ah (aJ (bG (Jr (fQ hr) (bI (ak (pv 2) (ak (pv 3) ag))) (bD (pv 0) rfl)))
  (ao (au aN))
  aC)
  (ah (aJ (gC dJ (pv 3) (bD (pv 0) rfl) (by with_unfolding_all rfl))
  (ao (au aN))
  aC)
  (ah (aJ (eC (cy (bN (jI T F) hr T.kr (ak (pv 0) (ak (bq (ak (pv 2) ag)) ag)))))
  (ao (au aN))
  aC)
  (ah (aJ (ptr (kZ hr.units) (bN (uK T) hr T.lB (ak (pv 4) ag)) (bN (i4 T F) hr T.gK (ak (pv 0) (ak (pv 2) ag))))
  (ao (au aN))
  aC)
  (ah (aJ (ptr eW (d6 aE T.bE (ak (pv 4) ag)) (bT (v:=.int (40)) (by rfl) T.Fw {_,rfl}))
  (ao (au aN))
  aC)
  (ao (au aT)))))))))),?_}
 ac_rfl;exists cT,?_;intros p2 H2 s2 h2;let h12:=s2 _ _ h1;exists a,C,o.dx,_,_,rfl,s2 _ _ ho,F.cls,F.aK,rfl,?_;refine{o.no,_,rfl,.inr {_,kN (b,pn),p2,.inl (s2 _ _ sc.no.1),rfl,h2,rfl},?_};rw[em,F3 (b,pn) nl];left
 by_cases c1:(b,pn)∈S.aK.map (·.1)
 ·rw[ze c1]
  rw[yN c1] at kk;change kk _ s2
 ·rw[zd c1]
  rw[yM c1] at kk;exists a,C,o.dx,_,_,rfl,s2 _ _ ho,F.cls,F.players,rfl,?_;refine{o.pl,_,rfl,.inl (aI.of (s2 _ _ sc.pl)),rfl,gr _,?_};show∃k,V.bl (!E4 (.str pn) (S.players.map V.str))=.bl k/\_;rw[jg]
  by_cases c2:pn∈S.players
  ·rw[ze c2]
   rw[yM (λz=>z c2)] at kk;exists by show 1<=sizeLine;ext,?_
   intros p3 H3 s3 h3;refine{a,p3,S,o,[b],rfl,sc.mono (s2.trans s3),aI.of h3,(by show 1<=1000000;decide),λH4 s4=>?_};let s04:=(s2.trans s3).trans s4;cases qb:S.has [b] with
   | false=>
    rw[qb] at kk;change kk _ s04
   | true=>
    rw[qb,yM (by simp)] at kk;let hb:b<⇑S.aO:=by
     unfold cg.has at qb
     simpa using qb
    let⟨n,rfl⟩:=yK b0;exists q,us,its,rfl,aI.of (s04 _ _ hq),ilq.mono s04,il5,iok,λr5 H5 s5 h5=>?_;exists a,S,o,n,rfl,sc.mono (s04.trans s5),(),bok,λr6 H6 s6 h6=>?_;let s06:=(s04.trans s5).trans s6;refine{r5,r6,_,_,rfl,rfl,.inr {cu.of (s6 _ _ h5),cu.of h6},.inr (.inr {(rfl),rfl}),?_};rw[PX]
    by_cases c3:jU its=S.len n
    ·rw[ze c3]
     rw[yM (λz=>z c3)] at kk;exists q,us,rfl,.inl (aI.of (s06 _ _ hq)),?_;rw[aQ ilq];left
     by_cases c4:40<⇑its
     ·refine b7 (ze ()) ?_
      rw[yN c4] at kk;change kk _ s06
     ·refine cq (zd ()) ?_
      rw[yM c4] at kk;change kk _ s06
    ·rw[zd c3]
     rw[yN (show jU its≠S.len ((n:Int)).toNat from c3)] at kk;change kk _ s06
  ·rw[zd c2]
   rw[yN c2] at kk;change kk _ s2
def both {c:Bool} {T:(Bool->Hp->Prop)->Prop} {Z:Bool->Hp->Prop} {H:Hp} (v:Bool) (h1:c=true->∀Z,Z v H->T Z) (h2:c=false->v=false) (hz:Z v H):if c=true then T Z else Z false H:=by
 cases c with
 | true=>rw[yN rfl];exact h1 rfl Z hz
 | false=>rw[yM (by simp)];rw[<-h2 rfl];exact hz
theorem sR {H:Hp} {α:Type} {d:α->Dt} (p:Str):∀{hs:List (Str×List α)} {as:List vy},b9 H d (hs.map (·.2)) as->
  (hs.lookup p=none/\dn ((hs.map λx=>kS x.1).zip (as.map V.ref)) (kS p)=none)\/∃l h vs,hs.lookup p=some l/\dn ((hs.map λx=>kS x.1).zip (as.map V.ref)) (kS p)=some (.ref h)/\H h=some (.lst vs)/\aD H (l.map d) vs
 | [],_,h=>.inl {rfl,by simp[dn]}
 | (x,l)::r,as,h=>by
  rw[zh] at h;unfold b9 at h;let⟨a,t,vs,rfl,h1,h2,h3⟩:=h;rw[zh,zh,yV]
  by_cases e:x=p
  ·subst e
   refine .inr {l,a,vs,by rw[yp,wc],?_,h1,h2};unfold dn;rw[yR];simp
  ·let e1:¬kS x=kS p:=λz=>e (Key.inr.inj z)
   let e2:(p == x)=false:=by simp;exact λz=>e z.symm
   let ih:=sR p h3;unfold dn at ih ⊢;rw[yR,yp,e2];simp only[e1,decide_false];exact ih
def Oh {H:Hp} {x:Int×Str} {v:V} (h:Is H (J0 x) v):∃a,v=.ref a/\H a=some (.tup [.int x.1,.str x.2]):=by
 unfold J0 Is at h;let⟨a,vs,rfl,ha,hl⟩:=h;unfold aD at hl;let⟨v1,r1,rfl,h1,hl⟩:=hl;unfold aD at hl;let⟨v2,r2,rfl,h2,hl⟩:=hl;unfold aD at hl;subst hl;unfold Is at h1 h2;subst h1 h2;exact{(a),rfl,ha}
def KQ {H:Hp} {x:Str×Int×Str} {v:V} (h:Is H (tZ x) v):∃a,v=.ref a/\H a=some (.tup [.str x.1,.int x.2.1,.str x.2.2]):=by
 unfold tZ Is at h;let⟨a,vs,rfl,ha,hl⟩:=h;unfold aD at hl;let⟨v1,r1,rfl,h1,hl⟩:=hl;unfold aD at hl;let⟨v2,r2,rfl,h2,hl⟩:=hl;unfold aD at hl;let⟨v3,r3,rfl,h3,hl⟩:=hl;unfold aD at hl;subst hl;unfold Is at h1 h2 h3;subst h1 h2 h3;exact{(a),rfl,ha}
def oz (C:vy):Sp:=fb C λH v S f=>∃x:Str×Int×Str,Is H (tZ x) v/\f=fault S (.holds x.1 x.2.1 x.2.2)
def CA {C:vy} (F:Cf K C):cZ P w base 3 T.lD (oz C):=by
 nomatch T.lD,["score","told","bar","holds"]
 let⟨a,S,o,v,f,rfl,sc,⟨⟨pn,b,iN⟩,hd,rfl⟩,kk⟩:=h;let⟨a1,rfl,h1⟩:=KQ hd;let sl:=yB;let⟨ub,jm,ho,hub,hjm⟩:=sc.obj;unfold fault at kk;dsimp only at kk h1;refine{_,(ah (bR 2 qN (bB (pv 1) af))
  (ah (bR 3 qN (qG (fQ hr) (bD (pv 0) rfl) (bB (pv 1) af) (bq ag) {(rfl),rfl,rfl,rfl}))
  (ah (aJ (PW.pt (dq (ptr eW (d6 aE T.bE (ak (pv 3) ag)) af) (cV (ptr ic (pv 2) (bB (fc (pv 3) (qE kF af)) af)))))
  (ao (au aN))
  aC)
  (ah (aJ (PW.pt (dB (gC dJ (bB (pv 1) af) (bD (pv 0) rfl) (by with_unfolding_all rfl)) (cU (bG (Ds (fQ hr) (bB (pv 1) af) (bD (pv 0) rfl))))))
  (ao (au aN))
  aC)
  (ah (aJ (eC (cy (bN (jI T F) hr T.kr (ak (pv 0) (ak (bq (ak (pv 2) ag)) ag)))))
  (ao (au aN))
  aC)
  (ah (aJ (ptr GX (d6 aE T.bE (ak (pv 3) ag)) (bT (v:=.int (20)) (by rfl) T.Fx {_,rfl}))
  (ao (au aN))
  aC)
  (ao (au aT)))))))),?_}
 ac_rfl;exists a,C,o.dx,_,_,rfl,ho,F.cls,F.holds,rfl,?_;refine{o.ho,rfl,.inl {_,.inl sc.ho.1},?_};exists by show 0<=sizeLine;ext,?_
 intros p2 H2 s2 h2;let h12:=s2 _ _ h1;refine{_,.inl {_,kS pn,.inl (s2 _ _ sc.ho.1),rfl,rfl},?_};obtain⟨h,vs,l,eh,hh,ilh,el⟩:∃h vs l,(dn ((S.holds.map λx=>kS x.1).zip (o.hs.map V.ref)) (kS pn)).getD (.ref p2)=.ref h/\H2 h=some (.lst vs)/\aD H2 (l.map J0) vs/\(S.holds.lookup pn).getD []=l:=by
  rcases sR (H:=H) pn sc.ho.2 with⟨e1,e2⟩ | ⟨l,h,vs,e1,e2,hh,il⟩
  ·exact{p2,[],[],by rw[e2];rfl,h2,by unfold aD;rfl,by rw[e1];rfl}
  ·exact{h,vs,l,by rw[e2];rfl,s2 _ _ hh,il.mono s2,by rw[e1];rfl}
 rw[el] at kk;rw[eh];exists h,vs,rfl,.inl (aI.of hh),?_;rw[aQ ilh];left;obtain⟨c1,ec,kk⟩:∃c1:Bool,c1=(match l.getLast? with | some q=>decide (b<=q.1) | none=>false)/\∀H',aB H H'->Q (Sc.os (if c1=true then some "twice" else if pn∉S.players then some "name" else if iN∉S.aq.map (·.1) then some "name" else if¬S.has [b]=true then some "bar" else if 20<=⇑l then some "many" else none)) H':=by
  refine{_,rfl,?_};cases q:l.getLast? with
  | none=>rw[q] at kk;exact kk
  | some x=>rw[q] at kk;exact kk
 refine both c1 ?_ ?_ ?_
 ·intro c Z hz
  let lp:0<⇑l:=by have:=yd c;ext
  let vl:=aQ ilh;let⟨x,hx,ix⟩:=cA ilh (i:=⇑vs-1) (zb ());let⟨a3,ea,h3⟩:=Oh ix;let eg:l.getLast?=some x:=by rw[wg,<-vl];exact hx
  rw[ec,eg] at hz;left;refine{h,vs,-1,_,rfl,rfl,aI.of hh,K4 (zb ()),?_};rw[ea];change hz
 ·intro c
  have:l=[]:=yr.mp (by have:=of_decide_eq_false c;ext);rw[ec,this];rfl
 ·clear ec
  cases c1 with
  | true=>
   change kk _ s2
  | false=>
   rw[yM (by simp)] at kk;exists a,C,o.dx,_,_,rfl,s2 _ _ ho,F.cls,F.players,rfl,?_;refine{o.pl,_,rfl,.inl (aI.of (s2 _ _ sc.pl)),rfl,gr _,?_};show∃k,V.bl (!E4 (.str pn) (S.players.map V.str))=.bl k/\_;rw[jg]
   by_cases c2:pn∈S.players
   ·rw[ze c2]
    rw[yM (λz=>z c2)] at kk;let⟨us,hu,ilu⟩:=sc.ins;let em:(S.aq.map λx=>kS x.1)=(S.aq.map (·.1)).map kS:=by rw[zA];rfl
    exists a,C,o.dx,_,_,rfl,s2 _ _ ho,F.cls,F.aq,rfl,?_;refine{o.ins,_,rfl,.inl {_,kS iN,.inl (s2 _ _ hu),rfl,rfl},?_};rw[em,pR iN (by rw[za];exact aQ ilu)]
    by_cases c3:iN∈S.aq.map (·.1)
    ·rw[ze c3]
     rw[yM (λz=>z c3)] at kk;exists by show 1<=sizeLine;ext,?_
     intros p3 H3 s3 h3;refine{a,p3,S,o,[b],rfl,sc.mono (s2.trans s3),aI.of h3,(by show 1<=1000000;decide),λH4 s4=>?_};let s04:=(s2.trans s3).trans s4;cases qb:S.has [b] with
     | false=>
      rw[qb] at kk;change kk _ s04
     | true=>
      rw[qb,yM (by simp)] at kk;exists h,vs,rfl,.inl (aI.of ((s3.trans s4) _ _ hh)),?_;rw[aQ ilh];left
      by_cases c4:20<=⇑l
      ·refine b7 (ze ()) ?_
       rw[yN c4] at kk;change kk _ s04
      ·refine cq (zd ()) ?_
       rw[yM c4] at kk;change kk _ s04
    ·rw[zd c3]
     rw[yN c3] at kk;change kk _ s2
   ·rw[zd c2]
    rw[yN c2] at kk;change kk _ s2
def Gd {H:Hp} {x:Str×List Str} {v:V} (h:Is H (gw x) v):∃a q,v=.ref a/\H a=some (.tup [.str x.1,.ref q])/\H q=some (.tup (x.2.map V.str)):=by
 unfold gw Is at h;let⟨a,vs,rfl,ha,hl⟩:=h;unfold aD at hl;let⟨v1,r1,rfl,h1,hl⟩:=hl;unfold aD at hl;let⟨v2,r2,rfl,h2,hl⟩:=hl;unfold aD at hl;subst hl;unfold Is at h1;subst h1;unfold kz Is at h2;let⟨q,us,rfl,hq,hl⟩:=h2;rw[dw hl] at hq;exact{(a),q,rfl,ha,hq}
def RE {H:Hp} {x:Str×List Str} {v:V} (h:Is H (Qo x) v):∃q,v=.ref q/\H q=some (.tup (x.2.map V.str)):=by
 unfold Qo kz Is at h;let⟨q,us,rfl,hq,hl⟩:=h;rw[dw hl] at hq;exact{(q),rfl,hq}
inductive Gf (C:vy) (vs:List V) (H:Hp) (Q:VK) (E:XK):Prop
 | mk (a:vy) (S:cg) (o:Ow) (v ub jm:V) (x:Str×List Str) (ob:Obj) (us:List V) (_:vs=[.ref a,v]) (_:H a=some (.ins C o.dx (Pt o ub jm))) (_:H o.pl=some (.lst (S.players.map V.str))) (_:Kk H o.st ob ((S.aL.map λx=>kS x.1).zip us)) (_:aD H (S.aL.map Qo) us) (_:Is H (gw x) v) (_:⇑x.2<=1000) (_:∀H',aB H H'->Q (os (fault S (.cj x.1 x.2))) H')
theorem IK {α β:Type}:∀{l:List α} {m:List β} {i:Nat} {p:α×β},(l.zip m)[i]?=some p->l[i]?=some p.1/\m[i]?=some p.2
 | [],_,_,_,h=>by simp at h
 | _::_,[],_,_,h=>by simp at h
 | _::_,_::_,0,_,h=>by simp at h;subst h;exact{(rfl),rfl}
 | _::l,_::m,i+1,_,h=>by
  rw[yV] at h
  simpa using IK (l:=l) (m:=m) (i:=i) (by simpa using h)
def OR {α:Type} {p:α->Bool} {l:List α} {i:Nat} {x:α} (h:l[i]?=some x) (hn:(l.take i).any p=false) (hx:p x=false):(l.take (i+1)).any p=false:=by
 rw[cC h,List.any_append,hn];simp[hx]
def OS {α:Type} {p:α->Bool} {l:List α} {i:Nat} {x:α} (h:l[i]?=some x) (hx:p x=true):l.any p=true:=yn.mpr {x,zB h,hx}
def GZ {C:vy} (F:Cf K C):cZ P w base 1 T.gL (Gf C):=by
 nomatch T.gL,["score","told","players","others"]
 let⟨a,S,o,v,ub,jm,x,ob,us,rfl,ho,hpl,fz,ilu,iv,x5,kk⟩:=h;let⟨a1,q,rfl,h1,hq⟩:=Gd iv;let sl:=yB;let ul:=aQ ilu;let em:(S.aL.map λx=>kS x.1)=(S.aL.map (·.1)).map kS:=by rw[zA];rfl
 unfold fault at kk;dsimp only at kk;refine{_,(ah (bR 2 qN (bB (pv 1) af))
  (ah (aJ (PW.pt (dB (bG (Jr (fQ hr) (bB (pv 1) af) (bD (pv 0) rfl))) (cU (ptr fe (d6 Mn T.bE (ak (mD (Ml rfl) T.To (ak (pv 2) ag)) ag)) (d6 aE T.bE (ak (pv 2) ag))))))
  (ao (au aN))
  aC)
  (ah (bZ yO rfl (LK (bD (pv 0) rfl)) (gR 3 qN)
  (ao (aJ (cy (d6 (gy rfl) T.A1 (ak (mE (ts:=["player"]) (ys:=["others"]) (js:=[3]) (te:=(eO (RC K false) (aY 0) (aY 1))) (gX (pv 2)) (gg 0) bg (cW ki (pv 0) (pv 1) (by with_unfolding_all rfl))) ag)))
   (ao (au aN))
   aC)))
  (ah (aJ (cy (d6 (gy rfl) T.A1 (ak (mE (ts:=["player"]) (ys:=["score"]) (js:=[0]) (te:=(eO (RC K true) (aY 0) (Pj K (aY 1) "players"))) (gX (pv 2)) (gg 0) bg (cW dJ (pv 0) (bD (pv 1) rfl) (by with_unfolding_all rfl))) ag)))
  (ao (au aN))
  aC)
  (ao (au aT)))))),?_}
 ac_rfl;exists a,C,o.dx,_,_,rfl,ho,F.cls,F.aL,rfl,?_;refine{o.st,_,rfl,.inl {_,kS x.1,.inr {_,fz},rfl,rfl},?_};rw[em,pR x.1 (by rw[za];exact ul)]
 by_cases c1:x.1∈S.aL.map (·.1)
 ·rw[ze c1]
  rw[yN c1] at kk;change kk _ (aB.refl _)
 ·rw[zd c1]
  rw[yM c1] at kk;exists q,x.2,rfl,cu.of hq,x5,λp2 n2=>?_;let s2:aB H (upd H p2 (ID p2 ⇑(gs x.2))):=bx n2;let h2:upd H p2 (ID p2 ⇑(gs x.2)) p2=some (ID p2 ⇑(gs x.2)):=aF;generalize upd H p2 (ID p2 ⇑(gs x.2))=H2 at s2 h2 ⊢;let⟨d1,d2⟩:=HN x.2;refine{p2,_,rfl,h2,(),?_};exists q,_,rfl,.inr (cu.of (s2 _ _ hq)),?_;rw[za];left
  by_cases c2:x.2.Nodup
  ·refine cq (zd (by have:=d2.mpr c2;ext)) ?_
   rw[yM (λz=>z c2)] at kk;exists a,C,o.dx,_,_,rfl,s2 _ _ ho,F.cls,F.aL,rfl,?_;refine{o.st,ob,_,rfl,s2 _ _ fz,?_};refine JJ (λi U H'=>aB H H'/\(S.aL.take i).any (λq=>x.2.any λp=>decide (p∈q.2))=false/\∃u,U=[some (.ref a),some (.ref a1),some (.ref q),u]) {(s2),rfl,none,rfl} (λi U H' _ h=>h.1 _ _ fz) ?_ ?_
   ·intro i p U H3 hp hh
    refine dG λN kN0 kR0 _ _=>?_;let⟨s3,hn,u,rfl⟩:=hh;let⟨_,hp2⟩:=IK hp;let⟨st,hst,ist⟩:=cA ilu hp2;let⟨r,er,hr'⟩:=RE ist;rw[er];exists{_,cu.of (s3 _ _ hq)},?_;refine fu (enc:=V.str) (ws:=x.2) (λz=>.bl (decide (z∈st.2))) (λU=>∃v,U=[v,some (.ref r)]) () (s3 _ _ hq) {(none),rfl} ?_ ?_
    ·rintro z U H4 R hz s4 ⟨_,rfl⟩ rr
     exists r,_,rfl,.inr (cu.of ((s3.trans s4) _ _ hr')),rfl,gr _,?_;refine rr _ _ _ (aB.refl _) ?_ {_,rfl};rw[yM (by simp),jg];unfold Is;rfl
    ·intro D vs H4 s4 hD il
     let e:x.2.map (λz=>Dt.bl (decide (z∈st.2)))=(x.2.map λz=>decide (z∈st.2)).map Dt.bl:=by rw[zA];rfl
     rw[e] at il;rw[jf il] at hD;refine{D,_,rfl,aI.of hD,?_};let e2:(x.2.map λz=>decide (z∈st.2)).any id=x.2.any λp=>decide (p∈st.2):=by rw[wC];rfl
     rw[e2];cases qc:x.2.any λp=>decide (p∈st.2) with
     | true=>
      rw[yN (OS hst (p:=λq:Str×List Str=>x.2.any λp=>decide (p∈q.2)) qc)] at kk;change kk _ (s3.trans s4)
     | false=>
      change{s3.trans s4,OR hst hn qc,_,rfl}
   ·rintro U H3 ⟨s3,hn,u,rfl⟩
    rw[xx,za,ul,Nat.min_self,zM] at hn;rw[hn,yM (by simp)] at kk;exists{_,cu.of (s3 _ _ hq)},?_;refine fu (enc:=V.str) (ws:=x.2) (λz=>.bl (!decide (z∈S.players))) (λU=>∃v,U=[v,some (.ref a)]) () (s3 _ _ hq) {(none),rfl} ?_ ?_
    ·rintro z U H4 R hz s4 ⟨_,rfl⟩ rr
     exists a,C,o.dx,_,_,rfl,(s3.trans s4) _ _ ho,F.cls,F.players,rfl,?_;refine{o.pl,_,rfl,.inl (aI.of ((s3.trans s4) _ _ hpl)),rfl,gr _,?_};refine rr _ _ _ (aB.refl _) ?_ {_,rfl};show Is H4 _ (V.bl (!E4 (.str z) (S.players.map V.str)));rw[jg];unfold Is;rfl
    ·intro D vs H4 s4 hD il
     let e:x.2.map (λz=>Dt.bl (!decide (z∈S.players)))=(x.2.map λz=>!decide (z∈S.players)).map Dt.bl:=by rw[zA];rfl
     rw[e] at il;rw[jf il] at hD;refine{D,_,rfl,aI.of hD,?_};let e2:(x.2.map λz=>!decide (z∈S.players)).any id=x.2.any λp=>!decide (p∈S.players):=by rw[wC];rfl
     rw[e2];cases qc:x.2.any λp=>!decide (p∈S.players) with
     | true=>
      rw[qc,yN rfl] at kk;change kk _ (s3.trans s4)
     | false=>
      rw[qc,yM (by simp)] at kk;change kk _ (s3.trans s4)
  ·refine b7 (ze (by have:⇑(gs x.2)≠⇑x.2:=λz=>c2 (d2.mp z);ext)) ?_
   rw[yN c2] at kk;change kk _ s2
def mO (C:vy):Sp:=fb C λH v S f=>∃x,Is H (gw x) v/\⇑x.2<=1000/\f=fault S (.cj x.1 x.2)
def Oo {H:Hp} {d:vy} {o:Obj} {u:HO} (hd:H d=some u) (nt:cP (some u)) {l:List Dt} {vs:List V} (h:aD H l vs):aD (upd H d (.mF o u)) l vs:=aD.upd (by rw[hd];exact nt) h
def Gn {H H':Hp} {d:vy} {o:Obj} {u:HO} (hd:H d=some u) (s:aB (upd H d (.mF o u)) H'):aB H (upd H' d u):=λb z hb=>by
 by_cases e:b=d
 ·subst e;rw[aF,<-hd,hb]
 ·rw[aG e];exact s b z (by rw[aG e];exact hb)
def AU {C:vy} (F:Cf K C):cZ P w base 1 T.gL (mO C):=by
 refine(GZ (P:=P) (w:=w) (base:=base) T F).QF (λvs H Q E h=>?_) (λvs H Q E h=>?_)
 ·let⟨_,_,_,_,_,rfl,_⟩:=h;rfl
 ·let⟨a,S,o,v,f,rfl,sc,⟨x,iv,x5,rfl⟩,kk⟩:=h
  let⟨us,hu,ilu⟩:=sc.st;let⟨ub,jm,ho,hub,hjm⟩:=sc.obj;let nt:cP (some (HO.dK ((S.aL.map λx=>kS x.1).zip us))):=λvs z=>by cases z
  let na:a≠o.st:=λz=>by rw[z,hu] at ho;cases ho
  let np:o.pl≠o.st:=λz=>by have:=sc.pl;rw[z,hu] at this;cases this
  refine{o.st,_,hu,rfl,λob=>{a,S,o,v,ub,jm,x,ob,us,rfl,by rw[aG na];exact ho,by rw[aG np];exact sc.pl,aF,Oo hu nt ilu,Is.upd (by rw[hu];exact nt) iv,x5,λH' s'=>kk _ (Gn hu s')}}
def QZ (S:cg):Prop:=∀b∈S.aO,BX b
inductive Ej (C:vy) (vs:List V) (H:Hp) (Q:VK) (E:XK):Prop
 | mk (a:vy) (S:cg) (o:Ow) (v ub jm:V) (x:Int×Int) (ob:Obj) (us:List V) (_:vs=[.ref a,v]) (_:H a=some (.ins C o.dx (Pt o ub jm))) (_:Is H (dO dL S.aH) ub) (_:Ul C H a S o) (_:H o.no=some (.mF ob (.dT ((S.aK.map λx=>kN x.1).zip us)))) (_:⇑us=⇑S.aK) (_:⇑S.aK<=1000000) (_:Is H (dL x) v) (_:BY 8999 x) (_:QZ S) (_:∀H',aB H H'->Q (os (fault S (.aH x))) H')
def N1 {S:cg} (h:QZ S) (b:Nat) (hb:b<⇑S.aO):BY 8999 (S.aP b):=by
 unfold cg.aP;rw[zb hb];let⟨k1,k2,k3,k4⟩:=h _ (yk hb);let⟨g,g1,g2,g3,g4,g5⟩:=kQ (t:=S.aO[b].aP.1) k3;let r0:=AH (t:=S.aO[b].aP.1) (b:=S.aO[b].aP.2) k1;let r1:=AI (t:=S.aO[b].aP.1) (b:=S.aO[b].aP.2) k1;dsimp only;exact{(di (n:=10) r0 ()).mono ∅,(di (n:=10) () ()).mono ∅}
def EK {C:vy} (F:Cf K C):cZ P w base 4 T.fH (Ej C):=by
 nomatch T.fH,["score","length"]
 let⟨a,S,o,v,ub,jm,x,ob,us,rfl,ho,hub,sb,fz,ul,n6,iv,zx,bok,kk⟩:=h;let sl:=yB;unfold fault at kk;dsimp only at kk;refine{_,(ah (aJ (bG (fo (bD (pv 0) rfl)))
  (ao (au aN))
  aC)
  (ah (aJ (ptr de (d6 aE T.bE (ak (bD (pv 0) rfl) ag)) af)
  (ao (au aN))
  aC)
  (ah (aJ (eC (cy (bN (Js T) hr T.Es (ak (pv 1) (ak (bN (lY T F) hr T.iC (ak (pv 0) (ak af ag))) ag)))))
  (ao (au aN))
  aC)
  (ah (aJ (cy (d6 (gy rfl) T.A1 (ak (mE (ts:=["place"]) (ys:=[]) (js:=[]) (te:=(eO Uh (eO (kU K) (aY 0) (tC (.int (0)))) (tC (.int (0))))) (PM (bD (pv 0) rfl)) (gg 0) bg (cW de (bB (pv 0) af) af (fq _))) ag)))
  (ao (au aN))
  aC)
  (ao (au aT)))))),?_}
 ac_rfl;exists a,C,o.dx,_,_,rfl,ho,F.cls,F.aH,rfl,?_;cases q:S.aH with
 | some u=>
  rw[q,yN (show(some u).isSome=true from rfl)] at kk;rw[q] at hub;cases eD (o:=some u) hub with
  | ref hu=>
   change kk _ (aB.refl _)
 | none=>
  rw[q,yM (by simp)] at kk;rw[q] at hub;unfold dO Is at hub;subst hub;let⟨vs,hv,il⟩:=sb.ba;cases eD (o:=some x) iv with
  | ref hx=>
  rename_i a1;exists a,C,o.dx,_,_,rfl,ho,F.cls,F.aO,rfl,?_;exists o.ba,vs,rfl,.inl (aI.of hv),?_;rw[aQ il];left
  by_cases c1:⇑S.aO=0
  ·refine b7 (by rw[c1];rfl) ?_
   rw[yN c1] at kk;change kk _ (aB.refl _)
  ·refine cq (zd λz=>c1 (by have:=V.int.inj z;ext)) ?_
   rw[yM c1] at kk;exists a,S,o,0,rfl,sb,(),bok,λp H1 s1 h1=>?_;refine{_,_,_,_,rfl,s1 _ _ hx,h1,zx,N1 bok 0 (),?_}
   by_cases c2:x.1*(S.aP 0).2<(S.aP 0).1*x.2
   ·rw[ze c2]
    rw[yM (λz=>z c2)] at kk;exists a,C,o.dx,_,_,rfl,s1 _ _ ho,F.cls,F.aK,rfl,?_;refine{o.no,ob,_,_,rfl,{_,s1 _ _ fz,.inr {_,rfl,rfl,rfl}},?_};let kl:⇑((S.aK.map λx=>kN x.1).zip us)=⇑S.aK:=by rw[xx,za,ul,Nat.min_self]
    refine Bw (ws:=S.aK) (λp x H=>∃b,x=.ref b/\H b=some (.tup [.int p.1.1,.str p.1.2])) (λp=>.bl (decide (p.1.1=0))) (λU=>∃v,U=[v]) () {(none),rfl} (λi H2 hi s2=>{{_,s2 _ _ (s1 _ _ fz),.inr {_,rfl,rfl,rfl}},()}) (λH2 s2=>{{_,s2 _ _ (s1 _ _ fz),.inr {_,rfl,rfl,rfl}},()}) ?_ ?_ ?_
    ·rintro i y H2 H3 hi s2 ⟨rfl,p,b,hp,hb,rfl⟩
     refine{aB.refl _,b,rfl,?_};let⟨z1,_⟩:=IK hp;rw[zJ,zb hi] at z1;simp only[xj,xK] at z1;rw[<-z1] at hb;exact hb
    ·rintro p y U H2 R hp s2 ⟨b,rfl,hb⟩ ⟨_,rfl⟩ r
     left;refine r _ _ _ (aB.refl _) ?_ {_,rfl};rw[show decide (V.int p.1.1=V.int 0)=decide (p.1.1=0) from by by_cases h:p.1.1=0 <;> simp[h]];unfold Is;rfl
    ·intro D vs H4 s4 hD il
     let e:S.aK.map (λp=>Dt.bl (decide (p.1.1=0)))=(S.aK.map λp=>decide (p.1.1=0)).map Dt.bl:=by rw[zA];rfl
     rw[e] at il;rw[jf il] at hD;refine{D,_,rfl,aI.of hD,?_};let e2:(S.aK.map λp=>decide (p.1.1=0)).any id=S.aK.any λp=>decide (p.1.1=0):=by rw[wC];rfl
     rw[e2];cases qc:S.aK.any λp=>decide (p.1.1=0) with
     | true=>
      rw[qc,yN rfl] at kk;change kk _ (s1.trans s4)
     | false=>
      rw[qc,yM (by simp)] at kk;change kk _ (s1.trans s4)
   ·rw[zd c2]
    rw[yN c2] at kk;change kk _ s1
def lR (C:vy):Sp:=fb C λH v S f=>∃x,Is H (dL x) v/\BY 8999 x/\QZ S/\⇑S.aK<=1000000/\f=fault S (.aH x)
def uH {C:vy} (F:Cf K C):cZ P w base 4 T.fH (lR C):=by
 refine(EK (P:=P) (w:=w) (base:=base) T F).QF (λvs H Q E h=>?_) (λvs H Q E h=>?_)
 ·let⟨_,_,_,_,_,rfl,_⟩:=h;rfl
 ·let⟨a,S,o,v,f,rfl,sc,⟨x,iv,zx,bok,n6,rfl⟩,kk⟩:=h
  let⟨hn,ln⟩:=sc.no;let⟨ub,jm,ho,hub,hjm⟩:=sc.obj;let⟨bs,hb,ilb⟩:=sc.ba;let nt:cP (some (HO.dT ((S.aK.map λx=>kN x.1).zip (o.ns.map V.ref)))):=λvs z=>by cases z
  let na:a≠o.no:=λz=>by rw[z,hn] at ho;cases ho
  let nb:o.ba≠o.no:=λz=>by rw[z,hn] at hb;cases hb
  let ho':∀ob,upd H o.no (.mF ob (.dT ((S.aK.map λx=>kN x.1).zip (o.ns.map V.ref)))) a=some (.ins C o.dx (Pt o ub jm)):=λob=>by rw[aG na];exact ho
  refine{o.no,_,hn,rfl,λob=>{a,S,o,v,ub,jm,x,ob,o.ns.map V.ref,rfl,ho' ob,Is.upd (by rw[hn];exact nt) hub,{{ub,jm,ho' ob},bs,by rw[aG nb];exact hb,Oo hn nt ilb},aF,by rw[za,nP ln,za],n6,Is.upd (by rw[hn];exact nt) iv,zx,bok,λH' s'=>kk _ (Gn hn s')}}
noncomputable def oM:Told->Str
 | .bH _=> "player"
 | .cI _ _ _=> "instrument"
 | .cj _ _=> "staff"
 | .bar _=> "bar"
 | .aH _=> "upbeat"
 | .holds _ _ _=> "holds"
 | .aK _ _ _=> "notes"
 | .rep _=> "repeat"
 | .bu _=> "jump"
def Ss (S:cg):Told->Prop
 | .cj _ ps=>⇑ps<=1000
 | .aH l=>BY 8999 l/\QZ S/\⇑S.aK<=1000000
 | .aK b _ its=>0<=b/\⇑its<=500/\(∀it∈its,O8 it.2)/\QZ S
 | .rep r=>IV r.ends<64/\⇑r.ends<=1000/\-1000000<=r.times/\r.times<=1000000
 | .bu _=>FP S
 | _=>True
inductive MI (K:yA) {mg:Str->Option vo} (T:Txt K mg) (C:vy):vy->Sp->Prop where
 | bH:MI K T C T.gd (lT C)
 | cI:MI K T C T.dQ (hZ C)
 | cj:MI K T C T.gF (mO C)
 | bar:MI K T C T.jT (pV C)
 | aH:MI K T C T.gb (lR C)
 | holds:MI K T C T.iM (oz C)
 | aK:MI K T C T.gJ (mP C)
 | rep:MI K T C T.gc (lS C)
 | bu:MI K T C T.iK (oy C)
noncomputable def QT {K:yA} {mg:Str->Option vo} (T:Txt K mg):List (Str×V):=[("player",V.ref T.gd),("instrument",.ref T.dQ),("staff",.ref T.gF),("bar",.ref T.jT),("upbeat",.ref T.gb),("holds",.ref T.iM),("notes",.ref T.gJ),("repeat",.ref T.gc),("jump",.ref T.iK)]
def Om (K:yA) {mg:Str->Option vo} (T:Txt K mg) (C:vy) (t:Told):∃f D,rO (QT T) (oM t)=some (.ref f)/\MI K T C f (fb C D)/\∀H0 H v S,gA H0 H v (some t)->Ss S t->D H v S (fault S t):=by
 cases t with
 | bH n=>exact{_,_,rfl,.bH,λH0 H v S h1 h2=>{(n),h1,rfl}}
 | cI n t l=>exact{_,_,rfl,.cI,λH0 H v S h1 h2=>{(n,t,l),h1,rfl}}
 | cj n ps=>exact{_,_,rfl,.cj,λH0 H v S h1 h2=>{(n,ps),h1,h2,rfl}}
 | bar b=>exact{_,_,rfl,.bar,λH0 H v S h1 h2=>{(b),rfl}}
 | aH l=>exact{_,_,rfl,.aH,λH0 H v S h1 h2=>{(l),h1,h2.1,h2.2.1,h2.2.2,rfl}}
 | holds p b i=>exact{_,_,rfl,.holds,λH0 H v S h1 h2=>{(p,b,i),h1,rfl}}
 | aK b p its=>exact{_,_,rfl,.aK,λH0 H v S h1 h2=>{(b,p,its),iQ.at h1,h2.1,h2.2.1,h2.2.2.1,h2.2.2.2,rfl}}
 | rep r=>exact{_,_,rfl,.rep,λH0 H v S h1 h2=>{(r),h1,h2.1,h2.2.1,h2.2.2.1,h2.2.2.2,rfl}}
 | bu j=>exact{_,_,rfl,.bu,λH0 H v S h1 h2=>{(j),h1,h2,rfl}}
def MW {H0 H:Hp} {v:V} {t:Told} (h:gA H0 H v (some t)):v≠.bA:=by
 let tp:∀l,Is H (.tup l) v->v≠.bA:=λl z=>by
  unfold Is at z;let⟨a,vs,e,_⟩:=z;rw[e];simp
 cases t with
 | bH n=>let e:v=.str n:=h;rw[e];simp
 | cI n t l=>exact tp _ h
 | cj n ps=>exact tp _ h
 | bar b=>exact tp _ h
 | aH l=>exact tp _ h
 | holds p b i=>exact tp _ h
 | aK b p its=>let⟨a,_,_,e,_⟩:=h;rw[e];simp
 | rep r=>exact tp _ h
 | bu j=>exact tp _ h
noncomputable def Ox (S:cg):Option Told->Option Str
 | none=>some "row"
 | some t=>fault S t
inductive Gj (C:vy) (vs:List V) (H:Hp) (Q:VK) (E:XK):Prop
 | mk (a:vy) (S:cg) (o:Ow) (x:Str) (v:V) (H0:Hp) (t:Option Told) (_:vs=[.ref a,.str x,v]) (_:bV C H a S o) (_:gA H0 H v t) (_:(∀t',t=some t'->x=oM t'/\Ss S t')) (_:∀H',aB H H'->Q (os (Ox S t)) H')
def tM:gf ["score","sort","told","finder"] ["score","sort","told"] (aU oR):=TB
def G5 (B:Dk P w K T) {C:vy} (F:Cf K C):cZ P w base 6 T.Bb (Gj C):=by
 refine T.Bb.F.Ui tM λcdv A' outer s H vs Q E hr h=>?_
 ·let⟨a,S,o,x,v,H0,t,rfl,sc,tv,fit,kk⟩:=h
  let hTbV:∀f sp,MI K T C f sp->Sx (j7 IG P w K mg base ["score","sort","told","finder"] "fault_of" (aU oR) T.BM cdv A' outer s H E).Jv IG 5 f sp:=by
   intro f sp h;cases h with
   | bH=>exact{_,_,L2.dA.mono (uJ T F) ∅,T.iA.F.kp,T.iA.b}
   | cI=>exact{_,_,L2.dA.mono (oh T F) ∅,T.eT.F.kp,T.eT.b}
   | cj=>exact{_,_,L2.dA.mono (AU T F) ∅,T.gL.F.kp,T.gL.b}
   | bar=>exact{_,_,L2.dA.mono (EV T F) ∅,T.nX.F.kp,T.nX.b}
   | aH=>exact{_,_,L2.dA.mono (uH T F) ∅,T.fH.F.kp,T.fH.b}
   | holds=>exact{_,_,L2.dA.mono (CA T F) ∅,T.lD.F.kp,T.lD.b}
   | aK=>exact{_,_,L2.dA.mono (AZ T F) ∅,T.jJ.F.kp,T.jJ.b}
   | rep=>exact{_,_,L2.dA.mono (uI T F) ∅,T.ik.F.kp,T.ik.b}
   | bu=>exact{_,_,L2.dA.mono (Cz T F) ∅,T.lz.F.kp,T.lz.b}
  refine{_,(ah (aJ (bG (cz (pv 2)))
   (ao (au aN))
   aC)
   (ah (bR 3 tM.nd (GR (bT (v:=.ref T.qA) (by rfl) T.OM rfl) (pv 1) (λ_ _=>rfl)))
   (ao (au (GU (MI K T C) hTbV (hr.mono ∅) (pv 3) KI (ak (pv 0) (ak (pv 2) ag))))))),?_}
  ac_rfl;left;cases t with
  | none=>
   let e:v=.bA:=tv;subst e;change kk _ (aB.refl _)
  | some t=>
   let⟨ex,ft⟩:=fit t rfl;subst ex;let⟨f,D,ev,htb,hd⟩:=Om K T C t;let ne:=MW tv;rw[zd ne];exists T.qA,QT T,oM t,_,rfl,B.Se,rfl,ev,?_;exists f,_,rfl,htb,?_;change{a,S,o,v,_,rfl,sc,hd H0 H v S tv ft,kk}
def Iq {hs:List (Str×List (Int×Str))} {p:Str} {h:Int×Str} (fr:p∉hs.map (·.1)):eV (hs++[(p,[])]) p h=eV hs p h:=by
 unfold eV;rw[yM fr,yN (by rw[zj];exact zH _ (zy.mpr rfl)),zj];let e:(hs.map λq:Str×List (Int×Str)=>if q.1=p then(q.1,q.2++[h]) else q)=hs:=by
  conv=>rhs;rw[<-List.map_id hs]
  refine xu λq hq=>?_;rw[yM (λz=>fr (by rw[<-z];exact zO (f:=λx:Str×List (Int×Str)=>x.1) hq))];rfl
 rw[e];simp
def pL (S:cg):Prop:=(S.holds.map (·.1)).Nodup/\⇑S.holds<=1000000/\∀q∈S.holds,⇑q.2<=1000000
inductive Gk (C:vy) (vs:List V) (H:Hp) (Q:VK) (E:XK):Prop
 | mk (a:vy) (S:cg) (o:Ow) (v:V) (pn:Str) (b:Int) (i:Str) (_:vs=[.ref a,v]) (_:bV C H a S o) (_:Is H (tZ (pn,b,i)) v) (_:pL S) (_:∀H' o',bV C H' a (bK S (.holds pn b i)) o'->vI (own a o) H H'->(∀x∈own a o',x∈own a o\/H x=none)->Q .bA H')
def qR {o:Ow} {a x:vy} (h:x∈o.lists):x∈own a o:=by
 unfold Ow.lists at h;unfold own;rw[zF,zF] at h ⊢;rcases h with(h | h) | h
 ·refine .inl (.inl ?_)
  simp only[zC,zD,yT] at h ⊢;rcases h with h | h | h <;> simp[h]
 ·exact .inl (.inr h)
 ·exact .inr h
def NV {C a x:vy} {H:Hp} {S:cg} {o:Ow} (h:bV C H a S o) (hx:x∈own a o):∃u,H x=some u:=by
 let⟨_,_,ha,_⟩:=h.obj;let⟨_,hi,_⟩:=h.ins;let⟨_,hs,_⟩:=h.st;let⟨_,hb,_⟩:=h.ba;let⟨_,hr,_⟩:=h.re;unfold own at hx;rw[zF,zF] at hx;rcases hx with(hx | hx) | hx
 ·simp only[zC,zD,yT] at hx
  rcases hx with rfl | rfl | rfl | rfl | rfl | rfl | rfl | rfl
  ·exact{_,ha}
  ·exact{_,h.pl}
  ·exact{_,hi}
  ·exact{_,hs}
  ·exact{_,hb}
  ·exact{_,h.ho.1}
  ·exact{_,h.no.1}
  ·exact{_,hr}
 ·let⟨vs,e⟩:=cE h.ho.2 hx
  exact{_,e}
 ·let⟨vs,e⟩:=cE h.no.2 hx
  exact{_,e}
def EJ {C a x:vy} {H:Hp} {S:cg} {o:Ow} (h:bV C H a S o) (hx:H x=none):x∉own a o:=λz=>by
 let⟨u,e⟩:=NV h z;rw[hx] at e;cases e
def Ho {hs:List (Str×List (Int×Str))} {as:List vy} {H:Hp} {x:vy} {vs:List V} (hL:b9 H J0 (hs.map (·.2)) as) (hx:x∈as) (hH:H x=some (.lst vs)) (hb:∀q∈hs,⇑q.2<=1000000):⇑vs<=1000000:=by
 induction hs generalizing as with
 | nil=>unfold b9 at hL;rw[hL] at hx;simp at hx
 | cons q r ih=>
  rw[zh] at hL;let⟨a,t,us,rfl,h1,h2,h3⟩:=hL;rcases zC.mp hx with rfl | hx
  ·rw[h1] at hH;cases hH
   have:=aQ h2;have:=hb q zp;ext
  ·exact ih h3 hx λq hq=>hb q (zm _ hq)
def G7 {C:vy} (F:Cf K C):cZ P w base 1 T.BG (Gk C):=by
 nomatch T.BG,["score","told"]
 let⟨a,S,o,v,pn,b,i,rfl,sc,iv,⟨nk,hl,hb⟩,kk⟩:=h;let⟨a1,rfl,h1⟩:=KQ iv;let sl:=yB;let⟨ub,jm,ho,hub,hjm⟩:=sc.obj;let em:(S.holds.map λx=>kS x.1)=(S.holds.map (·.1)).map kS:=by rw[zA];rfl
 let ll:⇑(o.hs.map V.ref)=⇑(S.holds.map (·.1)):=by rw[za,za,nP sc.ho.2,za]
 dsimp only at h1;refine{_,(ah (aJ (bG (Ds (fQ hr) (bB (pv 1) af) (bD (pv 0) rfl)))
  (ao (iw (fQ hr) (bD (pv 0) rfl) (bB (pv 1) af) (bq ag) rfl))
  aC)
  (ao (bJ (bU yC yE yD bF (PQ (fQ hr) (bD (pv 0) rfl) (bB (pv 1) af) (λ_ _=>rfl)) (ak (bI (ak (bB (pv 1) af) (ak (bB (pv 1) af) ag))) ag))))),?_}
 ac_rfl;exists a,C,o.dx,_,_,rfl,ho,F.cls,F.holds,rfl,?_;refine{o.ho,_,rfl,.inl {_,kS pn,.inl sc.ho.1,rfl,rfl},?_};rw[em,pR pn ll]
 by_cases c1:pn∈S.holds.map (·.1)
 ·rw[ze c1]
  let⟨x,us,e1,e2,e3,e4⟩:=sc.nN nk c1;exists a,C,o.dx,_,_,rfl,ho,F.cls,F.holds,rfl,?_;exists o.ho,_,rfl,.inl {_,kS pn,.inl sc.ho.1,rfl,e1.symm},?_;refine{.inl {rfl,us,aI.of e3},?_};exists cT,?_;intros p2 H2 s2 h2;refine{x,us,_,rfl,rfl,s2 _ _ e3,?_,?_}
  ·have:=Ho sc.ho.2 e2 e3 hb
   ext
  ·let⟨x',us',f1,f2,f3,f4⟩:=(sc.mono s2).nN nk c1
   let ex:x=x':=by rw[f1] at e1;cases e1;rfl
   subst ex;let eu:us=us':=by have:=s2 _ _ e3;rw[f3] at this;cases this;rfl
   subst eu;change kk _ o (f4 _ b i (cB h2 (aR cG (aR eG cF)))) ((vI.of s2).trans (vI.upd (qR (by unfold Ow.lists;simp[e2])))) λy hy=>.inl hy
 ·rw[zd c1]
  left
  intros p1 n1 s1 g1 H1
  let sc1:=sc.mono s1;let h11:=s1 _ _ h1;let nl:p1∉o.lists:=λz=>EJ sc n1 (qR z);exists a,C,o.dx,_,_,rfl,s1 _ _ ho,F.cls,F.holds,rfl,?_;left;refine{o.ho,_,rfl,.inl {_,kS pn,sc1.ho.1,rfl,?_,rfl},?_}
  ·rw[xx,za];ext
  let sc2:=sc1.NY g1 nl c1;let nt1:cP (H1 o.ho):=by rw[sc1.ho.1];exact λ_ z=>by cases z
  let h12:upd H1 o.ho (.dK (putK ((S.holds.map λx=>kS x.1).zip (o.hs.map V.ref)) (kS pn) (.ref p1))) a1=some (.tup [V.str pn,V.int b,V.str i]):=by rw[aG (Sc.bf h11 sc1.ho.1 (by simp[kindOf]))];exact h11
  let el:vI (own a o) H (upd H1 o.ho (.dK (putK ((S.holds.map λx=>kS x.1).zip (o.hs.map V.ref)) (kS pn) (.ref p1)))):=(vI.of s1).trans (vI.upd (by unfold own;simp));generalize upd H1 o.ho (.dK (putK ((S.holds.map λx=>kS x.1).zip (o.hs.map V.ref)) (kS pn) (.ref p1)))=H3 at sc2 h12 el ⊢;let⟨ub2,jm2,ho2,_,_⟩:=sc2.obj;let nk2:(({S with holds:=S.holds++[(pn,[])]}:cg).holds.map (·.1)).Nodup:=by
   show((S.holds++[(pn,[])]).map λx:Str×List (Int×Str)=>x.1).Nodup;rw[zj,zR];exact{nk,by simp,λx hx y hy e=>by simp at hy;subst hy;subst e;exact c1 hx}
  let c2:pn∈({S with holds:=S.holds++[(pn,[])]}:cg).holds.map (·.1):=by
   show pn∈(S.holds++[(pn,[])]).map λx:Str×List (Int×Str)=>x.1;rw[zj];exact zH _ (zy.mpr rfl)
  let⟨x,us,e1,e2,e3,e4⟩:=sc2.nN nk2 c2;let hb2:∀q∈S.holds++[((pn,[]):Str×List (Int×Str))],⇑q.2<=1000000:=λq hq=>by
   rcases zF.mp hq with z | z
   ·exact hb q z
   ·rw[zy.mp z];exact yf _
  exists a,C,_,_,_,rfl,ho2,F.cls,F.holds,rfl,?_;exists o.ho,_,rfl,.inl {_,kS pn,.inl sc2.ho.1,rfl,e1.symm},?_;refine{.inl {rfl,us,aI.of e3},?_};exists cT,?_;intros p2 H4 s4 h4;refine{x,us,_,rfl,rfl,s4 _ _ e3,?_,?_}
  ·have:=Ho sc2.ho.2 e2 e3 hb2
   ext
  ·let⟨x',us',f1,f2,f3,f4⟩:=(sc2.mono s4).nN nk2 c2
   let ex:x=x':=by rw[f1] at e1;cases e1;rfl
   subst ex;let eu:us=us':=by have:=s4 _ _ e3;rw[f3] at this;cases this;rfl
   subst eu;left;let ea:bK {S with holds:=S.holds++[(pn,[])]} (.holds pn b i)=bK S (.holds pn b i):=by
    show({S with holds:=eV (S.holds++[(pn,[])]) pn (b,i)}:cg)={S with holds:=eV S.holds pn (b,i)};rw[Iq c1]
   let sf:=f4 _ b i (cB h4 (aR cG (aR eG cF)));rw[ea] at sf;let xin:x∈o.hs\/x=p1:=by
    have:x∈o.hs++[p1]:=e2;rw[zF,zy] at this;exact this
   refine kk _ _ sf (λy u ny hy=>?_) λy hy=>?_
   ·let hy4:=s4 _ _ (el y u ny hy)
    rw[aG]
    ·exact hy4
    ·intro z
     subst z;rcases xin with z | z
     ·exact ny (qR (by unfold Ow.lists;simp[z]))
     ·subst z;rw[n1] at hy;cases hy
   ·have:y∈own a o\/y=p1:=by
     unfold own at hy ⊢;simp only[zF,zC,zD,yT] at hy ⊢;rcases hy with(hy | hy | hy) | hy
     ·exact .inl (.inl (.inl hy))
     ·exact .inl (.inl (.inr hy))
     ·exact .inr hy
     ·exact .inl (.inr hy)
    rcases this with z | z
    ·exact .inl z
    ·subst z;exact .inr n1
def tI (S:cg):Prop:=⇑S.players<=1000000/\⇑S.aq<=1000000/\⇑S.aL<=1000000/\⇑S.aO<=1000000/\⇑S.aK<=1000000/\⇑S.repeats<=1000000
inductive IZ (C:vy) (vs:List V) (H:Hp) (Q:VK) (E:XK):Prop
 | mk (a:vy) (S:cg) (o:Ow) (v:V) (H0:Hp) (t:Told) (_:vs=[.ref a,.str (oM t),v]) (_:bV C H0 a S o) (_:aB H0 H) (_:gA H0 H v (some t)) (_:fault S t=none) (_:pL S) (_:tI S) (_:∀H' o',bV C H' a (bK S t) o'->vI (own a o) H H'->(∀x∈own a o',x∈own a o\/H0 x=none)->Q .bA H')
def E5 {c:Prop} [Decidable c] {x:Str} {y:Option Str} (h:(if c then some x else y)=none):¬c/\y=none:=by
 by_cases e:c
 ·rw[yN e] at h;cases h
 ·rw[yM e] at h;exact{(e),h}
theorem tV {H:Hp}:∀l:List Str,aD H (l.map Dt.str) (l.map V.str)
 | []=>cF
 | x::r=>aR eG (tV r)
def Ju {C:vy} (F:Cf K C):cZ P w base 2 T.FE (IZ C):=by
 nomatch T.FE,["score","sort","told"]
 let⟨a,S,o,v,H0,t,rfl,sc0,s0,tv,fn,bW,⟨z1,z2,z3,z4,z5,z6⟩,kk⟩:=h;let sl:=yB;let sc:=sc0.mono s0;let⟨ub,jm,ho,hub,hjm⟩:=sc.obj;let me:∀x∈own a o,x∈own a o\/H0 x=none:=λx hx=>.inl hx;refine{_,(ao (aJ (ptr de (pv 1) aN)
  (ao (bJ (bU yC yE yD bF (bD (pv 0) rfl) (ak (pv 2) ag))))
  (ao (aJ (ptr de (pv 1) aN)
   (ao (iw (fQ hr) (bD (pv 0) rfl) (bB (pv 2) af) (bI (ak (bB (pv 2) af) (ak (bB (pv 2) af) ag))) rfl))
   (ao (aJ (ptr de (pv 1) aN)
    (ao (iw (fQ hr) (bD (pv 0) rfl) (bB (pv 2) af) (bB (pv 2) af) rfl))
    (ao (aJ (ptr de (pv 1) aN)
     (ao (bJ (bU yC yE yD bF (bD (pv 0) rfl) (ak (pv 2) ag))))
     (ao (aJ (ptr de (pv 1) aN)
      (ao (iZ (pv 0) (pv 2) rfl))
      (ao (aJ (ptr de (pv 1) aN)
       (ao (bJ (bN (G7 T F) hr T.BG (ak (pv 0) (ak (pv 2) ag)))))
       (ao (aJ (ptr de (pv 1) aN)
        (ao (iw (fQ hr) (bD (pv 0) rfl) (bI (ak (bB (pv 2) af) (ak (bB (pv 2) af) ag))) (bB (pv 2) af) rfl))
        (ao (aJ (ptr de (pv 1) aN)
         (ao (bJ (bU yC yE yD bF (bD (pv 0) rfl) (ak (pv 2) ag))))
         (ao (iZ (pv 0) (pv 2) rfl)))))))))))))))))),?_}
 ac_rfl;cases t with
 | bH n=>
  let e:v=.str n:=tv;subst e;exists a,C,o.dx,_,_,rfl,ho,F.cls,F.players,rfl,?_;refine{.inl {rfl,_,aI.of sc.pl},?_};exists o.pl,_,_,rfl,rfl,sc.pl,by rw[za];ext,?_
  change kk _ o (sc.J9 n) (vI.upd (by unfold own;simp)) me
 | cI n t l=>
  let⟨a1,t1,l1,rfl,h1,it,il⟩:=Hs (x:=(n,t,l)) tv;let fr:=(E5 fn).1;exists cT,?_;intros p2 H2 s2 h2;let sc2:=sc.mono s2;let h12:=s2 _ _ h1;let⟨vs,hv,ilv⟩:=sc2.ins;exists a,C,o.dx,_,_,rfl,s2 _ _ ho,F.cls,F.aq,rfl,?_;left;refine{o.ins,_,rfl,.inl {_,kS n,hv,rfl,?_,rfl},?_}
  ·rw[xx,za];ext
  exact kk _ o (sc2.Ms hv ilv (cB h2 (aR (it.mono s2) (aR (il.mono s2) cF))) fr) ((vI.of s2).trans (vI.upd (by unfold own;simp))) me
 | cj n ps=>
  let⟨a1,q,rfl,h1,hq⟩:=Gd (x:=(n,ps)) tv;let fr:=(E5 fn).1;let⟨vs,hv,ilv⟩:=sc.st;exists a,C,o.dx,_,_,rfl,ho,F.cls,F.aL,rfl,?_;left;refine{o.st,_,rfl,.inl {_,kS n,hv,rfl,?_,rfl},?_}
  ·rw[xx,za];ext
  exact kk _ o (sc.Mq hv ilv (by unfold Qo kz;exact cB hq (tV ps)) fr) (vI.upd (by unfold own;simp)) me
 | bar b=>
  let⟨vs,hv,ilv⟩:=sc.ba;let vl:=aQ ilv;exists a,C,o.dx,_,_,rfl,ho,F.cls,F.aO,rfl,?_;refine{.inl {rfl,_,aI.of hv},?_};exists o.ba,_,_,rfl,rfl,hv,(),?_;change kk _ o (sc.Qt hv ilv tv) (vI.upd (by unfold own;simp)) me
 | aH l=>
  exists a,C,o.dx,_,rfl,ho,F.cls,F.aH,(by show 9<1000;decide),?_;exact kk _ o (sc.J8 ho hjm tv) (vI.upd (by unfold own;simp)) me
 | holds p b i=>
  change{a,S,o,v,p,b,i,rfl,sc,tv,bW,λH' o' s' e' n'=>kk H' o' s' e' λx hx=>(n' x hx).imp id λz=>s0.back z}
 | aK b p its=>
  let⟨a1,q,us,rfl,h1,hq,ilq,nq⟩:=tv;let fr:=(E5 fn).1;let nl:q∉o.lists:=λz=>EJ sc0 nq (qR z);exists a,C,o.dx,_,_,rfl,ho,F.cls,F.aK,rfl,?_;exists cT,?_;intros p2 H2 s2 h2;let sc2:=sc.mono s2;refine{o.no,_,rfl,.inr {_,kN (b,p),p2,sc2.no.1,rfl,h2,?_,rfl},?_}
  ·rw[xx,za];ext
  refine kk _ _ (sc2.Mr (s2 _ _ hq) (ilq.mono s2) nl fr) ((vI.of s2).trans (vI.upd (by unfold own;simp))) λx hx=>?_;have:x∈own a o\/x=q:=by
   unfold own at hx ⊢;simp only[zF,zC,zD,yT] at hx ⊢;rcases hx with hx | hx | hx
   ·exact .inl (.inl hx)
   ·exact .inl (.inr hx)
   ·exact .inr hx
  rcases this with z | z
  ·exact .inl z
  ·subst z;exact .inr nq
 | rep r=>
  let⟨vs,hv,ilv⟩:=sc.re;let vl:=aQ ilv;exists a,C,o.dx,_,_,rfl,ho,F.cls,F.repeats,rfl,?_;refine{.inl {rfl,_,aI.of hv},?_};exists o.re,_,_,rfl,rfl,hv,(),?_;change kk _ o (sc.Qr hv ilv tv) (vI.upd (by unfold own;simp)) me
 | bu j=>
  exists a,C,o.dx,_,rfl,ho,F.cls,F.bu,(by show 9<1000;decide),?_;exact kk _ o (sc.OU ho hub tv) (vI.upd (by unfold own;simp)) me
def gm {H:Hp} {a C dx p:vy} {fs fs':List (Str×V)} {u:HO} (ha:H a=some (.ins C dx fs)) (np:H p=none) :
  upd (upd H p u) a (.ins C dx fs') a=some (.ins C dx fs')/\upd (upd H p u) a (.ins C dx fs') p=some u/\∀b v,H b=some v->b≠a->upd (upd H p u) a (.ins C dx fs') b=some v:=by
 let na:p≠a:=λz=>by rw[z,ha] at np;cases np
 refine{aF,by rw[aG na,aF],λb v hb ne=>?_};rw[aG ne,aG (λz=>by rw[z,np] at hb;cases hb)];exact hb
def DG {H:Hp} {a C dx:vy} {fs':List (Str×V)}:upd H a (.ins C dx fs') a=some (.ins C dx fs')/\∀b v,H b=some v->b≠a->upd H a (.ins C dx fs') b=some v:=
 {aF,λb v hb ne=>by rw[aG ne];exact hb}
inductive B8 (C:vy) (vs:List V) (H:Hp) (Q:VK) (E:XK):Prop
 | mk (a dx:vy) (_:vs=[.ref a]) (_:H a=some (.ins C dx [])) (_:∀H' o,bV C H' a {} o->(∀b u,H b=some u->b≠a->H' b=some u)->(∀x∈own a o,x=a\/H x=none)->Q .bA H')
def Cb:gf ["self"] ["self"] (aU qi):=TB
def CC {C:vy} (F:Cf K C):dA P w K mg base IG 1 T.lJ T.rB ["self"] (B8 C):=by
 refine T.BU.F.Ui Cb λ_ _ _ _ H vs Q E hr h=>?_
 ·let⟨a,dx,rfl,ha,kk⟩:=h
  let sl:=yB;refine{_,ah (iZ (pv 0) (bq ag) rfl) (ah (iZ (pv 0) qF rfl) (ah (iZ (pv 0) qF rfl) (ah (iZ (pv 0) (bq ag) rfl) (ah (iZ (pv 0) aT rfl) (ah (iZ (pv 0) qF rfl) (ah (iZ (pv 0) NT rfl) (ah (iZ (pv 0) (bq ag) rfl) (ao (iZ (pv 0) aT rfl))))))))),?_};refine{by show 0<=sizeLine;ext,λp1 n1=>?_};refine{_,rfl,a,C,dx,[],rfl,(by rw[aG (λz=>by rw[<-z,ha] at n1;cases n1)];exact ha),F.cls,F.players,(by show 0<1000;decide),?_};let⟨a1,q1,k1⟩:=gm (u:=.lst []) (fs':=aZ "players" (.ref p1) []) ha n1;generalize upd (upd H p1 (.lst [])) a (.ins C dx (aZ "players" (.ref p1) []))=H1 at a1 q1 k1 ⊢;refine λp2 n2=>{_,rfl,a,C,dx,_,rfl,(by rw[aG (λz=>by rw[<-z,a1] at n2;cases n2)];exact a1),F.cls,F.aq,(by show 1<1000;decide),?_}
  let⟨a2,q2,k2⟩:=gm (u:=.dK []) (fs':=(aZ "instruments" (.ref p2) (aZ "players" (.ref p1) []))) a1 n2;generalize upd (upd H1 p2 (.dK [])) a (.ins C dx (aZ "instruments" (.ref p2) (aZ "players" (.ref p1) [])))=H2 at a2 q2 k2 ⊢;refine λp3 n3=>{_,rfl,a,C,dx,_,rfl,(by rw[aG (λz=>by rw[<-z,a2] at n3;cases n3)];exact a2),F.cls,F.aL,(by show 2<1000;decide),?_}
  let⟨a3,q3,k3⟩:=gm (u:=.dK []) (fs':=(aZ "staffs" (.ref p3) (aZ "instruments" (.ref p2) (aZ "players" (.ref p1) [])))) a2 n3;generalize upd (upd H2 p3 (.dK [])) a (.ins C dx (aZ "staffs" (.ref p3) (aZ "instruments" (.ref p2) (aZ "players" (.ref p1) []))))=H3 at a3 q3 k3 ⊢;refine{by show 0<=sizeLine;ext,λp4 n4=>{_,rfl,a,C,dx,_,rfl,(by rw[aG (λz=>by rw[<-z,a3] at n4;cases n4)];exact a3),F.cls,F.aO,(by show 3<1000;decide),?_}};let⟨a4,q4,k4⟩:=gm (u:=.lst []) (fs':=(aZ "bars" (.ref p4) (aZ "staffs" (.ref p3) (aZ "instruments" (.ref p2) (aZ "players" (.ref p1) []))))) a3 n4;generalize upd (upd H3 p4 (.lst [])) a (.ins C dx (aZ "bars" (.ref p4) (aZ "staffs" (.ref p3) (aZ "instruments" (.ref p2) (aZ "players" (.ref p1) [])))))=H4 at a4 q4 k4 ⊢;refine{_,rfl,a,C,dx,_,rfl,a4,F.cls,F.aH,(by show 4<1000;decide),?_};let⟨a5,k5⟩:=DG (H:=H4) (a:=a) (C:=C) (dx:=dx) (fs':=(aZ "upbeat" .bA (aZ "bars" (.ref p4) (aZ "staffs" (.ref p3) (aZ "instruments" (.ref p2) (aZ "players" (.ref p1) []))))));generalize upd H4 a (.ins C dx (aZ "upbeat" .bA (aZ "bars" (.ref p4) (aZ "staffs" (.ref p3) (aZ "instruments" (.ref p2) (aZ "players" (.ref p1) []))))))=H5 at a5 k5 ⊢;refine λp6 n6=>{_,rfl,a,C,dx,_,rfl,(by rw[aG (λz=>by rw[<-z,a5] at n6;cases n6)];exact a5),F.cls,F.holds,(by show 5<1000;decide),?_}
  let⟨a6,q6,k6⟩:=gm (u:=.dK []) (fs':=(aZ "holds" (.ref p6) (aZ "upbeat" .bA (aZ "bars" (.ref p4) (aZ "staffs" (.ref p3) (aZ "instruments" (.ref p2) (aZ "players" (.ref p1) []))))))) a5 n6;generalize upd (upd H5 p6 (.dK [])) a (.ins C dx (aZ "holds" (.ref p6) (aZ "upbeat" .bA (aZ "bars" (.ref p4) (aZ "staffs" (.ref p3) (aZ "instruments" (.ref p2) (aZ "players" (.ref p1) [])))))))=H6 at a6 q6 k6 ⊢;refine λp7 n7=>{_,rfl,a,C,dx,_,rfl,(by rw[aG (λz=>by rw[<-z,a6] at n7;cases n7)];exact a6),F.cls,F.aK,(by show 6<1000;decide),?_}
  let⟨a7,q7,k7⟩:=gm (u:=.dT []) (fs':=(aZ "notes" (.ref p7) (aZ "holds" (.ref p6) (aZ "upbeat" .bA (aZ "bars" (.ref p4) (aZ "staffs" (.ref p3) (aZ "instruments" (.ref p2) (aZ "players" (.ref p1) [])))))))) a6 n7;generalize upd (upd H6 p7 (.dT [])) a (.ins C dx (aZ "notes" (.ref p7) (aZ "holds" (.ref p6) (aZ "upbeat" .bA (aZ "bars" (.ref p4) (aZ "staffs" (.ref p3) (aZ "instruments" (.ref p2) (aZ "players" (.ref p1) []))))))))=H7 at a7 q7 k7 ⊢;refine{by show 0<=sizeLine;ext,λp8 n8=>{_,rfl,a,C,dx,_,rfl,(by rw[aG (λz=>by rw[<-z,a7] at n8;cases n8)];exact a7),F.cls,F.repeats,(by show 7<1000;decide),?_}};let⟨a8,q8,k8⟩:=gm (u:=.lst []) (fs':=(aZ "repeats" (.ref p8) (aZ "notes" (.ref p7) (aZ "holds" (.ref p6) (aZ "upbeat" .bA (aZ "bars" (.ref p4) (aZ "staffs" (.ref p3) (aZ "instruments" (.ref p2) (aZ "players" (.ref p1) []))))))))) a7 n8;generalize upd (upd H7 p8 (.lst [])) a (.ins C dx (aZ "repeats" (.ref p8) (aZ "notes" (.ref p7) (aZ "holds" (.ref p6) (aZ "upbeat" .bA (aZ "bars" (.ref p4) (aZ "staffs" (.ref p3) (aZ "instruments" (.ref p2) (aZ "players" (.ref p1) [])))))))))=H8 at a8 q8 k8 ⊢;refine{_,rfl,a,C,dx,_,rfl,a8,F.cls,F.bu,(by show 8<1000;decide),?_};let⟨a9,k9⟩:=DG (H:=H8) (a:=a) (C:=C) (dx:=dx) (fs':=(aZ "jump" .bA (aZ "repeats" (.ref p8) (aZ "notes" (.ref p7) (aZ "holds" (.ref p6) (aZ "upbeat" .bA (aZ "bars" (.ref p4) (aZ "staffs" (.ref p3) (aZ "instruments" (.ref p2) (aZ "players" (.ref p1) []))))))))));generalize upd H8 a (.ins C dx (aZ "jump" .bA (aZ "repeats" (.ref p8) (aZ "notes" (.ref p7) (aZ "holds" (.ref p6) (aZ "upbeat" .bA (aZ "bars" (.ref p4) (aZ "staffs" (.ref p3) (aZ "instruments" (.ref p2) (aZ "players" (.ref p1) []))))))))))=H9 at a9 k9 ⊢;let e1:p1≠a:=λz=>by rw[z,ha] at n1;cases n1
  let g1:=k9 _ _ (k8 _ _ (k7 _ _ (k6 _ _ (k5 _ _ (k4 _ _ (k3 _ _ (k2 _ _ (q1) e1) e1) e1) e1) e1) e1) e1) e1;let e2:p2≠a:=λz=>by rw[z,a1] at n2;cases n2
  let g2:=k9 _ _ (k8 _ _ (k7 _ _ (k6 _ _ (k5 _ _ (k4 _ _ (k3 _ _ (q2) e2) e2) e2) e2) e2) e2) e2;let e3:p3≠a:=λz=>by rw[z,a2] at n3;cases n3
  let g3:=k9 _ _ (k8 _ _ (k7 _ _ (k6 _ _ (k5 _ _ (k4 _ _ (q3) e3) e3) e3) e3) e3) e3;let e4:p4≠a:=λz=>by rw[z,a3] at n4;cases n4
  let g4:=k9 _ _ (k8 _ _ (k7 _ _ (k6 _ _ (k5 _ _ (q4) e4) e4) e4) e4) e4;let e6:p6≠a:=λz=>by rw[z,a5] at n6;cases n6
  let g6:=k9 _ _ (k8 _ _ (k7 _ _ (q6) e6) e6) e6;let e7:p7≠a:=λz=>by rw[z,a6] at n7;cases n7
  let g7:=k9 _ _ (k8 _ _ (q7) e7) e7;let e8:p8≠a:=λz=>by rw[z,a7] at n8;cases n8
  let g8:=k9 _ _ (q8) e8;let kH:∀b v,H b=some v->b≠a->H9 b=some v:=λb v hb ne=>k9 _ _ (k8 _ _ (k7 _ _ (k6 _ _ (k5 _ _ (k4 _ _ (k3 _ _ (k2 _ _ (k1 _ _ hb ne) ne) ne) ne) ne) ne) ne) ne) ne;let f1:H p1=none:=n1;let f2:H p2=none:=by
   cases q:H p2 with
   | none=>rfl
   | some v=>let z:=q;rw[show H1 p2=some v from k1 _ _ z e2] at n2;cases n2
  let f3:H p3=none:=by
   cases q:H p3 with
   | none=>rfl
   | some v=>let z:=q;rw[show H2 p3=some v from k2 _ _ (k1 _ _ z e3) e3] at n3;cases n3
  let f4:H p4=none:=by
   cases q:H p4 with
   | none=>rfl
   | some v=>let z:=q;rw[show H3 p4=some v from k3 _ _ (k2 _ _ (k1 _ _ z e4) e4) e4] at n4;cases n4
  let f6:H p6=none:=by
   cases q:H p6 with
   | none=>rfl
   | some v=>let z:=q;rw[show H5 p6=some v from k5 _ _ (k4 _ _ (k3 _ _ (k2 _ _ (k1 _ _ z e6) e6) e6) e6) e6] at n6;cases n6
  let f7:H p7=none:=by
   cases q:H p7 with
   | none=>rfl
   | some v=>let z:=q;rw[show H6 p7=some v from k6 _ _ (k5 _ _ (k4 _ _ (k3 _ _ (k2 _ _ (k1 _ _ z e7) e7) e7) e7) e7) e7] at n7;cases n7
  let f8:H p8=none:=by
   cases q:H p8 with
   | none=>rfl
   | some v=>let z:=q;rw[show H7 p8=some v from k7 _ _ (k6 _ _ (k5 _ _ (k4 _ _ (k3 _ _ (k2 _ _ (k1 _ _ z e8) e8) e8) e8) e8) e8) e8] at n8;cases n8
  let d14:p1≠p4:=λz=>by let h:=k3 _ _ (k2 _ _ (q1) e1) e1;rw[z,n4] at h;cases h
  let d18:p1≠p8:=λz=>by let h:=k7 _ _ (k6 _ _ (k5 _ _ (k4 _ _ (k3 _ _ (k2 _ _ (q1) e1) e1) e1) e1) e1) e1;rw[z,n8] at h;cases h
  let d48:p4≠p8:=λz=>by let h:=k7 _ _ (k6 _ _ (k5 _ _ (q4) e4) e4) e4;rw[z,n8] at h;cases h
  let d23:p2≠p3:=λz=>by let h:=q2;rw[z,n3] at h;cases h
  let d26:p2≠p6:=λz=>by let h:=k5 _ _ (k4 _ _ (k3 _ _ (q2) e2) e2) e2;rw[z,n6] at h;cases h
  let d36:p3≠p6:=λz=>by let h:=k5 _ _ (k4 _ _ (q3) e3) e3;rw[z,n6] at h;cases h
  refine kk H9 {dx,p1,p2,p3,p4,p6,p7,p8,[],[]} {{.bA,.bA,a9,dP,dP},g1,{[],g2,cF},{[],g3,cF},{[],g4,cF},{(g6),rfl},{(g7),rfl},{[],g8,cF},?_,?_} kH λx hx=>?_
  ·show [p1,p4,p8].Nodup
   simp[d14,d18,d48]
  ·show [p2,p3,p6].Nodup
   simp[d23,d26,d36]
  ·let hx':x∈[a,p1,p2,p3,p4,p6,p7,p8]:=by simpa[own] using hx
   simp only[zC,zD,yT] at hx';rcases hx' with rfl | rfl | rfl | rfl | rfl | rfl | rfl | rfl
   ·exact .inl rfl
   ·exact .inr f1
   ·exact .inr f2
   ·exact .inr f3
   ·exact .inr f4
   ·exact .inr f6
   ·exact .inr f7
   ·exact .inr f8
inductive RT:List Str->List Told->Prop where
 | nil:RT [] []
 | blank {r:Str} {rs:List Str} {ts:List Told}:⇑r<=1000000->words r=[]->RT rs ts->RT (r::rs) ts
 | row {r:Str} {t:Told} {rs:List Str} {ts:List Told}:⇑r<=1000000->words r=wordsOf t->QV t->⇑(wordsOf t)<=1000000->(∀y∈wordsOf t,⇑y<=600)->RT rs ts->RT (r::rs) (t::ts)
def Runs:cg->List Told->cg->Prop
 | S,[],S'=>S=S'
 | S,t::r,S'=>fault S t=none/\Ss S t/\pL S/\tI S/\Runs (bK S t) r S'
def Lu (t:Told):∃ws,wordsOf t=oM t::ws:=by cases t <;> exact{_,rfl}
inductive B3 (C:vy) (vs:List V) (H:Hp) (Q:VK) (E:XK):Prop
 | mk (t:Str) (ts:List Told) (S:cg) (_:vs=[.str t]) (_:⇑t+2<=sizeLine) (_:RT (Txt.split t "\n") ts) (_:Runs {} ts S) (_:∀a o H',bV C H' a S o->aB H H'->(∀x∈own a o,H x=none)->Q (.ref a) H')
theorem Ll {H0 H H':Hp} {v:V} (s:aB H H'):∀{t:Option Told},gA H0 H v t->gA H0 H' v t
 | none,h=>h
 | some (.bH _),h=>h
 | some (.cI _ _ _),h=>Is.mono s h
 | some (.cj _ _),h=>Is.mono s h
 | some (.bar _),h=>Is.mono s h
 | some (.aH _),h=>Is.mono s h
 | some (.holds _ _ _),h=>Is.mono s h
 | some (.aK _ _ _),⟨a,q,vs,h1,h2,h3,h4,h5⟩=>{a,q,vs,h1,s _ _ h2,s _ _ h3,h4.mono s,h5}
 | some (.rep _),h=>Is.mono s h
 | some (.bu _),h=>Is.mono s h
def Cv (B:Dk P w K T) (F:Cf K T.lH):cZ P w base 8 T.oX (B3 T.lH):=by
 nomatch T.oX,["text","score","place","row","words","told","word"]
 let⟨t,ts,S,rfl,tl,rt,run,kk⟩:=h;let sl:=yB;refine{_,(ah (bR 1 qN (NQ T.Qw (CC T F) (hr.mono ∅) rfl T.Pc T.BU.b .nil KI))
  (ah (bZ yO rfl (vK (by rfl) T.jK (ak (bU yF yJ yI i9 (pv 0) (ak aN ag)) ag)) (dy (n:=2) rfl (aM (gR 2 qN) (aM (gR 3 qN) cJ)))
  (ah (bR 4 qN (bN (GY T) hr T.words_of (ak (pv 3) ag)))
   (ao (aJ (ptr eW (d6 aE T.bE (ak (pv 4) ag)) af)
   (ah (bR 5 qN (bN (G0 T B) hr T.AJ (ak (pv 4) ag)))
    (ah (bR 6 qN (bN (G5 T B F) hr T.Bb (ak (pv 1) (ak (fc (pv 4) af) (ak (pv 5) ag)))))
    (ah (aJ (bG (fo (pv 6)))
    (ao GO)
    aC)
    (ao (bJ (bN (Ju T F) hr T.FE (ak (pv 1) (ak (fc (pv 4) af) (ak (pv 5) ag)))))))))
   aC))))
  (ao (au (pv 1))))),?_}
 ac_rfl;intro a dx na ndx ne;refine{a,dx,rfl,aF,λH1 o sc1 k1 fr1=>{rfl,?_}};let s1:aB H H1:=λb u hb=>k1 b u (by rw[aG (λz=>by rw[z,na] at hb;cases hb),aG (λz=>by rw[z,ndx] at hb;cases hb)];exact hb) (λz=>by rw[z,na] at hb;cases hb);let f1:∀x∈own a o,H x=none:=λx hx=>by
  rcases fr1 x hx with z | z
  ·rw[z];exact na
  ·cases q:H x with
   | none=>rfl
   | some u=>
    rw[aG (λy=>by rw[y,na] at q;cases q),aG (λy=>by rw[y,ndx] at q;cases q),q] at z;cases z
 exists tl,λl nl=>?_;let s2:aB H1 (upd H1 l (.lst ((Txt.split t "\n").map V.str))):=bx nl;let h2:upd H1 l (.lst ((Txt.split t "\n").map V.str)) l=some (.lst ((Txt.split t "\n").map V.str)):=aF;generalize upd H1 l (.lst ((Txt.split t "\n").map V.str))=H2 at s2 h2 ⊢;generalize hrows:Txt.split t "\n"= rows at rt h2;exists l,_,rfl,aI.of h2,?_;refine q9 (K:=K) (a:=l) (xs:=rows.map V.str) (λi U H'=>∃ts' S' o',RT (rows.drop i) ts'/\Runs S' ts' S/\bV T.lH H' a S' o'/\H' l=some (.lst (rows.map V.str))/\l∉own a o'/\aB H H'/\(∀x∈own a o',H x=none)/\∃u2 u3 u4 u5 u6,U=[some (.str t),some (.ref a),u2,u3,u4,u5,u6])
  {ts,{},o,rt,run,sc1.mono s2,h2,EJ sc1 nl,s1.trans s2,f1,none,none,none,none,none,rfl} (λi U H' _ h=>by let⟨_,_,_,_,_,_,h,_⟩:=h;exact aI.of h) ?_ ?_
 ·intro i x U H3 p H4 hx hh s34 hp4
  refine dG λN kN0 kR0 _ _=>?_;let⟨ts',S',o',rt',run',sc3,hl3,nl3,s3,f3,u2,u3,u4,u5,u6,rfl⟩:=hh;rw[zJ] at hx;cases qr:rows[i]? with
  | none=>rw[qr] at hx;cases hx
  | some r=>
  rw[qr] at hx;simp only[xj,xK] at hx;subst hx;let ed:rows.drop i=r::rows.drop (i+1):=by
   let hi:=(zw.mp qr).1;rw[List.drop_eq_getElem_cons hi];have:=(zw.mp qr).2;rw[this]
  rw[ed] at rt';let s4:=s3.trans s34;let sc4:=sc3.mono s34;cases rt' with
  | blank rl rw0 rt''=>
   refine{p,_,rfl,cu.of hp4,rfl,?_};refine{_,_,rfl,{_,_,rfl,{rfl,?_}}};exists rl,λp5 H5 s5 h5=>?_;rw[rw0] at h5;exists p5,_,rfl,.inl (aI.of h5),?_;left;let s05:=s4.trans s5;exact{ts',S',o',rt'',run',sc4.mono s5,s5 _ _ (s34 _ _ hl3),nl3,s05,f3,_,_,_,_,_,rfl}
  | row rl rw0 tok wl ws6 rt''=>
   rename_i t' ts'';let⟨fn,fit,hd,sz,run''⟩:=run';let⟨ws,ew⟩:=Lu t';refine{p,_,rfl,cu.of hp4,rfl,?_};refine{_,_,rfl,{_,_,rfl,{rfl,?_}}};exists rl,λp5 H5 s5 h5=>?_;rw[rw0] at h5;let h5':=h5;rw[ew] at h5;let sc5:=sc4.mono s5;let hl5:=s5 _ _ (s34 _ _ hl3);exists p5,_,rfl,.inl (aI.of h5),?_;rw[za,zt];left;refine b7 (ze ()) ?_;left;let wl':⇑ws<=999999:=by rw[ew,zt] at wl;ext
   refine{p5,oM t',ws,rfl,aI.of h5,wl',by rw[<-ew];exact ws6,λv H6 s6 tv=>?_};rw[<-ew,Jn tok] at tv;let sc6:=sc5.mono s6;exists p5,_,0,_,rfl,rfl,aI.of (s6 _ _ h5),bj (j:=0) rfl,?_;exists a,S',o',oM t',v,H5,some t',rfl,sc6,tv,λt2 e2=>by cases e2;exact{(rfl),fit},λH7 s7=>?_
   rw[show Ox S' (some t')=fault S' t' from rfl,fn];exists p5,_,0,_,rfl,rfl,aI.of (s7 _ _ (s6 _ _ h5)),bj (j:=0) rfl,?_;exists a,S',o',v,H5,t',rfl,sc5,s6.trans s7,Ll s7 tv,fn,hd,sz,λH8 o8 sc8 el8 fr8=>?_;let s07:=((s4.trans s5).trans s6).trans s7;left;refine{ts'',bK S' t',o8,rt'',run'',sc8,el8 _ _ nl3 (s7 _ _ (s6 _ _ hl5)),λz=>?_,λb u hb=>el8 _ _ (λz=>by rw[f3 b z] at hb;cases hb) (s07 _ _ hb),λx hx=>?_,_,_,_,_,_,rfl}
   ·rcases fr8 l z with y | y
    ·exact nl3 y
    ·rw[hl5] at y;cases y
   ·rcases fr8 x hx with y | y
    ·exact f3 x y
    ·exact(s4.trans s5).back y
 ·rintro U H3 ⟨ts',S',o',rt',run',sc3,hl3,nl3,s3,f3,u2,u3,u4,u5,u6,rfl⟩
  rw[za,List.drop_length] at rt';cases rt';let es:S'=S:=run';subst es;change kk a o' H3 sc3 s3 f3
inductive uk (C:vy) (vs:List V) (H:Hp) (Q:VK) (E:XK):Prop
 | mk (a:vy) (S:cg) (o:Ow) (n:Str) (_:vs=[.ref a,.str n]) (_:bV C H a S o) (_:n∈S.players) (_:Q .bA H)
def uL {C:vy} (F:Cf K C):cZ P w base 1 T.lG (uk C):=by
 nomatch T.lG,["score","player"]
 let⟨a,S,o,n,rfl,sc,hn,kk⟩:=h;let⟨ub,jm,ho,hub,hjm⟩:=sc.obj;refine{_,(ao (aJ (gC dJ (pv 1) (bD (pv 0) rfl) (by with_unfolding_all rfl))
  (ao GO)
  aC)),?_}
 ac_rfl;exists a,C,o.dx,_,_,rfl,ho,F.cls,F.players,rfl,?_;refine{o.pl,_,rfl,.inl (aI.of sc.pl),rfl,gr _,?_};show∃k,V.bl (!E4 (.str n) (S.players.map V.str))=.bl k/\_;rw[jg,ze hn];change kk
def vR {H:Hp} {b:Sc.MF} {v:V} (h:Is H (jz b) v):∃a m q,v=.ref a/\H a=some (.tup [.ref m,.int b.key,.ref q])/\H m=some (jx b.aP)/\H q=some (.tup (b.marks.map V.str)):=by
 unfold jz Is at h;let⟨a,vs,rfl,ha,hl⟩:=h;unfold aD at hl;let⟨v1,r1,rfl,h1,hl⟩:=hl;unfold aD at hl;let⟨v2,r2,rfl,h2,hl⟩:=hl;unfold aD at hl;let⟨v3,r3,rfl,h3,hl⟩:=hl;unfold aD at hl;subst hl;unfold Is at h2;subst h2;unfold kz Is at h3;let⟨q,us,rfl,hq,hle⟩:=h3;have:=eD (o:=some b.aP) h1;cases this with
 | ref hm=>exact{a,_,q,rfl,ha,hm,by rw[dw hle] at hq;exact hq}
noncomputable def iW (S:cg) (b:Nat):Bool:=match S.aO[b]?,S.aO[b-1]? with
 | some x,some y=>(!decide (x.aP=y.aP))||(!decide (x.key=y.key))||(!decide (x.marks=[]))||!decide (S.len b=S.len (b-1))
 | _,_=>false
inductive pU (C:vy) (vs:List V) (H:Hp) (Q:VK) (E:XK):Prop
 | mk (a:vy) (S:cg) (o:Ow) (b:Nat) (_:vs=[.ref a,.int b]) (_:bV C H a S o) (_:1<=b) (_:b<⇑S.aO) (_:(∀x∈S.aO,BX x)) (_:∀H',aB H H'->Q (.bl (iW S b)) H')
def EU {C:vy} (F:Cf K C):cZ P w base 5 T.tm (pU C):=by
 nomatch T.tm,["score","bar","here","ahead"]
 let⟨a,S,o,b,rfl,sc,b0,b1,bo,kk⟩:=h;let⟨ub,jm,ho,hub,hjm⟩:=sc.obj;let⟨bv,hba,ilb⟩:=sc.ba;let bl:=aQ ilb;let g1:bv[b]?=some (bv[b]'()):=zb ();let g2:bv[b-1]?=some (bv[b-1]'()):=zb ();let⟨x,hx,ix⟩:=cA ilb g1;let⟨y,hy,iy⟩:=cA ilb g2;let⟨ax,mx,qx,ex,hax,hmx,hqx⟩:=vR ix;let⟨ay,my,qy,ey,hay,hmy,hqy⟩:=vR iy;rw[ex] at g1;rw[ey] at g2;let et:iW S b=((!decide (x.aP=y.aP))||(!decide (x.key=y.key))||(!decide (x.marks=[]))||!decide (S.len b=S.len (b-1))):=by unfold iW;rw[hx,hy]
 refine{_,(ah (bR 2 qN (fc (bD (pv 0) rfl) (pv 1)))
  (ah (bR 3 qN (fc (bD (pv 0) rfl) (aA fM (pv 1) af)))
  (ah (aJ (PW.pt (dB (ptr (kZ hr.units) (bB (pv 2) af) (bB (pv 3) af)) (dB (ptr jH (bB (pv 2) af) (bB (pv 3) af)) (cU (ptr eW (d6 aE T.bE (ak (bB (pv 2) af) ag)) af)))))
  (ao (au fL))
  aC)
  (ao (au (cW (kZ hr.units) (bN (i4 T F) hr T.gK (ak (pv 0) (ak (pv 1) ag))) (bN (i4 T F) hr T.gK (ak (pv 0) (ak (aA fM (pv 1) af) ag))) (fq _))))))),?_}
 ac_rfl;exists a,C,o.dx,_,_,rfl,ho,F.cls,F.aO,rfl,?_;exists o.ba,bv,_,_,rfl,rfl,aI.of hba,bj g1,?_;exists a,C,o.dx,_,_,rfl,ho,F.cls,F.aO,rfl,?_;exists o.ba,bv,_,_,rfl,rfl,aI.of hba,(by rw[show(b:Int)-1=((b-1:Nat):Int) from by ext];exact bj g2),?_;exists mx,my,_,_,rfl,rfl,.inr {cu.of hmx,cu.of hmy},.inr (.inr {(rfl),rfl}),?_;rw[NM];refine{_,rfl,?_};refine qI ((!decide (x.aP=y.aP))||(!decide (x.key=y.key))||(!decide (x.marks=[]))) ?_ ?_ ?_
 ·intro c1 Z hz
  rw[c1,Bool.false_or] at hz;left;rw[R8];refine qI ((!decide (x.key=y.key))||(!decide (x.marks=[]))) ?_ ?_ hz
  ·intro c2 Z hz
   rw[c2,Bool.false_or] at hz;exists qx,_,rfl,.inr (cu.of hqx),?_;rw[za];left;rw[show decide ((0:Int)<(⇑x.marks:Nat))=!decide (x.marks=[]) from by cases x.marks <;> simp];exact hz
  ·intro c2;rw[c2];rfl
 ·intro c1;rw[c1];rfl
 ·cases c:((!decide (x.aP=y.aP))||(!decide (x.key=y.key))||(!decide (x.marks=[]))) with
  | true=>
   refine b7 rfl ?_;left;rw[et,c,Bool.true_or] at kk;exact kk _ (aB.refl _)
  | false=>
   rw[et,c,Bool.false_or] at kk;refine cq rfl ?_;exists a,S,o,b,rfl,sc,b1,bo,λp1 H1 s1 h1=>?_;exists a,S,o,b-1,(by rw[show(b:Int)-1=((b-1:Nat):Int) from by ext];rfl),sc.mono s1,(),bo,λp2 H2 s2 h2=>?_;refine{p1,p2,_,_,rfl,rfl,.inr {cu.of (s2 _ _ h1),cu.of h2},.inr (.inr {(rfl),rfl}),?_};rw[NM];exact kk _ (s1.trans s2)
noncomputable def qU (jo:Option Jump):List Int:=match jo with
 | none=>[]
 | some j=>[j.tU,j.rM+1,j.cN+1]++j.eK.toList
noncomputable def mT (r:Rep):List Int:=[r.first,r.last+1]++r.ends.map (·.1)
inductive kK (vs:List V) (H:Hp) (Q:VK) (E:XK):Prop
 | mk (v:V) (r:Rep) (_:vs=[v]) (_:Is H (ji r) v) (_:⇑r.ends<=1000) (_:∀D H',aB H H'->H D=none->H' D=some (.lst ((mT r).map V.int))->Q (.ref D) H')
def lg:cZ P w base 1 T.eY kK:=by
 nomatch T.eY,["repeat"]
 let⟨v,r,rfl,iv,hl,kk⟩:=h;let sl:=yB;let⟨a,e,rfl,ha,he⟩:=eX iv;unfold Is at he;let⟨e',us,ee,hu,ilu⟩:=he;cases ee;refine{_,(ao (au (aA fN (bq (ak (bB (pv 0) af) (ak (aA aW (bB (pv 0) af) af) ag))) (mE (ts:=["end"]) (ys:=[]) (js:=[]) (te:=(eO (kU K) (aY 0) (tC (.int (0))))) (gX (bB (pv 0) af)) (gg 0) bg (bB (pv 0) af))))),?_};ac_rfl;exists cT,?_;intros p1 H1 s1 h1;let ha1:=s1 _ _ ha;exists{_,cu.of (s1 _ _ hu)},?_;let⟨ps,f1,f2,f3⟩:=nU ilu;let pl:⇑ps<=1000:=by rw[<-f1,za] at hl;exact hl
 refine fu (enc:=λz:Sc.End×V=>z.2) (ws:=ps) (λz=>.int z.1.1) (λU=>∃v,U=[v]) () (by rw[f2];exact s1 _ _ hu) {(none),rfl} ?_ ?_
 ·rintro z U H6 R' hz s6 ⟨_,rfl⟩ r'
  let⟨a6,q6,ev,h6,h7⟩:=m8 (f3 z hz);rw[ev];let h66:=s6 _ _ (s1 _ _ h6);change r' _ _ _ (aB.refl _) cG {_,rfl}
 ·intro D vs H6 s6 hD il
  let e5:ps.map (λz=>Dt.int z.1.1)=(r.ends.map (·.1)).map Dt.int:=by rw[<-f1,zA,zA];rfl
  rw[e5] at il;rw[d4 il] at hD;refine{p1,D,_,_,rfl,rfl,aI.of (s6 _ _ h1),aI.of hD,by rw[za,za];show 2+_<=_;ext,?_};intro G nG;exact kk G _ ((s1.trans s6).trans (bx nG)) ((s1.trans s6).back nG) (by rw[aF];unfold mT;rw[zj];rfl)
inductive mQ (vs:List V) (H:Hp) (Q:VK) (E:XK):Prop
 | mk (v:V) (jo:Option Jump) (_:vs=[v]) (_:Is H (dO jk jo) v) (_:∀D H',aB H H'->H' D=some (.lst ((qU jo).map V.int))->Q (.ref D) H')
def mX:cZ P w base 1 T.fZ mQ:=by
 nomatch T.fZ,["jump","told"]
 let⟨v,jo,rfl,iv,kk⟩:=h;let sl:=yB;refine{_,(ah (aJ (bG (cz (pv 0)))
  (ao (au (bq ag)))
  aC)
  (ah (bR 1 qN (bq (ak (bB (pv 0) af) (ak (aA aW (bB (pv 0) af) af) (ak (aA aW (bB (pv 0) af) af) ag)))))
  (ah (aJ (bG (fo (bB (pv 0) af)))
  (ao (bJ (bU yC yE yD bF (pv 1) (ak (bB (pv 0) af) ag))))
  aC)
  (ao (au (pv 1)))))),?_}
 ac_rfl;left;cases jo with
 | none=>
  unfold dO Is at iv;subst iv;refine b7 rfl ?_;exists by show 0<=sizeLine;ext,?_
  intros p1 H1 s1 h1;exact kk p1 _ s1 h1
 | some j=>
  let⟨aj,rfl,haj⟩:=lA iv;refine cq rfl ?_;exists by show 3<=sizeLine;ext,?_
  intros D nD s1 h1 H1
  let haj1:=s1 _ _ haj;left;cases ec:j.eK with
  | none=>
   refine cq rfl ?_;change kk D _ s1 (by rw[h1];unfold qU;dsimp only;rw[ec];rfl)
  | some c=>
   rw[ec] at haj1;refine b7 rfl ?_;exists .inl {rfl,_,aI.of h1},?_;exists D,_,_,rfl,rfl,h1,(by show 3<sizeLine;ext),?_;change kk D _ (bC nD s1) (by rw[aF];unfold qU;dsimp only;rw[ec];rfl)
noncomputable def uR (S:cg) (n:Str):List Int:=((S.holds.lookup n).getD []).map (·.1)
noncomputable def iV (S:cg) (n:Str):List Int:=uR S n++qU S.bu++(S.repeats.map mT).flatten
noncomputable def Il (S:cg) (n:Str):List Int:=fT (λb=>decide (b∈iV S n)||iW S b.toNat) 1 (⇑S.aO-1)
def T7 (S:cg):Prop:=(∀x∈S.aO,BX x)/\1<=⇑S.aO/\⇑S.aO<=200/\⇑S.repeats<=1000/\(∀r∈S.repeats,⇑r.ends<=9)/\∀x∈S.holds,⇑x.2<=1000
inductive Ls (C:vy) (vs:List V) (H:Hp) (Q:VK) (E:XK):Prop
 | mk (a:vy) (S:cg) (o:Ow) (n:Str) (_:vs=[.ref a,.str n]) (_:bV C H a S o) (_:n∈S.players) (_:T7 S) (_:∀D H',aB H H'->H D=none->H' D=some (.lst ((Il S n).map V.int))->Q (.ref D) H')
def Dy {C:vy} (F:Cf K C):cZ P w base 6 T.breaks (Ls C):=by
 nomatch T.breaks,["score","player","told","repeat"]
 let⟨a,S,o,n,rfl,sc,hn,⟨bo,b1,b2,rl,re,hl⟩,kk⟩:=h;let sl:=yB;let⟨ub,jm,ho,hub,hjm⟩:=sc.obj;let⟨bv,hba,ilb⟩:=sc.ba;let⟨rv,hre,ilr⟩:=sc.re;refine{_,(ah (bJ (bN (uL T F) hr T.lG (ak (pv 0) (ak (pv 1) ag))))
  (ah (bR 2 qN (mE (ts:=["hold"]) (ys:=[]) (js:=[]) (te:=(eO (kU K) (aY 0) (tC (.int (0))))) (bc (qG (fQ hr) (bD (pv 0) rfl) (pv 1) (bq ag) {(rfl),rfl,rfl,rfl})) (gg 0) bg (bB (pv 0) af)))
  (ah (bJ (bU yC y4 y3 pz (pv 2) (ak (bN (mX T) hr T.fZ (ak (bD (pv 0) rfl) ag)) ag)))
  (ah (bZ yO rfl (bc (bD (pv 0) rfl)) (gR 3 qN)
  (ao (bJ (bU yC y4 y3 pz (pv 2) (ak (bN (lg T) hr T.eY (ak (pv 3) ag)) ag)))))
  (ao (au (mE (ts:=["bar"]) (ys:=["score","told"]) (js:=[0,2]) (g:=(bY 0)) (tc:=(Ue (lO (eO (RC K false) (aY 0) (aY 2))) (tB (fI (pU C) [] E0 (bM (aY 1) (bM (aY 0) dR)))))) (te:=(aY 0)) (nM (by rfl) T.dm (ak af (ak (d6 aE T.bE (ak (bD (pv 0) rfl) ag)) ag))) (gg 0) (gD (PW.pt (dB (gC ki (pv 0) (pv 2) (by with_unfolding_all rfl)) (cU (cy (bN (EU T F) hr T.tm (ak (pv 1) (ak (pv 0) ag)))))))) (pv 0)))))))),?_}
 ac_rfl;exists a,S,o,n,rfl,sc,hn,?_;exists a,C,o.dx,_,_,rfl,ho,F.cls,F.holds,rfl,?_;refine{o.ho,rfl,.inl {_,.inl sc.ho.1},?_};exists by show 0<=sizeLine;ext,?_
 intros p2 H2 s2 h2;refine{_,.inl {_,kS n,.inl (s2 _ _ sc.ho.1),rfl,rfl},?_};obtain⟨h,vs,l,eh,hh,ilh,el⟩:∃h vs l,(dn ((S.holds.map λx=>kS x.1).zip (o.hs.map V.ref)) (kS n)).getD (.ref p2)=.ref h/\H2 h=some (.lst vs)/\aD H2 (l.map J0) vs/\(S.holds.lookup n).getD []=l:=by
  rcases sR (H:=H) n sc.ho.2 with⟨e1,e2⟩ | ⟨l,h,vs,e1,e2,hh,il⟩
  ·exact{p2,[],[],by rw[e2];rfl,h2,by unfold aD;rfl,by rw[e1];rfl}
  ·exact{h,vs,l,by rw[e2];rfl,s2 _ _ hh,il.mono s2,by rw[e1];rfl}
 rw[eh];let ll:⇑l<=1000:=by
  rw[<-el];cases q:S.holds.lookup n with
  | none=>exact yf _
  | some r=>exact hl (n,r) (mem_of_lookup q)
 refine{h,rfl,{_,aI.of hh},?_};let⟨ps,f1,f2,f3⟩:=nU ilh;let pl:⇑ps<=1000:=by rw[<-f1,za] at ll;exact ll
 refine dz (enc:=λz:(Int×Str)×V=>z.2) (ws:=ps) (λz=>.int z.1.1) (λU=>∃v,U=[v]) () (by rw[f2];exact aI.of hh) {(none),rfl} ?_ ?_
 ·rintro z U H6 R' hz s6 ⟨_,rfl⟩ r'
  let⟨a6,ev,h6⟩:=Oh (f3 z hz);rw[ev];let h66:=s6 _ _ h6;change r' _ _ _ (aB.refl _) cG {_,rfl}
 intro D us H3 s3 nD hD il;let e5:ps.map (λz=>Dt.int z.1.1)=(uR S n).map Dt.int:=by unfold uR;rw[el,<-f1,zA,zA];rfl
 rw[e5] at il;rw[d4 il] at hD;let s03:=s2.trans s3;let nD0:=s2.back nD;let lh:⇑(uR S n)<=1000:=by unfold uR;rw[za,el];exact ll
 exists .inl {rfl,_,aI.of hD},?_;exists a,C,o.dx,_,_,rfl,s03 _ _ ho,F.cls,F.bu,rfl,?_;exists _,S.bu,rfl,hjm.mono s03,λJ H4 s4 hJ=>?_;let lj:⇑(qU S.bu)<=4:=by
  unfold qU;cases S.bu with
  | none=>exact yf _
  | some j=>cases q:j.eK <;> simp[q]
 refine .inl {D,J,_,_,rfl,rfl,s4 _ _ hD,hJ,by rw[za,za];ext,?_};rw[<-zj];let s5:aB H (upd H4 D (.lst ((uR S n++qU S.bu).map V.int))):=bC nD0 (s03.trans s4);let h5:upd H4 D (.lst ((uR S n++qU S.bu).map V.int)) D=some (.lst ((uR S n++qU S.bu).map V.int)):=aF;generalize upd H4 D _=H5 at s5 h5 ⊢;let lt:⇑(uR S n++qU S.bu)<=1004:=by rw[zg];ext
 let etl:iV S n=uR S n++qU S.bu++(S.repeats.map mT).flatten:=rfl;generalize uR S n++qU S.bu=l0 at h5 lt etl;exists a,C,o.dx,_,_,rfl,s5 _ _ ho,F.cls,F.repeats,rfl,?_;exists{_,aI.of (s5 _ _ hre)},?_;let rvl:=aQ ilr;refine gq (K:=K) (a:=o.re) (xs:=rv) (λi U H'=>∃(w3:Option V),aB H H'/\H' D=some (.lst ((l0++((S.repeats.take i).map mT).flatten).map V.int))/\⇑(l0++((S.repeats.take i).map mT).flatten)<=1004+11*i/\U=[some (.ref a),some (.str n),some (.ref D),w3]) {none,s5,by rw[h5];simp,by simpa using lt,rfl} (λi U H' _ h=>by let⟨_,s,_⟩:=h;exact aI.of (s _ _ hre)) ?_ ?_
 ·rintro Nx i x U H6 hN hx ⟨w3,s6,h6,l6,rfl⟩
  let⟨r,hr',ir⟩:=cA ilr hx;let hi:=(zw.mp hx).1;let rm:=re r (zB hr');let lr:⇑(mT r)<=11:=by unfold mT;rw[zg,za];show 2+_<=11;ext
  let e2:l0++((S.repeats.take (i+1)).map mT).flatten=l0++((S.repeats.take i).map mT).flatten++mT r:=by rw[cC hr',zj,xb,zE];simp
  exists .inl {rfl,_,aI.of h6},?_;exists x,r,rfl,ir.mono s6,(),λG H7 s7 nG hG=>?_;refine .inl {D,G,_,_,rfl,rfl,s7 _ _ h6,hG,by rw[za,za];ext,?_};rw[<-zj,<-e2];change hN _ _ {_,bC nD0 (s6.trans s7),aF,by rw[e2,zg];ext,rfl}
 ·rintro U H6 ⟨w3,s6,h6,l6,rfl⟩
  rw[rvl,zM,<-etl] at h6 l6;exists a,C,o.dx,_,_,rfl,s6 _ _ ho,F.cls,F.aO,rfl,?_;exists o.ba,bv,rfl,.inl (aI.of (s6 _ _ hba)),?_;rw[aQ ilb];exists _,_,rfl,{(()),(),(),()},?_;rw[show((⇑S.aO:Int)-1).toNat=⇑S.aO-1 from by ext];refine gx (rest:=[some (.ref a),some (.ref D)]) (λb=>decide (b∈iV S n)||iW S b.toNat) () ⟨none,rfl⟩ ?_ λD7 H7 s7 nD7 h7=>kk D7 _ (s6.trans s7) (s6.back nD7) h7;intro b H7 R hb0 hb1 s7 hR;exists D,_,rfl,.inl (aI.of (s7 _ _ h6)),rfl,sS _,?_;show∃k,V.bl (E4 (.int b) ((iV S n).map V.int))=.bl k/\_;rw[qY];refine{_,rfl,?_};cases c:decide (b∈iV S n) with
  | true=>
   rw[c,Bool.true_or] at hR;exact b7 rfl (hR _ (aB.refl _))
  | false=>
   rw[c,Bool.false_or] at hR;refine cq rfl ?_;exists a,S,o,b.toNat,by rw[show((b.toNat:Nat):Int)=b from by ext];rfl,sc.mono (s6.trans s7),(),(),bo,λH8 s8=>?_
   exact{_,rfl,hR _ s8}
theorem Runs.app:∀{a b:List Told} {S S1 S2:cg},Runs S a S1->Runs S1 b S2->Runs S (a++b) S2
 | [],_,_,_,_,h,k=>by
  let e:_=_:=h;subst e;exact k
 | _::_,_,_,_,_,⟨h1,h2,h3,h4,h5⟩,k=>{h1,h2,h3,h4,Runs.app h5 k}
theorem qo:∀{l:List Str} {S:cg},(S.players++l).Nodup->⇑(S.players++l)<=12->pL S->tI S->Runs S (l.map .bH) {S with players:=S.players++l}
 | [],S,_,_,_,_=>by
  show S=_;rw[zU]
 | n::r,S,nd,hl,hd,sz=>by
  let nd':=nd;rw[zR] at nd';rw[zg,zt] at hl;refine{?_,trivial,hd,sz,?_}
  ·unfold fault
   dsimp only;rw[yM (λz=>nd'.2.2 n z n zp rfl),yM ()]
  ·let ih:=qo (l:=r) (S:=bK S (.bH n)) (by show(S.players++[n]++r).Nodup;rw[zE];exact nd) (by show(S.players++[n]++r).length<=12;simp only[zg,zt,xk];ext) hd {by show(S.players++[n]).length<=1000000;rw[zg];simp;ext,sz.2}
   let e:({bK S (.bH n) with players:=(bK S (.bH n)).players++r}:cg)={S with players:=S.players++n::r}:=by
    show({S with players:=S.players++[n]++r}:cg)=_;rw[zE];rfl
   rw[e] at ih;exact ih
theorem AD:∀{l:List (Str×(Int×Int)×(Int×Int))} {S:cg},((S.aq++l).map (·.1)).Nodup->⇑(S.aq++l)<=12->pL S->tI S->Runs S (l.map λx=>.cI x.1 x.2.1 x.2.2) {S with aq:=S.aq++l}
 | [],S,_,_,_,_=>by
  show S=_;rw[zU]
 | n::r,S,nd,hl,hd,sz=>by
  let nd':=nd;rw[zj,zR] at nd';rw[zg,zt] at hl;refine{?_,trivial,hd,sz,?_}
  ·unfold fault
   dsimp only;rw[yM (λz=>nd'.2.2 n.1 z n.1 (by rw[zh];exact zp) rfl),yM ()]
  ·let ih:=AD (l:=r) (S:=bK S (.cI n.1 n.2.1 n.2.2)) (by show((S.aq++[n]++r).map _).Nodup;rw[zE];exact nd) (by show(S.aq++[n]++r).length<=12;simp only[zg,zt,xk];ext) hd {sz.1,by show(S.aq++[n]).length<=1000000;rw[zg];simp;ext,sz.2.2}
   let e:({bK S (.cI n.1 n.2.1 n.2.2) with aq:=(bK S (.cI n.1 n.2.1 n.2.2)).aq++r}:cg)={S with aq:=S.aq++n::r}:=by
    show({S with aq:=S.aq++[n]++r}:cg)=_;rw[zE];rfl
   rw[e] at ih;exact ih
theorem Dr:∀{l:List Sc.MF} {S:cg},⇑(S.aO++l)<=200->pL S->tI S->Runs S (l.map .bar) {S with aO:=S.aO++l}
 | [],S,_,_,_=>by
  show S=_;rw[zU]
 | n::r,S,hl,hd,sz=>by
  rw[zg,zt] at hl;refine{?_,trivial,hd,sz,?_}
  ·unfold fault
   dsimp only;rw[yM ()]
  ·let ih:=Dr (l:=r) (S:=bK S (.bar n)) (by show(S.aO++[n]++r).length<=200;simp only[zg,zt,xk];ext) hd {sz.1,sz.2.1,sz.2.2.1,by show(S.aO++[n]).length<=1000000;rw[zg];simp;ext,sz.2.2.2.2}
   let e:({bK S (.bar n) with aO:=(bK S (.bar n)).aO++r}:cg)={S with aO:=S.aO++n::r}:=by
    show({S with aO:=S.aO++[n]++r}:cg)=_;rw[zE];rfl
   rw[e] at ih;exact ih
theorem AB:∀{l:List ((Int×Str)×List Item)} {S:cg},((S.aK++l).map (·.1)).Nodup->⇑(S.aK++l)<=1000000->QZ S->(∀x∈l,0<=x.1.1/\x.1.1<⇑S.aO/\x.1.2∈S.players/\⇑x.2<=40/\(∀it∈x.2,O8 it.2)/\jU x.2=S.len x.1.1.toNat)->pL S->tI S->Runs S (l.map λx=>.aK x.1.1 x.1.2 x.2) {S with aK:=S.aK++l}
 | [],S,_,_,_,_,_,_=>by
  show S=_;rw[zU]
 | n::r,S,nd,hl,lu,hx,hd,sz=>by
  let nd':=nd;rw[zj,zR] at nd';rw[zg,zt] at hl;let⟨b0,b1,pin,il,iok,isum⟩:=hx n zp;refine{?_,{(b0),(),iok,lu},hd,sz,?_}
  ·unfold fault
   dsimp only;rw[yM (λz=>nd'.2.2 n.1 z n.1 (by rw[zh];exact zp) rfl),yM (λz=>z pin),yM,yM (λz=>z isum),yM ()];intro z;apply z;unfold cg.has;simp[b1]
  ·let ih:=AB (l:=r) (S:=bK S (.aK n.1.1 n.1.2 n.2)) (by show((S.aK++[n]++r).map _).Nodup;rw[zE];exact nd) (by show(S.aK++[n]++r).length<=1000000;simp only[zg,zt,xk];ext) lu (λx h=>hx x (zm _ h)) hd {sz.1,sz.2.1,sz.2.2.1,sz.2.2.2.1,by show(S.aK++[n]).length<=1000000;rw[zg];simp;ext,sz.2.2.2.2.2}
   let e:({bK S (.aK n.1.1 n.1.2 n.2) with aK:=(bK S (.aK n.1.1 n.1.2 n.2)).aK++r}:cg)={S with aK:=S.aK++n::r}:=by
    show({S with aK:=S.aK++[n]++r}:cg)=_;rw[zE];rfl
   rw[e] at ih;exact ih
def GD {S:cg} {u:Int×Int} (hn:S.aH=none) (hb:⇑S.aO≠0) (hs:u.1*(S.aP 0).2<(S.aP 0).1*u.2) (no:S.aK=[]) (zu:BY 8999 u) (lu:QZ S) (hd:pL S) (sz:tI S):Runs S [.aH u] {S with aH:=some u}:=by
 refine{?_,{zu,lu,by rw[no];exact yf _},hd,sz,rfl};unfold fault;dsimp only;rw[yM (by rw[hn];simp),yM hb,yM (λz=>z hs),yM (by rw[no];simp)]
theorem tN:∀{l:List (Str×List Str)} {S:cg},((S.aL++l).map (·.1)).Nodup->((S.aL++l).map (·.2)).flatten.Nodup->(∀x∈l,∀p∈x.2,p∈S.players)->(∀x∈l,⇑x.2<=1000)->⇑(S.aL++l)<=1000000->pL S->tI S->Runs S (l.map λx=>.cj x.1 x.2) {S with aL:=S.aL++l}
 | [],S,_,_,_,_,_,_,_=>by
  show S=_;rw[zU]
 | n::r,S,nd,fd,pin,pl,hl,hd,sz=>by
  let nd':=nd;let fd':=fd;rw[zj,zR] at nd';rw[zj,xb,zh,z9,zR] at fd';rw[zg,zt] at hl;refine{?_,pl n zp,hd,sz,?_}
  ·unfold fault
   dsimp only;let pn:n.2.Nodup:=(zR.mp fd'.2.1).1;let p2:¬(S.aL.any λq=>n.2.any λp=>decide (p∈q.2))=true:=λz=>by
    let⟨q,hq,z⟩:=yn.mp z;let⟨p,hp,z⟩:=yn.mp z;exact fd'.2.2 p (wd.mpr {q.2,zO (f:=λx:Str×List Str=>x.2) hq,yd z}) p (zI _ hp) rfl
   let p3:¬(n.2.any λp=>!decide (p∈S.players))=true:=λz=>by
    let⟨p,hp,z⟩:=yn.mp z;rw[ze (pin n zp p hp)] at z;cases z
   rw[yM (λz=>nd'.2.2 n.1 z n.1 (by rw[zh];exact zp) rfl),yM (λz=>z pn),yM p2,yM p3]
  ·let ih:=tN (l:=r) (S:=bK S (.cj n.1 n.2)) (by show((S.aL++[n]++r).map _).Nodup;rw[zE];exact nd) (by show((S.aL++[n]++r).map _).flatten.Nodup;rw[zE];exact fd) (λx h=>pin x (zm _ h)) (λx h=>pl x (zm _ h)) (by show(S.aL++[n]++r).length<=1000000;simp only[zg,zt,xk];ext) hd {sz.1,sz.2.1,by show(S.aL++[n]).length<=1000000;rw[zg];simp;ext,sz.2.2.2}
   let e:({bK S (.cj n.1 n.2) with aL:=(bK S (.cj n.1 n.2)).aL++r}:cg)={S with aL:=S.aL++n::r}:=by
    show({S with aL:=S.aL++[n]++r}:cg)=_;rw[zE];rfl
   rw[e] at ih;exact ih
def N4 {base:List (Str×List (Int×Str))} {p:Str} (h:p∉base.map (·.1)):base.lookup p=none:=by
 induction base with
 | nil=>rfl
 | cons x r ih=>
  rw[zh,zC,not_or] at h;rw[yp,show(p == x.1)=false from by simp;exact h.1];exact ih h.2
def LR {base:List (Str×List (Int×Str))} {p:Str} {acc:List (Int×Str)} (h:p∉base.map (·.1)):(base++[(p,acc)]).lookup p=some acc:=by
 induction base with
 | nil=>rw[List.nil_append,yp,wc]
 | cons x r ih=>
  rw[zh,zC,not_or] at h;rw[wM,yp,show(p == x.1)=false from by simp;exact h.1];exact ih h.2
def OT {base:List (Str×List (Int×Str))} {p:Str} {acc:List (Int×Str)} {e:Int×Str} (h:p∉base.map (·.1)):eV (base++[(p,acc)]) p e=base++[(p,acc++[e])]:=by
 unfold eV;rw[yN (by rw[zj];exact zH _ (zy.mpr rfl)),zj];let er:(base.map λq:Str×List (Int×Str)=>if q.1=p then(q.1,q.2++[e]) else q)=base:=by
  conv=>rhs;rw[<-List.map_id base]
  refine xu λq hq=>?_;rw[yM (λz=>h (by rw[<-z];exact zO (f:=λx:Str×List (Int×Str)=>x.1) hq))];rfl
 rw[er];simp
def DI {S:cg} {p:Str} {acc:List (Int×Str)} {h:Int×Str} (hl:(S.holds.lookup p).getD []=acc) (asc:∀a∈acc,a.1<h.1) (al:⇑acc<20) (hp:p∈S.players) (hb:h.1<⇑S.aO) (hi:h.2∈S.aq.map (·.1)):fault S (.holds p h.1 h.2)=none:=by
 unfold fault;dsimp only;rw[hl];let c1:¬(match acc.getLast? with | some q=>decide (h.1<=q.1) | none=>false)=true:=by
  cases q:acc.getLast? with
  | none=>simp
  | some x=>
   have:=asc x (wR q);simp;exact this
 rw[yM (by
  cases q:acc.getLast? with
  | none=>simp
  | some x=>
   have:=asc x (wR q);simp;exact this),yM (λz=>z hp),yM (λz=>z hi),yM (λz=>z (by unfold cg.has;simp[hb])),yM ()]
theorem GF {p:Str} {base:List (Str×List (Int×Str))} (nb:p∉base.map (·.1)) (nd:(base.map (·.1)).Nodup) (bl:⇑base<=999999) (bb:∀q∈base,⇑q.2<=1000000):∀{row acc:List (Int×Str)} {S:cg},S.holds=base++[(p,acc)]->((acc++row).map (·.1)).Pairwise (·<·)->⇑(acc++row)<=20->p∈S.players->
  (∀h∈row,h.1<⇑S.aO/\h.2∈S.aq.map (·.1))->tI S->Runs S (row.map λh=>.holds p h.1 h.2) {S with holds:=base++[(p,acc++row)]}
 | [],acc,S,eS,_,_,_,_,_=>by
  show S=_;rw[zU,<-eS]
 | h::r,acc,S,eS,asc,al,hp,hx,sz=>by
  let⟨hb,hi⟩:=hx h zp;let asc':=asc;rw[zj,zT] at asc';rw[zg,zt] at al;let hd:pL S:=by
   refine{?_,?_,?_}
   ·rw[eS,zj,zR]
    exact{nd,by simp,λx hx y hy e=>by simp at hy;subst hy;subst e;exact nb hx}
   ·rw[eS,zg];simp;ext
   ·intro q hq
    rw[eS] at hq;rcases zF.mp hq with z | z
    ·exact bb q z
    ·rw[zy.mp z];show ⇑acc<=1000000;ext
  refine{DI (acc:=acc) (by rw[eS,LR nb];rfl) (λa ha=>asc'.2.2 a.1 (zO (f:=λx:Int×Str=>x.1) ha) h.1 (by rw[zh];exact zp)) () hp hb hi,trivial,hd,sz,?_};let ih:=GF nb nd bl bb (row:=r) (acc:=acc++[h]) (S:=bK S (.holds p h.1 h.2)) (by show eV S.holds p (h.1,h.2)=_;rw[eS,OT nb]) (by rw[zE];exact asc) (by simp only[zg,zt,xk];ext) hp (λx hx'=>hx x (zm _ hx')) sz;let e:({bK S (.holds p h.1 h.2) with holds:=base++[(p,acc++[h]++r)]}:cg)={S with holds:=base++[(p,acc++h::r)]}:=by
   show({S with holds:=base++[(p,acc++[h]++r)]}:cg)=_;rw[zE];rfl
  rw[e] at ih;exact ih
theorem AE:∀{l:List (Str×List (Int×Str))} {S:cg},((S.holds++l).map (·.1)).Nodup->⇑(S.holds++l)<=999999->(∀x∈l,x.2≠[]/\⇑x.2<=20/\(x.2.map (·.1)).Pairwise (·<·)/\x.1∈S.players/\∀h∈x.2,h.1<⇑S.aO/\h.2∈S.aq.map (·.1))->pL S->tI S->
  Runs S (l.map λx=>x.2.map λh=>Told.holds x.1 h.1 h.2).flatten {S with holds:=S.holds++l}
 | [],S,_,_,_,_,_=>by
  show S=_;rw[zU]
 | x::r,S,nd,hl,hx,hd,sz=>by
  let⟨ne,xl,asc,hp,hh⟩:=hx x zp;let⟨h,t,et⟩:=List.exists_cons_of_ne_nil ne;let nd':=nd;rw[zj,zR] at nd';let nb:x.1∉S.holds.map (·.1):=λz=>nd'.2.2 x.1 z x.1 (by rw[zh];exact zp) rfl;rw[zg,zt] at hl;rw[zh,z9];refine Runs.app (S1:={S with holds:=S.holds++[x]}) ?_ ?_
  ·rw[et] at xl asc hh ⊢
   let⟨hb,hi⟩:=hh h zp;refine{DI (acc:=[]) (by rw[N4 nb];rfl) (by simp) (by simp) hp hb hi,trivial,hd,sz,?_};let ea:bK S (.holds x.1 h.1 h.2)={S with holds:=S.holds++[(x.1,[h])]}:=by
    show({S with holds:=eV S.holds x.1 (h.1,h.2)}:cg)=_;unfold eV;rw[yM nb]
   rw[ea];let rr:=GF (p:=x.1) nb hd.1 () hd.2.2 (row:=t) (acc:=[h]) (S:={S with holds:=S.holds++[(x.1,[h])]}) rfl asc xl hp (λy hy=>hh y (zm _ hy)) sz;let ex:x=(x.1,[h]++t):=by rw[List.singleton_append,<-et]
   let e2:({({S with holds:=S.holds++[(x.1,[h])]}:cg) with holds:=S.holds++[(x.1,[h]++t)]}:cg)={S with holds:=S.holds++[x]}:=by rw[<-ex]
   rw[e2] at rr;exact rr
  ·let ih:=AE (l:=r) (S:={S with holds:=S.holds++[x]}) (by show((S.holds++[x]++r).map _).Nodup;rw[zE];exact nd) (by show(S.holds++[x]++r).length<=999999;simp only[zg,zt,xk];ext) (λy hy=>hx y (zm _ hy)) ?_ sz
   ·let e:({({S with holds:=S.holds++[x]}:cg) with holds:=S.holds++[x]++r}:cg)={S with holds:=S.holds++x::r}:=by rw[zE];rfl
    exact e▸ih
   ·refine{?_,?_,?_}
    ·show((S.holds++[x]).map _).Nodup
     have:=List.Nodup.sublist (List.Sublist.map (λx:Str×List (Int×Str)=>x.1) (List.Sublist.append (List.Sublist.refl S.holds) (List.singleton_sublist.mpr zp))) nd;exact this
    ·show(S.holds++[x]).length<=1000000
     rw[zg];simp;ext
    ·intro q hq
     let hq':q∈S.holds++[x]:=hq;rcases zF.mp hq' with z | z
     ·exact hd.2.2 q z
     ·rw[zy.mp z];ext
def vU (n:Nat):List Rep->List Rep->Prop
 | _,[]=>True
 | rs,r::l=>(∀b∈[r.first,r.last]++r.ends.map (·.1),b<(n:Int))/\kP rs r=true/\(IV r.ends<64/\⇑r.ends<=1000/\-1000000<=r.times/\r.times<=1000000)/\vU n (rs++[r]) l
def Oi {S:cg} {bs:List Int} (h:∀b∈bs,b<(⇑S.aO:Int)):S.has bs=true:=yo.mpr λb hb=>ze (h b hb)
theorem Dq:∀{l:List Rep} {S:cg},S.bu=none->vU ⇑S.aO S.repeats l->⇑(S.repeats++l)<=20->pL S->tI S->Runs S (l.map .rep) {S with repeats:=S.repeats++l}
 | [],S,_,_,_,_,_=>by
  show S=_;rw[zU]
 | r::l,S,nj,⟨h1,h2,h3,h4⟩,hl,hd,sz=>by
  rw[zg,zt] at hl;refine{?_,h3,hd,sz,?_}
  ·unfold fault
   dsimp only;rw[yM (λz=>z (Oi h1)),yM (by rw[nj];simp),yM (λz=>z h2),yM ()]
  ·let ih:=Dq (l:=l) (S:=bK S (.rep r)) nj h4 (by show(S.repeats++[r]++l).length<=20;simp only[zg,zt,xk];ext) hd {sz.1,sz.2.1,sz.2.2.1,sz.2.2.2.1,sz.2.2.2.2.1,by show(S.repeats++[r]).length<=1000000;rw[zg];simp;ext}
   let e:({bK S (.rep r) with repeats:=(bK S (.rep r)).repeats++l}:cg)={S with repeats:=S.repeats++r::l}:=by
    show({S with repeats:=S.repeats++[r]++l}:cg)=_;rw[zE];rfl
   rw[e] at ih;exact ih
def LA {S:cg} {j:Jump} (nj:S.bu=none) (hb:∀b∈[j.rM,j.tU,j.cN]++j.eK.toList,b<(⇑S.aO:Int)) (hf:gQ S.repeats j=true) (ro:FP S) (hd:pL S) (sz:tI S):Runs S [.bu j] {S with bu:=some j}:=by
 refine{?_,ro,hd,sz,rfl};unfold fault;dsimp only;rw[yM (by rw[nj];simp),yM (λz=>z (Oi hb)),yM (λz=>z hf)]
structure Vx (S:cg):Prop where
 pn:S.players.Nodup
 pl:⇑S.players<=12
 VO:(S.aq.map (·.1)).Nodup
 il:⇑S.aq<=12
 sn:(S.aL.map (·.1)).Nodup
 sf:(S.aL.map (·.2)).flatten.Nodup
 sp:∀x∈S.aL,∀p∈x.2,p∈S.players
 sl:∀x∈S.aL,⇑x.2<=1000
 sc:⇑S.aL<=1000000
 bl:⇑S.aO<=200
 lu:QZ S
 up:∀u,S.aH=some u->⇑S.aO≠0/\u.1*(S.aP 0).2<(S.aP 0).1*u.2/\BY 8999 u
 hn:(S.holds.map (·.1)).Nodup
 hl:⇑S.holds<=999999
 hx:∀x∈S.holds,x.2≠[]/\⇑x.2<=20/\(x.2.map (·.1)).Pairwise (·<·)/\x.1∈S.players/\∀h∈x.2,h.1<⇑S.aO/\h.2∈S.aq.map (·.1)
 nn:(S.aK.map (·.1)).Nodup
 nl:⇑S.aK<=1000000
 nx:∀x∈S.aK,0<=x.1.1/\x.1.1<⇑S.aO/\x.1.2∈S.players/\⇑x.2<=40/\(∀it∈x.2,O8 it.2)/\jU x.2=S.len x.1.1.toNat
 rf:vU ⇑S.aO [] S.repeats
 rl:⇑S.repeats<=20
 ro:FP S
 ju:∀j,S.bu=some j->(∀b∈[j.rM,j.tU,j.cN]++j.eK.toList,b<(⇑S.aO:Int))/\gQ S.repeats j=true
def Nj {S:cg} (V:Vx S):Runs {} (dI S) S:=by
 let hd0:∀T:cg,T.holds=[]->pL T:=λT e=>by
  refine{by rw[e];exact xZ,by rw[e];exact yf _,λq hq=>by rw[e] at hq;cases hq}
 let hdS:∀T:cg,T.holds=S.holds->pL T:=λT e=>by
  refine{by rw[e];exact V.hn,by rw[e];have:=V.hl;ext,λq hq=>?_};rw[e] at hq;have:=(V.hx q hq).2.1;ext
 let b1:=V.pl;let b2:=V.il;let b3:=V.sc;let b4:=V.bl;let b5:=V.nl;let b6:=V.rl;let szP:∀T:cg,(T.players=[]\/T.players=S.players)->(T.aq=[]\/T.aq=S.aq)->(T.aL=[]\/T.aL=S.aL)->(T.aO=[]\/T.aO=S.aO)->(T.aK=[]\/T.aK=S.aK)->(T.repeats=[]\/T.repeats=S.repeats)->tI T:=λT q1 q2 q3 q4 q5 q6=>by
  refine{?_,?_,?_,?_,?_,?_}
  ·rcases q1 with e | e <;> rw[e] <;> first | exact yf _ | ext
  ·rcases q2 with e | e <;> rw[e] <;> first | exact yf _ | ext
  ·rcases q3 with e | e <;> rw[e] <;> first | exact yf _ | ext
  ·rcases q4 with e | e <;> rw[e] <;> first | exact yf _ | ext
  ·rcases q5 with e | e <;> rw[e] <;> first | exact yf _ | ext
  ·rcases q6 with e | e <;> rw[e] <;> first | exact yf _ | ext
 let r1:=qo (l:=S.players) (S:={}) V.pn b1 (hd0 _ rfl) (szP _ (.inl rfl) (.inl rfl) (.inl rfl) (.inl rfl) (.inl rfl) (.inl rfl));let r2:=AD (l:=S.aq) (S:={players:=S.players}) V.VO b2 (hd0 _ rfl) (szP _ (.inr rfl) (.inl rfl) (.inl rfl) (.inl rfl) (.inl rfl) (.inl rfl));let r3:=tN (l:=S.aL) (S:={players:=S.players,aq:=S.aq}) V.sn V.sf V.sp V.sl b3 (hd0 _ rfl) (szP _ (.inr rfl) (.inr rfl) (.inl rfl) (.inl rfl) (.inl rfl) (.inl rfl));let r4:=Dr (l:=S.aO) (S:={players:=S.players,aq:=S.aq,aL:=S.aL}) b4 (hd0 _ rfl) (szP _ (.inr rfl) (.inr rfl) (.inr rfl) (.inl rfl) (.inl rfl) (.inl rfl));let r5:Runs {players:=S.players,aq:=S.aq,aL:=S.aL,aO:=S.aO} (S.aH.toList.map .aH) {players:=S.players,aq:=S.aq,aL:=S.aL,aO:=S.aO,aH:=S.aH}:=by
  cases q:S.aH with
  | none=>exact rfl
  | some u=>
   let⟨u1,u2,u3⟩:=V.up u q;exact GD (S:={players:=S.players,aq:=S.aq,aL:=S.aL,aO:=S.aO}) rfl u1 u2 rfl u3 V.lu (hd0 _ rfl) (szP _ (.inr rfl) (.inr rfl) (.inr rfl) (.inr rfl) (.inl rfl) (.inl rfl))
 let r6:=AE (l:=S.holds) (S:={players:=S.players,aq:=S.aq,aL:=S.aL,aO:=S.aO,aH:=S.aH}) V.hn V.hl V.hx (hd0 _ rfl) (szP _ (.inr rfl) (.inr rfl) (.inr rfl) (.inr rfl) (.inl rfl) (.inl rfl));let r7:=AB (l:=S.aK) (S:={players:=S.players,aq:=S.aq,aL:=S.aL,aO:=S.aO,aH:=S.aH,holds:=S.holds}) V.nn b5 V.lu V.nx (hdS _ rfl) (szP _ (.inr rfl) (.inr rfl) (.inr rfl) (.inr rfl) (.inl rfl) (.inl rfl));let r8:=Dq (l:=S.repeats) (S:={players:=S.players,aq:=S.aq,aL:=S.aL,aO:=S.aO,aH:=S.aH,holds:=S.holds,aK:=S.aK}) rfl V.rf b6 (hdS _ rfl) (szP _ (.inr rfl) (.inr rfl) (.inr rfl) (.inr rfl) (.inr rfl) (.inl rfl));let r9:Runs {players:=S.players,aq:=S.aq,aL:=S.aL,aO:=S.aO,aH:=S.aH,holds:=S.holds,aK:=S.aK,repeats:=S.repeats} (S.bu.toList.map .bu) S:=by
  let⟨s1,s2,s3,s4,s5,s6,s7,s8,s9⟩:=S;cases s9 with
  | none=>exact rfl
  | some j=>
   let⟨j1,j2⟩:=V.ju j rfl;exact LA (S:={players:=s1,aq:=s2,aL:=s3,aO:=s4,aH:=s5,holds:=s6,aK:=s7,repeats:=s8}) rfl j1 j2 V.ro (hdS _ rfl) (szP _ (.inr rfl) (.inr rfl) (.inr rfl) (.inr rfl) (.inr rfl) (.inr rfl))
 exact Runs.app (Runs.app (Runs.app (Runs.app (Runs.app (Runs.app (Runs.app r1 r2) r3) r4) r5) r6) r7) (Runs.app r8 r9)
inductive uq (K:yA) (vs:List V) (H:Hp) (Q:VK) (E:XK):Prop
 | mk (a:vy) (ns:List Int) (k:Int) (_:vs=[.ref a,.int k]) (_:aI K H a (ns.map V.int)) (_:0<=k) (_:⇑ns<=1000) (_:∀c:Int,Q (.int c) H)
def bQ:cZ P w base 1 T.bX (uq K):=by
 nomatch T.bX,["_law_script","_law_k"]
 let⟨a,ns,k,rfl,hS,h0,hl,kk⟩:=h;refine{_,(ah (aJ (ptr fe (pv 1) (d6 aE T.bE (ak (pv 0) ag)))
  (ao (au (fc (pv 0) (pv 1))))
  aC)
  (ao (au af))),?_}
 exists a,_,rfl,.inl hS,?_;left;refine uP (λc1=>?_) (λc1=>?_)
 ·let c2:=yd c1
  rw[za] at c2;change{a,_,_,_,rfl,rfl,hS,OQ h0 c2,kk _}
 ·left
  exact kk _
inductive rX (vs:List V) (H:Hp) (Q:VK) (E:XK):Prop
 | mk (c m:Int) (_:vs=[.int c,.int m]) (_:0<=c) (_:c<1099511627776) (_:0<=m) (_:m<=12) (_:∀(ns:List Str) p H',⇑ns=m.toNat->BV ns->aB H H'->H' p=some (.lst (ns.map V.str))->Q (.ref p) H')
def eQ:cZ P w base 1 T.dY rX:=by
 nomatch T.dY,["_law_cell","_law_many","_law_letters","_law_first","_law_size","_law_place","_law_stem"]
 let⟨c,m,rfl,c0,c1,m0,m1,kk⟩:=h;let sl:=yB;refine{_,(ah (bR 2 qN aN)
  (ah (bR 3 qN (aA aS (aA aV (pv 0) af) af))
  (ah (aJ (PW.pt (dq (ptr de (aA aS (pv 0) af) af) (cV (ptr fe (pv 1) af))))
  (ao (au (mE (ts:=["_law_k"]) (ys:=["_law_many","_law_letters","_law_first"]) (js:=[1,2,3]) (te:=(eO QK (eO PF (aY 2) (aY 3)) (eO (uG λi j=>.int (i-j)) (aY 1) (aY 0)))) (dg (by rfl) T.dm (aa (pv 1) ag)) (gg 0) bg (aA PZ (AO E2 (pv 2) (pv 3) (λ_ _=>rfl)) (aA fM (pv 1) (pv 0))))))
  aC)
  (ah (bR 4 qN (aA aS (aA aV (pv 0) af) af))
  (ah (bR 5 qN (aA aS (aA aV (pv 0) af) (aA aW (pv 4) af)))
  (ah (bR 6 qN (bU yF yH yG gE aN (aa (mE (ts:=["_law_k"]) (ys:=["_law_cell","_law_letters"]) (js:=[0,2]) (te:=(eO PF (eO (λx y H Q=>∃i j,x=.str i/\y=.str j/\⇑i+⇑j<=sizeLine/\Q (.str (i++j)) H) (aY 2) (tC (.str "0123456789"))) (eO (rI (λ_ j=>0<j) λi j=>.int (i%j)) (eO (uG λi j=>.int (i+j)) (eO (rI Sy λi j=>.int (i/j)) (aY 1) (tC (.int (16224)))) (eO (rI ME λi j=>.int (i*j)) (tC (.int (7))) (aY 0))) (tC (.int (36)))))) (dg (by rfl) T.dm (aa (pv 4) ag)) (gg 0) bg (AO E2 (aA bS (pv 2) aN) (aA aS (aA aW (aA aV (pv 1) af) (aA dM af (pv 0))) af) (λ_ _=>rfl))) ag)))
  (ao (au (mE (ts:=["_law_k"]) (ys:=["_law_letters","_law_first","_law_place","_law_stem"]) (js:=[2,3,5,6]) (te:=(eO (λx y H Q=>∃i j,x=.str i/\y=.str j/\⇑i+⇑j<=sizeLine/\Q (.str (i++j)) H) (eO (λx y H Q=>∃i j,x=.str i/\y=.str j/\⇑i+⇑j<=sizeLine/\Q (.str (i++j)) H) (UR RA (aY 4) Ed (M0 (aY 3))) (eO PF (aY 1) (eO (rI (λ_ j=>0<j) λi j=>.int (i%j)) (eO (uG λi j=>.int (i+j)) (aY 2) (eO (rI ME λi j=>.int (i*j)) (tC (.int (5))) (aY 0))) (tC (.int (26)))))) (UR RA (aY 4) (M0 (aY 3)) Ed))) (dg (by rfl) T.dm (aa (pv 1) ag)) (gg 0) bg (aA bS (aA bS (cL I9 (pv 4) du (dt (pv 3))) (AO E2 (pv 1) (aA aS (aA aW (pv 2) (aA dM af (pv 0))) af) (λ_ _=>rfl))) (cL I9 (pv 4) (dt (pv 3)) du))))))))))),?_}
 ac_rfl;left
 by_cases q:c%4=0
 ·refine b7 (by show decide (V.int (c%4)=V.int 0)=true;rw[q];rfl) ?_
  left;refine b7 (ze ()) ?_;exists by ext,(),?_
  let f0:0<=c/4%26:=zv _ ∅;let f1:c/4%26<26:=zr _ ∅;refine lF (λk=>.str (oW {#[97+(c/4%26).toNat]} (m.toNat-k))) (λU=>∃v,U=[v,some (.int m),some (.str lets),some (.int (c/4%26))]) () {(none),rfl} ?_ ?_
  ·rintro k U H4 R hk s4 ⟨_,rfl⟩ r
   exists lets,_,_,rfl,rfl,(by show 26<=sizeLine;ext),KJ f0 f1,?_;exists by ext,(),(by show 1<=1000;decide),?_
   refine r _ _ _ (aB.refl _) ?_ {_,rfl};rw[show(m-(0+(k:Int))).toNat=m.toNat-k from by ext];exact eG
  ·intro D vs H4 s4 _ hD il
   let e:(List.range m.toNat).map (λk=>Dt.str (oW {#[97+(c/4%26).toNat]} (m.toNat-k)))=((List.range m.toNat).map λk=>oW {#[97+(c/4%26).toNat]} (m.toNat-k)).map Dt.str:=by rw[zA];rfl
   rw[e] at il;rw[dw il] at hD;exact kk _ D H4 (by rw[za,zQ]) (LO () (N8 f0 f1)) s4 hD
 ·refine cq (by show decide (V.int (c%4)=V.int 0)=false;exact zd λz=>q (V.int.inj z)) ?_
  let f0:0<=c/4%26:=zv _ ∅;let f1:c/4%26<26:=zr _ ∅;let z0:0<=c/104%12:=zv _ ∅;let z1:c/104%12<12:=zr _ ∅;let y0:0<=c/1248%(c/104%12+1):=zv _ ();let y1:c/1248%(c/104%12+1)<c/104%12+1:=zr _ ();let x0:0<=c/16224:=zV c0 ∅;let x1:c/16224<=c:=zW _ c0;exists by show 0<c/104%12+1;ext,?_
  exists by ext,(),?_
  refine lF (λk=>.str {#[Pp ((c/16224+7*(0+(k:Nat)))%36)]}) (λU=>∃v,U=[v,some (.int c),some (.str lets)]) () {(none),rfl} ?_ ?_
  ·rintro k U H4 R hk s4 ⟨_,rfl⟩ r
   exists by show 26+10<=sizeLine;ext,?_
   left;let w0:0<=(c/16224+7*(0+(k:Int)))%36:=zv _ ∅;let w1:(c/16224+7*(0+(k:Int)))%36<36:=zr _ ∅;refine{lets ++"0123456789",_,_,rfl,rfl,by show 36<=sizeLine;ext,(Ng w0 w1).1,?_};exact r _ _ _ (aB.refl _) eG {_,rfl}
  ·intro D vs H4 s4 _ hD il
   let e:(List.range (c/104%12).toNat).map (λk:Nat=>Dt.str {#[Pp ((c/16224+7*(0+(k:Nat)))%36)]})=(mL c (c/104%12).toNat).map Dt.str:=by unfold mL;rw[zA];rfl
   rw[e] at il;rw[dw il] at hD;refine{"",D,mL c (c/104%12).toNat,rfl,rfl,aI.of hD,by rw[M8];ext,?_};exists by ext,(),?_
   let sln:=Na c (c/104%12).toNat;let ssg:=M9 (c:=c) (n:=(c/104%12).toNat);generalize hst:Str.join "" (mL c (c/104%12).toNat)=stem at sln ssg;obtain⟨pn,hpn⟩:∃n:Nat,c/1248%(c/104%12+1)=(n:Int):={(c/1248%(c/104%12+1)).toNat,()}
   obtain⟨fn,hfn⟩:∃n:Nat,c/4%26=(n:Int):={(c/4%26).toNat,()}
   let pb:pn<=⇑stem:=()
   let l1:⇑(Txt.slice stem none (some (pn:Int)))<=11:=by
    rw[<-show _=⇑(Txt.slice stem none (some (pn:Int))) from yP,Gm stem pb,zP];ext
   let l2:⇑(Txt.slice stem (some (pn:Int)) none)<=11:=by
    rw[<-show _=⇑(Txt.slice stem (some (pn:Int)) none) from yP,oN stem pb,xy,show ⇑stem.cps.toList=⇑stem from yP];ext
   refine lF (λk=>.str (Txt.slice stem none (some (pn:Int))++{#[97+(fn+5*k)%26]}++Txt.slice stem (some (pn:Int)) none)) (λU=>∃v,U=[v,some (.str lets),some (.int (fn:Int)),some (.int (pn:Int)),some (.str stem)]) () {none,by rw[<-hpn,<-hfn];rfl} ?_ ?_
   ·rintro k U H5 R hk s5 ⟨_,rfl⟩ r
    exists by ext,?_
    left;let w0:0<=((fn:Int)+5*(0+(k:Int)))%26:=zv _ ∅;let w1:((fn:Int)+5*(0+(k:Int)))%26<26:=zr _ ∅;let we:(((fn:Int)+5*(0+(k:Int)))%26).toNat=(fn+5*k)%26:=()
    refine{lets,_,_,rfl,rfl,by show 26<=sizeLine;ext,KJ w0 w1,?_};rw[we];let l3:⇑({#[97+(fn+5*k)%26]}:Str)=1:=rfl;refine{_,_,rfl,rfl,(),?_};exists by ext,?_
    refine{_,_,rfl,rfl,by rw[len_app];ext,?_};exact r _ _ _ (aB.refl _) eG {_,rfl}
   ·intro D2 vs2 H5 s5 _ hD2 il2
    let e:(List.range m.toNat).map (λk=>Dt.str (Txt.slice stem none (some (pn:Int))++{#[97+(fn+5*k)%26]}++Txt.slice stem (some (pn:Int)) none))=((List.range m.toNat).map λk=>Txt.slice stem none (some (pn:Int))++{#[97+(fn+5*k)%26]}++Txt.slice stem (some (pn:Int)) none).map Dt.str:=by rw[zA];rfl
    rw[e] at il2;rw[dw il2] at hD2;exact kk _ D2 H5 (by rw[za,zQ]) (Jw () pb ssg ()) (s4.trans s5) hD2
def rV:Sp:=λvs H Q _=>∃(m:Int),vs=[.int m]/\0<=m/\∀q p H',OX q->aB H H'->H' p=some (jx q)->Q (.ref p) H'
def sH:cZ P w base 1 T.kb rV:=by
 nomatch T.kb,["_law_m","_law_f","_law_high"]
 let⟨m,rfl,m0,kk⟩:=h;let a:=zv m (b:=41) ∅;let b:=zr m (b:=41) ∅;let c:=zv (m/41) (b:=14) ∅;let d:=zr (m/41) (b:=14) ∅;refine{_,(ah (bR 1 qN (aA fM (aA aS (pv 0) af) af))
  (ah (bR 2 qN (aA dM (aA fM (aA aS (aA aV (pv 0) af) af) af) af))
  (ao (au (bI (aa (pv 1) (aa (aA aW (aA aS (aA dM af (pv 1)) af) (pv 2)) ag))))))),?_}
 ac_rfl;exists cT,?_;intros p1 H1 s1 h1;change kk _ _ _ (LJ m) s1 h1
inductive rY (vs:List V) (H:Hp) (Q:VK) (E:XK):Prop
 | mk (m:Int) (x:Int×Int) (q:vy) (_:vs=[.int m,.ref q]) (_:H q=some (jx x)) (_:0<=m) (_:m<1099511627776) (_:MB x) (_:∀(its:List Item) p us H',FT its x->aB H H'->H p=none->H' p=some (.lst us)->aD H' (its.map eJ) us->Q (.ref p) H')
def sJ:cZ P w base 2 T.ke rY:=by
 nomatch T.ke,["_law_m","_law_length","_law_many","_law_weights","_law_items","_law_j","_law_each"]
 let⟨m,x,q,rfl,hq,m0,m1,xok,kk⟩:=h;let sl:=yB;let a:=zv m (b:=6) ∅;let b:=zr m (b:=6) ∅;obtain⟨n,hn⟩:∃n:Nat,1+m%6=(n:Int):={(1+m%6).toNat,()}
 refine{_,(ah (bR 2 qN (aA aW af (aA aS (pv 0) af)))
  (ah (O4 (i:=3) (ts:=["_law_j"]) (ys:=["_law_m"]) (js:=[0]) (te:=(eO (uG λi j=>.int (i+j)) (tC (.int (1))) (eO (rI (λ_ j=>0<j) λi j=>.int (i%j)) (eO (rI Sy λi j=>.int (i/j)) (aY 1) (eO (uG λi j=>.int (i+j)) (tC (.int (7))) (eO (rI ME λi j=>.int (i*j)) (tC (.int (5))) (aY 0)))) (tC (.int (4)))))) (dg (by rfl) T.dm (aa (pv 2) ag)) (gg 0) bg (aA aW af (aA aS (aA aV (pv 1) (aA aW af (aA dM af (pv 0)))) af)) qN)
  (ah (bR 4 qN (bq ag))
  (ah (bZ yO rfl (dg (by rfl) T.dm (aa (pv 2) ag)) (gR 5 qN)
  (ah (bR 6 qN (bN (fO T) hr T.fE (aa (aA dM (bB (pv 1) af) (fc (pv 3) (pv 5))) (aa (aA dM (bB (pv 1) af) (d6 (Mj rfl) T.Tn (aa (pv 3) ag))) ag))))
   (ao (aJ (PW.pt (dq (ptr jH (pv 5) (aA aS (aA aV (pv 0) af) (pv 2))) (cV (ptr de (aA RQ (aA RO (aA aV (pv 0) af) (pv 5)) af) af))))
   (ao (bJ (bU yC yE yD bF (pv 4) (aa (bI (aa aT (aa (pv 6) ag))) ag))))
   (ao (bJ (bU yC yE yD bF (pv 4) (aa (bI (aa (bN (sH T) hr T.kb (aa (aA aV (pv 0) (aA aW af (aA dM af (pv 5)))) ag)) (aa (pv 6) ag))) ag))))))))
  (ao (au (pv 4))))))),?_}
 ac_rfl;exists by ext,(),?_
 rw[show(1+m%6).toNat=n from by ext];refine lF (λj=>.int (1+m/(7+5*(0+(j:Nat)))%4)) (λU=>∃v,U=[v,some (.int m)]) () {(none),rfl} ?_ ?_
 ·rintro j U H1 R hj s1 ⟨_,rfl⟩ r
  exists{(()),()},?_;change r _ _ _ (aB.refl _) cG {_,rfl}
 ·intro D0 vs0 H1 s1 _ hD0 il0
  let e:(List.range n).map (λj:Nat=>Dt.int (1+m/(7+5*(0+(j:Nat)))%4))=(rN m n).map Dt.int:=by unfold rN;rw[zA];rfl
  rw[e] at il0;rw[d4 il0] at hD0;left
  intros D nD s2 h2 H2
  let nDH:H D=none:=s1.back nD;exists by ext,(),?_
  rw[show(1+m%6).toNat=n from by ext];let⟨xr,x1,x2,x3⟩:=id xok;let⟨_,xp,_⟩:=xr.pos;let wl:=Pa m n;let wb:=M6 (l:=rN m n) λw hw=>IL hw;let W0:0<(rN m n).sum:=()
  let W2:(rN m n).sum<=24:=()
  let j0a:0<=m/4%(n:Int):=zv _ ();let j0b:m/4%(n:Int)<n:=zr _ ();refine gn (λi U H'=>∃(its:List Item) (us:List V) (v5 v6:Option V),U=[some (.int m),some (.ref q),some (.int (1+m%6)),some (.ref D0),some (.ref D),v5,v6]/\aB H1 H'/\H' D=some (.lst us)/\aD H' (its.map eJ) us/\⇑its=i/\(∀it∈its,MC it)/\
   jU its=red (x.1*((rN m n).take i).sum) (x.2*(rN m n).sum)/\(m/4%(n:Int)<i->its.all (λit=>it.1.isNone)=false)) {[],[],none,none,rfl,s2,h2,cF,rfl,by simp,M5 xp W0,λz=>by exfalso;simp at z;ext} ?_ ?_
  ·intro i U H3 hi hh
   refine dG λN kN0 kR0 _ _=>?_;let⟨its,us,v5,v6,rfl,s3,h3,il3,il,iok,isum,ino⟩:=hh;let hq3:=s3 _ _ (s1 _ _ hq);let hD3:=s3 _ _ hD0;let hwi:(rN m n)[i]?=some ((rN m n)[i]'()):=zb ();let⟨w1,w2⟩:=IL (zB hwi);generalize (rN m n)[i]'()=wi at hwi w1 w2;left;refine{D0,_,_,_,rfl,rfl,aI.of hD3,(by rw[Int.zero_add];exact bj (by rw[zJ,hwi];rfl)),?_};exists .inl {(()),()},?_;exists D0,_,rfl,aI.of hD3,λw hw=>by have:=IL hw;ext,(),?_
   exists .inl {(()),()},?_;let lk:=N5 xok w1 w2 W0 W2;let b1:0<x.2*(rN m n).sum:=xw xp W0;let b2:x.2*(rN m n).sum<=160*24:=x8 x3 W2 () ∅;let t0:0<=x.1*wi:=x6 () ();refine{_,_,rfl,t0,b1,(di (n:=12) () ()).mono ∅,λp6 H6 s6 h6=>?_};exists by show 0<1+m%6;ext,?_
   left;let nD6:H6 D=some (.lst us):=s6 _ _ h3;let il6:=il3.mono s6;let e6:(rN m n).take (i+1)=(rN m n).take i++[wi]:=cC hwi;let ps:∀it:Item,it.2=red (x.1*wi) (x.2*(rN m n).sum)->jU (its++[it])=red (x.1*((rN m n).take (i+1)).sum) (x.2*(rN m n).sum):=λit e=>by
    rw[e6,List.sum_append];have:[wi].sum=wi:=by simp
    rw[this];exact M4 xp W0 isum e
   refine dX ((!decide (V.int (0+(i:Int))=V.int (m/4%(1+m%6))))&&decide (V.int (Builtin.bitAnd (m/16/2^(0+(i:Int)).toNat) 1)=V.int 1)) ?_ ?_ ?_
   ·intro c Z hz
    rw[c,yU] at hz;exists by show 0<=0+(i:Int);ext,?_
    change hz
   ·intro c;rw[c,yS]
   ·cases qv:((!decide (V.int (0+(i:Int))=V.int (m/4%(1+m%6))))&&decide (V.int (Builtin.bitAnd (m/16/2^(0+(i:Int)).toNat) 1)=V.int 1)) with
    | true=>
     let ne:(i:Int)≠m/4%(n:Int):=λz=>by
      rw[Int.zero_add,z,hn] at qv;simp at qv
     exists .inl {rfl,_,aI.of nD6},?_;exists cT,?_;intros p7 H7 s7 h7;refine{D,us,_,rfl,rfl,s7 _ _ nD6,(by have:=aQ il3;ext),?_};left;let nt:cP (H7 D):=by rw[s7 _ _ nD6];exact λ_ z=>by cases z
     let it7:Is H7 (eJ (none,red (x.1*wi) (x.2*(rN m n).sum))) (.ref p7):=cB h7 (aR dP (aR (iE (s7 _ _ h6)) cF));refine{its++[(none,red (x.1*wi) (x.2*(rN m n).sum))],_,_,_,rfl,bC nD ((s3.trans s6).trans s7),aF,?_,by rw[zg,il];rfl,λit hit=>?_,ps _ rfl,λz=>?_}
     ·rw[zj]
      exact cS (Is.upd nt it7) (aD.upd nt (il6.mono s7))
     ·rcases zF.mp hit with y | y
      ·exact iok it y
      ·rw[zy.mp y];exact{lk,λq z=>by cases z}
     ·rw[List.all_append,ino (),yS]
    | false=>
     exists .inl {rfl,_,aI.of nD6},?_;exists{(()),()},?_;exists zV m0 (),λpq p8 H8 pok s8 h8=>?_;exists cT,?_;intros p7 H7 s7 h7;let s67:=s8.trans s7;refine{D,us,_,rfl,rfl,s67 _ _ nD6,by have:=aQ il3;ext,?_};left;let nt:cP (H7 D):=by rw[s67 _ _ nD6];exact λ_ z=>by cases z
     let it7:Is H7 (eJ (some pq,red (x.1*wi) (x.2*(rN m n).sum))) (.ref p7):=cB h7 (aR (iE (s7 _ _ h8)) (aR (iE (s67 _ _ h6)) cF));refine{its++[(some pq,red (x.1*wi) (x.2*(rN m n).sum))],_,_,_,rfl,bC nD ((s3.trans s6).trans s67),aF,?_,by rw[zg,il];rfl,λit hit=>?_,ps _ rfl,λz=>?_}
     ·rw[zj]
      exact cS (Is.upd nt it7) (aD.upd nt (il6.mono s67))
     ·rcases zF.mp hit with y | y
      ·exact iok it y
      ·rw[zy.mp y];exact{lk,λq z=>by cases z;exact pok}
     ·rw[List.all_append];simp
  ·rintro U H3 ⟨its,us,v5,v6,rfl,s3,h3,il3,il,iok,isum,ino⟩
   left;refine kk its D us H3 {(),iok,?_,ino j0b} (s1.trans s3) nDH h3 il3;rw[isum,show(rN m n).take n=rN m n from xt (),Lq xr W0]
noncomputable def JA:List (Int×Int):=[(4,4),(3,4),(6,8),(2,2),(5,16),(7,8),(1,32),(12,1)]
def Ko (b:Sc.MF):Prop:=b.aP∈JA/\-7<=b.key/\b.key<=7/\(∀n∈b.marks,gh n)/\⇑b.marks<=2
inductive uw (vs:List V) (H:Hp) (Q:VK) (E:XK):Prop
 | mk (c n:Int) (_:vs=[.int c,.int n]) (_:0<=n) (_:n<=200) (_:∀(bs:List Sc.MF) p us H',⇑bs=n.toNat->(∀b∈bs,Ko b)->aB H H'->H p=none->H' p=some (.lst us)->aD H' (bs.map jz) us->Q (.ref p) H')
def uN:cZ P w base 2 T.lM uw:=by
 nomatch T.lM,["_law_cell","_law_many","_law_bars","_law_k","_law_m","_law_metre","_law_key","_law_marks"]
 let⟨c,n,rfl,n0,n1,kk⟩:=h;let sl:=yB;refine{_,(ah (bR 2 qN (bq ag))
  (ah (bZ yO rfl (dg (by rfl) T.dm (aa (pv 1) ag)) (gR 3 qN)
  (zf (zc (zS (bR 4 qN (bN (bP T) hr T.cm (aa (pv 0) (aa (aA aW (pv 3) af) ag)))))
   (zc (U7 5 qN (PN JA (aA aS (pv 4) af) (λ_ _=>rfl)))
   (zc (zS (bR 6 qN (aA fM (aA aS (aA aV (pv 4) af) af) af)))
   (zc (zS (aJ (PW.pt (dq (ptr eW (pv 3) af) (cV (ptr eW (aA aS (aA aV (pv 4) af) af) af))))
   (ao (bR 5 qN (bB (fc (pv 2) (qE kF af)) af)))
   aC))
   (zc (zS (aJ (PW.pt (dq (ptr eW (pv 3) af) (cV (ptr eW (aA aS (aA aV (pv 4) af) af) af))))
   (ao (bR 6 qN (bB (fc (pv 2) (qE kF af)) af)))
   aC))
   (zc (zS (bR 7 qN (mD cK T.iB (aa (bN (eQ T) hr T.dY (aa (aA aV (pv 4) af) (aa (fc (bq (aa af (aa af (aa af (aa af (aa af (aa af (aa af ag)))))))) (aA aS (aA aV (pv 4) af) af)) ag))) ag))))
   (zo (zS (bJ (bU yC yE yD bF (pv 2) (aa (bI (aa (pv 5) (aa (pv 6) (aa (pv 7) ag)))) ag)))))))))))))
  (ao (au (pv 2))))),?_}
 ac_rfl;left
 intros D nD s2 h2 H2
 exists by ext,(),?_
 refine gn (λi U H'=>∃(bs:List Sc.MF) (us:List V),Lo [some (.int c),some (.int n),some (.ref D)] 5 U/\aB H H'/\H' D=some (.lst us)/\aD H' (bs.map jz) us/\⇑bs=i/\∀b∈bs,Ko b)
  {[],[],Lo.of rfl rfl,s2,h2,cF,rfl,by simp} ?_ ?_
 ·intro i U H3 hi hh
  refine dG λN kN0 kR0 _ _=>?_;let⟨bs,us,⟨e,rfl⟩,s3,h3,il3,bl,bok⟩:=hh;exists c,_,rfl,(),(),?_;let m0:0<=mixed c (0+(i:Int)+20):=zv _ ∅;let m1:mixed c (0+(i:Int)+20)<2147483399:=zr _ ∅;generalize mixed c (0+(i:Int)+20)=m at m0 m1;let a0:0<=m%8:=zv _ ∅;let a1:m%8<8:=zr _ ∅;let b0:0<=m/8%15:=zv _ ∅;let b1:m/8%15<15:=zr _ ∅;left;intro D4 vs4 H4 s4 h4 il4;left;obtain⟨j,hj⟩:∃j:Nat,m%8=(j:Int):={(m%8).toNat,()}
  let vl4:=aQ il4;let jl:j<⇑vs4:=by rw[vl4];show j<8;ext
  let⟨mx,hmx,imx⟩:=cA (d:=dL) il4 (i:=j) (zb jl);generalize hmv:vs4[j]=mv at imx;let h3':=s4 _ _ h3;let il3':=il3.mono s4;refine{D4,vs4,m%8,mv,rfl,rfl,aI.of h4,(by rw[hj];exact bj (by rw[<-hmv];exact zb jl)),?_};left;let lastB:0<(i:Int)->∃b a mt q,us[⇑us-1]?=some (.ref a)/\H4 a=some (.tup [mt,.int b.key,.ref q])/\Is H4 (dL b.aP) mt/\b∈bs:=λip=>by
   let ul:=aQ il3';let⟨b,hb,ib⟩:=cA il3' (i:=⇑us-1) (zb ());let⟨a,mt,q,ea,ha,hm,_⟩:=vM ib;exact{b,a,mt,q,by rw[<-ea];exact zb (),ha,hm,zB hb}
  refine dX (decide (0<0+(i:Int))&&decide (0<m/120%4)) ?_ ?_ ?_
  ·intro c1 Z hz
   rw[c1,yU] at hz;change hz
  ·intro c1;rw[c1,yS]
  refine join (λU H'=>H'=H4/\∃mv x,U=[some (.int c),some (.int n),some (.ref D),some (.int (0+(i:Int))),some (.int m),some mv,some (.int (m/8%15-7)),e 4]/\Is H4 (dL x) mv/\x∈JA) (λN hN c1=>?_) (λN hN c1=>?_) ?_
  ·let ip:0<(i:Int):=by simp at c1;ext
   let⟨b,a,mt,q,hl,ha,hm,hb⟩:=lastB ip;exists D,us,-1,_,rfl,rfl,aI.of h3',rD hl,?_;change hN _ _ {rfl,mt,b.aP,rfl,hm,(bok b hb).1}
  ·left
   exact hN _ _ {rfl,mv,mx,rfl,imx,zB hmx}
  clear imx hmv;rintro σ5 H5 ⟨e5,mv,x,rfl,imv,hx⟩;rw[e5];clear e5 H5;left;refine dX (decide (0<0+(i:Int))&&decide (0<m/480%5)) ?_ ?_ ?_
  ·intro c1 Z hz
   rw[c1,yU] at hz;change hz
  ·intro c1;rw[c1,yS]
  refine join (λU H'=>H'=H4/\∃k:Int,U=[some (.int c),some (.int n),some (.ref D),some (.int (0+(i:Int))),some (.int m),some mv,some (.int k),e 4]/\-7<=k/\k<=7) (λN hN c1=>?_) (λN hN c1=>?_) ?_
  ·let ip:0<(i:Int):=by simp at c1;ext
   let⟨b,a,mt,q,hl,ha,hm,hb⟩:=lastB ip;exists D,us,-1,_,rfl,rfl,aI.of h3',rD hl,?_;change hN _ _ {rfl,b.key,rfl,(bok b hb).2.1,(bok b hb).2.2.1}
  ·left
   exact hN _ _ {rfl,m/8%15-7,rfl,(),()}
  rintro σ5 H5 ⟨e5,k,rfl,k0,k1⟩;rw[e5];clear e5 H5;exists by show 7<=sizeLine;ext,?_
  intros p6 H6 s6 h6;let g0:0<=m/33600%7:=zv _ ∅;let g1:m/33600%7<7:=zr _ ∅;obtain⟨jj,hjj⟩:∃j:Nat,m/33600%7=(j:Int):={(m/33600%7).toNat,()}
  obtain⟨z,hz,z0,z1⟩:∃z:Int,[V.int 0,V.int 0,V.int 0,V.int 0,V.int 0,V.int 1,V.int 2][jj]?=some (.int z)/\0<=z/\z<=2:=by
   have:jj<7:=()
   match jj,this with
   | 0,_=>exact{0,rfl,∅,∅}
   | 1,_=>exact{0,rfl,∅,∅}
   | 2,_=>exact{0,rfl,∅,∅}
   | 3,_=>exact{0,rfl,∅,∅}
   | 4,_=>exact{0,rfl,∅,∅}
   | 5,_=>exact{1,rfl,∅,∅}
   | 6,_=>exact{2,rfl,∅,∅}
  exists p6,_,m/33600%7,.int z,rfl,rfl,aI.of h6,(by rw[hjj];exact bj hz),?_;left;refine{_,z,rfl,zV m0 ∅,?_,z0,(),λns p7 H7 nl nok s7 h7=>?_}
  ·have:=zW (a:=m) 2400 m0;ext
  left;refine{p7,_,rfl,.inl {aI.of h7,?_}};intros p8 H8 s8 h8;let s48:=(s6.trans s7).trans s8;let h38:=s48 _ _ h3';exists .inl {rfl,_,aI.of h38},?_;exists mR,?_;intros p9 H9 s9 h9;refine{D,us,_,rfl,rfl,s9 _ _ h38,(by have:=aQ il3;ext),?_};left;let s49:=s48.trans s9;let nt:cP (H9 D):=by rw[s9 _ _ h38];exact λ_ z=>by cases z
  let ib:Is H9 (jz {(x),k,ns}) (.ref p9):=cB h9 (aR (imv.mono s49) (aR cG (aR (cB (s9 _ _ h8) (A6 ns)) cF)));refine{bs++[{(x),k,ns}],_,Lo.of rfl rfl,bC nD ((s3.trans s4).trans s49),aF,?_,by rw[zg,bl];rfl,λb hb=>?_}
  ·rw[zj]
   exact cS (Is.upd nt ib) (aD.upd nt (il3'.mono s49))
  ·rcases zF.mp hb with y | y
   ·exact bok b y
   ·rw[zy.mp y]
    exact{hx,k0,k1,nok.1,by show ⇑ns<=2;ext}
 ·rintro U H3 ⟨bs,us,⟨e,rfl⟩,s3,h3,il3,bl,bok⟩
  change kk bs D us H3 bl bok s3 nD h3 il3
inductive pX (vs:List V) (H:Hp) (Q:VK) (E:XK):Prop
 | mk (bl:vy) (us:List V) (S:cg) (ub:V) (b:Nat) (_:vs=[.ref bl,ub,.int b]) (_:H bl=some (.lst us)) (_:aD H (S.aO.map jz) us) (_:Is H (dO dL S.aH) ub) (_:b<⇑S.aO) (_:(∀x∈S.aO,Ko x)) (_:∀p H',aB H H'->H' p=some (jx (S.len b))->Q (.ref p) H')
def jM {x:Int×Int} (h:x∈JA):1<=x.1/\x.1<=12/\x.2∈CY/\1<=x.2/\x.2<=32:=by
 unfold JA at h;simp only[zC,zD,yT] at h;rcases h with rfl | rfl | rfl | rfl | rfl | rfl | rfl | rfl <;> decide
def fP:cZ P w base 2 T.eM pX:=by
 nomatch T.eM,["_law_bars","_law_upbeat","_law_bar"]
 let⟨bl,us,S,ub,b,rfl,hbl,il,iu,hb,bok,kk⟩:=h;let ul:=aQ il;let⟨x,hx,ix⟩:=cA il (i:=b) (zb ());let⟨a1,mv,q,ev,h1,im,_⟩:=vM ix;let⟨m1,m2,m3,m4,m5⟩:=jM (bok x (zB hx)).1;let em:S.aP b=red x.aP.1 x.aP.2:=by unfold cg.aP;rw[hx]
 cases eD (o:=some x.aP) im with
 | ref hm=>
 rename_i am;refine{_,(ah (aJ (PW.pt (dq (ptr de (pv 2) af) (cV (bG (fo (pv 1))))))
  (ao (au (pv 1)))
  aC)
  (ao (au (bN (fO T) hr T.fE (aa (bB (bB (fc (pv 0) (pv 2)) af) af) (aa (bB (bB (fc (pv 0) (pv 2)) af) af) ag)))))),?_}
 ac_rfl;left;let nz:∀H1,Is H1 (dO dL S.aH) ub->(!decide (ub=V.bA))=S.aH.isSome:=λH1 z=>by
  cases q:S.aH with
  | none=>rw[q] at z;unfold dO Is at z;rw[z];rfl
  | some u=>
   rw[q] at z;cases eD (o:=some u) z with
   | ref hu=>rfl
 refine dX (decide (V.int (b:Int)=V.int 0)&&S.aH.isSome) ?_ ?_ ?_
 ·intro c Z hz
  rw[c,yU,<-nz H iu] at hz;change hz
 ·intro c;rw[c,yS]
 ·cases qv:(decide (V.int (b:Int)=V.int 0)&&S.aH.isSome) with
  | true=>
   rw[zN] at qv;let b0:b=0:=by have:=V.int.inj (yd qv.1);ext
   cases q:S.aH with
   | none=>rw[q] at qv;cases qv.2
   | some u=>
    rw[q] at iu;cases eD (o:=some u) iu with
    | ref hu=>
     left;refine kk _ _ (aB.refl _) ?_;unfold cg.len;rw[q];simp only[b0,vb];exact hu
  | false=>
   let el:S.len b=S.aP b:=by
    unfold cg.len;cases q:S.aH with
    | none=>rfl
    | some u=>
     rw[q] at qv;have:b≠0:=λz=>by rw[z] at qv;simp at qv
     simp only[yM this]
   rw[el,em] at kk;left;refine{bl,us,b,_,rfl,rfl,aI.of hbl,bj (zb ()),?_};rw[ev];left;refine{bl,us,b,_,rfl,rfl,aI.of hbl,bj (zb ()),?_};rw[ev];change{_,_,rfl,(),(),(di (n:=10) () ()).mono ∅,kk}
inductive rZ (vs:List V) (H:Hp) (Q:VK) (E:XK):Prop
 | mk (c many:Int) (pp ip:vy) (ps:List Str) (ins:List (Str×(Int×Int)×(Int×Int))) (iv:List V) (_:vs=[.int c,.ref pp,.ref ip,.int many]) (_:H pp=some (.lst (ps.map V.str))) (_:H ip=some (.lst iv)) (_:aD H (ins.map dZ) iv) (_:⇑ps<=100) (_:⇑ins<=100) (_:many<=200) (_:∀(hs:List (Str×List (Int×Str))) D us H',List.Sublist (hs.map (·.1)) ps->(∀x∈hs,K6 (ins.map (·.1)) many x.2)->aB H H'->H' D=some (.lst us)->RL (jy D H') hs us->Q (.ref D) H')
def LV {H:Hp} {x:Str×(Int×Int)×(Int×Int)} {v:V} (h:Is H (dZ x) v):∃a t l,v=.ref a/\H a=some (.tup [.str x.1,t,l]):=by
 unfold dZ Is at h;let⟨a,vs,rfl,ha,hl⟩:=h;unfold aD at hl;let⟨v1,r1,rfl,h1,hl⟩:=hl;unfold aD at hl;let⟨v2,r2,rfl,h2,hl⟩:=hl;unfold aD at hl;let⟨v3,r3,rfl,h3,hl⟩:=hl;unfold aD at hl;subst hl;unfold Is at h1;subst h1;exact{(a),v2,v3,rfl,ha}
def sL:cZ P w base 2 T.kf rZ:=by
 nomatch T.kf,["_law_cell","_law_players","_law_instruments","_law_many","_law_holds","_law_k","_law_player","_law_row","_law_bar","_law_j","_law_m"]
 let⟨c,many,pp,ip,ps,ins,iv,rfl,hpp,hip,ili,pl,il0,my,kk⟩:=h;let sl:=yB;let ivl:=aQ ili;refine{_,(ah (bR 4 qN (bq ag))
  (ah (bZ yO rfl (vK (by rfl) T.jK (aa (pv 1) ag)) (dy (n:=2) rfl (aM (gR 5 qN) (aM (gR 6 qN) cJ)))
  (ah (bR 7 qN (bq ag))
   (ah (bR 8 qN af)
   (ah (bZ yO rfl (dg (by rfl) T.dm (aa af ag)) (gR 9 qN)
   (ah (bR 10 qN (bN (bP T) hr T.cm (aa (pv 0) (aa (aA aW (aA aW (aA dM af (pv 5)) (pv 9)) af) ag))))
    (ah (bR 8 qN (aA aW (pv 8) (aA aS (pv 10) af)))
    (ah (aJ (PW.pt (dq (ptr fe (pv 8) (pv 3)) (dq (ptr eW (d6 aE T.bE (aa (pv 2) ag)) af) (cV (ptr eW (aA aS (aA aV (pv 10) af) af) af)))))
    (ao (bJ (bU yC yE yD bF (pv 7) (aa (bI (aa (pv 8) (aa (bB (fc (pv 2) (aA aS (aA aV (pv 10) af) (d6 aE T.bE (aa (pv 2) ag)))) af) ag))) ag))))
    aC)
    (ao (bR 8 qN (aA aW (pv 8) af)))))))
   (ao (aJ (ptr (kZ hr.units) (pv 7) (bq ag))
   (ao (bJ (bU yC yE yD bF (pv 4) (aa (bI (aa (pv 6) (aa (pv 7) ag))) ag))))
   aC))))))
  (ao (au (pv 4))))),?_}
 ac_rfl;left
 intros D nD s2 h2 H2
 exists pp,_,rfl,aI.of (s2 _ _ hpp),?_;refine q9 (K:=K) (a:=pp) (xs:=ps.map V.str) (λi U H'=>∃(hs:List (Str×List (Int×Str))) (us:List V),Lo [some (.int c),some (.ref pp),some (.ref ip),some (.int many),some (.ref D)] 6 U/\aB H H'/\H' D=some (.lst us)/\RL (jy D H') hs us/\List.Sublist (hs.map (·.1)) (ps.take i)/\(∀x∈hs,K6 (ins.map (·.1)) many x.2)/\⇑hs<=i)
  {[],[],Lo.of rfl rfl,s2,h2,rfl,List.nil_sublist _,by simp,zk _} (λi U H' _ h=>by let⟨_,_,_,z,_⟩:=h;exact aI.of (z _ _ hpp)) ?_ ?_
 ·intro i x U H3 p H4 hx hh s34 hp4
  refine dG λN kN0 kR0 _ _=>?_;let⟨hs,us,⟨e,rfl⟩,s3,h3,rl3,sub,uF,hl⟩:=hh;rw[zJ] at hx;cases qr:ps[i]? with
  | none=>rw[qr] at hx;cases hx
  | some pn=>
  rw[qr] at hx;simp only[xj,xK] at hx;subst hx;refine{p,_,rfl,cu.of hp4,rfl,?_};refine{_,_,rfl,{_,_,rfl,{rfl,?_}}};left
  intros R nR s5 h5 H5
  exists by decide,(by decide),?_
  refine gn (λj U H'=>∃(row:List (Int×Str)) (ws:List V) (bar:Int) (v9 va:Option V),U=[some (.int c),some (.ref pp),some (.ref ip),some (.int many),some (.ref D),some (.int (i:Int)),some (.str pn),some (.ref R),some (.int bar),v9,va]/\aB H4 H'/\H' R=some (.lst ws)/\aD H' (row.map J0) ws/\0<=bar/\⇑row<=j/\(row.map (·.1)).Pairwise (·<·)/\
   ∀h∈row,0<=h.1/\h.1<many/\h.2∈ins.map (·.1)/\h.1<bar) {[],[],0,e 4,e 5,rfl,s5,h5,cF,∅,by simp,by simp,by simp} ?_ ?_
  ·intro j U H6 hj hh
   refine dG λN kN1 kR1 _ _=>?_;let⟨row,ws,bar,v9,va,rfl,s6,h6,il6,b0,rl,asc,rin⟩:=hh;let s06:=(s3.trans s34).trans s6;left;let ib:i<⇑ps:=(zw.mp qr).1;refine{c,_,rfl,(),(),?_};let m0:0<=mixed c (7*(i:Int)+(0+(j:Int))+60):=zv _ ∅;let m1:mixed c (7*(i:Int)+(0+(j:Int))+60)<2147483399:=zr _ ∅;generalize mixed c (7*(i:Int)+(0+(j:Int))+60)=m at m0 m1;let a0:0<=m%5:=zv _ ∅;left;let hip6:=s06 _ _ hip;refine dX (decide (bar+m%5<many)&&(decide (0<(⇑ins:Int))&&decide (0<m/5%3))) ?_ ?_ ?_
   ·intro c1 Z hz
    rw[c1,yU] at hz;exists ip,iv,rfl,.inl (aI.of hip6),?_;rw[ivl];left;refine dX (decide (0<(⇑ins:Int))&&decide (0<m/5%3)) ?_ ?_ hz
    ·intro c2 Z hz
     rw[c2,yU] at hz;change hz
    ·intro c2;rw[c2,yS]
   ·intro c1;rw[c1,yS]
   refine join (λU H'=>∃(row:List (Int×Str)) (ws:List V),U=[some (.int c),some (.ref pp),some (.ref ip),some (.int many),some (.ref D),some (.int (i:Int)),some (.str pn),some (.ref R),some (.int (bar+m%5)),some (.int (0+(j:Int))),some (.int m)]/\aB H4 H'/\H' R=some (.lst ws)/\aD H' (row.map J0) ws/\⇑row<=j+1/\(row.map (·.1)).Pairwise (·<·)/\
    ∀h∈row,0<=h.1/\h.1<many/\h.2∈ins.map (·.1)/\h.1<bar+m%5+1) (λN hN c1=>?_) (λN hN c1=>?_) ?_
   ·simp only[zN,xB] at c1
    let⟨c1,c2,c3⟩:=c1;let d0:0<=m/15%(⇑ins:Int):=zv _ ();let d1:m/15%(⇑ins:Int)<⇑ins:=zr _ ();obtain⟨jj,hjj⟩:∃jj:Nat,m/15%(⇑ins:Int)=(jj:Int):={(m/15%(⇑ins:Int)).toNat,()}
    let⟨nx,hnx,inx⟩:=cA (d:=dZ) (ili.mono s06) (i:=jj) (zb ());let⟨ai,ti,li,ea,hai⟩:=LV inx;exists .inl {rfl,_,aI.of h6},?_;exists ip,iv,rfl,.inl (aI.of hip6),?_;rw[ivl];exists by show 0<(⇑ins:Int);ext,?_
    refine{ip,iv,_,_,rfl,rfl,aI.of hip6,(by rw[hjj];exact bj (zb ())),?_};rw[ea];exists cT,?_;intros p7 H7 s7 h7;refine{R,ws,_,rfl,rfl,s7 _ _ h6,(by have:=aQ il6;ext),?_};left;let nt:cP (H7 R):=by rw[s7 _ _ h6];exact λ_ z=>by cases z
    refine hN _ _ {row++[(bar+m%5,nx.1)],_,rfl,bC nR (s6.trans s7),aF,?_,by rw[zg];simp;ext,?_,λh hh=>?_}
    ·rw[zj]
     exact cS (Is.upd nt (cB h7 (aR cG (aR eG cF)))) (aD.upd nt (il6.mono s7))
    ·rw[zj,zT]
     refine{asc,by simp,λx hx y hy=>?_};let⟨h',hh',rfl⟩:=zG.mp hx;let ey:y=bar+m%5:=by simpa using hy
     have:=(rin h' hh').2.2.2;ext
    ·rcases zF.mp hh with z | z
     ·have:=rin h z
      exact{(this.1),this.2.1,this.2.2.1,()}
     ·rw[zy.mp z]
      exact{by show 0<=bar+m%5;ext,c1,zO (f:=λx:Str×(Int×Int)×(Int×Int)=>x.1) (zB hnx),by show bar+m%5<bar+m%5+1;ext}
   ·left
    refine hN _ _ {row,ws,rfl,s6,h6,il6,(),asc,λh hh=>?_};have:=rin h hh;exact{(this.1),this.2.1,this.2.2.1,()}
   rintro σ7 H7 ⟨row,ws,rfl,s7,h7,il7,rl7,asc7,rin7⟩;change{row,ws,bar+m%5+1,_,_,rfl,s7,h7,il7,(),rl7,asc7,rin7}
  ·rintro U H6 ⟨row,ws,bar,v9,va,rfl,s6,h6,il6,b0,rl,asc,rin⟩
   let s06:=(s3.trans s34).trans s6;let h36:=s6 _ _ (s34 _ _ h3);let rl6:RL (jy D H6) hs us:=rl3.imp λx v z=>(z.mono s34).mono s6;let ne:R≠D:=λz=>by rw[z,s34 _ _ h3] at nR;cases nR
   let ib:i<⇑ps:=(zw.mp qr).1;let tk:ps.take (i+1)=ps.take i++[pn]:=cC qr;exists by show 0<=sizeLine;ext,?_
   intros p7 H7 s7 h7;refine{R,p7,ws,[],rfl,rfl,.inl {aI.of (s7 _ _ h6),aI.of h7},.inr (.inl rfl),?_};let wr:=aQ il6;let s07:=s06.trans s7
   by_cases e:ws=[]
   ·rw[ze e]
    left;refine{hs,us,Lo.of rfl rfl,s07,s7 _ _ h36,rl6.imp λx v z=>z.mono s7,?_,uF,()};rw[tk];exact sub.trans (List.sublist_append_left _ _)
   ·rw[zd e]
    let rne:row≠[]:=λz=>e (by rw[z] at wr;exact yr.mp wr);exists .inl {rfl,_,aI.of (s7 _ _ h36)},?_;exists cT,?_;intros p8 H8 s8 h8;let s78:=s7.trans s8;let h38:=s78 _ _ h36;refine{D,us,_,rfl,rfl,h38,by have:=rl3.len;ext,?_};left;refine{hs++[(pn,row)],_,Lo.of rfl rfl,bC nD (s06.trans s78),aF,?_,?_,λx hx=>?_,by rw[zg];simp;ext}
    ·refine RL.snoc ?_ (rl6.imp λx v z=>(z.mono s78).upd h38)
     exact jy.upd h38 {p8,R,ws,rfl,h8,s78 _ _ h6,il6.mono s78,ne}
    ·rw[zj,tk]
     exact sub.append (List.Sublist.refl _)
    ·rcases zF.mp hx with z | z
     ·exact uF x z
     ·rw[zy.mp z]
      exact{rne,rl,asc,λh hh=>{(rin h hh).1,(rin h hh).2.1,(rin h hh).2.2.1}}
 ·rintro U H3 ⟨hs,us,⟨e,rfl⟩,s3,h3,rl3,sub,uF,hl⟩
  rw[za,zM] at sub;change kk hs D us H3 sub uF s3 h3 rl3
def FR (S:cg) (ns:List ((Int×Str)×List Item)):Prop:=(ns.map (·.1)).Nodup/\∀x∈ns,0<=x.1.1/\x.1.1<⇑S.aO/\x.1.2∈S.players/\FT x.2 (S.len x.1.1.toNat)
inductive rW (vs:List V) (H:Hp) (Q:VK) (E:XK):Prop
 | mk (c:Int) (pp bl:vy) (S:cg) (bv:List V) (ub:V) (_:vs=[.int c,.ref pp,.ref bl,ub]) (_:H pp=some (.lst (S.players.map V.str))) (_:H bl=some (.lst bv)) (_:aD H (S.aO.map jz) bv) (_:Is H (dO dL S.aH) ub) (_:⇑S.players<=9) (_:S.players.Nodup) (_:⇑S.aO<=200) (_:(∀x∈S.aO,Ko x)) (_:(∀b:Nat,b<⇑S.aO->MB (S.len b))) (_:∀(ns:List ((Int×Str)×List Item)) D us H',FR S ns->⇑ns<=9*⇑S.aO->aB H H'->H' D=some (.lst us)->RL (hX D H') ns us->Q (.ref D) H')
def sI:cZ P w base 3 T.kc rW:=by
 nomatch T.kc,["_law_cell","_law_players","_law_bars","_law_upbeat","_law_notes","_law_bar","_law_k","_law_player","_law_m","_law_often","_law_run"]
 let⟨c,pp,bl,S,bv,ub,rfl,hpp,hbl,ilb,iub,pl,pnd,bl2,bok,lok,kk⟩:=h;let sl:=yB;let bvl:=aQ ilb;refine{_,(ah (bR 4 qN (bq ag))
  (ah (bZ yO rfl (dg (by rfl) T.dm (aa (d6 aE T.bE (aa (pv 2) ag)) ag)) (gR 5 qN)
  (ao (bZ yO rfl (vK (by rfl) T.jK (aa (pv 1) ag)) (dy (n:=2) rfl (aM (gR 6 qN) (aM (gR 7 qN) cJ)))
   (ah (bR 8 qN (bN (bP T) hr T.cm (aa (pv 0) (aa (aA aW (aA aW (aA dM af (pv 6)) (pv 5)) af) ag))))
    (ah (bR 9 qN (aA aS (bN (bP T) hr T.cm (aa (pv 0) (aa (aA aW (pv 6) af) ag))) af))
    (ah (bR 10 qN (aA aS (bN (bP T) hr T.cm (aa (pv 0) (aa (aA aW (aA aW (aA dM af (pv 6)) (aA aV (pv 5) af)) af) ag))) af))
    (ao (aJ (PW.pt (dq (ptr ic (aA aS (pv 8) af) (pv 9)) (cV (ptr eW (pv 10) af))))
    (ao (bJ (bU yC yE yD bF (pv 4) (aa (bI (aa (pv 5) (aa (pv 7) (aa (bN (sJ T) hr T.ke (aa (aA aV (pv 8) af) (aa (bN (fP T) hr T.eM (aa (pv 2) (aa (pv 3) (aa (pv 5) ag)))) ag))) ag)))) ag))))
    aC))))))))
  (ao (au (pv 4))))),?_}
 ac_rfl;left
 intros D nD s2 h2 H2
 exists bl,bv,rfl,.inl (aI.of (s2 _ _ hbl)),?_;rw[bvl];exists by ext,(),?_
 rw[show((⇑S.aO:Int)).toNat=⇑S.aO from by ext];refine gn (λi U H'=>∃(ns:List ((Int×Str)×List Item)) (us:List V),Lo [some (.int c),some (.ref pp),some (.ref bl),some ub,some (.ref D)] 6 U/\aB H H'/\H' D=some (.lst us)/\RL (hX D H') ns us/\FR S ns/\(∀x∈ns,x.1.1<i)/\⇑ns<=9*i)
  {[],[],Lo.of rfl rfl,s2,h2,rfl,{by simp,by simp},by simp,by simp} ?_ ?_
 ·intro i U H3 hi hh
  refine dG λN kN0 kR0 _ _=>?_;let⟨ns,us,⟨e,rfl⟩,s3,h3,rl3,nok,nlt,nl⟩:=hh;exists pp,_,rfl,aI.of (s3 _ _ hpp),?_;refine q9 (K:=K) (a:=pp) (xs:=S.players.map V.str) (λj U H'=>∃(ns:List ((Int×Str)×List Item)) (us:List V),Lo [some (.int c),some (.ref pp),some (.ref bl),some ub,some (.ref D),some (.int (0+(i:Int)))] 5 U/\aB H H'/\H' D=some (.lst us)/\RL (hX D H') ns us/\FR S ns/\(∀x∈ns,x.1.1<i\/(x.1.1=i/\x.1.2∈S.players.take j))/\⇑ns<=9*i+j)
   {ns,us,Lo.of rfl rfl,s3,h3,rl3,nok,λx hx=>.inl (nlt x hx),()} (λi U H' _ h=>by let⟨_,_,_,z,_⟩:=h;exact aI.of (z _ _ hpp)) ?_ ?_
  ·intro j x U H4 p H5 hx hh s45 hp5
   refine dG λN kN1 kR1 _ _=>?_;let⟨ns,us,⟨e,rfl⟩,s4,h4,rl4,nok,nlt,nl⟩:=hh;rw[zJ] at hx;cases qr:S.players[j]? with
   | none=>rw[qr] at hx;cases hx
   | some pn=>
   rw[qr] at hx;simp only[xj,xK] at hx;subst hx;let jb:j<⇑S.players:=(zw.mp qr).1;let s05:=s4.trans s45;let h45:=s45 _ _ h4;let rl5:RL (hX D H5) ns us:=rl4.imp λx v z=>z.mono s45;let tk:S.players.take (j+1)=S.players.take j++[pn]:=cC qr;refine{p,_,rfl,cu.of hp5,rfl,?_};refine{_,_,rfl,{_,_,rfl,{rfl,?_}}};exists c,_,rfl,(),(),?_;let m0:0<=mixed c (97*(j:Int)+(0+(i:Int))+100):=zv _ ∅;let m1:mixed c (97*(j:Int)+(0+(i:Int))+100)<2147483399:=zr _ ∅;generalize mixed c (97*(j:Int)+(0+(i:Int))+100)=m at m0 m1;exists c,_,rfl,(),(),?_;left;refine{c,_,rfl,?_,?_,?_}
   ·have:=zV (a:=0+(i:Int)) (b:=4) () ∅;ext
   ·have:=zW (a:=0+(i:Int)) 4 ();ext
   generalize mixed c (31*(j:Int)+(0+(i:Int))/4+400)=m3;generalize mixed c ((j:Int)+90)=m2;left;refine dX (decide (m%6<=m2%5)&&decide (0<m3%3)) ?_ ?_ ?_
   ·intro c1 Z hz
    rw[c1,yU] at hz;change hz
   ·intro c1;rw[c1,yS]
   cases qv:(decide (m%6<=m2%5)&&decide (0<m3%3)) with
   | true=>
    exists .inl {rfl,_,aI.of h45},?_;exists bl,bv,S,ub,i,(by simp),s05 _ _ hbl,ilb.mono s05,iub.mono s05,hi,bok,λp6 H6 s6 h6=>?_;refine{_,_,p6,rfl,h6,zV m0 ∅,?_,lok i hi,λits p7 ws H7 iok s7 n7 h7 il7=>?_}
    ·have:=zW (a:=m) 6 m0;ext
    let s57:=s6.trans s7;let ne:p7≠D:=λz=>by rw[z,s6 _ _ h45] at n7;cases n7
    exists mR,?_;intros p8 H8 s8 h8;let s58:=s57.trans s8;let h48:=s58 _ _ h45;refine{D,us,_,rfl,rfl,h48,by have:=rl4.len;ext,?_};left;let fr:((0+(i:Int),pn):Int×Str)∉ns.map (·.1):=λz=>by
     let⟨y,hy,ey⟩:=zG.mp z;rcases nlt y hy with q | ⟨_,q2⟩
     ·rw[ey] at q;dsimp only at q;ext
     ·rw[ey] at q2
      dsimp only at q2;let nd:=List.Nodup.sublist (List.take_sublist (j+1) S.players) pnd;rw[tk,zR] at nd;exact nd.2.2 pn q2 pn (zy.mpr rfl) rfl
    refine{ns++[((0+(i:Int),pn),its)],_,Lo.of rfl rfl,bC nD (s05.trans s58),aF,?_,{?_,λx hx=>?_},λx hx=>?_,by rw[zg];simp;ext}
    ·refine RL.snoc ?_ (rl5.imp λx v z=>(z.mono s58).upd h48)
     exact hX.upd h48 {p8,p7,ws,rfl,h8,s8 _ _ h7,il7.mono s8,ne}
    ·rw[zj,zR]
     exact{nok.1,by simp,λx hx y hy e=>by
      have:y=(0+(i:Int),pn):=by simpa using hy
      rw[<-e] at this;exact fr (this▸hx)}
    ·rcases zF.mp hx with z | z
     ·exact nok.2 x z
     ·rw[zy.mp z]
      refine{by show 0<=0+(i:Int);ext,by show 0+(i:Int)<⇑S.aO;ext,zB qr,?_};show FT its (S.len (0+(i:Int)).toNat);rw[show(0+(i:Int)).toNat=i from by ext];exact iok
    ·rcases zF.mp hx with z | z
     ·rcases nlt x z with q | ⟨q1,q2⟩
      ·exact .inl q
      ·exact .inr {q1,by rw[tk];exact zI _ q2}
     ·rw[zy.mp z]
      exact .inr {by show 0+(i:Int)=i;ext,by rw[tk];exact zH _ (zy.mpr rfl)}
   | false=>
    left;refine{ns,us,Lo.of rfl rfl,s05,h45,rl5,nok,λx hx=>?_,()};rcases nlt x hx with z | ⟨z1,z2⟩
    ·exact .inl z
    ·exact .inr {z1,by rw[tk];exact zI _ z2}
  ·rintro U H4 ⟨ns,us,⟨e,rfl⟩,s4,h4,rl4,nok,nlt,nl⟩
   rw[za] at nlt nl;left;refine{ns,us,Lo.of rfl rfl,s4,h4,rl4,nok,λx hx=>?_,()};rcases nlt x hx with z | ⟨z1,z2⟩
   ·ext
   ·ext
 ·rintro U H3 ⟨ns,us,⟨e,rfl⟩,s3,h3,rl3,nok,nlt,nl⟩
  change kk ns D us H3 nok () s3 h3 rl3
def T3 (ins:List (Str×(Int×Int)×(Int×Int))):Prop:=⇑ins<=3/\BV (ins.map (·.1))/\∀x∈ins,OX x.2.1/\-12<=x.2.1.1/\x.2.1.1<=12/\Lm.Rd x.2.2/\x.2.2.1<10000/\x.2.2.2<10000
def IU (n:Int):OX (n%25-12,7*(n%25-12)%12+12*(n/25%5-2))/\-12<=n%25-12/\n%25-12<=12:=by
 let a:=zv n (b:=25) ∅;let b:=zr n (b:=25) ∅;let c:=zv (n/25) (b:=5) ∅;let d:=zr (n/25) (b:=5) ∅;unfold OX;dsimp only;ext
def kL:Sp:=λvs H Q _=>∃(c:Int),vs=[.int c]/\∀(ins:List (Str×(Int×Int)×(Int×Int))) D us H',T3 ins->aB H H'->H' D=some (.lst us)->aD H' (ins.map dZ) us->Q (.ref D) H'
def lq:cZ P w base 2 T.eZ kL:=by
 nomatch T.eZ,["_law_cell","_law_m","_law_instruments","_law_k","_law_name","_law_n","_law_df","_law_turn"]
 let⟨c,rfl,kk⟩:=h;let sl:=yB;refine{_,(ah (bR 1 qN (bN (bP T) hr T.cm (aa (pv 0) (aa af ag))))
  (ah (bR 2 qN (bq ag))
  (ah (bZ yO rfl (vK (by rfl) T.jK (aa (bN (eQ T) hr T.dY (aa (aA aV (pv 1) af) (aa (aA aS (pv 1) af) ag))) ag)) (dy (n:=2) rfl (aM (gR 3 qN) (aM (gR 4 qN) cJ)))
  (ah (bR 5 qN (bN (bP T) hr T.cm (aa (pv 0) (aa (aA aW (pv 3) af) ag))))
   (ah (bR 6 qN (aA fM (aA aS (pv 5) af) af))
   (ah (bR 7 qN (bI (aa (pv 6) (aa (aA aW (aA aS (aA dM af (pv 6)) af) (aA dM af (aA fM (aA aS (aA aV (pv 5) af) af) af))) ag))))
   (ao (bJ (bU yC yE yD bF (pv 2) (aa (bI (aa (pv 4) (aa (pv 7) (aa (bN (fO T) hr T.fE (aa (aA aS (aA aV (pv 5) af) af) (aa (fc (bq (aa af (aa af (aa af (aa af (aa af ag)))))) (aA aS (aA aV (pv 5) af) af)) ag))) ag)))) ag))))))))
  (ao (au (pv 2)))))),?_}
 ac_rfl;exists c,8,rfl,(),(),?_;let m0:0<=mixed c 8:=zv _ ∅;let m1:mixed c 8<2147483399:=zr _ ∅;generalize mixed c 8=m at m0 m1;let a0:0<=m%4:=zv _ ∅;let a1:m%4<4:=zr _ ∅;left
 intros D nD s2 h2 H2
 left;refine{_,_,rfl,zV m0 ∅,?_,a0,(),λnms pn H3 nl nok s3 h3=>?_}
 ·have:=zW (a:=m) 4 m0;ext
 exists pn,_,rfl,aI.of h3,?_;let nl3:⇑nms<=3:=()
 refine q9 (K:=K) (a:=pn) (xs:=nms.map V.str) (λi U H'=>∃(ins:List (Str×(Int×Int)×(Int×Int))) (us:List V),Lo [some (.int c),some (.int m),some (.ref D)] 5 U/\aB H H'/\H' pn=some (.lst (nms.map V.str))/\H' D=some (.lst us)/\aD H' (ins.map dZ) us/\ins.map (·.1)=nms.take i/\
  ∀x∈ins,OX x.2.1/\-12<=x.2.1.1/\x.2.1.1<=12/\Lm.Rd x.2.2/\x.2.2.1<10000/\x.2.2.2<10000)
  {[],[],Lo.of rfl rfl,s2.trans s3,h3,s3 _ _ h2,cF,rfl,by simp} (λi U H' _ h=>by let⟨_,_,_,_,z,_⟩:=h;exact aI.of z) ?_ ?_
 ·intro i x U H4 p H5 hx hh s45 hp5
  refine dG λN kN0 kR0 _ _=>?_;let⟨ins,us,⟨e,rfl⟩,s4,hpn4,h4,il4,ek,iok⟩:=hh;rw[zJ] at hx;cases qr:nms[i]? with
  | none=>rw[qr] at hx;cases hx
  | some nm=>
  rw[qr] at hx;simp only[xj,xK] at hx;subst hx;let ib:i<⇑nms:=(zw.mp qr).1;let h45:=s45 _ _ h4;let tk:nms.take (i+1)=nms.take i++[nm]:=cC qr;let nepn:pn≠D:=λz=>by
   let q:=h3;rw[z,s3 _ _ h2] at q;let e:([]:List V)=nms.map V.str:=HO.lst.inj (yj q);have:⇑nms=0:=by rw[<-za (f:=V.str),<-e];rfl
   ext
  refine{p,_,rfl,cu.of hp5,rfl,?_};refine{_,_,rfl,{_,_,rfl,{rfl,?_}}};exists c,_,rfl,(),(),?_;let n0:0<=mixed c ((i:Int)+530):=zv _ ∅;let n1:mixed c ((i:Int)+530)<2147483399:=zr _ ∅;generalize mixed c ((i:Int)+530)=n at n0 n1;exists cT,?_;intros p6 H6 s6 h6;let h46:=s6 _ _ h45;exists .inl {rfl,_,aI.of h46},?_;exists by show 5<=sizeLine;ext,?_
  intros p7 H7 s7 h7;let g0:0<=n/1125%5:=zv _ ∅;let g1:n/1125%5<5:=zr _ ∅;let t0:0<=n/125%9:=zv _ ∅;let t1:n/125%9<9:=zr _ ∅;obtain⟨jj,hjj⟩:∃j:Nat,n/1125%5=(j:Int):={(n/1125%5).toNat,()}
  obtain⟨z,hz,z0,z1⟩:∃z:Int,[V.int 1,V.int 2,V.int 4,V.int 8,V.int 3][jj]?=some (.int z)/\0<z/\z<=8:=by
   have:jj<5:=()
   match jj,this with
   | 0,_=>exact{1,rfl,∅,∅}
   | 1,_=>exact{2,rfl,∅,∅}
   | 2,_=>exact{4,rfl,∅,∅}
   | 3,_=>exact{8,rfl,∅,∅}
   | 4,_=>exact{3,rfl,∅,∅}
  exists p7,_,n/1125%5,.int z,rfl,rfl,aI.of h7,(by rw[hjj];exact bj hz),?_;exists _,_,rfl,t0,z0,(di (n:=10) () ()).mono ∅,λp8 H8 s8 h8=>?_;exists mR,?_;intros p9 H9 s9 h9;let s59:=((s6.trans s7).trans s8).trans s9;let h49:=s59 _ _ h45;refine{D,us,_,rfl,rfl,h49,?_,?_}
  ·let e1:=aQ il4
   let e2:⇑ins=⇑(nms.take i):=by rw[<-ek,za]
   rw[zP] at e2;ext
  left;let nt:cP (H9 D):=by rw[h49];exact λ_ z=>by cases z
  let rb:=kQ (t:=n/125%9) z0;let rle:=AI (t:=n/125%9) (b:=z) t0;let⟨td1,td2,td3⟩:=IU n;let ix:Is H9 (dZ (nm,(n%25-12,7*(n%25-12)%12+12*(n/25%5-2)),red (n/125%9) z)) (.ref p9):=cB h9 (aR eG (aR (iE (((s7.trans s8).trans s9) _ _ h6)) (aR (iE (s9 _ _ h8)) cF)));refine{ins++[(nm,(n%25-12,7*(n%25-12)%12+12*(n/25%5-2)),red (n/125%9) z)],_,Lo.of rfl rfl,bC nD ((s4.trans s45).trans s59),by rw[aG nepn];exact s59 _ _ (s45 _ _ hpn4),aF,?_,?_,λx hx=>?_}
  ·rw[zj]
   exact cS (Is.upd nt ix) (aD.upd nt ((il4.mono s45).mono s59))
  ·rw[zj,ek,tk];rfl
  ·rcases zF.mp hx with y | y
   ·exact iok x y
   ·rw[zy.mp y]
    let⟨_,_,_,_,_,r5⟩:=rb;exact{td1,td2,td3,Lm.Rd.of t0 z0,by show(red (n/125%9) z).1<10000;ext,by show(red (n/125%9) z).2<10000;ext}
 ·rintro U H4 ⟨ins,us,⟨e,rfl⟩,s4,hpn4,h4,il4,ek,iok⟩
  rw[za,zM] at ek;change kk ins D us H4 {by rw[<-za (f:=λx:Str×(Int×Int)×(Int×Int)=>x.1),ek];exact nl3,by rw[ek];exact nok,iok} s4 h4 il4
inductive oa (vs:List V) (H:Hp) (Q:VK) (E:XK):Prop
 | mk (q:vy) (x:Int×Int) (_:vs=[.ref q]) (_:H q=some (jx x)) (_:0<=x.1) (_:x.1<10000) (_:0<x.2) (_:x.2<10000) (_:Q (.str (iD x)) H)
def dE:cZ P w base 1 T.dh oa:=by
 nomatch T.dh,["_law_length"]
 let⟨q,x,rfl,hq,x1,x2,x3,x4,kk⟩:=h;let sl:=yB;let a:=bz (n:=x.1) () x2;let b:=bz (n:=x.2) () x4;let na:=bO (n:=x.1) () x2;let nb:=bO (n:=x.2) () x4;let l1:("/": Str).length=1:=rfl;refine{_,(ah (aJ (ptr de (bB (pv 0) af) af)
  (ao (au (mD aX T.fh (aa (bB (pv 0) af) ag))))
  aC)
  (ao (au (aA bS (aA bS (mD aX T.fh (aa (bB (pv 0) af) ag)) aN) (mD aX T.fh (aa (bB (pv 0) af) ag)))))),?_}
 ac_rfl;left
 by_cases c:x.2=1
 ·refine b7 (by rw[c];rfl) ?_
  exists na,?_;left;unfold iD at kk;rw[yN c] at kk;exact kk
 ·refine cq (zd λz=>c (V.int.inj z)) ?_
  unfold iD at kk;rw[yM c] at kk;exists na,?_;exists by show(dec x.1).length+_<=_;ext,?_
  exists nb,?_;exists by show(dec x.1 ++"/").length+⇑(dec x.2)<=_;rw[len_app];ext,?_
  exact kk
inductive jB (vs:List V) (H:Hp) (Q:VK) (E:XK):Prop
 | mk (v:V) (it:Item) (_:vs=[v]) (_:Is H (eJ it) v) (_:MC it) (_:Q (.str (pA it)) H)
def N6 {H:Hp} {it:Item} {v:V} (h:Is H (eJ it) v):∃a q b,v=.ref a/\H a=some (.tup [q,.ref b])/\Is H (dO dL it.1) q/\H b=some (jx it.2):=by
 unfold eJ Is at h;let⟨a,vs,rfl,ha,hl⟩:=h;unfold aD at hl;let⟨v1,r1,rfl,h1,hl⟩:=hl;unfold aD at hl;let⟨v2,r2,rfl,h2,hl⟩:=hl;unfold aD at hl;subst hl;cases eD (o:=some it.2) h2 with
 | ref hb=>exact{a,v1,_,rfl,ha,h1,hb}
def qP:cZ P w base 2 T.jt jB:=by
 nomatch T.jt,["_law_item"]
 let⟨v,⟨o,x⟩,rfl,iv,iok,kk⟩:=h;let sl:=yB;let⟨a,q,b,rfl,ha,iq,hb⟩:=N6 iv;let⟨⟨hr',h1,h2,h3⟩,hq⟩:=id iok;let⟨_,p2,_⟩:=hr'.pos;let lx:=km (x:=x) (by have:=h1;dsimp only at this;ext) h2 (by have:=p2;dsimp only at this;ext) h3;dsimp only at h1 h2 h3 p2 hq hb iq;refine{_,(ah (aJ (bG (cz (bB (pv 0) af)))
  (ao (au (aA bS aN (bN (dE T) hr T.dh (aa (bB (pv 0) af) ag)))))
  aC)
  (ao (au (aA bS (aA bS (aA bS (aA bS (mD aX T.fh (aa (bB (bB (pv 0) af) af) ag)) aN) (mD aX T.fh (aa (bB (bB (pv 0) af) af) ag))) aN) (bN (dE T) hr T.dh (aa (bB (pv 0) af) ag)))))),?_}
 ac_rfl;left;cases o with
 | none=>
  unfold dO Is at iq;subst iq;exists b,x,rfl,hb,(),h2,p2,h3,?_;let l2:("r:": Str).length=2:=rfl;refine{_,_,rfl,rfl,(),?_};exact kk
 | some pq=>
  let⟨q1,q2,q3,q4,_⟩:=hq pq rfl;let la:=bz (n:=pq.1) () ();let lb:=bz (n:=pq.2) () ();let na:=bO (n:=pq.1) () ();let nb:=bO (n:=pq.2) () ();cases eD (o:=some pq) iq with
  | ref hpq=>
   let l1:(":": Str).length=1:=rfl;exists na,?_;exists by show(dec pq.1).length+_<=_;ext,?_
   exists nb,?_;exists by show(dec pq.1 ++":").length+⇑(dec pq.2)<=_;rw[len_app];ext,?_
   exists by show(dec pq.1 ++":" ++ dec pq.2).length+_<=_;rw[len_app,len_app];ext,?_
   exists b,x,rfl,hb,(),h2,p2,h3,?_;refine{_,_,rfl,rfl,by show(dec pq.1 ++":" ++ dec pq.2 ++":").length+_<=_;rw[len_app,len_app,len_app];ext,?_};exact kk
inductive ia (vs:List V) (H:Hp) (Q:VK) (E:XK):Prop
 | mk (v:V) (r:Rep) (_:vs=[v]) (_:Is H (ji r) v) (_:Mz r) (_:∀H',aB H H'->Q (.str (rowOf (.rep r))) H')
noncomputable def w4 (r:Rep):List Str:=["repeat",dec r.first,dec r.last,dec r.times]
def oj:cZ P w base 1 T.gz ia:=by
 nomatch T.gz,["_law_repeat","_law_words","_law_begin","_law_passes"]
 let⟨v,r,rfl,iv,⟨⟨f1,f2,f3,f4,f5⟩,el,pl⟩,kk⟩:=h;let sl:=yB;let⟨a,ep,rfl,ha,ie⟩:=eX iv;obtain⟨ep',evs,e0,hep,ile⟩:∃ep' evs,V.ref ep=.ref ep'/\H ep'=some (.tup evs)/\aD H (r.ends.map mz) evs:=by unfold Is at ie;exact ie
 cases e0;let evl:=aQ ile;let n1:=bO (n:=r.first) (by have:=f1.1;ext) (by have:=f1.2;ext);let n2:=bO (n:=r.last) (by have:=f2.1;ext) (by have:=f2.2;ext);let n3:=bO (n:=r.times) () ();refine{_,(ah (bR 1 qN (bq (aa aN (aa (mD aX T.fh (aa (bB (pv 0) af) ag)) (aa (mD aX T.fh (aa (bB (pv 0) af) ag)) (aa (mD aX T.fh (aa (bB (pv 0) af) ag)) ag))))))
  (ah (bZ yO rfl (gX (bB (pv 0) af)) (dy (n:=2) rfl (aM (gR 2 qN) (aM (gR 3 qN) cJ)))
  (ao (bJ (bU yC yE yD bF (pv 1) (aa (aA bS (aA bS (mD aX T.fh (aa (pv 2) ag)) aN) (bU yF yH yG gE aN (aa (mE (ts:=["_law_one"]) (ys:=[]) (js:=[]) (te:=(Lp Tg (bM (aY 0) dR))) (gX (pv 3)) (gg 0) bg (mD aX T.fh (aa (pv 0) ag))) ag))) ag)))))
  (ao (au (bU yF yH yG gE aN (aa (pv 1) ag)))))),?_}
 ac_rfl;exists n1,?_;exists n2,?_;exists n3,?_;exists by show 4<=sizeLine;ext,?_
 intro W nW;generalize hU:upd H W _=H2;let s2:aB H H2:=by rw[<-hU];exact bx nW
 let h2:H2 W=some (.lst ((w4 r).map V.str)):=by rw[<-hU];exact aF
 clear hU;let ha2:=s2 _ _ ha;exists{_,cu.of (s2 _ _ hep)},?_;refine E7 (K:=K) (a:=ep) (xs:=evs) (λi U H'=>∃(v2 v3:Option V),U=[some (.ref a),some (.ref W),v2,v3]/\aB H H'/\H' W=some (.lst ((w4 r++(r.ends.take i).map oo).map V.str))) {none,none,rfl,s2,by rw[wF,ym,zU];exact h2} (λi U H' _ h=>by let⟨_,_,_,z,_⟩:=h;exact cu.of (z _ _ hep)) ?_ ?_
 ·intro i x U H3 hx hh
  refine dG λN kN0 kR0 _ _=>?_;let⟨v2,v3,rfl,s3,h3⟩:=hh;let⟨e,he,ie⟩:=cA ile hx;let⟨b,q,rfl,hb,hq⟩:=m8 ie;let eo:=f5 e (zB he);let pe:=pl e (zB he);let hb3:=s3 _ _ hb;let tk:r.ends.take (i+1)=r.ends.take i++[e]:=cC he;let ib:i<⇑r.ends:=(zw.mp he).1;let nb:=bO (n:=e.1) (by have:=eo.1;ext) (by have:=eo.2.1;ext);let lb:=bz (n:=e.1) (by have:=eo.1;ext) (by have:=eo.2.1;ext);refine{b,_,rfl,cu.of hb3,rfl,?_};refine{_,_,rfl,{_,_,rfl,{rfl,?_}}};exists .inl {rfl,_,aI.of h3},?_;exists nb,?_;exists by show(dec e.1).length+(":": Str).length<=_;have:(":": Str).length=1:=rfl;ext,?_
  exists{_,cu.of (s3 _ _ hq)},?_;refine fu (enc:=V.int) (ws:=e.2) (λz=>.str (dec z)) (λU=>∃v,U=[v]) () (s3 _ _ hq) {(none),rfl} ?_ ?_
  ·rintro z U H4 R hz s4 ⟨_,rfl⟩ rr
   have:=eo.2.2.2 z hz;exists bO () (),?_;exact rr _ _ _ (aB.refl _) eG {_,rfl}
  ·intro D vs H4 s4 hD il
   let e1:e.2.map (λz=>Dt.str (dec z))=(e.2.map dec).map Dt.str:=by rw[zA];rfl
   rw[e1] at il;rw[dw il] at hD;let l5:∀z∈e.2.map dec,⇑z<=5:=λz hz=>by
    let⟨p,hp,rfl⟩:=zG.mp hz;have:=eo.2.2.2 p hp;exact bz () ()
   let l9:⇑(e.2.map dec)<=9:=by rw[za];exact pe
   let sb:=oH (sep:=",") l5;let jb:=A5 (sep:=",") l5;let mb:⇑(e.2.map dec)*(5+(",": Str).length)<=9*(5+1):=wD l9 (zk _);refine{",",D,_,rfl,rfl,aI.of hD,zL sb (zL mb ()),?_};refine{_,_,rfl,rfl,?_,?_}
   ·show(dec e.1 ++":").length+(Str.join "," (e.2.map dec)).length<=sizeLine
    rw[len_app];have:(":": Str).length=1:=rfl;ext
   let h34:=s4 _ _ h3;let s04:=s3.trans s4;left;refine{W,_,_,rfl,rfl,h34,?_,?_}
   ·rw[za,zg,za,zP]
    show 4+_<_;ext
   exists _,_,rfl,bC nW s04,?_;let ew:(w4 r++(r.ends.take (i+1)).map oo).map V.str=(w4 r++(r.ends.take i).map oo).map V.str++[V.str (oo e)]:=by
    rw[tk,zj (f:=oo),<-zE,zj (f:=V.str)];rfl
   rw[aF,ew];rfl
 ·rintro U H3 ⟨v2,v3,rfl,s3,h3⟩
  rw[evl,zM] at h3;left;let ll:∀z∈w4 r++r.ends.map oo,⇑z<=60:=λz hz=>by
   rcases zF.mp hz with y | y
   ·unfold w4 at y
    simp only[zC,zD,yT] at y;rcases y with rfl | rfl | rfl | rfl
    ·decide
    ·have:=bz (n:=r.first) (by have:=f1.1;ext) (by have:=f1.2;ext);ext
    ·have:=bz (n:=r.last) (by have:=f2.1;ext) (by have:=f2.2;ext);ext
    ·have:=bz (n:=r.times) () ();ext
   ·let⟨e,he,rfl⟩:=zG.mp y
    exact HI (f5 e he) (pl e he)
  let sb:=oH (sep:=" ") ll;refine{" ",W,_,rfl,rfl,aI.of h3,?_,?_}
  ·let l4:⇑(w4 r++r.ends.map oo)<=13:=by rw[zg,za];show 4+_<=13;ext
   exact zL sb (zL (wD l4 (zk _)) (by show 13*(60+1)<=sizeLine;ext))
  exact kk _ s3
def Vc {c:Bool} {T1 T2:VK->Prop} {Z:VK} {H:Hp} (v:V) (h1:c=true->∀Z:VK,Z v H->T1 Z) (h2:c=false->∀Z:VK,Z v H->T2 Z) (hz:Z v H):if c=true then T1 Z else T2 Z:=by
 cases c with
 | true=>rw[yN rfl];exact h1 rfl Z hz
 | false=>rw[yM (by simp)];exact h2 rfl Z hz
def TY (j:Jump):Prop:=QV (.bu j)
noncomputable def A9 (S:cg):List Told:=S.repeats.map .rep++S.bu.toList.map .bu
inductive pY (vs:List V) (H:Hp) (Q:VK) (E:XK):Prop
 | mk (p:vy) (S:cg) (_:vs=[.ref p]) (_:kD H p S) (_:(∀r∈S.repeats,Mz r)) (_:⇑S.repeats<=1000) (_:(∀j,S.bu=some j->TY j)) (_:∀D H',aB H H'->H D=none->H' D=some (.lst (((A9 S).map rowOf).map V.str))->Q (.ref D) H')
def Oc {H:Hp} {j:Jump} {v:V} (h:Is H (jk j) v):∃a c,v=.ref a/\H a=some (.tup [.int j.rM,.int j.tU,.int j.cN,c])/\Is H (dO .int j.eK) c:=by
 unfold jk Is at h;let⟨a,vs,rfl,ha,hl⟩:=h;unfold aD at hl;let⟨v1,r1,rfl,h1,hl⟩:=hl;unfold aD at hl;let⟨v2,r2,rfl,h2,hl⟩:=hl;unfold aD at hl;let⟨v3,r3,rfl,h3,hl⟩:=hl;unfold aD at hl;let⟨v4,r4,rfl,h4,hl⟩:=hl;unfold aD at hl;subst hl;unfold Is at h1 h2 h3;subst h1 h2 h3;exact{(a),v4,rfl,ha,h4}
theorem gP {H:Hp} {α:Type} {d:α->Dt}:∀{xs:List α} {vs:List V},aD H (xs.map d) vs->∃ps:List (α×V),ps.map (·.1)=xs/\ps.map (·.2)=vs/\∀z∈ps,Is H (d z.1) z.2
 | [],_,h=>{[],rfl,by unfold aD at h;rw[h];rfl,by simp}
 | x::xs,_,h=>by
  rw[zh] at h;unfold aD at h;let⟨v,r,rfl,h1,h2⟩:=h;let⟨ps,e1,e2,e3⟩:=gP h2;refine{(x,v)::ps,by rw[zh,e1],by rw[zh,e2],λz hz=>?_};rcases zC.mp hz with rfl | hz
  ·exact h1
  ·exact e3 z hz
def qQ:cZ P w base 2 T.jw pY:=by
 nomatch T.jw,["_law_s","_law_rows","_law_coda"]
 let⟨p,S,rfl,la,uF,rl3,jok,kk⟩:=h;let sl:=yB;let⟨pl,il,sl',bl,hl,nl,rl,ub,jm,iv,sv,bv,hv,nv,rv,h1,h2,h3,h4,h5,h6,h7,h8,⟨h9,ilr⟩,hj⟩:=la.at';let⟨ps,e1,e2,e3⟩:=gP ilr;let pln:⇑ps=⇑S.repeats:=by rw[<-e1,za]
 refine{_,(ah (O4 (i:=1) (ts:=["_law_repeat"]) (ys:=[]) (js:=[]) (te:=(fI ia [] E0 (bM (aY 0) dR))) (bc (bB (pv 0) af)) (gg 0) bg (bN (oj T) hr T.gz (aa (pv 0) ag)) qN)
  (ah (aJ (bG (fo (bB (pv 0) af)))
  (ah (bR 2 qN (GQ (bG (cz (bB (bB (pv 0) af) af))) aN (mD aX T.fh (aa (bB (bB (pv 0) af) af) ag))))
   (ao (bJ (bU yC yE yD bF (pv 1) (aa (bU yF yH yG gE aN (aa (bq (aa aN (aa (mD aX T.fh (aa (bB (bB (pv 0) af) af) ag)) (aa (mD aX T.fh (aa (bB (bB (pv 0) af) af) ag)) (aa (mD aX T.fh (aa (bB (bB (pv 0) af) af) ag)) (aa (pv 2) ag)))))) ag)) ag)))))
  aC)
  (ao (au (pv 1))))),?_}
 ac_rfl;exists{_,aI.of h9},?_;refine dz (enc:=λq:Rep×V=>q.2) (ws:=ps) (λq=>.str (rowOf (.rep q.1))) (λU=>∃v,U=[v]) () (by rw[e2];exact aI.of h9) {(none),rfl} ?_ ?_
 ·rintro z U H1 R hz s1 ⟨_,rfl⟩ rr
  let zin:z.1∈S.repeats:=by rw[<-e1];exact zO hz
  change{z.2,z.1,rfl,(e3 z hz).mono s1,uF _ zin,λH2 s2=>rr _ _ _ s2 eG {_,rfl}}
 ·intro D vs H1 s1 nD hD ilD
  let ee:ps.map (λq:Rep×V=>Dt.str (rowOf (.rep q.1)))=((S.repeats.map Told.rep).map rowOf).map Dt.str:=by rw[<-e1,zA,zA,zA];rfl
  rw[ee] at ilD;rw[dw ilD] at hD;let h11:=s1 _ _ h1;left;cases q:S.bu with
  | none=>
   rw[q] at hj;unfold dO Is at hj;subst hj;left;refine kk D H1 s1 nD ?_;unfold A9;rw[q,hD];simp
  | some j=>
   rw[q] at hj;let⟨ja,jc,rfl,hja,ijc⟩:=Oc hj;let⟨j1,j2,j3,j4⟩:=jok j q;let hja1:=s1 _ _ hja;let n1:=bO (n:=j.rM) (by have:=j1.1;ext) (by have:=j1.2;ext);let n2:=bO (n:=j.tU) (by have:=j2.1;ext) (by have:=j2.2;ext);let n3:=bO (n:=j.cN) (by have:=j3.1;ext) (by have:=j3.2;ext);let cl:⇑(ctxt j.eK)<=5:=by
    unfold ctxt;cases qc:j.eK with
    | none=>decide
    | some m=>have:=j4 m qc;exact bz (by have:=this.1;ext) (by have:=this.2;ext)
   left;refine Vc (H:=H1) (.str (ctxt j.eK)) ?_ ?_ ?_
   ·intro c Z hz
    let e:jc=.bA:=yd c;cases qc:j.eK with
    | none=>rw[qc] at hz;change hz
    | some m=>rw[qc] at ijc;unfold dO Is at ijc;rw[ijc] at e;cases e
   ·intro c Z hz
    cases qc:j.eK with
    | none=>rw[qc] at ijc;unfold dO Is at ijc;rw[ijc] at c;simp at c
    | some m=>
     rw[qc] at ijc hz;unfold dO Is at ijc;subst ijc;change{bO (by have:=(j4 m qc).1;ext) (by have:=(j4 m qc).2;ext),hz}
   exists .inl {rfl,_,aI.of hD},?_;exists n1,?_;exists n2,?_;exists n3,?_;exists by show 5<=sizeLine;ext,?_
   intros p5 H5 s5 h5;let ll:∀z∈Sc.wordsOf (.bu j),⇑z<=5:=λz hz=>by
    simp only[Sc.wordsOf,zC,zD,yT] at hz;rcases hz with rfl | rfl | rfl | rfl | rfl
    ·decide
    ·exact bz (by have:=j1.1;ext) (by have:=j1.2;ext)
    ·exact bz (by have:=j2.1;ext) (by have:=j2.2;ext)
    ·exact bz (by have:=j3.1;ext) (by have:=j3.2;ext)
    ·exact cl
   let sb:=oH (sep:=" ") ll;refine{" ",p5,Sc.wordsOf (.bu j),rfl,rfl,aI.of h5,zL sb (by show 5*(5+1)<=sizeLine;ext),?_};exists D,_,_,rfl,rfl,s5 _ _ hD,by rw[za,za,za];ext,?_
   left;refine kk D _ (bC nD (s1.trans s5)) nD ?_;unfold A9;rw[aF,q,zj,zj];rfl
def P7 {H:Hp} {x:Str×(Int×Int)×(Int×Int)} {v:V} (h:Is H (dZ x) v):∃a t l,v=.ref a/\H a=some (.tup [.str x.1,t,l])/\Is H (dL x.2.1) t/\Is H (dL x.2.2) l:=by
 unfold dZ Is at h;let⟨a,vs,rfl,ha,hl⟩:=h;unfold aD at hl;let⟨v1,r1,rfl,h1,hl⟩:=hl;unfold aD at hl;let⟨v2,r2,rfl,h2,hl⟩:=hl;unfold aD at hl;let⟨v3,r3,rfl,h3,hl⟩:=hl;unfold aD at hl;subst hl;unfold Is at h1;subst h1;exact{(a),v2,v3,rfl,ha,h2,h3}
def LQ {H:Hp} {x:Str×List Str} {v:V} (h:Is H (gw x) v):∃a q,v=.ref a/\H a=some (.tup [.str x.1,.ref q])/\H q=some (.tup (x.2.map V.str)):=by
 unfold gw Is at h;let⟨a,vs,rfl,ha,hl⟩:=h;unfold aD at hl;let⟨v1,r1,rfl,h1,hl⟩:=hl;unfold aD at hl;let⟨v2,r2,rfl,h2,hl⟩:=hl;unfold aD at hl;subst hl;unfold Is at h1;subst h1;unfold kz Is at h2;let⟨q,us,rfl,hq,hl⟩:=h2;rw[dw hl] at hq;exact{(a),q,rfl,ha,hq}
def RY {H:Hp} {x:Int×Str} {v:V} (h:Is H (J0 x) v):∃a,v=.ref a/\H a=some (.tup [.int x.1,.str x.2]):=by
 unfold J0 Is at h;let⟨a,vs,rfl,ha,hl⟩:=h;unfold aD at hl;let⟨v1,r1,rfl,h1,hl⟩:=hl;unfold aD at hl;let⟨v2,r2,rfl,h2,hl⟩:=hl;unfold aD at hl;subst hl;unfold Is at h1 h2;subst h1 h2;exact{(a),rfl,ha}
def TD (t:Told):Prop:=QV t/\⇑(Sc.wordsOf t)<=100/\∀w∈Sc.wordsOf t,⇑w<=100
def v8 {t:Told} (h:TD t):((Sc.wordsOf t).map (λz:Str=>⇑z+(" ": Str).length)).sum<=sizeLine:=by
 let sl:=yB;let a:=oH (sep:=" ") h.2.2;let b:⇑(Sc.wordsOf t)*(100+(" ": Str).length)<=100*(100+(" ": Str).length):=wD h.2.1 (zk _);exact zL a (zL b (by show 100*(100+1)<=sizeLine;ext))
def Jo (n:Str):("player ": Str)++n=rowOf (.bH n):=rfl
noncomputable def rws (ts:List Told):List V:=(ts.map rowOf).map V.str
def kO (a b:List Told):rws (a++b)=rws a++rws b:=by unfold rws;rw[zj,zj]
def kM (a:List Told):⇑(rws a)=⇑a:=by unfold rws;rw[za,za]
inductive oJ (vs:List V) (H:Hp) (Q:VK) (E:XK):Prop
 | mk (p:vy) (S:cg) (_:vs=[.ref p]) (_:kD H p S) (_:(∀t∈dI S,TD t)) (_:⇑(dI S)<=1000000) (_:(∀r∈S.repeats,Mz r)) (_:⇑S.repeats<=1000) (_:∀D H',aB H H'->H D=none->H' D=some (.lst (rws (dI S)))->Q (.ref D) H')
def pj:cZ P w base 3 T.g9 oJ:=by
 nomatch T.g9,["_law_s","_law_rows","_law_name","_law_turn","_law_time","_law_metre","_law_key","_law_marks","_law_player","_law_row","_law_bar","_law_items"]
 let⟨p,S,rfl,la,tok,tl,uF,rln3,kk⟩:=h;let sl:=yB;let⟨pl,il,st,bl,hl,nl,rl,ub,jm,iv,sv,bv,hv,nv,rv,h1,h2,⟨h3,ili⟩,⟨h4,ils⟩,⟨h5,ilb⟩,h6,⟨h7,rlh⟩,⟨h8,rln⟩,_,_⟩:=la.at';let mem:∀a b c:List Told,dI S=a++b++c->∀t∈b,TD t:=λa b c e t ht=>tok t (by rw[e];simp[ht]);let tlen:∀a b:List Told,dI S=a++b->⇑a<=1000000:=λa b e=>by rw[e,zg] at tl;ext
 obtain⟨fl,fli,fls,flb,fln⟩:⇑S.players<=1000000/\⇑S.players+⇑S.aq<=1000000/\⇑S.players+⇑S.aq+⇑S.aL<=1000000/\⇑S.players+⇑S.aq+⇑S.aL+⇑S.aO<=1000000/\⇑S.aK<=1000000:=by
  unfold dI at tl;simp only[zg,za] at tl;ext
 refine{_,(ah (O4 (i:=1) (ts:=["_law_name"]) (ys:=[]) (js:=[]) (te:=(eO (λx y H Q=>∃i j,x=.str i/\y=.str j/\⇑i+⇑j<=sizeLine/\Q (.str (i++j)) H) (tC (.str "player ")) (aY 0))) (bc (bB (pv 0) af)) (gg 0) bg (aA bS aN (pv 0)) qN)
  (ah (bZ yO rfl (bc (bB (pv 0) af)) (dy (n:=3) rfl (aM (gR 2 qN) (aM (gR 3 qN) (aM (gR 4 qN) cJ))))
  (ao (bJ (bU yC yE yD bF (pv 1) (aa (bU yF yH yG gE aN (aa (bq (aa aN (aa (pv 2) (aa (mD aX T.fh (aa (bB (pv 3) af) ag)) (aa (mD aX T.fh (aa (bB (pv 3) af) ag)) (aa (bN (dE T) hr T.dh (aa (pv 4) ag)) ag)))))) ag)) ag)))))
  (ah (bR 1 qN (aA fN (pv 1) (mE (ts:=["_law_name","_law_players"]) (ys:=[]) (js:=[]) (g:=(Hw K 2 (fR (bY 0) (fR (bY 1) Hy)))) (te:=(Ug K "str" (rJoin K) (tC (.str " ")) (bM (eO (QL K) (F9 (bM (tC (.str "staff")) (bM (aY 0) dR))) (Lp (Th K) (bM (aY 1) dR))) dR))) (bc (bB (pv 0) af)) (dy (n:=2) rfl (aM (gg 0) (aM (gg 1) cJ))) bg (bU yF yH yG gE aN (aa (aA fN (bq (aa aN (aa (pv 0) ag))) (mD iG T.pw (aa (pv 1) ag))) ag)))))
  (ah (bZ yO rfl (bc (bB (pv 0) af)) (dy (n:=3) rfl (aM (gR 5 qN) (aM (gR 6 qN) (aM (gR 7 qN) cJ))))
  (ao (bJ (bU yC yE yD bF (pv 1) (aa (bU yF yH yG gE aN (aa (aA fN (bq (aa aN (aa (aA bS (aA bS (mD aX T.fh (aa (bB (pv 5) af) ag)) aN) (mD aX T.fh (aa (bB (pv 5) af) ag))) (aa (mD aX T.fh (aa (pv 6) ag)) ag)))) (mD iG T.pw (aa (pv 7) ag))) ag)) ag)))))
  (ah (aJ (bG (fo (bB (pv 0) af)))
  (ao (bJ (bU yC yE yD bF (pv 1) (aa (aA bS aN (bN (dE T) hr T.dh (aa (bB (pv 0) af) ag))) ag))))
  aC)
  (ah (bZ yO rfl (bc (bB (pv 0) af)) (dy (n:=2) rfl (aM (gR 8 qN) (aM (gR 9 qN) cJ)))
  (ao (bR 1 qN (aA fN (pv 1) (mE (ts:=["_law_bar","_law_name"]) (ys:=["_law_player"]) (js:=[8]) (g:=(Hw K 2 (fR (bY 0) (fR (bY 1) Hy)))) (te:=(Ug K "str" (rJoin K) (tC (.str " ")) (bM (F9 (bM (tC (.str "holds")) (bM (aY 2) (bM (Lp Tg (bM (aY 0) dR)) (bM (aY 1) dR))))) dR))) (bc (pv 9)) (dy (n:=2) rfl (aM (gg 0) (aM (gg 1) cJ))) bg (bU yF yH yG gE aN (aa (bq (aa aN (aa (pv 2) (aa (mD aX T.fh (aa (pv 0) ag)) (aa (pv 1) ag))))) ag)))))))
  (ah (bZ yO rfl (bc (bB (pv 0) af)) (dy (n:=3) rfl (aM (gR 10 qN) (aM (gR 8 qN) (aM (gR 11 qN) cJ))))
  (ao (bJ (bU yC yE yD bF (pv 1) (aa (bU yF yH yG gE aN (aa (aA fN (bq (aa aN (aa (mD aX T.fh (aa (pv 10) ag)) (aa (pv 8) ag)))) (mE (ts:=["_law_item"]) (ys:=[]) (js:=[]) (te:=(fI jB [] E0 (bM (aY 0) dR))) (bc (pv 11)) (gg 0) bg (bN (qP T) hr T.jt (aa (pv 0) ag)))) ag)) ag)))))
  (ao (au (aA fN (pv 1) (bN (qQ T) hr T.jw (aa (pv 0) ag)))))))))))),?_}
 ac_rfl;exists{_,aI.of h2},?_;refine dz (enc:=V.str) (ws:=S.players) (λn=>.str (rowOf (.bH n))) (λU=>∃v,U=[v]) () (aI.of h2) {(none),rfl} ?_ ?_
 ·rintro z U H1 R hz s1 ⟨_,rfl⟩ rr
  let tz:TD (.bH z):=tok _ (by unfold dI;simp[hz]);left;refine{?_,?_}
  ·let l7:("player ": Str).length=7:=rfl
   have:=tz.2.2 z (by simp[Sc.wordsOf]);ext
  exact rr _ _ _ (aB.refl _) (by rw[Jo];exact eG) {_,rfl}
 ·intro D vs H1 s1 nD hD ilD
  let ee:S.players.map (λn=>Dt.str (rowOf (.bH n)))=((S.players.map Told.bH).map rowOf).map Dt.str:=by rw[zA,zA];rfl
  rw[ee] at ilD;rw[dw ilD] at hD;let h11:=s1 _ _ h1;exists{_,aI.of (s1 _ _ h3)},?_;refine fi (K:=K) (a:=il) (xs:=iv) (λi U H'=>Lo [some (.ref p),some (.ref D)] 10 U/\aB H H'/\H' D=some (.lst (rws (S.players.map .bH++(S.aq.take i).map λx=>.cI x.1 x.2.1 x.2.2)))) {Lo.of rfl rfl,s1,by rw[wF,ym,zU];exact hD} (λi U H' _ h=>by let⟨_,z,_⟩:=h;exact aI.of (z _ _ h3)) ?_ ?_
  ·intro i x U H2 hx hh
   refine dG λN kN0 kR0 _ _=>?_;let⟨⟨e,rfl⟩,s2,hD2⟩:=hh;let⟨n,hn,ix⟩:=cA (d:=dZ) ili hx;let⟨a1,t1,l1,rfl,ha1,it,iL⟩:=P7 ix;cases eD (o:=some n.2.1) it with
   | ref ht=>
   cases eD (o:=some n.2.2) iL with
   | ref hL=>
   let tn:TD (.cI n.1 n.2.1 n.2.2):=tok _ (by unfold dI;simp only[zF,zG];exact .inl (.inl (.inl (.inl (.inl (.inl (.inr {n,zB hn,rfl})))))));refine{a1,_,rfl,cu.of (s2 _ _ ha1),rfl,?_};refine{_,_,rfl,{_,_,rfl,{_,_,rfl,{rfl,?_}}}};rename_i bt bL;let ht2:=s2 _ _ ht;let hL2:=s2 _ _ hL;let⟨t1,t2,t3,t4,t5,t6,t7⟩:=tn.1;let⟨c1,c2,c3,c4,_⟩:=t2;let⟨r1,r2,_⟩:=t5.pos;exists .inl {rfl,_,aI.of hD2},?_;exists bO () (),?_;exists bO () (),?_;exists _,n.2.2,rfl,hL2,r1,t6,r2,t7,?_;exists by show 5<=sizeLine;ext,?_
   intros p5 H5 s5 h5;refine{" ",p5,Sc.wordsOf (.cI n.1 n.2.1 n.2.2),rfl,rfl,aI.of h5,v8 tn,?_};left;refine{D,_,_,rfl,rfl,s5 _ _ hD2,?_,?_}
   ·rw[kM,zg,za,za,zP];ext
   exists Lo.of rfl rfl,bC nD (s2.trans s5),?_;rw[aF,cC hn,zj,<-zE];exact yY (λl=>some (HO.lst l)) (kO _ [Told.cI n.1 n.2.1 n.2.2]).symm
  ·rintro U H2 ⟨⟨e,rfl⟩,s2,hD2⟩
   rw[aQ ili,zM] at hD2;let h12:=s2 _ _ h1;let⟨ps,e1,e2,e3⟩:=gP ils;let pln:⇑ps=⇑S.aL:=by rw[<-e1,za]
   exists{_,aI.of (s2 _ _ h4)},?_;refine dz (enc:=λq:(Str×List Str)×V=>q.2) (ws:=ps) (λq=>.str (rowOf (.cj q.1.1 q.1.2))) (λU=>∃v u,U=[v,u]) () (by rw[e2];exact aI.of (s2 _ _ h4)) {(none),none,rfl} ?_ ?_
   ·rintro z U H3 R hz s3 ⟨_,_,rfl⟩ rr
    let zin:z.1∈S.aL:=by rw[<-e1];exact zO hz
    let tz:TD (.cj z.1.1 z.1.2):=tok _ (by unfold dI;simp only[zF,zG];exact .inl (.inl (.inl (.inl (.inl (.inr {(z.1),zin,rfl}))))));let⟨a3,q3,ea,ha3,hq3⟩:=LQ (e3 z hz);let s03:=s2.trans s3;rw[ea];refine{a3,_,rfl,cu.of (s03 _ _ ha3),rfl,?_};refine{_,_,rfl,{_,_,rfl,{rfl,?_}}};exists by show 2<=sizeLine;ext,?_
    intros p5 H5 s5 h5;exists q3,_,rfl,.inr (cu.of (s5 _ _ (s03 _ _ hq3))),?_;intros p6 H6 s6 h6;let zl:⇑z.1.2<=98:=by have:=tz.2.1;simp only[Sc.wordsOf,zt] at this;ext
    refine{p5,p6,_,_,rfl,rfl,aI.of (s6 _ _ h5),aI.of h6,by rw[za];show 2+_<=_;ext,?_};intros p7 H7 s7 h7;refine{" ",p7,Sc.wordsOf (.cj z.1.1 z.1.2),rfl,rfl,aI.of h7,v8 tz,?_};exact rr _ _ _ ((s5.trans s6).trans s7) eG {_,_,rfl}
   ·intro D3 vs3 H3 s3 nD3 hD3 il3
    let ee3:ps.map (λq:(Str×List Str)×V=>Dt.str (rowOf (.cj q.1.1 q.1.2)))=((S.aL.map λx=>Told.cj x.1 x.2).map rowOf).map Dt.str:=by rw[<-e1,zA,zA,zA];rfl
    rw[ee3] at il3;rw[dw il3] at hD3;refine{D,D3,_,_,rfl,rfl,aI.of (s3 _ _ hD2),aI.of hD3,?_,?_}
    ·rw[kM,zg,za,za,za,za,za];ext
    intro D4 n4;generalize hU:upd H3 D4 _=H4;let s4:aB H3 H4:=by rw[<-hU];exact bx n4
    let hD4:H4 D4=some (.lst (rws (S.players.map .bH++(S.aq.map λx=>.cI x.1 x.2.1 x.2.2)++S.aL.map λx=>.cj x.1 x.2))):=by
     rw[<-hU,aF];exact yY (λl=>some (HO.lst l)) (kO _ _).symm
    clear hU;let nD4:H D4=none:=(s2.trans s3).back n4;let s04:=(s2.trans s3).trans s4;clear hD2 hD3 il3 hD ilD nD nD3;let h14:=s04 _ _ h1;exists{_,aI.of (s04 _ _ h5)},?_;refine fi (K:=K) (a:=bl) (xs:=bv) (λi U H'=>Lo [some (.ref p),some (.ref D4)] 10 U/\aB H H'/\H' D4=some (.lst (rws (S.players.map .bH++(S.aq.map λx=>.cI x.1 x.2.1 x.2.2)++(S.aL.map λx=>.cj x.1 x.2)++(S.aO.take i).map .bar)))) {{(e),rfl},s04,by rw[wF,ym,zU];exact hD4} (λi U H' _ h=>by let⟨_,z,_⟩:=h;exact aI.of (z _ _ h5)) ?_ ?_
    ·intro i x U H5 hx hh
     refine dG λN kN1 kR1 _ _=>?_;let⟨⟨e,rfl⟩,s5,hD5⟩:=hh;let⟨b,hb,ib⟩:=cA (d:=jz) ilb hx;let⟨a1,mv,q1,rfl,ha1,im,hq1⟩:=vM ib;cases eD (o:=some b.aP) im with
     | ref hm=>
     rename_i am;let tb:TD (.bar b):=tok _ (by unfold dI;simp only[zF,zG];exact .inl (.inl (.inl (.inl (.inr {b,zB hb,rfl})))));let hm5:=s5 _ _ hm;refine{a1,_,rfl,cu.of (s5 _ _ ha1),rfl,?_};refine{_,_,rfl,{_,_,rfl,{_,_,rfl,{rfl,?_}}}};let⟨t1,t2,t3,t4,t5,t6⟩:=tb.1;let bb:0<=b.aP.2/\b.aP.2<1000:=by unfold CY at t3;simp at t3;ext
     let la1:=bz (n:=b.aP.1) () ();let la2:=bz (n:=b.aP.2) () ();let l1:("/": Str).length=1:=rfl;exists .inl {rfl,_,aI.of hD5},?_;exists bO () (),?_;exists by show(dec b.aP.1).length+_<=_;ext,?_
     exists bO () (),?_;exists by show(dec b.aP.1 ++"/").length+⇑(dec b.aP.2)<=_;rw[len_app];ext,?_
     exists bO () (),?_;exists by show 3<=sizeLine;ext,?_
     intros p6 H6 s6 h6;exists q1,_,rfl,.inr (cu.of (s6 _ _ (s5 _ _ hq1))),?_;intros p7 H7 s7 h7;let ml:⇑b.marks<=97:=by have:=tb.2.1;simp only[Sc.wordsOf,zt] at this;ext
     refine{p6,p7,_,_,rfl,rfl,aI.of (s7 _ _ h6),aI.of h7,by rw[za];show 3+_<=_;ext,?_};intros p8 H8 s8 h8;refine{" ",p8,Sc.wordsOf (.bar b),rfl,rfl,aI.of h8,v8 tb,?_};let s58:=(s6.trans s7).trans s8;left;refine{D4,_,_,rfl,rfl,s58 _ _ hD5,?_,?_}
     ·rw[kM];simp only[zg,za,zP];ext
     exists Lo.of rfl rfl,bC nD4 (s5.trans s58),?_;rw[aF,cC hb,zj,<-zE];exact yY (λl=>some (HO.lst l)) (kO _ [Told.bar b]).symm
    ·rintro U H5 ⟨⟨e,rfl⟩,s5,hD5⟩
     rw[aQ ilb,zM] at hD5;obtain⟨B,hB⟩:∃B,B=S.players.map Told.bH++(S.aq.map λx=>Told.cI x.1 x.2.1 x.2.2)++(S.aL.map λx=>Told.cj x.1 x.2)++S.aO.map Told.bar:={_,rfl}
     let tB:dI S=B++S.aH.toList.map .aH++(S.holds.map λx=>x.2.map λh=>Told.holds x.1 h.1 h.2).flatten++(S.aK.map λx=>.aK x.1.1 x.1.2 x.2)++A9 S:=by rw[hB];rfl
     rw[<-hB] at hD5;let h15:=s5 _ _ h1;left;refine join (λU H'=>Lo [some (.ref p),some (.ref D4)] 10 U/\aB H H'/\H' D4=some (.lst (rws (B++S.aH.toList.map .aH)))) (λN hN c1=>?_) (λN hN c1=>?_) ?_
     ·cases qu:S.aH with
      | none=>
       rw[qu] at h6;unfold dO Is at h6;rw[h6] at c1;simp at c1
      | some u=>
       rw[qu] at h6;cases eD (o:=some u) h6 with
       | ref hu=>
       let tu:TD (.aH u):=tok _ (by rw[tB,qu];simp);let⟨u1,u2,u3,u4⟩:=tu.1;let⟨_,r2,_⟩:=u1.pos;let lu:=km (x:=u) () u3 () u4;let bl5:B.length<=1000000:=tlen B _ (by rw[tB,zE,zE,zE]);exists .inl {rfl,_,aI.of hD5},?_;exists _,u,rfl,s5 _ _ hu,(),u3,r2,u4,?_;let l7:("upbeat ": Str).length=7:=rfl;refine{_,_,rfl,rfl,(),?_};exists D4,_,_,rfl,rfl,hD5,by rw[kM];ext,?_
       left;refine hN _ _ {Lo.of rfl rfl,bC nD4 s5,?_};rw[aF,qu];exact yY (λl=>some (HO.lst l)) (kO B [Told.aH u]).symm
     ·let qu:S.aH=none:=by
       cases qu:S.aH with
       | none=>rfl
       | some u=>
        rw[qu] at h6;cases eD (o:=some u) h6 with
        | ref hu=>simp at c1
      left;refine hN _ _ {Lo.of rfl rfl,s5,?_};rw[qu];show H5 D4=some (.lst (rws (B++[])));rw[zU];exact hD5
     rintro σ6 H6 ⟨⟨e,rfl⟩,s6,hD6⟩;let h16:=s6 _ _ h1;exists{_,aI.of (s6 _ _ h7)},?_;refine fi (K:=K) (a:=hl) (xs:=hv) (λi U H'=>∃(D:vy),Lo [some (.ref p),some (.ref D)] 10 U/\aB H H'/\H D=none/\H' D=some (.lst (rws (B++S.aH.toList.map .aH++((S.holds.take i).map λx=>x.2.map λh=>Told.holds x.1 h.1 h.2).flatten)))) {D4,{(e),rfl},s6,nD4,by rw[wF,ym,List.flatten_nil,zU];exact hD6} (λi U H' _ h=>by let⟨_,_,z,_⟩:=h;exact aI.of (z _ _ h7)) ?_ ?_
     ·intro i x U H7 hx hh
      refine dG λN kN2 kR2 _ _=>?_;let⟨D7,⟨e,rfl⟩,s7,nD7,hD7⟩:=hh;let⟨y,hy,a7,r7,us7,rfl,ha7,hr7,il7,_⟩:=rlh.at hx;let⟨qs,f1,f2,f3⟩:=gP il7;let ty:∀h∈y.2,TD (.holds y.1 h.1 h.2):=λh hh=>tok _ (by
       rw[tB];refine zI _ (zI _ (zH _ ?_));exact wd.mpr {_,zO (zB hy),zO hh})
      let tke:((S.holds.take (i+1)).map λx=>x.2.map λh=>Told.holds x.1 h.1 h.2).flatten=((S.holds.take i).map λx=>x.2.map λh=>Told.holds x.1 h.1 h.2).flatten++y.2.map λh=>Told.holds y.1 h.1 h.2:=by
       rw[cC hy,zj,xb];simp
      let lenB:⇑(B++S.aH.toList.map Told.aH++((S.holds.take (i+1)).map λx=>x.2.map λh=>Told.holds x.1 h.1 h.2).flatten)<=1000000:=by
       refine tlen _ (((S.holds.drop (i+1)).map λx=>x.2.map λh=>Told.holds x.1 h.1 h.2).flatten++(S.aK.map λx=>.aK x.1.1 x.1.2 x.2)++A9 S) ?_;rw[tB]
       conv=>lhs;rw[<-zY (i+1) S.holds,zj,xb]
       simp only[zE]
      rw[tke] at lenB;simp only[zg,za] at lenB;refine{a7,_,rfl,cu.of (s7 _ _ ha7),rfl,?_};refine{_,_,rfl,{_,_,rfl,{rfl,?_}}};exists{_,aI.of (s7 _ _ hr7)},?_;let ql:⇑qs=⇑y.2:=by rw[<-f1,za]
      refine dz (enc:=λq:(Int×Str)×V=>q.2) (ws:=qs) (λq=>.str (rowOf (.holds y.1 q.1.1 q.1.2))) (λU=>∃v u,U=[v,u,some (.str y.1)]) () (by rw[f2];exact aI.of (s7 _ _ hr7)) {(none),none,rfl} ?_ ?_
      ·rintro z U H8 R hz s8 ⟨_,_,rfl⟩ rr
       let zin:z.1∈y.2:=by rw[<-f1];exact zO hz
       let tz:=ty z.1 zin;let⟨a8,ea,ha8⟩:=RY (f3 z hz);let s08:=s7.trans s8;let⟨b1,b2⟩:=tz.1.2.1;rw[ea];refine{a8,_,rfl,cu.of (s08 _ _ ha8),rfl,?_};refine{_,_,rfl,{_,_,rfl,{rfl,?_}}};exists bO () (),?_;exists by show 4<=sizeLine;ext,?_
       intros p9 H9 s9 h9;refine{" ",p9,Sc.wordsOf (.holds y.1 z.1.1 z.1.2),rfl,rfl,aI.of h9,v8 tz,?_};exact rr _ _ _ s9 eG {_,_,rfl}
      ·intro D8 vs8 H8 s8 _ hD8 il8
       let ee8:qs.map (λq:(Int×Str)×V=>Dt.str (rowOf (.holds y.1 q.1.1 q.1.2)))=((y.2.map λh=>Told.holds y.1 h.1 h.2).map rowOf).map Dt.str:=by rw[<-f1,zA,zA,zA];rfl
       rw[ee8] at il8;rw[dw il8] at hD8;refine{D7,D8,_,_,rfl,rfl,aI.of (s8 _ _ hD7),aI.of hD8,?_,?_}
       ·rw[kM];simp only[zg,za];ext
       intro D9 n9;generalize hU:upd H8 D9 _=H9;let s9:aB H8 H9:=by rw[<-hU];exact bx n9
       exists D9,Lo.of rfl rfl,(s7.trans s8).trans s9,(s7.trans s8).back n9,?_;rw[<-hU,aF,tke,<-zE];exact yY (λl=>some (HO.lst l)) (kO _ _).symm
     ·rintro U H7 ⟨D7,⟨e,rfl⟩,s7,nD7,hD7⟩
      rw[rlh.len,zM] at hD7;obtain⟨B2,hB2⟩:∃B2,B2=B++S.aH.toList.map Told.aH++(S.holds.map λx=>x.2.map λh=>Told.holds x.1 h.1 h.2).flatten:={_,rfl}
      rw[<-hB2] at hD7 tB;let h17:=s7 _ _ h1;exists{_,aI.of (s7 _ _ h8)},?_;refine fi (K:=K) (a:=nl) (xs:=nv) (λi U H'=>Lo [some (.ref p),some (.ref D7)] 10 U/\aB H H'/\H' D7=some (.lst (rws (B2++(S.aK.take i).map λx=>.aK x.1.1 x.1.2 x.2)))) {{(e),rfl},s7,by rw[wF,ym,zU];exact hD7} (λi U H' _ h=>by let⟨_,z,_⟩:=h;exact aI.of (z _ _ h8)) ?_ ?_
      ·intro i x U H8 hx hh
       refine dG λN kN3 kR3 _ _=>?_;let⟨⟨e,rfl⟩,s8,hD8⟩:=hh;let⟨y,hy,a7,r7,us7,rfl,ha7,hr7,il7,_⟩:=rln.at hx;let⟨qs,f1,f2,f3⟩:=gP il7;let tz:TD (.aK y.1.1 y.1.2 y.2):=tok _ (by rw[tB];simp only[zF,zG];exact .inl (.inr {y,zB hy,rfl}));let⟨⟨b1,b2⟩,b3,b4,_⟩:=tz.1;let yl:⇑y.2<=97:=by have:=tz.2.1;simp only[Sc.wordsOf,zt,za] at this;ext
       let ql:⇑qs=⇑y.2:=by rw[<-f1,za]
       let ib:i<⇑S.aK:=(zw.mp hy).1;let lenB:B2.length+⇑S.aK<=1000000:=by
        have:=tlen (B2++S.aK.map λx=>.aK x.1.1 x.1.2 x.2) (A9 S) tB
        simpa[zg,za] using this
       refine{a7,_,rfl,cu.of (s8 _ _ ha7),rfl,?_};refine{_,_,rfl,{_,_,rfl,{_,_,rfl,{rfl,?_}}}};exists .inl {rfl,_,aI.of hD8},?_;exists bO () (),?_;exists by show 3<=sizeLine;ext,?_
       intros p9 H9 s9 h9;let s09:=s8.trans s9;exists{_,aI.of (s09 _ _ hr7)},?_;refine dz (enc:=λq:Item×V=>q.2) (ws:=qs) (λq=>.str (pA q.1)) (λU=>∃v,U=[v]) () (by rw[f2];exact aI.of (s09 _ _ hr7)) {(none),rfl} ?_ ?_
       ·rintro z U Ha R hz sa ⟨_,rfl⟩ rr
        let zin:z.1∈y.2:=by rw[<-f1];exact zO hz
        change{z.2,z.1,rfl,((f3 z hz).mono s09).mono sa,b4 _ zin,rr _ _ _ (aB.refl _) eG {_,rfl}}
       ·intro Da vsa Ha sa _ hDa ila
        let eea:qs.map (λq:Item×V=>Dt.str (pA q.1))=(y.2.map pA).map Dt.str:=by rw[<-f1,zA,zA];rfl
        rw[eea] at ila;rw[dw ila] at hDa;refine{p9,Da,_,_,rfl,rfl,aI.of (sa _ _ h9),aI.of hDa,by rw[za,za];show 3+_<=_;ext,?_};intros pb Hb sb hb;refine{" ",pb,Sc.wordsOf (.aK y.1.1 y.1.2 y.2),rfl,rfl,aI.of hb,v8 tz,?_};let s8b:=(s9.trans sa).trans sb;left;refine{D7,_,_,rfl,rfl,s8b _ _ hD8,?_,?_}
        ·rw[kM];simp only[zg,za,zP];ext
        exists Lo.of rfl rfl,bC nD7 (s8.trans s8b),?_;rw[aF,cC hy,zj,<-zE];exact yY (λl=>some (HO.lst l)) (kO _ [Told.aK y.1.1 y.1.2 y.2]).symm
      ·rintro U H8 ⟨⟨e,rfl⟩,s8,hD8⟩
       rw[rln.len,zM] at hD8;exists p,S,rfl,la.mono s8,uF,rln3,λj hj=>(tok (.bu j) (by rw[tB];unfold A9;rw[hj];simp)).1,λD9 H9 s9 _ h9=>?_;refine{D7,D9,_,_,rfl,rfl,aI.of (s9 _ _ hD8),aI.of h9,?_,?_}
       ·have:=tl
        rw[tB] at this;simp only[zg,za] at this;rw[kM];simp only[zg,za];ext
       intro Dx nx;generalize hU:upd H9 Dx _=Hx;let sx:aB H9 Hx:=by rw[<-hU];exact bx nx
       refine kk Dx Hx ((s8.trans s9).trans sx) ((s8.trans s9).back nx) ?_;rw[<-hU,aF,tB];exact yY (λl=>some (HO.lst l)) (kO _ _).symm
def MX {t:Told} (h:TD t):⇑(rowOf t)<=10100:=by
 let a:=A5 (sep:=" ") h.2.2;let b:⇑(Sc.wordsOf t)*(100+(" ": Str).length)<=100*(100+(" ": Str).length):=wD h.2.1 (zk _);exact zL a (zL b (by show 100*(100+1)<=10100;decide))
inductive oI (vs:List V) (H:Hp) (Q:VK) (E:XK):Prop
 | mk (p:vy) (S:cg) (_:vs=[.ref p]) (_:kD H p S) (_:(∀t∈dI S,TD t)) (_:⇑(dI S)<=1000) (_:(∀r∈S.repeats,Mz r)) (_:⇑S.repeats<=1000) (_:∀H',aB H H'->Q (.str (Str.join "\n" ((dI S).map rowOf))) H')
def F6 {ts:List Told} (h:∀t∈ts,TD t) (hl:⇑ts<=1000):((ts.map rowOf).map (λz:Str=>⇑z+("\n": Str).length)).sum<=1000*10101:=by
 let a:=oH (sep:="\n") (k:=10100) (zs:=ts.map rowOf) λz hz=>by
  let⟨t,ht,rfl⟩:=zG.mp hz;exact MX (h t ht)
 rw[za] at a;let b:⇑ts*(10100+("\n": Str).length)<=1000*(10100+("\n": Str).length):=wD hl (zk _);exact zL a (zL b (by show 1000*(10100+1)<=1000*10101;decide))
def pf:cZ P w base 4 T.gZ oI:=by
 nomatch T.gZ,["_law_s"]
 let⟨p,S,rfl,la,tok,tl,uF,rl,kk⟩:=h;let sl:=yB;refine{_,(ao (au (bU yF yH yG gE aN (aa (bN (pj T) hr T.g9 (aa (pv 0) ag)) ag)))),?_};ac_rfl;exists p,S,rfl,la,tok,(),uF,rl,λD H1 s1 _ h1=>?_;refine{"\n",D,(dI S).map rowOf,rfl,rfl,aI.of h1,zL (F6 tok tl) (),?_};exact kk _ s1
theorem Kz:∀{ts:List Told},(∀t∈ts,TD t)->RT (ts.map rowOf) ts
 | [],_=>.nil
 | t::r,h=>by
  let ht:=h t zp;exact .row (zL (MX ht) ∅) (LC ht.1) ht.1 (zL ht.2.1 ∅) (λy hy=>zL (ht.2.2 y hy) ∅) (Kz λx hx=>h x (zm _ hx))
def Pw {ts:List Told} (ne:ts≠[]) (h:∀t∈ts,TD t):RT (Txt.split (Str.join "\n" (ts.map rowOf)) "\n") ts:=by
 rw[show Txt.split (Str.join "\n" (ts.map rowOf)) "\n"= ts.map rowOf from gj (c:=10) (by simpa using ne) λz hz=>by
  let⟨t,ht,rfl⟩:=zG.mp hz;exact Np (h t ht).1]
 exact Kz h
def text_len {ts:List Told} (h:∀t∈ts,TD t) (hl:⇑ts<=1000):(Str.join "\n" (ts.map rowOf)).length+2<=sizeLine:=by
 let sl:=yB;let a:=join_le "\n" (ts.map rowOf);let b:=F6 h hl;ext
def FO (ps:List Str) (sts:List (Str×List Str)):Prop:=⇑sts<=2/\BV (sts.map (·.1))/\(sts.map (·.2)).flatten.Nodup/\∀x∈sts,x.2≠[]/\⇑x.2<=⇑ps/\∀p∈x.2,p∈ps
inductive pW (vs:List V) (H:Hp) (Q:VK) (E:XK):Prop
 | mk (c:Int) (pp:vy) (ps:List Str) (_:vs=[.int c,.ref pp]) (_:H pp=some (.lst (ps.map V.str))) (_:ps.Nodup) (_:⇑ps<=12) (_:∀(sts:List (Str×List Str)) D us H',FO ps sts->aB H H'->H' D=some (.lst us)->aD H' (sts.map gw) us->Q (.ref D) H')
theorem vV {H:Hp}:∀{nms:List Str} {rows:List (List Str)} {rv us:List V},⇑nms=⇑rows->RL (λo v=>∃r,v=V.ref r/\H r=some (.tup (o.map V.str))) rows rv->Pairs H (nms.map V.str) rv us ⇑nms->aD H ((nms.zip rows).map gw) us
 | [],[],_,us,_,_,p=>by
  have:us=[]:=yr.mp p.1;rw[this];exact cF
 | n::ns,o::ot,_,us,hl,⟨v,rv,rfl,⟨r,ev,hr⟩,rl⟩,p=>by
  subst ev;cases us with
  | nil=>have:=p.1;simp at this
  | cons u us=>
   let⟨q,e1,e2⟩:=p.2 0 (.str n) (.ref r) (by simp) rfl rfl;simp at e1;subst e1;refine aR (cB e2 (aR eG (aR (cB hr (A6 o)) cF))) (vV (by simpa using hl) rl {by have:=p.1;simpa using this,λj x y hj hx hy=>?_});let⟨q',f1,f2⟩:=p.2 (j+1) x y (by simp;ext) (by simpa using hx) (by simpa using hy);exact{q',by simpa using f1,f2}
 | [],_::_,_,_,hl,_,_=>by simp at hl
 | _::_,[],_,_,hl,_,_=>by simp at hl
theorem Kp {α β:Type}:∀{a:List α} {b:List β},⇑a=⇑b->(a.zip b).map (·.1)=a
 | [],[],_=>rfl
 | x::xs,y::ys,h=>by rw[yV,zh,Kp (by simpa using h)]
 | [],_::_,h=>by simp at h
 | _::_,[],h=>by simp at h
theorem DY {α β:Type}:∀{a:List α} {b:List β},⇑a=⇑b->(a.zip b).map (·.2)=b
 | [],[],_=>rfl
 | x::xs,y::ys,h=>by rw[yV,zh,DY (by simpa using h)]
 | [],_::_,h=>by simp at h
 | _::_,[],h=>by simp at h
noncomputable def two (o1 o2:List Str):List (List Str):=(if o1=[] then [] else [o1])++(if o2=[] then [] else [o2])
noncomputable def BZ (o1 o2:List Str) (r1 r2:vy):List V:=(if o1=[] then [] else [.ref r1])++(if o2=[] then [] else [.ref r2])
noncomputable def UP (o1 o2:List Str) (r1 r2:vy):Nat->List V
 | 0=>[]
 | 1=>if o1=[] then [] else [.ref r1]
 | _=>BZ o1 o2 r1 r2
def MT (o1 o2:List Str):(two o1 o2).flatten=o1++o2:=by
 unfold two
 by_cases h1:o1=[] <;> by_cases h2:o2=[] <;> simp[h1,h2]
def Q8 {o1 o2 o:List Str} (h:o∈two o1 o2):o≠[]/\(o=o1\/o=o2):=by
 unfold two at h;rcases zF.mp h with h | h
 ·by_cases h1:o1=[]
  ·rw[yN h1] at h;cases h
  ·rw[yM h1] at h;rw[zy.mp h];exact{h1,.inl rfl}
 ·by_cases h1:o2=[]
  ·rw[yN h1] at h;cases h
  ·rw[yM h1] at h;rw[zy.mp h];exact{h1,.inr rfl}
def Q7 {H:Hp} {o1 o2:List Str} {r1 r2:vy} (h1:H r1=some (.tup (o1.map V.str))) (h2:H r2=some (.tup (o2.map V.str))):RL (λo v=>∃r,v=V.ref r/\H r=some (.tup (o.map V.str))) (two o1 o2) (BZ o1 o2 r1 r2):=by
 unfold two BZ
 by_cases e1:o1=[] <;> by_cases e2:o2=[]
 ·rw[yN e1,yN e2,yN e1,yN e2];exact rfl
 ·rw[yN e1,yM e2,yN e1,yM e2];exact{_,_,rfl,{_,rfl,h2},rfl}
 ·rw[yM e1,yN e2,yM e1,yN e2];exact{_,_,rfl,{_,rfl,h1},rfl}
 ·rw[yM e1,yM e2,yM e1,yM e2];exact{_,_,rfl,{_,rfl,h1},_,_,rfl,{_,rfl,h2},rfl}
def Kt (o1 o2:List Str):⇑(two o1 o2)<=2:=by
 unfold two
 by_cases h1:o1=[] <;> by_cases h2:o2=[] <;> simp[h1,h2]
def Lr {ps o1 o2:List Str} {nms:List Str} (pn:ps.Nodup) (hs:(o1++o2).Nodup) (hi:∀p∈o1++o2,p∈ps) (hl:⇑(o1++o2)<=⇑ps) (nl:⇑nms=⇑(two o1 o2)) (nok:BV nms):FO ps (nms.zip (two o1 o2)):=by
 refine{?_,by rw[Kp nl];exact nok,by rw[DY nl,MT];exact hs,λx hx=>?_}
 ·rw[xx,nl,Nat.min_self];exact Kt o1 o2
 ·let hm:x.2∈two o1 o2:=by
   have:=zO (f:=λy:Str×List Str=>y.2) hx;rw[DY nl] at this;exact this
  let⟨ne,e⟩:=Q8 hm;rw[zg] at hl;rcases e with e | e <;> rw[e]
  ·exact{e▸ne,(),λp hp=>hi p (zI _ hp)}
  ·exact{e▸ne,(),λp hp=>hi p (zH _ hp)}
def qO:cZ P w base 2 T.jr pW:=by
 nomatch T.jr,["_law_cell","_law_players","_law_m","_law_order","_law_alone","_law_cut","_law_rows"]
 let⟨c,pp,ps,rfl,hpp,pn,pl,kk⟩:=h;let sl:=yB;refine{_,(ah (bR 2 qN (bN (bP T) hr T.cm (aa (pv 0) (aa af ag))))
  (ah (aJ (ptr de (aA aS (pv 2) af) af)
  (ao (au (bq ag)))
  aC)
  (ah (bR 3 qN (mD iG T.pw (aa (pv 1) ag)))
  (ah (aJ (ptr de (aA aS (aA aV (pv 2) af) af) af)
  (ao (bJ (RK yC PySem.F.slot_list_reverse PySem.F.type_list_reverse Jx (pv 3))))
  aC)
  (ah (bR 4 qN (aA aS (aA aV (pv 2) af) (aA aW (d6 aE T.bE (aa (pv 3) ag)) af)))
  (ah (bR 3 qN (aA fN (cL gB (pv 3) du (dt (pv 4))) (cL gB (pv 3) (dt (aA aW (pv 4) af)) du)))
  (ah (bR 5 qN (aA aS (aA aV (pv 2) af) (aA aW (d6 aE T.bE (aa (pv 3) ag)) af)))
  (ah (O4 (i:=6) (ts:=["_law_row"]) (ys:=[]) (js:=[]) (g:=(bY 0)) (tc:=(lO (eO (RB K) (aY 0) (Ec dR)))) (te:=(aY 0)) (bc (bq (aa (mD cK T.iB (aa (cL gB (pv 3) du (dt (pv 5))) ag)) (aa (mD cK T.iB (aa (cL gB (pv 3) (dt (pv 5)) du) ag)) ag)))) (gg 0) (gD (ptr (kZ hr.units) (pv 0) (bI ag))) (pv 0) qN)
  (ao (au (NR rfl (by rfl) T.pw (by rfl) T.N0 (aa (bN (eQ T) hr T.dY (aa (aA aV (pv 2) af) (aa (d6 aE T.bE (aa (pv 6) ag)) ag))) (aa (pv 6) ag))))))))))))),?_}
 ac_rfl;exists c,9,rfl,(),(),?_;let m0:0<=mixed c 9:=zv _ ∅;let m1:mixed c 9<2147483399:=zr _ ∅;generalize mixed c 9=m at m0 m1;left
 by_cases c0:m%4=0
 ·refine b7 (ze (yY V.int c0)) ?_
  exists by show 0<=sizeLine;ext,λD nD=>?_
  exact kk [] D [] _ {∅,{by simp,by simp},by simp,by simp} (bx nD) aF cF
 refine cq (zd λz=>c0 (V.int.inj z)) ?_;exists pp,_,rfl,.inl (aI.of hpp),λD nD=>?_;let s1:aB H (upd H D (.lst (ps.map V.str))):=bx nD;let h1:upd H D (.lst (ps.map V.str)) D=some (.lst (ps.map V.str)):=aF;generalize upd H D (.lst (ps.map V.str))=H1 at s1 h1 ⊢;left;refine join (λU H'=>∃od:List Str,U=[some (.int c),some (.ref pp),some (.int m),some (.ref D),none,none,none]/\aB H H'/\H' D=some (.lst (od.map V.str))/\od.Perm ps) (λN hN c1=>?_) (λN hN c1=>?_) ?_
 ·left
  refine{.inl {rfl,_,aI.of h1},D,_,rfl,rfl,h1,?_};change hN _ _ {ps.reverse,rfl,bC nD s1,by rw[aF,List.map_reverse],ps.reverse_perm}
 ·left
  exact hN _ _ {ps,rfl,s1,h1,List.Perm.refl _}
 clear s1 h1 H1;rintro σ1 H1 ⟨od,rfl,s1,h1,pm⟩;let ol:=pm.length_eq;exists D,_,rfl,.inl (aI.of h1),?_;rw[za];exists by show 0<(⇑od:Int)+2;ext,?_
 let a0:0<=m/5%((⇑od:Int)+2):=zv _ ();obtain⟨al,hal⟩:∃j:Nat,m/5%((⇑od:Int)+2)=(j:Int):={(m/5%((⇑od:Int)+2)).toNat,()}
 exists D,_,rfl,aI.of h1,λp2 n2=>?_;generalize hU2:upd H1 p2 _=H2;let s2:aB H1 H2:=aB.i7 hU2 n2;let h2:H2 p2=some (.lst ((od.take al).map V.str)):=(jq hU2).trans (yY (λz=>some (HO.lst z)) (by show j8 (od.map V.str) none (some (m/5%((⇑od:Int)+2)))=_;rw[hal,Fq,List.map_take]));clear hU2;exists D,_,rfl,aI.of (s2 _ _ h1),λp3 n3=>?_;generalize hU3:upd H2 p3 _=H3;let s3:aB H2 H3:=aB.i7 hU3 n3;let h3:H3 p3=some (.lst ((od.drop (al+1)).map V.str)):=(jq hU3).trans (yY (λz=>some (HO.lst z)) (by
  show j8 (od.map V.str) (some (m/5%((⇑od:Int)+2)+1)) none=_;rw[hal,show((al:Int)+1)=((al+1:Nat):Int) by ext,fC,List.map_drop]))
 clear hU3;left;refine{p2,p3,_,_,rfl,rfl,aI.of (s3 _ _ h2),aI.of h3,?_,λp4 n4=>?_}
 ·rw[za,za,zP,xy];ext
 generalize hU4:upd H3 p4 _=H4;let s4:aB H3 H4:=aB.i7 hU4 n4;obtain⟨o0,eo0⟩:∃o0:List Str,o0=od.take al++od.drop (al+1):={_,rfl}
 let h4:H4 p4=some (.lst (o0.map V.str)):=(jq hU4).trans (by rw[eo0,zj]);clear hU4;let sub:o0.Sublist od:=by
  rw[eo0]
  conv=>rhs;rw[<-zY al od]
  exact List.Sublist.append (List.Sublist.refl _) (by rw[List.drop_add_one_eq_tail_drop];exact List.tail_sublist _)
 let o0n:o0.Nodup:=sub.nodup (pm.nodup_iff.mpr pn);let o0l:⇑o0<=⇑ps:=by have:=sub.length_le;ext
 let o0i:∀p∈o0,p∈ps:=λp hp=>pm.mem_iff.mp (sub.subset hp);let s04:=s1.trans (s2.trans (s3.trans s4));clear s1 s2 s3 s4 h1 h2 h3 sub eo0 hal a0 n2 n3 n4 ol pm;exists p4,_,rfl,.inl (aI.of h4),?_;rw[za];exists by show 0<(⇑o0:Int)+1;ext,?_
 let a0:0<=m/8%((⇑o0:Int)+1):=zv _ ();obtain⟨al,hal⟩:∃j:Nat,m/8%((⇑o0:Int)+1)=(j:Int):={(m/8%((⇑o0:Int)+1)).toNat,()}
 exists p4,_,rfl,aI.of h4,λp5 n5=>?_;generalize hU5:upd H4 p5 _=H5;let s5:aB H4 H5:=aB.i7 hU5 n5;let h5:H5 p5=some (.lst ((o0.take al).map V.str)):=(jq hU5).trans (yY (λz=>some (HO.lst z)) (by show j8 (o0.map V.str) none (some (m/8%((⇑o0:Int)+1)))=_;rw[hal,Fq,List.map_take]));clear hU5;left;refine{p5,_,rfl,.inl {aI.of h5,?_}};intros p6 H6 s6 h6;exists p4,_,rfl,aI.of (s6 _ _ (s5 _ _ h4)),λp7 n7=>?_;generalize hU7:upd H6 p7 _=H7;let s7:aB H6 H7:=aB.i7 hU7 n7;let h7:H7 p7=some (.lst ((o0.drop al).map V.str)):=(jq hU7).trans (yY (λz=>some (HO.lst z)) (by show j8 (o0.map V.str) (some (m/8%((⇑o0:Int)+1))) none=_;rw[hal,fC,List.map_drop]));clear hU7;left;refine{p7,_,rfl,.inl {aI.of h7,?_}};intros p8 H8 s8 h8;exists by show 2<=sizeLine;ext,?_
 intros p9 H9 s9 h9;exists{_,aI.of h9},?_;let s49:=s5.trans (s6.trans (s7.trans (s8.trans s9)));let h69:H9 p6=some (.tup ((o0.take al).map V.str)):=s9 _ _ (s8 _ _ (s7 _ _ h6));let h89:H9 p8=some (.tup ((o0.drop al).map V.str)):=s9 _ _ h8;let fl:(o0.take al++o0.drop al)=o0:=zY al o0;generalize o0.take al=o1 at h69 fl;generalize o0.drop al=o2 at h89 fl;let s09:=s04.trans s49;clear s04 s49 s5 s6 s7 s8 s9 h5 h6 h7 h8;let tst:∀(o:List Str) (r:vy) (H':Hp) (R:Bool->Hp->Prop),H' r=some (.tup (o.map V.str))->(∀H'',aB H' H''->R (!decide (o=[])) H'')->lO (eO (RB K) (aY 0) (Ec dR)) [some (.ref r)] H' R:=λo r H' R hr hR=>by
  exists by show 0<=sizeLine;ext,?_
  intros pa Ha sa ha;refine{r,pa,_,_,rfl,rfl,.inr {cu.of (sa _ _ hr),cu.of ha},.inr (.inl rfl),?_};let e:decide (o.map V.str=[])=decide (o=[]):=by simp
  rw[e];exact{_,rfl,hR _ sa}
 refine nc 2 (UP o1 o2 p6 p8) (λi U H'=>(∃v,U=[v])/\aB H9 H') ?_ () rfl {{_,rfl},aB.refl _} ?_ ?_ ?_ ?_
 ·intro i hi
  match i,hi with
  | 0,_=>exact zk _
  | 1,_=>show(if o1=[] then([]:List V) else [.ref p6]).length<=1;by_cases e:o1=[] <;> simp[e]
  | 2,_=>show(BZ o1 o2 p6 p8).length<=2;unfold BZ;by_cases e:o1=[] <;> by_cases e2:o2=[] <;> simp[e,e2]
 ·rintro i U H' hi ⟨_,sm⟩
  exact Hu (aI.of (sm _ _ h9)) hi
 ·rintro U H' ⟨_,sm⟩
  exact{_,aI.of (sm _ _ h9),zk _}
 ·rintro i x U H' H'' hi ⟨⟨v,rfl⟩,sm⟩ ⟨rfl,hy⟩
  let hx:=hy _ (aI.of (sm _ _ h9))
  match i,hi with
  | 0,_=>
   let ex:V.ref p6=x:=yj hx;subst ex;refine tst o1 p6 _ _ (sm _ _ h69) λH3 s3=>?_
   by_cases e:o1=[]
   ·rw[ze e]
    exact IH.skip () (by show(if o1=[] then([]:List V) else [.ref p6])=[];rw[yN e]) {{_,rfl},sm.trans s3}
   ·rw[zd e]
    change IH.push () (by show(if o1=[] then([]:List V) else [.ref p6])=[]++[.ref p6];rw[yM e];rfl) {{_,rfl},sm.trans s3}
  | 1,_=>
   let ex:V.ref p8=x:=yj hx;subst ex;refine tst o2 p8 _ _ (sm _ _ h89) λH3 s3=>?_
   by_cases e:o2=[]
   ·rw[ze e]
    exact IH.skip () (by show BZ o1 o2 p6 p8=(if o1=[] then([]:List V) else [.ref p6]);unfold BZ;rw[yN e,zU]) {{_,rfl},sm.trans s3}
   ·rw[zd e]
    change IH.push () (by show BZ o1 o2 p6 p8=(if o1=[] then([]:List V) else [.ref p6])++[.ref p8];unfold BZ;rw[yM e]) {{_,rfl},sm.trans s3}
 ·rintro U H' ⟨_,sm⟩ D5 n5'
  generalize hU:upd H' D5 _=H5;let s5:aB H9 H5:=sm.trans (aB.i7 hU n5');let hD5:H5 D5=some (.lst (BZ o1 o2 p6 p8)):=jq hU;clear hU;let rl5:=Q7 (s5 _ _ h69) (s5 _ _ h89);let tl:=rl5.len;let t2:=Kt o1 o2;exists D5,_,rfl,.inl (aI.of hD5),?_;rw[tl];left;refine{_,_,rfl,zV m0 ∅,?_,(),(),λnms pn2 H6 nl nok s6 h6=>?_}
  ·have:=zW (a:=m) 80 m0;ext
  left;let nl':⇑nms=⇑(two o1 o2):=by rw[nl];ext
  refine{false,false,pn2,D5,_,_,rfl,aI.of h6,aI.of (s6 _ _ hD5),by rw[za,tl];exact nl',λl H7 us s7 n7 h7 pr=>?_};rw[za] at pr;refine kk (nms.zip (two o1 o2)) l us H7 (Lr pn (by rw[fl];exact o0n) (by rw[fl];exact o0i) (by rw[fl];exact o0l) nl' nok) (((s09.trans s5).trans s6).trans s7) h7 (vV nl' ?_ pr);exact rl5.imp λo v ⟨r,e1,e2⟩=>{r,e1,s7 _ _ (s6 _ _ e2)}
inductive uo (vs:List V) (H:Hp) (Q:VK) (E:XK):Prop
 | mk (m first last times:Int) (_:vs=[.int m,.int first,.int last,.int times]) (_:0<=m) (_:m<1099511627776) (_:0<=first) (_:first<=last) (_:last<=200) (_:2<=times) (_:times<=9) (_:∀(es:List Sc.End) v H',Lb first last times es->aB H H'->Is H' (.tup (es.map mz)) v->Q v H')
def Kn (first last:Int) (bs:List Int):Prop:=bs≠[]/\bs.Pairwise (·<·)/\∀b∈bs,first<=b/\b<=last
def OP {first last:Int} {bs:List Int} (h:Kn first last bs):∃b,(bs.map V.int)[⇑(bs.map V.int)-1]?=some (.int b)/\first<=b/\b<=last/\∀x∈bs,x<=b:=by
 let⟨ne,asc,hin⟩:=h;let e:=xU ne;let hm:=List.getLast_mem ne;refine{bs.getLast ne,?_,(hin _ hm).1,(hin _ hm).2,λx hx=>?_}
 ·rw[za,zJ,List.getLast_eq_getElem,zb (by have:=yq.mpr ne;ext)];rfl
 ·rw[<-e] at hx asc
  rw[zT] at asc;rcases zF.mp hx with z | z
  ·exact y6 (asc.2.2 x z _ (zy.mpr rfl))
  ·rw[zy.mp z];exact Int.le_refl _
def OO {first last b c:Int} {bs:List Int} (h:Kn first last bs) (hb:∀x∈bs,x<=b) (h1:first<=b) (h2:b<c) (h3:c<=last):Kn first last (bs++[c]):=by
 let⟨ne,asc,hin⟩:=h;refine{by simp,?_,λx hx=>?_}
 ·rw[zT]
  refine{asc,by simp,λx hx y hy=>?_};let ey:y=c:=by simpa using hy
  have:=hb x hx;ext
 ·rcases zF.mp hx with z | z
  ·exact hin x z
  ·let ey:x=c:=by simpa using z
   ext
noncomputable def mj (m:Int) (n k:Nat):Nat:=if k<n then(k+(m/90).toNat)%n else(m/((k:Int)+7)%(n:Int)).toNat
def uM:cZ P w base 1 T.lL uo:=by
 nomatch T.lL,["_law_m","_law_first","_law_last","_law_times","_law_begins","_law_passes","_law_k","_law_spot"]
 let⟨m,first,last,times,rfl,m0,m1,f0,fl,l1,t0,t1,kk⟩:=h;let sl:=yB;refine{_,(ah (aJ (PW.pt (dB (ptr de (pv 2) (pv 1)) (cU (ptr de (aA aS (pv 0) af) af))))
  (ao (au (bI ag)))
  aC)
  (ah (bR 4 qN (bq (aa (aA aW (pv 1) (aA aS (aA aV (pv 0) af) (aA aW (aA fM (pv 2) (pv 1)) af))) ag)))
  (ah (AN yO (PW.pt (dq (ptr fe (d6 aE T.bE (aa (pv 4) ag)) (pv 3)) (dq (ptr fe (fc (pv 4) (qE kF af)) (pv 2)) (cV (ptr eW (aA aS (aA aV (pv 0) (aA aW (aA dM af (d6 aE T.bE (aa (pv 4) ag))) af)) af) af)))))
  (ao (bJ (bU yC yE yD bF (pv 4) (aa (d6 (Mm rfl) T.Tp (aa (pv 2) (aa (aA aW (aA aW (fc (pv 4) (qE kF af)) af) (aA aS (aA aV (pv 0) (aA aW (d6 aE T.bE (aa (pv 4) ag)) af)) af)) ag))) ag)))))
  (ah (O4 (i:=5) (ts:=["_law_begin"]) (ys:=[]) (js:=[]) (te:=(F9 dR)) (bc (pv 4)) (gg 0) bg (bq ag) qN)
  (ah (bZ yO rfl (dg (by rfl) T.dm (aa (pv 3) ag)) (gR 6 qN)
  (ah (bR 7 qN (GQ (ptr fe (pv 6) (d6 aE T.bE (aa (pv 4) ag))) (aA aS (aA aW (pv 6) (aA aV (pv 0) af)) (d6 aE T.bE (aa (pv 4) ag))) (aA aS (aA aV (pv 0) (aA aW (pv 6) af)) (d6 aE T.bE (aa (pv 4) ag)))))
   (ao (bJ (bU yC yE yD bF (fc (pv 5) (pv 7)) (aa (aA aW (pv 6) af) ag))))))
  (ao (au (mD cK T.iB (aa (mE (ts:=["_law_begin","_law_some"]) (ys:=[]) (js:=[]) (g:=(Hw K 2 (fR (bY 0) (fR (bY 1) Hy)))) (te:=(Ec (bM (aY 0) (bM (Lp (RD K) (bM (aY 1) dR)) dR)))) (NO (by rfl) T.N0 (aa (pv 4) (aa (pv 5) ag))) (dy (n:=2) rfl (aM (gg 0) (aM (gg 1) cJ))) bg (bI (aa (pv 0) (aa (mD cK T.iB (aa (pv 1) ag)) ag)))) ag))))))))),?_}
 ac_rfl;left;let none_:∀(Hq:Hp),aB H Hq->(∀p,Hq p=none->Q (.ref p) (upd Hq p (.tup []))):=λHq sq p n=>kk [] (.ref p) _ L8 (sq.trans (bx n)) (cB aF cF);refine qI (decide (V.int last=V.int first)||decide (V.int (m%3)=V.int 0)) ?_ ?_ ?_
 ·intro c1 Z hz
  rw[c1,Bool.false_or] at hz;change hz
 ·intro c1;rw[c1,Bool.true_or]
 cases qv:(decide (V.int last=V.int first)||decide (V.int (m%3)=V.int 0)) with
 | true=>
  change{by show 0<=sizeLine;ext,none_ H (aB.refl _)}
 | false=>
 exists by show 0<last-first+1;ext,?_
 let a0:0<=m/3%(last-first+1):=zv _ ();let a1:m/3%(last-first+1)<last-first+1:=zr _ ();exists by show 1<=sizeLine;ext,λB nB=>?_
 generalize hU1:upd H B _=H1;let s1:aB H H1:=aB.i7 hU1 nB;let h1:H1 B=some (.lst ([first+m/3%(last-first+1)].map V.int)):=jq hU1;let b1:Kn first last [first+m/3%(last-first+1)]:=by
  refine{by simp,by simp,λb hb=>?_};have:b=first+m/3%(last-first+1):=by simpa using hb
  ext
 clear hU1;left;refine Lg (λn U H'=>∃bs:List Int,n=9-⇑bs/\U=[some (.int m),some (.int first),some (.int last),some (.int times),some (.ref B),none,none,none]/\aB H H'/\H' B=some (.lst (bs.map V.int))/\Kn first last bs/\(⇑bs:Int)<=times)
  (λU H'=>∃bs:List Int,U=[some (.int m),some (.int first),some (.int last),some (.int times),some (.ref B),none,none,none]/\aB H H'/\H' B=some (.lst (bs.map V.int))/\Kn first last bs/\(⇑bs:Int)<=times)
  {_,_,rfl,rfl,s1,h1,b1,by show(1:Int)<=times;ext} ?_ ?_
 ·rintro n U H2 ⟨bs,rfl,rfl,s2,h2,b2,bl⟩ N hN
  let⟨lb,hlb,lb0,lb1,lbx⟩:=OP b2;let out:=hN _ _ {(bs),rfl,s2,h2,b2,bl};exists B,_,rfl,.inl (aI.of h2),?_;rw[za];left;let q0:0<=m/(7*(⇑bs:Int)+5)%4:=zv _ ∅;refine dX (decide ((⇑bs:Int)<times)&&(decide (lb<last)&&decide (0<m/(7*(⇑bs:Int)+5)%4))) ?_ ?_ ?_
  ·intro c1 Z hz
   rw[c1,yU] at hz;exists B,_,-1,_,rfl,rfl,aI.of h2,rD hlb,?_;left;refine dX (decide (lb<last)&&decide (0<m/(7*(⇑bs:Int)+5)%4)) ?_ ?_ hz
   ·intro c2 Z hz
    rw[c2,yU] at hz;exists B,_,rfl,.inl (aI.of h2),?_;rw[za];exists{by show 0<7*(⇑bs:Int)+5;ext,by show 7*(⇑bs:Int)+5<1073741824;ext},?_;change hz
   ·intro c2;rw[c2,yS]
  ·intro c1;rw[c1,yS]
  cases qw:(decide ((⇑bs:Int)<times)&&(decide (lb<last)&&decide (0<m/(7*(⇑bs:Int)+5)%4))) with
  | false=>exact cq rfl out
  | true=>
   simp only[zN,xB] at qw;let⟨c1,c2,c3⟩:=qw;refine b7 rfl {λU H'=>∃bs':List Int,⇑bs'=⇑bs+1/\U=[some (.int m),some (.int first),some (.int last),some (.int times),some (.ref B),none,none,none]/\aB H H'/\H' B=some (.lst (bs'.map V.int))/\Kn first last bs'/\(⇑bs':Int)<=times,?_,?_}
   ·rintro U' H' ⟨bs',e1,e2,e3,e4,e5,e6⟩
    exact{9-⇑bs',(),bs',rfl,e2,e3,e4,e5,e6}
   exists .inl {rfl,_,aI.of h2},?_;exists B,_,-1,_,rfl,rfl,aI.of h2,rD hlb,?_;exists B,_,rfl,.inl (aI.of h2),?_;rw[za];exists{by show 0<(⇑bs:Int)+11;ext,by show(⇑bs:Int)+11<1073741824;ext},?_;left;let r0:0<=m/((⇑bs:Int)+11)%3:=zv _ ∅;refine{_,_,rfl,?_};exists B,_,_,rfl,rfl,h2,by rw[za];ext,?_
   left;refine{bs++[if lb+1+m/((⇑bs:Int)+11)%3<last then lb+1+m/((⇑bs:Int)+11)%3 else last],by rw[zg];rfl,rfl,bC nB s2,by rw[aF,zj];rfl,OO b2 lbx lb0 ?_ ?_,by rw[zg];show((⇑bs+1:Nat):Int)<=times;ext}
   ·split <;> ext
   ·split <;> ext
 ·clear s1 h1 b1
  rintro σ1 H1 ⟨bs,rfl,s1,h1,b1,bl⟩;let bp:0<⇑bs:=yq.mpr b1.1;exists{_,aI.of h1},?_;refine Fs (by rw[za];ext) (aI.of h1) {(none),rfl} λD qs H2 s2 nD h2 nd nDq ql hq=>?_;rw[za] at ql;exists by ext,(),?_
  let neB:∀q∈qs,q≠B:=λq hq' e=>by
   have:=(hq q hq').1;rw[e,h1] at this;cases this
  let tn:((times.toNat:Nat):Int)=times:=()
  refine gn (λk U H'=>∃(v6 v7:Option V),U=[some (.int m),some (.int first),some (.int last),some (.int times),some (.ref B),some (.ref D),v6,v7]/\aB H H'/\H' B=some (.lst (bs.map V.int))/\H' D=some (.lst (qs.map V.ref))/\∀(i:Nat) (q:vy),qs[i]?=some q->H' q=some (.lst ((cM (mj m ⇑bs) k i).map V.int)))
   {none,none,rfl,s1.trans s2,s2 _ _ h1,h2,λi q e=>(hq q (zB e)).2} ?_ ?_
  ·intro k U H3 hk hh
   refine dG λN kN0 kR0 _ _=>?_;let⟨v6,v7,rfl,s3,hB3,hD3,hq3⟩:=hh;left;let m90:0<=m/90:=zV m0 ∅;let sl0:mj m ⇑bs k<⇑bs:=by
    unfold mj;split
    ·exact ve _ bp
    ·have:=zr (m/((k:Int)+7)) (b:=(⇑bs:Int)) ()
     have:=zv (m/((k:Int)+7)) (b:=(⇑bs:Int)) ();ext
   refine{B,_,rfl,.inl (aI.of hB3),?_};rw[za];left;refine Vc (H:=H3) (.int ((mj m ⇑bs k:Nat):Int)) ?_ ?_ ?_
   ·intro c1 Z hz
    let c1':k<⇑bs:=by have:=yd c1;ext
    let e:((mj m ⇑bs k:Nat):Int)=(0+(k:Int)+m/90)%(⇑bs:Int):=by
     unfold mj;rw[yN c1',Int.natCast_emod,Int.natCast_add,Int.toNat_of_nonneg m90,Int.zero_add]
    rw[e] at hz;exists B,_,rfl,.inl (aI.of hB3),?_;rw[za];change{by show 0<(⇑bs:Int);ext,hz}
   ·intro c1 Z hz
    let c1':¬k<⇑bs:=by have:=of_decide_eq_false c1;ext
    let e:((mj m ⇑bs k:Nat):Int)=m/(0+(k:Int)+7)%(⇑bs:Int):=by
     unfold mj;rw[yM c1',Int.zero_add,Int.toNat_of_nonneg (zv _ ())]
    rw[e] at hz;exists{by show 0<0+(k:Int)+7;ext,by show 0+(k:Int)+7<1073741824;ext},?_;exists B,_,rfl,.inl (aI.of hB3),?_;rw[za];change{by show 0<(⇑bs:Int);ext,hz}
   left;let qe:qs[mj m ⇑bs k]?=some (qs[mj m ⇑bs k]'()):=zb ();generalize qs[mj m ⇑bs k]'()=q at qe;let qm:=zB qe;refine{D,_,_,.ref q,rfl,rfl,aI.of hD3,bj (by rw[zJ,qe];rfl),?_};let hq3':=hq3 _ _ qe;refine{.inl {rfl,_,aI.of hq3'},?_};exists q,_,_,rfl,rfl,hq3',by rw[za];have:=AQ (sp:=mj m ⇑bs) (i:=mj m ⇑bs k) (k:=k);ext,?_
   exists _,_,rfl,bC (s1.back (hq q qm).1) s3,by rw[aG (neB q qm).symm];exact hB3,by rw[aG (λz=>nDq (by rw[z];exact qm))];exact hD3,λi q' e=>?_
   by_cases ei:i=mj m ⇑bs k
   ·have:q'=q:=by rw[ei,qe] at e;exact(yj e).symm
    rw[this,aF,cM,yN ei,zj,Int.zero_add,ei];rfl
   ·let nq:q'≠q:=λz=>by
     rw[z] at e;exact ei (Hh nd e qe)
    rw[aG nq,cM,yM ei];exact hq3 i q' e
  ·rintro U H3 ⟨v6,v7,rfl,s3,hB3,hD3,hq3⟩
   left;let eb:=sC V.int 0 bs;let eq:=sC V.ref 0 qs;rw[ql] at eq;refine{false,false,B,D,_,_,rfl,aI.of hB3,aI.of hD3,?_};refine J2 (ws:=List.range ⇑bs) (e1:=λi=>.int (bs.getD i 0)) (e2:=λi=>.ref (qs.getD i 0)) (λi=>mz (bs.getD i 0,cM (mj m ⇑bs) times.toNat i)) (λU=>∃v w,U=[v,w]) (by rw[zQ];ext) (by rw[eb];exact aI.of hB3) (by rw[eq];exact aI.of hD3) {(none),none,rfl} ?_ ?_
   ·rintro i U H4 p R hi s4 hp ⟨v,w',rfl⟩ rr
    let il:=yQ.mp hi;let qe:qs[i]?=some (qs.getD i 0):=by rw[List.getD_eq_getElem?_getD,zb ()];rfl
    let h5:=s4 _ _ (hq3 i _ qe);refine{p,_,rfl,cu.of hp,rfl,?_};refine{_,_,rfl,{_,_,rfl,{rfl,?_}}};left;refine{_,_,rfl,.inl {aI.of h5,?_}};intros p6 H6 s6 h6;exists cT,?_;intros p7 H7 s7 h7;exact rr _ _ _ (s6.trans s7) (cB h7 (aR cG (aR (cB (s7 _ _ h6) qW) cF))) {_,_,rfl}
   ·intro D5 vs5 H5 s5 _ h5 il5
    rw[L9] at il5;left;refine{D5,_,rfl,.inl {aI.of h5,?_}};intros p6 H6 s6 h6;refine kk _ _ _ ?_ ((s3.trans s5).trans s6) (cB h6 (il5.mono s6));have:=JP (first:=first) (last:=last) (t:=times.toNat) (bs:=bs) (sp:=mj m ⇑bs) () b1.1 b1.2.1 b1.2.2 ?_ ?_ ()
    ·rw[tn] at this;exact this
    ·intro j hj
     unfold mj;split
     ·exact ve _ bp
     ·have:=zr (m/((j:Int)+7)) (b:=(⇑bs:Int)) ()
      have:=zv (m/((j:Int)+7)) (b:=(⇑bs:Int)) ();ext
    ·intro i hi
     let⟨j,hj,ej⟩:=Pl (c:=(m/90).toNat) hi;exact{j,(),by unfold mj;rw[yN hj];exact ej}
def FQ (many:Int) (r:Rep):Prop:=0<=r.first/\r.first<=r.last/\r.last<many/\2<=r.times/\r.times<=9/\Lb r.first r.last r.times r.ends
def DW (many:Int) (rs:List Rep):Prop:=⇑rs<=4/\(∀r∈rs,FQ many r)/\rs.Pairwise λa b=>a.last<b.first
inductive oK (vs:List V) (H:Hp) (Q:VK) (E:XK):Prop
 | mk (c many:Int) (_:vs=[.int c,.int many]) (_:many<=200) (_:∀(rs:List Rep) D us H',DW many rs->aB H H'->H' D=some (.lst us)->aD H' (rs.map ji) us->Q (.ref D) H')
def pk:cZ P w base 2 T.hV oK:=by
 nomatch T.hV,["_law_cell","_law_many","_law_repeats","_law_bar","_law_k","_law_m","_law_first","_law_last","_law_times"]
 let⟨c,many,rfl,my,kk⟩:=h;let sl:=yB;refine{_,(ah (bR 2 qN (bq ag))
  (ah (bR 3 qN af)
  (ah (bZ yO rfl (dg (by rfl) T.dm (aa af ag)) (gR 4 qN)
  (ah (bR 5 qN (bN (bP T) hr T.cm (aa (pv 0) (aa (aA aW (pv 4) af) ag))))
   (ah (bR 6 qN (aA aW (pv 3) (aA aS (pv 5) af)))
   (ah (bR 7 qN (aA aW (pv 6) (aA aS (aA aV (pv 5) af) af)))
   (ao (aJ (PW.pt (dq (ptr fe (pv 7) (pv 1)) (cV (ptr eW (aA aS (aA aV (pv 5) af) af) af))))
   (ah (bR 8 qN (aA aW af (aA aS (aA aV (pv 5) af) (fc (bq (aa af (aa af (aa af ag)))) (aA aS (aA aV (pv 5) af) af)))))
    (ah (bJ (bU yC yE yD bF (pv 2) (aa (bI (aa (pv 6) (aa (pv 7) (aa (pv 8) (aa (bN (uM T) hr T.lL (aa (aA aV (pv 5) af) (aa (pv 6) (aa (pv 7) (aa (pv 8) ag))))) ag))))) ag)))
    (ao (bR 3 qN (aA aW (pv 7) af)))))
   aC))))))
  (ao (au (pv 2)))))),?_}
 ac_rfl;left
 intros D nD s2 h2 H2
 exists by decide,(by decide),?_
 refine gn (λi U H'=>∃(rs:List Rep) (us:List V) (bar:Int),Lo [some (.int c),some (.int many),some (.ref D),some (.int bar)] 5 U/\aB H H'/\H' D=some (.lst us)/\aD H' (rs.map ji) us/\⇑rs<=i/\0<=bar/\(∀r∈rs,FQ many r/\r.last<bar)/\rs.Pairwise λa b=>a.last<b.first)
  {[],[],0,Lo.of rfl rfl,s2,h2,cF,zk _,∅,by simp,by simp} ?_ ?_
 ·intro i U H3 hi hh
  refine dG λN kN0 kR0 _ _=>?_;let⟨rs,us,bar,⟨e,rfl⟩,s3,h3,il3,rl,b0,uF,asc⟩:=hh;exists c,_,rfl,(),(),?_;let m0:0<=mixed c (0+(i:Int)+500):=zv _ ∅;let m1:mixed c (0+(i:Int)+500)<2147483399:=zr _ ∅;generalize mixed c (0+(i:Int)+500)=m at m0 m1;let a0:0<=m%4:=zv _ ∅;let e0:0<=m/4%8:=zv _ ∅;left;refine dX (decide (bar+m%4+m/4%8<many)&&decide (0<m/32%4)) ?_ ?_ ?_
  ·intro c1 Z hz
   rw[c1,yU] at hz;change hz
  ·intro c1;rw[c1,yS]
  cases qw:(decide (bar+m%4+m/4%8<many)&&decide (0<m/32%4)) with
  | false=>
   change{rs,us,bar,Lo.of rfl rfl,s3,h3,il3,(),b0,uF,asc}
  | true=>
   simp only[zN,xB] at qw;let⟨c1,c2⟩:=qw;exists by show 3<=sizeLine;ext,?_
   intros p4 H4 s4 h4;let g0:0<=m/1024%3:=zv _ ∅;let g1:m/1024%3<3:=zr _ ∅;obtain⟨jj,hjj⟩:∃j:Nat,m/1024%3=(j:Int):={(m/1024%3).toNat,()}
   obtain⟨z,hz,z0,z1⟩:∃z:Int,[V.int 2,V.int 3,V.int 8][jj]?=some (.int z)/\2<=z/\z<=8:=by
    have:jj<3:=()
    match jj,this with
    | 0,_=>exact{2,rfl,∅,∅}
    | 1,_=>exact{3,rfl,∅,∅}
    | 2,_=>exact{8,rfl,∅,∅}
   exists p4,_,m/1024%3,.int z,rfl,rfl,aI.of h4,(by rw[hjj];exact bj hz),?_;exists by show 0<z;ext,?_
   let t0:0<=m/128%z:=zv _ ();let t1:m/128%z<z:=zr _ ();exists .inl {rfl,_,aI.of (s4 _ _ h3)},?_;left;refine{_,_,_,_,rfl,zV m0 ∅,?_,(),(),(),(),(),λes v H5 eok s5 h5=>?_}
   ·have:=zW (a:=m) 7 m0;ext
   exists by show 4<=sizeLine;ext,?_
   intros p6 H6 s6 h6;let s36:=s4.trans (s5.trans s6);let h36:=s36 _ _ h3;refine{D,us,_,rfl,rfl,h36,by have:=aQ il3;ext,?_};let nt:cP (H6 D):=by rw[h36];exact λ_ z=>by cases z
   let ix:Is H6 (ji {bar+m%4,bar+m%4+m/4%8,2+m/128%z,es}) (.ref p6):=cB h6 (aR cG (aR cG (aR cG (aR (h5.mono s6) cF))));left;refine{rs++[{bar+m%4,bar+m%4+m/4%8,2+m/128%z,es}],_,_,Lo.of rfl rfl,bC nD (s3.trans s36),aF,?_,by rw[zg];show ⇑rs+1<=i+1;ext,(),λr hr=>?_,?_}
   ·rw[zj]
    exact cS (Is.upd nt ix) (aD.upd nt (il3.mono s36))
   ·rcases zF.mp hr with y | y
    ·have:=uF r y
     exact{(this.1),()}
    ·rw[zy.mp y]
     exact{{by show 0<=bar+m%4;ext,by show bar+m%4<=bar+m%4+m/4%8;ext,c1,by show 2<=2+m/128%z;ext,by show 2+m/128%z<=9;ext,eok},by show bar+m%4+m/4%8<bar+m%4+m/4%8+1;ext}
   ·rw[zT]
    refine{asc,by simp,λa ha b hb=>?_};let eb:b=⟨bar+m%4,bar+m%4+m/4%8,2+m/128%z,es⟩:=by simpa using hb
    rw[eb];have:=(uF a ha).2;show a.last<bar+m%4;ext
 ·rintro U H3 ⟨rs,us,bar,⟨e,rfl⟩,s3,h3,il3,rl,b0,uF,asc⟩
  change kk rs D us H3 {rl,λr hr=>(uF r hr).1,asc} s3 h3 il3
def QW (H:Hp) (p:vy) (rs:List Rep):Prop:=⇑rs<=1000/\(∀r∈rs,⇑r.ends<=1000)/\∃rv,H p=some (.lst rv)/\aD H (rs.map ji) rv
theorem QW.mono {H H':Hp} (s:aB H H') {p:vy} {rs:List Rep} (h:QW H p rs):QW H' p rs:=by
 let⟨h1,h2,rv,h3,h4⟩:=h;exact{h1,h2,rv,s _ _ h3,h4.mono s}
inductive gW (vs:List V) (H:Hp) (Q:VK) (E:XK):Prop
 | mk (p:vy) (rs:List Rep) (b:Int) (_:vs=[.ref p,.int b]) (_:QW H p rs) (_:∀H',aB H H'->Q (.bl (jO rs b)) H')
inductive jW (vs:List V) (H:Hp) (Q:VK) (E:XK):Prop
 | mk (p:vy) (rs:List Rep) (b:Int) (_:vs=[.ref p,.int b]) (_:QW H p rs) (_:∀H',aB H H'->Q (.bl (eI rs b)) H')
def oC:cZ P w base 1 T.lK jW:=by
 nomatch T.lK,["_law_repeats","_law_bar"]
 let⟨p,rs,b,rfl,⟨rl,el,rv,hp,il⟩,kk⟩:=h;let sl:=yB;let⟨ps,e1,e2,e3⟩:=gP il;let pln:⇑ps=⇑rs:=by rw[<-e1,za]
 refine{_,(ao (au (d6 (gy rfl) T.A1 (aa (mE (ts:=["_law_first","_law_last","_law_times","_law_ends"]) (ys:=["_law_bar"]) (js:=[1]) (g:=(Hw K 4 (fR (bY 0) (fR (bY 1) (fR (bY 2) (fR (bY 3) Hy)))))) (te:=(Ag (uG λi j=>.bl (decide (i<j))) (uG λi j=>.bl (decide (i<=j))) (aY 0) (aY 4) (aY 1))) (bc (pv 0)) (dy (n:=4) rfl (aM (gg 0) (aM (gg 1) (aM (gg 2) (aM (gg 3) cJ))))) bg (GS fe ic (pv 0) (pv 4) (pv 1))) ag)))),?_};ac_rfl;exists{_,aI.of hp},?_;refine dz (enc:=λq:Rep×V=>q.2) (ws:=ps) (λq=>.bl (decide (q.1.first<b)&&decide (b<=q.1.last))) (λU=>∃v1 v2 v3 v4,U=[v1,v2,v3,v4,some (.int b)]) () (by rw[e2];exact aI.of hp) {_,_,_,_,rfl} ?_ ?_
 ·rintro z U H1 R hz s1 ⟨v1,v2,v3,v4,rfl⟩ rr
  let⟨a,e,ev,ha,_⟩:=eX ((e3 z hz).mono s1);rw[ev];refine{a,_,rfl,cu.of ha,rfl,?_};refine{_,_,rfl,{_,_,rfl,{_,_,rfl,{_,_,rfl,{rfl,?_}}}}};left
  by_cases c:z.1.first<b
  ·refine b7 (ze c) ?_
   change rr _ _ _ (aB.refl _) (by rw[ze c,yU];unfold Is;rfl) {_,_,_,_,rfl}
  ·refine cq (zd c) ?_
   exact rr _ _ _ (aB.refl _) (by rw[zd c,yS];unfold Is;rfl) {_,_,_,_,rfl}
 ·intro D vs H1 s1 nD hD ilD
  let ee:ps.map (λq:Rep×V=>Dt.bl (decide (q.1.first<b)&&decide (b<=q.1.last)))=(rs.map λr=>decide (r.first<b)&&decide (b<=r.last)).map Dt.bl:=by rw[<-e1,zA,zA];rfl
  rw[ee] at ilD;rw[jf ilD] at hD;exists D,_,rfl,aI.of hD,?_;have:=kk _ s1;unfold eI at this;rw[wC];exact this
def l8:cZ P w base 1 T.iO gW:=by
 nomatch T.iO,["_law_repeats","_law_bar","_law_first","_law_last","_law_times","_law_ends","_law_mine"]
 let⟨p,rs,b,rfl,⟨rl,el,rv,hp,il⟩,kk⟩:=h;let sl:=yB;let rvl:=aQ il;refine{_,(ah (bZ yO rfl (bc (pv 0)) (dy (n:=4) rfl (aM (gR 2 qN) (aM (gR 3 qN) (aM (gR 4 qN) (aM (gR 5 qN) cJ)))))
  (ao (aJ (NH ic ic (pv 2) (pv 1) (pv 3))
   (ah (O4 (i:=6) (ts:=["_law_begin","_law_passes"]) (ys:=["_law_bar"]) (js:=[1]) (g:=(Hw K 2 (fR (bY 0) (fR (bY 1) Hy)))) (tc:=(lO (eO (uG λi j=>.bl (decide (i<=j))) (aY 0) (aY 2)))) (te:=(aY 1)) (gX (pv 5)) (dy (n:=2) rfl (aM (gg 0) (aM (gg 1) cJ))) (gD (ptr ic (pv 0) (pv 2))) (pv 1) qN)
    (ao (au (KH (cW (AS hr.units) (pv 6) (bq ag) (fq _)) (jY (cW ki (pv 4) (fc (pv 6) (qE kF af)) (by with_unfolding_all rfl)))))))
   aC)))
  (ao (au fL))),?_}
 ac_rfl;exists{_,aI.of hp},?_;refine fi (K:=K) (a:=p) (xs:=rv) (λi U H'=>H'=H/\(∀r∈rs.take i,FV r b=false)/\∃(v2 v3 v4 v5 v6:Option V),U=[some (.ref p),some (.int b),v2,v3,v4,v5,v6]) {rfl,by simp,none,none,none,none,none,rfl} (λi U H' _ h=>by rw[h.1];exact aI.of hp) ?_ ?_
 ·rintro i x U H1 hx ⟨rfl,no,v2,v3,v4,v5,v6,rfl⟩
  let⟨r,hr',ir⟩:=cA il hx;let⟨a,ep,rfl,ha,ie⟩:=eX ir;let rin:=zB hr';let nxt:FV r b=false->∀y∈rs.take (i+1),FV y b=false:=λe y hy=>by
   rw[cC hr'] at hy;rcases zF.mp hy with z | z
   ·exact no y z
   ·rw[zy.mp z];exact e
  refine{a,_,rfl,cu.of ha,rfl,?_};refine{_,_,rfl,{_,_,rfl,{_,_,rfl,{_,_,rfl,{rfl,?_}}}}};left
  by_cases c1:r.first<=b
  ·refine b7 (ze c1) ?_
   left
   by_cases c2:b<=r.last
   ·refine b7 (ze c2) ?_
    left;obtain⟨ep',evs,e0,hep,ile⟩:∃ep' evs,V.ref ep=.ref ep'/\H1 ep'=some (.tup evs)/\aD H1 (r.ends.map mz) evs:=by unfold Is at ie;exact ie
    cases e0;let⟨ps,e1,e2,e3⟩:=gP ile;let pln:⇑ps=⇑r.ends:=by rw[<-e1,za]
    let elr:=el r rin;refine{{_,cu.of hep},?_};let hro:dC rs b=some r:=Ba hr' (by rw[ze c1,ze c2];rfl) λy hy=>no y hy;refine Bv (ws:=ps) (enc:=λq:Sc.End×V=>q.2) (λq=>decide (q.1.1<=b)) (λq=>tY q.1.2) (λU=>∃v w',U=[v,w',some (.int b)]) () {_,_,rfl} (λi H hi sm=>JH (iR sm hep) (by rw[<-e2,za];exact hi)) (λH sm=>{_,iR sm hep,by rw[<-e2,za];exact zk _}) ?_ ?_ ?_
    ·rintro i x H H2 hi sm ⟨rfl,hy⟩
     let hx':=hy _ (iR sm hep);rw[<-e2,zJ,zb hi] at hx';cases hx';exact{(rfl),rfl}
    ·rintro z U H2 R N hz s2 ⟨v,w',rfl⟩ rr nn
     let⟨a2,q2,ev,ha2,hq2⟩:=m8 ((e3 z hz).mono s2);rw[ev];refine{a2,_,rfl,cu.of ha2,rfl,?_};refine{_,_,rfl,{_,_,rfl,{rfl,?_}}};left
     by_cases c3:z.1.1<=b
     ·refine b7 (ze c3) ?_
      change rr (ze c3) _ _ _ (aB.refl _) (cB hq2 qW) {_,_,rfl}
     ·refine cq (zd c3) ?_
      exact nn (zd c3) _ _ (aB.refl _) {_,_,rfl}
    ·intro D vs H2 s2 nD hD ilD
     let ee:(ps.filter λq:Sc.End×V=>decide (q.1.1<=b)).map (λq=>tY q.1.2)=((r.ends.filter λe=>decide (e.1<=b)).map (·.2)).map tY:=by
      rw[<-e1,List.filter_map,zA,zA];rfl
     rw[ee] at ilD;let vl:=aQ ilD;rw[za] at vl;exists by show 0<=sizeLine;ext,?_
     intros p3 H3 s3 h3;refine{D,p3,_,_,rfl,rfl,.inl {aI.of (s3 _ _ hD),aI.of h3},.inr (.inl rfl),?_};let hlp:jO rs b=(match (r.ends.filter λe=>decide (e.1<=b)).getLast? with | none=>true | some e=>decide (r.times∈e.2)):=by unfold jO;rw[hro];try rfl
     rw[hlp] at kk;clear hlp ee;generalize (r.ends.filter λe=>decide (e.1<=b))=fs at kk ilD vl;let s13:=s2.trans s3
     by_cases e:vs=[]
     ·refine{_,rfl,b7 (ze e) ?_}
      have:fs=[]:=by
       rw[e] at vl;exact yr.mp vl.symm
      rw[this] at kk;exact kk _ s13
     ·refine{_,rfl,cq (zd e) ?_}
      let vp:0<⇑vs:=yq.mpr e;let⟨ps5,hps5,i5⟩:=cA ilD (i:=⇑vs-1) (zb ());rw[zJ] at hps5;cases qf:fs[⇑vs-1]? with
      | none=>rw[qf] at hps5;cases hps5
      | some en=>
       rw[qf] at hps5;let e5:en.2=ps5:=yj hps5;subst e5;let gl:fs.getLast?=some en:=by rw[wg,<-vl];exact qf
       rw[gl] at kk;unfold tY Is at i5;let⟨a5,us5,ev5,ha5,il5⟩:=i5;rw[d4 il5] at ha5;left;refine{D,vs,-1,_,rfl,rfl,aI.of (s3 _ _ hD),rD (zb ()),?_};rw[ev5];refine{a5,_,rfl,.inr (cu.of (s3 _ _ ha5)),rfl,by rw[wa];exact yo.mpr λx _=>rfl,?_};show Q (.bl (E4 (.int r.times) (en.2.map V.int))) _;rw[vN];exact kk _ s13
   ·refine cq (zd c2) ?_
    change{nxt (by unfold FV;rw[zd c2,wG]),_,_,_,_,_,rfl}
  ·refine cq (zd c1) ?_
   change{nxt (by unfold FV;rw[zd c1,yS]),_,_,_,_,_,rfl}
 ·rintro U H1 ⟨rfl,no,v2,v3,v4,v5,v6,rfl⟩
  left;let e:jO rs b=true:=by
   unfold jO;rw[show dC rs b=none from xR.mpr λy hy=>by
    have:=no y (by rw[rvl,zM];exact hy);unfold FV at this;rw[this];simp]
  rw[e] at kk;exact kk _ (aB.refl _)
def DW.apart {many:Int} {rs:List Rep} (h:DW many rs):Apart rs:=by
 refine{λr hr=>?_,h.2.2};let⟨h1,h2,h3,h4,h5,e1,e2,e3,e4,e5⟩:=h.2.1 r hr;exact{h2,e5,λe he=>{(e3 e he).1,(e3 e he).2.1}}
inductive um (vs:List V) (H:Hp) (Q:VK) (E:XK):Prop
 | mk (c many:Int) (p:vy) (rs:List Rep) (_:vs=[.int c,.int many,.ref p]) (_:QW H p rs) (_:DW many rs) (_:1<=many) (_:many<=200) (_:∀(jo:Option Jump) v H',(∀j,jo=some j->OZ many rs j)->aB H H'->Is H' (dO jk jo) v->Q v H')
def K3 {l:List Int} {j:Nat} (h:j<⇑l):∃x,(l.map V.int)[j]?=some (.int x)/\x∈l:={l[j],by rw[zJ,zb h];rfl,yk h}
def Jz {m:Int} {l:List Int} (h:l≠[]):∃x,DV (l.map V.int) (m%(⇑l:Int))=some (.int x)/\x∈l:=by
 let hp:0<⇑l:=yq.mpr h;let a0:=zv m (b:=(⇑l:Int)) ();let a1:=zr m (b:=(⇑l:Int)) ();obtain⟨j,hj⟩:∃j:Nat,m%(⇑l:Int)=(j:Int):={(m%(⇑l:Int)).toNat,()}
 let⟨x,e1,e2⟩:=K3 (l:=l) (j:=j) ();exact{x,by rw[hj];exact bj e1,e2}
def Ip (l:List Int):(l.map V.int).all mf=true:=by rw[wa];exact yo.mpr λ_ _=>rfl
def ma:cZ P w base 2 T.iP um:=by
 nomatch T.iP,["_law_cell","_law_many","_law_repeats","_law_m","_law_lasts","_law_inside","_law_ats","_law_at","_law_tos","_law_to","_law_untils","_law_codas"]
 let⟨c,many,p,rs,rfl,rsl,rd,mn1,mn2,kk⟩:=h;let sl:=yB;let ap:=rd.apart;let⟨rl,el,rv,hp,il⟩:=id rsl;let⟨ps,e1,e2,e3⟩:=gP il;let pln:⇑ps=⇑rs:=by rw[<-e1,za]
 refine{_,(ah (bR 3 qN (bN (bP T) hr T.cm (aa (pv 0) (aa af ag))))
  (ah (bR 4 qN (mE (ts:=["_law_first","_law_last","_law_times","_law_ends"]) (ys:=[]) (js:=[]) (g:=(Hw K 4 (fR (bY 0) (fR (bY 1) (fR (bY 2) (fR (bY 3) Hy)))))) (te:=(aY 1)) (bc (pv 2)) (dy (n:=4) rfl (aM (gg 0) (aM (gg 1) (aM (gg 2) (aM (gg 3) cJ))))) bg (pv 1)))
  (ah (bR 5 qN (mE (ts:=["_law_bar"]) (ys:=["_law_repeats"]) (js:=[2]) (g:=(bY 0)) (tc:=(tB (Lp (U6 K) (bM (mJ [none,some 0] (KP K (aY 1)) (bY 0) uf (Ag (uG λi j=>.bl (decide (i<=j))) (uG λi j=>.bl (decide (i<=j))) (eO (kU K) (aY 0) (tC (.int (0)))) (aY 1) (eO (kU K) (aY 0) (tC (.int (1)))))) dR)))) (te:=(aY 0)) (dg (by rfl) T.dm (aa (pv 1) ag)) (gg 0) (gD (cy (d6 (gy rfl) T.A1 (aa (mE (ts:=["_law_one"]) (ys:=["_law_bar"]) (js:=[0]) (te:=(Ag (uG λi j=>.bl (decide (i<=j))) (uG λi j=>.bl (decide (i<=j))) (eO (kU K) (aY 0) (tC (.int (0)))) (aY 1) (eO (kU K) (aY 0) (tC (.int (1)))))) (bc (pv 1)) (gg 0) bg (GS ic ic (bB (pv 0) af) (pv 1) (bB (pv 0) af))) ag)))) (pv 0)))
  (ah (O4 (i:=6) (ts:=["_law_bar"]) (ys:=["_law_lasts","_law_inside"]) (js:=[4,5]) (g:=(bY 0)) (tc:=(Ue (lO (eO (RC K false) (aY 0) (aY 1))) (lO (eO (RC K true) (aY 0) (aY 2))))) (te:=(aY 0)) (dg (by rfl) T.dm (aa (pv 1) ag)) (gg 0) (gD (PW.pt (dB (gC ki (pv 0) (pv 1) (by with_unfolding_all rfl)) (cU (gC dJ (pv 0) (pv 2) (by with_unfolding_all rfl)))))) (pv 0) qN)
  (ah (aJ (PW.pt (dB (ptr de (aA aS (aA aV (pv 3) af) af) af) (cU (ptr (AS hr.units) (pv 6) (bq ag)))))
  (ao (au aT))
  aC)
  (ah (bR 7 qN (fc (pv 6) (aA aS (aA aV (pv 3) af) (d6 aE T.bE (aa (pv 6) ag)))))
  (ah (O4 (i:=8) (ts:=["_law_bar"]) (ys:=["_law_repeats"]) (js:=[2]) (g:=(bY 0)) (tc:=(Pg (tB (fI jW [] E0 (bM (aY 1) (bM (aY 0) dR)))))) (te:=(aY 0)) (dg (by rfl) T.dm (aa (aA aW (pv 7) af) ag)) (gg 0) (gD (eC (cy (bN (oC T) hr T.lK (aa (pv 1) (aa (pv 0) ag)))))) (pv 0) qN)
  (ah (bR 9 qN (fc (pv 8) (aA aS (aA aV (pv 3) af) (d6 aE T.bE (aa (pv 8) ag)))))
  (ah (O4 (i:=10) (ts:=["_law_bar"]) (ys:=["_law_repeats"]) (js:=[2]) (g:=(bY 0)) (tc:=(tB (fI gW [] E0 (bM (aY 1) (bM (aY 0) dR))))) (te:=(aY 0)) (nM (by rfl) T.dm (aa (pv 9) (aa (aA aW (pv 7) af) ag))) (gg 0) (gD (cy (bN (l8 T) hr T.iO (aa (pv 1) (aa (pv 0) ag))))) (pv 0) qN)
  (ah (O4 (i:=11) (ts:=["_law_bar"]) (ys:=["_law_repeats"]) (js:=[2]) (g:=(bY 0)) (tc:=(Rq (Pg (tB (fI jW [] E0 (bM (aY 1) (bM (aY 0) dR))))) (tB (fI gW [] E0 (bM (aY 1) (bM (aY 0) dR)))))) (te:=(aY 0)) (nM (by rfl) T.dm (aa (aA aW (pv 7) af) (aa (pv 1) ag))) (gg 0) (gD (PW.pt (dq (eC (cy (bN (oC T) hr T.lK (aa (pv 1) (aa (pv 0) ag))))) (cV (cy (bN (l8 T) hr T.iO (aa (pv 1) (aa (pv 0) ag)))))))) (pv 0) qN)
  (ah (aJ (ptr (AS hr.units) (pv 10) (bq ag))
  (ao (au aT))
  aC)
  (ao (au (bI (aa (pv 7) (aa (pv 9) (aa (fc (pv 10) (aA aS (aA aV (pv 3) af) (d6 aE T.bE (aa (pv 10) ag)))) (aa (fc (aA fN (bq (aa aT ag)) (pv 11)) (aA aS (aA aV (pv 3) af) (aA aW af (d6 aE T.bE (aa (pv 11) ag))))) ag)))))))))))))))))),?_}
 ac_rfl;exists c,520,rfl,(),(),?_;let m0:0<=mixed c 520:=zv _ ∅;generalize mixed c 520=m at m0;exists{_,aI.of hp},?_;refine dz (enc:=λq:Rep×V=>q.2) (ws:=ps) (λq=>.int q.1.last) (λU=>∃v1 v2 v3 v4,U=[v1,v2,v3,v4]) () (by rw[e2];exact aI.of hp) {_,_,_,_,rfl} ?_ ?_
 ·rintro z U H1 R hz s1 ⟨v1,v2,v3,v4,rfl⟩ rr
  let⟨a,e,ev,ha,_⟩:=eX ((e3 z hz).mono s1);rw[ev];refine{a,_,rfl,cu.of ha,rfl,?_};refine{_,_,rfl,{_,_,rfl,{_,_,rfl,{_,_,rfl,{rfl,?_}}}}};change rr _ _ _ (aB.refl _) cG {_,_,_,_,rfl}
 intro D4 vs4 H4 s4 _ hD4 il4;let ee:ps.map (λq:Rep×V=>Dt.int q.1.last)=(rs.map (·.last)).map Dt.int:=by rw[<-e1,zA,zA];rfl
 rw[ee] at il4;rw[d4 il4] at hD4;clear ee il4;exists by ext,(),?_
 let mt:((many.toNat:Nat):Int)=many:=()
 refine gx (rest:=[some (.ref p)]) (λb=>rs.any λr=>FV r b) () {(none),rfl} ?_ ?_
 ·intro i H5 R i0 i1 s5 hR
  let s05:=s4.trans s5;exists{_,aI.of (s05 _ _ hp)},?_;refine dz (enc:=λq:Rep×V=>q.2) (ws:=ps) (λq=>.bl (FV q.1 i)) (λU=>∃v1,U=[v1,some (.int i)]) () (by rw[e2];exact aI.of (s05 _ _ hp)) {_,rfl} ?_ ?_
  ·rintro z U H6 R hz s6 ⟨v1,rfl⟩ rr
   let⟨a,e,ev,ha,_⟩:=eX ((e3 z hz).mono (s05.trans s6));rw[ev];left
   by_cases c1:z.1.first<=i
   ·refine b7 (ze c1) ?_
    change rr _ _ _ (aB.refl _) (by unfold FV;rw[ze c1,yU];unfold Is;rfl) {_,rfl}
   ·refine cq (zd c1) ?_
    exact rr _ _ _ (aB.refl _) (by unfold FV;rw[zd c1,yS];unfold Is;rfl) {_,rfl}
  ·intro D vs H6 s6 nD hD ilD
   let ee:ps.map (λq:Rep×V=>Dt.bl (FV q.1 i))=(rs.map λr=>FV r i).map Dt.bl:=by rw[<-e1,zA,zA];rfl
   rw[ee] at ilD;rw[jf ilD] at hD;exists D,_,rfl,aI.of hD,?_;rw[wC];exact{_,rfl,hR _ s6}
 intro D5 H5 s5 _ hD5;let hD45:=s5 _ _ hD4;generalize hins:fT (λb=>rs.any λr=>FV r b) 0 many.toNat=ins at hD5;exists by ext,(),?_
 refine gx (rest:=[some (.ref D4),some (.ref D5)]) (λb=>decide (b∈rs.map (·.last))||!decide (b∈ins)) () ⟨none,rfl⟩ ?_ ?_
 ·intro i H6 R i0 i1 s6 hR
  exists D4,_,rfl,.inl (aI.of (s6 _ _ hD45)),rfl,Ip _,?_;show∃k,V.bl (E4 (.int i) ((rs.map (·.last)).map V.int))=.bl k/\_;rw[vN];refine{_,rfl,?_};refine qI (decide (i∈rs.map (·.last))||!decide (i∈ins)) ?_ ?_ (hR _ (aB.refl _))
  ·intro c1 Z hz
   rw[c1,Bool.false_or] at hz;exists D5,_,rfl,.inl (aI.of (s6 _ _ hD5)),rfl,Ip _,?_;show∃k,V.bl (!E4 (.int i) (ins.map V.int))=.bl k/\_;rw[vN];exact{_,rfl,hz}
  ·intro c1;rw[c1,Bool.true_or]
 intro D6 H6 s6 _ hD6;let s06:=(s4.trans s5).trans s6;generalize hats:fT (λb=>decide (b∈rs.map (·.last))||!decide (b∈ins)) 0 many.toNat=ats at hD6;left;let out:∀H',aB H H'->Q .bA H':=λH' s'=>kk none .bA H' (λj z=>by cases z) s' (by unfold dO Is;rfl)
 by_cases c0:m/7%3=0
 ·refine b7 (ze (yY V.int c0)) ?_
  change out _ s06
 refine cq (zd λz=>c0 (V.int.inj z)) ?_;exists by show 0<=sizeLine;ext,?_
 intros p7 H7 s7 h7;refine{D6,p7,_,_,rfl,rfl,.inl {aI.of (s7 _ _ hD6),aI.of h7},.inr (.inl rfl),?_}
 by_cases cn:ats=[]
 ·rw[cn]
  change out _ (s06.trans s7)
 let hn:decide (ats.map V.int=[])=false:=zd (by simpa using cn);rw[hn];let s07:=s06.trans s7;let hD67:=s7 _ _ hD6;left;let⟨at_,hat,atin⟩:=Jz (m:=m/3) cn;let anp:0<⇑ats:=yq.mpr cn;refine{D6,_,rfl,.inl (aI.of hD67),?_};rw[za];exists by show 0<(⇑ats:Int);ext,?_
 refine{D6,_,_,_,rfl,rfl,aI.of hD67,hat,?_};rw[<-hats] at atin;let⟨a0,a1,a2⟩:=nV atin;let a1':at_<many:=()
 let aleave:(∃r∈rs,r.last=at_)\/(rs.any λr=>FV r at_)=false:=by
  rw[Bool.or_eq_true,xB] at a2;rcases a2 with z | z
  ·let⟨r,hr1,hr2⟩:=zG.mp z
   exact .inl {(r),hr1,hr2}
  ·right
   cases q:rs.any λr=>FV r at_ with
   | false=>rfl
   | true=>
    have:at_∈ins:=by rw[<-hins];exact HF a0 () q
    rw[ze this] at z;cases z
 clear hats atin hat;exists by show -2^62<=at_+1;ext,(by show at_+1<2^62;ext),?_
 let pt:∀H',aB H7 H'->QW H' p rs:=λH' s'=>(rsl.mono s07).mono s';refine gx (rest:=[some (.ref p)]) (λb=>!eI rs b) (by show(at_+1).toNat<=sizeLine;ext) {(none),rfl} ?_ ?_
 ·intro i H8 R i0 i1 s8 hR
  change{p,rs,i,rfl,pt _ s8,λH' s'=>{_,rfl,hR _ s'}}
 intro D8 H8 s8 _ hD8;generalize htos:fT (λb=>!eI rs b) 0 (at_+1).toNat=tos at hD8;let tn:tos≠[]:=by
  rw[<-htos];refine List.ne_nil_of_mem (HF (x:=0) () () ?_);have:eI rs 0=false:=by
   unfold eI;rw[vj];intro r hr';have:=(rd.2.1 r hr').1;rw[zd (show¬r.first<0 by ext)];simp
  rw[this];rfl
 let⟨to_,hto,toin⟩:=Jz (m:=m/50) tn;let tnp:0<⇑tos:=yq.mpr tn;exists D8,_,rfl,.inl (aI.of hD8),?_;rw[za];exists by show 0<(⇑tos:Int);ext,?_
 refine{D8,_,_,_,rfl,rfl,aI.of hD8,hto,?_};rw[<-htos] at toin;let⟨b0,b1,b2⟩:=nV toin;let b2':eI rs to_=false:=by cases q:eI rs to_ with
  | false=>rfl
  | true=>rw[q] at b2;cases b2
 clear htos toin hto tnp tn;exists _,_,rfl,{(),(),(by show -2^62<=at_+1;ext),by show at_+1<2^62;ext},?_;refine gx (rest:=[some (.ref p)]) (λb=>jO rs b) (by show(at_+1-to_).toNat<=sizeLine;ext) {(none),rfl} ?_ ?_
 ·intro i H9 R i0 i1 s9 hR
  change{p,rs,i,rfl,pt _ (s8.trans s9),λH' s'=>{_,rfl,hR _ s'}}
 intro D9 H9 s9 _ hD9;generalize hunt:fT (λb=>jO rs b) to_ (at_+1-to_).toNat=unt at hD9;exists _,_,rfl,{by show -2^62<=at_+1;ext,(by show at_+1<2^62;ext),(),()},?_;refine gx (rest:=[some (.ref p)]) (λb=>!eI rs b&&jO rs b) (by show(many-(at_+1)).toNat<=sizeLine;ext) {(none),rfl} ?_ ?_
 ·intro i Ha R i0 i1 sa hR
  left;refine{p,rs,i,rfl,pt _ ((s8.trans s9).trans sa),λH' s'=>{_,rfl,?_}};cases q:eI rs i with
  | true=>
   rw[q] at hR;exact cq rfl (hR _ s')
  | false=>
   rw[q] at hR;refine b7 rfl ?_;change{p,rs,i,rfl,(pt _ ((s8.trans s9).trans sa)).mono s',λH'' s''=>{_,rfl,hR _ (s'.trans s'')}}
 intro Da Ha sa _ hDa;generalize hcod:fT (λb=>!eI rs b&&jO rs b) (at_+1) (many-(at_+1)).toNat=cod at hDa;let cl:⇑cod<=200:=by
  have:=L7 (f:=λb=>!eI rs b&&jO rs b) (lo:=at_+1) (n:=(many-(at_+1)).toNat);rw[hcod] at this;ext
 let s0a:=((s07.trans s8).trans s9).trans sa;exists by show 0<=sizeLine;ext,?_
 intros pb Hb sb hb;let hD9b:=sb _ _ (sa _ _ hD9);refine{D9,pb,_,_,rfl,rfl,.inl {aI.of hD9b,aI.of hb},.inr (.inl rfl),?_}
 by_cases un:unt=[]
 ·rw[un]
  change out _ (s0a.trans sb)
 let hn2:decide (unt.map V.int=[])=false:=zd (by simpa using un);rw[hn2];let⟨u_,hu,uin⟩:=Jz (m:=m/500) un;let unp:0<⇑unt:=yq.mpr un;rw[<-hunt] at uin;let⟨u0,u1,u2⟩:=nV uin;exists D9,_,rfl,.inl (aI.of hD9b),?_;rw[za];exists by show 0<(⇑unt:Int);ext,?_
 refine{D9,_,_,_,rfl,rfl,aI.of hD9b,hu,?_};exists by show 1<=sizeLine;ext,?_
 intros pc Hc sc hc;let hDac:=sc _ _ (sb _ _ hDa);exists pc,Da,_,_,rfl,rfl,aI.of hc,aI.of hDac,by rw[za];show 1+⇑cod<=sizeLine;ext,?_
 intros pd Hd sd hd;exists Da,_,rfl,.inl (aI.of (sd _ _ hDac)),?_;rw[za];exists by show 0<1+(⇑cod:Int);ext,?_
 let k0:0<=m/7%(1+(⇑cod:Int)):=zv _ ();let k1:m/7%(1+(⇑cod:Int))<1+(⇑cod:Int):=zr _ ();obtain⟨kj,hkj⟩:∃j:Nat,m/7%(1+(⇑cod:Int))=(j:Int):={(m/7%(1+(⇑cod:Int))).toNat,()}
 obtain⟨co,cv,hcv,icv,cok⟩:∃(co:Option Int) (cv:V),(V.bA::cod.map V.int)[kj]?=some cv/\(∀H',Is H' (dO Dt.int co) cv)/\∀x,co=some x->x∈cod:=by
  cases kj with
  | zero=>exact{none,.bA,rfl,λH'=>by unfold dO Is;rfl,λx z=>by cases z}
  | succ k=>
   let⟨x,f1,f2⟩:=K3 (l:=cod) (j:=k) ();exact{some x,.int x,by simpa using f1,λH'=>by unfold dO Is;rfl,λy z=>by cases z;exact f2}
 refine{pd,_,_,_,rfl,rfl,aI.of hd,(by rw[hkj];exact bj hcv),?_};exists by show 4<=sizeLine;ext,?_
 intros pe He se he;refine kk (some {(at_),to_,u_,co}) _ _ (λj z=>?_) ((((s0a.trans sb).trans sc).trans sd).trans se) (cB he (aR cG (aR cG (aR cG (aR (icv _) cF)))));cases z;refine R4 ap a0 a1' aleave b0 () b2' u0 () u2 λx hx=>?_;let xin:=cok x hx;rw[<-hcod] at xin;let⟨x0,x1,x2⟩:=nV xin;rw[zN] at x2;refine{(),(),?_,x2.2};cases q:eI rs x with
 | false=>rfl
 | true=>rw[q] at x2;cases x2.1
def MR:∀x∈JA,∀z∈([2,3,5]:List Int),(red x.1 (x.2*z)).1*(red x.1 x.2).2<(red x.1 x.2).1*(red x.1 (x.2*z)).2:=by decide +kernel
structure nA (most:Int) (S:cg):Prop where
 QM:1<=⇑S.players
 pl:⇑S.players<=4
 pn:BV S.players
 ins:T3 S.aq
 st:FO S.players S.aL
 b1:1<=⇑S.aO
 bl:(⇑S.aO:Int)<=most
 bd:∀b∈S.aO,Ko b
 up:∀u,S.aH=some u->∃x z,S.aO[0]?=some x/\z∈([2,3,5]:List Int)/\u=red x.aP.1 (x.aP.2*z)
 hs:List.Sublist (S.holds.map (·.1)) S.players
 hr:∀x∈S.holds,K6 (S.aq.map (·.1)) ⇑S.aO x.2
 no:FR S S.aK
 nl:⇑S.aK<=9*⇑S.aO
 rp:DW ⇑S.aO S.repeats
 ju:∀j,S.bu=some j->OZ ⇑S.aO S.repeats j
def HL {aO:List Sc.MF} {upb:Option (Int×Int)} {S:cg} (eb:S.aO=aO) (eu:S.aH=upb) (bd:∀b∈aO,Ko b) (up:∀u,upb=some u->∃x z,aO[0]?=some x/\z∈([2,3,5]:List Int)/\u=red x.aP.1 (x.aP.2*z)) (b:Nat) (hb:b<⇑aO):MB (S.len b):=by
 let hm:MB (S.aP b):=by
  unfold cg.aP;rw[eb,zb hb];let⟨m1,m2,m3,m4,m5⟩:=jM (bd _ (yk hb)).1;exact JD () () () ()
 unfold cg.len;rw[eu];cases q:upb with
 | none=>exact hm
 | some u=>
  dsimp only;split
  ·let⟨x,z,e1,e2,e3⟩:=up u q
   let⟨m1,m2,m3,m4,m5⟩:=jM (bd _ (zB e1)).1;rw[e3];let z1:2<=z/\z<=5:=by
    simp only[zC,zD,yT] at e2;ext
   let p1:0<x.aP.2*z:=xw () ();let p2:x.aP.2*z<=32*5:=x8 m5 z1.2 () ∅;exact JD () () p1 ()
  ·exact hm
inductive rT (K:yA) (vs:List V) (H:Hp) (Q:VK) (E:XK):Prop
 | mk (a:vy) (ns:List Int) (most:Int) (_:vs=[.ref a,.int most]) (_:aI K H a (ns.map V.int)) (_:⇑ns<=1000) (_:1<=most) (_:most<=24) (_:∀S p H',nA most S->aB H H'->kD H' p S->Q (.ref p) H')
def sG:cZ P w base 4 T.ka (rT K):=by
 nomatch T.ka,["_law_script","_law_most","_law_m","_law_players","_law_instruments","_law_many","_law_bars","_law_upbeat","_law_holds","_law_notes","_law_repeats","_law_jump","_law_staffs"]
 let⟨a,ns,most,rfl,hS,nl,mo1,mo2,kk⟩:=h;let sl:=yB;refine{_,(ah (bR 2 qN (bN (bP T) hr T.cm (aa (bN (bQ T) hr T.bX (aa (pv 0) (aa af ag))) (aa af ag))))
  (ah (bR 3 qN (bN (eQ T) hr T.dY (aa (aA aV (pv 2) af) (aa (aA aW af (aA aS (pv 2) af)) ag))))
  (ah (bR 4 qN (bN (lq T) hr T.eZ (aa (bN (bQ T) hr T.bX (aa (pv 0) (aa af ag))) ag)))
  (ah (bR 5 qN (aA aW af (aA aS (bN (bP T) hr T.cm (aa (bN (bQ T) hr T.bX (aa (pv 0) (aa af ag))) (aa af ag))) (pv 1))))
  (ah (bR 6 qN (bN (uN T) hr T.lM (aa (bN (bQ T) hr T.bX (aa (pv 0) (aa af ag))) (aa (pv 5) ag))))
  (ah (bR 7 qN aT)
  (ah (aJ (ptr de (aA aS (aA aV (pv 2) af) af) af)
  (ao (bR 7 qN (bN (fO T) hr T.fE (aa (bB (bB (fc (pv 6) af) af) af) (aa (aA dM (bB (bB (fc (pv 6) af) af) af) (fc (bq (aa af (aa af (aa af ag)))) (aA aS (aA aV (pv 2) af) af))) ag)))))
  aC)
  (ah (bR 8 qN (bN (sL T) hr T.kf (aa (bN (bQ T) hr T.bX (aa (pv 0) (aa af ag))) (aa (pv 3) (aa (pv 4) (aa (pv 5) ag))))))
  (ah (bR 9 qN (bN (sI T) hr T.kc (aa (bN (bQ T) hr T.bX (aa (pv 0) (aa af ag))) (aa (pv 3) (aa (pv 6) (aa (pv 7) ag))))))
  (ah (bR 10 qN (bN (pk T) hr T.hV (aa (bN (bQ T) hr T.bX (aa (pv 0) (aa af ag))) (aa (pv 5) ag))))
  (ah (bR 11 qN (bN (ma T) hr T.iP (aa (bN (bQ T) hr T.bX (aa (pv 0) (aa af ag))) (aa (pv 5) (aa (pv 10) ag)))))
  (ah (bR 12 qN (bN (qO T) hr T.jr (aa (bN (bQ T) hr T.bX (aa (pv 0) (aa af ag))) (aa (pv 3) ag))))
  (ao (au (bI (aa (pv 3) (aa (pv 4) (aa (pv 12) (aa (pv 6) (aa (pv 7) (aa (pv 8) (aa (pv 9) (aa (pv 10) (aa (pv 11) ag)))))))))))))))))))))))),?_}
 ac_rfl;exists a,ns,0,rfl,hS,(by decide),nl,λc0=>?_;exists c0,1,rfl,(by decide),(by decide),?_;let m0:0<=mixed c0 1:=zv _ ∅;let m1:mixed c0 1<2147483399:=zr _ ∅;generalize mixed c0 1=m at m0 m1;let a0:0<=m%4:=zv _ ∅;let a1:m%4<4:=zr _ ∅;left;refine{_,_,rfl,zV m0 ∅,?_,(),(),λps pp H1 pl pok s1 hpp=>?_}
 ·have:=zW (a:=m) 4 m0;ext
 let QM:1<=⇑ps/\⇑ps<=4:=()
 exists a,ns,1,rfl,s1.seq hS,(by decide),nl,λc1=>?_;left;intro ins ip iv H2 iok s2 hip ili;exists a,ns,2,rfl,(s1.trans s2).seq hS,(by decide),nl,λc2=>?_;exists c2,2,rfl,(by decide),(by decide),?_;let n0:0<=mixed c2 2:=zv _ ∅;generalize mixed c2 2=n at n0;exists by show 0<most;ext,?_
 let d0:0<=n%most:=zv _ ();let d1:n%most<most:=zr _ ();exists a,ns,2,rfl,(s1.trans s2).seq hS,(by decide),nl,λc3=>?_;exists c3,_,rfl,(),(),λaO bp bv H3 bl bok s3 nb hbp ilb=>?_;let bl2:((⇑aO:Nat):Int)=1+n%most:=()
 let bvl:=aQ ilb;let s03:=(s1.trans s2).trans s3;let x0:aO[0]?=some (aO[0]'()):=zb ();generalize aO[0]'()=x at x0;let⟨y,hy,iy⟩:=cA ilb (i:=0) (zb ());let ey:y=x:=by rw[x0] at hy;exact(yj hy).symm
 subst ey;let⟨ab,mv,qb,ev,hab,imv,_⟩:=vM iy;let xin:y.aP∈JA:=(bok y (zB x0)).1;let⟨e1,e2,e3,e4,e5⟩:=jM xin;let av:bv[0]?=some (.ref ab):=by rw[<-ev];exact zb ()
 cases eD (o:=some y.aP) imv with
 | ref hmv=>
 rename_i am;left;refine join (λU H'=>aB H3 H'/\∃(upb:Option (Int×Int)) (uv:V),U=[some (.ref a),some (.int most),some (.int m),some (.ref pp),some (.ref ip),some (.int (1+n%most)),some (.ref bp),some uv,none,none,none,none,none]/\Is H' (dO dL upb) uv/\∀u,upb=some u->∃x z,aO[0]?=some x/\z∈([2,3,5]:List Int)/\u=red x.aP.1 (x.aP.2*z)) (λN hN cc=>?_) (λN hN cc=>?_) ?_
 ·left
  refine{bp,bv,0,_,rfl,rfl,aI.of hbp,bj av,?_};exists bp,bv,0,_,rfl,rfl,aI.of hbp,bj av,?_;exists by show 3<=sizeLine;ext,?_
  intros p4 H4 s4 h4;let g0:0<=m/64%3:=zv _ ∅;let g1:m/64%3<3:=zr _ ∅;obtain⟨jj,hjj⟩:∃j:Nat,m/64%3=(j:Int):={(m/64%3).toNat,()}
  obtain⟨z,hz,zi⟩:∃z:Int,[V.int 2,V.int 3,V.int 5][jj]?=some (.int z)/\z∈([2,3,5]:List Int):=by
   have:jj<3:=()
   match jj,this with
   | 0,_=>exact{2,rfl,∅}
   | 1,_=>exact{3,rfl,∅}
   | 2,_=>exact{5,rfl,∅}
  let z1:2<=z/\z<=5:=by
   simp only[zC,zD,yT] at zi;ext
  exists p4,_,m/64%3,.int z,rfl,rfl,aI.of h4,(by rw[hjj];exact bj hz),?_;exists .inl {(()),()},?_;let p1:0<y.aP.2*z:=xw () ();let p2:y.aP.2*z<=32*5:=x8 e5 z1.2 () ∅;refine{_,_,rfl,(),p1,(di (n:=10) () ()).mono ∅,λp5 H5 s5 h5=>?_};change hN _ _ {s4.trans s5,some (red y.aP.1 (y.aP.2*z)),.ref p5,rfl,iE h5,λu q=>by cases q;exact{(y),z,x0,zi,rfl}}
 ·left
  exact hN _ _ {aB.refl _,none,.bA,rfl,by unfold dO Is;rfl,λu z=>by cases z}
 rintro σ4 H4 ⟨s4,upb,uv,rfl,iuv,uok⟩;let s04:=s03.trans s4;exists a,ns,1,rfl,s04.seq hS,(by decide),nl,λc5=>?_;left;let s14:=(s2.trans s3).trans s4;let s24:=s3.trans s4;refine{c5,_,pp,ip,ps,ins,iv,rfl,s14 _ _ hpp,s24 _ _ hip,ili.mono s24,(),by have:=iok.1;ext,(),λhs hp hv H5 hsub hrow s5 hhp rlh=>?_};let s05:=s04.trans s5;exists a,ns,3,rfl,s05.seq hS,(by decide),nl,λc6=>?_;left;let s15:=s14.trans s5;let s25:=s24.trans s5;let s35:=s4.trans s5;refine{c6,pp,bp,{players:=ps,aO:=aO,aH:=upb},bv,uv,rfl,s15 _ _ hpp,s35 _ _ hbp,ilb.mono s35,iuv.mono s5,by show ⇑ps<=9;ext,pok.2,by show ⇑aO<=200;ext,bok,HL rfl rfl bok uok,λnts np nv H6 nok nlen s6 hnp rln=>?_};let s06:=s05.trans s6;exists a,ns,4,rfl,s06.seq hS,(by decide),nl,λc7=>?_;exists c7,_,rfl,(),λrs rp rv H7 uF s7 hrp ilr=>?_;let s07:=s06.trans s7;exists a,ns,4,rfl,s07.seq hS,(by decide),nl,λc8=>?_;left;let rsl:QW H7 rp rs:={by have:=uF.1;ext,λr hr'=>by have:=(uF.2.1 r hr').2.2.2.2.2.2.1;ext,rv,hrp,ilr}
 refine{c8,_,rp,rs,rfl,rsl,uF,(),(),λjo jv H8 jok s8 ij=>?_};let s08:=s07.trans s8;exists a,ns,0,rfl,s08.seq hS,(by decide),nl,λc9=>?_;left;let s18:=((s15.trans s6).trans s7).trans s8;refine{c9,pp,ps,rfl,s18 _ _ hpp,pok.2,(),λsts sp sv H9 stok s9 hsp ils=>?_};exists by show 9<=sizeLine;ext,?_
 intros pa Ha sa ha;let s9a:=sa;let s8a:=s9.trans sa;let s7a:=s8.trans s8a;let s6a:=s7.trans s7a;let s5a:=s6.trans s6a;let s4a:=s5.trans s5a;let s3a:=s4.trans s4a;let s2a:=s3.trans s3a;let s1a:=s2.trans s2a;refine kk {(ps),ins,sts,aO,upb,hs,nts,rs,jo} pa Ha ?_ (s08.trans s8a) ?_
 ·exact{QM.1,QM.2,pok,iok,stok,by show 1<=⇑aO;ext,by show(⇑aO:Int)<=most;ext,bok,uok,hsub,λx hx=>by show K6 (ins.map (·.1)) ⇑aO x.2;rw[bl2];exact hrow x hx,nok,nlen,by show DW ⇑aO rs;rw[bl2];exact uF,λj hj=>by show OZ ⇑aO rs j;rw[bl2];exact jok j hj}
 ·exact{pp,ip,sp,bp,hp,np,rp,uv,jv,iv,sv,bv,hv,nv,rv,ha,s1a _ _ hpp,{s2a _ _ hip,ili.mono s2a},{s9a _ _ hsp,ils.mono s9a},{s3a _ _ hbp,ilb.mono s3a},iuv.mono s4a,{s5a _ _ hhp,rlh.imp λx v z=>z.mono s5a},{s6a _ _ hnp,rln.imp λx v z=>z.mono s6a},{s7a _ _ hrp,ilr.mono s7a},ij.mono s8a}
def mY {n:Str} (h:gh n):⇑n<=12:=by
 unfold gh cH at h;split at h
 ·cases h
 ·split at h
  ·cases h
  ·ext
def HS {n:Int} (h:NB n):⇑(dec n)<=5:=bz (by have:=h.1;ext) (by have:=h.2;ext)
theorem F5:∀es:List Sc.End,IV es=⇑((es.map (·.2)).flatten)
 | []=>rfl
 | e::r=>by rw[zh,z9,zg,<-F5 r];rfl
theorem GH {n:Nat} (hn:n<=999):∀{l rs:List Rep},(rs++l).Pairwise (λa b=>a.last<b.first)->(∀r∈l,FQ n r)->vU n rs l
 | [],_,_,_=>trivial
 | r::l,rs,asc,ok=>by
  let⟨h1,h2,h3,h4,h5,e1,e2,e3,e4,e5⟩:=ok r zp;refine{λb hb=>?_,?_,{by rw[F5];ext,(),(),()},GH hn (by rw[zE];exact asc) λx hx=>ok x (zm _ hx)}
  ·rcases zF.mp hb with z | z
   ·simp only[zC,zD,yT] at z
    rcases z with z | z <;> ext
   ·let⟨e,he,rfl⟩:=zG.mp z
    have:=(e3 e he).2.1;ext
  ·let fin:(decide (r.first<=r.last)&&fV r)=true:=by rw[ze h2];exact e1
   unfold kP;cases q:rs.getLast? with
   | none=>exact fin
   | some p=>
    have:=(zT.mp asc).2.2 p (wR q) r zp;dsimp only;rw[yM ()];exact fin
def Qj {most:Int} {S:cg} (hm:most<=24) (D:nA most S):Vx S:=by
 let bl:=D.bl;let b1:=D.b1;let pl:=D.pl;let⟨i1,i2,i3⟩:=D.ins;let⟨t1,t2,t3,t4⟩:=D.st;let nl:=D.nl;let⟨r1,r2,r3⟩:=D.rp;let hl:=D.hs.length_le;rw[za] at hl;refine{D.pn.2,(),i2.2,(),t2.2,t3,λx hx=>(t4 x hx).2.2,λx hx=>by have:=(t4 x hx).2.1;ext,(),(),λb hb=>?_,λu hu=>?_,D.hs.nodup D.pn.2,(),λx hx=>?_,D.no.1,(),λx hx=>?_,GH () (by rw[List.nil_append];exact r3) r2,(),λr hr=>?_,λj hj=>?_}
 ·let⟨m1,m2,m3,m4,m5⟩:=jM (D.bd b hb).1
  exact{(()),(),(),()}
 ·let⟨x,z,e1,e2,e3⟩:=D.up u hu
  let xin:=(D.bd x (zB e1)).1;let⟨m1,m2,m3,m4,m5⟩:=jM xin;refine{(),?_,?_}
  ·unfold cg.aP
   rw[e1,e3];exact MR x.aP xin z e2
  ·let z1:2<=z/\z<=5:=by
    simp only[zC,zD,yT] at e2;ext
   let p1:0<x.aP.2*z:=xw () ();let p2:x.aP.2*z<=32*5:=x8 m5 z1.2 () ∅;let⟨q1,q2,q3,q4⟩:=JD (t:=x.aP.1) (b:=x.aP.2*z) () () p1 ();let⟨_,q5,_⟩:=q1.pos;rw[e3];exact{(di (n:=10) () ()).mono ∅,(di (n:=10) () ()).mono ∅}
 ·let⟨h1,h2,h3,h4⟩:=D.hr x hx
  exact{h1,(),h3,D.hs.subset (zO (f:=λy:Str×List (Int×Str)=>y.1) hx),λh hh=>{(h4 h hh).2.1,(h4 h hh).2.2}}
 ·let⟨h1,h2,h3,h4,h5,h6,h7⟩:=D.no.2 x hx
  exact{h1,h2,h3,h4,λit hit=>(h5 it hit).1,h6}
 ·have:=(r2 r hr).2.2.2.2.2.2.1
  ext
 ·let⟨j1,j2,j3,j4,j5⟩:=D.ju j hj
  refine{λb hb=>?_,j1};rcases zF.mp hb with z | z
  ·simp only[zC,zD,yT] at z
   rcases z with z | z | z <;> ext
  ·cases q:j.eK with
   | none=>rw[q] at z;cases z
   | some c=>
    rw[q] at z;have:b=c:=by simpa using z
    have:=(j5 c q).2;ext
def DN {many:Int} {r:Rep} (hm:many<=200) (h:FQ many r):Mz r:=by
 let⟨h1,h2,h3,h4,h5,e1,e2,e3,e4,e5⟩:=h;exact{{{(h1),()},{(()),()},h4,h5,λe he=>{by have:=(e3 e he).1;ext,by have:=(e3 e he).2.1;ext,(e3 e he).2.2.1,(e3 e he).2.2.2.2}},e2,λe he=>(e3 e he).2.2.2.1}
def OD {most:Int} {S:cg} (hm:most<=24) (D:nA most S):∀t∈dI S,TD t:=by
 let bl:=D.bl;let b1:=D.b1;let pl:=D.pl;let⟨i1,i2,i3⟩:=D.ins;let⟨t1,t2,t3,t4⟩:=D.st;let⟨r1,r2,r3⟩:=D.rp;let pnm:∀p∈S.players,gh p:=D.pn.1;let inm:∀p∈S.aq.map (·.1),gh p:=i2.1;intro t ht;unfold dI at ht;simp only[zF] at ht;rcases ht with((((((ht | ht) | ht) | ht) | ht) | ht) | ht) | (ht | ht)
 ·let⟨n,hn,rfl⟩:=zG.mp ht
  refine{pnm n hn,by show 2<=100;decide,λw hw=>?_};simp only[Sc.wordsOf,zC,zD,yT] at hw;rcases hw with rfl | rfl
  ·decide
  ·have:=mY (pnm _ hn);ext
 ·let⟨x,hx,rfl⟩:=zG.mp ht
  let⟨q1,q2,q3,q4,q5,q6⟩:=i3 x hx;let nx:=inm x.1 (zO (f:=λy:Str×(Int×Int)×(Int×Int)=>y.1) hx);let⟨p1,p2,_⟩:=q4.pos;refine{{(nx),q1,q2,q3,q4,q5,q6},by show 5<=100;decide,λw hw=>?_};simp only[Sc.wordsOf,zC,zD,yT] at hw;let⟨o1,o2,o3,o4,_⟩:=q1;rcases hw with rfl | rfl | rfl | rfl | rfl
  ·decide
  ·have:=mY nx;ext
  ·have:=bz (n:=x.2.1.1) () ();ext
  ·have:=bz (n:=x.2.1.2) () ();ext
  ·have:=km (x:=x.2.2) () q5 () q6;ext
 ·let⟨x,hx,rfl⟩:=zG.mp ht
  let⟨q1,q2,q3⟩:=t4 x hx;let nx:=t2.1 x.1 (zO (f:=λy:Str×List Str=>y.1) hx);refine{{nx,q1,λp hp=>pnm p (q3 p hp)},by show ⇑x.2+1+1<=100;ext,λw hw=>?_};simp only[Sc.wordsOf,zC] at hw;rcases hw with rfl | rfl | hw
  ·decide
  ·have:=mY nx;ext
  ·have:=mY (pnm w (q3 w hw));ext
 ·let⟨b,hb,rfl⟩:=zG.mp ht
  let⟨q1,q2,q3,q4,q5⟩:=D.bd b hb;let⟨m1,m2,m3,m4,m5⟩:=jM q1;refine{{(m1),(),m3,q2,q3,q4},by show ⇑b.marks+1+1+1<=100;ext,λw hw=>?_};simp only[Sc.wordsOf,zC] at hw;rcases hw with rfl | rfl | rfl | hw
  ·decide
  ·let l1:=bz (n:=b.aP.1) () ()
   let l2:=bz (n:=b.aP.2) () ();rw[len_app,len_app];have:("/": Str).length=1:=rfl;ext
  ·have:=bz (n:=b.key) () ();ext
  ·have:=mY (q4 w hw);ext
 ·let⟨u,hu,rfl⟩:=zG.mp ht
  let hu':S.aH=some u:=by
   cases q:S.aH with
   | none=>rw[q] at hu;cases hu
   | some v=>
    rw[q] at hu;have:u=v:=by simpa using hu
    rw[this]
  let ln:=HL (S:=S) rfl rfl D.bd D.up 0 ();let el:S.len 0=u:=by unfold cg.len;rw[hu'];rfl
  rw[el] at ln;let⟨l1,l2,l3,l4⟩:=ln;let⟨p1,p2,_⟩:=l1.pos;refine{{(l1),l2,(),()},by show 2<=100;decide,λw hw=>?_};simp only[Sc.wordsOf,zC,zD,yT] at hw;rcases hw with rfl | rfl
  ·decide
  ·have:=km (x:=u) () () () ();ext
 ·let⟨l,hl,ht⟩:=wd.mp ht
  let⟨x,hx,rfl⟩:=zG.mp hl;let⟨h,hh,rfl⟩:=zG.mp ht;let⟨h1,h2,h3,h4⟩:=D.hr x hx;let np:=pnm x.1 (D.hs.subset (zO (f:=λy:Str×List (Int×Str)=>y.1) hx));let nb:NB h.1:={(h4 h hh).1,by have:=(h4 h hh).2.1;ext}
  let ni:=inm h.2 (h4 h hh).2.2;refine{{(np),nb,ni},by show 4<=100;decide,λw hw=>?_};simp only[Sc.wordsOf,zC,zD,yT] at hw;rcases hw with rfl | rfl | rfl | rfl
  ·decide
  ·have:=mY np;ext
  ·have:=HS nb;ext
  ·have:=mY ni;ext
 ·let⟨x,hx,rfl⟩:=zG.mp ht
  let⟨h1,h2,h3,h4,h5,h6,h7⟩:=D.no.2 x hx;let nb:NB x.1.1:={(h1),()}
  refine{{nb,pnm _ h3,h5,h7},by show(x.2.map pA).length+1+1+1<=100;rw[za];ext,λw hw=>?_};simp only[Sc.wordsOf,zC] at hw;rcases hw with rfl | rfl | rfl | hw
  ·decide
  ·have:=HS nb;ext
  ·have:=mY (pnm _ h3);ext
  ·let⟨it,hit,rfl⟩:=zG.mp hw
   have:=LX (h5 it hit);ext
 ·let⟨r,hr,rfl⟩:=zG.mp ht
  let⟨⟨q1,q2,q3,q4,q5⟩,q6,q7⟩:=DN () (r2 r hr);refine{{(q1),q2,q3,q4,q5},by show(r.ends.map oo).length+1+1+1+1<=100;rw[za];ext,λw hw=>?_};simp only[Sc.wordsOf,zC] at hw;rcases hw with rfl | rfl | rfl | rfl | hw
  ·decide
  ·have:=HS q1;ext
  ·have:=HS q2;ext
  ·have:=bz (n:=r.times) () ();ext
  ·let⟨e,he,rfl⟩:=zG.mp hw
   have:=HI (q5 e he) (q7 e he);ext
 ·let⟨j,hj,rfl⟩:=zG.mp ht
  let hj':S.bu=some j:=by
   cases q:S.bu with
   | none=>rw[q] at hj;cases hj
   | some v=>
    rw[q] at hj;have:j=v:=by simpa using hj
    rw[this]
  let⟨j1,j2,j3,j4,j5⟩:=D.ju j hj';let n1:NB j.rM:={(j2.1),()}
  let n2:NB j.tU:={(j3.1),()}
  let n3:NB j.cN:={(j4.1),()}
  let n4:∀c,j.eK=some c->NB c:=λc hc=>{(j5 c hc).1,by have:=(j5 c hc).2;ext}
  refine{{(n1),n2,n3,n4},by show 5<=100;decide,λw hw=>?_};simp only[Sc.wordsOf,zC,zD,yT] at hw;rcases hw with rfl | rfl | rfl | rfl | rfl
  ·decide
  ·have:=HS n1;ext
  ·have:=HS n2;ext
  ·have:=HS n3;ext
  ·unfold ctxt
   cases q:j.eK with
   | none=>decide
   | some c=>have:=HS (n4 c q);dsimp only;ext
theorem KR {α:Type} {k:Nat}:∀{l:List (List α)},(∀x∈l,⇑x<=k)->⇑l.flatten<=k*⇑l
 | [],_=>by simp
 | x::r,h=>by
  let ih:=KR (l:=r) λy hy=>h y (zm _ hy);have:=h x zp;rw[z9,zg,zt,Nat.mul_succ];ext
def Mb {most:Int} {S:cg} (hm:most<=24) (D:nA most S):⇑(dI S)<=1000/\dI S≠[]:=by
 let bl:=D.bl;let b1:=D.b1;let pl:=D.pl;let QM:=D.QM;let i1:=D.ins.1;let t1:=D.st.1;let r1:=D.rp.1;let nl:=D.nl;let hl:=D.hs.length_le;rw[za] at hl;let f:=KR (k:=4) (l:=S.holds.map λx=>x.2.map λh=>Told.holds x.1 h.1 h.2) λy hy=>by
  let⟨x,hx,rfl⟩:=zG.mp hy;rw[za];exact(D.hr x hx).2.1
 rw[za] at f;let u:⇑S.aH.toList<=1:=by cases S.aH <;> simp
 let j:⇑S.bu.toList<=1:=by cases S.bu <;> simp
 refine{?_,λz=>?_}
 ·unfold dI
  simp only[zg,za];ext
 ·have:=yY List.length z
  unfold dI at this;simp only[zg,za,xk] at this;ext
def oA:Sp:=λvs H Q _=>∃(i:Int),vs=[.int i]/\Q (.bl true) H
def CB:cZ P w base 1 T.pK oA:=by
 nomatch T.pK,["_law_found"]
 let⟨i,rfl,kk⟩:=h;refine{_,(ao (au (mU (Jq .int (by decide +kernel) (pv 0) T.ly T.QO) (jY (RI (Jq .bl (by decide +kernel) (pv 0) T.ly T.RW)))))),?_};ac_rfl;change kk
def VC (S:cg):Prop:=(∀x∈S.aO,Ko x)/\1<=⇑S.aO/\⇑S.aO<=200/\⇑S.repeats<=1000/\(∀r∈S.repeats,⇑r.ends<=9)/\⇑S.holds<=1000/\(∀x∈S.holds,⇑x.2<=1000)/\(S.holds.map (·.1)).Nodup
noncomputable def SE (j:Jump):List Key:=[.inl (j.rM+1),.inl j.tU,.inl (j.cN+1),(match j.eK with | none=>.bA | some c=>.inl c)]
noncomputable def jL (jo:Option Jump):List Int:=match jo with
 | none=>[]
 | some j=>[j.rM+1,j.tU,j.cN+1]++j.eK.toList
noncomputable def hB (n:Str) (l:List (Str×List (Int×Str))):List Int:=(l.map λx=>if decide (x.1=n)=true then x.2.map (·.1) else []).flatten
def Qd (n:Str) (l:List (Str×List (Int×Str))) (y:Str×List (Int×Str)):hB n (l++[y])=hB n l++if decide (y.1=n)=true then y.2.map (·.1) else []:=by unfold hB;rw[zj,xb];simp
theorem Oj {n:Str} {k:Int}:∀{l:List (Str×List (Int×Str))},(l.map (·.1)).Nodup->(k∈hB n l↔k∈((l.lookup n).getD []).map (·.1))
 | [],_=>by simp[hB]
 | x::l,h=>by
  let⟨h1,h2⟩:=yc.mp h;let ih:=Oj (n:=n) (k:=k) h2;let e:hB n (x::l)=(if decide (x.1=n)=true then x.2.map (·.1) else [])++hB n l:=rfl;rw[e,zF,ih,yp]
  by_cases c:x.1=n
  ·let nl:l.lookup n=none:=by
    cases q:l.lookup n with
    | none=>rfl
    | some r=>exact absurd (zO (f:=λz:Str×List (Int×Str)=>z.1) (mem_of_lookup q)) (by rw[<-c];exact h1)
   rw[nl,show(n == x.1)=true from by rw[c];exact wc n,ze c];simp
  ·rw[show(n == x.1)=false from xC.mpr λz=>c z.symm,zd c]
   simp
def Pd {S:cg} {n:Str} {k:Int} (h:(S.holds.map (·.1)).Nodup):decide (k∈(S.repeats.map mT).flatten++jL S.bu++hB n S.holds)=decide (k∈iV S n):=by
 rw[xJ,xB,xB];unfold iV uR;rw[zF,zF,zF,zF,Oj h];let ej:k∈jL S.bu↔k∈qU S.bu:=by
  unfold jL qU;cases S.bu with
  | none=>rfl
  | some j=>simp only[zF,zC];constructor <;> (intro z;rcases z with(z | z | z | z) | z <;> simp[z])
 rw[ej];constructor
 ·rintro((z | z) | z)
  ·exact .inr z
  ·exact .inl (.inr z)
  ·exact .inl (.inl z)
 ·rintro((z | z) | z)
  ·exact .inr z
  ·exact .inl (.inr z)
  ·exact .inl (.inl z)
def JL (f:Int->Bool) (lo:Int) (i:Nat):fT f lo (i+1)=fT f lo i++if f (lo+(i:Nat))=true then [lo+(i:Nat)] else []:=by
 unfold fT;rw[List.range_succ,zj,yW,List.map_singleton,xG,List.filter_nil]
def Rr (m n:Str):decide (V.str m=V.str n)=decide (m=n):=by
 rw[xJ,xB,xB];exact{V.str.inj,λw=>by rw[w]}
inductive Al (vs:List V) (H:Hp) (Q:VK) (E:XK):Prop
 | mk (p:vy) (S:cg) (n:Str) (_:vs=[.ref p,.str n]) (_:kD H p S) (_:VC S) (_:∀D H',aB H H'->H' D=some (.lst ((Il S n).map V.int))->Q (.ref D) H')
def A0:cZ P w base 3 T.nu Al:=by
 nomatch T.nu,["_law_s","_law_player","_law_told","_law_first","_law_last","_law_times","_law_ends","_law_begin","_law_passes","_law_bar","_law_one","_law_row","_law_name","_law_found","_law_same"]
 let⟨p,S,n,rfl,la,⟨bd,b1,b2,rl,re,hl0,hl1,hnd⟩,kk⟩:=h;let sl:=yB;let⟨pl,il,st,bl,hl,nl,rL,ub,jm,iv,sv,bv,hv,nv,rv,h1,h2,_,_,⟨hbl,ilb⟩,iub,⟨hhl,rlh⟩,_,⟨hrl,ilr⟩,hj⟩:=la.at';refine{_,(ah (bR 2 qN qF)
  (ah (bZ yO rfl (bc (bB (pv 0) af)) (dy (n:=4) rfl (aM (gR 3 qN) (aM (gR 4 qN) (aM (gR 5 qN) (aM (gR 6 qN) cJ)))))
  (ah (iw (fQ hr) (pv 2) (pv 3) fL rfl)
   (ah (iw (fQ hr) (pv 2) (aA aW (pv 4) af) fL rfl)
   (ao (bZ yO rfl (gX (pv 6)) (dy (n:=2) rfl (aM (gR 7 qN) (aM (gR 8 qN) cJ)))
   (ao (iw (fQ hr) (pv 2) (pv 7) fL rfl)))))))
  (ah (aJ (bG (fo (bB (pv 0) af)))
  (ao (bZ yO rfl (bc (bq (aa (aA aW (bB (bB (pv 0) af) af) af) (aa (bB (bB (pv 0) af) af) (aa (aA aW (bB (bB (pv 0) af) af) af) (aa (bB (bB (pv 0) af) af) ag)))))) (gR 9 qN)
   (ao (iw (fQ hr) (pv 2) (pv 9) fL rfl))))
  aC)
  (ah (bZ yO rfl (bc (bB (pv 0) af)) (dy (n:=2) rfl (aM (gR 10 qN) (aM (gR 11 qN) cJ)))
  (ao (bZ yO rfl (bc (pv 11)) (dy (n:=2) rfl (aM (gR 7 qN) (aM (gR 12 qN) cJ)))
   (ao (iw (fQ hr) (pv 2) (pv 7) (KH (qG (fQ hr) (pv 2) (pv 7) fL {(rfl),rfl,rfl,rfl}) (jY (cW de (pv 10) (pv 1) (fq _)))) rfl)))))
  (ah (bR 13 qN (bq ag))
  (ah (bZ yO rfl (nM (by rfl) T.dm (aa af (aa (d6 aE T.bE (aa (bB (pv 0) af) ag)) ag))) (gR 9 qN)
  (ah (bR 14 qN (mU (cW (RP hr.units) (cL vJ (fc (bB (pv 0) af) (pv 9)) du (dt af)) (cL vJ (fc (bB (pv 0) af) (aA fM (pv 9) af)) du (dt af)) (fq _)) (jY (cW (AS hr.units) (bB (fc (bB (pv 0) af) (pv 9)) af) (bI ag) (fq _)))))
   (ah (aJ (ptr (kZ hr.units) (bN (fP T) hr T.eM (aa (bB (pv 0) af) (aa (bB (pv 0) af) (aa (pv 9) ag)))) (bN (fP T) hr T.eM (aa (bB (pv 0) af) (aa (bB (pv 0) af) (aa (aA fM (pv 9) af) ag)))))
   (ao (bR 14 qN fL))
   aC)
   (ao (aJ (PW.pt (dB (eC (cy (pv 14))) (cU (cy (qG (fQ hr) (pv 2) (pv 9) fL {(rfl),rfl,rfl,rfl})))))
   (ao (bJ (bU yC yE yD bF (pv 13) (aa (pv 9) ag))))
   aC)))))
  (ao (au (pv 13))))))))),?_}
 ac_rfl;left
 intros d nd s1 hd H1
 let h11:=s1 _ _ h1;exists{_,aI.of (s1 _ _ hrl)},?_;let rvl:=aQ ilr;refine gq (K:=K) (a:=rL) (xs:=rv) (λi U H'=>∃(kvs:List (Key×V)) (w3 w4 w5 w6 w7 w8:Option V),aB H H'/\H' d=some (.dK kvs)/\⇑kvs<=11*i/\vT (((S.repeats.take i).map mT).flatten) kvs/\U=[some (.ref p),some (.str n),some (.ref d),w3,w4,w5,w6,w7,w8,none,none,none,none,none,none]) {[],_,_,_,_,_,_,s1,hd,zk _,vT.nil,rfl} (λi U H' _ h=>by let⟨_,_,_,_,_,_,_,s,_⟩:=h;exact aI.of (s _ _ hrl)) ?_ ?_
 ·rintro Nx i x U H2 hN hx ⟨kvs,w3,w4,w5,w6,w7,w8,s2,hk,kl,td,rfl⟩
  let⟨r,hr',ir⟩:=cA ilr hx;let hi:=(zw.mp hx).1;let rm:=re r (zB hr');let⟨ar,er,rfl,har,he⟩:=eX ir;unfold Is at he;let⟨e',us,ee,hu,ilu⟩:=he;cases ee;let ul:=aQ ilu;let QM:=eF kvs (.inl r.first) (.bl true);let td1:=td.yes r.first;refine{ar,_,rfl,cu.of (s2 _ _ har),rfl,?_};refine{_,_,rfl,{_,_,rfl,{_,_,rfl,{_,_,rfl,{rfl,?_}}}}};exists d,_,rfl,.inl {_,.inl r.first,hk,rfl,(),rfl},?_;generalize putK kvs (.inl r.first) (.bl true)=k1 at QM td1 ⊢;let s3:aB H (upd H2 d (.dK k1)):=bC nd s2;let h3:upd H2 d (.dK k1) d=some (.dK k1):=aF;generalize upd H2 d (.dK k1)=H3 at s3 h3 ⊢;let pl2:=eF k1 (.inl (r.last+1)) (.bl true);let td2:=td1.yes (r.last+1);exists d,_,rfl,.inl {_,.inl (r.last+1),h3,rfl,(),rfl},?_;generalize putK k1 (.inl (r.last+1)) (.bl true)=k2 at pl2 td2 ⊢;let s4:aB H (upd H3 d (.dK k2)):=bC nd s3;let h4:upd H3 d (.dK k2) d=some (.dK k2):=aF;generalize upd H3 d (.dK k2)=H4 at s4 h4 ⊢;exists{_,cu.of (s4 _ _ hu)},?_;rw[zE] at td2;refine Ot (K:=K) (a:=er) (xs:=us) (λj U H'=>∃(kvs:List (Key×V)) (w7 w8:Option V),aB H H'/\H' d=some (.dK kvs)/\⇑kvs<=11*i+2+j/\vT (((S.repeats.take i).map mT).flatten++([r.first,r.last+1]++(r.ends.take j).map (·.1))) kvs/\U=[some (.ref p),some (.str n),some (.ref d),some (.int r.first),some (.int r.last),some (.int r.times),some (.ref er),w7,w8,none,none,none,none,none,none]) {k2,_,_,s4,h4,(),td2,rfl} (λi U H' _ h=>by let⟨_,_,_,s,_⟩:=h;exact cu.of (s _ _ hu)) ?_ ?_
  ·rintro Nx j x U H5 hN hx ⟨k5,w7,w8,s5,h5,kl5,td5,rfl⟩
   let⟨e,he',ie⟩:=cA ilu hx;let⟨ae,qe,rfl,hae,hqe⟩:=m8 ie;let pl6:=eF k5 (.inl e.1) (.bl true);let td6:=td5.yes e.1;rw[zE,zE] at td6;refine{ae,_,rfl,cu.of (s5 _ _ hae),rfl,?_};refine{_,_,rfl,{_,_,rfl,{rfl,?_}}};left;let hj9:=(zw.mp hx).1;refine{d,_,rfl,.inl {_,.inl e.1,h5,rfl,(),rfl},?_};change hN _ _ {_,_,_,bC nd s5,aF,(),by rw[cC he',zj];exact td6,rfl}
  ·rintro U H5 ⟨k5,w7,w8,s5,h5,kl5,td5,rfl⟩
   rw[ul,zM] at td5;change hN _ _ {k5,_,_,_,_,_,_,s5,h5,(),by rw[cC hr',zj,xb];simpa[mT] using td5,rfl}
 ·rintro U H2 ⟨kvs,w3,w4,w5,w6,w7,w8,s2,hk,kl,td,rfl⟩
  rw[rvl,zM] at td;rw[rvl] at kl;let h12:=s2 _ _ h1;generalize eL0:(S.repeats.map mT).flatten=L0 at td;left;refine join (λU H'=>∃(kvs:List (Key×V)) (w3 w4 w5 w6 w7 w8 w9:Option V),aB H H'/\H' d=some (.dK kvs)/\⇑kvs<=11004/\vT (L0++jL S.bu) kvs/\U=[some (.ref p),some (.str n),some (.ref d),w3,w4,w5,w6,w7,w8,w9,none,none,none,none,none]) ?_ ?_ ?_
  ·intro N hN c
   obtain⟨j,ej⟩:∃j,S.bu=some j:=by
    cases q:S.bu with
    | none=>rw[q] at hj;unfold dO Is at hj;subst hj;simp at c
    | some j=>exact{(j),rfl}
   rw[ej] at hj;let⟨aj,rfl,haj⟩:=lA hj;let haj2:=s2 _ _ haj;exists by show 4<=sizeLine;ext,?_
   intros q3 H3 s3 h3;let e4:[V.int (j.rM+1),V.int j.tU,V.int (j.cN+1),ov j.eK]=(SE j).map kV:=by
    unfold SE;cases j.eK <;> rfl
   rw[e4] at h3;let ei:intsOf (SE j)=jL S.bu:=by
    rw[ej];unfold SE jL;cases q:j.eK <;> simp[intsOf,q]
   let l4:⇑(SE j)=4:=rfl;generalize SE j=ks at h3 ei l4;exists{_,aI.of h3},?_;let s03:=s2.trans s3;let nq:q3≠d:=Sc.bf h3 (s3 _ _ hk) (by simp[kindOf]);refine gq (K:=K) (a:=q3) (xs:=ks.map kV) (λi U H'=>∃(kvs:List (Key×V)) (w9:Option V),aB H H'/\H' q3=some (.lst (ks.map kV))/\H' d=some (.dK kvs)/\⇑kvs<=11000+i/\vT (L0++intsOf (ks.take i)) kvs/\U=[some (.ref p),some (.str n),some (.ref d),w3,w4,w5,w6,w7,w8,w9,none,none,none,none,none]) {kvs,none,s03,h3,s3 _ _ hk,(),by show vT (L0++[]) _;rw[zU];exact td,rfl} (λi U H' _ h=>by let⟨_,_,_,h,_⟩:=h;exact aI.of h) ?_ ?_
   ·rintro Nx i x U H4 hM hx ⟨k4,w9,s4,hq4,h4,kl4,td4,rfl⟩
    rw[zJ] at hx;cases qk:ks[i]? with
    | none=>rw[qk] at hx;cases hx
    | some k=>
    rw[qk] at hx;simp only[xj,xK] at hx;subst hx;let hi:=(zw.mp qk).1;let pl5:=eF k4 k (.bl true);let td5:=td4.key k;rw[zE,<-JG,<-cC qk] at td5;exists d,_,rfl,.inl {_,k,h4,rfl,(),rfl},?_;change hM _ _ {_,_,bC nd s4,by rw[aG nq];exact hq4,aF,(),td5,rfl}
   ·rintro U H4 ⟨k4,w9,s4,hq4,h4,kl4,td4,rfl⟩
    rw[za,zM,ei] at td4;rw[za,l4] at kl4;exact hN _ _ {k4,_,_,_,_,_,_,_,s4,h4,(),td4,rfl}
  ·intro N hN c
   let ej:S.bu=none:=by
    cases q:S.bu with
    | none=>rfl
    | some j=>rw[q] at hj;let⟨aj,rfl,_⟩:=lA hj;simp at c
   change hN _ _ {kvs,_,_,_,_,_,_,_,s2,hk,(),by rw[ej];show vT (L0++[]) _;rw[zU];exact td,rfl}
  clear td hk kl h12 s2 kvs;rintro U H2 ⟨kvs,w3,w4,w5,w6,w7,w8,w9,s2,hk,kl,td,rfl⟩;let h12:=s2 _ _ h1;let eL:L0++jL S.bu=(S.repeats.map mT).flatten++jL S.bu:=by rw[eL0]
  generalize L0++jL S.bu=L1 at td eL;clear eL0 L0;exists{_,aI.of (s2 _ _ hhl)},?_;let hvl:=rlh.len;refine gq (K:=K) (a:=hl) (xs:=hv) (λi U H'=>∃(kvs:List (Key×V)) (w3 w4 w5 w6 w7 w8 w9 w10 w11 w12:Option V),aB H H'/\H' d=some (.dK kvs)/\⇑kvs<=11004+1000*i/\vT (L1++hB n (S.holds.take i)) kvs/\U=[some (.ref p),some (.str n),some (.ref d),w3,w4,w5,w6,w7,w8,w9,w10,w11,w12,none,none]) {kvs,_,_,_,_,_,_,_,_,_,_,s2,hk,(),by show vT (L1++[]) _;rw[zU];exact td,rfl} (λi U H' _ h=>by let⟨_,_,_,_,_,_,_,_,_,_,_,s,_⟩:=h;exact aI.of (s _ _ hhl)) ?_ ?_
  ·rintro Nx i x U H3 hN hx ⟨k3,w3,w4,w5,w6,w7,w8,w9,w10,w11,w12,s3,h3,kl3,td3,rfl⟩
   let⟨y,hy,ay,ry,us,rfl,hay,hry,ily,_⟩:=rlh.at hx;let hi:=(zw.mp hx).1;let yl:=hl1 y (zB hy);let ul:=aQ ily;refine{ay,_,rfl,cu.of (s3 _ _ hay),rfl,?_};refine{_,_,rfl,{_,_,rfl,{rfl,?_}}};exists{_,aI.of (s3 _ _ hry)},?_;refine gq (K:=K) (a:=ry) (xs:=us) (λj U H'=>∃(kvs:List (Key×V)) (w7 w12:Option V),aB H H'/\H' d=some (.dK kvs)/\⇑kvs<=11004+1000*i+j/\vT (L1++hB n (S.holds.take i)++if decide (y.1=n)=true then(y.2.take j).map (·.1) else []) kvs/\U=[some (.ref p),some (.str n),some (.ref d),w3,w4,w5,w6,w7,w8,w9,some (.str y.1),some (.ref ry),w12,none,none]) {k3,_,_,s3,h3,(),by rw[wF,ym,ite_self,zU];exact td3,rfl} (λi U H' _ h=>by let⟨_,_,_,s,_⟩:=h;exact aI.of (s _ _ hry)) ?_ ?_
   ·rintro Nx j x U H4 hN hx ⟨k4,w7,w12,s4,h4,kl4,td4,rfl⟩
    let⟨z,hz,iz⟩:=cA ily hx;let hj9:=(zw.mp hx).1;let⟨az,rfl,haz⟩:=Oh iz;let ge:=td4 z.1;let td5:=td4.put z.1 (decide (y.1=n));let et:(if decide (y.1=n)=true then(L1++hB n (S.holds.take i)++if decide (y.1=n)=true then(y.2.take j).map (·.1) else [])++[z.1] else L1++hB n (S.holds.take i)++if decide (y.1=n)=true then(y.2.take j).map (·.1) else [])=L1++hB n (S.holds.take i)++if decide (y.1=n)=true then(y.2.take (j+1)).map (·.1) else []:=by
     cases decide (y.1=n) with
     | true=>rw[yN rfl,yN rfl,yN rfl,cC hz,zj,zE];rfl
     | false=>rfl
    rw[et] at td5;generalize decide (z.1∈(_:List Int))=g at ge td5;let pl5:=eF k4 (.inl z.1) (.bl (g||decide (y.1=n)));refine{az,_,rfl,cu.of (s4 _ _ haz),rfl,?_};refine{_,_,rfl,{_,_,rfl,{rfl,?_}}};exists .inl {_,.inl h4},?_;exists _,.inl {_,.inl z.1,.inl h4,rfl,rfl},?_;rw[ge];refine{g,rfl,?_};refine Vc (H:=H4) (T1:=λZ=>Z (.bl true) H4) (T2:=λZ=>eO Uh (aY 10) (aY 1) _ H4 Z) (.bl (g||decide (y.1=n))) ?_ ?_ ?_
    ·intro c Z hz
     rw[c,Bool.true_or] at hz;exact hz
    ·intro c Z hz
     rw[c,Bool.false_or] at hz;left;rw[Rr];exact hz
    ·refine{_,rfl,_,rfl,?_}
     refine{d,_,rfl,.inl {_,.inl z.1,h4,rfl,(),rfl},?_};exact hN _ _ {_,_,_,bC nd s4,aF,(),td5,rfl}
   ·rintro U H4 ⟨k4,w7,w12,s4,h4,kl4,td4,rfl⟩
    rw[ul,zM] at td4;change hN _ _ {k4,_,_,_,_,_,_,_,_,_,_,s4,h4,(),by rw[cC hy,Qd,<-zE];exact td4,rfl}
  ·rintro U H3 ⟨k3,w3,w4,w5,w6,w7,w8,w9,w10,w11,w12,s3,h3,kl3,td3,rfl⟩
   rw[hvl,zM] at td3;rw[hvl] at kl3;let tde:∀k:Int,(dn k3 (.inl k)).getD (.bl false)=.bl (decide (k∈iV S n)):=λk=>by rw[td3 k,eL,Pd hnd]
   clear td3 eL hvl;left
   intros D nD s4 h4 H4
   let s04:=s3.trans s4;let h14:=s04 _ _ h1;exists bl,bv,rfl,.inl (aI.of (s04 _ _ hbl)),?_;rw[aQ ilb];exists _,_,rfl,{(()),(),(),()},?_;refine JK (λi U H'=>∃(w9 w14:Option V),aB H3 H'/\H' D=some (.lst ((fT (λb=>decide (b∈iV S n)||iW S b.toNat) 1 i).map V.int))/\⇑(fT (λb=>decide (b∈iV S n)||iW S b.toNat) 1 i)<=i/\U=[some (.ref p),some (.str n),some (.ref d),w3,w4,w5,w6,w7,w8,w9,w10,w11,w12,some (.ref D),w14]) ⟨_,_,s4,h4,zk _,rfl⟩ ?_ ?_
   ·rintro Nx i U H5 hN hi ⟨w9,w14,s5,h5,l5,rfl⟩
    obtain⟨b,hb,hbi⟩:∃b:Nat,1+(i:Int)=b/\b=i+1:={i+1,(),rfl}
    rw[hb];let bl9:=aQ ilb;let g1:bv[b]?=some (bv[b]'()):=zb ();let g2:bv[b-1]?=some (bv[b-1]'()):=zb ();let⟨x,hx,ix⟩:=cA ilb g1;let⟨y,hy,iy⟩:=cA ilb g2;let⟨ax,mx,qx,ex,hax,hmx,hqx⟩:=vR ix;let⟨ay,my,qy,ey,hay,hmy,hqy⟩:=vR iy;rw[ex] at g1;rw[ey] at g2;let et:iW S b=!(decide (x.aP=y.aP)&&decide (x.key=y.key)&&decide (x.marks=[])&&decide (S.len b=S.len (b-1))):=by unfold iW;rw[hx,hy];simp only[Bool.not_and]
    let s05:=s3.trans s5;let h15:=s05 _ _ h1;let ef:=JL (λb=>decide (b∈iV S n)||iW S b.toNat) 1 i;exists bl,bv,_,_,rfl,rfl,aI.of (s05 _ _ hbl),bj g1,?_;left;refine .inl {ax,_,rfl,cu.of (s05 _ _ hax),(by show¬(HT.d7 3 0 none=0/\HT.d7 3 3 (some 2)=3);decide),?_};intros p6 H6 s6 h6;let s06:=s05.trans s6;let h16:=s06 _ _ h1;exists bl,bv,_,_,rfl,rfl,aI.of (s06 _ _ hbl),(by rw[show(b:Int)-1=((b-1:Nat):Int) from by ext];exact bj g2),?_;left;refine .inl {ay,_,rfl,cu.of (s06 _ _ hay),(by show¬(HT.d7 3 0 none=0/\HT.d7 3 3 (some 2)=3);decide),?_};intros p7 H7 s7 h7;let s07:=s06.trans s7;refine{p6,p7,mx,my,x.aP,y.aP,x.key,y.key,rfl,rfl,s7 _ _ h6,h7,s07 _ _ hmx,s07 _ _ hmy,?_};refine{_,rfl,?_};let h17:=s07 _ _ h1;refine VP (H:=H7) (T1:=λZ=>eO (Te K) (eO (kU K) (eO (ND K) (eO (kU K) (aY 0) (tC (V.int 3))) (aY 9)) (tC (V.int 2))) (Ec dR) _ H7 Z) (T2:=λZ=>Z (.bl false) H7) (.bl (decide (x.aP=y.aP)&&decide (x.key=y.key)&&decide (x.marks=[]))) ?_ ?_ ?_
    ·intro c Z hz
     rw[c,yU] at hz;exists bl,bv,_,_,rfl,rfl,aI.of (s07 _ _ hbl),bj g1,?_;let hax7:=s07 _ _ hax;exists by show 0<=sizeLine;ext,?_
     intros z8 H8 s8 h8;refine{qx,z8,_,_,rfl,rfl,.inr {cu.of (s8 _ _ (s07 _ _ hqx)),cu.of h8},.inr (.inl rfl),?_};rw[show decide (x.marks.map V.str=[])=decide (x.marks=[]) from by cases x.marks <;> simp];exact hz _ s8
    ·intro c Z hz
     rw[c,yS] at hz;exact hz _ (aB.refl _)
    intro H8 s8;let s08:=s07.trans s8;let s38:aB H3 H8:=((s5.trans s6).trans s7).trans s8;let h5':=(((s6.trans s7).trans s8)) _ _ h5;generalize (decide (x.aP=y.aP)&&decide (x.key=y.key)&&decide (x.marks=[]))=c1 at et ⊢;let h18:=s08 _ _ h1;clear h15 h16 h17 h6 h7;exists bl,bv,S,ub,b,rfl,s08 _ _ hbl,ilb.mono s08,iub.mono s08,(),bd,λp9 H9 s9 h9=>?_;let s09:=s08.trans s9;let h19:=s09 _ _ h1;exists bl,bv,S,ub,b-1,by rw[show(b:Int)-1=((b-1:Nat):Int) from by ext];rfl,s09 _ _ hbl,ilb.mono s09,iub.mono s09,(),bd,λp10 H10 s10 h10=>?_
    refine{p9,p10,_,_,rfl,rfl,.inr {cu.of (s10 _ _ h9),cu.of h10},.inr (.inr {(rfl),rfl}),?_};rw[NM];let s310:=s38.trans (s9.trans s10);let hD10:=(s9.trans s10) _ _ h5';refine{_,rfl,?_};refine join (λU H'=>H'=H10/\U=[some (.ref p),some (.str n),some (.ref d),w3,w4,w5,w6,w7,w8,some (.int b),w10,w11,w12,some (.ref D),some (.bl (c1&&decide (S.len b=S.len (b-1))))]) ?_ ?_ ?_
    ·intro N hM c
     let c2:decide (S.len b=S.len (b-1))=false:=by simpa using c
     change hM _ _ {rfl,by rw[c2,wG];rfl}
    ·intro N hM c
     let c2:decide (S.len b=S.len (b-1))=true:=by simpa using c
     change hM _ _ {rfl,by rw[c2,Bool.and_true];rfl}
    rintro U H11 ⟨rfl,rfl⟩;generalize decide (S.len b=S.len (b-1))=c2 at et;let hd11:=s310 _ _ h3
    try dsimp only at ef
    let ev:((!(c1&&c2))||decide ((b:Int)∈iV S n))=(decide ((b:Int)∈iV S n)||iW S ((b:Int)).toNat):=by rw[xX,et,Bool.or_comm]
    rw[hb,<-ev] at ef;clear ev et;left;refine qI ((!(c1&&c2))||decide ((b:Int)∈iV S n)) ?_ ?_ ?_
    ·intro c Z hz
     rw[c,Bool.false_or] at hz;exists .inl {_,.inl hd11},?_;exists _,.inl {_,.inl (b:Int),.inl hd11,rfl,rfl},?_;rw[tde];exact{_,rfl,hz}
    ·intro c;rw[c];rfl
    ·cases c:((!(c1&&c2))||decide ((b:Int)∈iV S n)) with
     | true=>
      rw[c,yN rfl] at ef;refine b7 rfl ?_;exists .inl {rfl,_,aI.of hD10},?_;exists D,_,_,rfl,rfl,hD10,by rw[za];ext,?_
      change hN _ _ {_,_,bC nD s310,by rw[aF,ef,zj];rfl,by rw[ef,zg];exact Nat.add_le_add_right l5 1,rfl}
     | false=>
      rw[c,yM (by simp),zU] at ef;refine cq rfl ?_;change hN _ _ {_,_,s310,by rw[ef];exact hD10,by rw[ef];ext,rfl}
   ·rintro U H5 ⟨w9,w14,s5,h5,l5,rfl⟩
    rw[show((⇑S.aO:Int)-1).toNat=⇑S.aO-1 from by ext] at h5;change kk D _ (s3.trans s5) h5
inductive Nc (K:yA) (vs:List V) (H:Hp) (Q:VK) (E:XK):Prop
 | mk (a:vy) (ns:List Int) (_:vs=[.ref a]) (_:aI K H a (ns.map V.int)) (_:⇑ns<=63) (_:∀H':Hp,Q (.bl true) H')
def OC {S:cg} (D:nA 24 S) {jo:Option Jump} (h:∀j,jo=some j->OZ ⇑S.aO S.repeats j):nA 24 {S with bu:=jo}:={(D.QM),D.pl,D.pn,D.ins,D.st,D.b1,D.bl,D.bd,D.up,D.hs,D.hr,D.no,D.nl,D.rp,h}
structure VS (S:cg):Prop where
 td:∀t∈dI S,TD t
 tl:⇑(dI S)<=1000
 UQ:dI S≠[]
 uF:∀r∈S.repeats,Mz r
 rl:⇑S.repeats<=1000
 bk:T7 S
 lb:VC S
def OE {S:cg} (D:nA 24 S):VS S:=by
 let b24:=D.bl;let b1:=D.b1;let r4:=D.rp.1;let⟨tl,UQ⟩:=Mb ∅ D;let re:∀r∈S.repeats,⇑r.ends<=9:=λr hr'=>(D.rp.2.1 r hr').2.2.2.2.2.2.1;let hr1:∀x∈S.holds,⇑x.2<=1000:=λx hx=>by have:=(D.hr x hx).2.1;ext
 let bok:∀x∈S.aO,BX x:=λx hx=>by
  let⟨m1,m2,m3,m4,m5⟩:=jM (D.bd x hx).1;exact{(()),(),(),()}
 refine{OD ∅ D,tl,UQ,λr hr'=>DN () (D.rp.2.1 r hr'),(),{(bok),b1,(),(),re,hr1},D.bd,b1,(),(),re,?_,hr1,?_}
 ·have:=D.hs.length_le
  have:=D.pl;rw[za] at *;ext
 ·exact D.hs.nodup D.pn.2
def Vr (S:cg) (H:Hp) (v:V):Prop:=∃q S',v=.ref q/\kD H q S'/\nA 24 S'/\S'.players=S.players
def RU (B:Dk P w K T) (F:Cf K T.lH):cZ P w base 9 T.U9 (Nc K):=by
 nomatch T.U9,["_law_script","_law_s","_law_one","_law_score","_law_player","_law_due","_law_found"]
 let⟨a,ns,rfl,hS,nl,kk⟩:=h;let sl:=yB;refine{_,(ah (bR 1 qN (bN (sG T) hr T.ka (aa (pv 0) (aa af ag))))
  (ah (bZ yO rfl (bc (bq (aa (pv 1) (aa (aA P0 (cL vJ (pv 1) du (dt af)) (bI (aa (bN (ma T) hr T.iP (aa (bN (bQ T) hr T.bX (aa (pv 0) (aa af ag))) (aa (d6 aE T.bE (aa (bB (pv 1) af) ag)) (aa (bB (pv 1) af) ag)))) ag))) ag)))) (gR 2 qN)
  (ah (bR 3 qN (bN (Cv T B F) hr T.oX (aa (bN (pf T) hr T.gZ (aa (pv 2) ag)) ag)))
   (ao (bZ yO rfl (bc (bB (pv 1) af)) (gR 4 qN)
   (ah (bR 5 qN (bN (A0 T) hr T.nu (aa (pv 2) (aa (pv 4) ag))))
    (ah (bR 6 qN (bN (Dy T F) hr T.breaks (aa (pv 3) (aa (pv 4) ag))))
    (ah (aJ (PW.pt (dB (eC (cy (Jq .lst (by decide +kernel) (pv 6) T.ly T.pw))) (dB (ptr (kZ hr.units) (pv 6) (pv 5)) (cU (eC (cy (d6 (kA rfl) T.Hk (aa (mE (ts:=["_law_bar"]) (ys:=[]) (js:=[]) (te:=(fI oA [] E0 (bM (aY 0) dR))) (bc (pv 6)) (gg 0) bg (bN (CB T) hr T.pK (aa (pv 0) ag))) ag))))))))
    (ao (au fL))
    aC)
    (ah (bJ (bU yC yE yD bF (pv 6) (aa af ag)))
    (ao (aJ (ptr (kZ hr.units) (bN (Dy T F) hr T.breaks (aa (pv 3) (aa (pv 4) ag))) (pv 5))
    (ao (au fL))
    aC))))))))))
  (ao (au fL)))),?_}
 ac_rfl;exists a,ns,24,rfl,hS,(),(by decide),(by decide),λS p H0 D s0 la=>?_;let⟨pl,il,st,bl,hl,nl',rl,ub,jm,iv,sv,bv,hv,nv,rv,h1,h2,f3,f4,f5,f6,f7,f8,f9,fj⟩:=la.at';let b24:=D.bl;let b1:=D.b1;left;refine .inl {p,_,rfl,cu.of h1,(by show¬(HT.d7 9 0 none=0/\HT.d7 9 9 (some 8)=9);decide),?_};right;rename_i p1 H1 s1 h1';let h11:=s1 _ _ h1;exists a,ns,_,rfl,(s0.trans s1).seq hS,(),(),λc=>?_;exists bl,bv,rfl,.inl (aI.of (s1 _ _ f5.1)),?_;rw[aQ f5.2];exists c,_,rl,S.repeats,rfl,{by have:=D.rp.1;ext,λr hr'=>by have:=(D.rp.2.1 r hr').2.2.2.2.2.2.1;ext,rv,s1 _ _ f9.1,f9.2.mono s1},D.rp,(),(),λjo v H2 jd s2 iv2=>?_;exists by show 1<=sizeLine;ext,?_
 intros p3 H3 s3 h3;exists p1,p3,_,_,rfl,rfl,cu.of (s3 _ _ (s2 _ _ h1')),cu.of h3,(λz=>by cases z),(by show 9<=sizeLine;ext),(λz=>by cases z),λ_=>?_;intros p4 H4 s4 h4;exists cT,?_;intros q5 H5 s5 h5;let s24:=s3.trans s4;let s04:=(s1.trans s2).trans s24;let la4:kD H4 p4 {S with bu:=jo}:={pl,il,st,bl,hl,nl',rl,ub,v,iv,sv,bv,hv,nv,rv,h4,s04 _ _ h2,{s04 _ _ f3.1,f3.2.mono s04},{s04 _ _ f4.1,f4.2.mono s04},{s04 _ _ f5.1,f5.2.mono s04},f6.mono s04,{s04 _ _ f7.1,f7.2.imp λx v z=>z.mono s04},{s04 _ _ f8.1,f8.2.imp λx v z=>z.mono s04},{s04 _ _ f9.1,f9.2.mono s04},iv2.mono s24}
 let s05:=s04.trans s5;let oall:∀x∈[V.ref p,V.ref p4],Vr S H5 x:=λx hx=>by
  rcases zC.mp hx with z | z
  ·exact{p,S,z,la.mono s05,D,rfl}
  ·exact{p4,_,zy.mp z,la4.mono s5,OC D jd,rfl}
 let h15:=s05 _ _ h1;let h25:=s05 _ _ h2;generalize [V.ref p,V.ref p4]=os at h5 oall;clear la4 h4 h3 h1' h11 jd iv2 f3 f4 f5 f6 f7 f8 f9 fj s24 s04;exists{_,aI.of h5},?_;refine gq (K:=K) (a:=q5) (xs:=os) (λi U H'=>aB H5 H'/\∃(w2 w3 w4 w5 w6:Option V),U=[some (.ref a),some (.ref p),w2,w3,w4,w5,w6]) {aB.refl _,_,_,_,_,_,rfl} (λi U H' _ h=>aI.of (h.1 _ _ h5)) ?_ ?_
 ·rintro Nx i x U H6 hN hx ⟨s6,w2,w3,w4,w5,w6,rfl⟩
  let⟨q,S',rfl,laq,D',ep⟩:=oall x (zB hx);let vok:=Qj ∅ D';let pd:=OE D';clear D';let h16:=s6 _ _ h15;exists q,S',rfl,laq.mono s6,pd.td,pd.tl,pd.uF,pd.rl,λH7 s7=>?_;exists _,dI S',S',rfl,text_len pd.td pd.tl,Pw pd.UQ pd.td,Nj vok,λsa o H8 sc s8 ow=>?_;let s58:=s6.trans (s7.trans s8);let h18:=s58 _ _ h15;exists{_,aI.of (s58 _ _ h25)},?_;refine gq (K:=K) (a:=pl) (xs:=S.players.map V.str) (λj U H'=>aB H8 H'/\∃(w4 w5 w6:Option V),U=[some (.ref a),some (.ref p),some (.ref q),some (.ref sa),w4,w5,w6]) {aB.refl _,_,_,_,rfl} (λi U H' _ h=>aI.of (h.1 _ _ (s58 _ _ h25))) ?_ ?_
  ·rintro Ny j x U H9 hM hx ⟨s9,w4,w5,w6,rfl⟩
   rw[zJ] at hx;cases qn:S.players[j]? with
   | none=>rw[qn] at hx;cases hx
   | some n=>
   rw[qn] at hx;simp only[xj,xK] at hx;subst hx;let nin:n∈S'.players:=by rw[ep];exact zB qn
   exists q,S',n,rfl,laq.mono (s58.trans s9),pd.lb,λDd H10 s10 hd=>?_;exists sa,S',o,n,rfl,sc.mono (s9.trans s10),nin,pd.bk,λDf H11 s11 nf hf=>?_;exists _,Pf hf,?_;exists Df,Dd,_,_,rfl,rfl,.inl {aI.of hf,aI.of (s11 _ _ hd)},.inr (.inr {vS _,vS _}),?_;rw[ze rfl];let lb:⇑(Il S' n)<=200:=by
    unfold Il fT;refine zL (xf _ _) ?_;rw[za,zQ];have:=pd.bk.2.2.1;ext
   exists{_,aI.of hf},?_;refine eU (enc:=V.int) (ws:=Il S' n) (λ_=>.bl true) (λU=>∃v,U=[v]) () (aI.of hf) {(none),rfl} ?_ ?_
   ·rintro z U H12 R hz s12 ⟨_,rfl⟩ rr
    change rr _ _ _ (aB.refl _) (by unfold Is;rfl) {_,rfl}
   intro Dg vs H12 s12 hg ilg;let ev:vs=((Il S' n).map λ_=>true).map V.bl:=jf (by rw[zA];exact ilg);rw[ev] at hg;refine{Dg,_,rfl,aI.of hg,?_};rw[show((Il S' n).map λ_=>true).all id=true from by rw[wa];exact yo.mpr λ_ _=>rfl];let hf12:=s12 _ _ hf;exists .inl {rfl,_,aI.of hf12},?_;exists Df,_,_,rfl,rfl,hf12,by rw[za];ext,?_
   let s13:aB H10 (upd H12 Df (.lst ((Il S' n).map V.int++[.int 0]))):=bC nf (s11.trans s12);generalize upd H12 Df _=H13 at s13 ⊢;exists sa,S',o,n,rfl,sc.mono ((s9.trans s10).trans s13),nin,pd.bk,λDh H14 s14 nh hh=>?_;exists Dh,Dd,_,_,rfl,rfl,.inl {aI.of hh,aI.of (s14 _ _ (s13 _ _ hd))},.inr (.inr {vS _,vS _}),?_;rw[ze rfl];change hM _ _ {((s9.trans s10).trans s13).trans s14,_,_,_,rfl}
  ·rintro U H9 ⟨s9,w4,w5,w6,rfl⟩
   change hN _ _ {s58.trans s9,_,_,_,_,_,rfl}
 ·rintro U H6 ⟨s6,w2,w3,w4,w5,w6,rfl⟩
  change kk _
end
def l1 {α:Type} {n:Nat} {P:List α->Prop} {us:List α} (h:⇑us=n+1) (k:∀u r,⇑r=n->P (u::r)):P us:=match us,h with
 | u::r,h=>k u r (Nat.succ.inj h)
def l0 {α:Type} {P:List α->Prop} {us:List α} (h:⇑us=0) (k:P []):P us:=match us,h with
 | [],_=>k
def mh {K:yA} {h:vz} {mg:Str->Option vo} {x:Str} {st:Stmt} {f:vy} {od an:Option vy} {sl:Array (Option vo)} {oc kV dc pm cd ct:vo} {p0:Str} (X:K.In h) (G:h.Ns mainGlobals mg) (a:PySem.W.nsIn K mainGlobals x=some (some (.ref f))<|>qn_) (l:K.lookup f=some {oc,od,.func (PySem.W.fnOf x x (cY st) (ck st) (aU st) .none kV dc pm an cd ct),sl}<|>qn_) (c:PySem.W.codeIn K cd x=true<|>qn_) (k:PySem.W.keepIn K (.ref f)=true<|>qn_)
  (hb:(∀(kV dc pm:vo) (an:Option vy) (cd ct u0:vo),bindArgs (PySem.W.fnOf x x (cY st) (ck st) (aU st) .none kV dc pm an cd ct) {[u0],[]}=pure [(p0,u0)])<|>qo_) :
  Df K mg x st f (PySem.W.fnOf x x (cY st) (ck st) (aU st) .none kV dc pm an cd ct) [p0]:=
 {j0 l c k,vn X G a,(j0 l c k).binds (ps:=[p0]) λkV dc pm an cd ct us hl=>by
  apply l1 hl;intro u0 r h;apply l0 h;exact hb kV dc pm an cd ct u0}
def kg {K:yA} {h:vz} {mg:Str->Option vo} {x:Str} {st:Stmt} {f:vy} {od an:Option vy} {sl:Array (Option vo)} {oc kV dc pm cd ct:vo} {p0 p1:Str} (X:K.In h) (G:h.Ns mainGlobals mg) (a:PySem.W.nsIn K mainGlobals x=some (some (.ref f))<|>qn_) (l:K.lookup f=some {oc,od,.func (PySem.W.fnOf x x (cY st) (ck st) (aU st) .none kV dc pm an cd ct),sl}<|>qn_) (c:PySem.W.codeIn K cd x=true<|>qn_) (k:PySem.W.keepIn K (.ref f)=true<|>qn_)
  (hb:(∀(kV dc pm:vo) (an:Option vy) (cd ct u0 u1:vo),bindArgs (PySem.W.fnOf x x (cY st) (ck st) (aU st) .none kV dc pm an cd ct) {[u0,u1],[]}=pure [(p0,u0),(p1,u1)])<|>qo_) :
  Df K mg x st f (PySem.W.fnOf x x (cY st) (ck st) (aU st) .none kV dc pm an cd ct) [p0,p1]:=
 {j0 l c k,vn X G a,(j0 l c k).binds (ps:=[p0,p1]) λkV dc pm an cd ct us hl=>by
  apply l1 hl;intro u0 r h;apply l1 h;intro u1 r h;apply l0 h;exact hb kV dc pm an cd ct u0 u1}
def SF {K:yA} {h:vz} {mg:Str->Option vo} {x:Str} {st:Stmt} {f:vy} {od an:Option vy} {sl:Array (Option vo)} {oc kV dc pm cd ct:vo} {p0 p1 p2:Str} (X:K.In h) (G:h.Ns mainGlobals mg) (a:PySem.W.nsIn K mainGlobals x=some (some (.ref f))<|>qn_) (l:K.lookup f=some {oc,od,.func (PySem.W.fnOf x x (cY st) (ck st) (aU st) .none kV dc pm an cd ct),sl}<|>qn_) (c:PySem.W.codeIn K cd x=true<|>qn_) (k:PySem.W.keepIn K (.ref f)=true<|>qn_)
  (hb:(∀(kV dc pm:vo) (an:Option vy) (cd ct u0 u1 u2:vo),bindArgs (PySem.W.fnOf x x (cY st) (ck st) (aU st) .none kV dc pm an cd ct) {[u0,u1,u2],[]}=pure [(p0,u0),(p1,u1),(p2,u2)])<|>qo_) :
  Df K mg x st f (PySem.W.fnOf x x (cY st) (ck st) (aU st) .none kV dc pm an cd ct) [p0,p1,p2]:=
 {j0 l c k,vn X G a,(j0 l c k).binds (ps:=[p0,p1,p2]) λkV dc pm an cd ct us hl=>by
  apply l1 hl;intro u0 r h;apply l1 h;intro u1 r h;apply l1 h;intro u2 r h;apply l0 h;exact hb kV dc pm an cd ct u0 u1 u2}
def Vl {K:yA} {h:vz} {mg:Str->Option vo} {x:Str} {st:Stmt} {f:vy} {od an:Option vy} {sl:Array (Option vo)} {oc kV dc pm cd ct:vo} {p0 p1 p2 p3:Str} (X:K.In h) (G:h.Ns mainGlobals mg) (a:PySem.W.nsIn K mainGlobals x=some (some (.ref f))<|>qn_) (l:K.lookup f=some {oc,od,.func (PySem.W.fnOf x x (cY st) (ck st) (aU st) .none kV dc pm an cd ct),sl}<|>qn_) (c:PySem.W.codeIn K cd x=true<|>qn_) (k:PySem.W.keepIn K (.ref f)=true<|>qn_)
  (hb:(∀(kV dc pm:vo) (an:Option vy) (cd ct u0 u1 u2 u3:vo),bindArgs (PySem.W.fnOf x x (cY st) (ck st) (aU st) .none kV dc pm an cd ct) {[u0,u1,u2,u3],[]}=pure [(p0,u0),(p1,u1),(p2,u2),(p3,u3)])<|>qo_) :
  Df K mg x st f (PySem.W.fnOf x x (cY st) (ck st) (aU st) .none kV dc pm an cd ct) [p0,p1,p2,p3]:=
 {j0 l c k,vn X G a,(j0 l c k).binds (ps:=[p0,p1,p2,p3]) λkV dc pm an cd ct us hl=>by
  apply l1 hl;intro u0 r h;apply l1 h;intro u1 r h;apply l1 h;intro u2 r h;apply l1 h;intro u3 r h;apply l0 h;exact hb kV dc pm an cd ct u0 u1 u2 u3}
def walk {l:PySem.W.OpenLaw} {q:vt} {loose:List Str} {XP:(Str->Option vo)->vz->Prop} {YP:vv->vz->Prop} {d:DefRec} {K:Params->yA} (hn:l.most=some 63) (hdf:d.params.defaults=[]) (hdn:d.name ="law")
  (hY:∀(w:vv) (h:vz),YP w h->(K w.params).In h)
  (F:∀(w:vv) (mg:Str->Option vo) (h:vz),(K w.params).In h->h.Ns mainGlobals mg->
   ∃T:Txt (K w.params) mg,Dk l.prog w (K w.params) T/\∀(s:vq) (v:vo),BindsTo s T.OI {[v],[]} [("_law_script",v)]) :
  PySem.W.WalkO q loose XP YP l.row.toRowW d [] (λf vs=>PySem.call f vs):=
 L2.Pb (n:=63) (k:=9) (x:="_law_script") (CX:=λ_=>IG) (sp:=λw=>Nc (K w.params)) hn ∅ hdf {rfl,∅,∅} hY
  (λw mg fa h kx hns hm=>by
   let⟨T,B,hb⟩:=F w mg h kx hns;rw[hdn] at hm;let e:=hm.symm.trans T.U9.g;cases e;exact{T.OI,hb,λbase _ _=>RU T B T.cf}) (λ_ _ a ns hl _ hS=>{a,ns,rfl,hS,hl,λ_=>rfl}) λ_ _ _ _ _ z=>z
def Vw {P:vt} {w:vv} {K:yA} {a:vy} {n:Nat} {t0 t1 t2 t3 t4 t5 t6 t7 t8:Tok} {f0 f1 f2 f3 f4 f5 f6 f7 f8:vy} {s0 s1 s2 s3 s4 s5 s6 s7 s8:Str} (r:K.lookup a=some {cls:=.type "dict",data:=.dict #[{PyData.keyHash w.params s0,.str s0 t0,.ref f0},{PyData.keyHash w.params s1,.str s1 t1,.ref f1},{PyData.keyHash w.params s2,.str s2 t2,.ref f2},{PyData.keyHash w.params s3,.str s3 t3,.ref f3},{PyData.keyHash w.params s4,.str s4 t4,.ref f4},{PyData.keyHash w.params s5,.str s5 t5,.ref f5},{PyData.keyHash w.params s6,.str s6 t6,.ref f6},{PyData.keyHash w.params s7,.str s7 t7,.ref f7},{PyData.keyHash w.params s8,.str s8 t8,.ref f8}] n}) (y:(a == sysModules)=false) (nd:List.Nodup [s0,s1,s2,s3,s4,s5,s6,s7,s8]) :
  KD P w K a [(s0,.ref f0),(s1,.ref f1),(s2,.ref f2),(s3,.ref f3),(s4,.ref f4),(s5,.ref f5),(s6,.ref f6),(s7,.ref f7),(s8,.ref f8)]:=Ts (l:=[(s0,t0,f0),(s1,t1,f1),(s2,t2,f2),(s3,t3,f3),(s4,t4,f4),(s5,t5,f5),(s6,t6,f6),(s7,t7,f7),(s8,t8,f8)]) r y nd
def VN {K:yA} {a:vy} {rd:Option vy} {rs:Array (Option vo)} {rn:Nat} {t0 t1 t2 t3 t4 t5:Tok} {x0 x1 x2 x3 x4 x5:Int} (r:K.lookup a=some {.type "tuple",rd,.seq #[.int x0 t0,.int x1 t1,.int x2 t2,.int x3 t3,.int x4 t4,.int x5 t5] rn,rs}) (H:Hp):cu K H a [.int x0,.int x1,.int x2,.int x3,.int x4,.int x5]:=
 .inr {_,_,_,r,rfl,rfl,by show 6<=sizeLine;decide,.cons {_,rfl} (.cons {_,rfl} (.cons {_,rfl} (.cons {_,rfl} (.cons {_,rfl} (.cons {_,rfl} (.nil))))))}
def VR {K:yA} {x y:Str} {st:Stmt} {f:vy} {od an:Option vy} {sl:Array (Option vo)} {oc kV dc pm cd ct:vo} {p:Str} (l:K.lookup f=some {oc,od,.func (PySem.W.fnOf x y (cY st) (ck st) (aU st) .none kV dc pm an cd ct),sl}<|>qn_) (c:PySem.W.codeIn K cd y=true<|>qn_) (k:PySem.W.keepIn K (.ref f)=true<|>qn_)
  (hb:(∀(kV dc pm:vo) (an:Option vy) (cd ct u:vo),bindArgs (PySem.W.fnOf x y (cY st) (ck st) (aU st) .none kV dc pm an cd ct) {[u],[]}=pure [(p,u)])<|>qo_):VF K x y st f (PySem.W.fnOf x y (cY st) (ck st) (aU st) .none kV dc pm an cd ct) [p]:=
 {j0 l c k,(j0 l c k).binds (ps:=[p]) λkV dc pm an cd ct us hl=>match us,hl with | [u],_=>hb kV dc pm an cd ct u}
def P4 {K:yA} {C:vy} {f:Str} (e:PySem.W.findIn K (.ref C) f=some none<|>qn_):eN K C f:=e
def vL {K:yA} {h:vz} {mg:Str->Option vo} {x:Str} {v:vo} (X:K.In h) (G:h.Ns mainGlobals mg) (e:PySem.W.nsIn K mainGlobals x=some (some v)<|>qn_):mg x=some v:=vn X G e
def Hm {K:yA} {h:vz} {mg:Str->Option vo} {x:Str} (X:K.In h) (G:h.Ns mainGlobals mg) (e:PySem.W.nsIn K mainGlobals x=some none<|>qn_):mg x=none:=PySem.W.mg_none_of X G e
end K22
namespace PySem.W.Fast
def tw10063399653292680753:=Prop
def tw11624765616137565122:=Prop
def tw8099955908336547318:=Prop
def tw17377266426375063662:=Prop
def tw1909069018081931012:=Prop
def tw11550734290077615207:=Prop
def tw4745582758522512500:=Prop
def tw10684918962006104074:=Prop
def tw15693033100001165157:=Prop
def tw14328352842309998277:=Prop
def tw5073769071629969703:=Prop
def tw12794669062266964638:=Prop
def tw10898304272359079517:=Prop
def tw10387535591733246194:=Prop
def tw3440063015757949177:=Prop
def tw16225221485991338584:=Prop
def tw6962919128640836224:=Prop
def tw4882466349908726599:=Prop
def tw13271086243930711010:=Prop
def tw11186165658742213499:=Prop
def tw13067097978341114218:=Prop
def tw12294362704429998695:=Prop
def tw9963771211163492631:=Prop
def tw15104784112099790772:=Prop
def tw12693335351694746278:=Prop
def tw9601528344891839533:=Prop
def tw16008480532024345926:=Prop
def tw11709133627713587958:=Prop
def tw13938930411336147463:=Prop
def tw8139020951441326091:=Prop
def tw5235056367391468595:=Prop
def tw12796751545053241994:=Prop
def tw2926214520722555865:=Prop
def tw12562481853468899106:=Prop
def tw5082526553411657841:=Prop
def tw6839414335694809311:=Prop
def tw5201569612435251920:=Prop
def tw3198791603080227862:=Prop
def tw1962089975480838986:=Prop
def tw13057674967427517064:=Prop
def tw14825217438334035391:=Prop
def tw1457981224761302152:=Prop
def tw6839680741300819109:=Prop
def tw14296320323574488449:=Prop
def tw913097151337680584:=Prop
def tw16274789365354433720:=Prop
def tw11485003657895197391:=Prop
def tw11345897871401981003:=Prop
def tw15527491602322703461:=Prop
def tw8763026485238010649:=Prop
def tw14431091038909864324:=Prop
def tw12845659726251474548:=Prop
def tw11176446476266417913:=Prop
def tw17690498121638202721:=Prop
def tw17169327142368261364:=Prop
def tw16338799865399368597:=Prop
def tw6300971293153260075:=Prop
def tw17597859124582639878:=Prop
def tw165984634438858800:=Prop
def tw3872411558057049812:=Prop
def tw8697032965611134377:=Prop
def tw2661801015842316920:=Prop
def tw6538225906024755640:=Prop
def tw8871794086774088712:=Prop
def tw6938985360927735993:=Prop
def tw12071519849924679478:=Prop
def tw4193849858015432171:=Prop
def tw3578986535135649404:=Prop
def tw5714726785743511739:=Prop
def tw1369276801928047324:=Prop
def tw8921634516352862812:=Prop
def tw12540121011691893032:=Prop
def tw9908845018473104298:=Prop
def tw2296764933730719812:=Prop
def tw1448459289447197847:=Prop
def tw8879897522933222360:=Prop
def tw7096123591042530132:=Prop
def tw6507947840313379464:=Prop
def tw15646369776112750315:=Prop
def tw15762331185929363163:=Prop
def tw13159502357707449202:=Prop
def tw9158447004237715305:=Prop
def tw5023642191326766951:=Prop
def tw7202239344683424963:=Prop
def tw10674888688156921431:=Prop
def tw4423096824654273977:=Prop
def tw2391975774562643401:=Prop
def tw6478363246134337768:=Prop
def tw18242642237608061153:=Prop
def tw15740161851547729802:=Prop
def tw11913143669253753967:=Prop
def tw13349759054927869345:=Prop
def tw11071875055817539063:=Prop
def tw12272662036128787077:=Prop
def tw15575011282257511278:=Prop
def tw10590091926244434735:=Prop
def tw14408535476884477799:=Prop
def tw18416875907747246451:=Prop
def tw7553140486670515563:=Prop
def tw13613811006289605810:=Prop
def tw11620512359520435034:=Prop
def tw3802215433203736538:=Prop
def tw15436275799532121845:=Prop
def tw12880830869175075799:=Prop
def tw18257639069541999320:=Prop
def tw11165740775117402414:=Prop
def tw8699970779379442558:=Prop
def tw1978336740011862252:=Prop
def tw12320884674123483371:=Prop
def tw16834342197011521376:=Prop
def tw16805289098680618249:=Prop
def tw11720837934743727547:=Prop
def tw3136696245600680418:=Prop
def tw9444497829294173453:=Prop
def tw15043509555965984742:=Prop
def tw874143563363890673:=Prop
def tw17812809544362196229:=Prop
def tw13469523111712712449:=Prop
def tw3535711548841457886:=Prop
def tw230558301934520486:=Prop
def tw17007018610676977046:=Prop
def tw5414602677293485237:=Prop
def tw6595680496450631381:=Prop
def tw4434702473385505631:=Prop
def tw4442086908840590961:=Prop
def tw17065987860643014006:=Prop
def tw11435882436992372095:=Prop
def tw6977574410762839226:=Prop
def tw14123635757998621681:=Prop
def tw3893433786529202992:=Prop
def tw11739650155369883154:=Prop
def tw18193199415491675716:=Prop
def tw4158124938888943967:=Prop
def tw14948984813446953453:=Prop
def tw5076211268281648198:=Prop
def tw6221858996587996309:=Prop
def tw8901077147856500240:=Prop
def tw15421863931252704756:=Prop
def tw6250355474134700743:=Prop
def tw10229357301804328687:=Prop
def tw8947798636810689836:=Prop
def tw14939282080788676655:=Prop
def tw11166698196871148597:=Prop
def tw14130762192300404364:=Prop
def tw13684158905529855959:=Prop
def tw191587353695391380:=Prop
def tw17197675153897987811:=Prop
def tw3416992648943845470:=Prop
def tw16983579611390824946:=Prop
def tw4465336282541296528:=Prop
def tw18400187385028524714:=Prop
def tw6899933598394169406:=Prop
def tw16666611211183107277:=Prop
def tw1214608693325063265:=Prop
def tw2513004544770244118:=Prop
def tw2575247380189131779:=Prop
def tw1956300647538237992:=Prop
def tw14670870538977228210:=Prop
def tw5244857382184060490:=Prop
def tw16136279191953325688:=Prop
def tw13508494655965894105:=Prop
def tw3500968698978652875:=Prop
def tw16565943517949243263:=Prop
def tw8215085703312176226:=Prop
def tw10688046106194724660:=Prop
def tw16864975855691315670:=Prop
def tw6316345498492406578:=Prop
def tw1237955177509944596:=Prop
def tw9686558396663729163:=Prop
def tw8385145592212270725:=Prop
def tw14785836778787493381:=Prop
def tw5770646833938606339:=Prop
def tw13295986563128730409:=Prop
def tw13741701982049557536:=Prop
def tw7839773282450297410:=Prop
def tw6930507538265619302:=Prop
def tw11513897693638318322:=Prop
def tw14654289453599461046:=Prop
def tw13472768651909207005:=Prop
def tw16903871680248603545:=Prop
def tw9622529790438150387:=Prop
def tw5033810838558361652:=Prop
def tw13406013990743557089:=Prop
def tw2294532317938447504:=Prop
def tw5559606172736028861:=Prop
def tw3974320928836866067:=Prop
def tw7946116975363564790:=Prop
def tw7646836260309915682:=Prop
def tw11966350927705200745:=Prop
def tw6399760985351148055:=Prop
def tw12639988970157016261:=Prop
def tw13390568710265184474:=Prop
def tw18148537122128484608:=Prop
def tw11193579675058669030:=Prop
def tw12077864170849159242:=Prop
def tw550501121457246522:=Prop
def tw5433838443260675728:=Prop
def tw17466018758744549169:=Prop
def tw16682728382631746000:=Prop
def tw202623738849196459:=Prop
def tw767057724156105499:=Prop
def tw4805295506424489201:=Prop
def tw4347050037924901820:=Prop
def tw13572553689754930158:=Prop
def tw16297817129744956958:=Prop
def tw12491977073152787276:=Prop
def tw10555321831837337243:=Prop
def tw12718254580837003782:=Prop
def tw16376351073044335354:=Prop
def tw11772168945140692937:=Prop
def tw3829434975552303445:=Prop
def tw7782808698561905713:=Prop
def tw12733559140360021761:=Prop
def tw12648922179635432853:=Prop
def tw12784538075233893202:=Prop
def tw16921260404128484504:=Prop
def tw14137411451688954014:=Prop
def tw12941839488049387087:=Prop
def tw9543164361203810426:=Prop
def tw11105218767488154422:=Prop
def tw16576971237220352499:=Prop
def tw1824778664898511218:=Prop
def tw8603144692976396598:=Prop
def tw4310834065072491375:=Prop
def tw2977267253392457739:=Prop
def tw8982233426765281990:=Prop
def tw7244427108066812890:=Prop
def tw9393417412917738225:=Prop
def tw1114443474782117881:=Prop
def tw6124119979422167407:=Prop
def tw12577353867300222161:=Prop
def tw16071839644785281267:=Prop
def tw16555068012273262388:=Prop
def tw17426618403567512923:=Prop
def tw11536507209463942351:=Prop
def tw4022069195014762518:=Prop
def tw3528748660988997558:=Prop
def tw17914989185142303798:=Prop
def tw6159419988746712247:=Prop
def tw14246858036843977988:=Prop
def tw17209515240690150898:=Prop
def tw67287889775869846:=Prop
def tw12971218375718122125:=Prop
def tw13930534652118824607:=Prop
def tw8240889132671753069:=Prop
def tw18442918250591628908:=Prop
def tw7562542965114910473:=Prop
def tw18305430081730319367:=Prop
def tw7173870257174194369:=Prop
def tw1614086680602084489:=Prop
def tw11973196433885465241:=Prop
def tw13496270459316254065:=Prop
def tw8405215838018084567:=Prop
def tw4781102041290887871:=Prop
def tw12239547059386487069:=Prop
def tw1565817877107163024:=Prop
def tw18349698670995154296:=Prop
def tw13767784767537314829:=Prop
def tw90015456604037125:=Prop
def tw4799166662287414144:=Prop
def tw4655684066894801398:=Prop
def tw9293273372529470385:=Prop
def tw249471796613548298:=Prop
def tw14296818844645651538:=Prop
def tw12058100920345864213:=Prop
def tw11909577851933158855:=Prop
def tw18249402150923811661:=Prop
def tw611071398038619621:=Prop
def tw4939164304687157682:=Prop
def tw3134618102783036666:=Prop
def tw2279543200704335986:=Prop
def tw16979253801362103428:=Prop
def tw16491201518153698346:=Prop
def tw16108893279287092693:=Prop
def tw15662138328115759129:=Prop
def tw15501463855616761828:=Prop
def tw1562158598569409727:=Prop
def tw1334290754245682776:=Prop
def tw7566973955611219765:=Prop
def tw3194344382307597333:=Prop
def tw8277751199027851743:=Prop
def tw12250602131863060394:=Prop
def tw12154817032820508223:=Prop
def tw14034176839999855663:=Prop
def tw5978277547931790440:=Prop
def tw1346778014733985957:=Prop
def tw11034641443029209858:=Prop
def tw11086926944080873153:=Prop
def tw15147854947621504171:=Prop
def tw2778147472435486241:=Prop
def tw14429993387439808952:=Prop
def tw8562959245641216284:=Prop
def tw9016188565712615558:=Prop
def tw6344231246918903362:=Prop
def tw4159067820940008812:=Prop
def tw3666637772199791525:=Prop
def tw3653057266736309879:=Prop
def tw18157606720285582278:=Prop
def tw1720050030520205102:=Prop
def tw16680839275449141292:=Prop
def tw11741609104053119126:=Prop
def tw11291675960075569749:=Prop
def tw1033168444186273693:=Prop
def tw16567845619272257487:=Prop
def tw9184728420875476302:=Prop
def tw901157873474038147:=Prop
def tw7159317679640711811:=Prop
def tw5175179832529391369:=Prop
def tw2670021304599470163:=Prop
def tw2531059510909724316:=Prop
def tw1584661848077251981:=Prop
def tw14426211306557118994:=Prop
def tw14226949505949397210:=Prop
def tw11708183655062422512:=Prop
def tw11039909140334560999:=Prop
def tw9813847258084264939:=Prop
def tw9768429844295756526:=Prop
def tw9726596679170868489:=Prop
def tw9154783637285545537:=Prop
def tw8767304903086413129:=Prop
def tw8716835055122977836:=Prop
def tw8182341255704365562:=Prop
def tw7791997911717745768:=Prop
def tw7738571064200715861:=Prop
def tw7609595538753097998:=Prop
def tw7580613664247505225:=Prop
def tw7535332357593110927:=Prop
def tw7338894039309980608:=Prop
def tw7322855261273861283:=Prop
def tw704765020672322779:=Prop
def tw6992366318697996331:=Prop
def tw6863291713194260951:=Prop
def tw676252734050188800:=Prop
def tw6393179392451859394:=Prop
def tw6254039375280680962:=Prop
def tw5652305018381729551:=Prop
def tw5583557881867580608:=Prop
def tw5562319340560714172:=Prop
def tw551394160212964680:=Prop
def tw4937768952588412029:=Prop
def tw467004961890072264:=Prop
def tw4498374364611906731:=Prop
def tw4049587941659394724:=Prop
def tw374790016349223506:=Prop
def tw3644781009082661471:=Prop
def tw3508331986922166720:=Prop
def tw3501168475351233072:=Prop
def tw3207922819173862401:=Prop
def tw24194018139040337:=Prop
def tw18395491378600473924:=Prop
def tw1783437917633715306:=Prop
def tw17777175119624482856:=Prop
def tw17729106370534192076:=Prop
def tw17689186700433193136:=Prop
def tw1761368685711895648:=Prop
def tw17383950681715529740:=Prop
def tw17108338053569424494:=Prop
def tw16864120095922895220:=Prop
def tw16783864316522935913:=Prop
def tw16113787247943616479:=Prop
def tw15871332214202529590:=Prop
def tw15844394259026222539:=Prop
def tw15787148901765480464:=Prop
def tw15712573177352184849:=Prop
def tw15571975446802408690:=Prop
def tw15497427353102835236:=Prop
def tw15353976512842324407:=Prop
def tw14706455113755000253:=Prop
def tw14598916242221574601:=Prop
def tw13792679229929114101:=Prop
def tw13618259544484566529:=Prop
def tw13471509801774346602:=Prop
def tw12924578730449746033:=Prop
def tw12409582431397040766:=Prop
def tw12278974611266489123:=Prop
def tw11509319760741360546:=Prop
def tw10908218447946342948:=Prop
def tw10791174072897600456:=Prop
def tw10700590422106270350:=Prop
def tw10678680203042550876:=Prop
def tw10219175027811850331:=Prop
def tw10101309835473097261:=Prop
def tw11807575997603260068:=Prop
def tw1111911758429711851:=Prop
def tw18051350591329876555:=Prop
def tw9087575601588428999:=Prop
def tw8843639566050328162:=Prop
def tw8555048025125979134:=Prop
def tw486557267489725438:=Prop
def tw2583137997639133397:=Prop
def tw2348973321149926787:=Prop
def tw1822997217676573275:=Prop
def tw16839920972014032322:=Prop
def tw16215713478677444473:=Prop
def tw15284498798965467925:=Prop
def tw14506726843028342758:=Prop
def tw14274816598898697118:=Prop
def tw10321249154243387805:=Prop
def tw1018382716347825007:=Prop
def tw6870184905391141484:=Prop
def tw1753734028473575874:=Prop
def tw8139696179612130434:=Prop
def tw12430135733876226194:=Prop
def tw17742700453922213663:=Prop
def tw7326066685385810891:=Prop
def tw11700473305280304950:=Prop
def tw4979517226454791942:=Prop
def tw354263407621916208:=Prop
def tw4593681786092441247:=Prop
def tw7194398084906392670:=Prop
def tw2792651033241588119:=Prop
def tw9458984925215537218:=Prop
def tw14679512810252396114:=Prop
def tw8796273639772046600:=Prop
def tw7195212296694775868:=Prop
def tw14000022738278356902:=Prop
def tw646458098368716032:=Prop
def tw5180691280648046124:=Prop
def tw462970707636356485:=Prop
def tw4315251475236909685:=Prop
def tw3842550024630726845:=Prop
def tw17120077975458953265:=Prop
def tw16494352058690626732:=Prop
def tw1420151427312402871:=Prop
def tw11147996738344005719:=Prop
def tw11620573672598924922:=Prop
def tw8471981009419062065:=Prop
def tw9537016286719187474:=Prop
def tw11725970986389120188:=Prop
def tw11653710505921721382:=Prop
def tw11619220366161626768:=Prop
end PySem.W.Fast
open PySem PySem.W PyProof.Rows L2 Sc K22
set_option maxRecDepth 100000 in
set_option maxHeartbeats 0 in
theorem PySem.Challenge.cw_partsmith_k28_breaks_holds : PySem.Challenge.rw_partsmith_k28_breaks.Holds := by
  w_on; o_law; k_head; (case hw => w_witness2)
  k_fill
  refine K22.walk (l := PySem.Challenge.rw_partsmith_k28_breaks) rfl rfl rfl (fun w h Y => PySem.W.kIn_of Y) ?F
  case F =>
    intro w mg h X G
    exact ⟨⟨_,_,_,_,_,_,_,_,_,_,_,_,_,_,_,_,_,_,_,_,_,_,_,_,_,_,_,_,_,_,_,_,_,_,_,_,_,_,_,_,_,_,_,_,_,_,_,_,_,_,_,_,_,_,_,_,_,_,_,_,_,_,_,_,_,_,_,_,_,_,_,_,_,_,_,_,_,_,_,_,_,_,_,_,_,_,_,_,_,_,_,_,_,_,_,_,_,_,_,_,_,_,_,_,_,_,_,_,_,_,_,_,_,_,_,_,_,_,_,_,_,_,_,_,_,_,_,_,_,_,_,_,_,_,_,_,_,_,_,_,_,_,_,_,_,_,_,_,_,_,_,_,_,_,_,_,_,_,_,_,_,_,_,_,_,_,_,_,_,_,_,_,_,_,_,_,_,_,_,_,_,_,_,_,_,_,_,_,_,_,_,_,_,_,_,_,_,_,_,_,_,_,_,_, kg X G, kg X G, kg X G, kg X G, kg X G, kg X G, mh X G, kg X G, mh X G, mh X G, mh X G, mh X G, mh X G, mh X G, SF X G, mh X G, kg X G, mh X G, mh X G, mh X G, mh X G, mh X G, mh X G, mh X G, mh X G, mh X G, mh X G, mh X G, mh X G, mh X G, mh X G, mh X G, mh X G, kg X G, kg X G, kg X G, kg X G, kg X G, SF X G, kg X G, kg X G, kg X G, mh X G, kg X G, kg X G, kg X G, kg X G, kg X G, kg X G, kg X G, kg X G, kg X G, kg X G, SF X G, kg X G, SF X G, mh X G, kg X G, kg X G, mh X G, mh X G, kg X G, kg X G, kg X G, kg X G, kg X G, mh X G, kg X G, kg X G, SF X G, Vl X G, Vl X G, Vl X G, kg X G, kg X G, kg X G, SF X G, mh X G, kg X G, kg X G, mh X G, mh X G, mh X G, mh X G, mh X G, mh X G, mh X G, kg X G, mh X G, vL X G, ⟨by k_is,by k_is,by k_is,by k_is⟩, VR, vL X G, vL X G, vL X G, vL X G, vL X G, vL X G, vL X G, vL X G, vL X G, vL X G, vL X G, vL X G, VN (by k_is), vL X G, vL X G, vL X G, vL X G, vL X G, vL X G, vL X G, vL X G, vL X G, vL X G, Hm X G, Hm X G, Hm X G, Hm X G, Hm X G, Hm X G, Hm X G, Hm X G, Hm X G, Hm X G, Hm X G, Hm X G, Hm X G, Hm X G, Hm X G, Hm X G, Hm X G,by k_is, by k_exc, vL X G, ⟨⟨by k_is,by k_is,by k_is,by k_is⟩, P4, P4, P4, P4, P4, P4, P4, P4, P4⟩⟩, ⟨Vw (by k_is) (by rfl) (show List.Nodup [("player" : Str), ("instrument" : Str), ("staff" : Str), ("bar" : Str), ("upbeat" : Str), ("holds" : Str), ("notes" : Str), ("repeat" : Str), ("jump" : Str)] by decide +kernel), Vw (by k_is) (by rfl) (show List.Nodup [("player" : Str), ("instrument" : Str), ("staff" : Str), ("bar" : Str), ("upbeat" : Str), ("holds" : Str), ("notes" : Str), ("repeat" : Str), ("jump" : Str)] by decide +kernel)⟩, fun s v => .of_eq rfl⟩
