import PyProof.Rows.All
import KE.KNestM
import Wide.FinOn
import PyProof.EqAt
import PyProof.EqKinds
import PyProof.TupleCall
import PyProof.ZipIter
import PyProof.WalksMore
import PyProof.CompFree
import PyProof.NeKinds
import KE.KRevIter
import PyProof.Rows.Range3
import KE.KIntText
import OpenK.KOwn
import PyProof.NsDelKeeps
import KE.KIsAll
import PyProof.CompMap
import PyProof.Cells
import PyProof.ConsumeWalk
import PyProof.SumWalk
import PyProof.Rows.SortShell
import PyProof.MeetsStr
import PyProof.StrOps2
import PyProof.DictWalks
import PyProof.Rows.SetFrom
import PyProof.SetRoads
import PyProof.ListRange
import PyProof.ListNew
import PyProof.ExcInit
import PyProof.InstStoreFacts
import PyProof.LayNew
import PySem.Challenge.RW_partsmith_k15_too_many_and_the_first_at
local macro_rules|`(tactic|omega)=>`(tactic|lia)
local macro_rules|`(tactic|ext)=>`(tactic|omega)
local macro_rules|`(())=>`(by omega)
local macro_rules|`(∅)=>`(by decide)
local macro_rules|`(↑$s)=>`(($s).heap.objs.size)
local macro_rules|`($a <|> $b)=>`(autoParam $a $b)
local macro_rules (kind:=«term{_}»)|`({$xs,*})=>`(⟨$xs,*⟩)
local macro_rules|`(⇑$x)=>`(($x).length)
def tpt:Nat->Lean.Term->Lean.MacroM (Lean.TSyntax `rcasesPat)
|0,_=>Lean.Macro.throwUnsupported
|n+1,p=>match p with
 |`(⟨$ps,*⟩)=>do let qs<-ps.getElems.mapM (tpt n);`(rcasesPat|⟨$[$qs],*⟩)
 |`($i:ident)=>`(rcasesPat|$i:ident)
 |_=>`(rcasesPat|_)
local macro_rules|`(tactic|let $d:letDecl)=>`(tactic|have $d:letDecl)
local macro_rules|`(tactic|let $p:term:=$v:term)=>do let q<-tpt 9 p;`(tactic|obtain $q:rcasesPat:=$v)
set_option compiler.extract_closed false
set_option Elab.async false
set_option linter.all false
set_option maxRecDepth 100000
set_option maxHeartbeats 8000000
def qa_1(h:True:=by first | exact .inl rfl | exact .inr rfl | assumption):=h
def qa_:=qa_1._auto_1
def qb_1(h:True:=by decide):=h
def qb_:=qb_1._auto_1
def qc_1(h:True:=by first | exact A4 _ (by decide) (by decide) | rfl):=h
def qc_:=qc_1._auto_1
def qd_1(h:True:=by intro _;rfl):=h
def qd_:=qd_1._auto_1
def qe_1(h:True:=by rfl):=h
def qe_:=qe_1._auto_1
def qf_1(h:True:=by first | exact Or.inl rfl | exact Or.inr (Or.inl rfl) | exact Or.inr (Or.inr rfl)):=h
def qf_:=qf_1._auto_1
def qg_1(h:True:=by exact fun _ _=>rfl):=h
def qg_:=qg_1._auto_1
def qh_1(h:True:=by intro vs H Q E h;first | (obtain⟨_,rfl,_⟩:=h;rfl) | (cases h;subst_vars;rfl)):=h
def qh_:=qh_1._auto_1
def qi_1(h:True:=by decide +kernel):=h
def qi_:=qi_1._auto_1
def qj_1(h:True:=by first | exact Or.inl rfl | exact Or.inr rfl):=h
def qj_:=qj_1._auto_1
def qk_1(h:True:=by repeat' (first | exact trivial | exact .inl rfl | exact rfl | constructor)):=h
def qk_:=qk_1._auto_1
def ql_1(h:True:=by k_is):=h
def ql_:=ql_1._auto_1
def qm_1(h:True:=by intros;rfl):=h
def qm_:=qm_1._auto_1
def qn_1(h:True:=by k_exc):=h
def qn_:=qn_1._auto_1
def za:=@List.length_map
def zb:=@List.getElem?_eq_getElem
def zc:=@decide_eq_false
def zd:=@decide_eq_true
def ze:=@List.length_append
def zf:=@List.map_cons
def zg:=@List.map_append
def zh:=@Nat.le_refl
def zj:=@List.mem_cons_of_mem
def zk:=@List.mem_cons_self
def zm:=@Int.emod_lt_of_pos
def zo:=@List.length_cons
def zp:=@Int.emod_nonneg
def zr:=@List.getElem?_eq_some_iff
def zt:=@List.mem_singleton
def zu:=@List.map_map
def zv:=@List.mem_of_getElem?
def zw:=@List.mem_cons
def zy:=@List.not_mem_nil
def zA:=@List.append_assoc
def zB:=@List.mem_append
def zC:=@List.mem_map
def zD:=@List.mem_append_right
def zE:=@List.mem_append_left
def zF:=@List.getElem?_map
def zG:=@Bool.false_ne_true
def zH:=@Nat.le_trans
def zI:=@List.take_length
def zJ:=@Bool.and_eq_true
def zK:=@List.mem_map_of_mem
def zL:=@List.length_take
def zM:=@List.length_range
def zN:=@List.nodup_append
def zO:=@List.append_nil
def zP:=@List.getElem?_append_right
def zQ:=@List.flatten_cons
def zR:=@List.size_toArray
def zS:=@Nat.lt_of_lt_of_le
def zT:=@List.nodup_cons
def zU:=@of_decide_eq_true
def zV:=@Nat.lt_irrefl
def zW:=@Nat.zero_le
def zX:=@Nat.le_of_lt
def zY:=@Nat.ne_of_gt
def zZ:=@Nat.ne_of_lt
def z0:=@Option.some.inj
def z9:=@List.getElem_mem
def ya:=@List.map_nil
def yb:=@List.any_eq_true
def yc:=@List.all_eq_true
def yd:=@List.lookup_cons
def ye:=@List.length_pos_iff
def yf:=@List.length_eq_zero_iff
def yg:=@PySem.wpAny_bind
def yh:=@PySem.Heap.get?_push_of_some
def yi:=@PySem.wpAny_pure
def yj:=@PySem.Heap.get?_push_size
def yk:=@PySem.Heap.lt_size
def ym:=@PySem.Heap.get?_update_other
def yn:=@PySem.Heap.get?_update_self
abbrev yo:=PySem.W.Frag
def yp:=@PySem.sizeLine_eq
def yq:=@PySem.F.plainAttrs_list
def yr:=@PySem.F.type_list_append
def yt:=@PySem.F.slot_list_append
def yu:=@PySem.F.plainAttrs_str
def yv:=@PySem.F.type_str_join
def yw:=@PySem.F.slot_str_join
def yx:=@PySem.F.type_str_split
def yy:=@PySem.F.slot_str_split
def yz:=@Int.eq_ofNat_of_zero_le
def yA:=@PyProof.Rows.callWith_type1
def yB:=@if_neg
def yC:=@if_pos
def yD:=@PySem.PassesOwn.never
def yE:=@Array.length_toList
def yF:=@List.mem_range
def yG:=@List.find?_cons
def yH:=@Bool.false_and
def yI:=@or_false
def yJ:=@Bool.true_and
def yK:=@List.zip_cons_cons
def yL:=@List.filter_append
def yM:=@PySem.wpAny_callSpecial?_slot
def yN:=@congrArg
def yO:=@PySem.wpAny_field
def yP:=@Int.le_of_lt
def yQ:=@PySem.wpAny_call_entry
def yR:=@PySem.wpAny_newObj_type
def yS:=@PySem.wpAny_mono
def yT:=@PySem.wpAny_truthy_bool
def yU:=@List.length_filter_le
def yV:=@Array.getElem?_toList
def yW:=@PySem.Heap.size_push
def yX:=@PySem.W.kia_one
def yY:=@Option.map_some
def yZ:=@List.length_nil
def y0:=@PySem.wpAny_Call_Name_kw
def y3:=@List.any_cons
def y4:=@PySem.wpAny_seqItems
def y6:=@List.take_add_one
def y7:=@List.take_of_length_le
def y8:=@List.map_congr_left
def y9:=@Int.mul_pos
def xa:=@List.length_zip
def xb:=@List.length_drop
def xc:=@beq_eq_false_iff_ne
def xg:=@Nat.lt_trans
def xh:=@Nat.lt_or_ge
def xi:=@PySem.wpAny_holding
def xj:=@PySem.wpAny_setField_rec
def xk:=@PySem.F.slot_zip_next
def xm:=@Bool.eq_iff_iff
def xn:=@Option.some.injEq
def xo:=@PyProof.Rows.slot_tuple_getitem
def xp:=@Nat.lt_succ_self
def xq:=@PyProof.Rows.part_short
def xr:=@PySem.wpAny_typeNameOfWhole_keyiter
def xt:=@PySem.codeAny_mono
def xu:=@List.find?_eq_none
def xw:=@PySem.wpAny_passesOwn
def xx:=@PySem.codeAny_builtin
def xy:=@List.dropLast_concat_getLast
def xA:=@PySem.F.slot_dict_keyiterator_next
def xB:=@PySem.Paired.length
def xC:=@Int.toNat_natCast
def xD:=@Nat.le_succ
def xE:=@List.nodup_nil
def xF:=@Int.mul_nonneg
def xG:=@PySem.F.slot_tuple_iterator_next
def xH:=@List.all_map
def xI:=@beq_self_eq_true
def xJ:=@List.getLast?_eq_getElem?
def xK:=@List.getElem?_append_left
def xM:=@PySem.mem_of_lookup
def xN:=@if_false
def xO:=@PySem.wpAny_typeNameOf_keyiter
def xP:=@PySem.wpAny_execs_nil
def xQ:=@List.of_mem_zip
def xR:=@PySem.call_meets
def xS:=@PySem.tupleKind_room_in1
def xT:=@List.lookup_append
def xU:=@PySem.Calls.spliced_cons
def xV:=@Bool.false_eq_true
def xW:=@List.any_map
def xX:=@Nat.mul_le_mul
def xY:=@Bool.and_false
def xZ:=@PySem.wpAny_pyIter_list
def x6:=@Nat.lt_succ_of_lt
def x8:=@PySem.Calls.callWith_builtin
def x9:=@List.getElem?_eq_none
def wa:=@PySem.typeIs_str
def wb:=@PySem.wpAny_attempt
def wc:=@List.sum_cons
def wd:=@List.all_cons
def we:=@Sum.inr.inj
def wg:=@List.mem_of_getLast?
def wj:=@PySem.W.hideAll_get
def wk:=@List.filterMap_cons
def wm:=@PySem.Heap.SameBut.update
def wo:=@if_true
def wq:=@PySem.wpAny_typeOf
def wt:=@beq_iff_eq
def wu:=@PySem.W.callWith_K
def wx:=@PySem.Obj.data_mapFields
def wy:=@List.mem_filterMap
def wz:=@Int.fdiv_eq_ediv_of_nonneg
def wA:=@PySem.Calls.spliced_nil
def wB:=@PySem.W.mg_of
abbrev wC:=PySem.Value
abbrev wD:=PySem.Shared
abbrev wF:=PySem.Program
abbrev wG:=PySem.World
abbrev wH:=PySem.Around
abbrev wI:=PySem.FuncData
abbrev wJ:=PySem.Addr
abbrev wK:=PySem.Heap
namespace L2
open PySem PySem.Spec PyProof.Rows
abbrev Key:=Sum Int Str
def tu:Key->wC->Bool
 | .inl k,v=>Value.isInt k v
 | .inr x,v=>Value.isStrOf x v
def OJ (w:wG):Key->Int
 | .inl k=>hashInt k
 | .inr x=>hashStr w x
def bN:∀{k:Key} {v:wC},tu k v=true->(∃i t,k=Sum.inl i/\v=Value.int i t)\/(∃x t,k=Sum.inr x/\v=Value.str x t)
 | .inl i,v,h=>by
  let⟨t,e⟩:=Value.isInt_shape (k:=i) (v:=v) h;exact .inl {(i),t,rfl,e}
 | .inr x,v,h=>by
  let⟨t,e⟩:=Value.isStrOf_shape (x:=x) (v:=v) h;exact .inr {(x),t,rfl,e}
def Fd (i:Int) (t:Tok):tu (.inl i) (.int i t)=true:=by simp[tu,Value.isInt]
def jW (x:Str) (t:Tok):tu (.inr x) (.str x t)=true:=by simp[tu,Value.isStrOf]
def Le (a b:Int):decide ((Sum.inl a:Key)=Sum.inl b)=(a == b):=by
 by_cases e:a=b
 ·subst e;simp
 ·let h:¬(Sum.inl a:Key)=Sum.inl b:=λq=>e (Sum.inl.inj q)
  rw[zc h];exact(xc.mpr e).symm
def Lb (a b:Str):decide ((Sum.inr a:Key)=Sum.inr b)=decide (a=b):=by
 by_cases e:a=b
 ·subst e;simp
 ·let h:¬(Sum.inr a:Key)=Sum.inr b:=λq=>e (we q)
  rw[zc h,zc e]
def Ld (a:Int) (b:Str):decide ((Sum.inl a:Key)=Sum.inr b)=false:=zc (λq=>nomatch q)
def Lc (a:Str) (b:Int):decide ((Sum.inr a:Key)=Sum.inl b)=false:=zc (λq=>nomatch q)
def bI (prog:wF) (w:wG):PySem.KeyKind prog w Key where
 is:=tu
 hash:=OJ w
 inj:=λv a b ha hb=>by
  rcases bN ha with⟨i,t,rfl,rfl⟩ | ⟨x,t,rfl,rfl⟩
  ·rcases bN hb with⟨j,u,rfl,e⟩ | ⟨y,u,rfl,e⟩
   ·injection e with e1 _;rw[e1]
   ·exact nomatch e
  ·rcases bN hb with⟨j,u,rfl,e⟩ | ⟨y,u,rfl,e⟩
   ·exact nomatch e
   ·injection e with e1 _;rw[e1]
 byValue:=λk v h=>by
  rcases bN h with⟨i,t,rfl,rfl⟩ | ⟨x,t,rfl,rfl⟩ <;> rfl
 pyHash:=λhv h=>by
  rcases bN hv with⟨i,t,rfl,rfl⟩ | ⟨x,t,rfl,rfl⟩
  ·exact wpAny_pyHash_int h
  ·exact wpAny_pyHash_str h
 eqBool:=λhu hv h=>by
  rcases bN hu with⟨i,t,rfl,rfl⟩ | ⟨x,t,rfl,rfl⟩
  ·rcases bN hv with⟨j,u,rfl,rfl⟩ | ⟨y,u,rfl,rfl⟩
   ·rw[Le] at h;exact wpAny_eqBool_int h
   ·rw[Ld] at h;exact SeqAt.EqAt.int_str i t y u _ _ _ _ h
  ·rcases bN hv with⟨j,u,rfl,rfl⟩ | ⟨y,u,rfl,rfl⟩
   ·rw[Lc] at h;exact SeqAt.EqAt.str_int x t j u _ _ _ _ h
   ·rw[Lb] at h;exact wpAny_eqBool_str h
 «strs»:=λk x t v h=>by
  rcases bN h with⟨i,u,rfl,e⟩ | ⟨y,u,rfl,e⟩
  ·exact nomatch e
  ·injection e with e1 _
   subst e1;cases v <;> rfl
def A8 (prog:wF) (w:wG) (i:Int) (t:Tok):(bI prog w).is (.inl i) (.int i t)=true:=Fd i t
def m9 (prog:wF) (w:wG) (x:Str) (t:Tok):(bI prog w).is (.inr x) (.str x t)=true:=jW x t
end L2
namespace L2
open PySem PySem.Spec PyProof.Rows
inductive V where
 | aO | bl (b:Bool) | int (i:Int) | str (x:Str) | Es (b:Array UInt8) | Jt (b:UInt64) | ref (a:wJ) | ty (n:String)
 deriving DecidableEq
def RelV:V->wC->Prop
 | .aO,u=>u=Value.none
 | .bl b,u=>u=Value.bool b
 | .int i,u=>∃t,u=Value.int i t
 | .str x,u=>∃t,u=Value.str x t
 | .Es b,u=>∃t,u=Value.bytes b t
 | .Jt b,u=>∃t,u=Value.float b t
 | .ref a,u=>u=Value.ref a
 | .ty n,u=>u=Value.type n
abbrev Vals:List V->List wC->Prop:=Paired RelV
theorem Vals.length (r:Vals xs us):⇑xs=⇑us:=xB r
theorem Vals.get:∀{xs:List V} {us:List wC} {i:Nat} {x:V},Vals xs us->xs[i]?=some x->∃u,us[i]?=some u/\RelV x u
 | _,_,_,_,.nil,e=>by simp at e
 | _,_,0,_,.cons r _,e=>by simp at e;subst e;exact{_,rfl,r}
 | _,_,i+1,x,.cons _ t,e=>by
  let⟨u,h1,h2⟩:=Vals.get (i:=i) (x:=x) t (by simpa using e);exact{u,by simpa using h1,h2}
theorem Vals.append:∀{xs ys:List V} {us ws:List wC},Vals xs us->Vals ys ws->Vals (xs++ys) (us++ws)
 | _,_,_,_,.nil,s=>s
 | _,_,_,_,.cons r t,s=>.cons r (Vals.append t s)
theorem Vals.take:∀{xs:List V} {us:List wC} (n:Nat),Vals xs us->Vals (xs.take n) (us.take n)
 | _,_,0,_=>.nil
 | _,_,_+1,.nil=>.nil
 | _,_,n+1,.cons r t=>.cons r (Vals.take n t)
theorem Vals.drop:∀{xs:List V} {us:List wC} (n:Nat),Vals xs us->Vals (xs.drop n) (us.drop n)
 | _,_,0,r=>r
 | _,_,_+1,.nil=>.nil
 | _,_,n+1,.cons _ t=>Vals.drop n t
def dm:Option V->Option wC->Prop
 | some v,some u=>RelV v u
 | none,none=>True
 | _,_=>False
def KV:List (κ×V)->List (κ×wC)->Prop:=Paired λ(p:κ×V) (q:κ×wC)=>p.1=q.1/\RelV p.2 q.2
def kV:Key->V
 | .inl i=>.int i
 | .inr x=>.str x
inductive HO where
 | lst (xs:List V)
 | tup (xs:List V)
 | dK (kvs:List (Key×V)) | dT (kvs:List (List Key×V))
 | set (S:Int->Bool) (n:Nat)
 | ins (C dx:wJ) (fs:List (Str×V))
 | own (x:wJ)
 | xd (fs:List (Str×V))
 | met (f x:wJ)
 | KQ (lo hi:Int)
 | i9 (o:Obj) (u:HO)
 | Gf (ps:Array wC)
 | ext (φ:wK->Prop)
abbrev Hp:=wJ->Option HO
def upd (H:Hp) (a:wJ) (o:HO):Hp:=λb=>if b=a then some o else H b
def az:upd H a o a=some o:=by unfold upd;rw[yC rfl]
def aq (h:b≠a):upd H a o b=H b:=by unfold upd;rw[yB h]
def aH {H:Hp} {a b:wJ} {o u:HO} (h:H a=some o) (h':H b=some u) (d:o≠u):a≠b:=by
 intro e;subst e;rw[h] at h';exact d (z0 h')
def aJ {H:Hp} {a b:wJ} {o:HO} (h:H a=some o) (h':H b=none):a≠b:=by
 intro e;subst e;rw[h] at h';cases h'
section
variable (P:wF) (w:wG)
def aT (H:Hp) (h:wK) (a:wJ):HO->Prop
 | .lst xs=>⇑xs<=sizeLine/\∃(its:List wC) (n:Nat),Vals xs its/\h.get? a=some {cls:=.type "list",data:=.seq its.toArray n}
 | .tup xs=>⇑xs<=sizeLine/\∃its:List wC,Vals xs its/\IsTup h a its.toArray
 | .dK kvs=>⇑kvs<=sizeLine/\(a == sysModules)=false/\∃vs,KV kvs vs/\h.DictOf (bI P w) a vs
 | .dT kvs=>⇑kvs<=sizeLine/\(a == sysModules)=false/\∃xs:List (List Key×wJ×wC),
   Paired (λ(p:List Key×V) (q:List Key×wJ×wC)=>p.1=q.1/\H q.2.1=some (.tup (p.1.map kV))/\RelV p.2 q.2.2) kvs xs/\
   ∃o es ep,h.get? a=some o/\o.ExactDict/\o.data=.dict es ep/\es.toList=xs.map (entryOfKey (tupleKind (bI P w)))/\(xs.map (·.1)).Nodup
 | .set S n=>h.SetOf (intKind P w) a S n
 | .ins C dx fs=>H dx=some (.own a)/\⇑fs<=1000/\dx≠a/\h.get? a=some (PySem.W.instObj C dx)/\
   ∃mA,h.Ns1 dx mA/\(∀f,dm (fs.lookup f) (mA f))/\PySem.Within mA (fs.map (·.1))
 | .own _=>∃o,h.get? a=some o
 | .xd fs=>∃mA,h.Ns1 a mA/\∀f,dm (fs.lookup f) (mA f)
 | .KQ lo hi=>∃t u v,h.get? a=some {cls:=.type "range",data:=.fields #[.int lo t,.int hi u,.int 1 v]}
 | .i9 o u=>h.get? a=some o/\aT H h a u
 | .Gf ps=>h.get? a=some {cls:=.none,data:=.fields ps}
 | .met f x=>h.get? a=some (PySem.W.methodObj (.ref f) (.ref x))
 | .ext φ=>φ h/\(∃o,h.get? a=some o)/\∀h1 h2:wK,φ h1->(∀o,h1.get? a=some o->h2.get? a=some o)->φ h2
def j2 (H:Hp) (h:wK):Prop:=∀a o,H a=some o->aT P w H h a o
end
section
variable {P:wF} {w:wG} {H H':Hp} {h h':wK} {a:wJ} {o:HO}
theorem aT.lt (x:aT P w H h a o):a<h.objs.size:=by
 cases o with
 | lst xs=>let⟨_,_,_,_,e⟩:=x;exact yk e
 | tup xs=>let⟨_,_,_,p⟩:=x;exact p.lt
 | dK kvs=>let⟨_,_,_,_,o,_,_,e,_⟩:=x;exact yk e
 | dT kvs=>let⟨_,_,_,_,o,_,_,e,_⟩:=x;exact yk e
 | set S n=>let⟨o,_,_,_,e,_⟩:=x;exact yk e
 | ins C dx fs=>let⟨_,_,_,e,_⟩:=x;exact yk e
 | own y=>let⟨_,e⟩:=x;exact yk e
 | xd fs=>let⟨_,⟨_,_,_,e,_⟩,_⟩:=x;exact yk e
 | KQ lo hi=>let⟨_,_,_,e⟩:=x;exact yk e
 | i9 ob u=>let⟨e,_⟩:=x;exact yk e
 | Gf ps=>exact yk (show h.get? a=some _ from x)
 | met f y=>exact yk (show h.get? a=some _ from x)
 | ext φ=>let⟨_,⟨_,e⟩,_⟩:=x;exact yk e
theorem Paired.K7:∀{l₁:List α} {l₂:List β},Paired F l₁ l₂->(∀a b,F a b->G a b)->Paired G l₁ l₂
 | _,_,.nil,_=>.nil
 | _,_,.cons r t,f=>.cons (f _ _ r) (Paired.K7 t f)
def aT.fY (x:aT P w H h a o) (k:∀b u,(b=a\/H b=some (.own a))->h.get? b=some u->h'.get? b=some u)
  (ho:∀b,H b=some (.own a)->H' b=some (.own a)) (ht:∀b xs,H b=some (.tup xs)->H' b=some (.tup xs)):aT P w H' h' a o:=by
 induction o with
 | lst xs=>let⟨z,its,n,r,e⟩:=x;exact{z,its,n,r,k _ _ (.inl rfl) e}
 | tup xs=>let⟨z,its,r,ob,e,c⟩:=x;exact{z,its,r,ob,k _ _ (.inl rfl) e,c}
 | dK kvs=>let⟨z,y,vs,r,ob,es,ep,e,c⟩:=x;exact{z,y,vs,r,ob,es,ep,k _ _ (.inl rfl) e,c}
 | dT kvs=>
  let⟨z,y,xs,r,ob,es,ep,e,c⟩:=x;exact{z,y,xs,Paired.K7 r λp q z=>{z.1,ht _ _ z.2.1,z.2.2},ob,es,ep,k _ _ (.inl rfl) e,c}
 | set S n=>let⟨ob,es,ep,t,e,c⟩:=x;exact{ob,es,ep,t,k _ _ (.inl rfl) e,c}
 | ins C dx fs=>
  let⟨d,z,ne,e,mA,⟨od,es,ep,e2,c⟩,r⟩:=x;exact{ho _ d,z,ne,k _ _ (.inl rfl) e,mA,{od,es,ep,k _ _ (.inr d) e2,c},r}
 | own y=>let⟨ob,e⟩:=x;exact{ob,k _ _ (.inl rfl) e}
 | xd fs=>let⟨mA,⟨od,es,ep,e,c⟩,r⟩:=x;exact{mA,{od,es,ep,k _ _ (.inl rfl) e,c},r}
 | KQ lo hi=>let⟨t,u,v,e⟩:=x;exact{t,u,v,k _ _ (.inl rfl) e}
 | i9 ob u ih=>let⟨e,q⟩:=x;exact{k _ _ (.inl rfl) e,ih q}
 | Gf ps=>
  let e:h.get? a=some {cls:=.none,data:=.fields ps}:=x;show h'.get? a=some {cls:=.none,data:=.fields ps};exact k a _ (.inl rfl) e
 | met f y=>
  let e:h.get? a=some (PySem.W.methodObj (.ref f) (.ref y)):=x;show h'.get? a=some (PySem.W.methodObj (.ref f) (.ref y));exact k a _ (.inl rfl) e
 | ext φ=>let⟨p,⟨o,e⟩,st⟩:=x;exact{st _ _ p λo q=>k _ _ (.inl rfl) q,{o,k _ _ (.inl rfl) e},st}
theorem j2.lt (x:j2 P w H h) (e:H a=some o):a<h.objs.size:=(x a o e).lt
def j2.fresh (x:j2 P w H h) (e:h.objs.size<=a):H a=none:=by
 cases q:H a with
 | none=>rfl
 | some u=>exact absurd (zS (x.lt q) e) (zV _)
def j2.kept (x:j2 P w H h) (k:∀b u,h.get? b=some u->h'.get? b=some u):j2 P w H h':=λa o e=>
 (x a o e).fY (λb u _ q=>k b u q) (λ_ q=>q) λ_ _ q=>q
def j2.laid (x:j2 P w H h) (k:∀b u,h.get? b=some u->h'.get? b=some u) (hp:h.objs.size<=a) (new:aT P w (upd H a o) h' a o):j2 P w (upd H a o) h':=λb u e=>by
 let hn:=x.fresh hp
 by_cases hb:b=a
 ·subst hb;rw[az] at e;cases e;exact new
 ·rw[aq hb] at e
  exact(x b u e).fY (λc v _ q=>k c v q) (λc q=>by rw[aq (aJ q hn)];exact q) λc xs q=>by rw[aq (aJ q hn)];exact q
end
def Rd (H:Hp) (a:wJ) (u:HO):Prop:=H a=some u\/∃o,H a=some (.i9 o u)
def Rd.ok (r:Rd H a u) (x:j2 P w H h):aT P w H h a u:=by
 rcases r with r | ⟨o,r⟩
 ·exact x a u r
 ·let⟨_,q⟩:=x a _ r
  exact q
def Nv:Option HO->Prop
 | some (.lst _)=>True
 | some (.dK _)=>True
 | some (.dT _)=>True
 | some (.set _ _)=>True
 | some (.ins _ _ _)=>True
 | some (.ext _)=>True
 | _=>False
section
variable {P:wF} {w:wG} {H:Hp} {h h':wK} {x e:wJ} {o':HO}
def j2.write (ok:j2 P w H h) (mu:Nv (H x)) (he:e=x\/H e=some (.own x)) (k:∀b u,b≠e->h.get? b=some u->h'.get? b=some u) (heo:∃u,h'.get? e=some u)
  (new:aT P w (upd H x o') h' x o'):j2 P w (upd H x o') h':=λb u q=>by
 let nown:∀c y,H c=some (.own y)->c≠x:=λc y r z=>by subst z;rw[r] at mu;exact mu
 let ntup:∀c xs,H c=some (.tup xs)->c≠x:=λc xs r z=>by subst z;rw[r] at mu;exact mu
 by_cases hb:b=x
 ·subst hb;rw[az] at q;cases q;exact new
 ·rw[aq hb] at q
  by_cases hbe:b=e
  ·let q':H b=some (.own x):=by
    rcases he with z | z
    ·exact absurd (hbe.trans z) hb
    ·rw[hbe];exact z
   rw[q] at q';cases q';let⟨v,hv⟩:=heo;exact{v,by rw[hbe];exact hv}
  ·refine(ok b u q).fY (λc v hc r=>k c v ?_ r) (λc r=>by rw[aq (nown c b r)];exact r) λc xs r=>by rw[aq (ntup c xs r)];exact r
   rcases hc with rfl | hc
   ·exact hbe
   ·rintro rfl
    rcases he with z | z
    ·exact nown c b hc z
    ·rw[hc] at z;cases z;exact hb rfl
end
structure Un (fs ex:List wJ) (H H':Hp) (h h':wK):Prop where
 keep:∀b o,h.get? b=some o->H b=none->b∉fs->b∉ex->h'.get? b=some o
 slot:∀b o,h.get? b=some o->H b=none->b∈fs->b∉ex->∃sl,h'.get? b=some {o with slots:=sl}
 free:∀b o,h.get? b=some o->H b=none->b∉ex->H' b=none
 there:∀b o,h.get? b=some o->b∉ex->∃o',h'.get? b=some o'
 i4:∀b xs,H b=some (.tup xs)->H' b=some (.tup xs)
 gS:∀b o u,H b=some (.i9 o u)->H' b=some (.i9 o u)
 i5:∀b ps,H b=some (.Gf ps)->∃more,H' b=some (.Gf (ps++more))
section
variable {fs fs' ex ex':List wJ} {H H1 H2:Hp} {h h1 h2 h':wK} {a x e:wJ} {o:HO}
def Un.any (u:Un fs ex H H1 h h1) (q:h.get? b=some ob) (n:H b=none) (hx:b∉ex):∃sl,h1.get? b=some {ob with slots:=sl}:=by
 by_cases hb:b∈fs
 ·exact u.slot b ob q n hb hx
 ·exact{ob.slots,u.keep b ob q n hb hx}
def Un.kept (k:∀b u,h.get? b=some u->h'.get? b=some u):Un fs ex H H h h':=
 {λb ob q _ _ _=>k b ob q,λb ob q _ _ _=>{ob.slots,k b ob q},λ_ _ _ n _=>n,λb ob q _=>{ob,k b ob q},λ_ _ q=>q,λ_ _ _ q=>q,λ_ ps q=>{#[],by rw[q];simp}}
def Un.refl:Un fs ex H H h h:=Un.kept λ_ _ q=>q
def Un.laid (k:∀b u,h.get? b=some u->h'.get? b=some u) (hp:h.objs.size<=a) (hn:H a=none):Un fs ex H (upd H a o) h h' where
 keep:=λb u q _ _ _=>k b u q
 slot:=λb u q _ _ _=>{u.slots,k b u q}
 free:=λb u q n _=>by rw[aq (zZ (zS (yk q) hp))];exact n
 there:=λb u q _=>{u,k b u q}
 i4:=λb xs q=>by rw[aq (aJ q hn)];exact q
 gS:=λb u xs q=>by rw[aq (aJ q hn)];exact q
 i5:=λb ps q=>{#[],by rw[aq (aJ q hn),q];simp}
def Un.write (mu:Nv (H x)) (he:e=x\/H e=some (.own x)) (k:∀b u,b≠e->h.get? b=some u->h'.get? b=some u) (heo:∃u,h'.get? e=some u):Un fs ex H (upd H x o) h h':=by
 let hx:∀b,H b=none->b≠x:=λb n z=>by subst z;rw[n] at mu;exact mu
 let hb:∀b,H b=none->b≠e:=λb n z=>by
  subst z;rcases he with r | r
  ·exact hx b n r
  ·rw[n] at r;cases r
 let hm:∀b u,H b=some u->¬Nv (some u)->b≠x:=λb u q nm z=>by subst z;rw[q] at mu;exact nm mu
 refine{λb u q n _ _=>k b u (hb b n) q,λb u q n _ _=>{u.slots,k b u (hb b n) q},λb u q n _=>by rw[aq (hx b n)];exact n,λb u q _=>?_,
  λb xs q=>by rw[aq (hm b _ q λz=>z)];exact q,λb u xs q=>by rw[aq (hm b _ q λz=>z)];exact q,λb ps q=>{#[],by rw[aq (hm b _ q λz=>z),q];simp}}
 by_cases hbe:b=e
 ·subst hbe;exact heo
 ·exact{u,k b u hbe q}
end
def NH (h:wK) (H:Hp):List wJ:=(List.range h.objs.size).filter λa=>(H a).isSome
def vt (h:wK) (H:Hp):wK:=PySem.W.hideAll h (NH h H)
def Fh (h:wK) (H:Hp):(vt h H).objs.size=h.objs.size:=PySem.W.hideAll_size _ _
def Hi (e:h.get? b=some o) (n:H b=none):(vt h H).get? b=some o:=
 wj _ e λhm=>by
  let q:(H b).isSome=true:=(List.mem_filter.mp hm).2;rw[n] at q;simp at q
def Jd (e:(vt h H).get? b=some o):h.get? b=some o/\H b=none:=by
 let e':h.get? b=some o:=PySem.W.of_hideAll (NH h H) e;refine{e',?_};cases q:H b with
 | none=>rfl
 | some x=>
  let hm:b∈NH h H:=List.mem_filter.mpr {yF.mpr (yk e'),by simp[q]};let z:(vt h H).get? b=none:=PySem.W.hideAll_none (NH h H) hm;rw[z] at e;cases e
end L2
namespace L2
open PySem PySem.Spec PyProof.Rows
structure Mod (K:yo) (mg:Str->Option wC) (base:wK):Prop where
 Jm:K.In base
 glob:base.Ns mainGlobals mg
 blt:∃mb,base.Ns builtinsNs mb/\∀x:Str,x≠ "__name__"->mb x=bootBuiltins x
 nolimit:base.NoLimit
set_option genInjectivity false in
structure Cx where
 prog:wF
 w:wG
 K:yo
 mg:Str->Option wC
 base:wK
 A:wH
 N:List Str
 s₀:wD
 H₀:Hp
 env:Env
 outer:List Env
 stack:List Env
 ex:List wJ
 fn:Str->Bool
 calm:Bool
 pn:List (wJ×Obj)
 xe:wC->wD->Prop
def fX (l:List Env):List wJ:=l.filterMap (·.frame)
abbrev Cx.fs (X:Cx):List wJ:=fX X.outer
def LK (sc:Scope) (x:Str):Prop:=sc.names.lookup x=some .local\/sc.names.lookup x=some .cell\/sc.names.lookup x=some .free
def Loc (sc:Scope) (x:Str):Prop:=sc.names.lookup x=some .local\/sc.names.lookup x=some .cell
def Look (env:Env) (h:wK) (m:Str->Option wC) (x:Str) (u:wC):Prop:=
 (env.kindOf x=some .local/\m x=some u)\/((env.kindOf x=some .cell\/env.kindOf x=some .free)/\∃c,env.cells.lookup x=some c/\h.IsCell c (some u))
structure Cx.Ok (X:Cx):Prop where
 mod:Mod X.K X.mg X.base
 kind:X.env.scope.kind=.function
 glob:X.env.globals=mainGlobals
 blt:X.env.builtins=builtinsNs
 above:X.s₀.heap.objs.size<=X.env.locals
 inj:∀x y c,X.env.cells.lookup x=some c->X.env.cells.lookup y=some c->x=y
 has:∀x,(X.env.kindOf x=some .cell\/X.env.kindOf x=some .free)->∃c,X.env.cells.lookup x=some c
 LF:∀x c,X.fn x=true->X.env.cells.lookup x=some c->X.s₀.heap.objs.size<=c
 hd:X.calm=true->X.A.handled=none
 frames:X.A.frames=some X.stack
 LU:X.stack=X.outer\/(X.stack=X.env::X.outer/\X.env.frame=some X.env.locals)
 NJ:∀b∈X.ex,b≠X.env.locals/\∀x c,X.env.cells.lookup x=some c->c≠b
 bs:∀b o,X.base.get? b=some o->X.s₀.heap.get? b=some o/\X.H₀ b=none
 FU:X.base.objs.size<=X.s₀.heap.objs.size
 i6:∀b o,X.base.get? b=some o->b∉X.ex
 C4:∀b∈X.ex,b∉X.fs
 jB:X.s₀.heap.FunFrames X.base X.outer
 vw:∀b∈X.fs,X.H₀ b=none
structure Inv (X:Cx) (pins:List (wJ×Obj)) (U:List (Option V)) (H:Hp) (s:wD):Prop where
 ok:X.Ok
 os:s.os=X.s₀.os
 bare:AllBare s.gens
 base:Un X.fs X.ex X.H₀ H X.s₀.heap s.heap
 loc:∃m,s.heap.Ns X.env.locals m/\∀(i:Nat) (x:Str) (v:V),X.N[i]?=some x->U[i]?=some (some v)->LK X.env.scope x->∃u,RelV v u/\Look X.env s.heap m x u
 cell:∀x c,X.env.cells.lookup x=some c->∃v,s.heap.IsCell c v
 free:H X.env.locals=none
 fR:∀x c,X.env.cells.lookup x=some c->H c=none
 pin:∀p∈X.pn++pins,s.heap.get? p.1=some p.2/\H p.1=none/\p.1≠X.env.locals/\p.1∉X.fs/\∀v,p.2.data≠.cell v
 aP:j2 X.prog X.w H s.heap
 len:U.length=⇑X.N
section
variable {X:Cx} {pins:List (wJ×Obj)} {U:List (Option V)} {H H':Hp} {s:wD} {h':wK}
def Cx.Ok.OF (ok:X.Ok) (e:X.base.get? b=some o):b∉X.fs:=λhb=>by
 have:=(ok.jB.mem hb).1;rw[e] at this;cases this
theorem Inv.bs (I:Inv X pins U H s):∀b o,X.base.get? b=some o->s.heap.get? b=some o/\H b=none:=λb o e=>
 {I.base.keep b o (I.ok.bs b o e).1 (I.ok.bs b o e).2 (I.ok.OF e) (I.ok.i6 b o e),I.base.free b o (I.ok.bs b o e).1 (I.ok.bs b o e).2 (I.ok.i6 b o e)}
def Inv.bk (I:Inv X pins U H s):∀b o,X.base.get? b=some o->s.heap.get? b=some o:=λb o e=>(I.bs b o e).1
theorem Inv.mod (I:Inv X pins U H s):Mod X.K X.mg X.base:=I.ok.mod
def Inv.gL (I:Inv X pins U H s):X.K.In s.heap:=I.ok.mod.Jm.keeps I.bk
theorem Inv.lt (I:Inv X pins U H s):X.env.locals<↑s:=let ⟨_,hn,_⟩:=I.loc;hn.lt
def Inv.sz (I:Inv X pins U H s):X.s₀.heap.objs.size<=↑s:=zH I.ok.above (zX I.lt)
def Inv.MY (I:Inv X pins U H s) (h:↑s<=a):a∉X.fs:=λhb=>by
 let⟨_,o,ho,_⟩:=I.ok.jB.mem hb;exact absurd (zS (yk ho) (zH I.sz h)) (zV _)
def Inv.Eo (I:Inv X pins U H s):∀x c,X.env.cells.lookup x=some c->c≠X.env.locals:=λx c e z=>by
 let⟨v,o,ho,hd⟩:=I.cell x c e;let⟨m,⟨o',es,ep,ho',hd',_⟩,_⟩:=I.loc;rw[z,ho'] at ho;cases ho;rw[hd'] at hd;cases hd
theorem Inv.jB (I:Inv X pins U H s):s.heap.FunFrames X.base X.outer:=by
 let all:∀(l:List Env),(∀b∈fX l,b∈X.fs)->X.s₀.heap.FunFrames X.base l->s.heap.FunFrames X.base l:=by
  intro l
  induction l with
  | nil=>intro _ _;trivial
  | cons env r ih=>
   intro hs hl;let⟨hk,⟨L,o,hf,hn,ho,hd⟩,hr⟩:=hl;let hL:L∈X.fs:=hs L (by unfold fX;rw[wk,hf];exact zk);let⟨sl,e⟩:=I.base.slot L o ho (I.ok.vw L hL) hL λz=>I.ok.C4 L z hL;exact{hk,{L,_,hf,hn,e,hd},ih (λb hb=>hs b (by unfold fX;rw[wk,hf];exact zj _ hb)) hr}
 exact all X.outer (λ_ hb=>hb) I.ok.jB
theorem Inv.stack (I:Inv X pins U H s):s.heap.FunFrames X.base X.stack:=by
 rcases I.ok.LU with e | ⟨e,hf⟩
 ·rw[e];exact I.jB
 ·rw[e]
  let⟨m,hn,_⟩:=I.loc;refine .cons (by rw[I.ok.kind];decide) hf hn ?_ I.jB;exact Heap.get?_none_of_le (zH I.ok.FU I.ok.above)
def Inv.uh (I:Inv X pins U H s):∀b∈fX X.stack,b∈X.env.locals::X.fs:=λb hb=>by
 rcases I.ok.LU with e | ⟨e,hf⟩
 ·rw[e] at hb;exact zj _ hb
 ·rw[e] at hb
  unfold fX at hb;rw[wk,hf] at hb;exact hb
def Inv.gZ (I:Inv X pins U H s):∀b∈fX X.stack,H b=none:=λb hb=>by
 rcases zw.mp (I.uh b hb) with e | hb
 ·rw[e];exact I.free
 ·let⟨_,o,ho,_⟩:=I.ok.jB.mem hb
  exact I.base.free b o ho (I.ok.vw b hb) λz=>I.ok.C4 b z hb
def Inv.step {g':Array GenState} {t':Nat} {d':Drawn} {ch:List wJ} (I:Inv X pins U H s)
  (hch:∀b∈ch,(b∈X.ex\/X.s₀.heap.objs.size<=b)/\b≠X.env.locals/\(∀x c,X.env.cells.lookup x=some c->c≠b)/\∀p∈X.pn++pins,p.1≠b)
  (keep:∀b o,b≠X.env.locals->b∉X.fs->b∉ch->s.heap.get? b=some o->H b=none->h'.get? b=some o)
  (slot:∀b o,b≠X.env.locals->b∈X.fs->b∉ch->s.heap.get? b=some o->H b=none->∃sl,h'.get? b=some {o with slots:=sl}) (free:∀b o,b∉ch->s.heap.get? b=some o->H b=none->H' b=none)
  (there:∀b o,b∉ch->s.heap.get? b=some o->∃o',h'.get? b=some o')
  (i4:∀b xs,H b=some (.tup xs)->H' b=some (.tup xs)) (gS:∀b o u,H b=some (.i9 o u)->H' b=some (.i9 o u)) (i5:∀b ps,H b=some (.Gf ps)->∃more,H' b=some (.Gf (ps++more)))
  (ns:∀m,s.heap.Ns X.env.locals m->h'.Ns X.env.locals m) (aP:j2 X.prog X.w H' h') (hg:AllBare g') :
  Inv X pins U H' {s with heap:=h',gens:=g',drawn:=d',toks:=t'}:=by
 let neL:∀b o,X.s₀.heap.get? b=some o->b≠X.env.locals:=λb o e=>zZ (zS (yk e) I.ok.above);let neC:∀b o,X.s₀.heap.get? b=some o->b∉X.ex->b∉ch:=λb o e hx hb=>by
  rcases(hch b hb).1 with z | z
  ·exact hx z
  ·exact absurd (zS (yk e) z) (zV _)
 let cellK:∀x c,X.env.cells.lookup x=some c->∀v,s.heap.IsCell c v->h'.IsCell c v:=λx c e v ⟨o,ho,hd⟩=>by
  let nch:c∉ch:=λz=>(hch c z).2.2.1 x c e rfl
  by_cases hc:c∈X.fs
  ·let⟨sl,q⟩:=slot c o (I.Eo x c e) hc nch ho (I.fR x c e)
   exact{_,q,hd}
  ·exact{o,keep c o (I.Eo x c e) hc nch ho (I.fR x c e),hd}
 refine{I.ok,I.os,hg,{λb o e n hb hx=>?_,λb o e n hb hx=>?_,λb o e n hx=>?_,λb o e hx=>?_,λb xs e=>i4 b xs (I.base.i4 b xs e),λb o xs e=>gS b o xs (I.base.gS b o xs e),λb ps e=>?_},?_,λx c e=>?_,?_,λx c e=>?_,λp hp=>?_,aP,I.len}
 ·exact keep b o (neL b o e) hb (neC b o e hx) (I.base.keep b o e n hb hx) (I.base.free b o e n hx)
 ·let⟨sl,e1⟩:=I.base.slot b o e n hb hx
  let⟨sl',e2⟩:=slot b _ (neL b o e) hb (neC b o e hx) e1 (I.base.free b o e n hx);exact{(sl'),e2}
 ·let⟨o',e1⟩:=I.base.there b o e hx
  exact free b o' (neC b o e hx) e1 (I.base.free b o e n hx)
 ·let⟨o',e1⟩:=I.base.there b o e hx
  exact there b o' (neC b o e hx) e1
 ·let⟨m1,e1⟩:=I.base.i5 b ps e
  let⟨m2,e2⟩:=i5 b _ e1;exact{m1++m2,by rw[e2,Array.append_assoc]}
 ·let⟨m,hn,hl⟩:=I.loc
  refine{m,ns m hn,λi x v e1 e2 e3=>?_};let⟨u,r,l⟩:=hl i x v e1 e2 e3;refine{u,r,?_};rcases l with l | ⟨k,c,e,z⟩
  ·exact .inl l
  ·exact .inr {k,c,e,cellK x c e _ z}
 ·let⟨v,z⟩:=I.cell x c e
  exact{v,cellK x c e v z}
 ·let⟨m,⟨o,_,_,ho,_⟩,_⟩:=I.loc
  exact free _ o (λz=>(hch _ z).2.1 rfl) ho I.free
 ·let⟨v,o,ho,hd⟩:=I.cell x c e
  exact free c o (λz=>(hch c z).2.2.1 x c e rfl) ho (I.fR x c e)
 ·let⟨e,n,ne,nf,d⟩:=I.pin p hp
  let nch:p.1∉ch:=λz=>(hch p.1 z).2.2.2 p hp rfl;exact{keep p.1 p.2 ne nf nch e n,free p.1 p.2 nch e n,ne,nf,d}
def Inv.un {t':Nat} (I:Inv X pins U H s) (u:Un X.fs [] H H' s.heap h') (aP:j2 X.prog X.w H' h'):Inv X pins U H' {s with heap:=h',toks:=t'}:=by
 let⟨m,⟨o,es,ep,ho,r⟩,_⟩:=id I.loc;let⟨sl,hL⟩:=u.any ho I.free (by simp);exact I.step (g':=s.gens) (d':=s.drawn) (ch:=[]) (λ_ z=>nomatch z) (λb o _ hb _ e n=>u.keep b o e n hb (by simp)) (λb o _ hb _ e n=>u.slot b o e n hb (by simp)) (λb o _ e n=>u.free b o e n (by simp)) (λb o _ e=>u.there b o e (by simp)) u.i4 u.gS u.i5 (λm' hm=>by
  let⟨o',es',ep',ho',r'⟩:=hm;rw[ho] at ho';cases ho';exact{_,es',ep',hL,r'}) aP I.bare
def Inv.call {g':Array GenState} {t':Nat} {d':Drawn} {ch:List wJ} (I:Inv X pins U H s) (u:Un (fX X.stack) ch H H' s.heap h') (aP:j2 X.prog X.w H' h') (hg:AllBare g')
  (hch:∀b∈ch,(b∈X.ex\/X.s₀.heap.objs.size<=b)/\b≠X.env.locals/\(∀x c,X.env.cells.lookup x=some c->c≠b)/\∀p∈X.pn++pins,p.1≠b) :
  Inv X pins U H' {s with heap:=h',gens:=g',drawn:=d',toks:=t'}:=by
 let⟨m,⟨o,es,ep,ho,r⟩,_⟩:=id I.loc;let⟨sl,hL⟩:=u.any ho I.free λz=>(hch _ z).2.1 rfl;exact I.step (ch:=ch) hch (λb o hL hb hc e n=>u.keep b o e n (λz=>(zw.mp (I.uh b z)).elim hL hb) hc) (λb o _ _ hc e n=>u.any e n hc) (λb o hc e n=>u.free b o e n hc) (λb o hc e=>u.there b o e hc) u.i4 u.gS u.i5 (λm' hm=>by
  let⟨o',es',ep',ho',r'⟩:=hm;rw[ho] at ho';cases ho';exact{_,es',ep',hL,r'}) aP hg
def Inv.turned {t':Nat} {it:wJ} (I:Inv X pins U H s) (k:∀b o,b≠it->s.heap.get? b=some o->h'.get? b=some o) (hn:H it=none) (hL:it≠X.env.locals)
  (h1:it∈X.ex\/X.s₀.heap.objs.size<=it) (h2:∀x c,X.env.cells.lookup x=some c->c≠it) (h3:∀p∈X.pn++pins,p.1≠it):Inv X pins U H {s with heap:=h',toks:=t'}:=by
 let nit:∀b u,H b=some u->b≠it:=λb u e z=>by rw[z,hn] at e;cases e
 refine I.step (g':=s.gens) (d':=s.drawn) (ch:=[it]) (λb hb=>?_) (λb o _ _ hc e _=>k b o (λz=>hc (by simp[z])) e) (λb o _ _ hc e _=>{o.slots,k b o (λz=>hc (by simp[z])) e}) (λ_ _ _ _ n=>n)
  (λb o hc e=>{o,k b o (λz=>hc (by simp[z])) e}) (λ_ _ e=>e) (λ_ _ _ e=>e) (λb ps e=>{#[],by rw[e];simp}) (λm hm=>?_) (λb u e=>?_) I.bare
 ·let e:b=it:=by simpa using hb
  subst e;exact{(h1),hL,h2,h3}
 ·let⟨o,es,ep,ho,r⟩:=hm
  exact{o,es,ep,k _ o (Ne.symm hL) ho,r}
 ·refine(I.aP b u e).fY (λc v hc q=>k c v ?_ q) (λ_ q=>q) λ_ _ q=>q
  rcases hc with z | z
  ·rw[z];exact nit b u e
  ·exact nit c _ z
def Inv.tok (I:Inv X pins U H s) (t:Nat):Inv X pins U H {s with toks:=t}:=I.un (h':=s.heap) (t':=t) Un.refl I.aP
theorem Inv.kept (I:Inv X pins U H s) (k:∀b u,s.heap.get? b=some u->h'.get? b=some u):Inv X pins U H {s with heap:=h',toks:=t'}:=I.un (Un.kept k) (I.aP.kept k)
theorem Inv.laid (I:Inv X pins U H s) (k:∀b u,s.heap.get? b=some u->h'.get? b=some u) (hp:↑s<=a) (new:aT X.prog X.w (upd H a o) h' a o) :
  Inv X pins U (upd H a o) {s with heap:=h',toks:=t'}:=I.un (Un.laid k hp (I.aP.fresh hp)) (I.aP.laid k hp new)
theorem Inv.write (I:Inv X pins U H s) (mu:Nv (H x)) (he:e=x\/H e=some (.own x)) (k:∀b u,b≠e->s.heap.get? b=some u->h'.get? b=some u) (heo:∃u,h'.get? e=some u)
  (new:aT X.prog X.w (upd H x o) h' x o):Inv X pins U (upd H x o) {s with heap:=h',toks:=t'}:=I.un (Un.write mu he k heo) (I.aP.write mu he k heo new)
def Inv.jP (I:Inv X pins U H s) (h:∀p∈pins',s.heap.get? p.1=some p.2/\H p.1=none/\p.1≠X.env.locals/\p.1∉X.fs/\∀v,p.2.data≠.cell v):Inv X pins' U H s:=
 {I.ok,I.os,I.bare,I.base,I.loc,I.cell,I.free,I.fR,λp hp=>(zB.mp hp).elim (λz=>I.pin p (zE _ z)) (h p),I.aP,I.len}
def pQ {N:List Str} (hN:N.Nodup) {i j:Nat} {x:Str} (a:N[i]?=some x) (b:N[j]?=some x):i=j:=by
 let⟨h1,e1⟩:=zr.mp a;let⟨h2,e2⟩:=zr.mp b;exact(List.getElem_inj hN).mp (e1.trans e2.symm)
def EM {M:Model} {A:wH} {E:wC->wD->Prop} {i:Nat} {x:Str} {v:V} {u:wC} {Q:Unit->wD->Prop} (I:Inv X pins U H s) (hN:X.N.Nodup) (hi:X.N[i]?=some x) (hx:Loc X.env.scope x) (r:RelV v u)
  (h:∀s',Inv X pins (U.set i (some v)) H s'->(∃a,Heap.SameBut a s.heap s'.heap/\(a=X.env.locals\/X.env.cells.lookup x=some a))->Q .unit s') (hf:X.fn x=true\/X.env.scope.names.lookup x=some .local<|>qa_):wpAny M A (storeName X.env x u) Q E s:=by
 let⟨m,hn,hl⟩:=id I.loc;let hcls:(X.env.scope.kind == .class||(X.env.scope.kind == .module&&X.env.locals != X.env.globals))=false:=by rw[I.ok.kind];rfl
 let hiU:i<U.length:=by rw[I.len];exact(zr.mp hi).1
 let Eo:=I.Eo;let tracked:∀{a:wJ} {h':wK},(∃o,s.heap.get? a=some o/\H a=none)->Heap.SameBut a s.heap h'->j2 X.prog X.w H h':=λ{a h'} ha hs b ob e=>by
  let⟨_,_,hfree⟩:=ha;refine(I.aP b ob e).fY (λc w' hc q=>(hs.2 c ?_).trans q) (λ_ q=>q) λ_ _ q=>q;rintro rfl;rcases hc with rfl | hc
  ·rw[hfree] at e;cases e
  ·rw[hfree] at hc;cases hc
 rcases hx with hk | hk
 ·refine wpAny_storeName_local hk hn (λh' hn' hs=>?_) hcls
  let⟨oL,_,_,hoL,_⟩:=id hn;refine h _ {I.ok,I.os,I.bare,{λb o e n hb hx=>?_,λb o e n hb hx=>?_,I.base.free,λb o e hx=>?_,I.base.i4,I.base.gS,I.base.i5},{_,hn',λj y v' e1 e2 e3=>?_},λy c e=>?_,I.free,I.fR,λp hp=>?_,tracked {(oL),hoL,I.free} hs,by simpa using I.len} {_,hs,.inl rfl}
  ·exact(hs.2 b (zZ (zS (yk e) I.ok.above))).trans (I.base.keep b o e n hb hx)
  ·let⟨sl,e1⟩:=I.base.slot b o e n hb hx
   exact{sl,(hs.2 b (zZ (zS (yk e) I.ok.above))).trans e1}
  ·let⟨o',e1⟩:=I.base.there b o e hx
   exact{o',(hs.2 b (zZ (zS (yk e) I.ok.above))).trans e1}
  ·by_cases hj:j=i
   ·subst hj
    rw[hi] at e1;cases e1;rw[List.getElem?_set_self hiU] at e2;cases e2;exact{u,r,.inl {hk,by simp}}
   ·rw[List.getElem?_set_ne (Ne.symm hj)] at e2
    let⟨u',r',q⟩:=hl j y v' e1 e2 e3;refine{u',r',?_};rcases q with⟨k,e⟩ | ⟨k,c,e,z⟩
    ·refine .inl {k,?_}
     have:y≠x:=λe=>hj (pQ hN e1 (e▸hi));simp[this,e]
    ·exact .inr {k,c,e,z.sameBut hs (Eo y c e)}
  ·let⟨w',z⟩:=I.cell y c e
   exact{w',z.sameBut hs (Eo y c e)}
  ·let⟨e,n,ne,nf,d⟩:=I.pin p hp
   exact{(hs.2 p.1 ne).trans e,n,ne,nf,d}
 ·let hfn:X.fn x=true:=by
   rcases hf with z | z
   ·exact z
   ·rw[z] at hk;cases hk
  let⟨c,hc⟩:=I.ok.has x (.inl hk);let⟨w',z⟩:=I.cell x c hc;refine wpAny_storeName_cell I.ok.kind hk hc z (λh' hc' hs=>?_);let⟨oc,hoc,hocd⟩:=id z;refine h {s with heap:=h'} {I.ok,I.os,I.bare,{λb o e n hb hx=>?_,λb o e n hb hx=>?_,I.base.free,λb o e hx=>?_,I.base.i4,I.base.gS,I.base.i5},{m,hn.sameBut hs (Ne.symm (Eo x c hc)),λj y v' e1 e2 e3=>?_},λy c' e=>?_,I.free,I.fR,λp hp=>?_,tracked {oc,hoc,I.fR x c hc} hs,by simpa using I.len} {c,hs,.inr hc}
  ·exact(hs.2 b (zZ (zS (yk e) (I.ok.LF x c hfn hc)))).trans (I.base.keep b o e n hb hx)
  ·let⟨sl,e1⟩:=I.base.slot b o e n hb hx
   exact{sl,(hs.2 b (zZ (zS (yk e) (I.ok.LF x c hfn hc)))).trans e1}
  ·let⟨o',e1⟩:=I.base.there b o e hx
   exact{o',(hs.2 b (zZ (zS (yk e) (I.ok.LF x c hfn hc)))).trans e1}
  ·by_cases hj:j=i
   ·subst hj
    rw[hi] at e1;cases e1;rw[List.getElem?_set_self hiU] at e2;cases e2;exact{u,r,.inr {.inl hk,c,hc,hc'}}
   ·rw[List.getElem?_set_ne (Ne.symm hj)] at e2
    let⟨u',r',q⟩:=hl j y v' e1 e2 e3;refine{u',r',?_};rcases q with q | ⟨k,c',e,z'⟩
    ·exact .inl q
    ·refine .inr {k,c',e,z'.sameBut hs ?_}
     rintro rfl;exact hj (pQ hN e1 (I.ok.inj _ _ _ e hc▸hi))
  ·by_cases hcc:c'=c
   ·subst hcc;exact{_,hc'}
   ·let⟨w2,z2⟩:=I.cell y c' e
    exact{w2,z2.sameBut hs hcc}
  ·let⟨e,n,ne,nf,d⟩:=I.pin p hp
   refine{(hs.2 p.1 ?_).trans e,n,ne,nf,d};intro q;rw[q,hoc] at e;let q':oc=p.2:=z0 e;exact d w' (by rw[<-q'];exact hocd)
def lj (I:Inv X pins U H s) (hN:X.N.Nodup) (hi:X.N[i]?=some x) (hx:Loc X.env.scope x) (r:RelV v u)
  (h:∀s',Inv X pins (U.set i (some v)) H s'->Q .unit s') (hf:X.fn x=true\/X.env.scope.names.lookup x=some .local<|>qa_):wpAny M A (storeName X.env x u) Q E s:=
 EM I hN hi hx r (λs' I' _=>h s' I') hf
def Inv.Er (I:Inv X pins U H s) (ho:s'.os=s.os) (u:Un (fX X.stack) ch H H' s.heap s'.heap) (aP:j2 X.prog X.w H' s'.heap) (hg:AllBare s'.gens)
  (hch:∀b∈ch,(b∈X.ex\/X.s₀.heap.objs.size<=b)/\b≠X.env.locals/\(∀x c,X.env.cells.lookup x=some c->c≠b)/\∀p∈X.pn++pins,p.1≠b):Inv X pins U H' s':=by
 let⟨h',g',d',t',o'⟩:=s';let e:o'=s.os:=ho;subst e;exact I.call (g':=g') (t':=t') (d':=d') u aP hg hch
end
abbrev XK:=wC->Option wJ->Hp->Prop
abbrev St:=List (Option V)
abbrev VK:=V->Hp->Prop
abbrev TE:=St->Hp->VK->Prop
abbrev TT:=St->Hp->(Bool->Hp->Prop)->Prop
abbrev TA:=St->Hp->(List V->Hp->Prop)->Prop
structure Ends where
 nx:St->Hp->Prop
 rt:VK
 bk:St->Hp->Prop:=λ_ _=>False
 ct:St->Hp->Prop:=λ_ _=>False
abbrev TS:=Ends->St->Hp->Prop
def EP (X:Cx) (pins:List (wJ×Obj)) (U:St) (Q:VK) (u:wC) (s':wD):Prop:=∃v H',Inv X pins U H' s'/\RelV v u/\Q v H'
def TP (X:Cx) (pins:List (wJ×Obj)) (U:St) (Q:Bool->Hp->Prop) (b:Bool) (s':wD):Prop:=∃H',Inv X pins U H' s'/\Q b H'
def AP (X:Cx) (pins:List (wJ×Obj)) (U:St) (Q:List V->Hp->Prop) (us:List wC) (s':wD):Prop:=∃vs H',Inv X pins U H' s'/\Vals vs us/\Q vs H'
def SP (X:Cx) (pins:List (wJ×Obj)) (D:Ends) (f:Flow) (s':wD):Prop:=
 match f with
 | .next=>∃U' H',Inv X pins U' H' s'/\D.nx U' H'
 | .brk=>∃U' H',Inv X pins U' H' s'/\D.bk U' H'
 | .cont=>∃U' H',Inv X pins U' H' s'/\D.ct U' H'
 | .ret u=>∃v U' H',Inv X pins U' H' s'/\RelV v u/\D.rt v H'
def PE (X:Cx) (e:Expr) (t:TE):Prop:=
 ∀(pins:List (wJ×Obj)) (s:wD) (U:St) (H:Hp) (Q:VK),Inv X pins U H s->t U H Q->wpAny (model X.prog X.w) X.A (eval e X.env) (EP X pins U Q) X.xe s
def PT (X:Cx) (e:Expr) (t:TT):Prop:=
 ∀(pins:List (wJ×Obj)) (s:wD) (U:St) (H:Hp) (Q:Bool->Hp->Prop),Inv X pins U H s->t U H Q->wpAny (model X.prog X.w) X.A (isTrue e X.env (eval e X.env)) (TP X pins U Q) X.xe s
def PW (X:Cx) (e:Expr) (t:TT):Prop:=
 ∀(whole:Sem wC) (pins:List (wJ×Obj)) (s:wD) (U:St) (H:Hp) (Q:Bool->Hp->Prop),Inv X pins U H s->t U H Q->wpAny (model X.prog X.w) X.A (isTrue e X.env whole) (TP X pins U Q) X.xe s
def PW.pt (h:PW X e t):PT X e t:=h _
def PA (X:Cx) (es:List Expr) (t:TA):Prop:=
 ∀(pos:Pos) (pins:List (wJ×Obj)) (s:wD) (U:St) (H:Hp) (Q:List V->Hp->Prop),Inv X pins U H s->t U H Q->wpAny (model X.prog X.w) X.A (spliced (backTo pos (starEach es X.env))) (AP X pins U Q) X.xe s
def PS (X:Cx) (st:Stmt) (t:TS):Prop:=
 ∀(pins:List (wJ×Obj)) (s:wD) (U:St) (H:Hp) (D:Ends),Inv X pins U H s->t D U H->wpAny (model X.prog X.w) X.A (exec st X.env) (SP X pins D) X.xe s
def sI (X:Cx) (st:List Stmt) (t:TS):Prop:=
 ∀(pins:List (wJ×Obj)) (s:wD) (U:St) (H:Hp) (D:Ends),Inv X pins U H s->t D U H->wpAny (model X.prog X.w) X.A (execs st X.env) (SP X pins D) X.xe s
def bR (h:wpAny M A t Q E s) (hQ:∀a s,Q a s->Q' a s):wpAny M A t Q' E s:=yS h hQ λ_ _ x=>x
end L2
namespace L2
open PySem PySem.Spec PyProof.Rows
section
variable {X:Cx}
def cj (i:Nat):TE:=λU H Q=>∃v,U[i]?=some (some v)/\Q v H
def tC (v:V):TE:=λ_ H Q=>Q v H
def K2 (hN:X.N[i]?=some x) (hv:LK X.env.scope x) (hd:(x == ("__debug__": Str))=false<|>qb_) (hcd:(x == ("__classdict__": Str))=false<|>qb_):PE X (.Name x pos) (cj i):=by
 intro pins s U H Q I h;let⟨v,e,h⟩:=h;let⟨m,hn,hl⟩:=I.loc;let⟨u,r,l⟩:=hl i x v hN e hv;let fin:EP X pins U Q u s:={(v),H,I,r,h}
 rcases l with⟨hk,hm⟩ | ⟨hk,c,hc,hcell⟩
 ·exact wpAny_Name (wpAny_loadName_local I.ok.kind hk hn hm fin) hd
 ·rcases hk with hk | hk
  ·exact wpAny_Name (wpAny_loadName_cell I.ok.kind hk hc hcell fin) hd
  ·exact wpAny_Name (wpAny_loadName_free I.ok.kind hk hc hcell fin hcd) hd
def ai:PE X (.Constant (.int i) j pos) (tC (.int i)):=λ_ _ _ H _ I h=>wpAny_Constant_int {.int i,H,I.tok _,{_,rfl},h}
def iP:PE X (.Constant (.bool b) j pos) (tC (.bl b)):=λ_ _ _ H _ I h=>Constant_bool {.bl b,H,I,rfl,h}
def aD:PE X (.Constant .none j pos) (tC .aO):=λ_ _ _ H _ I h=>Constant_none {.aO,H,I,rfl,h}
def ar:PE X (.Constant (.str x) j pos) (tC (.str x)):=λ_ _ _ H _ I h=>Calls.Constant_str {.str x,H,I.tok _,{_,rfl},h}
def Gl (X:Cx) (x:Str):Prop:=X.env.kindOf x=some .globalImplicit
def dB (I:Inv X pins U H s) (hg:Gl X x) (hm:X.mg x=some u) (h:Q u s)
  (hd:(x == ("__debug__": Str))=false<|>qb_):wpAny (model X.prog X.w) X.A (eval (.Name x pos) X.env) Q E s:=
 Calls.Name_function_global I.ok.kind hg (Calls.loadGlobal_global (by rw[I.ok.glob];exact I.mod.glob.keeps I.bk) hm h) hd
def jw (I:Inv X pins U H s) (hg:Gl X x) (hm:X.mg x=none) (hv:bootBuiltins x=some u) (h:Q u s)
  (hn:x≠ "__name__"<|>qb_) (hd:(x == ("__debug__": Str))=false<|>qb_):wpAny (model X.prog X.w) X.A (eval (.Name x pos) X.env) Q E s:=by
 let⟨mb,h1,h2⟩:=I.mod.blt;exact Calls.Name_function_global I.ok.kind hg (Calls.loadGlobal_builtin (by rw[I.ok.glob];exact I.mod.glob.keeps I.bk) hm (by rw[I.ok.blt];exact h1.keeps I.bk) ((h2 x hn).trans hv) h) hd
def aK (hg:Gl X x) (hm:X.mg x=some u) (r:RelV v u) (hd:(x == ("__debug__": Str))=false<|>qb_):PE X (.Name x pos) (tC v):=
 λ_ _ _ H _ I h=>dB I hg hm {(v),H,I,r,h} hd
def Ec (hg:Gl X x) (hm:X.mg x=none) (hv:bootBuiltins x=some u) (r:RelV v u) (hn:x≠ "__name__"<|>qb_) (hd:(x == ("__debug__": Str))=false<|>qb_):PE X (.Name x pos) (tC v):=
 λ_ _ _ H _ I h=>jw I hg hm hv {(v),H,I,r,h} hn hd
variable {a b:Expr} {ta tb:TE} {pos:Pos}
def PC (X:Cx) (op:CmpOp) (a b:Expr) (t:TE):Prop:=
 ∀(pins:List (wJ×Obj)) (s:wD) (U:St) (H:Hp) (Q:VK),Inv X pins U H s->t U H Q->
  wpAny (model X.prog X.w) X.A (eval a X.env) (λv s₁=>wpAny (model X.prog X.w) X.A (eval b X.env) (λu s₂=>wpAny (model X.prog X.w) X.A (compareOp op v u) (EP X pins U Q) X.xe s₂) X.xe s₁) X.xe s
def A4 (b:Expr) (h:op≠.In) (h2:op≠.NotIn):behindInMarks op b=false:=by
 let e1:(op == CmpOp.In)=false:=by cases op <;> first | rfl | exact absurd rfl h
 let e2:(op == CmpOp.NotIn)=false:=by cases op <;> first | rfl | exact absurd rfl h2
 cases b <;> simp[behindInMarks,e1,e2]
def Gh (ta:TE):TE:=λU H Q=>ta U H λx H1=>Q (.bl (decide (x=.aO))) H1
def Gg (ta:TE):TE:=λU H Q=>ta U H λx H1=>Q (.bl (!decide (x=.aO))) H1
def RelV.A3 (r:RelV x v):(v == Value.none)=decide (x=.aO):=by
 cases x with
 | aO=>cases r;rfl
 | bl _=>cases r;rfl
 | int _=>let⟨t,rfl⟩:=r;rfl
 | str _=>let⟨t,rfl⟩:=r;rfl
 | Es _=>let⟨t,rfl⟩:=r;rfl
 | Jt _=>let⟨t,rfl⟩:=r;rfl
 | ref _=>cases r;rfl
 | ty _=>cases r;rfl
def bF (ha:PE X a ta):PC X .Is a (.Constant .none j pos') (Gh ta):=by
 intro pins s U H Q I h;refine bR (ha pins s U H _ I h) λv s1 zz=>?_;let⟨x,H1,I1,r1,q1⟩:=zz;exact Constant_none (is_none_gen {.bl _,H1,I1,by rw[r1.A3];rfl,q1})
def ib (ha:PE X a ta):PC X .IsNot a (.Constant .none j pos') (Gg ta):=by
 intro pins s U H Q I h;refine bR (ha pins s U H _ I h) λv s1 zz=>?_;let⟨x,H1,I1,r1,q1⟩:=zz;exact Constant_none (isnot_none_gen {.bl _,H1,I1,by rw[r1.A3];rfl,q1})
def tB (t:TE):TT:=λU H Q=>t U H λx H1=>∃c,x=.bl c/\Q c H1
def mD (h:PC X op a b t) (h1:behindInMarks op b=false<|>qc_):PE X (.Compare a [op] [b] pos) t:=λpins s U H Q I hw=>wpAny_Compare1 (h pins s U H Q I hw) h1
def aV (h:PC X op a b t) (h1:behindInMarks op b=false<|>qc_):PT X (.Compare a [op] [b] pos) (tB t):=by
 intro pins s U H Q I hw;refine wpAny_isTrue_Compare1 (bR (h pins s U H _ I hw) λv s1 h1=>bR h1 λu s2 h2=>bR h2 λc s3 ⟨x,H1,I1,r1,q1⟩=>?_) h1;let⟨d,rfl,q⟩:=q1;cases r1;exact yT {(H1),I1,q}
def bA (h:PE X e t) (he:(∀whole,isTrue e X.env whole=(do let v <-whole;standAt e.pos;holding [v] (truthy v)))<|>qd_):PT X e (tB t):=by
 intro pins s U H Q I hw;refine isTrue_plain (bR (h pins s U H _ I hw) λv s1 ⟨x,H1,I1,r1,q1⟩=>?_) (he _);let⟨d,rfl,q⟩:=q1;cases r1;exact yT {(H1),I1,q}
variable {tA tB':TT} {rest:List Expr}
def Mu (t u:TT):TT:=λU H Q=>t U H λc H1=>if c=true then u U H1 Q else Q false H1
def O3 (t u:TT):TT:=λU H Q=>t U H λc H1=>if c=true then Q true H1 else u U H1 Q
def Mq (t:TT):TT:=λU H Q=>t U H λc H1=>Q (!c) H1
def ei (ha:PT X a tA):PW X (.BoolOp .And [a] pos) tA:=by
 intro wh pins s U H Q I h;refine isTrue_and (bR (ha pins s U H Q I h) λc s1 e=>?_);cases c with
 | true=>exact isTrue_and_nil e
 | false=>exact e
def b7 (ha:PT X a tA):PW X (.BoolOp .Or [a] pos) tA:=by
 intro wh pins s U H Q I h;refine isTrue_or (bR (ha pins s U H Q I h) λc s1 e=>?_);cases c with
 | false=>exact isTrue_or_nil e
 | true=>exact e
def fK (ha:PT X a tA) (hb:PW X (.BoolOp .And (b::rest) pos) tB'):PW X (.BoolOp .And (a::b::rest) pos) (Mu tA tB'):=by
 intro wh pins s U H Q I h;refine isTrue_and (bR (ha pins s U H _ I h) λc s1 ⟨H1,I1,q1⟩=>?_);cases c with
 | true=>exact hb wh pins s1 U H1 Q I1 q1
 | false=>exact{(H1),I1,q1}
def cP (ha:PT X a tA) (hb:PW X (.BoolOp .Or (b::rest) pos) tB'):PW X (.BoolOp .Or (a::b::rest) pos) (O3 tA tB'):=by
 intro wh pins s U H Q I h;refine isTrue_or (bR (ha pins s U H _ I h) λc s1 ⟨H1,I1,q1⟩=>?_);cases c with
 | true=>exact{(H1),I1,q1}
 | false=>exact hb wh pins s1 U H1 Q I1 q1
def de (ha:PT X a tA):PT X (.UnaryOp .Not a pos) (Mq tA):=by
 intro pins s U H Q I h;exact isTrue_not (ha pins s U H (λc H1=>Q (!c) H1) I h)
def JU (ta tb:TE):TE:=λU H Q=>ta U H λx H1=>∃c,x=.bl c/\if c=true then tb U H1 Q else Q (.bl false) H1
def Mo (ta tb:TE):TE:=λU H Q=>ta U H λx H1=>∃c,x=.bl c/\if c=true then Q (.bl true) H1 else tb U H1 Q
def Mp (ta:TE):TE:=λU H Q=>ta U H λx H1=>∃c,x=.bl c/\Q (.bl (!c)) H1
def gC (h:PE X a t):PE X (.BoolOp op [a] pos) t:=λpins s U H Q I hw=>BoolOp_one (h pins s U H Q I hw)
def fN (ha:PE X a ta) (hb:PE X (.BoolOp .And (b::rest) pos) tb):PE X (.BoolOp .And (a::b::rest) pos) (JU ta tb):=by
 intro pins s U H Q I h;refine BoolOp_and (bR (ha pins s U H _ I h) λv s1 zz=>?_);let⟨x,H1,I1,r1,q1⟩:=zz;let⟨c,rfl,q1⟩:=q1;cases r1;refine yT ?_;cases c with
 | true=>exact hb pins s1 U H1 Q I1 q1
 | false=>exact{.bl false,H1,I1,rfl,q1}
def J3 (ha:PE X a ta) (hb:PE X (.BoolOp .Or (b::rest) pos) tb):PE X (.BoolOp .Or (a::b::rest) pos) (Mo ta tb):=by
 intro pins s U H Q I h;refine BoolOp_or (bR (ha pins s U H _ I h) λv s1 zz=>?_);let⟨x,H1,I1,r1,q1⟩:=zz;let⟨c,rfl,q1⟩:=q1;cases r1;refine yT ?_;cases c with
 | false=>exact hb pins s1 U H1 Q I1 q1
 | true=>exact{.bl true,H1,I1,rfl,q1}
end
end L2
namespace L2
open PySem PySem.Spec PyProof.Rows
def aE (K:yo) (H:Hp) (a:wJ) (xs:List V):Prop:=
 Rd H a (.lst xs)\/
  ∃(o:Obj) (its:Array wC) (n:Nat),K.lookup a=some o/\o.cls=.type "list"/\o.dict=none/\o.data=.seq its n/\its.size<=sizeLine/\Vals xs its.toList
def cQ (K:yo) (H:Hp) (a:wJ) (xs:List V):Prop:=
 Rd H a (.tup xs)\/
  ∃(o:Obj) (its:Array wC) (n:Nat),K.lookup a=some o/\o.cls=.type "tuple"/\o.data=.seq its n/\its.size<=sizeLine/\Vals xs its.toList
def OW:wC->Option V
 | .none=>some .aO
 | .bool b=>some (.bl b)
 | .int i _=>some (.int i)
 | .str x _=>some (.str x)
 | .bytes b _=>some (.Es b)
 | .float b _=>some (.Jt b)
 | .ref a=>some (.ref a)
 | .type n=>some (.ty n)
 | _=>none
def RelV.abs (r:RelV x u):OW u=some x:=by
 cases x with
 | aO=>cases r;rfl
 | bl _=>cases r;rfl
 | int _=>let⟨t,rfl⟩:=r;rfl
 | str _=>let⟨t,rfl⟩:=r;rfl
 | Es _=>let⟨t,rfl⟩:=r;rfl
 | Jt _=>let⟨t,rfl⟩:=r;rfl
 | ref _=>cases r;rfl
 | ty _=>cases r;rfl
def RelV.inj (r:RelV x u) (q:RelV y u):x=y:=z0 (r.abs.symm.trans q.abs)
theorem Vals.inj:∀{xs ys:List V} {us:List wC},Vals xs us->Vals ys us->xs=ys
 | _,_,_,.nil,.nil=>rfl
 | _,_,_,.cons r t,.cons r' t'=>by rw[r.inj r',Vals.inj t t']
section
variable {X:Cx} {pins:List (wJ×Obj)} {U:St} {H:Hp} {s:wD} {a:wJ} {xs ys:List V}
def aE.of {K:yo} (h:H a=some (.lst xs)):aE K H a xs:=.inl (.inl h)
def cQ.of {K:yo} (h:H a=some (.tup xs)):cQ K H a xs:=.inl (.inl h)
def Inv.list (I:Inv X pins U H s) (h:aE X.K H a xs):∃its:List wC,Vals xs its/\PlainL s.heap a its.toArray/\⇑xs<=sizeLine:=by
 rcases h with h | ⟨o,its,n,hk,hc,hd,hs,hz,r⟩
 ·let⟨z,its,n,r,e⟩:=h.ok I.aP
  exact{its,r,{_,n,e,rfl,rfl,rfl},z}
 ·refine{its.toList,r,{o,n,I.gL a o hk,hc,hd,by simpa using hs},?_}
  let e:=⇑r;simp only[yE] at e;ext
def Inv.tuple (I:Inv X pins U H s) (h:cQ X.K H a xs):∃its:List wC,Vals xs its/\IsTup s.heap a its.toArray/\⇑xs<=sizeLine:=by
 rcases h with h | ⟨o,its,n,hk,hc,hs,hz,r⟩
 ·let⟨z,its,r,p⟩:=h.ok I.aP
  exact{(its),r,p,z}
 ·refine{its.toList,r,{o,I.gL a o hk,hc,n,by simpa using hs},?_}
  let e:=⇑r;simp only[yE] at e;ext
def Inv.pV (I:Inv X pins U H s) (h:aE X.K H a xs) (h':aE X.K H a ys):xs=ys:=by
 let⟨its,r,⟨o,n,e,_,_,d⟩,_⟩:=I.list h;let⟨its',r',⟨o',n',e',_,_,d'⟩,_⟩:=I.list h';rw[e] at e';cases e';rw[d] at d';injection d' with d1 _;have:its=its':=by simpa using yN Array.toList d1
 subst this;exact r.inj r'
def Inv.sP (I:Inv X pins U H s) (h:cQ X.K H a xs) (h':cQ X.K H a ys):xs=ys:=by
 let⟨its,r,⟨o,e,_,n,d⟩,_⟩:=I.tuple h;let⟨its',r',⟨o',e',_,n',d'⟩,_⟩:=I.tuple h';rw[e] at e';cases e';rw[d] at d';injection d' with d1 _;have:its=its':=by simpa using yN Array.toList d1
 subst this;exact r.inj r'
end
abbrev Cx.j3 (X:Cx) (E:wC->wD->Prop):Cx:={X with xe:=E}
abbrev Cx.wZ (X:Cx):Cx:=X.j3 λ_ _=>False
theorem Cx.Ok.j3 {X:Cx} (ok:X.Ok) (E:wC->wD->Prop):(X.j3 E).Ok:=
 {(ok.mod),ok.kind,ok.glob,ok.blt,ok.above,ok.inj,ok.has,ok.LF,ok.hd,ok.frames,ok.LU,ok.NJ,ok.bs,ok.FU,ok.i6,ok.C4,ok.jB,ok.vw}
def Cx.Ok.dq {X:Cx} {E:wC->wD->Prop} (ok:(X.j3 E).Ok):X.Ok:=
 {(ok.mod),ok.kind,ok.glob,ok.blt,ok.above,ok.inj,ok.has,ok.LF,ok.hd,ok.frames,ok.LU,ok.NJ,ok.bs,ok.FU,ok.i6,ok.C4,ok.jB,ok.vw}
section
variable {X:Cx} {pins:List (wJ×Obj)} {U:St} {H:Hp} {s:wD} {E:wC->wD->Prop}
theorem Inv.j3 (I:Inv X pins U H s) (E:wC->wD->Prop):Inv (X.j3 E) pins U H s:={I.ok.j3 E,I.os,I.bare,I.base,I.loc,I.cell,I.free,I.fR,I.pin,I.aP,I.len}
theorem Inv.dq (I:Inv (X.j3 E) pins U H s):Inv X pins U H s:={(I.ok.dq),I.os,I.bare,I.base,I.loc,I.cell,I.free,I.fR,I.pin,I.aP,I.len}
theorem SP.dq (h:SP (X.j3 E) pins D f s'):SP X pins D f s':=by
 cases f with
 | next=>let⟨U',H',I,q⟩:=h;exact{U',H',I.dq,q}
 | brk=>let⟨U',H',I,q⟩:=h;exact{U',H',I.dq,q}
 | cont=>let⟨U',H',I,q⟩:=h;exact{U',H',I.dq,q}
 | ret u=>let⟨v,U',H',I,r,q⟩:=h;exact{v,U',H',I.dq,r,q}
theorem sI.wZ {st:List Stmt} {t:TS} (h:sI X.wZ st t):sI X st t:=λpins s U H D I hw=>
 yS (h pins s U H D (I.j3 _) hw) (λ_ _ q=>q.dq) λ_ _ z=>False.elim z
end
section
variable {X:Cx} {st:Stmt} {rest:List Stmt} {t u:TS} {e:Expr} {te:TE} {pos:Pos}
def JR:TS:=λD U H=>D.nx U H
def Mm (t u:TS):TS:=λD U H=>t {D with nx:=u D} U H
def ao:sI X [] JR:=λ_ _ U H _ I h=>xP {U,H,I,h}
def ae (h1:PS X st t) (h2:sI X rest u):sI X (st::rest) (Mm t u):=by
 intro pins s U H D I h;refine wpAny_execs_cons (bR (h1 pins s U H {D with nx:=u D} I h) λf s1 q=>?_);cases f with
 | next=>
  let⟨U',H',I',q⟩:=q;exact h2 pins s1 U' H' D I' q
 | ret v=>exact q
 | brk=>exact q
 | cont=>exact q
def ag (h1:PS X st t):sI X [st] t:=by
 intro pins s U H D I h;refine wpAny_execs_cons (bR (h1 pins s U H D I h) λf s1 q=>?_);cases f with
 | next=>exact xP q
 | ret v=>exact q
 | brk=>exact q
 | cont=>exact q
def Inv.quiet (I:Inv X pins U H s):interactive X.env=false:=by simp[interactive,I.ok.kind]
def JS (te:TE):TS:=λD U H=>te U H λ_ H1=>D.nx U H1
def ia (he:PE X e te) (hs:swapsWith e none pos.line X.env=pure false<|>qe_):PS X (.Expr e pos) (JS te):=by
 intro pins s U H D I h;exact wpAny_Expr_any (bR (he pins s U H _ I h) λv s1 ⟨x,H1,I1,r1,q1⟩=>{U,H1,I1,q1}) I.quiet hs
def Kt (te:TE):TS:=λD U H=>te U H D.rt
def ak (he:PE X e te):PS X (.Return (some e) pos) (Kt te):=by
 intro pins s U H D I h;exact wpAny_Return_some (bR (he pins s U H _ I h) λv s1 ⟨x,H1,I1,r1,q1⟩=>{x,U,H1,I1,r1,q1})
def IB (c:TT) (t u:TS):TS:=λD U H=>c U H λb H1=>if b=true then t D U H1 else u D U H1
def ax (hc:PT X c tc) (ha:sI X a t) (hb:sI X b u):PS X (.If c a b pos) (IB tc t u):=by
 intro pins s U H D I h;refine wpAny_If (bR (hc pins s U H _ I h) λd s1 ⟨H1,I1,q1⟩=>?_);cases d with
 | true=>exact ha pins s1 U H1 D I1 q1
 | false=>exact hb pins s1 U H1 D I1 q1
end
abbrev TG:=V->St->Hp->(St->Hp->Prop)->Prop
abbrev Nr:=List V->St->Hp->(St->Hp->Prop)->Prop
def PG (X:Cx) (target:Expr) (t:TG):Prop:=
 ∀(pins:List (wJ×Obj)) (s:wD) (U:St) (H:Hp) (v:V) (u:wC) (Q:St->Hp->Prop),Inv X pins U H s->RelV v u->t v U H Q->
  wpAny (model X.prog X.w) X.A (assign target X.env u) (λ_ s'=>∃U' H',Inv X pins U' H' s'/\Q U' H') X.xe s
def NL (X:Cx) (ts:List Expr) (t:Nr):Prop:=
 ∀(pins:List (wJ×Obj)) (s:wD) (U:St) (H:Hp) (vs:List V) (us:List wC) (Q:St->Hp->Prop),Inv X pins U H s->Vals vs us->t vs U H Q->
  wpAny (model X.prog X.w) X.A (assignInOrder ((assignEach ts X.env).map (·.2)) us) (λ_ s'=>∃U' H',Inv X pins U' H' s'/\Q U' H') X.xe s
section
variable {X:Cx} {pos:Pos}
def eT (i:Nat):TG:=λv U H Q=>Q (U.set i (some v)) H
def Ea (hN:X.N.Nodup) (hi:X.N[i]?=some x) (hx:Loc X.env.scope x) (hf:X.fn x=true\/X.env.scope.names.lookup x=some .local<|>qa_):PG X (.Name x pos) (eT i):=by
 intro pins s U H v u Q I r h;exact wpAny_assign_Name (lj I hN hi hx r (λs' I'=>{_,H,I',h}) hf)
def Ln:Nr:=λvs U H Q=>vs=[]/\Q U H
def Bg (t:TG) (u:Nr):Nr:=λvs U H Q=>∃v r,vs=v::r/\t v U H λU' H'=>u r U' H' Q
def lH:NL X [] Ln:=by
 intro pins s U H vs us Q I r h;let⟨e,h⟩:=h;subst e;cases r;exact assignInOrder_nil {U,H,I,h}
def cV (h1:PG X e t) (h2:NL X es u)
  (hs:(assignEach (e::es) X.env).map (·.2)=assign e X.env::(assignEach es X.env).map (·.2)<|>qe_):NL X (e::es) (Bg t u):=by
 intro pins s U H vs us Q I r h;let⟨v,vr,e1,h⟩:=h;subst e1;cases r with
 | cons r rr=>
  rw[hs];refine assignInOrder_cons (bR (h1 pins s U H _ _ _ I r h) λ_ s1 ⟨U1,H1,I1,q1⟩=>?_);exact h2 pins s1 U1 H1 _ _ Q I1 rr q1
def Ll (K:yo) (n:Nat) (t:Nr):TG:=λv U H Q=>∃a xs,v=.ref a/\cQ K H a xs/\⇑xs=n/\t xs U H Q
def pF (hc:X.calm=true) (h:NL X es t)
  (hn:⇑(assignEach es X.env)=n<|>qe_) (hst:(assignEach es X.env).findIdx? (·.1)=none<|>qe_):PG X (.Tuple es k pos) (Ll X.K n t):=by
 intro pins s U H v u Q I r hw;let⟨a,xs,e1,hq,hl,hw⟩:=hw;subst e1;cases r;let⟨its,rv,ht,hz⟩:=I.tuple hq;refine assign_Tuple_tuple (I.ok.hd hc) ht (by simp[hn,<-hl,⇑rv]) hst λh' hx=>?_;let I1:Inv X pins U H {s with heap:=h'}:=I.kept (t':=s.toks) λb o e=>hx b o (zZ (yk e)) e;exact h pins _ U H xs _ Q I1 (by simpa using rv) hw
def Gi (te:TE) (g:TG):TS:=λD U H=>te U H λx H1=>g x U H1 D.nx
def KZ {tg e:Expr} {te:TE} {g:TG} (he:PE X e te) (hg:PG X tg g) (hs:swapsWithSole [tg] e pos.line X.env=pure false<|>qe_) (hw:swappedStores [tg] e X.env=pure none<|>qe_)
  (h1:(assignEach [tg] X.env).map (·.2)=[assign tg X.env]<|>qe_):PS X (.Assign [tg] e pos) (Gi te g):=by
 intro pins s U H D I h;refine wpAny_Assign_stores (bR (he pins s U H _ I h) λv s1 ⟨x,H1,I1,r1,q1⟩=>?_) hs hw;rw[h1];exact bR (hg pins s1 U H1 x v _ I1 r1 q1) λ_ s2 q=>q
def KY (hN:X.N.Nodup) (hi:X.N[i]?=some x) (hx:Loc X.env.scope x) (he:PE X e te) (hs:swapsWith e (some (.Name x pos')) pos.line X.env=pure false<|>qe_) (hf:X.fn x=true\/X.env.scope.names.lookup x=some .local<|>qa_) :
  PS X (.Assign [.Name x pos'] e pos) (Gi te (eT i)):=by
 intro pins s U H D I h;refine wpAny_Assign_Name (bR (he pins s U H _ I h) λv s1 ⟨y,H1,I1,r1,q1⟩=>?_) hs;exact lj I1 hN hi hx r1 (λs2 I2=>{_,H1,I2,q1}) hf
end
section
variable {X:Cx} {pos:Pos}
def Ks (c:TT) (tb:TS):TS:=λD U H=>∃W:Nat->St->Hp->Prop,(∃m,W m U H)/\∀m U H,W m U H->
 c U H λb H1=>if b=true then∃N:St->Hp->Prop,(∀U' H',N U' H'->∃m',m'<m/\W m' U' H')/\tb {D with nx:=N,ct:=N,bk:=D.nx} U H1 else D.nx U H1
def GI (hp:PassesOwn (model X.prog X.w) X.A X.env X.xe) (hc:PT X c tc) (hb:sI X body tb):PS X (.While c body [] pos) (Ks tc tb):=by
 intro pins s U H D I h;let⟨W,⟨m0,w0⟩,turn⟩:=h;refine wpAny_While (codeAny_whileLoop (λn s'=>∃U' H',Inv X pins U' H' s'/\W n U' H') ?_ m0 {U,H,I,w0});rintro n s1 ⟨U1,H1,I1,w1⟩;refine xw hp (bR (hc pins s1 U1 H1 _ I1 (turn n U1 H1 w1)) λb s2 ⟨H2,I2,q2⟩=>?_);cases b with
 | true=>
  let⟨N,hN,q2⟩:=q2;rw[yC rfl];refine xw hp (bR (hb pins s2 U1 H2 _ I2 q2) λf s3 q3=>?_);cases f with
  | next=>
   let⟨U3,H3,I3,n3⟩:=q3;let⟨m',hm,w3⟩:=hN U3 H3 n3;exact{m',hm,U3,H3,I3,w3}
  | cont=>
   let⟨U3,H3,I3,n3⟩:=q3;let⟨m',hm,w3⟩:=hN U3 H3 n3;exact{m',hm,U3,H3,I3,w3}
  | brk=>exact q3
  | ret v=>exact q3
 | false=>
  rw[yB zG];exact xP {U1,H2,I2,q2}
end
structure It where
 go:Nat->Hp->Prop
 F6:Nat->Hp->V->Hp->Prop
 stop:Nat->Hp->Prop
def sJ (X:Cx) (pins:List (wJ×Obj)) (H:Hp) (b:wJ):Prop:=
 H b=none/\b≠X.env.locals/\b∉X.fs/\(b∈X.ex\/X.s₀.heap.objs.size<=b)/\(∀x c,X.env.cells.lookup x=some c->c≠b)/\∀p∈X.pn++pins,p.1≠b
def Inv.vx (I:Inv X pins U H s) (hb:↑s<=b) (hn:H' b=none):sJ X pins H' b:=by
 refine{hn,zY (zS I.lt hb),I.MY hb,.inr (zH I.sz hb),λx c e z=>?_,λp hp z=>?_}
 ·let⟨v,q⟩:=I.cell x c e
  exact absurd (zS q.lt (by rw[z];exact hb)) (zV _)
 ·exact absurd (zS (yk (I.pin p hp).1) (by rw[z];exact hb)) (zV _)
structure Turn (P:wF) (w:wG) (K:yo) (tg:Expr) (J:It) (fp:List wJ) (it:wJ) (tn:Nat->wK->Prop):Prop where
 mem:it∈fp
 obj:∀i h,tn i h->∀b∈fp,∃o,h.get? b=some o/\∀v,o.data≠.cell v
 keep:∀i h h',tn i h->(∀b∈fp,∀o,h.get? b=some o->h'.get? b=some o)->tn i h'
 item:∀(X:Cx),X.prog=P->X.w=w->X.K=K->X.calm=true->∀(i:Nat) (pins:List (wJ×Obj)) (s:wD) (U:St) (H:Hp) (E:wC->wD->Prop),Inv X pins U H s->(∀b∈fp,sJ X pins H b)->tn i s.heap->J.go i H->
  wpAny (model P w) X.A (pyNext (.ref it)) (λr s1=>∃u,r=some u/\
   wpAny (model P w) X.A (letOwnedTupleGo tg (.ref it) u) (λ_ s2=>∃x H',Inv X pins U H' s2/\RelV x u/\J.F6 i H x H'/\tn (i+1) s2.heap/\∀b∈fp,H' b=none) E s1) E s
 done:∀(X:Cx),X.prog=P->X.w=w->X.K=K->X.calm=true->∀(i:Nat) (pins:List (wJ×Obj)) (s:wD) (U:St) (H:Hp) (E:wC->wD->Prop),Inv X pins U H s->(∀b∈fp,sJ X pins H b)->tn i s.heap->J.stop i H->
  wpAny (model P w) X.A (pyNext (.ref it)) (λr s1=>r=none/\Inv X pins U H s1) E s
 self:∀(A:wH) (i:Nat) (s:wD) (Q:wC->wD->Prop) (E:wC->wD->Prop),tn i s.heap->Q (.ref it) s->wpAny (model P w) A (pyIter (.ref it)) Q E s
abbrev TI:=St->Hp->(It->Hp->Prop)->Prop
def Pb (X:Cx) (pins:List (wJ×Obj)) (U:St) (tg:Expr) (R:It->Hp->Prop) (itv:wC) (s2:wD):Prop:=
 ∃(it:wJ) (fp:List wJ) (tn:Nat->wK->Prop) (J:It) (H':Hp),itv=.ref it/\Inv X pins U H' s2/\Turn X.prog X.w X.K tg J fp it tn/\tn 0 s2.heap/\(∀b∈fp,sJ X pins H' b)/\R J H'
def PI (X:Cx) (tg iter:Expr) (wi:TI):Prop:=
 ∀(pins:List (wJ×Obj)) (s:wD) (U:St) (H:Hp) (R:It->Hp->Prop),Inv X pins U H s->wi U H R->
  wpAny (model X.prog X.w) X.A (eval iter X.env) (λv s1=>wpAny (model X.prog X.w) X.A (pyIter v) (Pb X pins U tg R) X.xe s1) X.xe s
def tJ (ho:s.heap.get? it=some o) (hc:o.cls=.type n) (hd:o.data=.fields vs)
    (hn:["enumerate","zip","dict_itemiterator","dict_reverseitemiterator","odict_iterator","itertools.zip_longest","itertools.pairwise"].contains n=false) (hQ:Q .unit s):wpAny M A (letOwnedTupleGo tg (.ref it) u) Q E s:=by
  unfold letOwnedTupleGo;cases tg <;> first
    | exact yi hQ
    | (cases u <;> first
        | exact yi hQ
        | (refine yg (wpAny_load ho ?_)
           rw[hc,hd];show wpAny M A (if(["enumerate","zip","dict_itemiterator","dict_reverseitemiterator","odict_iterator","itertools.zip_longest","itertools.pairwise"].contains n&&vs[0]? == some (rawInt _))=true then _ else _) Q E s;rw[yB (by intro h;rw[hn,yH] at h;cases h)];exact yi hQ))
def Ih (K:yo) (a:wJ):It:=
 {λi H=>∃xs x,aE K H a xs/\xs[i]?=some x,λi H x H'=>H'=H/\∀xs,aE K H a xs->xs[i]?=some x,λi H=>∃xs,aE K H a xs/\⇑xs<=i}
def Ke (K:yo) (a:wJ):It:=
 {λi H=>∃xs x,cQ K H a xs/\xs[i]?=some x,λi H x H'=>H'=H/\∀xs,cQ K H a xs->xs[i]?=some x,λi H=>∃xs,cQ K H a xs/\⇑xs<=i}
def LZ (lo:Int) (n:Nat):It:={λi _=>i<n,λi H x H'=>H'=H/\x=.int (lo+i),λi _=>n<=i}
def EH {P:wF} {w:wG} {K:yo} {tg:Expr} (a it:wJ):Turn P w K tg (Ih K a) [it] it (λi h=>h.IsListIter it a i) where
 mem:=by simp
 obj:=λi h st b hb=>by
  let e:b=it:=by simpa using hb
  subst e;let⟨o,e,c,d⟩:=st;exact{o,e,λv z=>by rw[d] at z;cases z}
 keep:=λi h h' st k=>st.at λo e=>k it (by simp) o e
 item:=by
  intro X hP hw hK hc i pins s U H E I hf st hg;subst hP hw hK;let⟨xs,x,hq,hx⟩:=hg;let⟨its,rv,p,hz⟩:=I.list hq;let⟨u,hu,ru⟩:=rv.get hx;let⟨f0,f1,f2,f3,f4,f5⟩:=hf it (by simp);refine wpAny_pyNext_list_item st p.isList (x:=u) (by simpa using hu) λh' st' sb=>?_;let I1:Inv X pins U H {s with heap:=h'}:=I.turned (t':=s.toks) (λb o hb e=>(sb.2 b hb).trans e) f0 f1 f3 f4 f5;let⟨o,e,c,d⟩:=id st';exact{u,rfl,tJ (s:={s with heap:=h'}) e c d ∅ {x,H,I1,ru,{rfl,λys hy=>by rw[I.pV hy hq];exact hx},st',λb hb=>(hf b hb).1}}
 done:=by
  intro X hP hw hK hc i pins s U H E I hf st hg;subst hP hw hK;let⟨xs,hq,hx⟩:=hg;let⟨its,rv,p,hz⟩:=I.list hq;let⟨f0,f1,f2,f3,f4,f5⟩:=hf it (by simp);let hl:=⇑rv;exact wpAny_pyNext_list_end (I.ok.hd hc) st p.isList (by simp;ext) λh' eb=>{rfl,I.turned (t':=s.toks) (λb o hb e=>eb b o hb e) f0 f1 f3 f4 f5}
 self:=λ_ _ _ _ _ st h=>wpAny_pyIter_listiter st h
def Cg {P:wF} {w:wG} {K:yo} {tg:Expr} (a it:wJ):Turn P w K tg (Ke K a) [it] it (λi h=>h.IsTupleIter it a i) where
 mem:=by simp
 obj:=λi h st b hb=>by
  let e:b=it:=by simpa using hb
  subst e;let⟨o,e,c,d⟩:=st;exact{o,e,λv z=>by rw[d] at z;cases z}
 keep:=λi h h' st k=>st.at λo e=>k it (by simp) o e
 item:=by
  intro X hP hw hK hc i pins s U H E I hf st hg;subst hP hw hK;let⟨xs,x,hq,hx⟩:=hg;let⟨its,rv,p,hz⟩:=I.tuple hq;let⟨u,hu,ru⟩:=rv.get hx;let⟨f0,f1,f2,f3,f4,f5⟩:=hf it (by simp);refine wpAny_pyNext_tuple_item st (show s.heap.IsTuple a its.toArray from p) (x:=u) (by simpa using hu) λh' st' sb=>?_;let I1:Inv X pins U H {s with heap:=h'}:=I.turned (t':=s.toks) (λb o hb e=>(sb.2 b hb).trans e) f0 f1 f3 f4 f5;let⟨o,e,c,d⟩:=id st';exact{u,rfl,tJ (s:={s with heap:=h'}) e c d ∅ {x,H,I1,ru,{rfl,λys hy=>by rw[I.sP hy hq];exact hx},st',λb hb=>(hf b hb).1}}
 done:=by
  intro X hP hw hK hc i pins s U H E I hf st hg;subst hP hw hK;let⟨xs,hq,hx⟩:=hg;let⟨its,rv,p,hz⟩:=I.tuple hq;let⟨f0,f1,f2,f3,f4,f5⟩:=hf it (by simp);let hl:=⇑rv;exact wpAny_pyNext_tuple_end (I.ok.hd hc) st (show s.heap.IsTuple a its.toArray from p) (by simp;ext) λh' eb=>{rfl,I.turned (t':=s.toks) (λb o hb e=>eb b o hb e) f0 f1 f3 f4 f5}
 self:=λ_ _ _ _ _ st h=>wpAny_pyIter_tupleiter st h
def Ci {P:wF} {w:wG} {K:yo} {tg:Expr} (it:wJ) (lo:Int) (n:Nat):Turn P w K tg (LZ lo n) [it] it (λi h=>IsRangeIter h it (lo+(i:Nat)*1) ((n:Int)-(i:Nat)) 1) where
 mem:=by simp
 obj:=λi h st b hb=>by
  let e:b=it:=by simpa using hb
  subst e;exact{_,st,λv z=>by
   let z':Data.fields _=Data.cell v:=z;cases z'}
 keep:=λi h h' st k=>k it (by simp) _ st
 item:=by
  intro X hP hw hK hc i pins s U H E I hf st hg;subst hP hw hK;let⟨f0,f1,f2,f3,f4,f5⟩:=hf it (by simp);let W:=Walks.range (prog:=X.prog) (w:=X.w) (I.ok.hd hc) it lo 1 n;refine W.item i s _ _ hg st λv h' tk hv st' kk=>?_;let⟨t,rfl⟩:=hv;let I1:Inv X pins U H {s with heap:=h',toks:=tk}:=I.turned (λb o hb e=>kk b o (by simpa using hb) e) f0 f1 f3 f4 f5;refine{_,rfl,tJ (s:={s with heap:=h',toks:=tk}) (n:="range_iterator") st' rfl rfl ∅ {.int (lo+i),H,I1,{t,?_},{(rfl),rfl},st',λb hb=>(hf b hb).1}};rw[Int.mul_one]
 done:=by
  intro X hP hw hK hc i pins s U H E I hf st hg;subst hP hw hK;let⟨f0,f1,f2,f3,f4,f5⟩:=hf it (by simp);exact wpAny_pyNext_range_end (I.ok.hd hc) st (by have:n<=i:=hg;ext) λh' eb=>{rfl,I.turned (t':=s.toks) (λb o hb e=>eb b o hb e) f0 f1 f3 f4 f5}
 self:=λ_ _ _ _ _ st h=>wpAny_pyIter_rangeiter st h
end L2
namespace L2
open PySem PySem.Spec PyProof.Rows
section
variable {X:Cx} {tg:Expr}
def Hh (K:yo) (tl:TE):TI:=λU H R=>tl U H λx H1=>∃a,x=.ref a/\(∃xs,aE K H1 a xs)/\R (Ih K a) H1
def OM (K:yo) (tl:TE):TI:=λU H R=>tl U H λx H1=>∃a,x=.ref a/\(∃xs,cQ K H1 a xs)/\R (Ke K a) H1
def cx {l:Expr} {tl:TE} (hl:PE X l tl):PI X tg l (Hh X.K tl):=by
 intro pins s U H R I h;refine bR (hl pins s U H _ I h) λv s1 zz=>?_;let⟨x,H1,I1,r1,q1⟩:=zz;let⟨a,e,⟨xs,hq⟩,q⟩:=q1;subst e;cases r1;let⟨its,rv,p,hz⟩:=I1.list hq;refine xZ p.isList ?_;refine{↑s1,[↑s1],_,_,H1,rfl,I1.kept (t':=s1.toks) λb o e=>yh _ e,EH a _,{_,yj _ rfl,rfl,rfl},λb hb=>?_,q};let e:b=↑s1:=by simpa using hb
 subst e;exact I1.vx (zh _) (I1.aP.fresh (zh _))
def kD {l:Expr} {tl:TE} (hl:PE X l tl):PI X tg l (OM X.K tl):=by
 intro pins s U H R I h;refine bR (hl pins s U H _ I h) λv s1 zz=>?_;let⟨x,H1,I1,r1,q1⟩:=zz;let⟨a,e,⟨xs,hq⟩,q⟩:=q1;subst e;cases r1;let⟨its,rv,p,hz⟩:=I1.tuple hq;refine wpAny_pyIter_tuple (show s1.heap.IsTuple a its.toArray from p) ?_;refine{↑s1,[↑s1],_,_,H1,rfl,I1.kept (t':=s1.toks) λb o e=>yh _ e,Cg a _,{_,yj _ rfl,rfl,rfl},λb hb=>?_,q};let e:b=↑s1:=by simpa using hb
 subst e;exact I1.vx (zh _) (I1.aP.fresh (zh _))
def GF {pins:List (wJ×Obj)} {U:St} {H:Hp} {s:wD} {R:It->Hp->Prop} {E:wC->wD->Prop} {lo hi:Int} {t u v:Tok} {tk:Nat} (I:Inv X pins U H s) (h1:-(2^62)<=lo) (h2:lo<2^62) (h3:-(2^62)<=hi) (h4:hi<2^62)
  (q:R (LZ lo (hi-lo).toNat) H):wpAny (model X.prog X.w) X.A (pyIter (.ref ↑s)) (Pb X pins U tg R) E {s with heap:=s.heap.push {cls:=.type "range",data:=.fields #[.int lo t,.int hi u,.int 1 v]},toks:=tk}:=by
 refine wpAny_pyIter_range (IsRange.new ..) (small_one h1 h2 h3 h4) ?_;let I1:Inv X pins U H {s with heap:=s.heap.push {cls:=.type "range",data:=.fields #[.int lo t,.int hi u,.int 1 v]},toks:=tk}:=I.kept λb o e=>yh _ e;refine{(s.heap.push {cls:=.type "range",data:=.fields #[.int lo t,.int hi u,.int 1 v]}).objs.size,[(s.heap.push {cls:=.type "range",data:=.fields #[.int lo t,.int hi u,.int 1 v]}).objs.size],_,_,H,rfl,
  I1.kept (t':=tk) λb o e=>yh _ e,Ci _ lo (hi-lo).toNat,?_,λb hb=>?_,q}
 ·let e1:lo+((0:Nat):Int)*1=lo:=by simp
  let e2:(((hi-lo).toNat:Nat):Int)-((0:Nat):Int)=Builtin.Range.rangeSize lo hi 1:=by rw[rangeSize_one];split <;> ext
  show IsRangeIter _ _ (lo+((0:Nat):Int)*1) ((((hi-lo).toNat:Nat):Int)-((0:Nat):Int)) 1;rw[e1,e2];exact yj _ rfl
 ·let e:b=(s.heap.push {cls:=.type "range",data:=.fields #[.int lo t,.int hi u,.int 1 v]}).objs.size:=by simpa using hb
  subst e;exact I1.vx (zh _) (I1.aP.fresh (zh _))
def Hg (ta:TA):TI:=λU H R=>ta U H λvs H1=>∃j:Int,vs=[.int j]/\-(2^62)<=j/\j<2^62/\R (LZ 0 j.toNat) H1
def jQ {a:Expr} {ta:TA} {p pos:Pos} (hg:Gl X "range") (hm:X.mg "range"= none) (ha:PA X [a] ta) (hs:starEach [a] X.env=[(false,eval a X.env)]<|>qe_):PI X tg (.Call (.Name "range" p) [a] [] pos) (Hg ta):=by
 intro pins s U H R I h;refine Call_ (jw I hg hm boot_range (yA (bR (ha pos pins s U H _ I h) λus s1 ⟨vs,H1,I1,r1,q1⟩=>?_) hs rfl));let⟨j,e,q1,q2,q⟩:=q1;subst e;cases r1 with
 | cons r rr=>
  cases rr;let⟨t,rfl⟩:=r;exact call_range_1 (GF I1 () () q1 q2 (by simpa using q))
def Ky (wi:TI) (g:TG) (tb:TS):TS:=λD U H=>wi U H λJ H1=>∃W:Nat->Nat->St->Hp->Prop,(∃m,W 0 m U H1)/\∀i m U H,W i m U H->
 (J.stop i H/\D.nx U H)\/(J.go i H/\∃N:St->Hp->Prop,(∀U' H',N U' H'->∃m',m'<m/\W (i+1) m' U' H')/\∀x H',J.F6 i H x H'->g x U H' λU2 H2=>tb {D with nx:=N,ct:=N,bk:=D.nx} U2 H2)
def mz (fp:List wJ) (h:wK):List (wJ×Obj):=fp.filterMap λb=>(h.get? b).map λo=>(b,o)
def dQ (hb:b∈fp) (e:h.get? b=some o):(b,o)∈mz fp h:=wy.mpr {b,hb,by rw[e];rfl}
def E7 (hp:p∈mz fp h):p.1∈fp/\h.get? p.1=some p.2:=by
 let⟨b,hb,e⟩:=wy.mp hp;cases q:h.get? b with
 | none=>rw[q] at e;cases e
 | some o=>
  rw[q] at e;let e':(b,o)=p:=z0 e;subst e';exact{(hb),q}
def Inv.pinned (I:Inv X pins U H s) (hf:∀b∈fp,sJ X pins H b) (ho:∀b∈fp,∃o,s.heap.get? b=some o/\∀v,o.data≠.cell v):Inv X (pins++mz fp s.heap) U H s:=
 I.jP λp hp=>(zB.mp hp).elim (λz=>I.pin p (zD _ z)) λz=>by
  let⟨hb,e⟩:=E7 z;let⟨f0,f1,f2,_⟩:=hf p.1 hb;let⟨o,e',d⟩:=ho p.1 hb;rw[e] at e';cases e';exact{(e),f0,f1,f2,d}
def Inv.oF (I:Inv X (pins++pl) U H s):Inv X pins U H s:=I.jP λp hp=>I.pin p (zD _ (zE _ hp))
def jj (hp:PassesOwn (model X.prog X.w) X.A X.env X.xe) (hc:X.calm=true) (hi:PI X tg iter wi) (hg:PG X tg g) (hb:sI X body tb)
  (hs:(∀x,foldedSetIterable iter X.env x=pure x)<|>qd_):PS X (.For tg iter body [] pos) (Ky wi g tb):=by
 intro pins s U H D I h;refine wpAny_For (bR (hi pins s U H _ I h) λv s1 h1=>bR h1 λitv s2 h2=>?_) hs;let⟨it,fp,tn,J,H2,e,I2,T,st2,f2,W,⟨m0,w0⟩,turn⟩:=h2;subst e;let stat:∀{H':Hp},(∀b∈fp,H' b=none)->∀b∈fp,sJ X pins H' b:=λhn b hb=>{hn b hb,(f2 b hb).2}
 refine codeAny_forLoop_any (λn s'=>∃i U' H',Inv X pins U' H' s'/\tn i s'.heap/\(∀b∈fp,H' b=none)/\W i n U' H') ?_ m0 {0,U,H2,I2,st2,λb hb=>(f2 b hb).1,w0};rintro n s3 ⟨i,U3,H3,I3,st3,fr3,w3⟩;rcases turn i n U3 H3 w3 with⟨stop,qn⟩ | ⟨go,N,hN,step⟩
 ·refine xw hp (bR (T.done X rfl rfl rfl hc i pins s3 U3 H3 X.xe I3 (stat fr3) st3 stop) λr s4 ⟨hr,I4⟩=>?_)
  subst hr;exact xP {U3,H3,I4,qn}
 ·refine xw hp (bR (T.item X rfl rfl rfl hc i pins s3 U3 H3 X.xe I3 (stat fr3) st3 go) λr s4 ⟨u,hr,h4⟩=>?_)
  subst hr;refine xw hp (bR h4 λ_ s5 zz=>?_);let⟨x,H5,I5,r5,y5,st5,fr5⟩:=zz;let I5':=I5.pinned (stat fr5) (T.obj _ _ st5);refine xw hp (bR (hg _ s5 U3 H5 x u _ I5' r5 (step x H5 y5)) λ_ s6 ⟨U6,H6,I6,q6⟩=>?_);refine xw hp (bR (hb _ s6 U6 H6 _ I6 q6) λf s7 q7=>?_);let again:∀{U7:St} {H7:Hp},Inv X (pins++mz fp s5.heap) U7 H7 s7->N U7 H7->∃m,m<n/\∃i U' H',Inv X pins U' H' s7/\tn i s7.heap/\(∀b∈fp,H' b=none)/\W i m U' H':=λ{U7 H7} I7 n7=>by
   let⟨m',hm,w7⟩:=hN U7 H7 n7;refine{m',hm,i+1,U7,H7,I7.oF,T.keep _ _ _ st5 λb hb o e=>(I7.pin (b,o) (zD _ (zD _ (dQ hb e)))).1,λb hb=>?_,w7};let⟨o,e,d⟩:=T.obj _ _ st5 b hb;exact(I7.pin (b,o) (zD _ (zD _ (dQ hb e)))).2.1
  cases f with
  | next=>let⟨U7,H7,I7,n7⟩:=q7;exact again I7 n7
  | cont=>let⟨U7,H7,I7,n7⟩:=q7;exact again I7 n7
  | brk=>let⟨U7,H7,I7,q7⟩:=q7;exact{U7,H7,I7.oF,q7}
  | ret v=>let⟨x7,U7,H7,I7,r7,q7⟩:=q7;exact{x7,U7,H7,I7.oF,r7,q7}
end
def lT {K:yo} {a:wJ} {xs:List V} {g:TG} {tb:TS} {D:Ends} {U:St} {H:Hp} (Pv:Nat->St->Hp->Prop) (h0:Pv 0 U H) (hl:∀i U H,i<=⇑xs->Pv i U H->aE K H a xs)
  (hs:∀i x U H,xs[i]?=some x->Pv i U H->g x U H λU2 H2=>tb {D with nx:=Pv (i+1),ct:=Pv (i+1),bk:=D.nx} U2 H2) (hd:∀U H,Pv ⇑xs U H->D.nx U H) :
  ∃W:Nat->Nat->St->Hp->Prop,(∃m,W 0 m U H)/\∀i m U H,W i m U H->
   ((Ih K a).stop i H/\D.nx U H)\/((Ih K a).go i H/\∃N:St->Hp->Prop,(∀U' H',N U' H'->∃m',m'<m/\W (i+1) m' U' H')/\∀x H',(Ih K a).F6 i H x H'->g x U H' λU2 H2=>tb {D with nx:=N,ct:=N,bk:=D.nx} U2 H2):=by
 refine{λi m U H=>m=⇑xs-i/\i<=⇑xs/\Pv i U H,{⇑xs,by simp,zW _,h0},?_};rintro i m U H ⟨rfl,hi,p⟩;let q:=hl i U H hi p
 by_cases hlt:i<⇑xs
 ·refine .inr {{xs,xs[i],q,by simp[hlt]},Pv (i+1),λU' H' p'=>{⇑xs-(i+1),(),rfl,hlt,p'},λx H' y=>?_}
  let⟨e,y⟩:=y;subst e;exact hs i x U _ (y xs q) p
 ·let e:i=⇑xs:=()
  subst e;exact .inl {{xs,q,zh _},hd U H p}
def Js {K:yo} {a:wJ} {xs:List V} {g:TG} {tb:TS} {D:Ends} {U:St} {H:Hp} (Pv:Nat->St->Hp->Prop) (h0:Pv 0 U H) (hl:∀i U H,i<=⇑xs->Pv i U H->cQ K H a xs)
  (hs:∀i x U H,xs[i]?=some x->Pv i U H->g x U H λU2 H2=>tb {D with nx:=Pv (i+1),ct:=Pv (i+1),bk:=D.nx} U2 H2) (hd:∀U H,Pv ⇑xs U H->D.nx U H) :
  ∃W:Nat->Nat->St->Hp->Prop,(∃m,W 0 m U H)/\∀i m U H,W i m U H->
   ((Ke K a).stop i H/\D.nx U H)\/((Ke K a).go i H/\∃N:St->Hp->Prop,(∀U' H',N U' H'->∃m',m'<m/\W (i+1) m' U' H')/\∀x H',(Ke K a).F6 i H x H'->g x U H' λU2 H2=>tb {D with nx:=N,ct:=N,bk:=D.nx} U2 H2):=by
 refine{λi m U H=>m=⇑xs-i/\i<=⇑xs/\Pv i U H,{⇑xs,by simp,zW _,h0},?_};rintro i m U H ⟨rfl,hi,p⟩;let q:=hl i U H hi p
 by_cases hlt:i<⇑xs
 ·refine .inr {{xs,xs[i],q,by simp[hlt]},Pv (i+1),λU' H' p'=>{⇑xs-(i+1),(),rfl,hlt,p'},λx H' y=>?_}
  let⟨e,y⟩:=y;subst e;exact hs i x U _ (y xs q) p
 ·let e:i=⇑xs:=()
  subst e;exact .inl {{xs,q,zh _},hd U H p}
end L2
namespace L2
open PySem PySem.Spec PyProof.Rows
abbrev R2:=V->V->Hp->VK->Prop
def mV (X:Cx) (f:wC->wC->Sem wC) (r:R2):Prop:=
 ∀(pins:List (wJ×Obj)) (s:wD) (U:St) (H:Hp) (x y:V) (v u:wC) (Q:VK),Inv X pins U H s->RelV x v->RelV y u->r x y H Q->
  wpAny (model X.prog X.w) X.A (f v u) (EP X pins U Q) X.xe s
def OX (X:Cx) (f:wC->Sem wC) (r:V->Hp->VK->Prop):Prop:=
 ∀(pins:List (wJ×Obj)) (s:wD) (U:St) (H:Hp) (x:V) (v:wC) (Q:VK),Inv X pins U H s->RelV x v->r x H Q->
  wpAny (model X.prog X.w) X.A (f v) (EP X pins U Q) X.xe s
def b9 (X:Cx) (f:wC) (r:List V->Hp->VK->Prop):Prop:=
 ∀(pins:List (wJ×Obj)) (s:wD) (U:St) (H:Hp) (xs:List V) (us:List wC) (Q:VK),Inv X pins U H s->Vals xs us->r xs H Q->
  wpAny (model X.prog X.w) X.A (call f us) (EP X pins U Q) X.xe s
def kX (r:R2) (ta tb:TE):TE:=λU H Q=>ta U H λx H1=>tb U H1 λy H2=>r x y H2 Q
def Pn (r:V->Hp->VK->Prop) (ta:TE):TE:=λU H Q=>ta U H λx H1=>r x H1 Q
def rI (C:Int->Int->Prop) (g:Int->Int->V):R2:=λx y H Q=>∃i j,x=.int i/\y=.int j/\C i j/\Q (g i j) H
def FQ (g:Int->Int->V):R2:=λx y H Q=>∃i j,x=.int i/\y=.int j/\Q (g i j) H
def rU (g:Int->V):V->Hp->VK->Prop:=λx H Q=>∃i,x=.int i/\Q (g i) H
section
variable {X:Cx} {a b c:Expr} {ta tb tc:TE} {pos:Pos}
def LH (ha:PE X a ta) (hb:PE X b tb) {pins:List (wJ×Obj)} {s:wD} {U:St} {H:Hp} {R:V->V->Hp->Prop} (I:Inv X pins U H s)
  (h:ta U H λx H1=>tb U H1 λy H2=>R x y H2) {Q:wC->wD->Prop} {f:wC->wC->Sem wC}
  (hf:∀v u s2 x y H2,Inv X pins U H2 s2->RelV x v->RelV y u->R x y H2->wpAny (model X.prog X.w) X.A (f v u) Q X.xe s2) :
  wpAny (model X.prog X.w) X.A (eval a X.env) (λv s₁=>wpAny (model X.prog X.w) X.A (eval b X.env) (λu s₂=>wpAny (model X.prog X.w) X.A (f v u) Q X.xe s₂) X.xe s₁) X.xe s:=by
 refine bR (ha pins s U H _ I h) λv s1 zz=>?_;let⟨x,H1,I1,r1,q1⟩:=zz;refine bR (hb pins s1 U H1 _ I1 q1) λu s2 zz=>?_;let⟨y,H2,I2,r2,q2⟩:=zz;exact hf v u s2 x y H2 I2 r1 r2 q2
def ay {op:Operator} {r:R2} (ho:mV X (binaryOp op) r) (ha:PE X a ta) (hb:PE X b tb):PE X (.BinOp a op b pos) (kX r ta tb):=by
 intro pins s U H Q I h;exact wpAny_BinOp (LH ha hb I h λv u s2 x y H2 I2 rx ry q=>ho pins s2 U H2 x y v u Q I2 rx ry q)
def sV (ho:OX X (unaryOp op) r) (ha:PE X a ta):PE X (.UnaryOp op a pos) (Pn r ta):=by
 intro pins s U H Q I h;exact UnaryOp_ (bR (ha pins s U H _ I h) λv s1 ⟨x,H1,I1,r1,q1⟩=>ho pins s1 U H1 x v Q I1 r1 q1)
def MN {f:wC->wC->Sem wC} {C:Int->Int->Prop} {g:Int->Int->Int}
  (rule:∀(i j:Int) (t u:Tok) (s:wD) (Q:wC->wD->Prop) (E:wC->wD->Prop),C i j->Q (.int (g i j) s.toks) {s with toks:=s.toks+1}->wpAny (model X.prog X.w) X.A (f (.int i t) (.int j u)) Q E s) :
  mV X f (rI C λi j=>.int (g i j)):=by
 intro pins s U H x y v u Q I rx ry h;let⟨i,j,rfl,rfl,hc,q⟩:=h;let⟨t,rfl⟩:=rx;let⟨t',rfl⟩:=ry;exact rule i j t t' s _ _ hc {.int (g i j),H,I.tok _,{_,rfl},q}
def MM {f:wC->wC->Sem wC} {g:Int->Int->Int}
  (rule:∀(i j:Int) (t u:Tok) (s:wD) (Q:wC->wD->Prop) (E:wC->wD->Prop),Q (.int (g i j) s.toks) {s with toks:=s.toks+1}->wpAny (model X.prog X.w) X.A (f (.int i t) (.int j u)) Q E s) :
  mV X f (FQ λi j=>.int (g i j)):=by
 intro pins s U H x y v u Q I rx ry h;let⟨i,j,rfl,rfl,q⟩:=h;let⟨t,rfl⟩:=rx;let⟨t',rfl⟩:=ry;exact rule i j t t' s _ _ {.int (g i j),H,I.tok _,{_,rfl},q}
def Jc {f:wC->wC->Sem wC} {g:Int->Int->Bool}
  (rule:∀(i j:Int) (t u:Tok) (s:wD) (Q:wC->wD->Prop) (E:wC->wD->Prop),Q (.bool (g i j)) s->wpAny (model X.prog X.w) X.A (f (.int i t) (.int j u)) Q E s) :
  mV X f (FQ λi j=>.bl (g i j)):=by
 intro pins s U H x y v u Q I rx ry h;let⟨i,j,rfl,rfl,q⟩:=h;let⟨t,rfl⟩:=rx;let⟨t',rfl⟩:=ry;exact rule i j t t' s _ _ {.bl (g i j),H,I,rfl,q}
def O2 (i j:Int):Prop:=0<j/\j<1073741824
def LS (i j:Int):Prop:=(-(2^64)<i/\i<2^64)\/(-(2^64)<j/\j<2^64)
def LS.ok (h:LS i j):IntMulOk i j:=by
 rcases h with⟨h1,h2⟩ | ⟨h1,h2⟩
 ·exact .of_left (intBits_le_64 h1 h2)
 ·exact .of_right (intBits_le_64 h1 h2)
def gD:mV X (binaryOp .Add) (FQ λi j=>.int (i+j)):=MM λ_ _ _ _ _ _ _ q=>add_int q
def mE:mV X (binaryOp .Sub) (FQ λi j=>.int (i-j)):=MM λ_ _ _ _ _ _ _ q=>sub_int q
def ig:mV X (binaryOp .Mult) (rI LS λi j=>.int (i*j)):=MN λ_ _ _ _ _ _ _ hc q=>mul_int q hc.ok
def eZ:mV X (binaryOp .FloorDiv) (rI O2 λi j=>.int (i/j)):=MN λi j _ _ _ _ _ hc q=>by
 let h1:(0:Int)<j:=hc.1;let h2:j<1073741824:=hc.2;exact floordiv_int () (by rw[wz i ()];exact q) (.inl (PyProof.noPylong_small ()))
def bS:mV X (binaryOp .Mod) (rI (λ_ j=>0<j) λi j=>.int (i%j)):=MN λi j _ _ _ _ _ hc q=>by
 let h1:(0:Int)<j:=hc;exact mod_int' () (by rw[Int.fmod_eq_emod_of_nonneg i ()];exact q)
def Pk {f:wC->Sem wC} {g:Int->Int}
  (rule:∀(i:Int) (t:Tok) (s:wD) (Q:wC->wD->Prop) (E:wC->wD->Prop),Q (.int (g i) s.toks) {s with toks:=s.toks+1}->wpAny (model X.prog X.w) X.A (f (.int i t)) Q E s) :
  OX X f (rU λi=>.int (g i)):=by
 intro pins s U H x v Q I rx h;let⟨i,rfl,q⟩:=h;let⟨t,rfl⟩:=rx;exact rule i t s _ _ {.int (g i),H,I.tok _,{_,rfl},q}
def md:OX X (unaryOp .USub) (rU λi=>.int (-i)):=Pk λ_ _ _ _ _ q=>neg_int q
end
def IH:V->V->Bool
 | .aO,.aO=>true | .aO,.int _=>true | .int _,.aO=>true | .aO,.bl _=>true | .bl _,.aO=>true | .aO,.str _=>true | .str _,.aO=>true
 | .int _,.int _=>true | .bl _,.bl _=>true | .str _,.str _=>true | .Es _,.Es _=>true
 | .int _,.str _=>true | .str _,.int _=>true | .bl _,.str _=>true | .str _,.bl _=>true
 | _,_=>false
def OD:R2:=λx y H Q=>IH x y=true/\Q (.bl (decide (x=y))) H
def OA:R2:=λx y H Q=>IH x y=true/\Q (.bl (!decide (x=y))) H
def vE:decide (V.int i=V.int j)=(i == j):=by
 rw[xm];simp
def HI:decide (V.bl i=V.bl j)=(i == j):=by
 rw[xm];simp
def vC:decide (V.str i=V.str j)=(i == j):=by
 rw[xm];simp
def Ej:decide (V.Es i=V.Es j)=(i.toList == j.toList):=by
 rw[xm];cases i;cases j;simp
section
variable {X:Cx} {a b c:Expr} {ta tb tc:TE} {pos:Pos}
def bc (I:Inv X pins U H s) (q:Q (.bl k) H) (e:k=k'):EP X pins U Q (.bool k') s:=by
 subst e;exact{.bl k,H,I,rfl,q}
def aW:mV X (compareOp .Eq) OD:=by
 intro pins s U H x y v u Q I rx ry h;let⟨hs,q⟩:=h;cases x with
 | aO=>
  cases rx;cases y with
  | aO=>cases ry;exact PySem.EqNone.eq_none_none (bc I q (by simp))
  | bl j=>cases ry;exact PySem.EqNone.eq_none_bool (bc I q (by simp))
  | int j=>let⟨t',rfl⟩:=ry;exact PySem.EqNone.eq_none_int (bc I q (by simp))
  | str j=>let⟨t',rfl⟩:=ry;exact PySem.EqNone.eq_none_str (bc I q (by simp))
  | _=>exact absurd (show false=true from hs) zG
 | bl i=>
  cases rx;cases y with
  | aO=>cases ry;exact PySem.EqNone.eq_bool_none (bc I q (by simp))
  | bl j=>cases ry;exact eq_bool (bc I q HI)
  | str j=>let⟨t',rfl⟩:=ry;exact PySem.EqMixed.eq_bool_str (bc I q (by simp))
  | _=>exact absurd (show false=true from hs) zG
 | int i=>
  let⟨t,rfl⟩:=rx;cases y with
  | aO=>cases ry;exact PySem.EqNone.eq_int_none (bc I q (by simp))
  | int j=>let⟨t',rfl⟩:=ry;exact eq_int (bc I q vE)
  | str j=>let⟨t',rfl⟩:=ry;exact PySem.EqMixed.eq_int_str (bc I q (by simp))
  | _=>exact absurd (show false=true from hs) zG
 | str i=>
  let⟨t,rfl⟩:=rx;cases y with
  | aO=>cases ry;exact PySem.EqNone.eq_str_none (bc I q (by simp))
  | bl j=>cases ry;exact PySem.EqMixed.eq_str_bool (bc I q (by simp))
  | int j=>let⟨t',rfl⟩:=ry;exact PySem.EqMixed.eq_str_int (bc I q (by simp))
  | str j=>let⟨t',rfl⟩:=ry;exact eq_str (bc I q vC)
  | _=>exact absurd (show false=true from hs) zG
 | Es i=>
  let⟨t,rfl⟩:=rx;cases y with
  | Es j=>let⟨t',rfl⟩:=ry;exact PySem.W.eq_bytes (bc I q Ej)
  | _=>exact absurd (show false=true from hs) zG
 | _=>cases y <;> exact absurd (show false=true from hs) zG
def fO:mV X (compareOp .NotEq) OA:=by
 intro pins s U H x y v u Q I rx ry h;let⟨hs,q⟩:=h;cases x with
 | aO=>
  cases rx;cases y with
  | aO=>cases ry;exact PySem.EqNone.ne_none_none (bc I q (by simp))
  | bl j=>cases ry;exact PySem.EqNone.ne_none_bool (bc I q (by simp))
  | int j=>let⟨t',rfl⟩:=ry;exact PySem.EqNone.ne_none_int (bc I q (by simp))
  | str j=>let⟨t',rfl⟩:=ry;exact PySem.EqNone.ne_none_str (bc I q (by simp))
  | _=>exact absurd (show false=true from hs) zG
 | bl i=>
  cases rx;cases y with
  | aO=>cases ry;exact PySem.EqNone.ne_bool_none (bc I q (by simp))
  | bl j=>cases ry;exact ne_bool (bc I q (yN not HI))
  | str j=>let⟨t',rfl⟩:=ry;exact PySem.EqMixed.ne_bool_str (bc I q (by simp))
  | _=>exact absurd (show false=true from hs) zG
 | int i=>
  let⟨t,rfl⟩:=rx;cases y with
  | aO=>cases ry;exact PySem.EqNone.ne_int_none (bc I q (by simp))
  | int j=>let⟨t',rfl⟩:=ry;exact ne_int (bc I q (yN not vE))
  | str j=>let⟨t',rfl⟩:=ry;exact PySem.EqMixed.ne_int_str (bc I q (by simp))
  | _=>exact absurd (show false=true from hs) zG
 | str i=>
  let⟨t,rfl⟩:=rx;cases y with
  | aO=>cases ry;exact PySem.EqNone.ne_str_none (bc I q (by simp))
  | bl j=>cases ry;exact PySem.EqMixed.ne_str_bool (bc I q (by simp))
  | int j=>let⟨t',rfl⟩:=ry;exact PySem.EqMixed.ne_str_int (bc I q (by simp))
  | str j=>let⟨t',rfl⟩:=ry;exact ne_str (bc I q (yN not vC))
  | _=>exact absurd (show false=true from hs) zG
 | Es i=>
  let⟨t,rfl⟩:=rx;cases y with
  | Es j=>let⟨t',rfl⟩:=ry;exact PySem.W.ne_bytes (bc I q (yN not Ej))
  | _=>exact absurd (show false=true from hs) zG
 | _=>cases y <;> exact absurd (show false=true from hs) zG
def gN:mV X (compareOp .Lt) (FQ λi j=>.bl (decide (i<j))):=Jc λ_ _ _ _ _ _ _ q=>lt_int q
def lJ:mV X (compareOp .LtE) (FQ λi j=>.bl (decide (i<=j))):=Jc λ_ _ _ _ _ _ _ q=>le_int q
def iQ:mV X (compareOp .Gt) (FQ λi j=>.bl (decide (j<i))):=Jc λ_ _ _ _ _ _ _ q=>gt_int q
def AO:mV X (compareOp .GtE) (FQ λi j=>.bl (decide (j<=i))):=Jc λ_ _ _ _ _ _ _ q=>ge_int q
def sZ:mV X (compareOp .In) (λx y H Q=>∃i j,x=.str i/\y=.str j/\Q (.bl (!(Builtin.Str.occurrences j i 0 ⇑j 1).isEmpty)) H):=by
 intro pins s U H x y v u Q I rx ry h;let⟨i,j,rfl,rfl,q⟩:=h;let⟨t,rfl⟩:=rx;let⟨t',rfl⟩:=ry;exact in_str (bc I q rfl)
def cT (b:Expr) (h:op≠.In<|>qb_) (h2:op≠.NotIn<|>qb_):behindInMarks op b=false:=by
 let e1:(op == CmpOp.In)=false:=by cases op <;> first | rfl | exact absurd rfl h
 let e2:(op == CmpOp.NotIn)=false:=by cases op <;> first | rfl | exact absurd rfl h2
 cases b <;> simp[behindInMarks,e1,e2]
def bG (ho:mV X (compareOp op) r) (ha:PE X a ta) (hb:PE X b tb) (hm:behindInMarks op b=false):PE X (.Compare a [op] [b] pos) (kX r ta tb):=by
 intro pins s U H Q I h;exact wpAny_Compare1 (LH ha hb I h λv u s2 x y H2 I2 rx ry q=>ho pins s2 U H2 x y v u Q I2 rx ry q) hm
def Ad (t:TE):TT:=λU H Q=>t U H λx H'=>∃k,x=.bl k/\Q k H'
def jO (ho:mV X (compareOp op) r) (ha:PE X a ta) (hb:PE X b tb) (hm:behindInMarks op b=false):PT X (.Compare a [op] [b] pos) (Ad (kX r ta tb)):=by
 intro pins s U H Q I h;refine wpAny_isTrue_Compare1 (bR (ha pins s U H _ I h) λv s1 ⟨x,H1,I1,r1,q1⟩=>bR (hb pins s1 U H1 _ I1 q1) λu s2 ⟨y,H2,I2,r2,q2⟩=>
  bR (ho pins s2 U H2 x y v u _ I2 r1 r2 q2) λc s3 ⟨z,H3,I3,r3,k,e,q3⟩=>?_) hm
 subst e;cases r3;exact yT {(H3),I3,q3}
def pW:(sizeLine:Nat)<2^63:=by rw[yp];decide
def aB:mV X (binaryOp .Add) (λx y H Q=>∃i j,x=.str i/\y=.str j/\⇑i+⇑j<=sizeLine/\Q (.str (i++j)) H):=by
 intro pins s U H x y v u Q I rx ry h;let⟨i,j,rfl,rfl,hz,q⟩:=h;let⟨t,rfl⟩:=rx;let⟨t',rfl⟩:=ry;exact add_str (λt' tk=>{.str (i++j),H,I.tok _,{_,rfl},q}) hz
def vals1 (r:Vals [x] us):∃u,us=[u]/\RelV x u:=by
 cases r with
 | cons r1 r2=>cases r2;exact{_,rfl,r1}
def BK:b9 X (.builtin "abs") (λxs H Q=>∃i,xs=[.int i]/\Q (.int (if i<0 then -i else i)) H):=by
 intro pins s U H xs us Q I r h;let⟨i,rfl,q⟩:=h;let⟨u,rfl,t,rfl⟩:=vals1 r;exact call_abs_int λu tk=>{.int (if i<0 then -i else i),H,I.tok _,{_,rfl},q}
def FC:b9 X (.type "int") (λxs H Q=>(∃i,xs=[.int i]/\Q (.int i) H)\/∃k,xs=[.bl k]/\Q (.int (if k then 1 else 0)) H):=by
 intro pins s U H xs us Q I r h;rcases h with⟨i,rfl,q⟩ | ⟨k,rfl,q⟩
 ·let⟨u,rfl,t,rfl⟩:=vals1 r
  exact call_int_int {.int i,H,I,{_,rfl},q}
 ·let⟨u,rfl,r1⟩:=vals1 r
  cases r1;exact call_int_bool {.int (if k then 1 else 0),H,I.tok _,{_,rfl},q}
def bL:b9 X (.type "str") (λxs H Q=>∃i,xs=[.int i]/\i.natAbs.log2<1920/\Q (.str (toString i)) H):=by
 intro pins s U H xs us Q I r h;let⟨i,rfl,hz,q⟩:=h;let⟨u,rfl,t,rfl⟩:=vals1 r;exact PySem.P.str_of_int hz {.str _,H,I.tok _,{_,rfl},q}
end
end L2
namespace L2
open PySem PySem.Spec PyProof.Rows
structure FL (h:wK) (x dx C:wJ) (mA:Str->Option wC):Prop where
 obj:h.get? x=some (PySem.W.instObj C dx)
 ns:h.Ns1 dx mA
 ne:dx≠x
def mI {h:wK} {dx:wJ} {mA:Str->Option wC} (n:h.Ns1 dx mA):∃od,h.get? dx=some od/\∀name,PySem.W.lookIn name od=some (mA name):=by
 let⟨o,es,ep,ho,hd,hk,_,hm⟩:=n;refine{o,ho,λname=>?_};let e:=hm name;unfold nsFind findBy at e;rw[<-Array.find?_toList] at e;unfold PySem.W.lookIn;rw[hd];dsimp only;split
 ·rename_i y q
  rw[q] at e;exact yN some e
 ·rename_i q
  rw[q] at e;let a:es.toList.any (·.refKey)=false:=by
   rw[List.any_eq_false];intro y hy;let⟨z,t,hkey⟩:=hk y (Array.mem_toList_iff.mp hy);simp[DictEntry.refKey,hkey]
  let a':¬es.toList.any (·.refKey)=true:=by rw[a];exact zG
  rw[yB a'];exact yN some e
def FL.look (I:FL h x dx C mA):∃od,PySem.W.InstAt h x (PySem.W.instObj C dx) C (some od)/\∀name,PySem.W.lookIn name od=some (mA name):=
 let ⟨od,ho,hl⟩:=mI I.ns
 {od,{(I.obj),rfl,rfl,ho},hl}
section
variable {prog:wF} {w:wG} {A:wH} {E:wC->wD->Prop} {s:wD} {K:yo} {x dx C f:wJ} {mA:Str->Option wC} {name:Str} {v:wC}
def get_map (X:K.In s.heap) (I:FL s.heap x dx C mA) (hg:PySem.W.plainGet K C name=true) (hh:PySem.W.hasDictIn K C=true)
  (ha:PySem.W.findIn K (.ref C) name=some none) (hv:mA name=some v) (hv':PySem.W.handedIn v=true) (h:Q v {s with toks:=s.toks+1}) :
  wpAny (model prog w) A (getAttr (.ref x) name expr) Q E s:=by
 let⟨od,J,hl⟩:=I.look;exact PySem.W.get_value X J (PySem.W.plainGet_of hg).1 (PySem.W.findObj_own hh ha rfl (by rw[hl,hv])) hv' h
def IG (X:K.In s.heap) (I:FL s.heap x dx C mA)
  (hs:PySem.W.findIn K (.ref C) "__setattr__"= some (some (.builtin "object.__setattr__"))) (hp:PySem.W.plainOver K C=true) (ht:PySem.W.takerIn K C name=some none) (hh:PySem.W.hasDictIn K C=true)
  (hw:PySem.Within mA ns) (hsz:⇑ns<=sizeLine)
  (h:∀h',FL h' x dx C (λy=>if y=name then some v else mA y)->Heap.SameBut dx s.heap h'->Q .unit {s with heap:=h',toks:=s.toks+2}) :
  wpAny (model prog w) A (setAttr (.ref x) name v) Q E s:=by
 let⟨od,J,hl⟩:=I.look;refine PySem.W.set_plain X J hs (PySem.W.osa_open (s:={s with toks:=s.toks+1}) (r:=none) X J hp ht λb=>?_);let⟨cd,hc,hd'⟩:=PySem.W.any_some hh;let hx:s.heap.get? x=some ⟨.ref C,some dx,.plain,#[]⟩:=I.obj;refine yg (yi (yg (yg (wpAny_loadPart hx (yg (PySem.W.Looks.here (s:={s with toks:=s.toks+1}) (PySem.W.looks_clsIn X hc) ?_))))));rw[hd'];refine yi (a:=some dx) (yg (yi (yg ?_)));refine wpAny_nsSet1 (s:={s with toks:=s.toks+1}) I.ns λh' hn2 hs2=>?_;let⟨oD,esD,epD,hoD,hdD,hcD⟩:=hn2.count (PySem.Within.cons name v hw);refine yg (wpAny_lookBehind hoD (by rw[hdD];exact pastItsLine_dict (zH hcD (by rw[zo];ext))) ?_);exact yi (h _ {(hs2.2 _ (Ne.symm I.ne)).trans I.obj,hn2,I.ne} hs2)
def G4 (X:K.In s.heap) (hm:PySem.W.makesIn K C=true)
  (hi:PySem.W.findIn K (.ref C) "__init__"= some (some (.ref f))) (hf:PySem.W.typeIn K (.ref f)=some (.type "function"))
  (h:codeAny (model prog w) (A.under (.builtin "type.__call__" {.ref C::vs,kw})) (.call (.ref f) {.ref (↑s+1)::vs,kw}) (PySem.W.InitBack (↑s+1) R)
   {s with heap:=(s.heap.push PySem.W.emptyDict).push (PySem.W.instObj C ↑s)}) :
  codeAny (model prog w) A (.call (.ref C) {(vs),kw}) R s:=by
 let⟨hh,g,d,t,os⟩:=s;exact PySem.W.make_core (PySem.W.makes_of X hm) (PySem.W.looks_findIn X hi) (λself=>PySem.W.bind_fn X self hf) (.inl rfl) h
end
def aC (f:Str) (v:V):List (Str×V)->List (Str×V)
 | []=>[(f,v)]
 | (g,x)::r=>if g=f then(g,v)::r else(g,x)::aC f v r
theorem jv (f g:Str) (v:V):∀fs:List (Str×V),(aC f v fs).lookup g=if g=f then some v else fs.lookup g
 | []=>by
  show List.lookup g [(f,v)]=_
  by_cases h:g=f
  ·let hb:(g == f)=true:=wt.mpr h
   simp only[List.lookup,hb,yC h]
  ·let hb:(g == f)=false:=xc.mpr h
   simp only[List.lookup,hb,yB h]
 | (k,x)::r=>by
  let ih:=jv f g v r;rw[show aC f v ((k,x)::r)=(if k=f then(k,v)::r else(k,x)::aC f v r) from rfl]
  by_cases hk:k=f
  ·rw[yC hk]
   by_cases h:g=k
   ·let hb:(g == k)=true:=wt.mpr h
    simp only[List.lookup,hb,yC (h.trans hk)]
   ·let hb:(g == k)=false:=xc.mpr h
    simp only[List.lookup,hb,yB (λe:g=f=>h (e.trans hk.symm))]
  ·rw[yB hk]
   by_cases h:g=k
   ·let hb:(g == k)=true:=wt.mpr h
    simp only[List.lookup,hb,yB (λe:g=f=>hk (h.symm.trans e))]
   ·let hb:(g == k)=false:=xc.mpr h
    simp only[List.lookup,hb];exact ih
theorem mJ (f:Str) (v:V):∀fs:List (Str×V),f∈(aC f v fs).map (·.1)/\∀g,g∈fs.map (·.1)->g∈(aC f v fs).map (·.1)
 | []=>{by simp[aC],λg h=>by simp at h}
 | (k,x)::r=>by
  let⟨i1,i2⟩:=mJ f v r;rw[show aC f v ((k,x)::r)=(if k=f then(k,v)::r else(k,x)::aC f v r) from rfl]
  by_cases hk:k=f
  ·rw[yC hk]
   subst hk;exact{by simp,λg h=>by simpa using h}
  ·rw[yB hk]
   refine{?_,λg h=>?_}
   ·rw[zf]
    exact zj _ i1
   ·rw[zf] at h ⊢
    rcases zw.mp h with e | e
    ·exact zw.mpr (.inl e)
    ·exact zj _ (i2 g e)
theorem ni (f:Str) (v:V):∀fs:List (Str×V),⇑(aC f v fs)<=⇑fs+1
 | []=>by simp[aC]
 | (k,x)::r=>by
  let ih:=ni f v r;rw[show aC f v ((k,x)::r)=(if k=f then(k,v)::r else(k,x)::aC f v r) from rfl]
  by_cases hk:k=f
  ·rw[yC hk,zo,zo];ext
  ·rw[yB hk,zo,zo];ext
def dm.some_of (r:dm (some v) o):∃u,o=some u/\RelV v u:=by
 cases o with
 | none=>exact(show False from r).elim
 | some u=>exact{(u),rfl,r}
def dm.none_of {o:Option wC} (r:dm none o):o=none:=by
 cases o with
 | none=>rfl
 | some u=>exact(show False from r).elim
def tI (r:RelV v u):PySem.W.handedIn u=true:=by
 cases v with
 | aO=>cases(show u=Value.none from r);rfl
 | bl b=>cases(show u=Value.bool b from r);rfl
 | int i=>let⟨t,e⟩:=(show∃t,u=Value.int i t from r);cases e;rfl
 | str x=>let⟨t,e⟩:=(show∃t,u=Value.str x t from r);cases e;rfl
 | Es b=>let⟨t,e⟩:=(show∃t,u=Value.bytes b t from r);cases e;rfl
 | Jt b=>let⟨t,e⟩:=(show∃t,u=Value.float b t from r);cases e;rfl
 | ref a=>cases(show u=Value.ref a from r);rfl
 | ty n=>cases(show u=Value.type n from r);rfl
section
variable {P:wF} {w:wG} {H H':Hp} {h h':wK} {a C dx:wJ} {fs fs':List (Str×V)}
def vp (aP:j2 P w H h) (e:H a=some (.ins C dx fs)):∃mA,FL h a dx C mA/\(∀f,dm (fs.lookup f) (mA f))/\PySem.Within mA (fs.map (·.1))/\⇑fs<=1000/\H dx=some (.own a):=by
 let⟨d,z,ne,ob,mA,n,r,q⟩:=(show aT P w H h a (.ins C dx fs) from aP a _ e)
 exact{mA,{(ob),n,ne},r,q,z,d}
end
structure JQ (K:yo) (C:wJ):Prop where
 pg:PySem.W.plainGet K C Str.empty=true
 hd:PySem.W.hasDictIn K C=true
 po:PySem.W.plainOver K C=true
 sa:PySem.W.findIn K (.ref C) "__setattr__"= some (some (.builtin "object.__setattr__"))
def JQ.get {K:yo} {C:wJ} (c:JQ K C) (f:Str):PySem.W.plainGet K C f=true:=c.pg
def bT (K:yo) (C:wJ) (f:Str):Prop:=PySem.W.findIn K (.ref C) f=some none
def bT.Mh {K:yo} {C:wJ} {f:Str} (n:bT K C f):PySem.W.takerIn K C f=some none:=by
 unfold PySem.W.takerIn;rw[show PySem.W.findIn K (.ref C) f=some none from n];rfl
section
variable {X:Cx} {pins:List (wJ×Obj)} {U:St} {H:Hp} {s:wD} {a C dx:wJ} {fs:List (Str×V)} {f:Str} {v:V} {A:wH} {E:wC->wD->Prop}
def C1 (I:Inv X pins U H s) (e:H a=some (.ins C dx fs)) (c:JQ X.K C) (n:bT X.K C f) (l:fs.lookup f=some v)
  (h:∀u s',Inv X pins U H s'->RelV v u->Q u s'):wpAny (model X.prog X.w) A (getAttr (.ref a) f b) Q E s:=by
 let⟨mA,O,r,_,_,_⟩:=vp I.aP e;let⟨u,hu,ru⟩:=dm.some_of (v:=v) (o:=mA f) (by rw[<-l];exact r f);exact get_map I.gL O (c.get f) c.hd n hu (tI ru) (h u _ (I.tok _) ru)
def Cr (I:Inv X pins U H s) (e:H a=some (.ins C dx fs)) (c:JQ X.K C) (n:bT X.K C f) (hl:⇑fs<1000) (ry:RelV y u)
  (h:∀s',Inv X pins U (upd H a (.ins C dx (aC f y fs))) s'->Q .unit s'):wpAny (model X.prog X.w) A (setAttr (.ref a) f u) Q E s:=by
 let⟨mA,O,r,wi,_,ho⟩:=vp I.aP e;let hz:⇑(fs.map (·.1))<=sizeLine:=by rw[za,yp];ext
 refine IG I.gL O c.sa c.po n.Mh c.hd wi hz λh' O' sb=>h _ ?_;let hd:∃o,h'.get? dx=some o:=let ⟨o,_,_,e',_⟩:=O'.ns;{(o),e'};refine I.write (x:=a) (e:=dx) (by rw[e];exact True.intro) (.inr ho) (λb q hb z=>(sb.2 b hb).trans z) hd ?_;refine{by rw[aq O.ne];exact ho,?_,O.ne,O'.obj,_,O'.ns,λg=>?_,λg hg=>?_}
 ·have:=ni f y fs;ext
 ·show dm ((aC f y fs).lookup g) (if g=f then some u else mA g)
  rw[jv]
  by_cases q:g=f
  ·rw[yC q,yC q];exact ry
  ·rw[yB q,yB q];exact r g
 ·by_cases q:g=f
  ·rw[q];exact(mJ f y fs).1
  ·refine(mJ f y fs).2 g (wi g λz=>hg ?_)
   show(if g=f then some u else mA g)=none;rw[yB q];exact z
def Inv.made (I:Inv X pins U H s):Inv X pins U (upd (upd H ↑s (.own (↑s+1))) (↑s+1) (.ins C ↑s []))
  {s with heap:=(s.heap.push PySem.W.emptyDict).push (PySem.W.instObj C ↑s)}:=by
 let e1:(s.heap.push PySem.W.emptyDict).get? ↑s=some PySem.W.emptyDict:=yj s.heap rfl;let e2:((s.heap.push PySem.W.emptyDict).push (PySem.W.instObj C ↑s)).get? (↑s+1)=some (PySem.W.instObj C ↑s):=by
  have:=yj (s.heap.push PySem.W.emptyDict) (o:=PySem.W.instObj C ↑s) rfl
  rwa [yW] at this
 let e3:(s.heap.push PySem.W.emptyDict).Ns ↑s (λ_=>none):={PySem.W.emptyDict,#[],_,e1,rfl,(λe he=>absurd he (by simp)),λ_=>rfl}
 let I1:=I.laid (a:=↑s) (o:=.own (↑s+1)) (h':=s.heap.push PySem.W.emptyDict) (t':=s.toks) (λb u q=>yh _ q) (zh _) {_,e1};refine I1.laid (a:=↑s+1) (o:=.ins C ↑s []) (t':=s.toks) (λb u q=>yh _ q) (Nat.le_of_eq (yW _ _)) ?_;let ne:↑s≠↑s+1:=zZ (xp _);refine{by rw[aq ne,az],zW _,ne,e2,λ_=>none,(Heap.Ns1.of_empty e3).at λo q=>yh _ q,λ_=>True.intro,λy hy=>absurd rfl hy}
def Et (hb:attributeBase e f env (eval e env)=eval e env)
  (h:wpAny (model prog w) A (eval e env) (λo s₁=>wpAny (model prog w) A (getAttr o f true) Q E s₁) E s):wpAny (model prog w) A (eval (.Attribute e f pos) env) Q E s:=
 Attribute_any_ h (by rw[arm_eval_Attribute,hb])
end
def IC (K:yo) (ta:TE) (f:Str):TE:=λU H Q=>ta U H λx H1=>∃a C dx fs v,x=.ref a/\H1 a=some (.ins C dx fs)/\JQ K C/\bT K C f/\fs.lookup f=some v/\Q v H1
def Oi (K:yo) (ta tv:TE) (f:Str):TS:=λD U H=>tv U H λy H1=>ta U H1 λx H2=>∃a C dx fs,x=.ref a/\H2 a=some (.ins C dx fs)/\JQ K C/\bT K C f/\⇑fs<1000/\
 D.nx U (upd H2 a (.ins C dx (aC f y fs)))
section
variable {X:Cx} {o e value:Expr} {f:Str} {pos pos' tpos:Pos} {ta tv:TE}
def aL (he:PE X e ta) (hb:attributeBase e f X.env (eval e X.env)=eval e X.env):PE X (.Attribute e f pos) (IC X.K ta f):=by
 intro pins s U H Q I h;refine Et hb (bR (he pins s U H _ I h) λu s1 zz=>?_);let⟨x,H1,I1,rx,a,C,dx,fs,v,ex,ea,c,n,l,q⟩:=zz;subst ex;obtain rfl:u=Value.ref a:=rx;exact C1 I1 ea c n l λu' s2 I2 ru=>{(v),H1,I2,ru,q}
def fL (ha:PE X o ta) (hv:PE X value tv) (hs:swapsWith value (some (.Attribute o f pos')) pos.line X.env=pure false):PS X (.Assign [.Attribute o f pos'] value pos) (Oi X.K ta tv f):=by
 intro pins s U H D I h;refine plainObj_wpAny_Assign_Attribute (bR (hv pins s U H _ I h) λu s1 ⟨y,H1,I1,ry,q⟩=>bR (ha pins s1 U H1 _ I1 q) λov s2 ⟨x,H2,I2,rx,a,C,dx,fs,ex,ea,c,n,l,q2⟩=>?_) hs;subst ex;obtain rfl:ov=Value.ref a:=rx;exact Cr I2 ea c n l ry λs3 I3=>{U,_,I3,q2}
end
section
variable {X:Cx} {pins:List (wJ×Obj)} {U:St} {H:Hp} {s:wD} {A:wH} {E:wC->wD->Prop} {Q:wC->wD->Prop} {c:wC} {b:Bool}
inductive mU (K:yo) (H:Hp):V->wC->Prop where
 | aO:mU K H .aO (.type "NoneType")
 | bl (x:Bool):mU K H (.bl x) (.type "bool")
 | int (i:Int):mU K H (.int i) (.type "int")
 | str (x:Str):mU K H (.str x) (.type "str")
 | Jt (x:UInt64):mU K H (.Jt x) (.type "float")
 | lst {a:wJ} {xs:List V} (e:H a=some (.lst xs)):mU K H (.ref a) (.type "list")
 | i9 {a:wJ} {o:Obj} {xs:List V} (e:H a=some (.i9 o (.lst xs))):mU K H (.ref a) (.type "list")
 | tup {a:wJ} {xs:List V} (e:H a=some (.tup xs)):mU K H (.ref a) (.type "tuple")
 | dK {a:wJ} {kvs:List (Key×V)} (e:H a=some (.dK kvs)):mU K H (.ref a) (.type "dict")
 | dT {a:wJ} {kvs:List (List Key×V)} (e:H a=some (.dT kvs)):mU K H (.ref a) (.type "dict")
 | ins {a C dx:wJ} {fs:List (Str×V)} (e:H a=some (.ins C dx fs)) (cl:JQ K C) (ha:PySem.W.findIn K (.ref C) "__class__"= some (some (.builtin "object.__class__")))
   (hn:PySem.W.specialIn K (.builtin "object.__class__") "__get__"= some (some (.builtin "getset_descriptor.__get__"))) (htk:PySem.W.takesIn K (.builtin "object.__class__")=some true)
   (hm:PySem.W.mroIn K C (.type "object")=some true):mU K H (.ref a) (.ref C)
def Fe (I:Inv X pins U H s) (rx:RelV x u) (ty:mU X.K H x t) (e:PySem.W.kitOne X.K t c=some b) (h:∀tk,Q (.bool b) {s with toks:=tk}) :
  wpAny (model X.prog X.w) A (call (.builtin "isinstance") [u,c]) Q E s:=by
 cases ty with
 | aO=>cases(show u=Value.none from rx);exact yX PySem.W.kitx_none I.gL True.intro e (λz=>nomatch z) h
 | bl y=>cases(show u=Value.bool y from rx);exact yX PySem.W.kitx_bool I.gL True.intro e (λz=>nomatch z) h
 | int i=>let⟨t,q⟩:=(show∃t,u=Value.int i t from rx);cases q;exact yX PySem.W.kitx_int I.gL True.intro e (λz=>nomatch z) h
 | str y=>let⟨t,q⟩:=(show∃t,u=Value.str y t from rx);cases q;exact yX PySem.W.kitx_str I.gL True.intro e (λz=>nomatch z) h
 | Jt y=>let⟨t,q⟩:=(show∃t,u=Value.float y t from rx);cases q;exact yX PySem.W.kitx_float I.gL True.intro e (λz=>nomatch z) h
 | @lst a xs ea=>
  cases(show u=Value.ref a from rx);let⟨_,_,n,_,h1⟩:=(show aT X.prog X.w H s.heap a (.lst xs) from I.aP a _ ea)
  exact yX PySem.W.kitx_list I.gL {_,h1,rfl} e (λz=>nomatch z) h
 | @i9 a ob xs ea=>
  cases(show u=Value.ref a from rx);let⟨_,_,_,n,_,h1⟩:=(show aT X.prog X.w H s.heap a (.i9 ob (.lst xs)) from I.aP a _ ea)
  exact yX PySem.W.kitx_list I.gL {_,h1,rfl} e (λz=>nomatch z) h
 | @tup a xs ea=>
  cases(show u=Value.ref a from rx);let⟨_,_,_,p⟩:=(show aT X.prog X.w H s.heap a (.tup xs) from I.aP a _ ea)
  let⟨o,h1,h2,_⟩:=p;exact yX PySem.W.kitx_tuple I.gL {(o),h1,h2} e (λz=>nomatch z) h
 | @dK a kvs ea=>
  cases(show u=Value.ref a from rx);let⟨_,_,vs,_,p⟩:=(show aT X.prog X.w H s.heap a (.dK kvs) from I.aP a _ ea)
  let⟨o,es,ep,h1,h2,_⟩:=p;exact yX PySem.W.kitx_dict I.gL {(o),h1,h2.1} e (λz=>nomatch z) h
 | @dT a kvs ea=>
  cases(show u=Value.ref a from rx);let⟨_,_,xs,_,o,es,ep,h1,h2,_⟩:=(show aT X.prog X.w H s.heap a (.dT kvs) from I.aP a _ ea)
  exact yX PySem.W.kitx_dict I.gL {(o),h1,h2.1} e (λz=>nomatch z) h
 | @ins a C dx fs ea cl ha hn htk hm=>
  cases(show u=Value.ref a from rx);let⟨mA,O,_⟩:=vp I.aP ea;let⟨od,J,_⟩:=O.look;exact yX (PySem.W.kitx_own (cl.get _) cl.hd ha hn htk hm) I.gL J e (λz=>nomatch z) h
end
end L2
namespace L2
open PySem PySem.Spec PyProof.Rows
structure cN (k:Nat) (A:wH):Prop where
 hd:A.handled=none
 dp:A.depth+3*k+5<recursionLimit
 un:A.units+16*k+200<cLine
def cN.mono (r:cN k A) (h:j<=k):cN j A:={r.hd,by have:=r.dp;ext,by have:=r.un;ext}
theorem cN.deeper (r:cN (k+1) A) (env:Env):cN k (A.deeper env):=
 {r.hd,by have:=r.dp;show A.depth+1+3*k+5<_;ext,by have:=r.un;show A.units+3+16*k+200<_;ext}
def CW {A:wH} {C:wJ} {us:List wC} {kw:List (Str×wC)}:(A.under (.builtin "type.__call__" {.ref C::us,kw})).depth=A.depth+1:=by
 first | rfl | simp[Around.under,Code.weight,Code.isCreation,Code.isGuard,Code.isCaller,Code.frames,Code.isFrame,guardIds]
def CV {A:wH} {C:wJ} {us:List wC} {kw:List (Str×wC)}:(A.under (.builtin "type.__call__" {.ref C::us,kw})).units=A.units+1:=by
 first | rfl | simp[Around.under,Code.cUnits,Code.frames,Code.isFrame]
def cN.make (r:cN (k+1) A) (C:wJ) (us:List wC) (kw:List (Str×wC)):cN k (A.under (.builtin "type.__call__" {.ref C::us,kw})):=
 {r.hd,by have:=r.dp;rw[CW];ext,by have:=r.un;rw[CV];ext}
theorem cN.depth (r:cN k A):A.depth<recursionLimit:=by have:=r.dp;ext
theorem cN.units (r:cN k A):A.units+64<cLine:=by have:=r.un;ext
def j4:TA:=λ_ H Q=>Q [] H
def cB (ta:TE) (tr:TA):TA:=λU H Q=>ta U H λx H1=>tr U H1 λxs H2=>Q (x::xs) H2
section
variable {X:Cx} {e:Expr} {es:List Expr} {te:TE} {t:TA} {pos:Pos}
def af:PA X [] j4:=λ_ _ _ _ H Q I h=>wA {[],H,I,.nil,h}
def aa (ha:PE X e te) (hr:PA X es t) (hs:starEach (e::es) X.env=(false,eval e X.env)::starEach es X.env<|>qe_):PA X (e::es) (cB te t):=by
 intro pos pins s U H Q I h;rw[hs];show wpAny _ _ (spliced ((false,eval e X.env)::backTo pos (starEach es X.env))) _ _ s;refine xU (bR (ha pins s U H _ I h) λu s1 zz=>?_);let⟨x,H1,I1,r1,q1⟩:=zz;exact bR (hr pos pins s1 U H1 _ I1 q1) λus s2 ⟨xs,H2,I2,r2,q2⟩=>{x::xs,H2,I2,.cons r1 r2,q2}
def Iy (t:TA):TE:=λU H Q=>t U H λxs H1=>⇑xs<=sizeLine/\∀p,H1 p=none->Q (.ref p) (upd H1 p (.tup xs))
def Kw (t:TA):TE:=λU H Q=>t U H λxs H1=>⇑xs<=sizeLine/\∀p,H1 p=none->Q (.ref p) (upd H1 p (.lst xs))
def aZ {x1} (h:PA X es t):PE X (.Tuple es x1 pos) (Iy t):=by
 intro pins s U H Q I hq;refine wpAny_Tuple_spliced (bR (h pos pins s U H _ I hq) λus s1 ⟨xs,H1,I1,r,z,q⟩=>{by rw[<-⇑r];exact z,?_});let hf:H1 ↑s1=none:=I1.aP.fresh (zh _);refine{.ref ↑s1,upd H1 ↑s1 (.tup xs),I1.laid (t':=s1.toks) (λb u e=>yh _ e) (zh _) ?_,rfl,q _ hf};exact{z,us,r,{_,yj _ rfl,rfl,_,rfl}}
def bx (h:PA X es t):PE X (.List es pos) (Kw t):=by
 intro pins s U H Q I hq;refine wpAny_List_spliced (bR (h pos pins s U H _ I hq) λus s1 ⟨xs,H1,I1,r,z,q⟩=>{by rw[<-⇑r];exact z,?_});let hf:H1 ↑s1=none:=I1.aP.fresh (zh _);refine{.ref ↑s1,upd H1 ↑s1 (.lst xs),I1.laid (t':=s1.toks) (λb u e=>yh _ e) (zh _) ?_,rfl,q _ hf};exact{z,us,0,r,yj _ rfl}
end
abbrev Sp:=List V->Hp->VK->XK->Prop
abbrev B5:=List Env->Hp->wD->XK->wC->wD->Prop
structure B3 (P:wF) (w:wG) (K:yo) (mg:Str->Option wC) (base:wK) (A:wH) (outer:List Env) (s:wD) (H:Hp):Prop where
 frames:A.frames=some outer
 mod:Mod K mg base
 bs:∀b o,base.get? b=some o->s.heap.get? b=some o/\H b=none
 FU:base.objs.size<=↑s
 jB:s.heap.FunFrames base outer
 vw:∀b∈fX outer,H b=none
 aP:j2 P w H s.heap
 bare:AllBare s.gens
def CE (outer:List Env) (P:wF) (w:wG) (H:Hp) (s:wD) (Q:VK) (u:wC) (s':wD):Prop:=
 ∃v H',s'.os=s.os/\AllBare s'.gens/\Un (fX outer) [] H H' s.heap s'.heap/\j2 P w H' s'.heap/\RelV v u/\Q v H'
def CR (CX:B5) (outer:List Env) (P:wF) (w:wG) (H:Hp) (s:wD) (Q:VK) (E:XK) (r:Result) (s':wD):Prop:=
 match r with
 | .ok (.ret u)=>CE outer P w H s Q u s'
 | .ok _=>False
 | .error e=>CX outer H s E e s'
structure bC (P:wF) (w:wG) (K:yo) (mg:Str->Option wC) (base:wK) (CX:B5) (k:Nat) (f:wJ) (fd:wI) (ps:List Str) (sp:Sp):Prop where
 len:∀vs H Q E,sp vs H Q E->⇑vs=⇑ps
 run:∀(A:wH) (outer:List Env) (s:wD) (H:Hp) (args:Args) (us:List wC) (vs:List V) (Q:VK) (E:XK),cN k A->B3 P w K mg base A outer s H->BindsTo s fd args (ps.zip us)->Vals vs us->sp vs H Q E->
  codeAny (model P w) A (.call (.ref f) args) (CR CX outer P w H s Q E) s
theorem bC.mono {P:wF} {w:wG} {K:yo} {mg:Str->Option wC} {base:wK} {CX:B5} {j k:Nat} {f:wJ} {fd:wI} {ps:List Str} {sp:Sp} (F:bC P w K mg base CX j f fd ps sp) (h:j<=k) :
  bC P w K mg base CX k f fd ps sp:={F.len,λA outer s H args us vs Q E hr=>F.run A outer s H args us vs Q E (hr.mono h)}
def B3.make {P:wF} {w:wG} {K:yo} {mg:Str->Option wC} {base:wK} {A:wH} {outer:List Env} {s:wD} {H:Hp} (e:B3 P w K mg base A outer s H) (C:wJ) (us:List wC) (kw:List (Str×wC)) :
  B3 P w K mg base (A.under (.builtin "type.__call__" {.ref C::us,kw})) outer s H:={by first | exact e.frames | (simpa[Around.under,Code.envs,Code.isFrame,pushEnvs] using e.frames),e.mod,e.bs,e.FU,e.jB,e.vw,e.aP,e.bare}
section
variable {X:Cx} {pins:List (wJ×Obj)} {U:St} {H:Hp} {s s':wD}
def Inv.Fn (I:Inv X pins U H s):B3 X.prog X.w X.K X.mg X.base X.A X.stack s H:=
 {I.ok.frames,I.ok.mod,I.bs,zH I.ok.FU I.sz,I.stack,I.gZ,I.aP,I.bare}
def Inv.after (I:Inv X pins U H s) (h:CE X.stack X.prog X.w H s Q u s'):EP X pins U Q u s':=by
 let⟨v,H',os,bare,un,aP,r,q⟩:=h;let⟨hh,g,d,t,os'⟩:=s';obtain rfl:os'=s.os:=os;exact{v,H',I.call (h':=hh) (g':=g) (d':=d) (t':=t) (ch:=[]) un aP bare (λb z=>absurd z (by simp)),r,q}
end
def gd (sp:Sp) (dvs:List V) (E:XK) (t:TA):TE:=λU H Q=>t U H λvs H1=>sp (vs++dvs) H1 Q E
def Mr (C:wJ) (sp:Sp) (dvs:List V) (E:XK) (t:TA):TE:=λU H Q=>t U H λvs H1=>∀x dx,H1 x=none->H1 dx=none->dx≠x->
 sp (.ref x::(vs++dvs)) (upd (upd H1 dx (.own x)) x (.ins C dx [])) (λv H2=>v=.aO/\Q (.ref x) H2) E
def Binds (K:yo) (fd:wI) (ps:List Str) (ds:List wC):Prop:=
 ∀(s:wD) (us:List wC),K.In s.heap->⇑(us++ds)=⇑ps->BindsTo s fd {us,[]} (ps.zip (us++ds))
def Binds.all {K:yo} {fd:wI} {ps:List Str} (h:∀us:List wC,⇑us=⇑ps->bindArgs fd {us,[]}=pure (ps.zip us)):Binds K fd ps []:=λs us _ hl=>by
 rw[zO] at hl ⊢;exact .of_eq (h us hl)
def Passes (CX:B5) (X:Cx) (E:XK):Prop:=∀(pins:List (wJ×Obj)) (U:St) (H:Hp) (s:wD) (e:wC) (s':wD),Inv X pins U H s->CX X.stack H s E e s'->X.xe e s'
section
variable {X:Cx} {CX:B5} {k:Nat} {f C:wJ} {fd:wI} {ps:List Str} {sp:Sp} {dvs:List V} {ds:List wC} {E:XK} {x m:Str} {p pos apos:Pos} {e o:Expr} {es:List Expr} {ta:TE} {t:TA}
def Gs (F:bC X.prog X.w X.K X.mg X.base CX k f fd ps sp) (hr:cN k X.A) (hb:Binds X.K fd ps ds) (hd:Vals dvs ds) (hx:Passes CX X E)
  (I:Inv X pins U H s) (r:Vals vs us) (h:sp (vs++dvs) H Q E):wpAny (model X.prog X.w) X.A (call (.ref f) us) (EP X pins U Q) X.xe s:=by
 let r2:Vals (vs++dvs) (us++ds):=r.append hd;let hl:⇑(us++ds)=⇑ps:=by rw[<-⇑r2];exact F.len _ _ _ _ h
 refine wpAny_call (xt (F.run X.A X.stack s H {us,[]} (us++ds) (vs++dvs) Q E hr I.Fn (hb s us I.gL hl) r2 h) λr s' hq=>?_);cases r with
 | error e=>exact hx pins U H s e s' I hq
 | ok fl=>
  cases fl with
  | ret u=>exact I.after hq
  | next=>exact False.elim hq
  | brk=>exact False.elim hq
  | cont=>exact False.elim hq
def uU (F:bC X.prog X.w X.K X.mg X.base CX k f fd ps sp) (hr:cN k X.A) (hg:Gl X x) (hm:X.mg x=some (.ref f)) (hk:PySem.W.keepIn X.K (.ref f)=true) (hb:Binds X.K fd ps ds) (hd:Vals dvs ds) (hx:Passes CX X E)
  (ha:PA X (e::es) t) (hdb:(x == ("__debug__": Str))=false<|>qb_) (he:starEach (e::es) X.env=(false,eval e X.env)::starEach es X.env<|>qe_) (hpl:(backTo pos (starEach es X.env)).any (·.1)=false<|>qe_) :
  PE X (.Call (.Name x p) (e::es) [] pos) (gd sp dvs E t):=by
 intro pins s U H Q I h;refine y0 (dB I hg hm ?_ hdb);refine wu (h₀:=X.base) I.ok.mod.Jm hk (bR (ha pos pins s U H _ I h) λus s1 ⟨vs,H1,I1,r,q⟩=>{I1.gL,?_}) he hpl;exact Gs F hr hb hd hx I1 r q
structure Mk (K:yo) (C f:wJ):Prop where
 makes:PySem.W.makesIn K C=true
 init:PySem.W.findIn K (.ref C) "__init__"= some (some (.ref f))
 fn:PySem.W.isFn K (.ref f)=true
 kp:PySem.W.keepIn K (.ref C)=true
def Gr (M:Mk X.K C f) (F:bC X.prog X.w X.K X.mg X.base CX k f fd ps sp) (hr:cN (k+1) X.A) (hb:Binds X.K fd ps ds) (hd:Vals dvs ds)
  (hx:Passes CX X E) (I:Inv X pins U H s) (r:Vals vs us)
  (h:∀x dx,H x=none->H dx=none->dx≠x->sp (.ref x::(vs++dvs)) (upd (upd H dx (.own x)) x (.ins C dx [])) (λv H2=>v=.aO/\Q (.ref x) H2) E) :
  wpAny (model X.prog X.w) X.A (call (.ref C) us) (EP X pins U Q) X.xe s:=by
 let hq:=h (↑s+1) ↑s (I.aP.fresh (xD _)) (I.aP.fresh (zh _)) (zZ (xp _));let I2:=Inv.made (C:=C) I;let r2:Vals (V.ref (↑s+1)::(vs++dvs)) (Value.ref (↑s+1)::(us++ds)):=.cons rfl (r.append hd);let hl:⇑(Value.ref (↑s+1)::us++ds)=⇑ps:=by
  let e:=⇑r2;rw[F.len _ _ _ _ hq] at e;exact e.symm
 refine wpAny_call (G4 (f:=f) I.gL M.makes M.init (wt.mp M.fn) (xt (F.run _ X.stack _ _ {Value.ref (↑s+1)::us,[]} (Value.ref (↑s+1)::(us++ds)) _ _ E (hr.make C us [])
  (I2.Fn.make C us []) (hb _ (Value.ref (↑s+1)::us) I2.gL hl) r2 hq) λr s' hq'=>?_))
 cases r with
 | error e=>exact hx pins U _ _ e s' I2 hq'
 | ok fl=>
  cases fl with
  | ret u=>
   let⟨v,H',I3,rv,ev,q3⟩:=I2.after hq';subst ev;exact{rv,{V.ref (↑s+1),H',I3,rfl,q3}}
  | next=>exact False.elim hq'
  | brk=>exact False.elim hq'
  | cont=>exact False.elim hq'
def GO (M:Mk X.K C f) (F:bC X.prog X.w X.K X.mg X.base CX k f fd ps sp) (hr:cN (k+1) X.A) (hg:Gl X x) (hm:X.mg x=some (.ref C)) (hb:Binds X.K fd ps ds) (hd:Vals dvs ds) (hx:Passes CX X E)
  (hdb:(x == ("__debug__": Str))=false<|>qb_):PE X (.Call (.Name x p) [] [] pos) (Mr C sp dvs E j4):=by
 intro pins s U H Q I h;refine y0 (dB I hg hm ?_ hdb);exact PySem.W.callWith_K0 I.gL M.kp (Gr (us:=[]) M F hr hb hd hx I .nil h)
end
section
variable {X:Cx} {CX:B5} {k:Nat} {f C:wJ} {fd:wI} {ps ks:List Str} {sp:Sp} {E:XK} {x m:Str} {p pos apos kpos:Pos} {e o:Expr} {es:List Expr} {kws:List Keyword} {te ta:TE} {t tk:TA} {nm:Option Str}
variable {g:List wC->List wC->List wC} {gV:List V->List V->List V}
end
structure cA (N P:List Str) (sc:Scope):Prop where
 kind:sc.kind=.function
 co:sc.isCoroutine=false
 gen:sc.isGenerator=false
 nd:N.Nodup
 pre:N.take P.length=P
 par:∀x∈P,sc.names.lookup x=some .local\/sc.names.lookup x=some .cell
 K5:∀y∈sc.names,y.2≠.free
theorem tR {kindOf:Str->Option NameKind} {x:Str}:∀{binds:List (Str×wC)} {m:Str->Option wC},(∀v,(x,v)∉binds)->bindL kindOf binds m x=m x
 | [],_,_=>rfl
 | (n,v)::r,m,h=>by
  unfold bindL;rw[tR λw hw=>h w (zj _ hw)];split
  ·have:x≠n:=by rintro rfl;exact h v zk
   simp[this]
  ·rfl
theorem tT {kindOf:Str->Option NameKind} {x:Str}:∀{binds:List (Str×wC)} {m:Str->Option wC},(∀v,(x,v)∉binds)->bindC kindOf binds m x=m x
 | [],_,_=>rfl
 | (n,v)::r,m,h=>by
  unfold bindC;rw[tT λw hw=>h w (zj _ hw)];split
  ·rfl
  ·have:x≠n:=by rintro rfl;exact h v zk
   simp[this]
theorem tS {kindOf:Str->Option NameKind} {x:Str} {v:wC}:∀{P:List Str} {vs:List wC} {i:Nat} {m:Str->Option wC},P.Nodup->P[i]?=some x->vs[i]?=some v->kindOf x=some .local->
  bindL kindOf (P.zip vs) m x=some v
 | [],_,_,_,_,h,_,_=>by simp at h
 | _::_,[],_,_,_,_,h,_=>by simp at h
 | p::P,w::vs,0,m,nd,h1,h2,hk=>by
  simp at h1 h2;subst h1;subst h2;show bindL kindOf ((p,w)::P.zip vs) m p=_;unfold bindL;rw[tR λv hv=>(zT.mp nd).1 (xQ hv).1,yC hk];simp
 | p::P,w::vs,i+1,m,nd,h1,h2,hk=>by
  show bindL kindOf ((p,w)::P.zip vs) m x=_;unfold bindL;exact tS (i:=i) (zT.mp nd).2 (by simpa using h1) (by simpa using h2) hk
theorem tU {kindOf:Str->Option NameKind} {x:Str} {v:wC}:∀{P:List Str} {vs:List wC} {i:Nat} {m:Str->Option wC},P.Nodup->P[i]?=some x->vs[i]?=some v->kindOf x≠some .local->
  bindC kindOf (P.zip vs) m x=some v
 | [],_,_,_,_,h,_,_=>by simp at h
 | _::_,[],_,_,_,_,h,_=>by simp at h
 | p::P,w::vs,0,m,nd,h1,h2,hk=>by
  simp at h1 h2;subst h1;subst h2;show bindC kindOf ((p,w)::P.zip vs) m p=_;unfold bindC;rw[tT λv hv=>(zT.mp nd).1 (xQ hv).1,yB hk];simp
 | p::P,w::vs,i+1,m,nd,h1,h2,hk=>by
  show bindC kindOf ((p,w)::P.zip vs) m x=_;unfold bindC;exact tU (i:=i) (zT.mp nd).2 (by simpa using h1) (by simpa using h2) hk
def start (N:List Str) (vs:List V):St:=vs.map some++List.replicate (N.length-⇑vs) none
def eP (CX:B5) (P:wF) (w:wG) (K:yo) (mg:Str->Option wC) (base:wK) (N:List Str) (qual:Str) (scope:Scope) (f:wJ) (cd:wC) (A:wH) (outer:List Env) (s:wD) (H:Hp) (E:XK):Cx where
 prog:=P
 w:=w
 K:=K
 mg:=mg
 base:=base
 A:=A.deeper (envOfC qual scope ↑s f cd)
 N:=N
 s₀:=s
 H₀:=H
 env:=envOfC qual scope ↑s f cd
 outer:=outer
 stack:=envOfC qual scope ↑s f cd::outer
 ex:=[]
 calm:=true
 fn:=λ_=>true
 pn:=[]
 xe:=λe s'=>wpAny (model P w) (A.deeper (envOfC qual scope ↑s f cd)) (leaving (envOfC qual scope ↑s f cd) e) (λ_ s''=>CX outer H s E e s'') (λe' s''=>CX outer H s E e' s'') s'
def BJ {sc:Scope} {n:Nat} {x:Str} (h:sc.names.lookup x=some .cell):∃c,(cellsFrom n sc.names []).lookup x=some c:=by
 let q:=PySem.W.cellsFrom_some sc.names n [] (.inl h);exact Option.isSome_iff_exists.mp q
def Ff {CX:B5} {P:wF} {w:wG} {K:yo} {mg:Str->Option wC} {base:wK} {N ps:List Str} {qual:Str} {scope:Scope} {f:wJ} {cd:wC} {A:wH} {outer:List Env} {s s1:wD} {H:Hp} {E:XK} {us:List wC} {vs:List V}
  (S:cA N ps scope) (hd:A.handled=none) (e0:B3 P w K mg base A outer s H) (hl:⇑vs=⇑ps) (r:Vals vs us)
  (x:InCallC s ↑s (bindL (envOfC qual scope ↑s f cd).kindOf (ps.zip us) λ_=>none) (cellsFrom (↑s+1) scope.names []) (bindC (envOfC qual scope ↑s f cd).kindOf (ps.zip us) λ_=>none) s1) :
  Inv (eP CX P w K mg base N qual scope f cd A outer s H E) [] (start N vs) H s1:=by
 let hpl:⇑ps<=N.length:=by have:=yN List.length S.pre;rw[zL] at this;ext
 let⟨h1,tk,rfl,hk⟩:=x.done;let noA:∀b:wJ,b∉(eP CX P w K mg base N qual scope f cd A outer s H E).ex:=λb z=>absurd (show b∈([]:List wJ) from z) (by simp);refine{{e0.mod,S.kind,rfl,rfl,zh _,λy z c h1 h2=>?_,λy hy=>?_,λy c _ h=>?_,λ_=>hd,Around.frames_deeper e0.frames,.inr {(rfl),rfl},λb z=>absurd z (noA b),e0.bs,e0.FU,λb _ _=>noA b,λb z=>absurd z (noA b),e0.jB,e0.vw},
  rfl,e0.bare,Un.kept hk,{_,x.toInCall.ns,λi y v h1 h2 h3=>?_},λy c h=>{_,x.cell y c h},e0.aP.fresh (zh _),λy c h=>?_,λp hp=>absurd (show p∈([]:List (wJ×Obj)) from hp) (by simp),e0.aP.kept hk,?_}
 ·exact name_of_addr x.apart (xM h1) (xM h2)
 ·let hy:scope.names.lookup y=some .cell\/scope.names.lookup y=some .free:=hy
  rcases hy with hy | hy
  ·exact BJ hy
  ·exact absurd rfl (S.K5 _ (xM hy))
 ·exact zX (x.above y c (xM h))
 ·let hi:i<⇑vs:=by
   unfold start at h2
   by_cases hi:i<⇑vs
   ·exact hi
   ·rw[zP (by simpa using hi)] at h2
    rw[List.getElem?_replicate] at h2;split at h2 <;> cases h2
  let ha:vs[i]?=some v:=by
   unfold start at h2;rw[xK (by simpa using hi),zF] at h2;cases e:vs[i]? with
   | none=>rw[e] at h2;cases h2
   | some a=>rw[e] at h2;cases h2;rfl
  let⟨u,hu,rv⟩:=r.get ha;let hp:ps[i]?=some y:=by
   rw[<-S.pre,List.getElem?_take_of_lt ()];exact h1
  let ndP:ps.Nodup:=by rw[<-S.pre];exact S.nd.sublist (List.take_sublist _ _)
  refine{u,rv,?_};rcases S.par y (zv hp) with k | k
  ·exact .inl {k,tS ndP hp hu k}
  ·let⟨c,e⟩:=BJ (n:=↑s+1) k
   refine .inr {.inl k,c,e,?_};let q:=x.cell y c e;rw[tU ndP hp hu (by show scope.names.lookup y≠_;rw[k];decide)] at q;exact q
 ·exact e0.aP.fresh (zX (x.above y c (xM h)))
 ·unfold start
  show _=N.length;rw[ze,za,List.length_replicate];ext
def Hq {CX:B5} {P:wF} {w:wG} {K:yo} {mg:Str->Option wC} {base:wK} {k:Nat} {f:wJ} {name qual:Str} {params:Arguments} {body:List Stmt} {scope:Scope} {dV kV doc pm cdv ct oc:wC} {an od:Option wJ}
  {osl:Array (Option wC)} {N ps:List Str} {sp:Sp} (lk:K.lookup f=some {oc,od,.func (PySem.W.fnOf name qual params body scope dV kV doc pm an cdv ct),osl}) (hcd:PySem.W.codeIn K cdv qual=true) (S:cA N ps scope)
  (len:∀vs H Q E,sp vs H Q E->⇑vs=⇑ps)
  (hbody:∀(A:wH) (outer:List Env) (s:wD) (H:Hp) (vs:List V) (Q:VK) (E:XK),cN k (A.deeper (envOfC qual scope ↑s f cdv))->sp vs H Q E->
   ∃t,sI (eP CX P w K mg base N qual scope f cdv A outer s H E) body t/\t {nx:=λ_ H'=>Q .aO H',rt:=Q} (start N vs) H) :
  bC P w K mg base CX (k+1) f (PySem.W.fnOf name qual params body scope dV kV doc pm an cdv ct) ps sp:=by
 refine{len,λA outer s H args us vs Q E hr e0 hb r hsp=>?_};let hl:=len _ _ _ _ hsp;let KX:K.In s.heap:=e0.mod.Jm.keeps λb o e=>(e0.bs b o e).1;let lim:s.heap.NoLimit:=e0.mod.nolimit.keeps λb o e=>(e0.bs b o e).1;let hkind:∀y∈ps.zip us,scope.names.lookup y.1=some .local\/(scope.names.lookup y.1=some .cell/\((cellsFrom (↑s+1) scope.names []).lookup y.1).isSome=true):=λ⟨n,v⟩ hy=>by
  rcases S.par n (xQ hy).1 with q | q
  ·exact .inl q
  ·exact .inr {q,PySem.W.cellsFrom_some _ _ _ (.inl q)}
 refine codeAny_call_function hr.depth (KX _ _ lk) rfl S.co S.gen rfl (PySem.W.codeRec_of KX hcd) (hb _ _ _ _ ?_);refine wpAny_newFunctionEnv_cells S.kind hkind λenv he s1 x=>?_;subst he;refine{lim.keeps x.toInCall.keep,codeAny_func ?_};let⟨t,ht,hq⟩:=hbody A outer s H vs Q E (hr.deeper _) hsp;let I:Inv (eP CX P w K mg base N qual scope f cdv A outer s H E) [] (start N vs) H s1:=Ff S hr.hd e0 hl r x;refine yS (ht [] s1 (start N vs) H _ I hq) (λfl s' hs=>?_) λe s' hs=>hs;let fin:∀{U':St} {H':Hp} {v:V} {u:wC},Inv (eP CX P w K mg base N qual scope f cdv A outer s H E) [] U' H' s'->RelV v u->Q v H'->CE outer P w H s Q u s':=
  λ{U' H' v u} J rv q=>{(v),H',J.os,J.bare,J.base,J.aP,rv,q}
 cases fl with
 | ret u=>
  let⟨v,U',H',J,rv,q⟩:=hs;exact fin J rv q
 | next=>
  let⟨U',H',J,q⟩:=hs;exact fin (v:=V.aO) (u:=Value.none) J rfl q
 | brk=>
  let⟨_,_,_,q⟩:=hs;exact False.elim q
 | cont=>
  let⟨_,_,_,q⟩:=hs;exact False.elim q
end L2
namespace L2
open PySem PySem.Spec PyProof.Rows
section
variable {X:Cx} {x:Str} {p pos:Pos} {e:Expr} {es:List Expr} {t:TA} {id T:String} {r:List V->Hp->VK->Prop}
def JT (r:List V->Hp->VK->Prop) (t:TA):TE:=λU H Q=>t U H λvs H1=>r vs H1 Q
def AM (hc:b9 X (.builtin id) r) (hg:Gl X x) (hm:X.mg x=none) (hv:bootBuiltins x=some (.builtin id)) (ha:PA X (e::es) t) (hn:x≠ "__name__"<|>qb_) (hdb:(x == ("__debug__": Str))=false<|>qb_)
  (he:starEach (e::es) X.env=(false,eval e X.env)::starEach es X.env<|>qe_) (hpl:(backTo pos (starEach es X.env)).any (·.1)=false<|>qe_):PE X (.Call (.Name x p) (e::es) [] pos) (JT r t):=by
 intro pins s U H Q I h;refine y0 (jw I hg hm hv ?_ hn hdb);exact PyProof.Rows.callWith_builtin1 (bR (ha pos pins s U H _ I h) λus s1 ⟨vs,H1,I1,r1,q1⟩=>hc pins s1 U H1 vs us Q I1 r1 q1) he hpl
def E6 (hc:b9 X (.type T) r) (hg:Gl X x) (hm:X.mg x=none) (hv:bootBuiltins x=some (.type T)) (ha:PA X (e::es) t) (hn:x≠ "__name__"<|>qb_) (hdb:(x == ("__debug__": Str))=false<|>qb_)
  (he:starEach (e::es) X.env=(false,eval e X.env)::starEach es X.env<|>qe_) (hpl:(backTo pos (starEach es X.env)).any (·.1)=false<|>qe_):PE X (.Call (.Name x p) (e::es) [] pos) (JT r t):=by
 intro pins s U H Q I h;refine y0 (jw I hg hm hv ?_ hn hdb);exact yA (bR (ha pos pins s U H _ I h) λus s1 ⟨vs,H1,I1,r1,q1⟩=>hc pins s1 U H1 vs us Q I1 r1 q1) he hpl
end
end L2
namespace HT
open PySem PyProof.Rows
section
open PySem.SeqAt
open PySem.AutoSeq1 (wpAny_loadPart')
open PySem.MeetsSeq PySem.MeetsSeq2 PySem.MeetsSeq3
end
section
variable {prog:wF} {w:wG} {A:wH} {E:wC->wD->Prop} {s:wD}
def cO (n d:Nat):Option Int->Nat
 | none=>d
 | some v=>if v<0 then(v+(n:Int)).toNat else min v.toNat n
def pd (n d:Nat):cO n d none=d:=rfl
def KO (n d:Nat) (hd:d<=n) (o:Option Int):cO n d o<=n:=by
 cases o with
 | none=>exact hd
 | some v=>
  show(if v<0 then(v+(n:Int)).toNat else min v.toNat n)<=n
  by_cases hv:v<0
  ·rw[yC hv];ext
  ·rw[yB hv];exact Nat.min_le_right _ _
def Ep (v:Int) (n d:Nat):(if v<0 then max (v+(n:Int)) 0 else min v (n:Int))=((cO n d (some v):Nat):Int):=by
 show(if v<0 then max (v+(n:Int)) 0 else min v (n:Int))=(((if v<0 then(v+(n:Int)).toNat else min v.toNat n):Nat):Int)
 by_cases hv:v<0
 ·simp only[yC hv];ext
 ·simp only[yB hv];ext
def Dw (lo hi:Option Int) (n:Nat):Builtin.Slice.sliceAdjust lo hi 1 (n:Int)=(((cO n 0 lo:Nat):Int),((cO n n hi:Nat):Int)):=by
 let h1:¬((1:Int)<0):=()
 unfold Builtin.Slice.sliceAdjust;simp only[h1,xN];refine Prod.ext ?_ ?_
 ·cases lo with
  | none=>rfl
  | some v=>exact Ep v n 0
 ·cases hi with
  | none=>rfl
  | some v=>exact Ep v n n
def CL (i j:Nat):Builtin.Slice.slicePlaces (i:Int) (j:Int) 1=j-i:=by
 unfold Builtin.Slice.slicePlaces;let h1:(1:Int)>0:=()
 simp only[h1,wo,Int.ediv_one];split <;> ext
def oU (p:IsPart v o) (h:Q o s):wpAny (model prog w) A (Builtin.Slice.slicePartIndex v) Q E s:=by
 cases p with
 | none=>exact slicePart_none h
 | int i t=>exact slicePart_int h
def gM {sl:wJ} {vl vu:wC} {lo hi:Option Int} {n:Nat} {Q:Int×Int×Nat->wD->Prop} (hs:s.heap.IsSliceOf sl vl vu .none) (pl:IsPart vl lo) (pu:IsPart vu hi)
  (h:Q (((cO n 0 lo:Nat):Int),1,cO n n hi-cO n 0 lo) s):wpAny (model prog w) A (Builtin.Slice.sliceApplied (.ref sl) (pure (n:Int))) Q E s:=by
 let⟨os,hos,hcs,hds⟩:=id hs;unfold Builtin.Slice.sliceApplied Builtin.Slice.sliceFields;refine yg (yg (yO hos hds (x:=vl) rfl (yg (yO hos hds (x:=vu) rfl (yg (yO hos hds (x:=.none) rfl (yi ?_)))))));refine yg (slicePart_none ?_);show wpAny _ _ (if((1:Int) == 0)=true then _ else _) _ _ s;rw[yB ∅];refine yg (oU pl (yg (oU pu (yg (yi ?_)))));show wpAny _ _ (match Builtin.Slice.sliceAdjust lo hi 1 (n:Int) with | (lo,hi)=>pure (lo,(1:Int),Builtin.Slice.slicePlaces lo hi 1)) _ _ s;rw[Dw lo hi n];show wpAny _ _ (pure (((cO n 0 lo:Nat):Int),(1:Int),Builtin.Slice.slicePlaces ((cO n 0 lo:Nat):Int) ((cO n n hi:Nat):Int) 1)) _ _ s;rw[CL];exact yi h
def GJ (xs:Array wC) (i k:Nat):((List.range k).filterMap λ(m:Nat)=>xs[((i:Int)+(m:Int)*1).toNat]?).toArray=((xs.toList.drop i).take k).toArray:=by
 let e:(λ(m:Nat)=>xs[((i:Int)+(m:Int)*1).toNat]?)=λm=>xs[i+m]?:=by
  funext m
  have:((i:Int)+(m:Int)*1).toNat=i+m:=()
  rw[this]
 rw[e];have:=pick_run xs i k;rw[List.filterMap_map] at this;let e2:((λx=>xs[x]?)∘λx=>i+x)=λm=>xs[i+m]?:=rfl;rw[e2] at this;rw[this]
def lS {t sl:wJ} {items:Array wC} {vl vu:wC} {lo hi:Option Int} {Q:wC->wD->Prop} (ht:IsTup s.heap t items) (hs:s.heap.IsSliceOf sl vl vu .none) (pl:IsPart vl lo) (pu:IsPart vu hi)
  (hw:¬(cO items.size 0 lo=0/\cO items.size items.size hi=items.size))
  (h:Q (.ref ↑s) {s with heap:=s.heap.push {cls:=.type "tuple",data:=.seq ((items.toList.drop (cO items.size 0 lo)).take (cO items.size items.size hi-cO items.size 0 lo)).toArray}})
  (hsz:items.size<=sizeLine):wpAny (model prog w) A (getItem (.ref t) (.ref sl)) Q E s:=by
 let htake:sizeOk (.seq ((items.toList.drop (cO items.size 0 lo)).take (cO items.size items.size hi-cO items.size 0 lo)).toArray):=by
  show((items.toList.drop (cO items.size 0 lo)).take (cO items.size items.size hi-cO items.size 0 lo)).toArray.size<=sizeLine;rw[zR,zL,xb,yE];ext
 let hj:cO items.size items.size hi<=items.size:=KO _ _ (zh _) hi;let⟨os,hos,hcs,hds⟩:=id hs;let hTs:s.TypeIs (.ref sl) "slice":={(os),hos,hcs}
 unfold getItem
 try with_reducible refine xi ?_
 first | refine yg (yi ?_) | skip
 refine yg (wpAny_sequenceKey ht.typeIs ∅ ?_);refine yg (yM (name:=Str.ofString "__getitem__") ht.typeIs xo
  (yQ xo ht.typeIs entry_tuple_getitem ?_ (args_tuple_getitem _ _)))
 show wpAny _ _ (Builtin.Tuple.tupleItemsOf (.ref t) >>= _) _ _ s;refine yg (tupleItemsOf_ ht ?_);refine yg (wq hTs ?_);rw[yC ∅];refine yg (gM hs pl pu ?_);let hno:¬((((cO items.size 0 lo:Nat):Int) == 0&&(1:Int) == 1&&(cO items.size items.size hi-cO items.size 0 lo) == items.size)=true):=by
  intro q;rw[zJ,zJ] at q;let q1:((cO items.size 0 lo:Nat):Int)=0:=eq_of_beq q.1.1;let q2:cO items.size items.size hi-cO items.size 0 lo=items.size:=eq_of_beq q.2;exact hw {(()),()}
 show wpAny _ _ (if(((cO items.size 0 lo:Nat):Int) == 0&&(1:Int) == 1&&(cO items.size items.size hi-cO items.size 0 lo) == items.size)=true then _ else _) _ _ s;rw[yB hno,GJ]
 first
  | exact yg (m:=Builtin.Tuple.tupleExact _) (yR (yi {_,rfl,yi h}) htake)
  | exact yg (m:=Builtin.Tuple.tupleExact _) (yR (yg (yi (yi {_,rfl,yi h}))) htake)
  | exact yg (yg (m:=Builtin.Tuple.tupleExact _) (yR (yi (yi {_,rfl,yi h})) htake))
  | exact yg (yg (m:=Builtin.Tuple.tupleExact _) (yR (yi {_,rfl,yi h}) htake))
end
end HT
namespace L2
open PySem PySem.Spec PyProof.Rows
abbrev TO:=St->Hp->(Option Int->Hp->Prop)->Prop
def PO (X:Cx) (e:Option Expr) (t:TO):Prop:=
 ∀(pins:List (wJ×Obj)) (s:wD) (U:St) (H:Hp) (Q:Option Int->Hp->Prop),Inv X pins U H s->t U H Q->
  wpAny (model X.prog X.w) X.A (evalPart e X.env) (λu s'=>∃o H',Inv X pins U H' s'/\IsPart u o/\Q o H') X.xe s
def IA:TO:=λ_ H Q=>Q none H
def Mn (t:TE):TO:=λU H Q=>t U H λx H1=>∃i,x=.int i/\Q (some i) H1
def intsAre_of:∀{us:List wC},Vals (ns.map V.int) us->IntsAre us ns:=by
 induction ns with
 | nil=>intro us r;rw[ya] at r;cases r;exact .nil
 | cons n ns ih=>
  intro us r;rw[zf] at r;cases r with
  | cons r1 r2=>
   let⟨t,e⟩:=r1;subst e;exact .cons n t (ih r2)
section
variable {X:Cx} {e:Expr} {te:TE} {lo hi:Option Expr} {tl th:TO} {pos p2:Pos}
def dz:PO X none IA:=by
 intro pins s U H Q I h;rw[evalPart_none];exact yi {none,H,I,.none,h}
def dy (h:PE X e te):PO X (some e) (Mn te):=by
 intro pins s U H Q I hw;rw[evalPart_some];refine bR (h pins s U H _ I hw) λu s1 zz=>?_;let⟨x,H1,I1,r1,q1⟩:=zz;let⟨i,rfl,q⟩:=q1;let⟨t,rfl⟩:=r1;exact{some i,H1,I1,.int i t,q}
def HW (X:Cx) (r:V->Option Int->Option Int->Hp->VK->Prop):Prop:=
 ∀(pins:List (wJ×Obj)) (s:wD) (U:St) (H:Hp) (x:V) (v vl vu:wC) (lo hi:Option Int) (sl:wJ) (Q:VK),Inv X pins U H s->RelV x v->s.heap.IsSliceOf sl vl vu .none->IsPart vl lo->IsPart vu hi->r x lo hi H Q->
  ∃T id,typeLookup (.type T) "__getitem__"= pure (some (.builtin id))/\s.TypeIs v T/\wpAny (model X.prog X.w) X.A (getItem v (.ref sl)) (EP X pins U Q) X.xe s
def HW.or (h:HW X r) (h':HW X r'):HW X (λx lo hi H Q=>r x lo hi H Q\/r' x lo hi H Q):=by
 intro pins s U H x v vl vu lo hi sl Q I rx hs pl pu q;rcases q with q | q
 ·exact h pins s U H x v vl vu lo hi sl Q I rx hs pl pu q
 ·exact h' pins s U H x v vl vu lo hi sl Q I rx hs pl pu q
def Po (r:V->Option Int->Option Int->Hp->VK->Prop) (te:TE) (tl th:TO):TE:=λU H Q=>te U H λx H1=>tl U H1 λl H2=>th U H2 λu H3=>r x l u H3 Q
def cE (hr:HW X r) (he:PE X e te) (hl:PO X lo tl) (hu:PO X hi th):PE X (.Subscript e (.Slice lo hi none p2) pos) (Po r te tl th):=by
 intro pins s U H Q I h;refine Subscript_ (bR (he pins s U H _ I h) λv s1 zz=>?_);let⟨x,H1,I1,r1,q1⟩:=zz;refine wpAny_Slice (bR (hl pins s1 U H1 _ I1 q1) λvl s2 ⟨l,H2,I2,pl,q2⟩=>bR (hu pins s2 U H2 _ I2 q2) λvu s3 zz=>?_);let⟨u,H3,I3,pu,q3⟩:=zz;rw[evalPart_none];refine yi ?_;let I4:Inv X pins U H3 {s3 with heap:=s3.heap.push {cls:=.type "slice",data:=.fields #[vl,vu,.none]}}:=I3.kept (t':=s3.toks) λb ob q=>yh _ q;let⟨T,id,hT,ht,hg⟩:=hr pins {s3 with heap:=s3.heap.push {cls:=.type "slice",data:=.fields #[vl,vu,.none]}} U H3 x v vl vu l u ↑s3 Q I4 r1 (Heap.IsSliceOf.new ..) pl pu q3;show wpAny (model X.prog X.w) X.A (subscriptTail e (.Slice lo hi none p2) v (.ref ↑s3)) (EP X pins U Q) X.xe {s3 with heap:=s3.heap.push {cls:=.type "slice",data:=.fields #[vl,vu,.none]}};exact tail_any (ops:=[.ref ↑s3,v]) ht hT hg (by with_unfolding_all rfl)
def f9 (xs:List V) (lo hi:Option Int):List V:=(xs.drop (HT.cO ⇑xs 0 lo)).take (HT.cO ⇑xs ⇑xs hi-HT.cO ⇑xs 0 lo)
def nA (xs:List V) (lo hi:Option Int):⇑(f9 xs lo hi)<=⇑xs:=by
 unfold f9;rw[zL,xb];ext
def MF (K:yo):V->Option Int->Option Int->Hp->VK->Prop:=λx lo hi H Q=>∃a xs,x=.ref a/\cQ K H a xs/\
 ¬(HT.cO ⇑xs 0 lo=0/\HT.cO ⇑xs ⇑xs hi=⇑xs)/\∀p,H p=none->Q (.ref p) (upd H p (.tup (f9 xs lo hi)))
def KL:HW X (MF X.K):=by
 intro pins s U H x v vl vu lo hi sl Q I rx hs pl pu h;let⟨a,xs,rfl,hx,hw,q⟩:=h;cases rx;let⟨its,r,ht,hz⟩:=I.tuple hx;let hlen:its.toArray.size=⇑xs:=by rw[zR];exact r.length.symm
 refine{"tuple",_,xo.lookup,ht.typeIs,?_};refine HT.lS ht hs pl pu (by rw[hlen];exact hw) ?_ (by rw[hlen];exact hz);rw[hlen];refine{.ref ↑s,_,I.laid (t':=s.toks) (o:=.tup (f9 xs lo hi)) (λb ob q=>yh _ q) (zh _) ?_,rfl,q _ (I.aP.fresh (zh _))};exact{zH (nA xs lo hi) hz,_,(r.drop (HT.cO ⇑xs 0 lo)).take (HT.cO ⇑xs ⇑xs hi-HT.cO ⇑xs 0 lo),IsTup.new _ _}
end
end L2
namespace L2
open PySem PySem.Spec PyProof.Rows
def Ig (n:Nat) (i:Int):Option Nat:=if 0<=i then(if i<n then some i.toNat else none) else if -(n:Int)<=i then some (i+n).toNat else none
def tV (xs:List α) (i:Int):Option α:=(Ig ⇑xs i).bind λj=>xs[j]?
def Jo (h:Ig n i=some j):seqIndex? i n=some j/\j<n/\-(n:Int)<=i/\i<n:=by
 unfold Ig at h
 by_cases h0:0<=i
 ·rw[yC h0] at h
  by_cases h1:i<n
  ·rw[yC h1] at h
   let e:i.toNat=j:=z0 h;exact{by rw[seqIndex_of h0 h1,e],(),(),h1}
  ·rw[yB h1] at h;cases h
 ·rw[yB h0] at h
  by_cases h1:-(n:Int)<=i
  ·rw[yC h1] at h
   let e:(i+n).toNat=j:=z0 h;exact{by rw[seqIndex_neg () h1,e],(),h1,()}
  ·rw[yB h1] at h;cases h
def v7 (h:tV xs i=some v):∃j,seqIndex? i ⇑xs=some j/\xs[j]?=some v/\j<⇑xs/\-(⇑xs:Int)<=i/\i<⇑xs:=by
 unfold tV at h;cases e:Ig ⇑xs i with
 | none=>rw[e] at h;cases h
 | some j=>
  rw[e] at h;let⟨h1,h2,h3,h4⟩:=Jo e;exact{(j),h1,h,h2,h3,h4}
def aS {α:Type} {xs:List α} {j:Nat} {v:α} (h:xs[j]?=some v):tV xs (j:Int)=some v:=by
 let hj:j<⇑xs:=(zr.mp h).1;let e:Ig ⇑xs (j:Int)=some j:=by
  unfold Ig;rw[yC (),yC ()];simp
 unfold tV;rw[e];exact h
def BN (xs:List α) (v:α):tV (xs++[v]) (-1)=some v:=by
 let hl:⇑(xs++[v])=⇑xs+1:=by simp
 let e:Ig ⇑(xs++[v]) (-1)=some ⇑xs:=by
  unfold Ig;rw[hl,yB ∅,yC ()]
  congr 1
  ext
 unfold tV;rw[e];show(xs++[v])[⇑xs]?=some v;simp
def wW (b:Expr):Prop:=∀o i,subscripted b false o i=operate [o,i] (getItem o i)
def NM (X:Cx) (r:R2):Prop:=
 ∀(value slice:Expr) (pins:List (wJ×Obj)) (s:wD) (U:St) (H:Hp) (x y:V) (v u:wC) (Q:VK),Inv X pins U H s->RelV x v->RelV y u->r x y H Q->
  subscripted slice false v u=operate [v,u] (getItem v u)->wpAny (model X.prog X.w) X.A (subscriptTail value slice v u) (EP X pins U Q) X.xe s
def PJ (X:Cx) (id:String) (r:V->List V->Hp->VK->Prop):Prop:=
 ∀(pins:List (wJ×Obj)) (s:wD) (U:St) (H:Hp) (x:V) (xs:List V) (v:wC) (us:List wC) (Q:VK),Inv X pins U H s->RelV x v->Vals xs us->r x xs H Q->
  wpAny (model X.prog X.w) X.A (call (.builtin id) (v::us)) (EP X pins U Q) X.xe s
section
variable {X:Cx} {a b:Expr} {ta tb:TE} {pos:Pos}
def Eb (hr:NM X r) (ha:PE X a ta) (hb:PE X b tb) (hs:wW b):PE X (.Subscript a b pos) (kX r ta tb):=by
 intro pins s U H Q I h;exact Subscript_ (LH ha hb I h λv u s2 x y H2 I2 rx ry q=>hr a b pins s2 U H2 x y v u Q I2 rx ry q (hs _ _))
inductive MG (K:yo) (x y:V) (H:Hp) (Q:VK):Prop
 | mk (p:wJ) (xs:List V) (i:Int) (v:V) (_:x=.ref p) (_:y=.int i) (_:aE K H p xs) (_:tV xs i=some v) (_:Q v H)
inductive pC (K:yo) (x y:V) (H:Hp) (Q:VK):Prop
 | mk (p:wJ) (xs:List V) (i:Int) (v:V) (_:x=.ref p) (_:y=.int i) (_:cQ K H p xs) (_:tV xs i=some v) (_:Q v H)
def OB:R2:=λx y H Q=>∃z i c,x=.str z/\y=.int i/\⇑z<=sizeLine/\tV z.cps.toList i=some c/\Q (.str {#[c]}) H
def Jn:NM X (MG X.K):=by
 intro value slice pins s U H x y v u Q I rx ry h hs;let⟨p,xs,i,z,rfl,rfl,hq,he,q⟩:=h;cases rx;let⟨t,rfl⟩:=ry;let⟨its,r,pl,hz⟩:=I.list hq;let⟨j,h1,h2,h3,h4,h5⟩:=v7 he;let⟨w,ew,rw'⟩:=r.get h2;let hl:=⇑r;let hn:=pW;let fin:EP X pins U Q w s:={(z),H,I,rw',q}
 by_cases h0:0<=i
 ·let hj:i.toNat=j:=by
   rw[seqIndex_of h0 h5] at h1;exact z0 h1
  exact item_listR pl.isList h0 () (by rw[hj];simpa using ew) fin hs
 ·let hj:(i+(its.toArray.size:Int)).toNat=j:=by
   rw[seqIndex_neg () h4] at h1;rw[zR,<-hl];exact z0 h1
  exact subscriptTail_builtinR (x:=w) pl.isList.typeIs slot_list_getitem.lookup
   (wpAny_getItem_list_neg (Q:=λr s'=>r=w/\EP X pins U Q r s') pl.isList () (by rw[zR] <;> ext) () (by rw[hj];simpa using ew) {(rfl),fin}) hs
def Lf:NM X (pC X.K):=by
 intro value slice pins s U H x y v u Q I rx ry h hs;let⟨p,xs,i,z,rfl,rfl,hq,he,q⟩:=h;cases rx;let⟨t,rfl⟩:=ry;let⟨its,r,pl,hz⟩:=I.tuple hq;let⟨j,h1,h2,h3,h4,h5⟩:=v7 he;let⟨w,ew,rw'⟩:=r.get h2;let hl:=⇑r;let hn:=pW;let fin:EP X pins U Q w s:={(z),H,I,rw',q}
 exact subscriptTail_builtinR (x:=w) pl.typeIs slot_tuple_getitem.lookup
  (getItem_tuple (j:=j) (Q:=λr s'=>r=w/\EP X pins U Q r s') pl () () (by rw[zR,<-hl];exact h1) (by simpa using ew) {(rfl),fin}) hs
def He:NM X OB:=by
 intro value slice pins s U H x y v u Q I rx ry h hs;let⟨z,i,c,rfl,rfl,hz,he,q⟩:=h;let⟨t,rfl⟩:=rx;let⟨t',rfl⟩:=ry;let⟨j,h1,h2,h3,h4,h5⟩:=v7 he;let hl:⇑z.cps.toList=⇑z:=by simp[Str.length]
 rw[hl] at h1 h4 h5;let hn:=pW;exact tail_any (wa s z t) slot_str_getitem.lookup (getItem_str (c:=c) (by
  let e1:decide (i < -(2^63:Int))=false:=zc ();let e2:decide (i≥2^63)=false:=zc ();rw[e1,e2,Bool.or_false]) (by rw[h1];simpa using h2) {.str {#[c]},H,I.tok _,{_,rfl},q}) hs
def uA (lo hi:Option Int) (n:Nat):(sliceBounds lo hi none n).1=((HT.cO n 0 lo:Nat):Int)/\(sliceBounds lo hi none n).2.1=((HT.cO n n hi:Nat):Int)/\(sliceBounds lo hi none n).2.2=1:=by
 refine{?_,?_,rfl}
 ·cases lo with
  | none=>simp[sliceBounds,HT.cO]
  | some i=>
   simp only[sliceBounds,HT.cO,Option.getD_none,show(1:Int)>0 by decide,wo]
   by_cases h:i<0
   ·simp only[h,wo] <;> ext
   ·simp only[h,xN] <;> ext
 ·cases hi with
  | none=>simp[sliceBounds,HT.cO]
  | some i=>
   simp only[sliceBounds,HT.cO,Option.getD_none,show(1:Int)>0 by decide,wo]
   by_cases h:i<0
   ·simp only[h,wo] <;> ext
   ·simp only[h,xN] <;> ext
def rg (its:List wC) (lo hi:Option Int):slicePick its.toArray lo hi none=((its.drop (HT.cO ⇑its 0 lo)).take (HT.cO ⇑its ⇑its hi-HT.cO ⇑its 0 lo)).toArray:=by
 let⟨h1,h2,h3⟩:=uA lo hi its.toArray.size;unfold slicePick;rw[h1,h2,h3];simp only[sliceRange_one,pick_run,zR] <;> rfl
def Oy (K:yo):V->Option Int->Option Int->Hp->VK->Prop:=λx lo hi H Q=>∃a xs,x=.ref a/\aE K H a xs/\∀p,H p=none->Q (.ref p) (upd H p (.lst (f9 xs lo hi)))
def eU:HW X (Oy X.K):=by
 intro pins s U H x v vl vu lo hi sl Q I rx hs pl pu h;let⟨a,xs,rfl,hx,q⟩:=h;cases rx;let⟨its,r,ht,hz⟩:=I.list hx;let hlen:=⇑r;refine{"list",_,slot_list_getitem.lookup,ht.isList.typeIs,?_};refine wpAny_getItem_list_slice ht.isList hs pl pu .none (by simp) ?_ (by rw[zR] <;> ext);rw[rg,<-hlen];refine{.ref ↑s,_,I.laid (t':=s.toks) (o:=.lst (f9 xs lo hi)) (λb ob q=>yh _ q) (zh _) ?_,rfl,q _ (I.aP.fresh (zh _))};exact{zH (nA xs lo hi) hz,_,0,(r.drop (HT.cO ⇑xs 0 lo)).take (HT.cO ⇑xs ⇑xs hi-HT.cO ⇑xs 0 lo),yj _ rfl}
def jC:V->Bool
 | .aO=>true
 | .bl _=>true
 | .int _=>true
 | .str _=>true
 | _=>false
def Fm:V->V->Bool
 | .aO,.aO=>true
 | .bl a,.bl b=>a == b
 | .bl a,.int b=>(if a then 1 else 0) == b
 | .int a,.bl b=>a == (if b then 1 else 0)
 | .int a,.int b=>a == b
 | .str a,.str b=>a == b
 | _,_=>false
def HD (ry:RelV y u) (rx:RelV x v) (fy:jC y=true) (fx:jC x=true):SeqAt.EqAt A s u v (Fm y x):=by
 cases y with
 | aO=>
  cases ry;cases x with
  | aO=>cases rx;exact SeqAt.EqAt.same _
  | bl b=>cases rx;exact SeqAt.EqAt.none_bool b
  | int b=>let⟨t,rfl⟩:=rx;exact SeqAt.EqAt.none_int b t
  | str b=>let⟨t,rfl⟩:=rx;exact SeqAt.EqAt.none_str b t
  | _=>exact absurd (show false=true from fx) zG
 | bl a=>
  cases ry;cases x with
  | aO=>cases rx;exact SeqAt.EqAt.bool_none a
  | bl b=>cases rx;exact SeqAt.EqAt.bool_bool a b
  | int b=>let⟨t,rfl⟩:=rx;exact SeqAt.EqAt.bool_int a b t
  | str b=>let⟨t,rfl⟩:=rx;exact SeqAt.EqAt.bool_str a b t
  | _=>exact absurd (show false=true from fx) zG
 | int a=>
  let⟨t',rfl⟩:=ry;cases x with
  | aO=>cases rx;exact SeqAt.EqAt.int_none a t'
  | bl b=>cases rx;exact SeqAt.EqAt.int_bool a t' b
  | int b=>let⟨t,rfl⟩:=rx;exact SeqAt.EqAt.int_int a t' b t
  | str b=>let⟨t,rfl⟩:=rx;exact SeqAt.EqAt.int_str a t' b t
  | _=>exact absurd (show false=true from fx) zG
 | str a=>
  let⟨t',rfl⟩:=ry;cases x with
  | aO=>cases rx;exact SeqAt.EqAt.str_none a t'
  | bl b=>cases rx;exact SeqAt.EqAt.str_bool a t' b
  | int b=>let⟨t,rfl⟩:=rx;exact SeqAt.EqAt.str_int a t' b t
  | str b=>let⟨t,rfl⟩:=rx;exact SeqAt.EqAt.str_str a t' b t
  | _=>exact absurd (show false=true from fx) zG
 | _=>exact absurd (show false=true from fy) zG
def C5 (x:V) (u:wC):Bool:=match u with
 | .none=>Fm .aO x
 | .bool b=>Fm (.bl b) x
 | .int i _=>Fm (.int i) x
 | .str z _=>Fm (.str z) x
 | _=>false
def HC (r:RelV y u) (f:jC y=true):C5 x u=Fm y x:=by
 cases y with
 | aO=>cases r;rfl
 | bl b=>cases r;rfl
 | int i=>let⟨t,rfl⟩:=r;rfl
 | str z=>let⟨t,rfl⟩:=r;rfl
 | _=>exact absurd (show false=true from f) zG
theorem l4:∀{xs:List V} {us:List wC},Vals xs us->xs.all jC=true->us.any (C5 x)=xs.any λy=>Fm y x
 | _,_,.nil,_=>rfl
 | y::xs,u::us,.cons r t,f=>by
  rw[wd,zJ] at f;rw[y3,y3,HC r f.1,l4 t f.2]
theorem ju (rx:RelV x v) (fx:jC x=true):∀{xs:List V} {us:List wC},Vals xs us->xs.all jC=true->∀u∈us,SeqAt.EqAt A s u v (C5 x u)
 | _,_,.nil,_=>λu hu=>by cases hu
 | y::xs,u::us,.cons r t,f=>λu' hu=>by
  rw[wd,zJ] at f;rcases zw.mp hu with rfl | hu
  ·rw[HC r f.1];exact HD r rx f.1 fx
  ·exact ju rx fx t f.2 u' hu
def FT (x:V) (xs:List V):Bool:=xs.any λy=>Fm y x
inductive NI (K:yo) (neg:Bool) (x y:V) (H:Hp) (Q:VK):Prop
 | mk (p:wJ) (xs:List V) (_:y=.ref p) (_:aE K H p xs\/cQ K H p xs) (_:jC x=true) (_:xs.all jC=true) (_:Q (.bl (if neg then !FT x xs else FT x xs)) H)
def tf:mV X (compareOp .In) (NI X.K false):=by
 intro pins s U H x y v u Q I rx ry h;let⟨p,xs,rfl,hq,fx,fs,q⟩:=h;cases ry;rcases hq with hq | hq
 ·let⟨its,r,pl,hz⟩:=I.list hq
  refine SeqAt.in_listAt (C5 x) pl.isList (λw hw=>ju rx fx r fs w (by simpa using hw)) {.bl _,H,I,rfl,?_};rw[show its.toArray.any (C5 x)=its.any (C5 x) by simp,l4 r fs];exact q
 ·let⟨its,r,pl,hz⟩:=I.tuple hq
  refine SeqAt.in_tupleAt (C5 x) pl (λw hw=>ju rx fx r fs w (by simpa using hw)) {.bl _,H,I,rfl,?_};rw[show its.toArray.any (C5 x)=its.any (C5 x) by simp,l4 r fs];exact q
def dA:mV X (compareOp .NotIn) (NI X.K true):=by
 intro pins s U H x y v u Q I rx ry h;let⟨p,xs,rfl,hq,fx,fs,q⟩:=h;cases ry;rcases hq with hq | hq
 ·let⟨its,r,pl,hz⟩:=I.list hq
  refine SeqAt.notIn_listAt (C5 x) pl.isList (λw hw=>ju rx fx r fs w (by simpa using hw)) {.bl _,H,I,rfl,?_};rw[show its.toArray.any (C5 x)=its.any (C5 x) by simp,l4 r fs];exact q
 ·let⟨its,r,pl,hz⟩:=I.tuple hq
  refine SeqAt.notIn_tupleAt (C5 x) pl (λw hw=>ju rx fx r fs w (by simpa using hw)) {.bl _,H,I,rfl,?_};rw[show its.toArray.any (C5 x)=its.any (C5 x) by simp,l4 r fs];exact q
def aw:b9 X (.builtin "len") (λxs H Q=>∃p ys,xs=[.ref p]/\(aE X.K H p ys\/cQ X.K H p ys)/\Q (.int ⇑ys) H):=by
 intro pins s U H xs us Q I r h;let⟨p,ys,rfl,hq,q⟩:=h;let⟨u,rfl,rx⟩:=vals1 r;cases rx;let hn:=pW;rcases hq with hq | hq
 ·let⟨its,r',pl,hz⟩:=I.list hq
  let hlen:=⇑r';exact Calls.call_len_list pl.isList (by simp only[zR] <;> ext) {.int ⇑ys,H,I.tok _,{s.toks+1,by rw[zR,hlen]},q}
 ·let⟨its,r',pl,hz⟩:=I.tuple hq
  let hlen:=⇑r';exact len_tuple pl (by simp only[zR] <;> ext) {.int ⇑ys,H,I.tok _,{s.toks+1,by rw[zR,hlen]},q}
def dF:b9 X (.builtin "len") (λxs H Q=>∃z,xs=[.str z]/\⇑z<=sizeLine/\Q (.int ⇑z) H):=by
 intro pins s U H xs us Q I r h;let⟨z,rfl,hz,q⟩:=h;let⟨u,rfl,t,rfl⟩:=vals1 r;let hn:=pW;exact len_str () {.int ⇑z,H,I.tok _,{_,rfl},q}
def vS:b9 X (.type "list") (λxs H Q=>∃p ys,xs=[.ref p]/\(aE X.K H p ys\/cQ X.K H p ys)/\∀l,H l=none->Q (.ref l) (upd H l (.lst ys))):=by
 intro pins s U H xs us Q I r h;let⟨p,ys,rfl,hq,q⟩:=h;let⟨u,rfl,rx⟩:=vals1 r;cases rx;let fin:∀(its:List wC),Vals ys its->⇑ys<=sizeLine->∀(h':wK) (c':Nat),(∀b o',s.heap.get? b=some o'->h'.get? b=some o')->
   h'.get? ↑s=some {cls:=.type "list",dict:=none,data:=.seq its.toArray c',slots:=#[]}->EP X pins U Q (.ref ↑s) {s with heap:=h'}:=λits r' hz h' c' kp e=>
  {.ref ↑s,_,I.laid (t':=s.toks) kp (zh _) (show aT X.prog X.w _ h' _ (.lst ys) from{(hz),its,c',r',e}),rfl,q _ (I.aP.fresh (zh _))}
 rcases hq with hq | hq
 ·let⟨its,r',pl,hz⟩:=I.list hq
  let hlen:=⇑r';let⟨o,ho,hc,n,hd⟩:=pl.isList;exact call_list_seq p (.inl rfl) ho hc hd (λh' c' kp e=>fin its r' hz h' c' kp e) (by simp only[zR] <;> ext)
 ·let⟨its,r',pl,hz⟩:=I.tuple hq
  let hlen:=⇑r';let⟨o,ho,hc,n,hd⟩:=pl;exact call_list_seq p (.inr rfl) ho hc hd (λh' c' kp e=>fin its r' hz h' c' kp e) (by simp only[zR] <;> ext)
def eA:b9 X (.type "tuple") (λxs H Q=>∃p ys,xs=[.ref p]/\((aE X.K H p ys/\∀l,H l=none->Q (.ref l) (upd H l (.tup ys)))\/(cQ X.K H p ys/\Q (.ref p) H))):=by
 intro pins s U H xs us Q I r h;let⟨p,ys,rfl,h⟩:=h;let⟨u,rfl,rx⟩:=vals1 r;cases rx;rcases h with⟨hq,q⟩ | ⟨hq,q⟩
 ·let⟨its,r',pl,hz⟩:=I.list hq
  let hlen:=⇑r';refine call_tuple_list pl.isList (λh' kp=>?_) (by simp only[zR] <;> ext);let I1:Inv X pins U H {s with heap:=h'}:=I.kept (t':=s.toks) kp;let I2:Inv X pins U (upd H h'.objs.size (.tup ys)) {s with heap:=h'.push {cls:=.type "tuple",data:=.seq its.toArray}}:=
   I1.laid (t':=s.toks) (λb o e=>yh _ e) (zh _) (show aT X.prog X.w _ _ _ (.tup ys) from{hz,its,r',IsTup.new _ _})
  exact{.ref h'.objs.size,_,I2,rfl,q _ (I1.aP.fresh (zh _))}
 ·let⟨its,r',pl,hz⟩:=I.tuple hq
  exact call_tuple_same pl {.ref p,H,I,rfl,q}
def Oc (K:yo) (T:String) (x:V) (H:Hp):Prop:=match x with
 | .str _=>T ="str"
 | .int _=>T ="int"
 | .ref p=>(T ="list"/\∃xs,aE K H p xs)\/(T ="tuple"/\∃o,K.lookup p=some o/\o.cls=.type "tuple"/\o.dict=none)\/
   (T ="dict"/\((∃kvs,H p=some (.dK kvs))\/∃kvs,H p=some (.dT kvs)))\/(T ="set"/\∃S n,H p=some (.set S n))
 | _=>False
def Ko (I:Inv X pins U H s) (r:RelV x v) (ty:Oc X.K T x H) :
  s.TypeIs v T/\∀a,v=.ref a->∃ob,s.heap.get? a=some ob/\ob.dict=none:=by
 cases x with
 | str z=>
  let⟨t,rfl⟩:=r;cases(show T ="str" from ty);exact{wa s z t,λ_ e=>nomatch e}
 | int i=>
  let⟨t,rfl⟩:=r;cases(show T ="int" from ty);exact{typeIs_int s i t,λ_ e=>nomatch e}
 | ref p=>
  cases r;rcases ty with⟨rfl,xs,hq⟩ | ⟨rfl,o,hk,hc,hd⟩ | ⟨rfl,hk⟩ | ⟨rfl,S,n,hk⟩
  ·let⟨its,_,pl,_⟩:=I.list hq
   refine{pl.isList.typeIs,λa e=>?_};cases e;let⟨o,n,e,c,hd,_⟩:=pl;exact{(o),e,hd}
  ·refine{{o,I.gL p o hk,hc},λa e=>?_}
   cases e;exact{o,I.gL _ o hk,hd}
  ·let z:∃o,s.heap.get? p=some o/\o.ExactDict:=by
    rcases hk with⟨kvs,hk⟩ | ⟨kvs,hk⟩
    ·let⟨_,_,_,_,o,_,_,e,ex,_⟩:=I.aP p _ hk
     exact{(o),e,ex}
    ·let⟨_,_,_,_,o,_,_,e,ex,_⟩:=I.aP p _ hk
     exact{(o),e,ex}
   let⟨o,e,ex⟩:=z;refine{{(o),e,ex.1},λa e2=>?_};cases e2;exact{(o),e,ex.2.1}
  ·let⟨o,_,_,_,e,ex,_⟩:=I.aP p _ hk
   refine{{(o),e,ex.1},λa e2=>?_};cases e2;exact{(o),e,ex.2.1}
 | _=>exact False.elim ty
def O4 (K:yo) (T:String) (r:V->List V->Hp->VK->Prop) (to:TE) (t:TA):TE:=λU H Q=>to U H λx H1=>Oc K T x H1/\t U H1 λxs H2=>r x xs H2 Q
variable {o e:Expr} {es:List Expr} {to:TE} {t:TA} {name:Str} {apos cpos:Pos} {T id:String} {r:V->List V->Hp->VK->Prop}
def fM (pa:PlainAttrs T) (slot:Slot T name id) (hty:typeOf (.builtin id)=pure (.type "method_descriptor")) (hm:PJ X id r) (ho:PE X o to) (ha:PA X (e::es) t)
  (hbase:attributeBase o name X.env (eval o X.env)=eval o X.env<|>qe_)
  (hfew:((backTo cpos (starEach (e::es) X.env)).all (λx=>!x.1)&&(backToKw cpos (keywordEach [] X.env)).all (λx=>x.1.isSome)
   &&decide (⇑(e::es)+⇑([]:List Keyword)+(if([]:List Keyword).isEmpty then 0 else 1)<30))=true<|>qe_)
  (hline:(apos.endLine == cpos.line)=true<|>qe_) (hs:starEach (e::es) X.env=(false,eval e X.env)::starEach es X.env<|>qe_) (hplain:(backTo cpos (starEach es X.env)).any (·.1)=false<|>qe_) :
  PE X (.Call (.Attribute o name apos) (e::es) [] cpos) (O4 X.K T r to t):=by
 intro pins s U H Q I h;refine wpAny_Call_method_late hbase hfew hline rfl (bR (ho pins s U H _ I h) λv s1 zz=>?_);let⟨x,H1,I1,r1,ty,q1⟩:=zz;let⟨h1,h2⟩:=Ko I1 r1 ty;refine{T,id,pa,slot,hty,h1,h2,?_};let hA:=ha cpos pins s1 U H1 _ I1 q1;rw[hs] at hA ⊢;refine x8 (by show(false||(backTo cpos (starEach es X.env)).any (·.1))=false;rw[hplain] <;> rfl) (Calls.evalArgs_plain ?_);exact bR hA λus s2 ⟨vs,H2,I2,r2,q2⟩=>hm pins s2 U H2 x vs v us Q I2 r1 r2 q2
end
end L2
namespace L2
open PySem PySem.Spec PyProof.Rows
def LO (X:Cx) (id:String) (r:V->List V->Hp->VK->Prop):Prop:=
 ∀(pins:List (wJ×Obj)) (s:wD) (U:St) (H:Hp) (x:V) (xs:List V) (v:wC) (us:List wC) (Q:VK),Inv X pins U H s->RelV x v->Vals xs us->r x xs H Q->
  wpAny (model X.prog X.w) X.A (call (.builtin id) (v::us)) (EP X pins U Q) X.xe s
theorem Vals.one:∀{x:V} {us:List wC},Vals [x] us->∃u,us=[u]/\RelV x u
 | _,_,.cons r .nil=>{_,rfl,r}
section
variable {X:Cx} {pins:List (wJ×Obj)} {U:St} {H:Hp} {s:wD} {l b:wJ} {xs ys zs:List V}
def Inv.K8 {its its':List wC} {n:Nat} {f:Array wC->Array wC} {t':Nat} (I:Inv X pins U H s) (hH:H l=some (.lst xs))
  (e:s.heap.get? l=some {cls:=.type "list",data:=.seq its.toArray n}) (hf:f its.toArray=its'.toArray) (hv:Vals ys its') (hz:⇑ys<=sizeLine) :
  Inv X pins U (upd H l (.lst ys)) {s with heap:=s.heap.update l (Obj.mapSeq f),toks:=t'}:=by
 let q:=PySem.IsL.update e f;rw[hf] at q;refine I.write (x:=l) (e:=l) (by rw[hH];exact trivial) (.inl rfl) (λb' u hb hu=>(ym s.heap (Obj.mapSeq f) (Ne.symm hb)).trans hu) {_,q} ?_;exact{hz,its',_,hv,q}
def Inv.M3 (I:Inv X pins U H s) (hv:Vals ys its) (hz:⇑ys<=sizeLine) :
  Inv X pins U (upd H ↑s (.lst ys)) {s with heap:=s.heap.push {cls:=.type "list",data:=.seq its.toArray},toks:=t'}:=
 I.laid (λ_ _ q=>yh _ q) (zh _) {hz,its,0,hv,yj _ rfl}
theorem Inv.fresh (I:Inv X pins U H s):H ↑s=none:=I.aP.fresh (zh _)
def Inv.Jh (I:Inv X pins U H s) (hH:H l=some (.lst xs)):⇑xs<=sizeLine/\∃(its:List wC) (n:Nat),Vals xs its/\⇑xs=⇑its/\s.heap.get? l=some {cls:=.type "list",data:=.seq its.toArray n}:=by
 let⟨z,its,n,r,e⟩:=I.aP l _ hH;exact{(z),its,n,r,⇑r,e}
def A2 (h:n<=sizeLine):Builtin.List.listTooLong n=false:=by
 unfold Builtin.List.listTooLong;exact zc ()
end
section
variable {X:Cx}
inductive IU (x:V) (vs:List V) (H:Hp) (Q:VK):Prop
 | mk (l:wJ) (xs:List V) (y:V) (_:x=.ref l) (_:vs=[y]) (_:H l=some (.lst xs)) (_:⇑xs<sizeLine) (_:Q .aO (upd H l (.lst (xs++[y]))))
def jS:LO X "list.append" IU:=by
 intro pins s U H x vs v us Q I rx rv h;let⟨l,xs,y,rfl,rfl,hH,hz,q⟩:=h;cases rx;let⟨u,rfl,ru⟩:=rv.one;let⟨z,its,n,r,hl,e⟩:=I.Jh hH;refine xR F.slot_list_append {_,e,rfl} F.entry_list_append (F.args_list_append_2 _ _) (PySem.list_append l its.toArray n u (by rw[zR];ext)) {e,?_};refine{.aO,_,I.K8 (its':=its++[u]) hH e (by simp) (r.append (.cons ru .nil)) ?_,rfl,q};rw[ze,List.length_singleton];ext
inductive D7 (x:V) (vs:List V) (H:Hp) (Q:VK):Prop
 | mk (l b:wJ) (xs zs:List V) (_:x=.ref l) (_:vs=[.ref b]) (_:H l=some (.lst xs)) (_:H b=some (.lst zs)) (_:⇑xs+⇑zs<=sizeLine) (_:Q .aO (upd H l (.lst (xs++zs))))
def E9:LO X "list.extend" D7:=by
 intro pins s U H x vs v us Q I rx rv h;let⟨l,b,xs,zs,rfl,rfl,hH,hB,hz,q⟩:=h;cases rx;let⟨u,rfl,ru⟩:=rv.one;cases ru;let⟨z,its,n,r,hl,e⟩:=I.Jh hH;let⟨z2,its2,n2,r2,hl2,e2⟩:=I.Jh hB;let hsz:its.toArray.size+its2.toArray.size<=sizeLine:=by rw[zR,zR];ext
 let hlong:¬(!its.toArray.isEmpty&&Builtin.List.listTooLong (its.toArray.size+its2.toArray.size))=true:=by
  rw[A2 hsz,xY];exact zG
 refine xR F.slot_list_extend {_,e,rfl} F.entry_list_extend (F.args_list_extend_2 _ _)
  (AutoSeq1.list_extend_list_list_0 l its.toArray n b its2.toArray n2 hlong (by rw[zR];ext) ()) {e,e2,?_}
 refine{.aO,_,I.K8 (its':=its++its2) hH e (by simp) (r.append r2) ?_,rfl,q};rw[ze];ext
end
section
variable {prog:wF} {w:wG} {A:wH} {E:wC->wD->Prop} {s:wD}
end
section
variable {X:Cx}
end
end L2
namespace Pf
open PySem PySem.W PySem.Calls PyProof.Rows
def nV:∀(ns:List Int) (vs:List wC),WellAll P h vs (ns.map WData.int)->IntsAre vs ns:=by
 intro ns
 induction ns with
 | nil=>
  intro vs w;rw[ya] at w;cases w;exact .nil
 | cons n ns ih=>
  intro vs w;rw[zf] at w;cases w with
  | cons a b=>
   cases a;exact .cons _ _ (ih _ b)
def ES {l:OpenLaw} {n:Nat} (hn:l.most=some n) {P:Params} {h:wK} {args:List WData} {vals:List wC}
  (hpre:l.row.toRowW.claim.pre args=true) (hwl:WellAll P h vals args) :
  ∃a vs ns,vals=[Value.ref a]/\args=[WData.list (ns.map WData.int)]/\h.get? a=some {cls:=.type "list",data:=.seq vs.toArray}/\IntsAre vs ns/\⇑ns<=n:=by
 let hsh:WShape.hasAll [] args [.list .int]=true:=(pre_splitW hpre).1;let hc:l.pre.holds [] {args:=args}=true:=(pre_splitW hpre).2;let⟨d,r,rfl,h1,h2⟩:=hasAllW_cons hsh;obtain rfl:=hasAllW_nil h2;let⟨xs,rfl,h3⟩:=hasW_list h1;let⟨ns,rfl⟩:=items_int h3;let hlen:⇑ns<=n:=by
  unfold OpenLaw.pre at hc;let h4:(WTm.not (.lt (.lit (.int (n:Int))) (.len (.arg 0)))).holds [] {args:=[.list (ns.map .int)]}=true:=by
   let h4:=(holds_andW hc).1;rw[hn] at h4;exact h4
  let h5:=condW_of h4 (w_not (w_lt w_lit (w_len_list (w_arg rfl))));rw[za] at h5;refine Nat.le_of_not_lt λq=>?_;let q':(n:Int)<((⇑ns:Nat):Int):=()
  first
   | (rw[zd q'] at h5;exact absurd h5 ∅)
   | (simp at h5;ext)
 cases hwl with
 | cons w1 w2=>
  cases w2;cases w1 with
  | list ho hall=>exact{_,_,ns,rfl,rfl,ho,nV ns _ hall,hlen}
def E2 (l:OpenLaw) (args:List WData):l.row.toRowW.claim.post args (.bool true) args=true:=
 postW_of (r:=l.row.toRowW) (X:=(true == true))
  (show WShape.has [] (.bool true) .bool=true by first | rfl | decide | simp[WShape.has,WShape.arms,WShape.armsAll])
  (show(WTm.eq .res (.lit (.bool true))).value [] {args:=args,res:=some (.bool true),after:=args}=some (.bool (true == true)) from w_eq_bool (w_res rfl) w_lit) rfl
def BM {l:OpenLaw} {n:Nat} {q:wF} {loose:List Str} {XP:(Str->Option wC)->wK->Prop} {YP:wG->wK->Prop} {d:DefRec}
  (hn:l.most=some n) (hdf:d.params.defaults=[])
  (call:∀(w:wG) (s₀ s₁:wD) (mg mb:Str->Option wC) (fa:wJ) (o:Obj) (pm cd doc:wC) (a:wJ) (vs:List wC) (ns:List Int),
   Ground q loose [] XP w s₀ mg mb s₁.heap->YP w s₁.heap->
   s₁.heap.get? fa=some o->o.data=.func (docDef d.name d.params d.body d.scope pm cd doc)->s₁.heap.CodeRec cd d.name->mg d.name=some (.ref fa)->
   s₁.heap.get? a=some {cls:=.type "list",data:=.seq vs.toArray}->IntsAre vs ns->⇑ns<=n->s₁.gens=#[]->
   codeAny (model l.prog w) callerA (.call (.ref fa) {[.ref a],[]}) (λr s'=>r=.ok (.ret (.bool true))/\OldK s₁.heap s'.heap/\s'.os=s₁.os/\AllBare s'.gens) s₁) :
  WalkO q loose XP YP l.row.toRowW d [] (λf vs=>PySem.call f vs):=by
 intro w s₀ s₁ mg mb G Y fa o pm cd doc dV kV ho hd hcd hD hmg hg args vals as hpre hlay hrd hwl hlo;obtain rfl:dV=.none:=Dflts.none hD hdf;obtain rfl:kV=.none:=Dflts.noKw hD;let⟨a,vs,ns,rfl,rfl,hobj,hints,hlen⟩:=ES hn hpre hwl;refine enter_call (xt (call w s₀ s₁ mg mb fa o pm cd doc a vs ns G Y ho (fd_plain hd) hcd hmg hobj hints hlen hg) λr s' hq=>?_);let⟨rfl,h2,h3,h4⟩:=hq;exact{.inl {.bool true,.bool true,[],rfl,λ_=>rfl,.bool true,E2 l _,λ_=>{List.Pairwise.nil,λ_ hm=>(nomatch hm)}},h2,h3,h4}
section
variable {prog:wF} {w:wG} {A:wH} {E:wC->wD->Prop} {s:wD} {K:Frag}
end
end Pf
namespace L2
open PySem PySem.Spec PyProof.Rows
theorem sO:∀{vs:List wC} {ns:List Int},IntsAre vs ns->Vals (ns.map V.int) vs
 | _,_,.nil=>.nil
 | _,_,.cons n t h=>.cons {(t),rfl} (sO h)
def LM (H:Hp):Prop:=∀b,H b=none\/∃o xs,H b=some (.i9 o (.lst xs))
def G8 {P:wF} {w:wG} {K:yo} {mg mb:Str->Option wC} {CX:B5} {k:Nat} {fa a:wJ} {fd:wI} {x:Str} {sp:Sp} {s₁:wD} {vs:List wC} {ns:List Int}
  (KX:K.In s₁.heap) (hns:s₁.heap.Ns mainGlobals mg) (hb:s₁.heap.Ns builtinsNs mb) (hbb:∀x:Str,x≠ "__name__"->mb x=bootBuiltins x) (hlim:s₁.heap.NoLimit) (hg:s₁.gens=#[])
  (ha:s₁.heap.get? a=some {cls:=.type "list",data:=.seq vs.toArray}) (hi:IntsAre vs ns) (hl:⇑ns<=sizeLine) (hr:cN k callerA)
  (F:∀base:wK,K.In base->base.Ns mainGlobals mg->bC P w K mg base CX k fa fd [x] sp) (hbind:∀(s:wD) (u:wC),BindsTo s fd {[u],[]} [(x,u)])
  (hsp:∀H:Hp,LM H->aE K H a (ns.map V.int)->sp [.ref a] H (λv _=>v=.bl true) λ_ _ _=>False)
  (hCX:∀H e s',CX [] H s₁ (λ_ _ _=>False) e s'->False) :
  codeAny (model P w) callerA (.call (.ref fa) {[.ref a],[]}) (λr s'=>r=.ok (.ret (.bool true))/\OldK s₁.heap s'.heap/\s'.os=s₁.os/\AllBare s'.gens) s₁:=by
 let rv:=sO hi;let lenV:=⇑hi;let core:∀H:Hp,LM H->aE K H a (ns.map V.int)->j2 P w H s₁.heap->(∀b,H b≠none->b=a)->(H a≠none->K.lookup a=none)->
   codeAny (model P w) callerA (.call (.ref fa) {[.ref a],[]}) (λr s'=>r=.ok (.ret (.bool true))/\OldK s₁.heap s'.heap/\s'.os=s₁.os/\AllBare s'.gens) s₁:=by
  intro H hO hS aP hA hK;let base_of:∀{b:wJ} {o:Obj},s₁.heap.get? b=some o->H b=none->(vt s₁.heap H).get? b=some o:=λe n=>Hi e n;let noA:∀{b:wJ} {o:Obj} {es:Array DictEntry} {ep:Nat},s₁.heap.get? b=some o->o.data=.dict es ep->H b=none:=λ{b o es ep} e d=>by
   cases q:H b with
   | none=>rfl
   | some u=>
    let e':b=a:=hA b (by rw[q];simp);subst e';rw[ha] at e;cases e;let d':Data.seq vs.toArray _=Data.dict es ep:=d;cases d'
  let nsK:∀{b:wJ} {m:Str->Option wC},s₁.heap.Ns b m->(vt s₁.heap H).Ns b m:=λ{b m} ⟨o,es,ep,e,d,r⟩=>{o,es,ep,base_of e (noA e d),d,r}
  let hKb:K.In (vt s₁.heap H):=λb o e=>base_of (KX b o e) (by
   cases q:H b with
   | none=>rfl
   | some u=>
    let e':b=a:=hA b (by rw[q];simp);subst e';rw[hK (by rw[q];simp)] at e;cases e)
  let hM:Mod K mg (vt s₁.heap H):={hKb,nsK hns,{mb,nsK hb,hbb},let ⟨mc,h1,h2⟩:=hlim;{mc,nsK h1,h2}}
  let e0:B3 P w K mg (vt s₁.heap H) callerA [] s₁ H:={rfl,hM,λb o e=>Jd e,Nat.le_of_eq (Fh _ _),trivial,λb hb=>absurd (show b∈([]:List wJ) from hb) (by simp),aP,.of_eq hg}
  refine xt ((F _ hKb (nsK hns)).run callerA [] s₁ H {[.ref a],[]} [.ref a] [.ref a] _ _ hr e0 (hbind s₁ (.ref a)) (.cons rfl .nil) (hsp H hO hS)) λr s' h=>?_;cases r with
  | error e=>exact(hCX H e s' h).elim
  | ok fl=>
   cases fl with
   | next=>exact False.elim h
   | brk=>exact False.elim h
   | cont=>exact False.elim h
   | ret u=>
    let⟨v,H',os,bare,un,hok',r',q⟩:=h;let q':v=.bl true:=q;subst q';obtain rfl:u=Value.bool true:=r';refine{rfl,OldK.of_keep λb o e=>?_,os,bare};cases q:H b with
    | none=>exact un.keep b o e q (by intro z;exact absurd (show b∈([]:List wJ) from z) (by simp)) (by simp)
    | some u=>
     rcases hO b with z | ⟨ob,xs,z⟩
     ·rw[q] at z;cases z
     ·let z2:=un.gS b ob _ z
      let⟨e1,_⟩:=aP b _ z;let⟨e2,_⟩:=hok' b _ z2;rw[e] at e1;cases e1;exact e2
 cases hk:K.lookup a with
 | some o=>
  let e:=KX a o hk;rw[ha] at e;cases e;refine core (λ_=>none) (λ_=>.inl rfl) (.inr {_,vs.toArray,_,hk,rfl,rfl,rfl,by rw[zR,lenV];exact hl,by simpa using rv}) (λb u z=>by let z':(none:Option HO)=some u:=z;cases z') (λb z=>absurd rfl z) λz=>absurd rfl z
 | none=>
  refine core (λb=>if b=a then some (.i9 {cls:=.type "list",data:=.seq vs.toArray} (.lst (ns.map V.int))) else none) (λb=>?_) (.inl (.inr {{cls:=.type "list",data:=.seq vs.toArray},yC rfl})) (λb u z=>?_) (λb z=>?_) λ_=>hk
  ·by_cases hb:b=a
   ·exact .inr {_,_,yC hb}
   ·exact .inl (yB hb)
  ·by_cases hb:b=a
   ·let z':=(yC hb).symm.trans z
    cases z';subst hb;exact{ha,by rw[za];exact hl,vs,_,rv,ha}
   ·let z':=(yB hb).symm.trans z
    cases z'
  ·by_cases hb:b=a
   ·exact hb
   ·exact absurd (yB hb) z
end L2
namespace L2
open PySem PySem.Spec PyProof.Rows
def Iq {l:PySem.W.OpenLaw} {n k:Nat} {q:wF} {loose:List Str} {XP:(Str->Option wC)->wK->Prop} {YP:wG->wK->Prop} {d:DefRec} {K:Params->yo} {CX:wG->B5} {sp:wG->Sp} {x:Str}
  (hn:l.most=some n) (hn2:n<=sizeLine) (hdf:d.params.defaults=[]) (hr:cN k callerA)
  (hY:∀(w:wG) (h:wK),YP w h->(K w.params).In h)
  (F:∀(w:wG) (mg:Str->Option wC) (fa:wJ) (h:wK),(K w.params).In h->h.Ns mainGlobals mg->mg d.name=some (.ref fa)->
   ∃fd:wI,(∀(s:wD) (u:wC),BindsTo s fd {[u],[]} [(x,u)])/\
    ∀base:wK,(K w.params).In base->base.Ns mainGlobals mg->bC l.prog w (K w.params) mg base (CX w) k fa fd [x] (sp w))
  (hsp:∀(w:wG) (H:Hp) (a:wJ) (ns:List Int),⇑ns<=n->LM H->aE (K w.params) H a (ns.map V.int)->sp w [.ref a] H (λv _=>v=.bl true) λ_ _ _=>False)
  (hCX:∀(w:wG) (H:Hp) (s:wD) (e:wC) (s':wD),CX w [] H s (λ_ _ _=>False) e s'->False) :
  PySem.W.WalkO q loose XP YP l.row.toRowW d [] (λf vs=>PySem.call f vs):=by
 refine Pf.BM hn hdf λw s₀ s₁ mg mb fa o pm cd doc a vs ns G Y ho hd hcd hmg hobj hints hlen hg=>?_;let KX:=hY w _ Y;let⟨fd,hb,hF⟩:=F w mg fa _ KX G.T.g hmg;exact G8 KX G.T.g G.T.b G.T.builtins G.T.nolimit hg hobj hints (zH hlen hn2) hr hF hb (λH hO hS=>hsp w H a ns hlen hO hS) λH e s'=>hCX w H s₁ e s'
end L2
namespace L2
open PySem PySem.Spec PyProof.Rows
def inClass (s:Stmt) (j:Nat):Stmt:=match s with
 | .ClassDef _ _ _ body _ _ _ _ _ _ _=>body.getD j (.Pass {0,0,0,0})
 | _=>.Pass {0,0,0,0}
def bJ (s:Stmt):Arguments:=match s with
 | .FunctionDef _ a _ _ _ _ _ _ _ _=>a
 | _=>{posonlyargs:=[],args:=[],vararg:=none,kwonlyargs:=[],kw_defaults:=[],kwarg:=none,defaults:=[]}
def bj (s:Stmt):List Stmt:=match s with
 | .FunctionDef _ _ b _ _ _ _ _ _ _=>b
 | _=>[]
def aA (s:Stmt):Scope:=match s with
 | .FunctionDef _ _ _ _ _ _ sc _ _ _=>sc
 | _=>{kind:=.function,names:=[],isGenerator:=false,isCoroutine:=false}
abbrev sL:B5:=λ_ _ _ _ _ _=>False
abbrev E0:XK:=λ_ _ _=>False
def sX:Passes sL X E0:=λ_ _ _ _ _ _ _ h=>h.elim
structure FO (K:yo) (x qual:Str) (st:Stmt) (f:wJ) (fd:wI):Prop where
 ex:∃(oc:wC) (od:Option wJ) (kV doc pm:wC) (an:Option wJ) (cdv ct:wC) (osl:Array (Option wC)),
  fd=PySem.W.fnOf x qual (bJ st) (bj st) (aA st) .none kV doc pm an cdv ct/\K.lookup f=some {oc,od,.func fd,osl}/\PySem.W.codeIn K cdv qual=true
 kp:PySem.W.keepIn K (.ref f)=true
section
variable {P:wF} {w:wG} {K:yo} {mg:Str->Option wC} {base:wK}
def FO.ok {x qual:Str} {st:Stmt} {f:wJ} {fd:wI} {N ps:List Str} {k:Nat} {sp:Sp} (F:FO K x qual st f fd) (S:cA N ps (aA st)) (len:∀vs H Q E,sp vs H Q E->⇑vs=⇑ps)
  (hbody:∀(cdv:wC) (A:wH) (outer:List Env) (s:wD) (H:Hp) (vs:List V) (Q:VK) (E:XK),cN k (A.deeper (envOfC qual (aA st) ↑s f cdv))->sp vs H Q E->
   ∃t,sI (eP sL P w K mg base N qual (aA st) f cdv A outer s H E).wZ (bj st) t/\t {nx:=λ_ H'=>Q .aO H',rt:=Q} (start N vs) H):bC P w K mg base sL (k+1) f fd ps sp:=by
 let⟨oc,od,kV,doc,pm,an,cdv,ct,osl,rfl,lk,hcd⟩:=F.ex;refine Hq lk hcd S len λA outer s H vs Q E hr hsp=>?_;let⟨t,h,q⟩:=hbody cdv A outer s H vs Q E hr hsp;exact{(t),h.wZ,q}
def FO.binds {x qual:Str} {st:Stmt} {f:wJ} {fd:wI} {ps:List Str} (F:FO K x qual st f fd)
  (h:∀(kV doc pm:wC) (an:Option wJ) (cdv ct:wC) (us:List wC),⇑us=⇑ps->bindArgs (PySem.W.fnOf x qual (bJ st) (bj st) (aA st) .none kV doc pm an cdv ct) {us,[]}=pure (ps.zip us)):Binds K fd ps []:=by
 let⟨oc,od,kV,doc,pm,an,cdv,ct,osl,rfl,lk,hcd⟩:=F.ex;exact .all (h kV doc pm an cdv ct)
def gH {x qual:Str} {st:Stmt} {f:wJ} {oc:wC} {od an:Option wJ} {osl:Array (Option wC)} {kV doc pm cdv ct:wC} (l:K.lookup f=some {oc,od,.func (PySem.W.fnOf x qual (bJ st) (bj st) (aA st) .none kV doc pm an cdv ct),osl})
  (c:PySem.W.codeIn K cdv qual=true) (k:PySem.W.keepIn K (.ref f)=true):FO K x qual st f (PySem.W.fnOf x qual (bJ st) (bj st) (aA st) .none kV doc pm an cdv ct):={{(oc),od,kV,doc,pm,an,cdv,ct,osl,rfl,l,c},k}
end
def iX (hr:cN k A):A.units+1<cLine:=Nat.lt_of_le_of_lt (Nat.add_le_add_left (by decide:1<=64) _) hr.units
section
variable {X:Cx}
def pv (i:Nat) (hN:X.N[i]?=some x<|>qe_) (hv:LK X.env.scope x<|>qf_) (hd:(x == ("__debug__": Str))=false<|>qb_)
  (hcd:(x == ("__classdict__": Str))=false<|>qb_):PE X (.Name x pos) (cj i):=K2 hN hv hd hcd
end
def M6 {A B:Prop} (h:B):if false=true then A else B:=by
 rw[yB zG];exact h
def OK {A B:Prop} (h:A):if true=true then A else B:=by
 rw[yC rfl];exact h
def pX {c A B:Prop} [Decidable c] (h1:c->A) (h2:¬c->B):if c then A else B:=by
 by_cases h:c
 ·rw[yC h]
  exact h1 h
 ·rw[yB h]
  exact h2 h
def Ka {c A B:Prop} [Decidable c] (hc:c) (h:B):if(!decide c)=true then A else B:=by
 rw[zd hc];exact M6 h
def au (H H':Hp):Prop:=∀b o,H b=some o->H' b=some o
def au.refl (H:Hp):au H H:=λ_ _ h=>h
def au.trans (a:au H H1) (b:au H1 H2):au H H2:=λc o h=>b c o (a c o h)
def au.seq {K:yo} {H H':Hp} {a:wJ} {xs:List V} (e:au H H') (h:aE K H a xs):aE K H' a xs:=by
 rcases h with(h | ⟨o,h⟩) | h
 ·exact .inl (.inl (e _ _ h))
 ·exact .inl (.inr {o,e _ _ h})
 ·exact .inr h
end L2
namespace Lm
def red (t b:Int):Int×Int:=(t/(Int.gcd t b:Int),b/(Int.gcd t b:Int))
def vv {t b:Int} (hb:0<b):0<(Int.gcd t b:Int):=by
 have:0<Int.gcd t b:=Int.gcd_pos_of_ne_zero_right t ();ext
def IQ {t b k:Int} (hk:0<k) (hb:0<b):red (k*t) (k*b)=red t b:=by
 let g0:=vv (t:=t) hb;let e:(Int.gcd (k*t) (k*b):Int)=k*(Int.gcd t b:Int):=by
  rw[Int.gcd_mul_left];simp only[Int.natCast_mul];rw[Int.natAbs_of_nonneg ()]
 unfold red;rw[e,Int.mul_ediv_mul_of_pos _ _ hk,Int.mul_ediv_mul_of_pos _ _ hk]
def uP {t b:Int} (hb:0<b):∃g,0<g/\t=g*(red t b).1/\b=g*(red t b).2/\0<(red t b).2/\(red t b).2<=b:=by
 let g0:=vv (t:=t) hb;let d1:(Int.gcd t b:Int) ∣ t:=Int.gcd_dvd_left ..;let d2:(Int.gcd t b:Int) ∣ b:=Int.gcd_dvd_right ..;let e1:(Int.gcd t b:Int)*(t/(Int.gcd t b:Int))=t:=Int.mul_ediv_cancel' d1;let e2:(Int.gcd t b:Int)*(b/(Int.gcd t b:Int))=b:=Int.mul_ediv_cancel' d2;refine{_,g0,e1.symm,e2.symm,?_,?_}
 ·exact Int.ediv_pos_of_pos_of_dvd hb () d2
 ·exact Int.ediv_le_self _ ()
def CJ {t b:Int} (ht:0<=t):0<=(red t b).1:=Int.ediv_nonneg ht (Int.natCast_nonneg _)
def GA {t b:Int} (ht:0<=t):(red t b).1<=t:=Int.ediv_le_self _ ht
def IP {t b:Int} (hb:0<b):red (red t b).1 (red t b).2=red t b:=by
 let⟨g,g0,e1,e2,p,_⟩:=uP (t:=t) hb;let h:=IQ (t:=(red t b).1) (b:=(red t b).2) g0 p;rw[<-e1,<-e2] at h;exact h.symm
def add (x y:Int×Int):Int×Int:=red (x.1*y.2+y.1*x.2) (x.2*y.2)
end Lm
namespace Lm
def Rd (x:Int×Int):Prop:=∃t b,0<=t/\0<b/\x=red t b
def Rd.of {t b:Int} (ht:0<=t) (hb:0<b):Rd (red t b):={(t),b,ht,hb,rfl}
def Rd.pos {x:Int×Int} (h:Rd x):0<=x.1/\0<x.2/\red x.1 x.2=x:=by
 let⟨t,b,ht,hb,rfl⟩:=h;let⟨g,g0,e1,e2,p,_⟩:=uP (t:=t) hb;exact{CJ ht,p,IP hb}
def Rd.zero:Rd (0,1):={0,1,∅,∅,∅}
theorem Rd.add {x y:Int×Int} (h:Rd x) (k:Rd y):Rd (add x y):=by
 let⟨a,b,_⟩:=h.pos;let⟨c,d,_⟩:=k.pos;refine{_,_,?_,y9 b d,rfl};exact Int.add_nonneg (xF a ()) (xF c ())
def Hm {x y:Int} (hx:0<=x) (hy:0<y):Int.gcd y (x%y)=Int.gcd x y:=by
 let e:(x%y).natAbs=x.natAbs%y.natAbs:=by
  let⟨a,rfl⟩:=yz hx;let⟨b,rfl⟩:=yz (yP hy);rfl
 show Nat.gcd y.natAbs (x%y).natAbs=Nat.gcd x.natAbs y.natAbs;rw[e,Nat.gcd_comm x.natAbs,Nat.gcd_rec y.natAbs x.natAbs,Nat.gcd_comm]
def Lk {t b:Int} (hb:0<b):(Int.gcd t b:Int)<=b:=by
 let h:Int.gcd t b<=b.natAbs:=Nat.gcd_le_right _ ();ext
end Lm
namespace Lm
end Lm
namespace Lm
theorem En {c:Nat}:∀{p q A B:List Nat},c∉p->c∉q->p++c::A=q++c::B->p=q/\A=B
 | [],[],A,B,_,_,h=>{rfl,by simpa using h}
 | [],y::q,A,B,_,hq,h=>by
  simp at h;exact absurd (by rw[h.1];exact zk) hq
 | x::p,[],A,B,hp,_,h=>by
  simp at h;exact absurd (by rw[<-h.1];exact zk) hp
 | x::p,y::q,A,B,hp,hq,h=>by
  simp only[List.cons_append,List.cons.injEq] at h;let⟨e,h⟩:=h;let⟨e1,e2⟩:=En (λz=>hp (zj _ z)) (λz=>hq (zj _ z)) h;exact{by rw[e,e1],e2}
def Hj:∀(n:Nat),0<n->∃c r,Nat.toDigits 10 n=c::r/\c≠'0':=by
 intro n
 induction n using Nat.strongRecOn with
 | _ n ih=>
  intro hn
  by_cases h:n<10
  ·rw[Nat.toDigits_of_lt_base h]
   refine{_,[],rfl,?_};exact(by decide:∀n<10,0<n->Nat.digitChar n≠'0') n h hn
  ·let hd:n%10<10:=Nat.mod_lt _ ∅
   let⟨c,r,e,hc⟩:=ih (n/10) () ();let t:=Nat.toDigits_append_toDigits (b:=10) (n:=n/10) (d:=n%10) ∅ () hd;rw[Nat.div_add_mod,e] at t;exact{c,r++Nat.toDigits 10 (n%10),by rw[<-t];rfl,hc}
def K9 {n k:Nat} (hk:0<k):n<10^k->⇑(Nat.toDigits 10 n)<=k:=by
 intro h
 induction k generalizing n with
 | zero=>ext
 | succ k ih=>
  by_cases h10:n<10
  ·rw[Nat.toDigits_of_lt_base h10];simp
  ·let hd:n%10<10:=Nat.mod_lt _ ∅
   let hk0:0<k:=by
    rcases Nat.eq_zero_or_pos k with rfl | z
    ·simp at h;ext
    ·exact z
   have:=ih hk0 (n:=n/10) (by rw[Nat.div_lt_iff_lt_mul ∅];rw[Nat.pow_succ] at h;exact h);let t:=Nat.toDigits_append_toDigits (b:=10) (n:=n/10) (d:=n%10) ∅ () hd;rw[Nat.div_add_mod] at t;rw[<-t,ze,Nat.toDigits_of_lt_base hd];simp;ext
end Lm
namespace L2
open PySem
def eL (t:Bool) (h:wK) (a:wJ) (items:Array wC):Prop:=match t with
 | true=>h.IsTuple a items
 | false=>h.IsList a items
def bX (t:Bool) (h:wK) (it a:wJ) (k:Nat):Prop:=match t with
 | true=>h.IsTupleIter it a k
 | false=>h.IsListIter it a k
def lQ (t:Bool) (a:wJ):Obj:=match t with
 | true=>{cls:=.type "tuple_iterator",data:=.fields #[.ref a,.int 0 0]}
 | false=>{cls:=.type "list_iterator",data:=.fields #[.ref a,.int 0 0]}
theorem eL.at {t:Bool} {h h':wK} {a:wJ} {items:Array wC} (x:eL t h a items) (e:∀o,h.get? a=some o->h'.get? a=some o):eL t h' a items:=by
 cases t
 ·exact Heap.IsList.at x e
 ·let⟨o,ho,r⟩:=x;exact{o,e o ho,r}
theorem bX.at {t:Bool} {h h':wK} {it a:wJ} {k:Nat} (x:bX t h it a k) (e:∀o,h.get? it=some o->h'.get? it=some o):bX t h' it a k:=by
 cases t
 ·exact Heap.IsListIter.at x e
 ·exact Heap.IsTupleIter.at x e
def eL.but {t:Bool} {h h':wK} {a b:wJ} {items:Array wC} (x:eL t h a items) (hs:Heap.SameBut b h h') (n:a≠b):eL t h' a items:=x.at λo e=>hs.extBut a o n e
def bX.but {t:Bool} {h h':wK} {it a b:wJ} {k:Nat} (x:bX t h it a k) (hs:Heap.SameBut b h h') (n:it≠b):bX t h' it a k:=x.at λo e=>hs.extBut it o n e
theorem bX.get {t:Bool} {h:wK} {it a:wJ} {k:Nat} (x:bX t h it a k):∃o,h.get? it=some o/\∀v,o.data≠.cell v:=by
 cases t
 ·let⟨o,e,_,d⟩:=x;exact{o,e,λv z=>by rw[d] at z;cases z}
 ·let⟨o,e,_,d⟩:=x;exact{o,e,λv z=>by rw[d] at z;cases z}
def bX.new (t:Bool) (h:wK) (a:wJ):bX t (h.push (lQ t a)) h.objs.size a 0:=by
 cases t
 ·exact{_,yj _ rfl,rfl,rfl}
 ·exact{_,yj _ rfl,rfl,rfl}
section
variable {prog:wF} {w:wG} {A:wH} {E:wC->wD->Prop} {s:wD}
def DW {t:Bool} {a:wJ} {items:Array wC} {Q:wC->wD->Prop} (hl:eL t s.heap a items) (hQ:Q (.ref ↑s) {s with heap:=s.heap.push (lQ t a)}) :
  wpAny (model prog w) A (pyIter (.ref a)) Q E s:=by
 cases t
 ·exact xZ hl hQ
 ·exact wpAny_pyIter_tuple hl hQ
def uj {t:Bool} {it a:wJ} {i:Nat} {items:Array wC} {x:wC} {Q:wC->wD->Prop} (hit:bX t s.heap it a i) (hl:eL t s.heap a items) (hx:items[i]?=some x)
  (hQ:∀h',bX t h' it a (i+1)->Heap.SameBut it s.heap h'->Q x {s with heap:=h'}):wpAny (model prog w) A (Builtin.SmallTypes.nextOf (.ref it)) Q E s:=by
 cases t
 ·exact wpAny_nextOf_list_item hit hl hx hQ
 ·let hit':s.heap.IsTupleIter it a i:=hit
  let⟨o,ho,hc,hd⟩:=id hit';let⟨ol,hol,_,nl,hdl⟩:=(show s.heap.IsTuple a items from hl)
  unfold Builtin.SmallTypes.nextOf;refine yg (yM (name:=Str.ofString "__next__") hit'.typeIs xG (yQ xG hit'.typeIs F.entry_tuple_iterator_next ?_ (F.args_tuple_iterator_next_1 _)));show wpAny _ _ (field (.ref it) 0 >>= _) _ _ s;refine yg (yO ho hd (x:=.ref a) rfl ?_);show wpAny _ _ (if(Value.ref a == Value.none)=true then _ else _) _ _ s;rw[yB (show¬((Value.ref a == Value.none)=true) from zG)];show wpAny _ _ (field (.ref it) 1 >>= _) _ _ s;refine yg (yO ho hd (x:=.int i 0) rfl ?_);show wpAny _ _ (seqItems? (.ref a) >>= _) _ _ s;refine yg (y4 hol hdl ?_);simp only[xC,hx];refine yg (wpAny_setField ho hd (by simp) (yi {x,rfl,yi (hQ _ ?_ (wm ..))}));exact{_,yn _ ho (Obj.isFreed_of_fields (wx hd _)),(Obj.cls_mapFields ..).trans hc,by rw[wx hd];simp[rawInt]}
def DV {t:Bool} {it a:wJ} {i:Nat} {items:Array wC} {Q:wC->wD->Prop} (hh:A.handled=none) (hit:bX t s.heap it a i) (hl:eL t s.heap a items) (hx:items[i]?=none)
  (hE:∀h' e,Heap.ExtBut it s.heap h'->(∃o,h'.get? e=some o/\o.cls=.type "StopIteration")->E (.ref e) {s with heap:=h'}):wpAny (model prog w) A (Builtin.SmallTypes.nextOf (.ref it)) Q E s:=by
 cases t
 ·exact wpAny_nextOf_list_end hh hit hl hx hE
 ·let hit':s.heap.IsTupleIter it a i:=hit
  let⟨o,ho,hc,hd⟩:=id hit';let⟨ol,hol,_,nl,hdl⟩:=(show s.heap.IsTuple a items from hl)
  unfold Builtin.SmallTypes.nextOf;refine yg (yM (name:=Str.ofString "__next__") hit'.typeIs xG (yQ xG hit'.typeIs F.entry_tuple_iterator_next ?_ (F.args_tuple_iterator_next_1 _)));show wpAny _ _ (field (.ref it) 0 >>= _) _ _ s;refine yg (yO ho hd (x:=.ref a) rfl ?_);show wpAny _ _ (if(Value.ref a == Value.none)=true then _ else _) _ _ s;rw[yB (show¬((Value.ref a == Value.none)=true) from zG)];show wpAny _ _ (field (.ref it) 1 >>= _) _ _ s;refine yg (yO ho hd (x:=.int i 0) rfl ?_);show wpAny _ _ (seqItems? (.ref a) >>= _) _ _ s;refine yg (y4 hol hdl ?_);simp only[xC,hx];refine yg (wpAny_rule (yg (wpAny_setField ho hd (by simp) ?_)));show wpAny _ _ (newExc (.type "StopIteration") [] >>= _) _ _ _;refine yg ?_;simp only[newExc,newTuple];refine yg (yR ?_ (by size_fits));refine yg (m:=firstArgMember _ _) (wpAny_of_eq (a:=Value.none) (by first | rfl | (simp only[firstArgMember];rfl)) (yR ?_ (by size_fits)));simp only[raiseNew];refine yg (wpAny_handled ?_)
  first | rw[show A.in1.handled=none from hh] | rw[hh]
  exact yg (yi (wpAny_throw (hE _ _ (((wm ..).extBut.push _).push _) {_,yj _ rfl,rfl})))
structure LW (z TI TO i1 i2:wJ):Prop where
 a1:TI≠z
 a2:TO≠z
 a3:i1≠z
 a4:i2≠z
 a5:TI≠TO
 a6:TI≠i1
 a7:TI≠i2
 a8:TO≠i1
 a9:TO≠i2
 b1:i1≠i2
structure HY (l z TO i1 i2:wJ):Prop where
 a1:l≠z
 a2:l≠TO
 a3:l≠i1
 a4:l≠i2
def B0 (z TO i1 i2:wJ) (h h':wK):Prop:=∀c o,c≠z->c≠TO->c≠i1->c≠i2->h.get? c=some o->h'.get? c=some o
structure Kd (t1 t2:Bool) (h:wK) (z TI TO i1 i2 l1 l2:wJ) (k:Nat) (f0:wC):Prop where
 z:IsZip h z TI TO f0
 ti:IsPair h TI (.ref i1) (.ref i2)
 to:∃a b,IsPair h TO a b
 i1:bX t1 h i1 l1 k
 i2:bX t2 h i2 l2 k
def F0 {t1 t2:Bool} {z TI TO i1 i2 l1 l2:wJ} {k:Nat} {xs ys:Array wC} {x y:wC} {Q:wC->wD->Prop} (D:LW z TI TO i1 i2) (L1:HY l1 z TO i1 i2) (L2:HY l2 z TO i1 i2)
  (S:Kd t1 t2 s.heap z TI TO i1 i2 l1 l2 k .none) (hl1:eL t1 s.heap l1 xs) (hl2:eL t2 s.heap l2 ys) (hx:xs[k]?=some x) (hy:ys[k]?=some y)
  (hQ:∀h',Kd t1 t2 h' z TI TO i1 i2 l1 l2 (k+1) (rawInt ↑s)->IsPair h' ↑s x y->B0 z TO i1 i2 s.heap h'->Q (.ref ↑s) {s with heap:=h'}) :
  wpAny (model prog w) A (Builtin.«zip.__next__» {[.ref z],[]}) (λfin s'=>∃v,fin=.done (.ret v)/\Q v s') E s:=by
 let⟨hz,hTI,⟨a,b,hTO⟩,h1,h2⟩:=S;show wpAny _ _ (field (.ref z) 2 >>= _) _ _ _;refine yg (yO hz rfl (x:=.bool false) rfl ?_);show wpAny _ _ (field (.ref z) 3 >>= _) _ _ _;refine yg (yO hz rfl (x:=.ref TI) rfl (yg (y4 hTI rfl ?_)));show wpAny _ _ (Builtin.SmallTypes.ownedTupleIsFree (.ref z) >>= _) _ _ _;refine yg ?_;unfold Builtin.SmallTypes.ownedTupleIsFree;refine yg (yO hz rfl (x:=.none) rfl (yi ?_));simp only[wo];refine yg (wpAny_rule (yg (yO hz rfl (x:=.ref TO) rfl (yg (xj hz (by simp) λg1 z1 q1=>?_)))));replace z1:IsZip g1 z TI TO .ellipsis:=z1;refine yg ?_;simp only[List.zipIdx_cons,List.zipIdx_nil,List.forIn_cons,List.forIn_nil];refine yg (yg (wpAny_onRaise ?_));show wpAny _ _ (Builtin.SmallTypes.nextOf (.ref i1) >>= _) _ _ _;refine yg (uj (h1.but q1 D.a3) (hl1.but q1 L1.a1) hx λg2 p2 q2=>yi ?_);let o2:IsPair g2 TO a b:=q2.extBut _ _ D.a8 (q1.extBut _ _ D.a2 hTO);refine yg (y4 o2 rfl (yg (wpAny_updateSeq_pair o2 λg3 o3 q3=>yg (wpAny_letGo (yi (yg (yg (wpAny_onRaise ?_))))))));replace o3:IsPair g3 TO x b:=o3;show wpAny _ _ (Builtin.SmallTypes.nextOf (.ref i2) >>= _) _ _ _;refine yg (uj (((h2.but q1 D.a4).but q2 D.b1.symm).but q3 D.a9.symm) (((hl2.but q1 L2.a1).but q2 L2.a3).but q3 L2.a2) hy λg4 p4 q4=>yi ?_);let o4:IsPair g4 TO x b:=q4.extBut _ _ D.a9 o3;refine yg (y4 o4 rfl (yg (wpAny_updateSeq_pair o4 λg5 o5 q5=>yg (wpAny_letGo (yi (yi ?_))))));replace o5:IsPair g5 TO x y:=o5;refine yg (y4 o5 rfl (yg (wpAny_newTuple ?_)));let sz:g5.objs.size=↑s:=by rw[q5.1,q4.1,q3.1,q2.1,q1.1]
 let z5:IsZip g5 z TI TO .ellipsis:=q5.extBut _ _ D.a2.symm (q4.extBut _ _ D.a4.symm (q3.extBut _ _ D.a2.symm (q2.extBut _ _ D.a3.symm z1)));let k5:B0 z TO i1 i2 s.heap g5:=λc o c1 c2 c3 c4 e=>q5.extBut _ _ c2 (q4.extBut _ _ c4 (q3.extBut _ _ c2 (q2.extBut _ _ c3 (q1.extBut _ _ c1 e))));let r1:bX t1 g5 i1 l1 (k+1):=((p2.but q3 D.a8.symm).but q4 D.b1).but q5 D.a8.symm;let r2:bX t2 g5 i2 l2 (k+1):=p4.but q5 D.a9.symm;let zl:z<g5.objs.size:=yk z5;show wpAny _ _ (Builtin.SmallTypes.ownedTupleHandOut (.ref z) (.ref g5.objs.size) >>= _) _ _ _;refine yg ?_;unfold Builtin.SmallTypes.ownedTupleHandOut;let z6:IsZip (g5.push {cls:=.type "tuple",data:=.seq #[x,y]}) z TI TO .ellipsis:=yh _ z5;refine yg (xj z6 (by simp) λg7 z7 q7=>?_);replace z7:IsZip g7 z TI TO (rawInt g5.objs.size):=z7;refine xj z7 (by simp) λg8 z8 q8=>?_;replace z8:IsZip g8 z TI TO (rawInt g5.objs.size):=z8;let up:∀c o,c≠z->g5.get? c=some o->g8.get? c=some o:=λc o c1 e=>q8.extBut _ _ c1 (q7.extBut _ _ c1 (yh _ e));let t8:IsPair g8 g5.objs.size x y:=q8.extBut _ _ (zY zl) (q7.extBut _ _ (zY zl) (yj _ rfl));rw[sz] at z8 t8;refine yi {_,rfl,?_};show Q (.ref g5.objs.size) _;rw[sz];exact hQ g8 {z8,up _ _ D.a1 (k5 _ _ D.a1 D.a5 D.a6 D.a7 hTI),{_,_,up _ _ D.a2 o5},r1.at λo e=>up _ o D.a3 e,r2.at λo e=>up _ o D.a4 e} t8 λc o c1 c2 c3 c4 e=>up c o c1 (k5 c o c1 c2 c3 c4 e)
def FZ {t1 t2:Bool} {z TI TO i1 i2 l1 l2:wJ} {k:Nat} {xs ys:Array wC} {Q:Fin->wD->Prop} (hh:A.handled=none) (D:LW z TI TO i1 i2) (L1:HY l1 z TO i1 i2) (L2:HY l2 z TO i1 i2)
  (S:Kd t1 t2 s.heap z TI TO i1 i2 l1 l2 k .none) (hl1:eL t1 s.heap l1 xs) (hl2:eL t2 s.heap l2 ys) (hend:xs[k]?=none\/ys[k]?=none)
  (hE:∀h' e,B0 z TO i1 i2 s.heap h'->(∃o,h'.get? e=some o/\o.cls=.type "StopIteration")->E (.ref e) {s with heap:=h'}) :
  wpAny (model prog w) A (Builtin.«zip.__next__» {[.ref z],[]}) Q E s:=by
 let⟨hz,hTI,⟨a,b,hTO⟩,h1,h2⟩:=S;show wpAny _ _ (field (.ref z) 2 >>= _) _ _ _;refine yg (yO hz rfl (x:=.bool false) rfl ?_);show wpAny _ _ (field (.ref z) 3 >>= _) _ _ _;refine yg (yO hz rfl (x:=.ref TI) rfl (yg (y4 hTI rfl ?_)));show wpAny _ _ (Builtin.SmallTypes.ownedTupleIsFree (.ref z) >>= _) _ _ _;refine yg ?_;unfold Builtin.SmallTypes.ownedTupleIsFree;refine yg (yO hz rfl (x:=.none) rfl (yi ?_));simp only[wo];refine yg (wpAny_rule (yg (yO hz rfl (x:=.ref TO) rfl (yg (xj hz (by simp) λg1 z1 q1=>?_)))));replace z1:IsZip g1 z TI TO .ellipsis:=z1;refine yg ?_;simp only[List.zipIdx_cons,List.zipIdx_nil,List.forIn_cons,List.forIn_nil];refine yg (yg (wpAny_onRaise ?_));show wpAny _ _ (Builtin.SmallTypes.nextOf (.ref i1) >>= _) _ _ _;cases hx:xs[k]? with
 | none=>
  refine yg (DV hh (h1.but q1 D.a3) (hl1.but q1 L1.a1) hx λg2 e q2 he=>?_);let⟨oe,hoe,hce⟩:=he;let z2:IsZip g2 z TI TO .ellipsis:=q2 _ _ D.a3.symm z1;let hez:e≠z:=λx=>by subst x;rw[z2] at hoe;cases hoe;simp at hce
  exact xj z2 (by simp) λg3 _ q3=>hE g3 e (λc o c1 _ c3 _ x=>q3.extBut _ _ c1 (q2 _ _ c3 (q1.extBut _ _ c1 x))) {oe,q3.extBut _ _ hez hoe,hce}
 | some x=>
  let hy:ys[k]?=none:=by rcases hend with h | h;rw[hx] at h;cases h;exact h
  refine yg (uj (h1.but q1 D.a3) (hl1.but q1 L1.a1) hx λg2 p2 q2=>yi ?_);let o2:IsPair g2 TO a b:=q2.extBut _ _ D.a8 (q1.extBut _ _ D.a2 hTO);refine yg (y4 o2 rfl (yg (wpAny_updateSeq_pair o2 λg3 o3 q3=>yg (wpAny_letGo (yi (yg (yg (wpAny_onRaise ?_))))))));show wpAny _ _ (Builtin.SmallTypes.nextOf (.ref i2) >>= _) _ _ _;refine yg (DV hh (((h2.but q1 D.a4).but q2 D.b1.symm).but q3 D.a9.symm) (((hl2.but q1 L2.a1).but q2 L2.a3).but q3 L2.a2) hy λg4 e q4 he=>?_);let⟨oe,hoe,hce⟩:=he;let z4:IsZip g4 z TI TO .ellipsis:=q4 _ _ D.a4.symm (q3.extBut _ _ D.a2.symm (q2.extBut _ _ D.a3.symm z1));let hez:e≠z:=λx=>by subst x;rw[z4] at hoe;cases hoe;simp at hce
  exact xj z4 (by simp) λg5 _ q5=>hE g5 e (λc o c1 c2 c3 c4 x=>q5.extBut _ _ c1 (q4 _ _ c4 (q3.extBut _ _ c2 (q2.extBut _ _ c3 (q1.extBut _ _ c1 x))))) {oe,q5.extBut _ _ hez hoe,hce}
def F3 {t1 t2:Bool} {z TI TO i1 i2 l1 l2:wJ} {k:Nat} {xs ys:Array wC} {x y:wC} {Q:Option wC->wD->Prop} (D:LW z TI TO i1 i2) (L1:HY l1 z TO i1 i2) (L2:HY l2 z TO i1 i2)
  (S:Kd t1 t2 s.heap z TI TO i1 i2 l1 l2 k .none) (hl1:eL t1 s.heap l1 xs) (hl2:eL t2 s.heap l2 ys) (hx:xs[k]?=some x) (hy:ys[k]?=some y)
  (hQ:∀h',Kd t1 t2 h' z TI TO i1 i2 l1 l2 (k+1) (rawInt ↑s)->IsPair h' ↑s x y->B0 z TO i1 i2 s.heap h'->Q (some (.ref ↑s)) {s with heap:=h'}) :
  wpAny (model prog w) A (pyNext (.ref z)) Q E s:=by
 let hT:s.TypeIs (.ref z) "zip":={_,S.z,rfl}
 unfold pyNext;exact yg (wb (yM (name:=Str.ofString "__next__") hT xk (yQ xk hT F.entry_zip_next (F0 D L1 L2 S hl1 hl2 hx hy λh' a1 a2 a3=>yi (hQ h' a1 a2 a3)) (F.args_zip_next_1 _))))
def F2 {t1 t2:Bool} {z TI TO i1 i2 l1 l2:wJ} {k:Nat} {xs ys:Array wC} {Q:Option wC->wD->Prop} (hh:A.handled=none) (D:LW z TI TO i1 i2) (L1:HY l1 z TO i1 i2) (L2:HY l2 z TO i1 i2)
  (S:Kd t1 t2 s.heap z TI TO i1 i2 l1 l2 k .none) (hl1:eL t1 s.heap l1 xs) (hl2:eL t2 s.heap l2 ys) (hend:xs[k]?=none\/ys[k]?=none)
  (hQ:∀h',B0 z TO i1 i2 s.heap h'->Q none {s with heap:=h'}):wpAny (model prog w) A (pyNext (.ref z)) Q E s:=by
 let hT:s.TypeIs (.ref z) "zip":={_,S.z,rfl}
 unfold pyNext;refine yg (wb (yM (name:=Str.ofString "__next__") hT xk (yQ xk hT F.entry_zip_next (FZ hh D L1 L2 S hl1 hl2 hend λh' e hk he=>?_) (F.args_zip_next_1 _))));let⟨o,ho,hc⟩:=he;exact yg (wpAny_isInstance (T:="StopIteration") (b:=true) {(o),ho,hc} isSubtype_stop (yi (hQ _ hk)))
end
abbrev NG (t1:Bool) (h:wK) (l1:wJ):wK:=h.push (lQ t1 l1)
abbrev L3 (t1 t2:Bool) (h:wK) (l1 l2:wJ):wK:=(NG t1 h l1).push (lQ t2 l2)
abbrev NF (t1 t2:Bool) (h:wK) (l1 l2:wJ):wK:=(L3 t1 t2 h l1 l2).push {cls:=.type "tuple",data:=.seq #[.ref h.objs.size,.ref (NG t1 h l1).objs.size]}
abbrev ND (t1 t2:Bool) (h:wK) (l1 l2:wJ):wK:=(NF t1 t2 h l1 l2).push {cls:=.type "tuple",data:=.seq #[.none,.none]}
abbrev Kh (t1 t2:Bool) (h:wK) (l1 l2:wJ):wK:=(ND t1 t2 h l1 l2).push {cls:=.type "zip",data:=.fields #[.none,.bool false,.bool false,.ref (L3 t1 t2 h l1 l2).objs.size,.ref (NF t1 t2 h l1 l2).objs.size]}
def F4 (t1 t2:Bool) (l1 l2:wJ) (xs ys:Array wC) :
  Meets (Builtin.«zip.__new__» {[.type "zip",.ref l1,.ref l2],[]}) (λ_ R s=>eL t1 s.heap l1 xs/\eL t2 s.heap l2 ys/\R (.ok (.ret (.ref (ND t1 t2 s.heap l1 l2).objs.size))) {s with heap:=Kh t1 t2 s.heap l1 l2}):=
 .of_wp λprog w A R s h=>by
  let⟨hp,g,d,tk,os⟩:=s;let⟨a1,a2,h⟩:=h;let hsub:=sub_zip;let b1:eL t1 (Shared.heap {(hp),g,d,tk,os}) l1 xs:=a1;let b2:eL t2 (Shared.heap {hp.push (lQ t1 l1),g,d,tk,os}) l2 ys:=a2.at λo e=>yh _ e;wp_walk using DW b1,DW b2;exact{_,rfl,h}
def F5 {prog:wF} {w:wG} {A:wH} {E:wC->wD->Prop} {s:wD} {t1 t2:Bool} {l1 l2:wJ} {xs ys:Array wC} {Q:wC->wD->Prop} (hl1:eL t1 s.heap l1 xs) (hl2:eL t2 s.heap l2 ys)
  (h:∀h',Kd t1 t2 h' (↑s+4) (↑s+2) (↑s+3) ↑s (↑s+1) l1 l2 0 .none->(∀c o,s.heap.get? c=some o->h'.get? c=some o)->Q (.ref (↑s+4)) {s with heap:=h'}) :
  wpAny (model prog w) A (call (.type "zip") [.ref l1,.ref l2]) Q E s:=by
 refine callType_new F.called_zip ∅ (F.typeCall_zip_2 _ _) (F.newCall_zip_2 _ _) (λobj=>F.args_object_init_3 obj _ _) F.entry_zip_new (F4 t1 t2 l1 l2 xs ys) {hl1,hl2,?_};let z1:(NG t1 s.heap l1).objs.size=↑s+1:=yW ..;let z2:(L3 t1 t2 s.heap l1 l2).objs.size=↑s+2:=by rw[yW,z1]
 let z3:(NF t1 t2 s.heap l1 l2).objs.size=↑s+3:=by rw[yW,z2]
 let z4:(ND t1 t2 s.heap l1 l2).objs.size=↑s+4:=by rw[yW,z3]
 let up:∀c o,(L3 t1 t2 s.heap l1 l2).get? c=some o->(Kh t1 t2 s.heap l1 l2).get? c=some o:=λc o e=>yh _ (yh _ (yh _ e));let g5:(Kh t1 t2 s.heap l1 l2).get? (ND t1 t2 s.heap l1 l2).objs.size=some _:=yj _ rfl;let g4:(Kh t1 t2 s.heap l1 l2).get? (NF t1 t2 s.heap l1 l2).objs.size=some _:=yh _ (yj _ rfl);let g3:(Kh t1 t2 s.heap l1 l2).get? (L3 t1 t2 s.heap l1 l2).objs.size=some _:=yh _ (yh _ (yj _ rfl));let g2:bX t2 (Kh t1 t2 s.heap l1 l2) (NG t1 s.heap l1).objs.size l2 0:=(bX.new t2 _ l2).at (up _);let g1:bX t1 (Kh t1 t2 s.heap l1 l2) ↑s l1 0:=((bX.new t1 _ l1).at λo e=>yh _ e).at (up _);show _/\_;rw[z2,z3,z4] at g5;rw[z1,z2] at g3;rw[z3] at g4;rw[z1] at g2;rw[z4];exact{{_,g5,rfl},h _ {g5,g3,{_,_,g4},g1,g2} λc o x=>up c o (yh _ (yh _ x))}
end L2
namespace L2
open PySem PySem.Spec PyProof.Rows
def cI (h:H p=none):au H (upd H p o):=λb u e=>by rw[aq (aJ e h)];exact e
def laid {H:Hp} {o:HO} {Q:VK} (k:∀p H',au H H'->H' p=some o->Q (.ref p) H'):∀p,H p=none->Q (.ref p) (upd H p o):=λp hp=>k p _ (cI hp) az
section
variable {X:Cx} {pins:List (wJ×Obj)} {U:St} {H:Hp} {s:wD} {h':wK}
def Inv.Aa {T:wJ} {o:HO} {ch:List wJ} {t':Nat} (I:Inv X pins U H s) (hf:∀b∈ch,sJ X pins H b) (hT:↑s<=T) (k:∀b u,b∉ch->s.heap.get? b=some u->h'.get? b=some u)
  (new:aT X.prog X.w (upd H T o) h' T o):Inv X pins U (upd H T o) {s with heap:=h',toks:=t'}:=by
 let hn:H T=none:=I.aP.fresh hT;let neT:∀b u,s.heap.get? b=some u->b≠T:=λb u e=>zZ (zS (yk e) hT);let nch:∀b u,H b=some u->b∉ch:=λb u e hb=>by rw[(hf b hb).1] at e;cases e
 refine I.step (g':=s.gens) (d':=s.drawn) (ch:=ch) (λb hb=>?_) (λb u _ _ hc e _=>k b u hc e) (λb u _ _ hc e _=>{u.slots,k b u hc e}) (λb u hc e n=>by rw[aq (neT b u e)];exact n) (λb u hc e=>{u,k b u hc e})
  (λb xs e=>by rw[aq (aJ e hn)];exact e) (λb ob u e=>by rw[aq (aJ e hn)];exact e) (λb ps e=>{#[],by rw[aq (aJ e hn),e];simp}) (λm hm=>?_) (λb u e=>?_) I.bare
 ·let⟨f0,f1,f2,f3,f4,f5⟩:=hf b hb
  exact{(f3),f1,f4,f5}
 ·let⟨ob,es,ep,ho,r⟩:=hm
  exact{ob,es,ep,k _ _ (λz=>(hf _ z).2.1 rfl) ho,r}
 ·by_cases hb:b=T
  ·subst hb;rw[az] at e;cases e;exact new
  ·rw[aq hb] at e
   refine(I.aP b u e).fY (λc v hc q=>k c v ?_ q) (λc q=>by rw[aq (aJ q hn)];exact q) λc xs q=>by rw[aq (aJ q hn)];exact q
   rcases hc with z | z
   ·rw[z];exact nch b u e
   ·exact nch c _ z
def Inv.turns {ch:List wJ} {t':Nat} (I:Inv X pins U H s) (hf:∀b∈ch,sJ X pins H b) (k:∀b u,b∉ch->s.heap.get? b=some u->h'.get? b=some u):Inv X pins U H {s with heap:=h',toks:=t'}:=by
 let nch:∀b u,H b=some u->b∉ch:=λb u e hb=>by rw[(hf b hb).1] at e;cases e
 refine I.step (g':=s.gens) (d':=s.drawn) (ch:=ch) (λb hb=>?_) (λb u _ _ hc e _=>k b u hc e) (λb u _ _ hc e _=>{u.slots,k b u hc e}) (λb u hc e n=>n) (λb u hc e=>{u,k b u hc e})
  (λb xs e=>e) (λb ob u e=>e) (λb ps e=>{#[],by rw[e];simp}) (λm hm=>?_) (λb u e=>?_) I.bare
 ·let⟨f0,f1,f2,f3,f4,f5⟩:=hf b hb
  exact{(f3),f1,f4,f5}
 ·let⟨ob,es,ep,ho,r⟩:=hm
  exact{ob,es,ep,k _ _ (λz=>(hf _ z).2.1 rfl) ho,r}
 ·refine(I.aP b u e).fY (λc v hc q=>k c v ?_ q) (λc q=>q) λc xs q=>q
  rcases hc with z | z
  ·rw[z];exact nch b u e
  ·exact nch c _ z
def vY:bootBuiltins "enumerate"= some (.type "enumerate"):=by decide +kernel
def LG:bootBuiltins "zip"= some (.type "zip"):=by decide +kernel
def LQ (K:yo) (a:wJ):It:=
 {λi H=>∃xs x,aE K H a xs/\xs[i]?=some x,λi H x H'=>∃p v,H p=none/\x=.ref p/\H'=upd H p (.tup [.int (i:Int),v])/\∀xs,aE K H a xs->xs[i]?=some v,λi H=>∃xs,aE K H a xs/\⇑xs<=i}
def EJ {P:wF} {w:wG} {K:yo} {es:List Expr} {kt:Nat} {tp:Pos} (a it e:wJ) (hne:e≠it) :
  Turn P w K (.Tuple es kt tp) (LQ K a) [e,it] e (λi h=>(∃old,IsEnum h e it (i:Int) old)/\h.IsListIter it a i) where
 mem:=by simp
 obj:=λi h st b hb=>by
  let⟨⟨old,he⟩,o,e1,c,d⟩:=st;rcases zw.mp hb with z | z
  ·subst z;exact{_,he,λv z=>by cases z}
  ·let z':b=it:=by simpa using z
   subst z';exact{o,e1,λv z=>by rw[d] at z;cases z}
 keep:=λi h h' st k=>{let ⟨old,he⟩:=st.1;{old,k e (by simp) _ he},st.2.at λo e=>k it (by simp) o e}
 item:=by
  intro X hP hw hK hc i pins s U H E I hf st hg;subst hP hw hK;let⟨xs,x,hq,hx⟩:=hg;let⟨its,rv,p,hz⟩:=I.list hq;let⟨u,hu,ru⟩:=rv.get hx;let⟨⟨old,he⟩,hit⟩:=st;refine wpAny_pyNext_enum_item he hit p.isList (x:=u) (by simpa using hu) hne λg1 ho hit1 hT hsz hk=>?_;refine{_,rfl,wpAny_letOwnedTupleGo_enum (s:={s with heap:=g1,toks:=s.toks+1}) ho λg2 he2 hs2=>?_};let hel:e<↑s:=yk he;let gT:g2.get? ↑s=some {cls:=.type "tuple",data:=.seq #[.int i s.toks,u]}:=hs2.extBut _ _ (zY hel) hT;let I1:Inv X pins U (upd H ↑s (.tup [.int (i:Int),x])) {s with heap:=g2,toks:=s.toks+1}:=
   I.Aa hf (zh _) (λb ob hb q=>hs2.extBut _ _ (λz=>hb (by simp[z])) (hk b ob (λz=>hb (by simp[z])) (λz=>hb (by simp[z])) q))
    {by show 2<=sizeLine;decide,[.int i s.toks,u],.cons {_,rfl} (.cons ru .nil),{_,gT,rfl,_,rfl}}
  refine{.ref ↑s,_,I1,rfl,{_,x,I.aP.fresh (zh _),rfl,rfl,λys hy=>by rw[I.pV hy hq];exact hx},{{_,by simpa using he2},hit1.at λo q=>hs2.extBut _ _ hne.symm q},λb hb=>?_};let hb':=(hf b hb).1;obtain⟨o,ho',_⟩:∃o,s.heap.get? b=some o/\True:=by
   rcases zw.mp hb with z | z
   ·subst z;exact{_,he,trivial}
   ·let z':b=it:=by simpa using z
    subst z';let⟨o,e1,_⟩:=hit;exact{(o),e1,trivial}
  rw[aq (zZ (yk ho'))];exact hb'
 done:=by
  intro X hP hw hK hc i pins s U H E I hf st hg;subst hP hw hK;let⟨xs,hq,hx⟩:=hg;let⟨its,rv,p,hz⟩:=I.list hq;let⟨⟨old,he⟩,hit⟩:=st;let hl:=⇑rv;exact wpAny_pyNext_enum_end (I.ok.hd hc) he hit p.isList (by simp;ext) λg1 eb=>{rfl,I.turns (t':=s.toks) hf λb o hb q=>eb b o (λz=>hb (by simp[z])) q}
 self:=λ_ _ _ _ _ st h=>let ⟨_,he⟩:=st.1;wpAny_pyIter_enum he h
def Kb (K:yo) (ta:TA):TI:=λU H R=>ta U H λvs H1=>∃a xs,vs=[.ref a]/\aE K H1 a xs/\R (LQ K a) H1
def D9 {a:Expr} {ta:TA} {es:List Expr} {kt:Nat} {tp p pos:Pos} (hg:Gl X "enumerate") (hm:X.mg "enumerate"= none) (ha:PA X [a] ta) (hs:starEach [a] X.env=[(false,eval a X.env)]<|>qe_) :
  PI X (.Tuple es kt tp) (.Call (.Name "enumerate" p) [a] [] pos) (Kb X.K ta):=by
 intro pins s U H R I h;refine Call_ (jw I hg hm vY (yA (bR (ha pos pins s U H _ I h) λus s1 ⟨vs,H1,I1,r1,q1⟩=>?_) hs rfl));let⟨l,xs,e,hq,q⟩:=q1;subst e;cases r1 with
 | cons r rr=>
  cases rr;cases r;let⟨its,rv,pl,hz⟩:=I1.list hq;refine call_enumerate_list pl.isList λg he hit hsz hk=>?_;refine wpAny_pyIter_enum (s:={s1 with heap:=g}) he ?_;let I2:Inv X pins U H1 {s1 with heap:=g}:=I1.kept (t':=s1.toks) hk;refine{↑s1+1,[↑s1+1,↑s1],_,LQ X.K l,H1,rfl,I2,EJ l ↑s1 (↑s1+1) (zY (xp _)),{{_,by simpa using he},hit},λb hb=>?_,q};let hb':↑s1<=b:=by
   rcases zw.mp hb with z | z
   ·subst z;exact xD _
   ·let z':b=↑s1:=by simpa using z
    subst z';exact zh _
  exact I1.vx hb' (I1.aP.fresh hb')
def FX (t:Bool) (K:yo) (H:Hp) (a:wJ) (xs:List V):Prop:=match t with
 | true=>cQ K H a xs
 | false=>aE K H a xs
def Inv.sq (I:Inv X pins U H s) (h:FX t X.K H a xs):∃its:List wC,Vals xs its/\eL t s.heap a its.toArray/\⇑xs<=sizeLine:=by
 cases t
 ·let⟨its,r,p,z⟩:=I.list h;exact{(its),r,p.isList,z}
 ·let⟨its,r,p,z⟩:=I.tuple h;exact{(its),r,p,z}
def Inv.Gk (I:Inv X pins U H s) (h:FX t X.K H a xs) (h':FX t X.K H a ys):xs=ys:=by
 cases t
 ·exact I.pV h h'
 ·exact I.sP h h'
def eL.lt (x:eL t h a items):a<h.objs.size:=by
 cases t
 ·let⟨o,e,_⟩:=x;exact yk e
 ·let⟨o,e,_⟩:=x;exact yk e
def O0 (t1 t2:Bool) (K:yo) (a b:wJ):It:=
  {λi H=>∃xs ys x y,FX t1 K H a xs/\FX t2 K H b ys/\xs[i]?=some x/\ys[i]?=some y,
   λi H x H'=>∃p u v,H p=none/\x=.ref p/\H'=upd H p (.tup [u,v])/\(∀xs,FX t1 K H a xs->xs[i]?=some u)/\∀ys,FX t2 K H b ys->ys[i]?=some v,
   λi H=>∃xs ys,FX t1 K H a xs/\FX t2 K H b ys/\(⇑xs<=i\/⇑ys<=i)}
def Ga {P:wF} {w:wG} {K:yo} {es:List Expr} {kt:Nat} {tp:Pos} (t1 t2:Bool) (a b z TI TO i1 i2:wJ) (D:LW z TI TO i1 i2) (L1:HY a z TO i1 i2) (L2:HY b z TO i1 i2) :
  Turn P w K (.Tuple es kt tp) (O0 t1 t2 K a b) [z,TI,TO,i1,i2] z (λi h=>Kd t1 t2 h z TI TO i1 i2 a b i .none) where
 mem:=by simp
 obj:=λi h st c hc=>by
  let⟨hz,hi,⟨_,_,ho⟩,h1,h2⟩:=st;simp only[zw,zy,yI] at hc;rcases hc with e | e | e | e | e
  ·subst e;exact{_,hz,λv q=>by cases q}
  ·subst e;exact{_,hi,λv q=>by cases q}
  ·subst e;exact{_,ho,λv q=>by cases q}
  ·subst e;exact h1.get
  ·subst e;exact h2.get
 keep:=λi h h' st k=>{k z (by simp) _ st.z,k TI (by simp) _ st.ti,let ⟨x,y,e⟩:=st.to;{x,y,k TO (by simp) _ e},st.i1.at λo e=>k i1 (by simp) o e,st.i2.at λo e=>k i2 (by simp) o e}
 item:=by
  intro X hP hw hK hc i pins s U H E I hf st hg;subst hP hw hK;let⟨xs,ys,x,y,hq,hq',hx,hy⟩:=hg;let⟨its,rv,p,hz⟩:=I.sq hq;let⟨jts,rw',p',hz'⟩:=I.sq hq';let⟨u,hu,ru⟩:=rv.get hx;let⟨u',hu',ru'⟩:=rw'.get hy;refine F3 D L1 L2 st p p' (x:=u) (y:=u') (by simpa using hu) (by simpa using hu') λg1 S1 hT hk=>?_;refine{_,rfl,wpAny_letOwnedTupleGo_zip (s:={s with heap:=g1}) S1.z λg2 z2 hs2=>?_};let zl:z<↑s:=yk st.z;let gT:g2.get? ↑s=some {cls:=.type "tuple",data:=.seq #[u,u']}:=hs2.extBut _ _ (zY zl) hT;let I1:Inv X pins U (upd H ↑s (.tup [x,y])) {s with heap:=g2}:=
   I.Aa (t':=s.toks) hf (zh _) (λc ob hb q=>hs2.extBut _ _ (λe=>hb (by simp[e])) (hk c ob (λe=>hb (by simp[e])) (λe=>hb (by simp[e])) (λe=>hb (by simp[e])) (λe=>hb (by simp[e])) q))
    {by show 2<=sizeLine;decide,[u,u'],.cons ru (.cons ru' .nil),{_,gT,rfl,_,rfl}}
  refine{.ref ↑s,_,I1,rfl,{_,x,y,I.aP.fresh (zh _),rfl,rfl,λzs h=>by rw[I.Gk h hq];exact hx,λzs h=>by rw[I.Gk h hq'];exact hy},{z2,hs2.extBut _ _ D.a1 S1.ti,let ⟨x,y,e⟩:=S1.to;{x,y,hs2.extBut _ _ D.a2 e},S1.i1.but hs2 D.a3,S1.i2.but hs2 D.a4},λc hc=>?_};let hb':=(hf c hc).1;obtain⟨o,ho',_⟩:∃o,s.heap.get? c=some o/\True:=by
   obtain⟨hz,hi,⟨_,_,ho⟩,⟨q1,e1,_⟩,⟨q2,e2,_⟩⟩:_/\_/\_/\_/\_:={(st.z),st.ti,st.to,st.i1.get,st.i2.get}
   simp only[zw,zy,yI] at hc;rcases hc with e | e | e | e | e
   ·subst e;exact{_,hz,trivial}
   ·subst e;exact{_,hi,trivial}
   ·subst e;exact{_,ho,trivial}
   ·subst e;exact{_,e1,trivial}
   ·subst e;exact{_,e2,trivial}
  rw[aq (zZ (yk ho'))];exact hb'
 done:=by
  intro X hP hw hK hc i pins s U H E I hf st hg;subst hP hw hK;let⟨xs,ys,hq,hq',hx⟩:=hg;let⟨its,rv,p,hz⟩:=I.sq hq;let⟨jts,rw',p',hz'⟩:=I.sq hq';let hl:=⇑rv;let hl':=⇑rw';refine F2 (I.ok.hd hc) D L1 L2 st p p' ?_ λg1 eb=>{rfl,I.turns (t':=s.toks) hf λc o hb q=>eb c o (λe=>hb (by simp[e])) (λe=>hb (by simp[e])) (λe=>hb (by simp[e])) (λe=>hb (by simp[e])) q}
  rcases hx with h | h
  ·exact .inl (by simp;ext)
  ·exact .inr (by simp;ext)
 self:=λ_ _ _ _ _ st h=>wpAny_pyIter_zip st.z h
def OL (K:yo) (ta:TA):TI:=λU H R=>ta U H λvs H1=>∃t1 t2 a b xs ys,vs=[.ref a,.ref b]/\FX t1 K H1 a xs/\FX t2 K H1 b ys/\R (O0 t1 t2 K a b) H1
def GK {a b:Expr} {ta:TA} {es:List Expr} {kt:Nat} {tp p pos:Pos} (hg:Gl X "zip") (hm:X.mg "zip"= none) (ha:PA X [a,b] ta)
  (hs:starEach [a,b] X.env=[(false,eval a X.env),(false,eval b X.env)]<|>qe_) (hs2:starEach [b] X.env=[(false,eval b X.env)]<|>qe_) :
  PI X (.Tuple es kt tp) (.Call (.Name "zip" p) [a,b] [] pos) (OL X.K ta):=by
 intro pins s U H R I h;refine Call_ (jw I hg hm LG (yA (bR (ha pos pins s U H _ I h) λus s1 ⟨vs,H1,I1,r1,q1⟩=>?_) (by rw[hs,hs2]) (by rw[hs2];rfl)));let⟨t1,t2,a,b,xs,ys,e,hq,hq',q⟩:=q1;subst e;cases r1 with
 | cons r rr=>
  cases rr with
  | cons r' rr=>
   cases rr;cases r;cases r';let⟨its,rv,pl,hz⟩:=I1.sq hq;let⟨jts,rv',pl',hz'⟩:=I1.sq hq';let la:=pl.lt;let lb:=pl'.lt;refine F5 pl pl' λg S hk=>?_;refine wpAny_pyIter_zip (s:={s1 with heap:=g}) S.z ?_;let I2:Inv X pins U H1 {s1 with heap:=g}:=I1.kept (t':=s1.toks) hk;let D:LW (↑s1+4) (↑s1+2) (↑s1+3) ↑s1 (↑s1+1):=by
    constructor <;> (show _≠(_:Nat)) <;> ext
   let L:∀c,c<↑s1->HY c (↑s1+4) (↑s1+3) ↑s1 (↑s1+1):=λc hc=>by
    constructor <;> (show _≠(_:Nat)) <;> ext
   refine{↑s1+4,[_,_,_,_,_],_,O0 t1 t2 X.K a b,H1,rfl,I2,Ga t1 t2 a b _ _ _ _ _ D (L a la) (L b lb),S,λc hc=>?_,q};let hb':↑s1<=c:=by
    simp only[zw,zy,yI] at hc;rcases hc with e | e | e | e | e <;> (subst e;first | exact Nat.le_add_right _ _ | exact zh _)
   exact I1.vx hb' (I1.aP.fresh hb')
def uS (bs:List Bool):((List.range ⇑bs).all λi=>(bs[i]?).getD true)=bs.all id:=by
 rw[xm,yc,yc];constructor
 ·intro h b hb
  let⟨i,hi,e⟩:=List.mem_iff_getElem.mp hb;have:=h i (yF.mpr hi);rw[zb hi,e] at this;exact this
 ·intro h i hi
  let hi':=yF.mp hi;rw[zb hi'];exact h _ (z9 hi')
def gW (hc:X.calm=true):b9 X (.builtin "all") (λxs H Q=>∃(a:wJ) (bs:List Bool),xs=[.ref a]/\aE X.K H a (bs.map V.bl)/\Q (.bl (bs.all id)) H):=by
 intro pins s U H xs us Q I r h;let⟨a,bs,e,hq,q⟩:=h;subst e;cases r with
 | cons r rr=>
  cases rr;cases r;let⟨its,rv,p,hz⟩:=I.list hq;let hlt:a<↑s:=by let⟨o,n,e,_⟩:=p;exact yk e
  let hlen:⇑bs=⇑its:=by have:=⇑rv;rw[za] at this;exact this
  refine call_all_walk (xZ p.isList ?_);refine{↑s,[↑s,a],[↑s],its.toArray.size,_,_,λi=>(bs[i]?).getD true,rfl,Walks.list (A:=X.A.in1) (I.ok.hd hc) _ a (zZ hlt) its.toArray,
   {{_,yj _ rfl,rfl,rfl},p.isList.push _},λi v s' Q' E' hP hQ=>?_,λh' tk hk=>?_}
  ·let hP':its[i]?=some v:=by simpa using hP
   let hi:i<⇑bs:=by rw[hlen];exact(zr.mp hP').1
   let hm:(bs.map V.bl)[i]?=some (.bl bs[i]):=by rw[zF,zb hi];rfl
   let⟨u,hu,ru⟩:=rv.get hm;rw[hP'] at hu;cases hu;cases ru;dsimp only at hQ;rw[zb hi] at hQ;exact yT hQ
  ·let e:((List.range its.toArray.size).all λi=>(bs[i]?).getD true)=bs.all id:=by rw[zR,<-hlen];exact uS bs
   rw[e];exact{.bl _,H,I.kept λb o x=>hk b o (λhm=>by rw[zt.mp hm] at x;exact zV _ (yk x)) (yh _ x),rfl,q}
end
section
variable {X:Cx} {pos:Pos}
end
inductive Ty where
 | aO | bl | int | str | tup | lst | Nm
def Ty.name:Ty->String
 | .aO=> "NoneType" | .bl=> "bool" | .int=> "int" | .str=> "str" | .tup=> "tuple" | .lst=> "list" | .Nm=> "dict"
def tag (H:Hp):V->Option Ty
 | .aO=>some .aO
 | .bl _=>some .bl
 | .int _=>some .int
 | .str _=>some .str
 | .ref a=>match H a with
  | some (.tup _)=>some .tup
  | some (.lst _)=>some .lst
  | some (.i9 _ (.lst _))=>some .lst
  | some (.dK _)=>some .Nm
  | some (.dT _)=>some .Nm
  | _=>none
 | _=>none
def DR {H:Hp} {a:wJ} {xs:List V} (h:H a=some (.tup xs)):tag H (.ref a)=some .tup:=by simp only[tag,h]
def Iw {H:Hp} {a:wJ} {xs:List V} (h:H a=some (.lst xs)):tag H (.ref a)=some .lst:=by simp only[tag,h]
def Kr {K:yo} {H:Hp} {x:V} {n:Ty} (h:tag H x=some n):mU K H x (.type n.name):=by
 cases x with
 | aO=>cases h;exact .aO
 | bl b=>cases h;exact .bl b
 | int i=>cases h;exact .int i
 | str y=>cases h;exact .str y
 | Es _=>cases h
 | Jt _=>cases h
 | ty _=>cases h
 | ref a=>
  simp only[tag] at h;split at h
  ·cases h;exact .tup ‹_›
  ·cases h;exact .lst ‹_›
  ·cases h;exact .i9 ‹_›
  ·cases h;exact .dK ‹_›
  ·cases h;exact .dT ‹_›
  ·cases h
def Ty.sub:Ty->Ty->Bool
 | .bl,.bl=>true | .int,.int=>true | .str,.str=>true | .tup,.tup=>true | .lst,.lst=>true | .Nm,.Nm=>true | .aO,.aO=>true
 | .bl,.int=>true
 | _,_=>false
def Jj (K:yo) (a b:Ty):PySem.W.kitOne K (.type a.name) (.type b.name)=some (a.sub b):=by
 cases a <;> cases b <;> first | rfl | decide +kernel | kernel_rfl
def Od (c:Ty) (ta:TE):TE:=λU H Q=>ta U H λx H1=>∃n,tag H1 x=some n/\Q (.bl (n.sub c)) H1
section
variable {X:Cx}
def eN (c:Ty) (hx:bootBuiltins x=some (.type c.name)) (ha:PE X a ta) (hm:X.mg "isinstance"= none) (hm2:X.mg x=none)
  (hg:Gl X "isinstance"<|>qe_) (hg2:Gl X x<|>qe_) (hn:x≠ "__name__"<|>qb_) (hd:(x == ("__debug__": Str))=false<|>qb_)
  (hs:starEach [a,.Name x p2] X.env=(false,eval a X.env)::starEach [.Name x p2] X.env<|>qe_) (hs2:starEach [.Name x p2] X.env=[(false,eval (.Name x p2) X.env)]<|>qe_) :
  PE X (.Call (.Name "isinstance" p1) [a,.Name x p2] [] pos) (Od c ta):=by
 let hc:b9 X (.builtin "isinstance") (λxs H Q=>∃v n,xs=[v,.ty c.name]/\tag H v=some n/\Q (.bl (n.sub c)) H):=by
  intro pins s U H xs us Q I r h;let⟨v,n,e,ht,q⟩:=h;subst e;cases r with
  | cons r rr=>
   cases rr with
   | cons r' rr=>
    cases rr;cases r';exact Fe I r (Kr ht) (Jj _ _ _) λtk=>{.bl _,H,I.tok tk,rfl,q}
 let hb:PE X (.Name x p2) (tC (.ty c.name)):=Ec (u:=.type c.name) hg2 hm2 hx rfl hn hd;let ht:=AM (p:=p1) (pos:=pos) hc hg hm (by decide +kernel) (aa ha (aa hb af hs2) hs) (he:=hs) (hpl:=by rw[hs2];rfl);intro pins s U H Q I h;let mono:ta U H (λx H1=>∃n,tag H1 x=some n/\Q (.bl (n.sub c)) H1)->JT (λxs H Q=>∃v n,xs=[v,.ty c.name]/\tag H v=some n/\Q (.bl (n.sub c)) H) (cB ta (cB (tC (.ty c.name)) j4)) U H Q:=λz=>by
  show ta U H λx H1=>∃v n,[x,V.ty c.name]=[v,.ty c.name]/\tag H1 v=some n/\Q (.bl (n.sub c)) H1;let e:(λx H1=>∃n,tag H1 x=some n/\Q (.bl (n.sub c)) H1)=(λ(x:V) (H1:Hp)=>∃v n,[x,V.ty c.name]=[v,V.ty c.name]/\tag H1 v=some n/\Q (.bl (n.sub c)) H1):=by
   funext x H1
   apply propext;constructor
   ·rintro⟨n,h1,h2⟩;exact{(x),n,rfl,h1,h2}
   ·rintro⟨v,n,e,h1,h2⟩;cases e;exact{(n),h1,h2}
  rw[<-e];exact z
 exact ht pins s U H Q I (mono h)
end
inductive Dt where
 | aO | bl (b:Bool) | int (i:Int) | str (x:Str) | tup (l:List Dt)
mutual
def Is (H:Hp):Dt->V->Prop
 | .aO,v=>v=.aO
 | .bl b,v=>v=.bl b
 | .int i,v=>v=.int i
 | .str x,v=>v=.str x
 | .tup l,v=>∃a vs,v=.ref a/\H a=some (.tup vs)/\av H l vs
def av (H:Hp):List Dt->List V->Prop
 | [],vs=>vs=[]
 | d::l,vs=>∃v r,vs=v::r/\Is H d v/\av H l r
end
mutual
theorem Is.mono (s:au H H'):∀{d:Dt} {v:V},Is H d v->Is H' d v
 | .aO,_,h=>by unfold Is at h ⊢;exact h
 | .bl _,_,h=>by unfold Is at h ⊢;exact h
 | .int _,_,h=>by unfold Is at h ⊢;exact h
 | .str _,_,h=>by unfold Is at h ⊢;exact h
 | .tup l,_,h=>by
  unfold Is at h ⊢;let⟨a,vs,e,ha,hl⟩:=h;exact{a,vs,e,s _ _ ha,av.mono s hl}
theorem av.mono (s:au H H'):∀{l:List Dt} {vs:List V},av H l vs->av H' l vs
 | [],_,h=>by unfold av at h ⊢;exact h
 | d::l,_,h=>by
  unfold av at h ⊢;let⟨v,r,e,hv,hr⟩:=h;exact{v,r,e,Is.mono s hv,av.mono s hr}
end
theorem av.len:∀{l:List Dt} {vs:List V},av H l vs->⇑vs=⇑l
 | [],_,h=>by unfold av at h;rw[h];rfl
 | d::l,_,h=>by
  unfold av at h;let⟨v,r,e,_,hr⟩:=h;rw[e,zo,zo,av.len hr]
theorem av.get:∀{l:List Dt} {vs:List V} {i:Nat} {v:V},av H l vs->vs[i]?=some v->∃d,l[i]?=some d/\Is H d v
 | [],_,i,v,h,e=>by unfold av at h;rw[h] at e;simp at e
 | d::l,_,i,v,h,e=>by
  unfold av at h;let⟨u,r,e1,hv,hr⟩:=h;subst e1;cases i with
  | zero=>simp at e;subst e;exact{(d),rfl,hv}
  | succ i=>
   let⟨d',h1,h2⟩:=av.get (i:=i) hr (by simpa using e);exact{d',by simpa using h1,h2}
def au.vd (e:upd H p o=H') (h:H p=none):au H H':=e▸cI h
def v5 (e:upd H p o=H'):H' p=some o:=e▸az
def bq {c:Bool} {A B:Prop} (h:c=true) (q:A):if c=true then A else B:=by rw[yC h];exact q
def bt {c:Bool} {A B:Prop} (h:c=false) (q:B):if c=true then A else B:=by rw[yB (by rw[h];decide)];exact q
def dw:⇑[a,b]<=sizeLine:=by show 2<=sizeLine;decide
def oV:⇑[a,b,c]<=sizeLine:=by show 3<=sizeLine;decide
def Eg (h:H p=some (.tup [.int a,.int b])):Is H (.tup [.int a,.int b]) (.ref p):=by
 unfold Is;exact{p,_,rfl,h,by simp only[av,Is];exact{_,_,rfl,rfl,_,_,rfl,rfl,rfl}}
def Bh {K:yo} {a:wJ} {xs:List V} {g:TG} {tb:TS} {D:Ends} {U:St} {H:Hp} (Pv:Nat->St->Hp->Prop) (h0:Pv 0 U H) (hl:∀i U H,i<=⇑xs->Pv i U H->aE K H a xs)
  (hs:∀i x U H p H',xs[i]?=some x->Pv i U H->au H H'->H' p=some (.tup [.int (i:Int),x])->g (.ref p) U H' λU2 H2=>tb {D with nx:=Pv (i+1),ct:=Pv (i+1),bk:=D.nx} U2 H2) (hd:∀U H,Pv ⇑xs U H->D.nx U H) :
  ∃W:Nat->Nat->St->Hp->Prop,(∃m,W 0 m U H)/\∀i m U H,W i m U H->
   ((LQ K a).stop i H/\D.nx U H)\/((LQ K a).go i H/\∃N:St->Hp->Prop,(∀U' H',N U' H'->∃m',m'<m/\W (i+1) m' U' H')/\∀x H',(LQ K a).F6 i H x H'->g x U H' λU2 H2=>tb {D with nx:=N,ct:=N,bk:=D.nx} U2 H2):=by
 refine{λi m U H=>m=⇑xs-i/\i<=⇑xs/\Pv i U H,{⇑xs,by simp,zW _,h0},?_};rintro i m U H ⟨rfl,hi,p⟩;let q:=hl i U H hi p
 by_cases hlt:i<⇑xs
 ·refine .inr {{xs,xs[i],q,by simp[hlt]},Pv (i+1),λU' H' p'=>{⇑xs-(i+1),(),rfl,hlt,p'},λx H' y=>?_}
  let⟨pp,v,hp,e1,e2,y⟩:=y;subst e1 e2;exact hs i v U H pp _ (y xs q) p (cI hp) az
 ·let e:i=⇑xs:=()
  subst e;exact .inl {{xs,q,zh _},hd U H p}
section
variable {X:Cx} {pos:Pos}
def Inv.OH (I2:Inv X pins U2 H2 s2) (hC:↑s2<=C) (I:Inv X pins U H s) (hn:H C=none) (hs:Heap.SameBut C s.heap h'):Inv X pins U H {s with heap:=h'}:=by
 let⟨f0,f1,f2,f3,f4,f5⟩:=I2.vx hC hn;exact I.turned (t':=s.toks) (λb o hb e=>hs.extBut b o hb e) f0 f1 f3 f4 f5
end
section
variable {X:Cx} {pins:List (wJ×Obj)} {U:St} {H:Hp} {s:wD}
def Sz (n:Nat) (i:Int):Prop:=i.natAbs<2^n
def Sz.mono (h:Sz n i) (k:n<=m):Sz m i:=zS h (Nat.pow_le_pow_right ∅ k)
def Sz.mul (h:Sz n i) (k:Sz m j):Sz (n+m) (i*j):=by
 unfold Sz at *;rw[Int.natAbs_mul,Nat.pow_add];exact Nat.mul_lt_mul'' h k
def Sz.add (h:Sz n i) (k:Sz n j):Sz (n+1) (i+j):=by
 unfold Sz at *;have:=Int.natAbs_add_le i j;rw[Nat.pow_succ];ext
def Sz.le (h:Sz n j) (h0:0<=i) (hl:i<=j):Sz n i:=by
 unfold Sz at *;have:i.natAbs<=j.natAbs:=()
 ext
def Sz.bits (h:Sz n i):Builtin.Int.intBits i<=n:=by
 unfold Builtin.Int.intBits;split
 ·exact zW _
 ·rename_i hz
  have:i.natAbs≠0:=by
   intro e;have:i=0:=Int.natAbs_eq_zero.mp e;subst this;exact hz rfl
  have:=(Nat.log2_lt this).mpr h;ext
def NA (i j:Int):Prop:=Sz 20000 i/\Sz 20000 j
def NC (_ j:Int):Prop:=0<j/\Sz 8999 j
def lI:mV X (binaryOp .Mult) (rI NA λi j=>.int (i*j)):=MN λ_ _ _ _ _ _ _ hc q=>mul_int q (.of_bits (zH hc.1.bits ∅) (zH hc.2.bits ∅))
def AQ:mV X (binaryOp .FloorDiv) (rI NC λi j=>.int (i/j)):=MN λi j _ _ _ _ _ hc q=>by
 let h1:(0:Int)<j:=hc.1;refine floordiv_int () (by rw[wz i ()];exact q) (.inl (PyProof.noPylong_of_log2 ?_));let h2:j.natAbs<2^8999:=hc.2;let h3:j.natAbs≠0:=()
 exact xg ((Nat.log2_lt h3).mpr h2) ∅
end
section
variable {X:Cx} {pos:Pos}
def MH (K:yo):R2:=λx y H Q=>∃l b xs zs,x=.ref l/\y=.ref b/\aE K H l xs/\aE K H b zs/\⇑xs+⇑zs<=sizeLine/\∀p,H p=none->Q (.ref p) (upd H p (.lst (xs++zs)))
def e9:mV X (binaryOp .Add) (MH X.K):=by
 intro pins s U H x y v u Q I rx ry h;let⟨l,b,xs,zs,rfl,rfl,hH,hB,hz,q⟩:=h;cases rx;cases ry;let⟨its,r,p,z⟩:=I.list hH;let⟨jts,r',p',z'⟩:=I.list hB;let l1:=⇑r;let l2:=⇑r';let⟨⟨cls,dd,data,sl⟩,ho,hc,n,hd⟩:=id p.isList;let⟨⟨cls2,dd2,data2,sl2⟩,ho2,hc2,n2,hd2⟩:=id p'.isList;simp only at hc hd hc2 hd2;subst hc hd hc2 hd2;refine concat_meets {_,ho,rfl} {_,ho2,rfl} noFill_list_add seq_list_add PySem.F.slot_list_add PySem.F.entry_list_add (PySem.F.args_list_add_2 _ _) (list_addW l b its.toArray jts.toArray n n2 dd dd2 sl sl2 (by rw[zR,zR];ext)) {ho,ho2,?_};let ea:its.toArray++jts.toArray=(its++jts).toArray:=by simp
 rw[ea];exact{.ref _,_,I.M3 (t':=s.toks) (r.append r') (by rw[ze];ext),rfl,q _ I.fresh}
end
def tW (n:Nat) (x:Int×Int):Prop:=Sz n x.1/\Sz n x.2
theorem tW.red (ht:0<=t) (hb:0<b) (h1:Sz n t) (h2:Sz n b):tW n (Lm.red t b):=by
 let⟨g,g0,_,_,p,l⟩:=Lm.uP (t:=t) hb;exact{h1.le (Lm.CJ ht) (Lm.GA ht),h2.le (yP p) l}
theorem tW.add (hx:Lm.Rd x) (hy:Lm.Rd y) (h:tW n x) (k:tW m y):tW (n+m+1) (Lm.add x y):=by
 let⟨a,b,_⟩:=hx.pos;let⟨c,d,_⟩:=hy.pos;refine tW.red (Int.add_nonneg (xF a ()) (xF c ())) (y9 b d) ?_ ((h.2.mul k.2).mono ());refine Sz.add (h.1.mul k.2) ?_;have:=k.1.mul h.2;rw[Nat.add_comm] at this;exact this
def dec (n:Int):Str:=Str.ofString (toString n)
def jI {x y:Str} (h:x.cps.toList=y.cps.toList):x=y:=by
 cases x;cases y;simp only[Str.mk.injEq];exact Array.toList_inj.mp h
def bK (x y:Str):(x++y).cps.toList=x.cps.toList++y.cps.toList:=Array.toList_append ..
def len_app (x y:Str):⇑(x++y)=⇑x+⇑y:=Array.size_append ..
def bD (x y z:Str):x++y++z=x++(y++z):=jI (by rw[bK,bK,bK,bK,zA])
def ou (m:Nat):(dec (m:Int)).cps.toList=(Nat.toDigits 10 m).map Char.toNat:=PySem.W.KIN.signs_num m
def vD (m:Nat):⇑(dec (m:Int))=⇑(Nat.toDigits 10 m):=by
 let h:=yN List.length (ou m);rw[za,yE] at h;exact h
def JE (h:c∈(Nat.toDigits 10 m).map Char.toNat):48<=c/\c<=57:=by
 let⟨ch,hc,e⟩:=zC.mp h;let r:=Nat.isDigit_of_mem_toDigits ∅ ∅ hc;rw[<-e];simp only[Char.isDigit,zJ,decide_eq_true_eq] at r;exact{(r.1),r.2}
section
variable {X:Cx}
end
section
variable {X:Cx}
def Ox:V->Option Int->Option Int->Hp->VK->Prop:=λx lo hi H Q=>∃t:Str,x=.str t/\⇑t<=sizeLine/\Q (.str (PySem.Txt.slice t lo hi)) H
def KN:HW X Ox:=by
 intro pins s U H x v vl vu lo hi sl Q I rx hs pl pu h;let⟨t,rfl,hz,q⟩:=h;let⟨tk,rfl⟩:=rx;let⟨o,ho,hc,hd⟩:=hs;let fin:∀(l u:Option (Int×Tok)),l.map (·.1)=lo->u.map (·.1)=hi->partValue l=vl->partValue u=vu->
   ∃T id,typeLookup (.type T) "__getitem__"= pure (some (.builtin id))/\s.TypeIs (.str t tk) T/\wpAny (model X.prog X.w) X.A (getItem (.str t tk) (.ref sl)) (EP X pins U Q) X.xe s:=by
  intro l u e1 e2 e3 e4;subst e1 e2 e3 e4;exact{"str",_,F.slot_str_getitem.lookup,wa _ _ _,wpAny_getItem_str_slice (l:=l) (u:=u) (st:=none) {(o),ho,hc,hd} rfl
   (post_val_or_str {zH (PySem.Txt.slice_le t _ _) hz,λt' k=>{.str _,H,I.tok _,{_,rfl},q}})}
 cases pl with
 | none=>
  cases pu with
  | none=>exact fin none none rfl rfl rfl rfl
  | int j tj=>exact fin none (some (j,tj)) rfl rfl rfl rfl
 | int i ti=>
  cases pu with
  | none=>exact fin (some (i,ti)) none rfl rfl rfl rfl
  | int j tj=>exact fin (some (i,ti)) (some (j,tj)) rfl rfl rfl rfl
def Nx (x:Str):It:={λi _=>i<⇑x,λi H v H'=>H'=H/\∃c,x.cps[i]?=some c/\v=.str {#[c]},λi _=>⇑x<=i}
def Gb {P:wF} {w:wG} {K:yo} {tg:Expr} (x:Str) (t:Tok) (it:wJ) (ty:String) (hty:ty ="str_ascii_iterator"\/ty ="str_iterator"):Turn P w K tg (Nx x) [it] it (λi h=>i<=⇑x/\h.IsStrIter it ty x t i) where
 mem:=by simp
 obj:=λi h st b hb=>by
  let e:b=it:=by simpa using hb
  subst e;let⟨_,o,e,c,d⟩:=st;exact{o,e,λv z=>by rw[d] at z;cases z}
 keep:=λi h h' st k=>{st.1,let ⟨o,ho,r⟩:=st.2;{o,k it (by simp) o ho,r}}
 item:=by
  intro X hP hw hK hc i pins s U H E I hf st hg;subst hP hw hK;let W:Walks X.prog X.w X.A it [it] [it] x.cps.size (SignAt x) (λi h=>h.IsStrIter it ty x t i):=by
   rcases hty with rfl | rfl
   ·exact Walks.strAscii (I.ok.hd hc) it x t
   ·exact Walks.strWide (I.ok.hd hc) it x t
  refine W.item i s _ _ hg st.2 λv h' tk hv z' kk=>?_;let⟨c,u,hcx,rfl⟩:=hv;let I1:Inv X pins U H {s with heap:=h',toks:=tk}:=I.turns hf λb o hb e=>kk b o (by simpa using hb) e;let⟨o,e,cc,d⟩:=id z';let hgl:i<⇑x:=hg;refine{_,rfl,tJ (s:={s with heap:=h',toks:=tk}) (n:=ty) e cc d ?_ {.str {#[c]},H,I1,{(u),rfl},{(rfl),c,hcx,rfl},{(hgl),z'},λb hb=>(hf b hb).1}};rcases hty with rfl | rfl <;> decide
 done:=by
  intro X hP hw hK hc i pins s U H E I hf st hg;subst hP hw hK;let hi:i=x.cps.size:=Nat.le_antisymm st.1 hg;subst hi;let W:Walks X.prog X.w X.A it [it] [it] x.cps.size (SignAt x) (λi h=>h.IsStrIter it ty x t i):=by
   rcases hty with rfl | rfl
   ·exact Walks.strAscii (I.ok.hd hc) it x t
   ·exact Walks.strWide (I.ok.hd hc) it x t
  exact W.done s _ _ st.2 λh' tk eb=>{rfl,I.turns hf λb o hb e=>eb b o (by simpa using hb) e}
 self:=λA i s Q E z h=>by
  rcases hty with rfl | rfl
  ·exact wpAny_pyIter_striter_ascii z.2 h
  ·exact wpAny_pyIter_striter_wide z.2 h
def ON (tl:TE):TI:=λU H R=>tl U H λx H1=>∃t,x=.str t/\R (Nx t) H1
def GL {tg l:Expr} {tl:TE} (hl:PE X l tl):PI X tg l (ON tl):=by
 intro pins s U H R I h;refine bR (hl pins s U H _ I h) λv s1 zz=>?_;let⟨x,H1,I1,r1,q1⟩:=zz;let⟨t,e,q⟩:=q1;subst e;let⟨tk,rfl⟩:=r1;refine wpAny_pyIter_strU ?_;refine{↑s1,[↑s1],_,_,H1,rfl,I1.kept (t':=s1.toks) λb o e=>yh _ e,Gb t tk _ (strIterType t) ?_,{zW _,_,yj _ rfl,rfl,rfl},λb hb=>?_,q}
 ·unfold strIterType
  split
  ·exact .inl rfl
  ·exact .inr rfl
 ·let e:b=↑s1:=by simpa using hb
  subst e;exact I1.vx (zh _) (I1.aP.fresh (zh _))
theorem sM:∀(l:List (Str×Tok)),Vals ((l.map (·.1)).map V.str) (strValues l)
 | []=>.nil
 | (x,t)::r=>.cons {(t),rfl} (sM r)
def KU:V->List V->Hp->VK->Prop:=λx vs H Q=>∃(t y:Str),x=.str t/\vs=[.str y]/\⇑y=1/\⇑t+2<=sizeLine/\∀l,H l=none->Q (.ref l) (upd H l (.lst ((PySem.Txt.split t y).map V.str)))
def fQ:LO X "str.split" KU:=by
 intro pins s U H x vs v us Q I rx rv h;let⟨t,y,rfl,rfl,hy,hz,q⟩:=h;let⟨tk,rfl⟩:=rx;let⟨u,rfl,tk',rfl⟩:=rv.one;let hy':(⇑y == 0)=false:=by rw[hy];rfl
 let hle:=split_le t y;let fin:∀(l:List (Str×Tok)) (k:Nat),l.map (·.1)=PySem.Txt.split t y->
   EP X pins U Q (.ref ↑s) {s with heap:=s.heap.push {cls:=.type "list",data:=.seq (strValues l).toArray},toks:=k}:=λl k e=>
  {.ref _,_,I.M3 (t':=k) (by rw[<-e];exact sM l) (by rw[za];ext),rfl,q _ I.fresh}
 cases h1:(decide (⇑t<⇑y)||decide (Builtin.Str.strKind t<Builtin.Str.strKind y))
 ·cases hf:(Builtin.Str.occurrences t y 0 ⇑t (⇑t+1)).isEmpty
  ·let es:PySem.Txt.split t y=Builtin.Str.partsBetween t (Builtin.Str.occurrences t y 0 ⇑t (⇑t+1)) ⇑y:=by
    unfold PySem.Txt.split;rw[h1,hf];rfl
   refine xR F.slot_str_split (wa s t tk) F.entry_str_split (F.args_str_split_2 _ _) (meets_str_split_sep t y tk tk' h1 hy' hf () (by rw[<-es];ext)) ?_;rw[strsFrom_eq];exact fin (numbered s.toks _) _ ((numbered_texts _ _).trans es.symm)
  ·let es:PySem.Txt.split t y=[t]:=by
    unfold PySem.Txt.split;rw[h1,hf];rfl
   refine xR F.slot_str_split (wa s t tk) F.entry_str_split (F.args_str_split_2 _ _) (meets_str_split_not_found t y tk tk' h1 hy' hf) ?_;exact fin [(t,tk)] _ es.symm
 ·let es:PySem.Txt.split t y=[t]:=by
   unfold PySem.Txt.split;rw[h1];rfl
  refine xR F.slot_str_split (wa s t tk) F.entry_str_split (F.args_str_split_2 _ _) (meets_str_split_cannot_occur t y tk tk' h1) ?_;exact fin [(t,tk)] _ es.symm
def IT:V->List V->Hp->VK->Prop:=λx vs H Q=>∃(t y:Str),x=.str t/\vs=[.str y]/\Q (.bl (decide (0+⇑y<=⇑t)&&Builtin.Str.subAt t y 0)) H
def rT:LO X "str.startswith" IT:=by
 intro pins s U H x vs v us Q I rx rv h;let⟨t,y,rfl,rfl,q⟩:=h;let⟨tk,rfl⟩:=rx;let⟨u,rfl,tk',rfl⟩:=rv.one;exact xR F.slot_str_startswith (wa s t tk) F.entry_str_startswith (F.args_str_startswith_2 _ _) (gives_str_startswith t y tk tk').meets {.bl _,H,I,rfl,q}
def vT:b9 X (.type "int") (λxs H Q=>∃(t:Str) (n:Int),xs=[.str t]/\PySem.intText? t=some n/\⇑t<=640/\Q (.int n) H):=by
 intro pins s U H xs us Q I r h;let⟨t,n,rfl,hn,hl,q⟩:=h;let⟨u,rfl,tk,rfl⟩:=vals1 r;exact PySem.W.KIN.call_text hn hl {.int n,H,I.tok _,{_,rfl},q}
end
def join_one (sep x:Str):Str.join sep [x]=x:=rfl
def di (sep x y:Str) (r:List Str):Str.join sep (x::y::r)=x++sep++Str.join sep (y::r):=rfl
theorem Bc:∀{ps qs:List Str},ps≠[]->qs≠[]->(∀p∈ps,c∉p.cps.toList)->(∀q∈qs,c∉q.cps.toList)->Str.join {#[c]} ps=Str.join {#[c]} qs->ps=qs
 | [],_,h,_,_,_,_=>absurd rfl h
 | _,[],_,h,_,_,_=>absurd rfl h
 | [p],[q],_,_,_,_,h=>by rw[join_one,join_one] at h;rw[h]
 | [p],q::q2::r,_,_,hp,_,h=>by
  rw[join_one,di] at h;let e:=yN (λz:Str=>z.cps.toList) h;simp only[bK] at e;exact absurd (show c∈p.cps.toList by rw[e];simp) (hp p zk)
 | p::p2::r,[q],_,_,_,hq,h=>by
  rw[join_one,di] at h;let e:=yN (λz:Str=>z.cps.toList) h;simp only[bK] at e;exact absurd (show c∈q.cps.toList by rw[<-e];simp) (hq q zk)
 | p::p2::r,q::q2::r',_,_,hp,hq,h=>by
  rw[di,di] at h;let e:=yN (λz:Str=>z.cps.toList) h;simp only[bK,zA] at e;let⟨e1,e2⟩:=Lm.En (hp p zk) (hq q zk) (show p.cps.toList++c::(Str.join {#[c]} (p2::r)).cps.toList=q.cps.toList++c::(Str.join {#[c]} (q2::r')).cps.toList from e);let ih:=Bc (ps:=p2::r) (qs:=q2::r') (by simp) (by simp) (λz hz=>hp z (zj _ hz)) (λz hz=>hq z (zj _ hz)) (jI e2);rw[ih,jI e1]
def dN (ne:ps≠[]) (fr:∀p∈ps,c∉p.cps.toList):PySem.Txt.split (Str.join {#[c]} ps) {#[c]}=ps:=by
 refine Bc ?_ ne (PySem.StrLaws.split_free _ c) fr (PySem.StrLaws.join_split _ _);intro z;have:=split_pos (Str.join {#[c]} ps) {#[c]};rw[z] at this;exact absurd this ∅
def uk (ha:c∉a.cps.toList) (hb:c∉b.cps.toList):PySem.Txt.split (a++{#[c]}++b) {#[c]}=[a,b]:=by
 refine dN (ps:=[a,b]) (by simp) λp hp=>?_;rcases zw.mp hp with rfl | hp
 ·exact ha
 ·rw[zt.mp hp];exact hb
def split1 (ha:c∉a.cps.toList):PySem.Txt.split a {#[c]}=[a]:=by
 refine dN (ps:=[a]) (by simp) λp hp=>?_;rw[zt.mp hp];exact ha
def KJ (ha:c∉a.cps.toList) (hb:c∉b.cps.toList) (hd:c∉d.cps.toList):PySem.Txt.split (a++{#[c]}++b++{#[c]}++d) {#[c]}=[a,b,d]:=by
 let e:a++({#[c]}:Str)++b++⟨#[c]⟩++d=Str.join ⟨#[c]⟩ [a,b,d]:=by
  rw[di,di,join_one];simp only[bD]
 rw[e];refine dN (ps:=[a,b,d]) (by simp) λp hp=>?_;rcases zw.mp hp with rfl | hp
 ·exact ha
 rcases zw.mp hp with rfl | hp
 ·exact hb
 ·rw[zt.mp hp];exact hd
def oq (h:n<0):dec n ="-" ++ dec (-n):=by
 obtain⟨m,rfl⟩:∃m:Nat,n=Int.negSucc m:={(-n-1).toNat,()}
 refine jI ?_;rw[bK];let e1:(dec (Int.negSucc m)).cps.toList=("-" ++ toString (m+1)).toList.map Char.toNat:=PyProof.Rows.signs_ofString _;let e2:(dec (-(Int.negSucc m))).cps.toList=(toString (m+1)).toList.map Char.toNat:=PyProof.Rows.signs_ofString _;rw[e1,e2,String.toList_append,zg];rfl
def dX {n:Nat} {c:Nat} (h:c∈(dec (n:Int)).cps.toList):48<=c/\c<=57:=by
 rw[ou] at h;exact JE h
def Fp {n:Nat} (h:(dec (n:Int)).cps[0]?=some 48):⇑(dec (n:Int))=1:=by
 rcases Nat.eq_zero_or_pos n with rfl | hn
 ·rw[vD];decide
 ·let⟨c,r,e,hc⟩:=Lm.Hj n hn
  rw[<-yV,ou,e] at h;simp only[zf,List.getElem?_cons_zero,xn] at h;exact absurd (Char.toNat_inj.mp (by rw[h];rfl)) hc
def Bu {n:Nat}:1<=⇑(dec (n:Int)):=by
 rw[vD];exact PySem.toDigits_len_ge 10 n
def tO {n k:Nat} (hk:0<k) (h:n<10^k):⇑(dec (n:Int))<=k:=by rw[vD];exact Lm.K9 hk h
def Li (a:Option Int) (n:Nat):Builtin.Str.strSliceIndices a none 1 n=Builtin.Str.strSliceIndices a (some (n:Int)) 1 n:=by
 let h:¬((n:Int)<0):=()
 let e:max (0:Int) (min (n:Int) (n:Int))=n:=()
 simp only[Builtin.Str.strSliceIndices,h,xN,e,show((1:Int)>0)=True from by simp,wo]
def EO (x:Str) (hab:a<=b) (hb:b<=⇑x):(PySem.Txt.slice x (some (a:Int)) (some (b:Int))).cps.toList=(x.cps.toList.drop a).take (b-a):=by
 unfold PySem.Txt.slice;split
 ·rename_i h
  rw[PySem.StrLaws.strSliceIndices_plain hab hb] at h;simp only[xI,yJ,wt,za,zM] at h;let hl:⇑x.cps.toList=⇑x:=yE;let ea:a=0:=()
  let eb:b-a=⇑x.cps.toList:=()
  rw[eb,ea,List.drop_zero,zI]
 ·exact PySem.StrLaws.sliced_plain x hab hb
def Cq (x:Str) (h:a<=⇑x):(PySem.Txt.slice x (some (a:Int)) none).cps.toList=x.cps.toList.drop a:=by
 let e:PySem.Txt.slice x (some (a:Int)) none=PySem.Txt.slice x (some (a:Int)) (some ((⇑x:Nat):Int)):=by
  unfold PySem.Txt.slice;rw[Li]
 let hl:⇑x.cps.toList=⇑x:=yE;rw[e,EO x h (zh _),y7 (by rw[xb];ext)]
def ie {K:yo} {mg:Str->Option wC} {base:wK} {x:Str} {C:wJ} {bm:List wC} {newId:String} (P:wF) (m:Mod K mg base) (e:PySem.W.nsIn K mainGlobals x=some (some (.ref C)))
  (q:PySem.W.excIn K C bm newId=true):OwnCls x C bm newId mg base:=by
 let⟨mb,hb,hbb⟩:=m.blt;let⟨o0,es0,ep0,hg0,hd0,sk0,look⟩:=m.glob;let fr:∀y,y∉(es0.toList.filterMap λ(d:DictEntry)=>match d.key with | .str z _=>some z | _=>none)->mg y=none:=λy hy=>by
  rw[<-look y];show(es0.find? λd=>d.key.isStr y).map (·.val)=none;cases hf:es0.find? λd=>d.key.isStr y with
  | none=>rfl
  | some d=>
   exfalso;let hm:=Array.mem_of_find?_eq_some hf;let hk:=Array.find?_some hf;let⟨z,t,ez⟩:=sk0 d hm;let ezy:z=y:=by rw[ez] at hk;exact eq_of_beq (show(z == y)=true from hk)
   exact hy (wy.mpr {d,by simpa using hm,by rw[ez,ezy]})
 exact PySem.W.own_of_in (p:=P) (loose:=es0.toList.filterMap λ(d:DictEntry)=>match d.key with | .str z _=>some z | _=>none) m.Jm {m.glob,hb,m.nolimit,hbb,λy _ hl _ _ _=>fr y hl} e q
structure B8 (P:wF) (w:wG) (fs:List wJ) (H H':Hp) (h B h':wK):Prop where
 keep:∀b o,h.get? b=some o->H b=none->b∉fs->B.get? b=some o
 slot:∀b o,h.get? b=some o->H b=none->b∈fs->∃sl,h'.get? b=some {o with slots:=sl}
 free:∀b o,h.get? b=some o->H b=none->H' b=none
 there:∀b o,h.get? b=some o->b∉fs->∃o',B.get? b=some o'
 i4:∀b xs,H b=some (.tup xs)->H' b=some (.tup xs)
 gS:∀b o u,H b=some (.i9 o u)->H' b=some (.i9 o u)
 i5:∀b ps,H b=some (.Gf ps)->∃more,H' b=some (.Gf (ps++more))
 aP:j2 P w H' B
 fY:B.StaysIn h'
section
variable {P:wF} {w:wG} {fs:List wJ} {H H':Hp} {h B h' h2:wK}
def B8.un (f:B8 P w fs H H' h B h') (vw:∀b∈fs,H b=none):Un fs [] H H' h h' where
 keep:=λb o e n hb _=>f.fY b o (f.keep b o e n hb)
 slot:=λb o e n hb _=>f.slot b o e n hb
 free:=λb o e n _=>f.free b o e n
 there:=λb o e _=>by
  by_cases hb:b∈fs
  ·let⟨sl,q⟩:=f.slot b o e (vw b hb) hb
   exact{_,q}
  ·let⟨o',q⟩:=f.there b o e hb
   exact{o',f.fY b o' q}
 i4:=f.i4
 gS:=f.gS
 i5:=f.i5
def B8.on (f:B8 P w fs H H' h B h') (u:h'.UpToSlots h2) (st:B.StaysIn h2) (nf:∀b∈fs,∃o,h'.get? b=some o/\∀vs,o.data≠.fields vs):B8 P w fs H H' h B h2:=
 {f.keep,λb o e n hb=>by
  let⟨sl,q⟩:=f.slot b o e n hb;let⟨o1,q1,nd⟩:=nf b hb;rw[q] at q1;cases q1;let⟨sl2,q2⟩:=u b _ q nd;exact{(sl2),q2},f.free,f.there,f.i4,f.gS,f.i5,f.aP,st}
end
def B4 (P:wF) (w:wG):B5:=λouter H s E e s'=>∃(a:wJ) (cls a0:wC) (B:wK) (H':Hp),e=.ref a/\s'.os=s.os/\AllBare s'.gens/\Heap.FlyingW B outer a cls a0 s'.heap/\B8 P w (fX outer) H H' s.heap B s'.heap/\E cls none H'
def qe (hf:env.frame=some L):fX (env::outer)=L::fX outer:=by
 unfold fX;rw[wk,hf]
def Ku (C:wJ) (te:TA) (E:XK):TS:=λ_ U H=>te U H λvs H1=>⇑vs<=sizeLine/\E (.ref C) none H1
section
variable {P:wF} {w:wG} {K:yo} {mg:Str->Option wC} {base:wK} {N:List Str} {qual:Str} {scope:Scope} {f:wJ} {cdv:wC} {A:wH} {outer:List Env} {s₀:wD} {H₀:Hp} {E:XK}
def AH
  (hC0:PySem.W.nsIn K mainGlobals x=some (some (.ref C))) (hQ0:PySem.W.excIn K C bm newId=true) (FB:ExcBaseFacts Bn newId initId bm) (hg:Gl (eP (B4 P w) P w K mg base N qual scope f cdv A outer s₀ H₀ E) x)
  (ha:PA (eP (B4 P w) P w K mg base N qual scope f cdv A outer s₀ H₀ E) (e₀::es) ta) (hd:(x == ("__debug__": Str))=false<|>qb_)
  (hs:starEach (e₀::es) (eP (B4 P w) P w K mg base N qual scope f cdv A outer s₀ H₀ E).env=(false,eval e₀ (eP (B4 P w) P w K mg base N qual scope f cdv A outer s₀ H₀ E).env)::starEach es (eP (B4 P w) P w K mg base N qual scope f cdv A outer s₀ H₀ E).env<|>qe_)
  (hpl:(backTo cpos (starEach es (eP (B4 P w) P w K mg base N qual scope f cdv A outer s₀ H₀ E).env)).any (·.1)=false<|>qe_) :
  PS (eP (B4 P w) P w K mg base N qual scope f cdv A outer s₀ H₀ E) (.Raise (some (.Call (.Name x np) (e₀::es) [] cpos)) none pos) (Ku C ta E):=by
 intro pins s U H D I h;let O:OwnCls x C bm newId mg base:=ie P I.ok.mod hC0 hQ0;let⟨tl,Nn,nm,q,bs,hdct,sn,sub,ab,col,dd,k0,k1,k2,k3,k5,mN,hC,hN,hni,T⟩:=O.obj;refine wpAny_Raise_call_subT (C:=C) (nm:=nm) (q:=q) (N:=Nn) (bs:=bs) (bm:=tl) (hdct:=hdct) (sn:=sn) (sub:=sub) (ab:=ab) (col:=col) (dd:=dd) (k0:=k0) (k1:=k1) (k2:=k2) (k3:=k3) (k5:=k5)
  FB (mN:=mN) (T.hasType FB.hasBase) (I.ok.hd rfl) (by rw[hs];show(false||(backTo cpos (starEach es (eP (B4 P w) P w K mg base N qual scope f cdv A outer s₀ H₀ E).env)).any (·.1))=false;rw[hpl];rfl) hni (dB I hg O.bound {rfl,?_} hd)
 let hA:=ha cpos pins s U H _ I h;rw[hs] at hA ⊢;refine Calls.evalArgs_plain (yS hA (λus s2 ⟨vs,H2,I2,r2,hl,q2⟩=>{rfl,?_,I2.bk _ _ hC,hN.keeps I2.bk,T.keeps I2.bk,λh' e mk=>?_}) λ_ _ y=>y)
 ·show ⇑us<=sizeLine
  rw[<-⇑r2];exact hl
 show wpAny (model P w) (A.deeper (envOfC qual scope ↑s₀ f cdv)) (leaving (envOfC qual scope ↑s₀ f cdv) (.ref e)) (λ_ s''=>B4 P w outer H₀ s₀ E (.ref e) s'') (λe' s''=>B4 P w outer H₀ s₀ E e' s'') {s2 with heap:=h'};let hfr:fX (envOfC qual scope ↑s₀ f cdv::outer)=↑s₀::fX outer:=qe rfl;let hst:s2.heap.FunFrames base (envOfC qual scope ↑s₀ f cdv::outer):=I2.stack;let hin:∀env∈(envOfC qual scope ↑s₀ f cdv::outer),∀a,env.frame=some a->a∈fX (envOfC qual scope ↑s₀ f cdv::outer):=λenv he a hf=>wy.mpr {(env),he,hf};let hl:=PySem.W.funFrames_hide (as:=fX (envOfC qual scope ↑s₀ f cdv::outer)) hst hin;refine wpAny_leaves_madeW (base:=PySem.W.hideAll s2.heap (fX (envOfC qual scope ↑s₀ f cdv::outer))) (h:=s2.heap) I2.ok.frames rfl (λb o q=>PySem.W.of_hideAll _ q) hl mk (λh'' t fl _ _ ups=>?_);let low:∀b o,s₀.heap.get? b=some o->b≠↑s₀:=λb o e z=>absurd (yk e) (by rw[z];exact zV _);let nin:∀b o,s₀.heap.get? b=some o->b∉fX outer->b∉fX (envOfC qual scope ↑s₀ f cdv::outer):=λb o e n z=>by
  rw[hfr] at z;rcases zw.mp z with z | z
  ·exact low b o e z
  ·exact n z
 let i6:∀b:wJ,b∉(eP (B4 P w) P w K mg base N qual scope f cdv A outer s₀ H₀ E).ex:=λb z=>absurd (show b∈([]:List wJ) from z) (by simp);refine{e,.ref C,.ref t,_,H2,rfl,I2.os,I2.bare,fl,{λb o q n hb=>wj _ (I2.base.keep b o q n hb (i6 b)) (nin b o q hb),λb o q n hb=>?_,λb o q n=>I2.base.free b o q n (i6 b),λb o q hb=>?_,I2.base.i4,I2.base.gS,I2.base.i5,λa o q=>?_,fl.1},q2}
 ·let⟨sl,e1⟩:=I2.base.slot b o q n hb (i6 b)
  let⟨_,o1,e2,nd⟩:=I2.ok.jB.mem hb;let e3:=mk.keeps _ _ e1;let e2':s₀.heap.get? b=some o1:=e2;rw[q] at e2';cases e2';let⟨sl2,e4⟩:=ups b _ e3 nd;exact{(sl2),e4}
 ·let⟨o',e1⟩:=I2.base.there b o q (i6 b)
  exact{o',wj _ e1 (nin b o q hb)}
 ·refine(I2.aP a o q).fY (λb u hb e1=>wj _ e1 λz=>?_) (λ_ z=>z) λ_ _ z=>z
  let n:=I2.gZ b z;rcases hb with rfl | hb
  ·rw[q] at n;cases n
  ·rw[hb] at n;cases n
def FO.Pr {x:Str} {st:Stmt} {fd:wI} {ps:List Str} {k:Nat} {sp:Sp} (F:FO K x qual st f fd) (S:cA N ps (aA st)) (len:∀vs H Q E,sp vs H Q E->⇑vs=⇑ps)
  (hbody:∀(cdv:wC) (A:wH) (outer:List Env) (s:wD) (H:Hp) (vs:List V) (Q:VK) (E:XK),cN k (A.deeper (envOfC qual (aA st) ↑s f cdv))->sp vs H Q E->
   ∃t,sI (eP (B4 P w) P w K mg base N qual (aA st) f cdv A outer s H E) (bj st) t/\t {nx:=λ_ H'=>Q .aO H',rt:=Q} (start N vs) H):bC P w K mg base (B4 P w) (k+1) f fd ps sp:=by
 let⟨oc,od,kV,doc,pm,an,cdv,ct,osl,rfl,lk,hcd⟩:=F.ex;exact Hq lk hcd S len λA outer s H vs Q E hr hsp=>hbody cdv A outer s H vs Q E hr hsp
end
abbrev Cx.held (X:Cx) (e:wC):Cx:={X with A:=X.A.mark (some e),calm:=false}
theorem Cx.Ok.held {X:Cx} (ok:X.Ok) (e:wC):(X.held e).Ok:=
 {ok.mod,ok.kind,ok.glob,ok.blt,ok.above,ok.inj,ok.has,ok.LF,λz=>(nomatch (show false=true from z)),ok.frames,ok.LU,ok.NJ,ok.bs,ok.FU,ok.i6,ok.C4,ok.jB,ok.vw}
def Cx.Ok.gz {X:Cx} {e:wC} (ok:(X.held e).Ok) (hd:X.calm=true->X.A.handled=none):X.Ok:=
 {(ok.mod),ok.kind,ok.glob,ok.blt,ok.above,ok.inj,ok.has,ok.LF,hd,ok.frames,ok.LU,ok.NJ,ok.bs,ok.FU,ok.i6,ok.C4,ok.jB,ok.vw}
section
variable {X:Cx} {pins:List (wJ×Obj)} {U:St} {H:Hp} {s:wD} {e:wC}
theorem Inv.held (I:Inv X pins U H s) (e:wC):Inv (X.held e) pins U H s:={I.ok.held e,I.os,I.bare,I.base,I.loc,I.cell,I.free,I.fR,I.pin,I.aP,I.len}
theorem Inv.gz (I:Inv (X.held e) pins U H s) (hd:X.calm=true->X.A.handled=none):Inv X pins U H s:={I.ok.gz hd,I.os,I.bare,I.base,I.loc,I.cell,I.free,I.fR,I.pin,I.aP,I.len}
theorem SP.gz (hd:X.calm=true->X.A.handled=none) (h:SP (X.held e) pins D f s'):SP X pins D f s':=by
 cases f with
 | next=>let⟨U',H',I,q⟩:=h;exact{U',H',I.gz hd,q}
 | brk=>let⟨U',H',I,q⟩:=h;exact{U',H',I.gz hd,q}
 | cont=>let⟨U',H',I,q⟩:=h;exact{U',H',I.gz hd,q}
 | ret u=>let⟨v,U',H',I,r,q⟩:=h;exact{v,U',H',I.gz hd,r,q}
end
def Ml (i:Nat) (sp:Sp) (t:TA) (C:wJ) (th:TS):TS:=λD U H=>t U H λvs H1=>sp vs H1 (λv H2=>eT i v U H2 D.nx) λcls _ H2=>cls=.ref C/\th D U H2
section
variable {X:Cx} {k:Nat} {f:wJ} {fd:wI} {ps:List Str} {sp:Sp} {fx cn x:Str} {p pos cpos pa tpos np hpos:Pos} {e₀:Expr} {es:List Expr} {t:TA} {i:Nat} {C:wJ} {bm:List wC} {newId:String} {b₀:Stmt} {suite:List Stmt} {th:TS}
def IX (F:bC X.prog X.w X.K X.mg X.base (B4 X.prog X.w) k f fd ps sp) (hr:cN k X.A) (hg:Gl X fx) (hm:X.mg fx=some (.ref f)) (hk:PySem.W.keepIn X.K (.ref f)=true) (hb:Binds X.K fd ps []) (ha:PA X.wZ (e₀::es) t)
  (hc:X.calm=true) (hN:X.N.Nodup) (hi:X.N[i]?=some x) (hx:Loc X.env.scope x) (hgc:Gl X cn) (hC0:PySem.W.nsIn X.K mainGlobals cn=some (some (.ref C))) (hQ0:PySem.W.excIn X.K C bm newId=true) (hbase:bm.contains (.type "BaseException")=true) (hstk:X.stack=X.env::X.outer) (hfrm:X.env.frame=some X.env.locals)
  (hsu:∀e,sI (X.held e).wZ (b₀::suite) th)
  (hdb:(fx == ("__debug__": Str))=false<|>qb_) (hdc:(cn == ("__debug__": Str))=false<|>qb_) (he:starEach (e₀::es) X.env=(false,eval e₀ X.env)::starEach es X.env<|>qe_) (hpl:(backTo cpos (starEach es X.env)).any (·.1)=false<|>qe_)
  (hs:swapsWith (.Call (.Name fx p) (e₀::es) [] cpos) (some (.Name x tpos)) pa.line X.env=pure false<|>qe_) (hf:X.fn x=true\/X.env.scope.names.lookup x=some .local<|>qa_) :
  PS X (.Try [.Assign [.Name x tpos] (.Call (.Name fx p) (e₀::es) [] cpos) pa] [.ExceptHandler (some (.Name cn np)) none (b₀::suite) hpos] [] [] pos) (Ml i sp t C th):=by
 intro pins s U H D I h;let O:OwnCls cn C bm newId X.mg X.base:=ie X.prog I.ok.mod hC0 hQ0;refine wpAny_Try_except (wpAny_execs_cons ?_);refine wpAny_Assign_Name ?_ hs;refine y0 (dB I hg hm ?_ hdb);let hA:wpAny (model X.prog X.w) X.A (spliced (backTo cpos (starEach (e₀::es) X.env))) (AP X.wZ pins U _) (λ_ _=>False) s:=ha cpos pins s U H _ (I.j3 _) h;refine wu (h₀:=X.base) I.ok.mod.Jm hk (yS hA (λus s1 ⟨vs,H1,I1',r,q⟩=>{I1'.gL,?_}) λ_ _ z=>z.elim) he hpl;let I1:Inv X pins U H1 s1:=I1'.dq;let hl:⇑us=⇑ps:=by rw[<-⇑r];exact F.len _ _ _ _ q
 refine wpAny_call (xt (F.run X.A X.stack s1 H1 {us,[]} us vs _ _ hr I1.Fn (by have:=hb s1 us I1.gL (by rw[zO];exact hl);rw[zO] at this;exact this) r q) λrr s' hq=>?_);cases rr with
 | ok fl=>
  cases fl with
  | ret u=>
   let⟨v,H2,I2,r2,q2⟩:=I1.after hq;refine lj I2 hN hi hx r2 (λs2 I3=>?_) hf;exact xP (xP {_,H2,I3,q2})
  | next=>exact False.elim hq
  | brk=>exact False.elim hq
  | cont=>exact False.elim hq
 | error ev=>
  let⟨a,cls,a0,B,H',rfl,os,bare,fl,fly,⟨rfl,q2⟩⟩:=hq;let vw:∀b∈fX X.stack,H1 b=none:=I1.gZ;let nf:∀{hh:wK},Heap.FunFrames hh B X.stack->∀b∈fX X.stack,∃o,hh.get? b=some o/\∀vs,o.data≠.fields vs:=λhF b hb=>(hF.mem hb).2;let back:∀(hh:wK),B8 X.prog X.w (fX X.stack) H1 H' s1.heap B hh->Inv X pins U H' {s' with heap:=hh}:=λhh fy=>
   I1.Er (s':={s' with heap:=hh}) (ch:=[]) os (fy.un vw) (fy.aP.kept fy.fY) bare λb z=>absurd z (by simp)
  let hfr:X.A.frames=some (X.env::X.outer):=by rw[<-hstk];exact I1.ok.frames
  refine wpAny_looks_onW hfr hfrm (by rw[<-hstk];exact fl) λh4 held4 up4=>?_;refine wpAny_landsW held4 λh5 fl5 up5=>?_;let fl5':Heap.FlyingW B X.stack a (.ref C) a0 h5:=by rw[hstk];exact fl5
  let fy5:B8 X.prog X.w (fX X.stack) H1 H' s1.heap B h5:=fly.on (up4.trans up5) fl5.1 (nf fl.2.2.1);let I5:=back h5 fy5;let⟨ob,hob,hobc⟩:=fl5'.there;let⟨tl,Nn,nm,qn,bs,hdct,sn,sub,ab,col,dd,k0,k1,k2,k3,k5,mN,hC,hN',hni,T⟩:=O.obj;refine wpAny_handleBy_cons (codeAny_handlers_test (dB (X:=X.held (.ref a)) (I5.held _) hgc O.bound ?_ hdc)) (by intro q;cases q);refine wpAny_excMatches_sub_self (I5.bk _ _ hC) hob hobc (T.hasType hbase) (codeAny_handlers_suite ?_);refine lands_againW fl5' λh6 fl6 up6=>?_;let fy6:B8 X.prog X.w (fX X.stack) H1 H' s1.heap B h6:=fy5.on up6 fl6.1 (nf fl5'.2.2.1);let I6:=back h6 fy6;refine yS (hsu (.ref a) pins _ U H' D ((I6.held _).j3 _) q2) (λfl s7 z=>?_) λ_ _ z=>z.elim;exact SP.gz I.ok.hd (SP.dq z)
end
section
variable {X:Cx}
def Gj {zs:List Str} {its:List wC} (r:Vals (zs.map V.str) its) {j:Nat} (h:j<⇑its):∃z t,zs[j]?=some z/\its[j]=.str z t:=by
 let hl:⇑zs=⇑its:=by have:=⇑r;rw[za] at this;exact this
 let⟨u,hu,ru⟩:=r.get (i:=j) (x:=.str (zs[j]'())) (by rw[zF,zb ()];rfl);let⟨t,rfl⟩:=ru;rw[zb h] at hu;exact{_,t,zb (),z0 hu}
end
structure gy (K:yo) (D:wJ):Prop where
 ga:PySem.W.findIn K (.ref D) "__getattribute__"= some (some (.builtin "BaseException.__getattribute__"))
 O6:PySem.W.findIn K (.ref D) "__getattr__"= some none
 ca:PySem.W.findIn K (.ref D) "__class__"= some (some (.builtin "object.__class__"))
 mB:PySem.W.mroIn K D (.type "BaseException")=some true
 mO:PySem.W.mroIn K D (.type "object")=some true
def qx {K:yo} {D:wJ} {b:wC} {r:Bool} (h:PySem.W.mroIn K D b=some r):(PySem.W.clsIn K D).isSome=true:=by
 unfold PySem.W.mroIn at h;let⟨cd,e,_⟩:=Option.bind_eq_some_iff.mp h;rw[e];rfl
def gy.cl {K:yo} {D:wJ} (Z:gy K D):(PySem.W.clsIn K D).isSome=true:=qx Z.mO
def Hb {K:yo} {D:wJ} {n:String} {b:Bool} (h:PySem.W.subIn K (.ref D) (.type n)=some b) (hm:PySem.W.kitMeta n=true):PySem.W.kitOne K (.ref D) (.type n)=some b:=by
 unfold PySem.W.kitOne;rw[yB (by simp)];unfold PySem.W.kitCls;dsimp only;rw[yC hm];exact h
def Jk {K:yo} {D C:wJ} {b:Bool} (h:PySem.W.subIn K (.ref D) (.ref C)=some b) (ne:D≠C) (hm:PySem.W.mroIn K C (.type "object")=some true) (ht:PySem.W.typeIn K (.ref C)=some (.type "type")):PySem.W.kitOne K (.ref D) (.ref C)=some b:=by
 unfold PySem.W.kitOne;rw[yB (by simp[ne])];unfold PySem.W.kitCls;dsimp only;rw[yC (by rw[qx hm,ht];rfl)];exact h
def Hc {K:yo} {D:wJ}:PySem.W.kitOne K (.ref D) (.ref D)=some true:=by unfold PySem.W.kitOne;rw[yC (by simp)]
def Jl {K:yo} {t:wC}:PySem.W.kitAny K t []=some false:=rfl
def jx {K:yo} {t c:wC} {r:List wC} {b:Bool} (h:PySem.W.kitOne K t c=some false) (h':PySem.W.kitAny K t r=some b):PySem.W.kitAny K t (c::r)=some b:=by
 unfold PySem.W.kitAny;rw[h];exact h'
structure i0 (K:yo) (D C:wJ):Prop where
 sub:PySem.W.subIn K (.ref D) (.ref C)=some false
 ob:PySem.W.mroIn K C (.type "object")=some true
 ty:PySem.W.typeIn K (.ref C)=some (.type "type")
def i0.M4 {K:yo} {D C:wJ} (n:i0 K D C) (self:PySem.W.subIn K (.ref D) (.ref D)=some true):PySem.W.kitOne K (.ref D) (.ref C)=some false:=
 Jk n.sub (λe=>by subst e;have:=n.sub;rw[self] at this;cases this) n.ob n.ty
section
variable {K:yo} {D x:wJ} {prog:wF} {w:wG} {A:wH} {E:wC->wD->Prop} {h:wK} {g:Array GenState} {d:Drawn} {t:Nat} {os:OsState}
def Bo {M:Model} {o:Obj} (hx:h.get? x=some o) (hc:o.cls=.ref D):PySem.W.Looks M h (typeOf (.ref x)) (.ref D):=hc▸(PySem.W.Looks.ld hx).andThen .now
open Builtin Builtin.ObjectAttr Builtin.Getset_descriptor in
def Lw {o:Obj} {R:Result->wD->Prop} {tp:wC} (X:K.In h) (Z:gy K D) (hx:h.get? x=some o) (hc:o.cls=.ref D) (hq:R (.ok (.ret (.ref D))) {(h),g,d,t,os}) :
  codeAny (model prog w) A (.call (.builtin "getset_descriptor.__get__") {[.builtin "object.__class__",.ref x,tp],[]}) R {(h),g,d,t,os}:=by
 let L0:=Bo (M:=model prog w) hx hc;let L1:=PySem.W.looks_mroIn (M:=model prog w) X Z.mO;refine codeAny_call_builtin PySem.W.KF.slot_gs.plain PySem.W.KF.entry_gs (PySem.W.KF.slot_gs.check _ _ _ _ _ _ _ _ PySem.W.KF.type_class (PySem.W.KF.args_gs _ _ _) ?_);unfold Builtin.«getset_descriptor.__get__» descrGet;rw[PySem.W.dga_obj];refine yg (yi ?_);unfold descrGetter descrCheckInstance descrNameAndClass isInstance;simp only[PySem.W.KF.owner_class]
 repeat (open PySem.W in lk)
 refine{Code.quiet_builtin _ (by decide +kernel),xx PySem.W.KF.entry_class ?_};unfold Builtin.«object.__class__» shownTypeOf
 repeat (open PySem.W in lk)
 exact hq
def Hz {o:Obj} {tk:Tok} {Q:Fin->wD->Prop} (X:K.In h) (Z:gy K D) (hx:h.get? x=some o) (hc:o.cls=.ref D) (hq:Q (.done (.ret (.ref D))) {(h),g,d,t,os}) :
  wpAny (model prog w) A (Builtin.«object.__getattribute__» {[.ref x,.str "__class__" tk],[]}) Q E {(h),g,d,t,os}:=by
 let hT5:({(h),g,d,t,os}:wD).TypeIs (.builtin "object.__class__") "getset_descriptor":=F.typeOf_object_class;let f5:=F.typeOf_object_class;let f6:=F.slot_gs_get.lookup;let f7:=F.slot_gs_set.lookup;let L1:=PySem.W.looks_findIn (M:=model prog w) X Z.ca
 repeat (any_goals (first | assumption | (with_reducible refine wpAny_loadPart_at hx ?_;rw[hc]) | (with_reducible refine L1.at ?_) | wp_step))
 refine Lw X Z hx hc ?_
 repeat (any_goals (first | assumption | wp_step))
def Bp {M:Model} {o:Obj} {nameV:wC} {Q:Unit->wD->Prop} (X:K.In h) (Z:gy K D) (hx:h.get? x=some o) (hc:o.cls=.ref D) (hq:Q .unit {(h),g,d,t,os}) :
  wpAny M A (checkBuiltinCall "BaseException.__getattribute__" {[.ref x,nameV],[]}) Q E {(h),g,d,t,os}:=by
 let hk:builtinKind "BaseException.__getattribute__"= some .slot:=by decide +kernel
 let hsplit:splitId "BaseException.__getattribute__"= some ("BaseException","__getattribute__"):=by decide +kernel
 let L1:=PySem.W.looks_mroIn (M:=M) X Z.mB;let ha:=F.args_bexc_ga (.ref x) nameV;simp only[checkBuiltinCall,hk,hsplit];refine yg ?_
 ·unfold isInstance
  repeat (first | (with_reducible refine wpAny_loadPart_at hx ?_;rw[hc]) | (with_reducible refine L1.at ?_) | wp_step)
  exact hq
def Nc {o:Obj} {tk:Tok} {fill expr:Bool} {Q:wC->wD->Prop} (X:K.In h) (Z:gy K D) (hx:h.get? x=some o) (hc:o.cls=.ref D) (hq:Q (.ref D) {(h),g,d,t,os}) :
  wpAny (model prog w) A (getAttrBy (.ref x) (.str "__class__" tk) fill expr) Q E {(h),g,d,t,os}:=by
 let f3:=F.attr_ValueError.ga.bind (.ref x);let hx0:(expr&&onTheHeap (Value.builtin "BaseException.__getattribute__"))=false:=by cases expr <;> rfl
 let hx2:(Value.builtin "BaseException.__getattribute__"== Value.builtin "object.__getattribute__")=false:=by decide +kernel
 let hx1:(onTheHeap (Value.ref D)&&Value.builtin "BaseException.__getattribute__"== Value.builtin "object.__getattribute__")=false:=by rw[hx2];rfl
 let L1:=PySem.W.looks_findIn (M:=model prog w) X Z.ga;let L2:=PySem.W.looks_findIn (M:=model prog w) X Z.O6
 repeat (any_goals (first | assumption | (with_reducible refine wpAny_loadPart_at hx ?_;rw[hc]) | (with_reducible refine L1.at ?_) | (with_reducible refine L2.at ?_) | wp_step))
 refine codeAny_call_builtin F.attr_ValueError.ga.plain F.entry_bexc_ga (Bp X Z hx hc (Hz X Z hx hc ?_))
 repeat (any_goals (first | assumption | wp_step))
def HA {o:Obj} {Q:Option wC->wD->Prop} {s:wD} (X:K.In s.heap) (Z:gy K D) (hx:s.heap.get? x=some o) (hc:o.cls=.ref D) (hq:Q (some (.ref D)) {s with toks:=s.toks+1}) :
  wpAny (model prog w) A (getAttr? (.ref x) "__class__") Q E s:=by
 let⟨h,g,d,t,os⟩:=s;unfold getAttr? getAttrBy?;refine yg (wpAny_mkText (yg (wb ?_)));refine Nc X Z hx hc ?_;exact yi hq
def Jz {M:Model} {S:wJ} {o:Obj} {ddS:Option wJ} {cdS:ClassData} {slS:Array (Option wC)} {Q:Bool->wD->Prop} (X:K.In h) (hx:h.get? x=some o) (hc:o.cls=.ref D) (hS:K.lookup S=some {.type "type",ddS,.cls cdS,slS}) (hSB:PySem.W.mroIn K S (.type "BaseException")=some true)
  (hup:PySem.W.mroIn K D (.ref S)=some true) (hq:Q true {(h),g,d,t,os}):wpAny M A (excMatches (.ref x) (.ref S)) Q E {(h),g,d,t,os}:=by
 let L1:=PySem.W.looks_mroIn (M:=M) X hSB;let L2:=PySem.W.looks_mroIn (M:=M) X hup;let hS':=X _ _ hS;let noTuple:=tc_notTuple;unfold excMatches
 repeat (first
  | (with_reducible refine wpAny_loadPart_at hx ?_;rw[hc])
  | (with_reducible refine wpAny_loadPart_at hS' ?_)
  | (with_reducible refine L1.at ?_)
  | (with_reducible refine L2.at ?_)
  | wp_step)
 exact hq
def Dq {S:wJ} {bm:List wC} {n:String} (e:PySem.W.excIn K S bm n=true):∃dd cd sl,K.lookup S=some {.type "type",dd,.cls cd,sl}:=by
 unfold PySem.W.excIn at e;split at e
 ·exact{_,_,_,‹_›}
 ·cases e
def Ef (Z:gy K D):PySem.W.KitX K (.ref x) (.ref D) (λh=>∃o,h.get? x=some o/\o.cls=.ref D) where
 ty:=λ_ _ _ ⟨o,hx,hc⟩=>Bo hx hc
 it:=λ_ _ X _=>by
  let hcD:=Z.cl;unfold PySem.W.clsIn at hcD;split at hcD
  ·rename_i c' d' cd' sl' ho
   intro A' Q' E' s' k q;unfold isType loadHead;exact yg (wpAny_loadPart (k _ _ (X _ _ ho)) (yi q))
  ·cases hcD
 ne:=λh tp dd its n sl X htp=>by
  let hcD:=Z.cl;refine Bool.eq_false_iff.mpr λq=>?_;let e:D=tp:=Value.ref.inj (wt.mp q);subst e;unfold PySem.W.clsIn at hcD;split at hcD
  ·rename_i c' d' cd' sl' ho
   let z:=(X _ _ ho).symm.trans htp;cases z
  ·cases hcD
 ca:=λX ⟨o,hx,hc⟩ k=>HA X Z hx hc k
end
section
variable {X:Cx}
theorem sN:∀{cs:List wJ} {us:List wC},Vals (cs.map V.ref) us->us=cs.map Value.ref
 | [],_,.nil=>rfl
 | c::cs,_,.cons r t=>by
  cases(show _=Value.ref c from r);rw[sN t];rfl
end
def aT.here (x:aT P w H h a o):∃ob,h.get? a=some ob:=by
 cases o with
 | lst xs=>let⟨_,_,_,_,e⟩:=x;exact{_,e}
 | tup xs=>let⟨_,_,_,o,e,_⟩:=x;exact{_,e}
 | dK kvs=>let⟨_,_,_,_,o,_,_,e,_⟩:=x;exact{_,e}
 | dT kvs=>let⟨_,_,_,_,o,_,_,e,_⟩:=x;exact{_,e}
 | set S n=>let⟨o,_,_,_,e,_⟩:=x;exact{_,e}
 | ins C dx fs=>let⟨_,_,_,e,_⟩:=x;exact{_,e}
 | own y=>exact x
 | xd fs=>let⟨_,⟨_,_,_,e,_⟩,_⟩:=x;exact{_,e}
 | KQ lo hi=>let⟨_,_,_,e⟩:=x;exact{_,e}
 | i9 ob u=>let⟨e,_⟩:=x;exact{_,e}
 | Gf ps=>exact{_,x}
 | met f y=>exact{_,x}
 | ext φ=>exact x.2.1
section
variable {X:Cx} {pins:List (wJ×Obj)} {U:St} {H:Hp} {s:wD}
def Inv.Md (I:Inv X pins U H s) (hn:H a=none) (h0:X.s₀.heap.get? a=none) (hl:a≠X.env.locals) (hc:∀x c,X.env.cells.lookup x=some c->c≠a) (hp:∀p∈X.pn++pins,p.1≠a)
  (new:aT X.prog X.w (upd H a o) s.heap a o):Inv X pins U (upd H a o) s where
 ok:=I.ok
 os:=I.os
 bare:=I.bare
 base:={I.base.keep,I.base.slot,λb ob e n hx=>by rw[aq (λz=>by rw[z,h0] at e;cases e)];exact I.base.free b ob e n hx,I.base.there,
  λb xs e=>by have:=I.base.i4 b xs e;rw[aq (aJ this hn)];exact this,λb ob u e=>by have:=I.base.gS b ob u e;rw[aq (aJ this hn)];exact this,
  λb ps e=>by let⟨m,e1⟩:=I.base.i5 b ps e;exact{m,by rw[aq (aJ e1 hn)];exact e1}}
 loc:=I.loc
 cell:=I.cell
 free:=by rw[aq (Ne.symm hl)];exact I.free
 fR:=λx c e=>by rw[aq (hc x c e)];exact I.fR x c e
 pin:=λp hpp=>by let⟨e,n,ne,nf,d⟩:=I.pin p hpp;exact{e,by rw[aq (hp p hpp)];exact n,ne,nf,d}
 aP:=λb u e=>by
  by_cases hb:b=a
  ·subst hb
   rw[az] at e;cases e;exact new
  ·rw[aq hb] at e
   refine(I.aP b u e).fY (λ_ _ _ q=>q) (λc q=>?_) λc xs q=>?_
   ·rw[aq (aJ q hn)];exact q
   ·rw[aq (aJ q hn)];exact q
 len:=I.len
def Inv.Ir {h':wK} {n:Str} {j:Nat} {v:Option wC} {m:Str->Option wC} {t':Nat} (I:Inv X pins U H s) (hN:X.N.Nodup) (hj:X.N[j]?=some n) (hl:∀(i:Nat) (x:Str) (v:V),X.N[i]?=some x->U[i]?=some (some v)->LK X.env.scope x->∃u,RelV v u/\Look X.env s.heap m x u) (hn:h'.Ns X.env.locals (λx=>if x=n then v else m x)) (hs:Heap.SameBut X.env.locals s.heap h') :
  Inv X pins (U.set j none) H {s with heap:=h',toks:=t'}:=by
 let Eo:=I.Eo;refine{I.ok,I.os,I.bare,{λb o e n hb hx=>?_,λb o e n hb hx=>?_,I.base.free,λb o e hx=>?_,I.base.i4,I.base.gS,I.base.i5},{_,hn,λi y v' e1 e2 e3=>?_},λy c e=>?_,I.free,I.fR,λp hp=>?_,λb ob e=>?_,by simpa using I.len}
 ·exact(hs.2 b (zZ (zS (yk e) I.ok.above))).trans (I.base.keep b o e n hb hx)
 ·let⟨sl,e1⟩:=I.base.slot b o e n hb hx
  exact{sl,(hs.2 b (zZ (zS (yk e) I.ok.above))).trans e1}
 ·let⟨o',e1⟩:=I.base.there b o e hx
  exact{o',(hs.2 b (zZ (zS (yk e) I.ok.above))).trans e1}
 ·by_cases hi:i=j
  ·subst hi
   rw[List.getElem?_set] at e2;split at e2
   ·split at e2 <;> cases e2
   ·rename_i z;exact absurd rfl z
  ·rw[List.getElem?_set_ne (Ne.symm hi)] at e2
   let⟨u',r',q⟩:=hl i y v' e1 e2 e3;refine{u',r',?_};rcases q with⟨k,e⟩ | ⟨k,c,e,z⟩
   ·refine .inl {k,?_}
    have:y≠n:=λe=>hi (pQ hN e1 (e▸hj));simp[this,e]
   ·exact .inr {k,c,e,z.sameBut hs (Eo y c e)}
 ·let⟨w',z⟩:=I.cell y c e
  exact{w',z.sameBut hs (Eo y c e)}
 ·let⟨e,n,ne,nf,d⟩:=I.pin p hp
  exact{(hs.2 p.1 ne).trans e,n,ne,nf,d}
 ·refine(I.aP b ob e).fY (λc w' hc q=>(hs.2 c ?_).trans q) (λ_ q=>q) λ_ _ q=>q
  rintro rfl;rcases hc with rfl | hc
  ·rw[I.free] at e;cases e
  ·rw[I.free] at hc;cases hc
end
def N3 (j:Nat) (D:Ends):Ends:={nx:=λU H=>D.nx (U.set j none) H,rt:=D.rt,bk:=λU H=>D.bk (U.set j none) H,ct:=λU H=>D.ct (U.set j none) H}
section
variable {X:Cx} {k:Nat} {f:wJ} {fd:wI} {ps:List Str} {sp:Sp} {fx cn n x:Str} {p pos cpos pa tpos np hpos:Pos} {e₀:Expr} {es:List Expr} {t:TA} {i j:Nat} {C S:wJ} {bm bmS:List wC} {newId newIdS:String} {b₀:Stmt} {suite:List Stmt} {th:TS}
end
end L2
namespace L2
open PySem PySem.Spec PyProof.Rows
section
variable {κ:Type} [DecidableEq κ]
def cR (kvs:List (κ×V)) (k:κ):Option V:=(kvs.find? λkv=>decide (kv.1=k)).map (·.2)
def putK (kvs:List (κ×V)) (k:κ) (v:V):List (κ×V):=
 if(kvs.any λkv=>decide (kv.1=k))=true then kvs.map (λkv=>if kv.1=k then(kv.1,v) else kv) else kvs++[(k,v)]
def oA {p:κ×V} {r:List (κ×V)} {k:κ} (e:p.1=k):cR (p::r) k=some p.2:=by simp[cR,yG,e]
def oB {p:κ×V} {r:List (κ×V)} {k:κ} (e:¬p.1=k):cR (p::r) k=cR r k:=by simp[cR,yG,e]
theorem oE (k:κ):∀kvs:List (κ×V),(kvs.any λkv=>decide (kv.1=k))=(cR kvs k).isSome
 | []=>rfl
 | p::r=>by
  rw[y3]
  by_cases e:p.1=k
  ·simp only[oA e,zd e,Bool.true_or,Option.isSome_some]
  ·rw[oB e,zc e,Bool.false_or];exact oE k r
def nh (kvs:List (κ×V)) (k:κ) (v:V):⇑(putK kvs k v)<=⇑kvs+1:=by
 unfold putK;split
 ·rw[za];ext
 ·rw[ze,zo,yZ];ext
def GH {kvs:List (κ×V)} {k:κ} (v:V) (h:cR kvs k=none):putK kvs k v=kvs++[(k,v)]:=by
 unfold putK;rw[oE,h];exact yB ∅
def dm.gP (r:dm o u):o.isSome=u.isSome:=by
 cases o with
 | none=>cases u with
  | none=>rfl
  | some _=>exact(show False from r).elim
 | some _=>cases u with
  | none=>exact(show False from r).elim
  | some _=>rfl
theorem dm.getD (r:dm o u) (rd:RelV d d'):RelV (o.getD d) (u.getD d'):=by
 cases o with
 | none=>cases u with
  | none=>exact rd
  | some _=>exact(show False from r).elim
 | some _=>cases u with
  | none=>exact(show False from r).elim
  | some _=>exact r
def KV.val {kvs:List (κ×V)} {vs:List (κ×wC)} (r:KV kvs vs) (k:κ):dm (cR kvs k) (valueAt vs k):=by
 unfold KV at r
 induction r with
 | nil=>exact True.intro
 | @cons p q ps qs h t ih=>
  let⟨h1,h2⟩:=h
  by_cases e:p.1=k
  ·let e':q.1=k:=h1.symm.trans e
   let b:valueAt (q::qs) k=some q.2:=by simp[valueAt,yG,e']
   rw[oA e,b];exact h2
  ·let e':¬q.1=k:=λz=>e (h1.trans z)
   let b:valueAt (q::qs) k=valueAt qs k:=by simp[valueAt,yG,e']
   rw[oB e,b];exact ih
theorem KV.any (r:KV kvs vs) (k:κ):(kvs.any λkv=>decide (kv.1=k))=vs.any λkv=>decide (kv.1=k):=by
 unfold KV at r
 induction r with
 | nil=>rfl
 | cons h t ih=>rw[y3,y3,ih,h.1]
def KV.KS (r:KV kvs vs) (k:κ) (ry:RelV y u) :
  KV (kvs.map λkv=>if kv.1=k then(kv.1,y) else kv) (vs.map λkv=>if kv.1=k then(kv.1,u) else kv):=by
 unfold KV at r ⊢
 induction r with
 | nil=>exact .nil
 | @cons p q ps qs h t ih=>
  rw[zf,zf];refine .cons ?_ ih;let⟨h1,h2⟩:=h
  by_cases e:p.1=k
  ·rw[yC e,yC (h1.symm.trans e)];exact{(h1),ry}
  ·rw[yB e,yB (λz=>e (h1.trans z))];exact{(h1),h2}
def KV.put (r:KV kvs vs) (k:κ) (ry:RelV y u):KV (putK kvs k y) (stored vs k u):=by
 unfold putK stored;rw[r.any k]
 by_cases e:(vs.any λkv=>decide (kv.1=k))=true
 ·rw[yC e,yC e];exact r.KS k ry
 ·rw[yB e,yB e];exact Paired.snoc r {(rfl),ry}
theorem KV.length (r:KV kvs vs):⇑kvs=⇑vs:=xB r
end
def tw (r:RelV (kV k) u):(bI P w).is k u=true:=by
 cases k with
 | inl i=>let⟨t,e⟩:=(show∃t,u=Value.int i t from r);subst e;exact A8 P w i t
 | inr x=>let⟨t,e⟩:=(show∃t,u=Value.str x t from r);subst e;exact m9 P w x t
theorem tD:∀{ks:List Key} {us:List wC},Vals (ks.map kV) us->ItemsAre (bI P w) ks us
 | [],_,r=>by rw[ya] at r;cases r;exact .nil
 | k::ks,_,r=>by
  rw[zf] at r;cases r with
  | cons h t=>exact .cons (tw h) (tD t)
abbrev KT (H:Hp):List (List Key×V)->List (List Key×wJ×wC)->Prop:=Paired λp q=>p.1=q.1/\H q.2.1=some (.tup (p.1.map kV))/\RelV p.2 q.2.2
def KT.val {H:Hp} {kvs:List (List Key×V)} {xs:List (List Key×wJ×wC)} (r:KT H kvs xs) (k:List Key):dm (cR kvs k) ((atKey xs k).map (·.2)):=by
 induction r with
 | nil=>exact True.intro
 | @cons p q ps qs h t ih=>
  let⟨h1,_,h2⟩:=h
  by_cases e:p.1=k
  ·let e':q.1=k:=h1.symm.trans e
   let b:atKey (q::qs) k=some q.2:=by simp[atKey,yG,e']
   rw[oA e,b];exact h2
  ·let e':¬q.1=k:=λz=>e (h1.trans z)
   let b:atKey (q::qs) k=atKey qs k:=by simp[atKey,yG,e']
   rw[oB e,b];exact ih
def KT.KS (r:KT H kvs xs) (k:List Key) (ry:RelV y u) :
  KT H (kvs.map λkv=>if kv.1=k then(kv.1,y) else kv) (xs.map (putAt k u)):=by
 induction r with
 | nil=>exact .nil
 | @cons p q ps qs h t ih=>
  rw[zf,zf];refine .cons ?_ ih;let⟨h1,h2,h3⟩:=h;unfold putAt
  by_cases e:p.1=k
  ·rw[yC e,yC (h1.symm.trans e)];exact{(h1),h2,ry}
  ·rw[yB e,yB (λz=>e (h1.trans z))];exact{(h1),h2,h3}
def KT.put (r:KT H kvs xs) (k:List Key) (hb:H b=some (.tup (k.map kV))) (ry:RelV y u) :
  KT H (putK kvs k y) (storedH xs k b u):=by
 let e:(kvs.any λkv=>decide (kv.1=k))=(atKey xs k).isSome:=by
  rw[oE,(r.val k).gP,Option.isSome_map]
 unfold putK storedH;rw[e]
 by_cases q:(atKey xs k).isSome=true
 ·rw[yC q,yC q];exact r.KS k ry
 ·rw[yB q,yB q];exact Paired.snoc r {(rfl),hb,ry}
def KT.keeps (r:KT H kvs xs) (ht:∀b ys,H b=some (.tup ys)->H' b=some (.tup ys)):KT H' kvs xs:=
 Paired.K7 r λ_ _ z=>{z.1,ht _ _ z.2.1,z.2.2}
section
variable {P:wF} {w:wG} {H:Hp} {h:wK} {a:wJ}
def JY (ok:j2 P w H h) (e:Rd H a u):aT P w H h a u:=e.ok ok
def nv (ok:j2 P w H h) (e:Rd H a (.dK kvs)):⇑kvs<=sizeLine/\(a == sysModules)=false/\∃vs,KV kvs vs/\h.DictOf (bI P w) a vs:=
 show aT P w H h a (.dK kvs) from JY ok e
def Nl (ok:j2 P w H h) (e:H a=some (.dK kvs)):⇑kvs<=sizeLine/\(a == sysModules)=false/\∃vs,KV kvs vs/\h.DictOf (bI P w) a vs:=nv ok (.inl e)
def mK (ok:j2 P w H h) (e:H a=some (.tup (ks.map kV))):(tupleKind (bI P w)).is h ks a:=by
 let⟨_,its,r,o,h1,h2,n,h3⟩:=(show aT P w H h a (.tup (ks.map kV)) from ok a _ e)
 exact{o,its.toArray,n,h1,h2,h3,by simpa using tD r}
def qi (ok:j2 P w H h) (e:Rd H a (.dT kvs)):⇑kvs<=sizeLine/\(a == sysModules)=false/\
  ∃xs,KT H kvs xs/\h.DictOfH (tupleKind (bI P w)) a xs:=by
 let⟨z,y,xs,r,o,es,ep,h1,h2,h3,h4,h5⟩:=(show aT P w H h a (.dT kvs) from JY ok e)
 refine{z,y,xs,r,o,es,ep,h1,h2,h3,h4,λx hx=>?_,h5};let all:∀{l:List (List Key×V)} {m:List (List Key×wJ×wC)},KT H l m->∀x∈m,(tupleKind (bI P w)).is h x.1 x.2.1:=by
  intro l m q
  induction q with
  | nil=>intro x hx;exact nomatch hx
  | @cons p q ps qs hq t ih=>
   intro x hx;rcases zw.mp hx with e | hx
   ·subst e
    exact mK ok (by rw[<-hq.1];exact hq.2.1)
   ·exact ih x hx
 exact all r x hx
def Nk (ok:j2 P w H h) (e:H a=some (.dT kvs)):⇑kvs<=sizeLine/\(a == sysModules)=false/\
  ∃xs,KT H kvs xs/\h.DictOfH (tupleKind (bI P w)) a xs:=qi ok (.inl e)
end
def wY (H:Hp) (a:wJ) (y:V) (r:Option V):Prop:=
 (∃kvs k,Rd H a (.dK kvs)/\y=kV k/\r=cR kvs k)\/∃kvs k b,Rd H a (.dT kvs)/\y=.ref b/\H b=some (.tup (k.map kV))/\r=cR kvs k
def Nz (H:Hp) (a:wJ) (y v:V) (H':Hp):Prop:=
 (∃kvs k,H a=some (.dK kvs)/\y=kV k/\⇑kvs<sizeLine/\H'=upd H a (.dK (putK kvs k v)))\/
 ∃kvs k b,H a=some (.dT kvs)/\y=.ref b/\H b=some (.tup (k.map kV))/\⇑kvs<sizeLine/\H'=upd H a (.dT (putK kvs k v))
section
variable {X:Cx} {pins:List (wJ×Obj)} {U:St} {H:Hp} {s:wD} {a:wJ} {y v:V} {u r:wC} {o:Option V} {A:wH} {E:wC->wD->Prop}
def Inv.big (I:Inv X pins U H s):sysModules<↑s:=by
 let h:mainGlobals<↑s:=(I.mod.glob.keeps I.bk).lt;exact xg ∅ h
def Ft (hu:A.units+1<cLine) (I:Inv X pins U H s) (g:wY H a y (some v)) (ry:RelV y u) (h:∀w' s',Inv X pins U H s'->RelV v w'->Q w' s') :
  wpAny (model X.prog X.w) A (getItem (.ref a) u) Q E s:=by
 rcases g with⟨kvs,k,e,ey,l⟩ | ⟨kvs,k,b,e,ey,eb,l⟩
 ·subst ey
  let⟨z,hd,vs,rel,dd⟩:=nv I.aP e;let⟨w',hw,rw'⟩:=dm.some_of (v:=v) (o:=valueAt vs k) (by rw[l];exact rel.val k);exact wpAny_getItem_of (tw ry) dd.mapOf hw (h w' _ (I.tok _) rw')
 ·subst ey
  cases(show u=Value.ref b from ry);let⟨z,hd,xs,rel,dd⟩:=qi I.aP e;let⟨w',hw,rw'⟩:=dm.some_of (v:=v) (o:=(atKey xs k).map (·.2)) (by rw[l];exact rel.val k);let⟨p,hp,hp2⟩:=Option.map_eq_some_iff.mp hw;refine wpAny_getItem_heap (xS hu) (mK I.aP eb) dd hp ?_;rw[hp2];exact h w' _ (I.tok _) rw'
def OU (hu:A.units+1<cLine) (I:Inv X pins U H s) (g:wY H a y o) (ry:RelV y u) (h:∀s',Inv X pins U H s'->Q (.bool o.isSome) s') :
  wpAny (model X.prog X.w) A (compareOp .In u (.ref a)) Q E s:=by
 rcases g with⟨kvs,k,e,ey,l⟩ | ⟨kvs,k,b,e,ey,eb,l⟩
 ·subst ey
  let⟨z,hd,vs,rel,dd⟩:=nv I.aP e;refine wpAny_in_of (tw ry) hd dd.mapOf ?_;rw[<-(rel.val k).gP,<-l];exact h _ (I.tok _)
 ·subst ey
  cases(show u=Value.ref b from ry);let⟨z,hd,xs,rel,dd⟩:=qi I.aP e;refine wpAny_in_heap (xS hu) (mK I.aP eb) hd dd ?_;let q:=(rel.val k).gP;rw[Option.isSome_map] at q;rw[<-q,<-l];exact h _ (I.tok _)
def JF (hu:A.units+1<cLine) (I:Inv X pins U H s) (g:wY H a y o) (ry:RelV y u) (h:∀s',Inv X pins U H s'->Q (.bool (!o.isSome)) s') :
  wpAny (model X.prog X.w) A (compareOp .NotIn u (.ref a)) Q E s:=by
 rcases g with⟨kvs,k,e,ey,l⟩ | ⟨kvs,k,b,e,ey,eb,l⟩
 ·subst ey
  let⟨z,hd,vs,rel,dd⟩:=nv I.aP e;refine wpAny_notIn_of (tw ry) hd dd.mapOf ?_;rw[<-(rel.val k).gP,<-l];exact h _ (I.tok _)
 ·subst ey
  cases(show u=Value.ref b from ry);let⟨z,hd,xs,rel,dd⟩:=qi I.aP e;refine wpAny_notIn_heap (xS hu) (mK I.aP eb) hd dd ?_;let q:=(rel.val k).gP;rw[Option.isSome_map] at q;rw[<-q,<-l];exact h _ (I.tok _)
def El (I:Inv X pins U H s) (mu:Nv (H a)) (hs:Heap.SameBut a s.heap h') (he:∃q,h'.get? a=some q) (new:aT X.prog X.w (upd H a ob) h' a ob) :
  Inv X pins U (upd H a ob) {s with heap:=h',toks:=t'}:=
 I.write (x:=a) (e:=a) mu (.inl rfl) (λb q hb z=>(hs.2 b hb).trans z) he new
def LC (z:⇑kvs<=sizeLine) (hd:(a == sysModules)=false) (rel:KV kvs vs) (dd:h'.DictOf (bI P w) a vs) :
  aT P w H' h' a (.dK kvs):={(z),hd,vs,rel,dd}
def Fs (hu:A.units+1<cLine) (I:Inv X pins U H s) (g:Nz H a y v H') (ry:RelV y u) (rv:RelV v r) (h:∀s',Inv X pins U H' s'->Q .unit s') :
  wpAny (model X.prog X.w) A (setItem (.ref a) u r) Q E s:=by
 rcases g with⟨kvs,k,e,ey,l,eH⟩ | ⟨kvs,k,b,e,ey,eb,l,eH⟩
 ·subst ey eH
  let⟨z,hd,vs,rel,dd⟩:=Nl I.aP e;let hz:⇑vs<=sizeLine:=by rw[<-⇑rel];exact z
  let hl:⇑(putK kvs k v)<=sizeLine:=by have:=nh kvs k v;ext
  refine wpAny_setItem_pairs (hsz:=hz) (tw ry) dd λh' dd' hs=>h _ ?_;let he:∃q,h'.get? a=some q:=let ⟨q,_,_,hq,_⟩:=dd';{(q),hq};exact El I (by rw[e];exact True.intro) hs he (LC hl hd (rel.put k rv) dd')
 ·subst ey eH
  cases(show u=Value.ref b from ry);let⟨z,hd,xs,rel,dd⟩:=Nk I.aP e;let hz:⇑xs<=sizeLine:=by rw[<-xB rel];exact z
  let hl:⇑(putK kvs k v)<=sizeLine:=by have:=nh kvs k v;ext
  refine wpAny_setItem_heap (hsz:=hz) (xS hu) (mK I.aP eb) dd λh' dd' hs=>h _ ?_;let⟨q,es,ep,hq,h2,h3,h4,_,h5⟩:=dd';refine El I (by rw[e];exact True.intro) hs ⟨q,hq⟩ ⟨hl,hd,_,(rel.put k eb rv).keeps λc ys ec=>?_,q,es,ep,hq,h2,h3,h4,h5⟩;rw[aq (aH ec e (λz=>nomatch z))];exact ec
end
section
variable {X:Cx} {pins:List (wJ×Obj)} {U:St} {H:Hp} {s:wD} {a:wJ} {kvs:List (Key×V)} {k:Key} {u:wC} {A:wH} {E:wC->wD->Prop}
def Np (I:Inv X pins U H s) (e:Rd H a (.dK kvs)) (h:∀t s',Inv X pins U H s'->Q (.int ⇑kvs t) s'):wpAny (model X.prog X.w) A (call (.builtin "len") [.ref a]) Q E s:=by
 let⟨z,hd,vs,rel,dd⟩:=nv I.aP e;refine call_len_dict hd dd (by rw[<-⇑rel];rw[yp] at z;ext) ?_;rw[<-⇑rel];exact h _ _ (I.tok _)
end
def LN (i:Expr):Prop:=∀ov iv,subscripted i false ov iv=operate [ov,iv] (getItem ov iv)
def DT {prog:wF} {w:wG} {A:wH} {E:wC->wD->Prop} {s:wD} {env:Env} {value slice:Expr} {pos:Pos} {T id:String} {Q:wC->wD->Prop}
  (hl:typeLookup (.type T) "__getitem__"= pure (some (.builtin id))) (hs:LN slice)
  (h:wpAny (model prog w) A (eval value env) (λo s₁=>wpAny (model prog w) A (eval slice env) (λi s₂=>s₂.TypeIs o T/\wpAny (model prog w) A (getItem o i) Q E s₂) E s₁) E s) :
  wpAny (model prog w) A (eval (.Subscript value slice pos) env) Q E s:=by
 refine Subscript_ (yS h (λo s₁ h₁=>yS h₁ (λi s₂ h₂=>?_) λ_ _ x=>x) λ_ _ x=>x);let⟨hT,h₂⟩:=h₂;unfold subscriptTail;refine yg ?_;rw[getitemInPython_of_ne hT.not_modules];refine yg (wpAny_specialOf hT hl ?_);let fin:wpAny (model prog w) A (subscripted slice false o i) (λr s₃=>wpAny (model prog w) A (letTemporaryGo value o r >>= λ_=>pure r) Q E s₃) E s₂:=by
  rw[hs o i];exact wpAny_operating (yS h₂ (λr s₃ h₃=>yg (wpAny_letTemporaryGo (yi h₃))) λ_ _ x=>x)
 first
  | exact yi (yg fin)
  | exact yg (yi (yg fin))
  | exact yg fin
def Bs (I:Inv X pins U H s) (g:wY H a y o):s.TypeIs (.ref a) "dict":=by
 rcases g with⟨kvs,k,e,_,_⟩ | ⟨kvs,k,b,e,_,_,_⟩
 ·let⟨_,_,vs,_,dd⟩:=nv I.aP e
  exact dd.typeIs
 ·let⟨_,_,xs,_,dd⟩:=qi I.aP e
  exact dd.typeIs
def Mt (td ty:TE):TE:=λU H Q=>td U H λx H1=>ty U H1 λy H2=>∃a v,x=.ref a/\wY H2 a y (some v)/\Q v H2
def Oe (ty td:TE):TE:=λU H Q=>ty U H λy H1=>td U H1 λx H2=>∃a o,x=.ref a/\wY H2 a y o/\Q (.bl o.isSome) H2
def ID (ty td:TE):TE:=λU H Q=>ty U H λy H1=>td U H1 λx H2=>∃a o,x=.ref a/\wY H2 a y o/\Q (.bl (!o.isSome)) H2
def MC (td ty tv:TE):TS:=λD U H=>tv U H λv H1=>td U H1 λx H2=>ty U H2 λy H3=>∃a H4,x=.ref a/\Nz H3 a y v H4/\D.nx U H4
section
variable {X:Cx} {o i e value:Expr} {pos pos' tpos:Pos} {td ty tv:TE}
def IZ (hu:X.A.units+1<cLine) (ho:PE X o td) (hi:PE X i ty) (hs:LN i):PE X (.Subscript o i pos) (Mt td ty):=by
 intro pins s U H Q I h;refine DT PySem.F.slot_dict_getitem.lookup hs (bR (ho pins s U H _ I h) λu s1 ⟨x,H1,I1,rx,q1⟩=>bR (hi pins s1 U H1 _ I1 q1) λiv s2 zz=>?_);let⟨y,H2,I2,ry,a,v,ex,g,q2⟩:=zz;subst ex;obtain rfl:u=Value.ref a:=rx;exact{Bs I2 g,Ft hu I2 g ry λw' s3 I3 rw'=>{(v),H2,I3,rw',q2}}
def CM (hu:X.A.units+1<cLine) (hi:PE X i ty) (ho:PE X o td):PC X .In i o (Oe ty td):=by
 intro pins s U H Q I h;refine bR (hi pins s U H _ I h) λiv s1 ⟨y,H1,I1,ry,q1⟩=>bR (ho pins s1 U H1 _ I1 q1) λu s2 zz=>?_;let⟨x,H2,I2,rx,a,ov,ex,g,q2⟩:=zz;subst ex;obtain rfl:u=Value.ref a:=rx;exact OU hu I2 g ry λs3 I3=>{.bl ov.isSome,H2,I3,rfl,q2}
def sW (hu:X.A.units+1<cLine) (hi:PE X i ty) (ho:PE X o td):PC X .NotIn i o (ID ty td):=by
 intro pins s U H Q I h;refine bR (hi pins s U H _ I h) λiv s1 ⟨y,H1,I1,ry,q1⟩=>bR (ho pins s1 U H1 _ I1 q1) λu s2 zz=>?_;let⟨x,H2,I2,rx,a,ov,ex,g,q2⟩:=zz;subst ex;obtain rfl:u=Value.ref a:=rx;exact JF hu I2 g ry λs3 I3=>{.bl (!ov.isSome),H2,I3,rfl,q2}
def oh (hu:X.A.units+1<cLine) (ho:PE X o td) (hi:PE X i ty) (hv:PE X value tv) (hs:swapsWith value (some (.Subscript o i pos')) pos.line X.env=pure false) :
  PS X (.Assign [.Subscript o i pos'] value pos) (MC td ty tv):=by
 intro pins s U H D I h;refine wpAny_Assign_Subscript (bR (hv pins s U H _ I h) λr s1 ⟨v,H1,I1,rv,q1⟩=>bR (ho pins s1 U H1 _ I1 q1) λu s2 ⟨x,H2,I2,rx,q2⟩=>bR (hi pins s2 U H2 _ I2 q2) λiv s3 ⟨y,H3,I3,ry,a,H4,ex,g,q3⟩=>?_) hs;subst ex;obtain rfl:u=Value.ref a:=rx;exact Fs hu I3 g ry rv λs4 I4=>{U,H4,I4,q3}
end
def HG (h:wK) (hb:sysModules<h.objs.size):aT P w H (h.push {cls:=.type "dict",data:=.dict #[]}) h.objs.size (.dK []):=
 {zW _,xc.mpr (Ne.symm (zZ hb)),[],.nil,Heap.DictOf.new h}
def HF (h:wK) (hb:sysModules<h.objs.size):aT P w H (h.push {cls:=.type "dict",data:=.dict #[]}) h.objs.size (.dT []):=
 {zW _,xc.mpr (Ne.symm (zZ hb)),[],.nil,_,#[],0,yj _ rfl,{(rfl),rfl,rfl},rfl,rfl,xE}
def KA:TE:=λ_ H Q=>∀p,H p=none->Q (.ref p) (upd H p (.dK []))
def Kz:TE:=λ_ H Q=>∀p,H p=none->Q (.ref p) (upd H p (.dT []))
section
variable {X:Cx} {pos:Pos}
def pG:PE X (.Dict [] [] pos) KA:=λpins s U H Q I h=>
 wpAny_Dict_empty {.ref ↑s,_,I.laid (a:=↑s) (o:=.dK []) (t':=s.toks) (λ_ _ q=>yh _ q) (zh _) (HG s.heap I.big),rfl,h _ (I.aP.fresh (zh _))}
def GQ:PE X (.Dict [] [] pos) Kz:=λpins s U H Q I h=>
 wpAny_Dict_empty {.ref ↑s,_,I.laid (a:=↑s) (o:=.dT []) (t':=s.toks) (λ_ _ q=>yh _ q) (zh _) (HF s.heap I.big),rfl,h _ (I.aP.fresh (zh _))}
end
structure M2 (X:Cx) (o:Expr) (m:Str) (apos:Pos) (e f:Expr) (cpos:Pos):Prop where
 base:attributeBase o m X.env (eval o X.env)=eval o X.env
 Pw:((backTo cpos (starEach [e,f] X.env)).all (λx=>!x.1)&&(backToKw cpos (keywordEach [] X.env)).all (λx=>x.1.isSome)
  &&decide (⇑([e,f]:List Expr)+⇑([]:List Keyword)+(if([]:List Keyword).isEmpty then 0 else 1)<30))=true
 line:(apos.endLine == cpos.line)=true
 trees:backTo cpos (starEach [e,f] X.env)=[(false,eval e X.env),(false,eval f X.env)]
def Pd (H:Hp) (a:wJ):Prop:=(∃kvs,Rd H a (.dK kvs))\/∃kvs,Rd H a (.dT kvs)
def Lh (I:Inv X pins U H s) (d:Pd H a) :
  s.TypeIs (.ref a) "dict"/\(∀b,Value.ref a=.ref b->∃ob,s.heap.get? b=some ob/\ob.dict=none)/\(a == sysModules)=false:=by
 rcases d with⟨kvs,e⟩ | ⟨kvs,e⟩
 ·let⟨_,hd,vs,_,dd⟩:=nv I.aP e
  refine{dd.typeIs,λb q=>?_,hd};cases q;let⟨ob,_,_,h1,h2,_⟩:=dd;exact{(ob),h1,h2.2.1}
 ·let⟨_,hd,xs,_,dd⟩:=qi I.aP e
  refine{dd.typeIs,λb q=>?_,hd};cases q;let⟨ob,_,_,h1,h2,_⟩:=dd;exact{(ob),h1,h2.2.1}
section
variable {X:Cx} {pins:List (wJ×Obj)} {U:St} {H:Hp} {s:wD} {a:wJ} {y d:V} {u r:wC} {o:Option V} {A:wH} {E:wC->wD->Prop}
def LD (hu:A.units+1<cLine) (I:Inv X pins U H s) (g:wY H a y o) (ry:RelV y u) (rd:RelV d r) (h:∀w' s',Inv X pins U H s'->RelV (o.getD d) w'->Q w' s') :
  wpAny (model X.prog X.w) A (call (.builtin "dict.get") [.ref a,u,r]) Q E s:=by
 rcases g with⟨kvs,k,e,ey,l⟩ | ⟨kvs,k,b,e,ey,eb,l⟩
 ·subst ey
  let⟨z,hd,vs,rel,dd⟩:=nv I.aP e;refine call_meetsIn PySem.F.slot_dict_get dd.typeIs PySem.F.entry_dict_get (PySem.F.args_dict_get_3 _ _ _) (meets_dict_get_default (bI X.prog X.w) a (tw ry) hd r) {_,dd.mapOf,h _ _ (I.tok _) ?_};rw[l];exact(rel.val k).getD rd
 ·subst ey
  cases(show u=Value.ref b from ry);let⟨z,hd,xs,rel,dd⟩:=qi I.aP e;refine call_meetsIn PySem.F.slot_dict_get dd.typeIs PySem.F.entry_dict_get (PySem.F.args_dict_get_3 _ _ _) (meetsH_dict_get_default (tupleKind (bI X.prog X.w)) a b hd r) {xS hu,k,xs,mK I.aP eb,dd,h _ _ (I.tok _) ?_};rw[l];exact(rel.val k).getD rd
end
def KG (td ty tx:TE):TE:=λU H Q=>td U H λx H1=>∃a,x=.ref a/\Pd H1 a/\ty U H1 λy H2=>tx U H2 λz H3=>∃o,wY H3 a y o/\Q (o.getD z) H3
section
variable {X:Cx} {o e f:Expr} {apos cpos:Pos} {td ty tx:TE}
def AK (hu:X.A.units+1<cLine) (ho:PE X o td) (he:PE X e ty) (hf:PE X f tx) (m:M2 X o "get" apos e f cpos):PE X (.Call (.Attribute o "get" apos) [e,f] [] cpos) (KG td ty tx):=by
 intro pins s U H Q I h;refine wpAny_Call_method m.base m.Pw m.line PySem.F.plainAttrs_dict PySem.F.slot_dict_get PySem.F.type_dict_get (bR (ho pins s U H _ I h) λu s1 zz=>?_);let⟨x,H1,I1,rx,a,ex,d,q1⟩:=zz;subst ex;obtain rfl:u=Value.ref a:=rx;let⟨t1,t2,_⟩:=Lh I1 d;refine{t1,t2,?_};rw[m.trees];refine x8 rfl (Calls.evalArgs_plain (xU (bR (he pins s1 U H1 _ I1 q1) λiv s2 ⟨y,H2,I2,ry,q2⟩=>
  xU (bR (hf pins s2 U H2 _ I2 q2) λfv s3 ⟨z,H3,I3,rz,ov,g,q3⟩=>wA ?_))))
 exact LD hu I3 g ry rz λw' s4 I4 rw'=>{_,H3,I4,rw',q3}
end
section
variable {X:Cx} {pins:List (wJ×Obj)} {U:St} {H:Hp} {s:wD} {a:wJ} {kvs:List (Key×V)} {A:wH} {E:wC->wD->Prop}
end
section
variable {X:Cx} {pins:List (wJ×Obj)} {U:St} {H:Hp} {s:wD} {a:wJ} {y:V} {u:wC} {A:wH} {E:wC->wD->Prop}
end
end L2
namespace L2
open PySem PySem.Spec PyProof.Rows
section
variable {κ:Type} [DecidableEq κ]
end
end L2
namespace L2
open PySem PySem.Spec PyProof.Rows
def c8 (U₀:St) (g:TG) (tc:TT) (te:TE) (Q:VK) (J:It) (H1:Hp):Prop:=∃W:Nat->Nat->List V->St->Hp->Prop,(∃m,W 0 m [] U₀ H1)/\∀i m xs U' H',W i m xs U' H'->
 (J.stop i H'/\⇑xs<=sizeLine/\∀D,H' D=none->Q (.ref D) (upd H' D (.lst xs)))\/
 (J.go i H'/\⇑xs<sizeLine/\∀x H2,J.F6 i H' x H2->g x U' H2 λU3 H3=>tc U3 H3 λb H4=>if b=true then te U3 H4 λy H5=>∃m',m'<m/\W (i+1) m' (xs++[y]) U3 H5 else∃m',m'<m/\W (i+1) m' xs U3 H4)
def cG (X:Cx) (N:List Str) (scope:Scope) (cl:List (Str×wJ)) (C:wJ) (s₀:wD) (H₀:Hp) (ex:List wJ):Cx:=
 {X with N:=N,s₀:=s₀,H₀:=H₀,env:=compEnvC scope (cellsFrom (C+1) scope.names cl) C X.env,outer:=X.stack,stack:=X.stack,ex:=ex,fn:=λx=>((cellsFrom (C+1) scope.names []).lookup x).isSome,pn:=[],xe:=λ_ _=>False}
def uf (fr:List (Option Nat)) (wi:TI) (g:TG) (tc:TT) (te:TE):TE:=λU H Q=>wi U H λJ H1=>c8 (fr.map λo=>o.bind λj=>(U[j]?).join) g tc te Q J H1
def LY (X:Cx) (ifs:List Expr) (tc:TT):Prop:=∀(pins:List (wJ×Obj)) (s:wD) (U:St) (H:Hp) (Q:Bool->Hp->Prop),Inv X pins U H s->tc U H Q->
 wpAny (model X.prog X.w) X.A (forIn ifs true λc r=>if r=true then do let ok <-isTrue c X.env (eval c X.env);pure (ForInStep.yield ok) else pure (ForInStep.yield r)) (TP X pins U Q) X.xe s
def ue:TT:=λ_ H Q=>Q true H
def bw:LY X [] ue:=λ_ _ _ H _ I h=>wpAny_tests_nil {(H),I,h}
def D8 (h:PT X c tc):LY X [c] tc:=λpins s U H Q I q=>wpAny_tests_one (h pins s U H Q I q)
theorem bO:∀(names:List (Str×NameKind)) (n:Nat) (acc:List (Str×wJ)),cellsFrom n names acc=cellsFrom n names []++acc
 | [],_,_=>rfl
 | (x,k)::r,n,acc=>by
  unfold cellsFrom;split
  ·rw[bO r (n+1) ((x,n)::acc),bO r (n+1) [(x,n)],zA];rfl
  ·exact bO r n acc
def Jb {h:wK} {lo:Nat} {cs:List (Str×wJ)} (ok:CellsOk h lo cs) {x y:Str} {c:wJ} (e:cs.lookup x=some c) (e':cs.lookup y=some c):x=y:=by
 let key:∀(l:List (Str×wJ)),l.Pairwise (λx y=>x.2≠y.2)->(x,c)∈l->(y,c)∈l->x=y:=by
  intro l
  induction l with
  | nil=>intro _ h;cases h
  | cons p r ih=>
   intro hp h1 h2;rw[List.pairwise_cons] at hp;rcases zw.mp h1 with h1 | h1
   ·rcases zw.mp h2 with h2 | h2
    ·rw[<-h1] at h2;exact(Prod.mk.inj h2).1.symm
    ·exact absurd rfl (by have:=hp.1 _ h2;rw[<-h1] at this;exact this)
   ·rcases zw.mp h2 with h2 | h2
    ·exact absurd rfl (by have:=hp.1 _ h1;rw[<-h2] at this;exact this)
    ·exact ih hp.2 h1 h2
 exact key cs ok.apart (mem_of_lookup e) (mem_of_lookup e')
def vg
  (hQ:∀g1:wK,g1.Ns ↑s (λ_=>none)->(∀b o,s.heap.get? b=some o->g1.get? b=some o)->CellsOk g1 (↑s+1) (cellsFrom (↑s+1) scope.names [])->
   Q (newEnv scope ↑s globals (cellsFrom (↑s+1) scope.names cl) qual none .none (some outer) builtinsNs) {s with heap:=g1}) :
  wpAny M A (newFunctionEnv scope globals cl [] qual none .none (some outer)) Q E s:=by
 simp only[newFunctionEnv,Option.isSome_some,wo];refine yg (wpAny_alloc ?_);refine yg (wpAny_layCells _ (λname kind cells=>by cases hkc:kind == NameKind.cell <;> simp[hkc]) _ _ _ _ ?_);let ok:=cellsFrom_ok scope.names (s.heap.push {cls:=.type "dict",data:=.dict #[]}) (↑s+1) [] {λ_ _ hm=>(nomatch hm),List.Pairwise.nil} (by rw[yW];exact zh _);rw[yW] at ok;rw[show({s with heap:=s.heap.push {cls:=.type "dict",data:=.dict #[]}}:wD).heap.objs.size=↑s+1 from yW ..];exact yg (yi (yi (hQ _ ((Heap.Ns.new s.heap (.type "dict")).keeps (pushCells_keeps _ _)) (λb o e=>pushCells_keeps _ _ b o (yh _ e)) ok)))
def Dm (I:Nat->wD->Prop)
  (turn:∀n s,I n s->wpAny (model prog w) A (pyNext it) (λr s1=>match r with
   | none=>R (.ok .next) s1
   | some v=>wpAny (model prog w) A (letOwnedTupleGo target it v) (λ_ s2=>wpAny (model prog w) A (assign target env v) (λ_ s3=>
     wpAny (model prog w) A (forIn ifs true λc r=>if r=true then do let ok <-isTrue c env (eval c env);pure (ForInStep.yield ok) else pure (ForInStep.yield r)) (λok s3'=>if ok=true then wpAny (model prog w) A (eval elt env) (λx s4=>
     wpAny (model prog w) A (call (.builtin "list.append") [acc,x]) (λ_ s5=>∃m,m<n/\I m s5) (λ_ _=>False) s4) (λ_ _=>False) s3' else∃m,m<n/\I m s3') (λ_ _=>False) s3) (λ_ _=>False) s2) (λ_ _=>False) s1) (λ_ _=>False) s)
  (n:Nat) (h:I n s):codeAny (model prog w) A (.compLoop (.ListComp elt [{target,iter,ifs,0}] scope pos) 0 it acc env) R s:=by
 refine codeAny_loop rfl I (λn s hI=>?_) n h;show wpAny _ _ ((compTurn (.ListComp elt [{target,iter,ifs,0}] scope pos) 0 it acc env).onRaise (λx=>do noteFrame x env;theTreesLotGoes x)) _ _ s;refine wpAny_noted ?_;rw[compTurn_list];let no:∀(E:wC->wD->Prop) (x:wC) (s':wD),False->E x s':=λ_ _ _ f=>f.elim;refine yg (wpAny_standAt (yg (yS (turn n s hI) (λr s1 h1=>?_) (no _))));cases r with
 | none=>exact yi h1
 | some v=>
  refine yg (yS h1 (λ_ s2 h2=>yg (yS h2 (λ_ s3 h3=>yg (yS h3 (λok s3' h3'=>?_) (no _))) (no _))) (no _));cases ok with
  | false=>
   rw[yB ∅] at h3';exact yi {(rfl),h3'}
  | true=>
   rw[yC rfl] at h3';exact yg (yg (yS h3' (λx s4 h4=>yg (yS h4 (λ_ s5 h5=>yi (yi {(rfl),h5})) (no _))) (no _)))
section
variable {X:Cx} {pos:Pos}
def Dp {elt target iter:Expr} {scope:Scope} {N:List Str} {fr:List (Option Nat)} {cl:List (Str×wJ)} {g:TG} {tc:TT} {te:TE} {ifs:List Expr} (hc:X.calm=true) (hsub:∀x c,cl.lookup x=some c->X.env.cells.lookup x=some c) (hhas:∀C x,((compEnvC scope cl C X.env).kindOf x=some .cell\/(compEnvC scope cl C X.env).kindOf x=some .free)->(∃c,cl.lookup x=some c)\/∃c,(cellsFrom (C+1) scope.names []).lookup x=some c)
  (hlen:⇑fr=N.length) (hfr:∀(i:Nat) x j,N[i]?=some x->fr[i]?=some (some j)->X.N[j]?=some x/\LK X.env.scope x/\X.env.kindOf x≠some .local/\(∀C,(compEnvC scope cl C X.env).kindOf x=some .cell\/(compEnvC scope cl C X.env).kindOf x=some .free)/\(∀c,X.env.cells.lookup x=some c->cl.lookup x=some c)/\∀C,(cellsFrom (C+1) scope.names []).lookup x=none) (hkind:scope.kind=.function)
  (hg:∀C s₀ H₀ ex,PG (cG X N scope cl C s₀ H₀ ex) target g) (hif:∀C s₀ H₀ ex,LY (cG X N scope cl C s₀ H₀ ex) ifs tc) (he:∀C s₀ H₀ ex,PE (cG X N scope cl C s₀ H₀ ex) elt te)
  {pins:List (wJ×Obj)} {U:St} {s2:wD} {it:wJ} {fp:List wJ} {tn:Nat->wK->Prop} {J:It} {H2:Hp} {Q:VK} {RR:wC->wJ->Result->wD->Prop} (I2:Inv X pins U H2 s2) (T:Turn X.prog X.w X.K target J fp it tn) (st2:tn 0 s2.heap) (f2:∀b∈fp,sJ X pins H2 b)
  (ok:c8 (fr.map λo=>o.bind λj=>(U[j]?).join) g tc te Q J H2)
  (fin:∀D C s4 H' xs,↑s2<=D->↑s2<=C->C≠D->Inv X pins U (upd H' D (.lst xs)) s4->H' D=none->H' C=none->(∃m,s4.heap.Ns C m)->(∀D,H' D=none->Q (.ref D) (upd H' D (.lst xs)))->RR (.ref D) C (.ok .next) s4) :
  wpAny (model X.prog X.w) X.A (newList []) (λacc s3=>wpAny (model X.prog X.w) X.A (newFunctionEnv scope X.env.globals cl [] X.env.qual none .none (some X.env)) (λcenv s4=>
   codeAny (model X.prog X.w) X.A (.compStart (.ListComp elt [{target,iter,ifs,0}] scope pos) 0 (.ref it) acc {cenv with scope:=relabel scope X.env}) (RR acc cenv.locals) s4) X.xe s3) X.xe s2:=by
 let⟨W,⟨m0,w0⟩,turn⟩:=ok;refine yR (vg λg1 hns hold hown=>?_);dsimp only at hns hold hown ⊢;generalize hG:s2.heap.push {cls:=.type "list",dict:=none,data:=.seq ([]:List wC).toArray}=G2 at hns hold hown ⊢;let hC:G2.objs.size=↑s2+1:=by rw[<-hG,yW]
 let below:∀b,b<↑s2->b≠G2.objs.size/\b≠↑s2:=λb hb=>{by rw[hC];exact zZ (x6 hb),zZ hb}
 let hDC:↑s2≠G2.objs.size:=by rw[hC];exact zZ (xp _)
 let old:∀b o,s2.heap.get? b=some o->g1.get? b=some o:=λb o e=>hold b o (hG▸yh _ e);let hacc:g1.get? ↑s2=some {cls:=.type "list",data:=.seq ([]:List wC).toArray 0}:=hold _ _ (hG▸yj _ rfl);let hsC:↑s2<G2.objs.size:=by rw[hC];exact xp _
 let csl:∀x c,(cellsFrom (G2.objs.size+1) scope.names cl).lookup x=some c->((cellsFrom (G2.objs.size+1) scope.names []).lookup x=some c/\G2.objs.size<c/\g1.IsCell c none)\/((cellsFrom (G2.objs.size+1) scope.names []).lookup x=none/\cl.lookup x=some c/\X.env.cells.lookup x=some c/\c<↑s2):=λx c e=>by
  rw[bO,xT] at e;cases q:(cellsFrom (G2.objs.size+1) scope.names []).lookup x with
  | some d=>
   rw[q] at e;cases e;let⟨z1,z2⟩:=hown.empty x _ (mem_of_lookup q);exact .inl {(rfl),z2,z1}
  | none=>
   rw[q] at e;let⟨v,z⟩:=I2.cell x c (hsub x c e);exact .inr {rfl,e,hsub x c e,z.lt}
 let fplt:∀b∈fp,b<↑s2:=λb hb=>let ⟨o,e,_⟩:=T.obj _ _ st2 b hb;yk e;let Eo:∀b∈fp,∀x c,(cellsFrom (G2.objs.size+1) scope.names cl).lookup x=some c->c≠b:=λb hb x c e=>by
  rcases csl x c e with⟨_,l,_⟩ | ⟨_,_,z,_⟩
  ·exact zY (xg (fplt b hb) (xg hsC l))
  ·exact(f2 b hb).2.2.2.2.1 x c z
 letI Y:Cx:=cG X N scope cl G2.objs.size s2 H2 fp
 let okY:Y.Ok:=by
  refine{I2.ok.mod,hkind,I2.ok.glob,I2.ok.blt,?_,λx y c e e'=>?_,λx hx=>?_,λx c hf e=>?_,I2.ok.hd,I2.ok.frames,.inl rfl,λb hb=>{(below b (fplt b hb)).1,λx c e=>Eo b hb x c e},I2.bs,zH I2.ok.FU I2.sz,λb o e hb=>?_,λb hb hf=>?_,I2.stack,I2.gZ}
  ·show ↑s2<=G2.objs.size
   rw[hC];exact xD _
  ·rcases csl x c e with⟨q,l,_⟩ | ⟨_,q,z,l⟩
   ·rcases csl y c e' with⟨q',l',_⟩ | ⟨_,q',z',l'⟩
    ·exact Jb hown q q'
    ·exact absurd (xg (xg hsC l) l') (zV _)
   ·rcases csl y c e' with⟨q',l',_⟩ | ⟨_,q',z',l'⟩
    ·exact absurd (xg (xg hsC l') l) (zV _)
    ·exact I2.ok.inj x y c z z'
  ·show∃c,(cellsFrom (G2.objs.size+1) scope.names cl).lookup x=some c
   rw[bO,xT];rcases hhas G2.objs.size x hx with⟨c,e⟩ | ⟨c,e⟩
   ·rw[e];cases(cellsFrom (G2.objs.size+1) scope.names []).lookup x with
    | none=>exact{(c),rfl}
    | some d=>exact{(d),rfl}
   ·rw[e];exact{(c),rfl}
  ·let hf':((cellsFrom (G2.objs.size+1) scope.names []).lookup x).isSome=true:=hf
   rcases csl x c e with⟨q,l,_⟩ | ⟨q,_⟩
   ·exact zX (xg hsC l)
   ·rw[q] at hf';cases hf'
  ·rcases(f2 b hb).2.2.2.1 with z | z
   ·exact I2.ok.i6 b o e z
   ·exact absurd (zS (yk e) (zH I2.ok.FU z)) (zV _)
  ·rcases zw.mp (I2.uh b hf) with z | z
   ·exact(f2 b hb).2.1 z
   ·exact(f2 b hb).2.2.1 z
 let cl2:∀x c,(cellsFrom (G2.objs.size+1) scope.names cl).lookup x=some c->(∃v,g1.IsCell c v)/\H2 c=none/\c≠↑s2:=λx c e=>by
  rcases csl x c e with⟨_,l,z⟩ | ⟨_,_,z,l⟩
  ·exact{{_,z},I2.aP.fresh (zX (xg hsC l)),zY (xg hsC l)}
  ·let⟨v,oc,hoc,hd⟩:=I2.cell x c z
   exact{{v,oc,old _ _ hoc,hd},I2.fR x c z,zZ l}
 let Dfs:↑s2∉Y.fs:=λhb=>by
  rcases zw.mp (I2.uh _ hb) with z | z
  ·exact absurd (z▸I2.lt) (zV _)
  ·exact I2.MY (zh _) z
 let hCf:H2 G2.objs.size=none:=I2.aP.fresh (by rw[hC];exact xD _);let start:∀tk,Inv Y [(↑s2,{cls:=.type "list",data:=.seq ([]:List wC).toArray 0})] (fr.map λo=>o.bind λj=>(U[j]?).join) H2 {s2 with heap:=g1,toks:=tk}:=λtk=>
  {okY,rfl,I2.bare,Un.kept old,{_,hns,λi x v e1 e2 _=>by
    rw[zF] at e2;cases ef:fr[i]? with
    | none=>rw[ef] at e2;cases e2
    | some o=>
     cases o with
     | none=>rw[ef] at e2;cases e2
     | some j=>
      rw[ef] at e2;let e2':(U[j]?).join=some v:=by simpa using e2
      let ej:U[j]?=some (some v):=by
       cases q:U[j]? with
       | none=>rw[q] at e2';cases e2'
       | some w=>rw[q] at e2';cases w with
        | none=>cases e2'
        | some w=>cases e2';rfl
      let⟨k1,k2,k3,k4,k5,k6⟩:=hfr i x j e1 ef;let⟨m,_,hl⟩:=I2.loc;let⟨u,r,l⟩:=hl j x v k1 ej k2;refine{u,r,?_};rcases l with l | ⟨_,c,ec,z⟩
      ·exact absurd l.1 k3
      ·let⟨oc,hoc,hd⟩:=z
       exact .inr {k4 G2.objs.size,c,by show(cellsFrom (G2.objs.size+1) scope.names cl).lookup x=some c;rw[bO,xT,k6];exact k5 c ec,oc,old _ _ hoc,hd}},
   λx c e=>(cl2 x c e).1,hCf,λx c e=>(cl2 x c e).2.1,
   λp hp=>by
    let e:p=(↑s2,{cls:=.type "list",data:=.seq ([]:List wC).toArray 0}):=by simpa using (show p∈[]++[_] from hp)
    subst e;exact{hacc,I2.aP.fresh (zh _),hDC,Dfs,λv z=>by cases z},I2.aP.kept old,by rw[za,hlen];rfl}
 let stat:∀{H':Hp} {ob:Obj},(∀b∈fp,H' b=none)->∀b∈fp,sJ Y [(↑s2,ob)] H' b:=λ{H' ob} hn b hb=>by
  refine{hn b hb,(below b (fplt b hb)).1,λz=>okY.C4 b hb z,.inl hb,Eo b hb,λp hp=>?_};let e:p=(↑s2,ob):=by simpa using (show p∈[]++[_] from hp)
  subst e;exact(below b (fplt b hb)).2.symm
 let loop:∀tk,codeAny (model X.prog X.w) X.A (.compLoop (.ListComp elt [{target,iter,ifs,0}] scope pos) 0 (.ref it) (.ref ↑s2) (compEnvC scope (cellsFrom (G2.objs.size+1) scope.names cl) G2.objs.size X.env))
   (RR (.ref ↑s2) G2.objs.size) {s2 with heap:=g1,toks:=tk}:=by
  intro tk;refine Dm (λn s'=>∃i U' H' xs its k,Inv Y [(↑s2,{cls:=.type "list",data:=.seq its.toArray k})] U' H' s'/\tn i s'.heap/\(∀b∈fp,H' b=none)/\Vals xs its/\W i n xs U' H') ?_ m0
   {0,_,H2,[],[],0,start tk,T.keep _ _ _ st2 λb _ o e=>old b o e,λb hb=>(f2 b hb).1,.nil,w0}
  rintro n s3 ⟨i,U3,H3,xs,its,k,I3,st3,fr3,rv3,w3⟩;rcases turn i n xs U3 H3 w3 with⟨stop,hz,qn⟩ | ⟨go,hz,step⟩
  ·refine bR (T.done Y rfl rfl rfl hc i _ s3 U3 H3 _ I3 (stat fr3) st3 stop) λr s4 ⟨hr,I4⟩=>?_
   subst hr;let⟨m,hm,_⟩:=id I4.loc;let⟨pD,nD,neD,fD,_⟩:=I4.pin (↑s2,{cls:=.type "list",data:=.seq its.toArray k}) (by show _∈[]++[_];simp);refine fin ↑s2 G2.objs.size s4 H3 xs (zh _) (by rw[hC];exact xD _) hDC.symm (I2.Er (s':=s4) (ch:=fp) I4.os ?_ ?_ I4.bare (λb hb=>{(f2 b hb).2.2.2.1,(f2 b hb).2.1,(f2 b hb).2.2.2.2.1,(f2 b hb).2.2.2.2.2})) nD I4.free {(m),hm} qn
   ·let ub:Un Y.fs Y.ex H2 H3 s2.heap s4.heap:=I4.base
    let lt:∀b o,s2.heap.get? b=some o->b≠G2.objs.size/\b≠↑s2:=λb o e=>below b (yk e);refine{λb o e n hb hx=>ub.keep b o e n hb hx,λb o e n hb hx=>ub.slot b o e n hb hx,λb o e n hx=>?_,λb o e hx=>ub.there b o e hx,λb ys e=>?_,λb o u e=>?_,λb ps e=>?_}
    ·rw[aq (lt b o e).2];exact ub.free b o e n hx
    ·let q:=ub.i4 b ys e
     rw[aq (aJ q nD)];exact q
    ·let q:=ub.gS b o u e
     rw[aq (aJ q nD)];exact q
    ·let⟨more,q⟩:=ub.i5 b ps e
     exact{more,by rw[aq (aJ q nD)];exact q}
   ·intro b u e
    by_cases hb:b=↑s2
    ·subst hb;rw[az] at e;cases e
     exact{(hz),its,k,rv3,pD}
    ·rw[aq hb] at e
     exact(I4.aP b u e).fY (λc v hc' q=>q) (λc q=>by rw[aq (aJ q nD)];exact q) λc ys q=>by rw[aq (aJ q nD)];exact q
  ·refine bR (T.item Y rfl rfl rfl hc i _ s3 U3 H3 _ I3 (stat fr3) st3 go) λr s4 ⟨u,hr,h4⟩=>?_
   subst hr;refine bR h4 λ_ s5 zz=>?_;let⟨x,H5,I5,r5,y5,st5,fr5⟩:=zz;let I5':=I5.pinned (stat fr5) (T.obj _ _ st5);refine bR (hg G2.objs.size s2 H2 fp _ s5 U3 H5 x u _ I5' r5 (step x H5 y5)) λ_ s6 ⟨U6,H6,I6,q6⟩=>?_;refine bR (hif G2.objs.size s2 H2 fp _ s6 U6 H6 _ I6 q6) λb s6' ⟨H6',I6',q6'⟩=>?_;cases b with
   | false=>
    rw[yB ∅] at q6' ⊢;let⟨m',hm,w7⟩:=q6';let inD:(↑s2,({cls:=.type "list",data:=.seq its.toArray k}:Obj))∈Y.pn++([(↑s2,({cls:=.type "list",data:=.seq its.toArray k}:Obj))]++mz fp s5.heap):=by show _∈[]++_;simp
    let⟨pD,nD,neD,fD,dD⟩:=I6'.pin _ inD;let I7':Inv Y [] U6 H6' s6':=I6'.jP λp hp=>nomatch hp;refine{m',hm,i+1,U6,H6',xs,its,k,I7'.jP λp hp=>?_,T.keep _ _ _ st5 (λb hb o e=>(I6'.pin (b,o) (zD _ (zD _ (dQ hb e)))).1),λb hb=>?_,rv3,w7}
    ·let e:p=(↑s2,{cls:=.type "list",data:=.seq its.toArray k}):=by simpa using hp
     subst e;exact{(pD),nD,neD,fD,dD}
    ·let⟨o,e,d⟩:=T.obj _ _ st5 b hb
     exact(I6'.pin (b,o) (zD _ (zD _ (dQ hb e)))).2.1
   | true=>
   rw[yC rfl] at q6' ⊢;refine bR (he G2.objs.size s2 H2 fp _ s6' U6 H6' _ I6' q6') λv s7 zz=>?_;let⟨y,H7,I7,r7,m',hm,w7⟩:=zz;let inD:(↑s2,({cls:=.type "list",data:=.seq its.toArray k}:Obj))∈Y.pn++([(↑s2,({cls:=.type "list",data:=.seq its.toArray k}:Obj))]++mz fp s5.heap):=by show _∈[]++_;simp
   let⟨pD,nD,neD,fD,dD⟩:=I7.pin _ inD;let hlen:=⇑rv3;refine wpAny_list_append_plain (items:=its.toArray) (hsz:=by rw[zR];ext) {(k),pD} λg8 pl8 sb8=>?_;let⟨k8,e8⟩:=pl8;let I7':Inv Y [] U6 H7 s7:=I7.jP λp hp=>nomatch hp;let I8:Inv Y [] U6 H7 {s7 with heap:=g8}:=I7'.turned (t':=s7.toks) (λb o hb e=>sb8.extBut b o hb e) nD neD (.inr (zh _)) (λx c e=>(cl2 x c e).2.2) (λp hp=>(nomatch (show p∈([]:List (wJ×Obj)) from hp)));let e8':g8.get? ↑s2=some {cls:=.type "list",data:=.seq (its++[v]).toArray k8}:=by rw[e8];simp
   let fpD:∀b∈fp,∀o,s5.heap.get? b=some o->g8.get? b=some o:=λb hb o e=>sb8.extBut b o (below b (fplt b hb)).2 (I7.pin (b,o) (zD _ (zD _ (dQ hb e)))).1;refine{m',hm,i+1,U6,H7,xs++[y],its++[v],k8,I8.jP λp hp=>?_,T.keep _ _ _ st5 fpD,λb hb=>?_,rv3.append (.cons r7 .nil),w7}
   ·let e:p=(↑s2,{cls:=.type "list",data:=.seq (its++[v]).toArray k8}):=by simpa using hp
    subst e;exact{e8',nD,neD,fD,λv z=>by cases z}
   ·let⟨o,e,d⟩:=T.obj _ _ st5 b hb
    exact(I7.pin (b,o) (zD _ (zD _ (dQ hb e)))).2.1
 exact codeAny_compStart_list (loop _) (T.self _ _ _ _ _ (T.keep _ _ _ st2 λb _ o e=>old b o e) (loop _))
def E5 {elt target iter:Expr} {scope:Scope} {N:List Str} {fr:List (Option Nat)} {cl:List (Str×wJ)} {wi:TI} {g:TG} {tc:TT} {te:TE} {ifs:List Expr} (hc:X.calm=true) (hclos:closureFor scope X.env=pure cl) (hsub:∀x c,cl.lookup x=some c->X.env.cells.lookup x=some c) (hhas:∀C x,((compEnvC scope cl C X.env).kindOf x=some .cell\/(compEnvC scope cl C X.env).kindOf x=some .free)->(∃c,cl.lookup x=some c)\/∃c,(cellsFrom (C+1) scope.names []).lookup x=some c)
  (hlen:⇑fr=N.length) (hfr:∀(i:Nat) x j,N[i]?=some x->fr[i]?=some (some j)->X.N[j]?=some x/\LK X.env.scope x/\X.env.kindOf x≠some .local/\(∀C,(compEnvC scope cl C X.env).kindOf x=some .cell\/(compEnvC scope cl C X.env).kindOf x=some .free)/\(∀c,X.env.cells.lookup x=some c->cl.lookup x=some c)/\∀C,(cellsFrom (C+1) scope.names []).lookup x=none) (hkind:scope.kind=.function)
  (hnames:∀y∈scope.names,y.2=.local->scope.names.lookup y.1=some .local) (hi:PI X target iter wi)
  (hg:∀C s₀ H₀ ex,PG (cG X N scope cl C s₀ H₀ ex) target g) (hif:∀C s₀ H₀ ex,LY (cG X N scope cl C s₀ H₀ ex) ifs tc) (he:∀C s₀ H₀ ex,PE (cG X N scope cl C s₀ H₀ ex) elt te) (hs:(∀x,foldedSetIterable iter X.env x=pure x)<|>qd_) :
  PE X (.ListComp elt [{target,iter,ifs,0}] scope pos) (uf fr wi g tc te):=by
 intro pins s U H Q I h;rw[eval_ListComp];refine wpAny_comprehension_free (use:=none) (cl:=cl) rfl hs hclos hkind hnames (bR (hi pins s U H _ I h) λxv s1 h1=>bR h1 λitv s2 h2=>?_);let⟨it,fp,tn,J,H2,e,I2,T,st2,f2,ok⟩:=h2;subst e;refine Dp (RR:=λacc C=>compPost (model X.prog X.w) X.A X.xe none (EP X pins U Q) acc C) hc hsub hhas hlen hfr hkind hg hif he I2 T st2 f2 ok ?_;intro D C s4 H' xs hD hC hne I4 nD nC ⟨m,hm⟩ qn;refine{m,hm,λg5 hs5=>{.ref D,upd H' D (.lst xs),I2.OH hC I4 (by rw[aq hne];exact nC) hs5,rfl,qn D nD}}
end
def DJ (cells:List (Str×wJ)):List (Str×wJ)->Prop
 | []=>True
 | p::r=>cells.lookup p.1=some p.2/\DJ cells r
theorem DJ.sub:∀{cl:List (Str×wJ)},DJ cells cl->∀x c,cl.lookup x=some c->cells.lookup x=some c
 | [],_,x,c,e=>by cases e
 | (y,d)::r,h,x,c,e=>by
  rw[yd] at e;split at e
  ·rename_i q
   cases e;rw[eq_of_beq q];exact h.1
  ·exact DJ.sub h.2 x c e
def Ib (X:Cx) (scope:Scope) (cl:List (Str×wJ)):List Str->List Nat->Prop
 | [],[]=>True
 | y::ys,j::js=>(X.N[j]?=some y/\(X.env.kindOf y=some .cell\/X.env.kindOf y=some .free)/\((relabel scope X.env).names.lookup y=some .cell\/(relabel scope X.env).names.lookup y=some .free)/\∃c,X.env.cells.lookup y=some c/\cl.lookup y=some c)/\Ib X scope cl ys js
 | _,_=>False
theorem Ib.len:∀{ys:List Str} {js:List Nat},Ib X scope cl ys js->⇑js=⇑ys
 | [],[],_=>rfl
 | _::_,_::_,h=>by rw[zo,zo,Ib.len h.2]
 | [],_::_,h=>h.elim
 | _::_,[],h=>h.elim
theorem Ib.get:∀{ys:List Str} {js:List Nat} {i:Nat} {y:Str} {j:Nat},Ib X scope cl ys js->ys[i]?=some y->js[i]?=some j->
  X.N[j]?=some y/\(X.env.kindOf y=some .cell\/X.env.kindOf y=some .free)/\((relabel scope X.env).names.lookup y=some .cell\/(relabel scope X.env).names.lookup y=some .free)/\∃c,X.env.cells.lookup y=some c/\cl.lookup y=some c
 | [],_,_,_,_,_,e,_=>by simp at e
 | _::_,[],_,_,_,h,_,_=>h.elim
 | y::ys,j::js,0,_,_,h,e,e'=>by simp at e e';subst e e';exact h.1
 | y::ys,j::js,i+1,_,_,h,e,e'=>Ib.get (i:=i) h.2 (by simpa using e) (by simpa using e')
theorem Dr:∀{names:List (Str×NameKind)} {n:Nat} {x:Str} {c:wJ},(cellsFrom n names []).lookup x=some c->(x,NameKind.cell)∈names
 | [],_,_,_,e=>by cases e
 | (y,k)::r,n,x,c,e=>by
  unfold cellsFrom at e;split at e
  ·rename_i hk
   rw[bO,xT] at e;cases q:(cellsFrom (n+1) r []).lookup x with
   | some d=>exact zj _ (Dr q)
   | none=>
    rw[q] at e;let e':([(y,n)]:List (Str×wJ)).lookup x=some c:=e;rw[yd] at e';split at e'
    ·rename_i z
     rw[eq_of_beq z,eq_of_beq hk];exact zk
    ·cases e'
  ·exact zj _ (Dr e)
theorem Ds:∀{names:List (Str×NameKind)} {n:Nat} {x:Str},(x,NameKind.cell)∈names->∃c,(cellsFrom n names []).lookup x=some c
 | [],_,_,h=>by cases h
 | (y,k)::r,n,x,h=>by
  unfold cellsFrom;split
  ·rw[bO,xT]
   cases q:(cellsFrom (n+1) r []).lookup x with
   | some d=>exact{(d),rfl}
   | none=>
    rcases zw.mp h with h | h
    ·let⟨e1,_⟩:=Prod.mk.inj h
     exact{n,by show([(y,n)]:List (Str×wJ)).lookup x=some n;rw[e1,yd,xI]}
    ·let⟨c,e⟩:=Ds (n:=n+1) h
     rw[q] at e;cases e
  ·rename_i hk
   rcases zw.mp h with h | h
   ·cases h;exact absurd rfl hk
   ·exact Ds h
theorem ng:∀{L:List (Str×NameKind)} {x:Str} {k:NameKind},L.lookup x=some k->(x,k)∈L
 | [],_,_,h=>by cases h
 | (y,j)::r,x,k,h=>by
  rw[yd] at h;split at h
  ·rename_i q;cases h;rw[eq_of_beq q];exact zk
  ·exact zj _ (ng h)
section
variable {X:Cx} {pos:Pos} {elt target iter:Expr} {ifs:List Expr} {scope:Scope} {ts ys:List Str} {js:List Nat} {cl:List (Str×wJ)} {wi:TI} {g:TG} {tc:TT} {te:TE}
def Fy (hcl:DJ X.env.cells cl) (hLo:((relabel scope X.env).names.all λp=>(p.2 != .cell&&p.2 != .free)||ys.contains p.1||scope.names.contains (p.1,.cell))=true) (hno:∀p∈scope.names,p.2=.cell->p.1∉ys) (hfr:Ib X scope cl ys js) :
  (∀(C:wJ) x,((compEnvC scope cl C X.env).kindOf x=some .cell\/(compEnvC scope cl C X.env).kindOf x=some .free)->(∃c,cl.lookup x=some c)\/∃c,(cellsFrom (C+1) scope.names []).lookup x=some c)/\
  ⇑(ts.map (λ_=>(none:Option Nat))++js.map some)=⇑(ts++ys)/\
  (∀(i:Nat) x j,(ts++ys)[i]?=some x->(ts.map (λ_=>(none:Option Nat))++js.map some)[i]?=some (some j)->X.N[j]?=some x/\LK X.env.scope x/\X.env.kindOf x≠some .local/\(∀C,(compEnvC scope cl C X.env).kindOf x=some .cell\/(compEnvC scope cl C X.env).kindOf x=some .free)/\(∀c,X.env.cells.lookup x=some c->cl.lookup x=some c)/\∀C,(cellsFrom (C+1) scope.names []).lookup x=none):=by
 refine{λC x hx=>?_,by simp[Ib.len hfr],λi x j h1 h2=>?_}
 ·let key:∀k,(relabel scope X.env).names.lookup x=some k->(k=.cell\/k=.free)->(∃c,cl.lookup x=some c)\/∃c,(cellsFrom (C+1) scope.names []).lookup x=some c:=λk hk hk'=>by
   have:=(yc.mp hLo) _ (ng hk);rw[Bool.or_eq_true,Bool.or_eq_true] at this;rcases this with(z | z) | z
   ·rcases hk' with rfl | rfl <;> simp at z
   ·let hm:x∈ys:=List.contains_iff_mem.mp z
    let⟨n,hn⟩:=List.getElem?_of_mem hm;let hl:n<⇑js:=by rw[hfr.len];exact(zr.mp hn).1
    let⟨_,_,_,c,_,e⟩:=hfr.get hn (zb hl);exact .inl {(c),e}
   ·exact .inr (Ds (List.contains_iff_mem.mp z))
  rcases hx with hx | hx
  ·exact key _ hx (.inl rfl)
  ·exact key _ hx (.inr rfl)
 ·let hi:⇑ts<=i:=by
   rcases xh i ⇑ts with h | h
   ·rw[xK (by simpa using h),zF] at h2
    cases q:ts[i]? with
    | none=>rw[q] at h2;cases h2
    | some z=>rw[q] at h2;cases h2
   ·exact h
  rw[zP hi] at h1;rw[zP (by simpa using hi),za,zF] at h2;let h2':js[i-⇑ts]?=some j:=by
   cases q:js[i-⇑ts]? with
   | none=>rw[q] at h2;cases h2
   | some z=>rw[q] at h2;cases h2;rfl
  let⟨k1,k2,k3,c,k4,k5⟩:=hfr.get h1 h2';refine{k1,.inr k2,λz=>?_,λC=>k3,λd hd=>?_,λC=>?_}
  ·rcases k2 with k2 | k2 <;> (rw[z] at k2;cases k2)
  ·rw[k4] at hd;cases hd;exact k5
  ·cases q:(cellsFrom (C+1) scope.names []).lookup x with
   | none=>rfl
   | some d=>exact absurd (zv h1) (hno _ (Dr q) rfl)
def GR (hc:X.calm=true) (hclos:closureFor scope X.env=pure cl) (hcl:DJ X.env.cells cl) (hLo:((relabel scope X.env).names.all λp=>(p.2 != .cell&&p.2 != .free)||ys.contains p.1||scope.names.contains (p.1,.cell))=true) (hno:∀p∈scope.names,p.2=.cell->p.1∉ys) (hfr:Ib X scope cl ys js) (hkind:scope.kind=.function)
  (hnames:∀y∈scope.names,y.2=.local->scope.names.lookup y.1=some .local) (hi:PI X target iter wi)
  (hg:∀C s₀ H₀ ex,PG (cG X (ts++ys) scope cl C s₀ H₀ ex) target g) (hif:∀C s₀ H₀ ex,LY (cG X (ts++ys) scope cl C s₀ H₀ ex) ifs tc) (he:∀C s₀ H₀ ex,PE (cG X (ts++ys) scope cl C s₀ H₀ ex) elt te) (hs:(∀x,foldedSetIterable iter X.env x=pure x)<|>qd_) :
  PE X (.ListComp elt [{target,iter,ifs,0}] scope pos) (uf (ts.map (λ_=>none)++js.map some) wi g tc te):=by
 let⟨a,b,c⟩:=Fy (ts:=ts) hcl hLo hno hfr;exact E5 hc hclos hcl.sub a b c hkind hnames hi hg hif he hs
end
def FP (n:Nat) (f:Nat->List V) (Pv:Nat->St->Hp->Prop) (i m:Nat) (xs:List V) (U:St) (H:Hp):Prop:=m=n-i/\i<=n/\xs=f i/\Pv i U H
def FP.push (hi:i<n) (e:f (i+1)=f i++[y]) (p:Pv (i+1) U H):∃m',m'<n-i/\FP n f Pv (i+1) m' (f i++[y]) U H:={n-(i+1),(),rfl,hi,e.symm,p}
def FP.skip (hi:i<n) (e:f (i+1)=f i) (p:Pv (i+1) U H):∃m',m'<n-i/\FP n f Pv (i+1) m' (f i) U H:={n-(i+1),(),rfl,hi,e.symm,p}
def lZ (n:Nat) (f:Nat->List V) (Pv:Nat->St->Hp->Prop) (hz:∀i,i<=n->⇑(f i)<=i) (hn:n<=sizeLine) (f0:f 0=[]) (h0:Pv 0 U₀ H1)
  (go:∀i U H,i<n->Pv i U H->J.go i H) (stop:∀U H,Pv n U H->J.stop n H)
  (turn:∀i x U H H2,i<n->Pv i U H->J.F6 i H x H2->g x U H2 λU3 H3=>tc U3 H3 λb H4=>if b=true then te U3 H4 λy H5=>∃m',m'<n-i/\FP n f Pv (i+1) m' (f i++[y]) U3 H5 else∃m',m'<n-i/\FP n f Pv (i+1) m' (f i) U3 H4)
  (fin:∀U H,Pv n U H->∀D,H D=none->Q (.ref D) (upd H D (.lst (f n)))):c8 U₀ g tc te Q J H1:=by
 refine{FP n f Pv,{n,by simp,zW _,f0.symm,h0},?_};rintro i m xs U H ⟨rfl,hi,rfl,p⟩;have:=hz i hi;rcases xh i n with hlt | hge
 ·exact .inr {go i U H hlt p,(),λx H2 y=>turn i x U H H2 hlt p y}
 ·let e:i=n:=()
  subst e;exact .inl {stop U H p,(),fin U H p}
section
variable {X:Cx}
def uR (bs:List Bool):((List.range ⇑bs).any λi=>(bs[i]?).getD false)=bs.any id:=by
 rw[xm,yb,yb];constructor
 ·rintro⟨i,hi,e⟩
  let hi':=yF.mp hi;rw[zb hi'] at e;exact{_,z9 hi',e}
 ·rintro⟨b,hb,e⟩
  let⟨i,hi,e'⟩:=List.mem_iff_getElem.mp hb;exact{i,yF.mpr hi,by rw[zb hi,e'];exact e}
def gU (hc:X.calm=true):b9 X (.builtin "any") (λxs H Q=>∃(a:wJ) (bs:List Bool),xs=[.ref a]/\aE X.K H a (bs.map V.bl)/\Q (.bl (bs.any id)) H):=by
 intro pins s U H xs us Q I r h;let⟨a,bs,e,hq,q⟩:=h;subst e;cases r with
 | cons r rr=>
  cases rr;cases r;let⟨its,rv,p,hz⟩:=I.list hq;let hlt:a<↑s:=by let⟨o,n,e,_⟩:=p;exact yk e
  let hlen:⇑bs=⇑its:=by have:=⇑rv;rw[za] at this;exact this
  refine call_any_walk (xZ p.isList ?_);refine{↑s,[↑s,a],[↑s],its.toArray.size,_,_,λi=>(bs[i]?).getD false,rfl,Walks.list (A:=X.A.in1) (I.ok.hd hc) _ a (zZ hlt) its.toArray,
   {{_,yj _ rfl,rfl,rfl},p.isList.push _},λi v s' Q' E' hP hQ=>?_,λh' tk hk=>?_}
  ·let hP':its[i]?=some v:=by simpa using hP
   let hi:i<⇑bs:=by rw[hlen];exact(zr.mp hP').1
   let hm:(bs.map V.bl)[i]?=some (.bl bs[i]):=by rw[zF,zb hi];rfl
   let⟨u,hu,ru⟩:=rv.get hm;rw[hP'] at hu;cases hu;cases ru;dsimp only at hQ;rw[zb hi] at hQ;exact yT hQ
  ·let e:((List.range its.toArray.size).any λi=>(bs[i]?).getD false)=bs.any id:=by rw[zR,<-hlen];exact uR bs
   rw[e];exact{.bl _,H,I.kept λb o x=>hk b o (λhm=>by rw[zt.mp hm] at x;exact zV _ (yk x)) (yh _ x),rfl,q}
end
section
variable {prog:wF} {w:wG} {A:wH} {E:wC->wD->Prop} {s:wD}
def sr (hl:IsTup s.heap l vs.toArray)
  (h:Q vs {s with heap:=(s.heap.push (seqObj "list" #[] 0)).update ↑s (Obj.mapSeq (·++vs.toArray))}) (hsz:⇑vs<=sizeLine) :
  wpAny (model prog w) A (collect (.ref l)) Q E s:=by
 let⟨o,ho,hc,n,hd⟩:=id hl;unfold collect;refine yg (wpAny_runValue (xx entry_proto_collect' ?_));show wpAny _ _ (do again (.builtin "list.__iadd__" {[<-newList [],.ref l],[]})) _ _ s;refine yg (wpAny_newList (yi {Code.quiet_builtin _ (by decide +kernel),xx entry_list_iadd' ?_}));show wpAny _ _ (Builtin.List.listExtendWith (.ref ↑s) (.ref l) (.ref ↑s)) _ _ {s with heap:=s.heap.push (seqObj "list" #[] 0)};unfold Builtin.List.listExtendWith;let ho':(s.heap.push (seqObj "list" #[] 0)).get? l=some o:=yh _ ho;refine yg (wq (T:="tuple") {(o),ho',hc} ?_);let ht:(Value.type "tuple"== Value.type "tuple")=true:=by rfl
 rw[yC (by rw[ht];simp)];refine yg (listItems_at ho' hd ?_);refine yg (listItems_at (xs:=#[]) (n:=0) (yj _ rfl) rfl ?_);rw[yB (by simp)];refine yg (listUpdate_at (xs:=#[]) (n:=0) (yj _ rfl) rfl ?_ (zW _) (by show(#[]++vs.toArray).size<=sizeLine+1;simp only[Array.size_append,zR,yZ];ext));refine yi ?_;show wpAny (model prog w) A (do
   let o <-load ↑s
   match o.data with
   | .seq xs _=>pure xs.toList
   | _=>unsupported "internal:collect") Q E {s with heap:=(s.heap.push (seqObj "list" #[] 0)).update ↑s (Obj.mapSeq (·++vs.toArray))}
 refine yg (wpAny_load (get?_update_seq (yj _ rfl) _) ?_);show wpAny _ _ (pure ((#[]:Array wC)++vs.toArray).toList) Q E _;rw[show((#[]:Array wC)++vs.toArray).toList=vs by simp];exact yi h
def Cp (hl:IsTup s.heap l vs.toArray) (hI:IntsAre vs ns) (h64:⇑vs<64)
  (h:∀(out:Array wC) (ns':List Int),IntsAre out.toList ns'->ns'.Perm ns->ns'.Pairwise (·<=·)->Q (.ref (↑s+1)) {s with heap:=sortedAll s.heap vs out}) :
  wpAny (model prog w) A (call (.builtin "sorted") [.ref l]) Q E s:=by
 refine Calls.call_function_entry kind_sorted plain_sorted entry_sorted (args_sorted1 _) ?_;unfold Builtin.«sorted»;refine yg (m:=checkCount "sorted" 1 1 _) (yi ?_);refine yg (sr hl ?_ (by rw[yp];ext));refine yg (wpAny_newList ?_);let hsz:((s.heap.push (seqObj "list" #[] 0)).update ↑s (Obj.mapSeq (·++vs.toArray))).objs.size=↑s+1:=by
  rw[Heap.size_update,size_push']
 let hoL:(((s.heap.push (seqObj "list" #[] 0)).update ↑s (Obj.mapSeq (·++vs.toArray))).push (seqObj "list" vs.toArray 0)).get? (↑s+1)=some (seqObj "list" vs.toArray 0):=by
  rw[<-hsz];exact yj _ rfl
 show wpAny _ _ _ _ _ {s with heap:=((s.heap.push (seqObj "list" #[] 0)).update ↑s (Obj.mapSeq (·++vs.toArray))).push (seqObj "list" vs.toArray 0)};rw[hsz];refine yg (xi (yQ slot_list_sort {_,hoL,rfl} entry_list_sort (list_sort_tree hoL hI h64 λout ns' a1 a2 a3=>{_,rfl,?_}) (args_list_sort _)));exact yi {_,rfl,h out ns' a1 a2 a3}
def rb (h:wK) (vs:List wC) (out:Array wC):∃n,(sortedAll h vs out).get? (h.objs.size+1)=some {cls:=.type "list",data:=.seq out n}:=by
 let hsz:((h.push (seqObj "list" #[] 0)).update h.objs.size (Obj.mapSeq (·++vs.toArray))).objs.size=h.objs.size+1:=by rw[Heap.size_update,size_push']
 let h1:(((h.push (seqObj "list" #[] 0)).update h.objs.size (Obj.mapSeq (·++vs.toArray))).push (seqObj "list" vs.toArray 0)).get? (h.objs.size+1)=some (seqObj "list" vs.toArray 0):=by
  rw[<-hsz];exact yj _ rfl
 unfold sortedAll sortedHeap;let h2:=get?_update_seq h1 (λ_=>#[]);let h3:=yh (seqObj "list" #[] 0) (yh (seqObj "tuple" vs.toArray 0) h2);exact{_,get?_update_seq h3 (λ_=>out)}
def nK (h:wK) (vs:List wC) (out:Array wC) (b:wJ) (o:Obj) (e:h.get? b=some o):(sortedAll h vs out).get? b=some o:=by
 let hb:b<h.objs.size:=yk e;unfold sortedAll sortedHeap;let n1:h.objs.size≠b:=zY hb;let n2:h.objs.size+1≠b:=zY (x6 hb);rw[ym _ _ n2];refine yh _ (yh _ ?_);rw[ym _ _ n2];refine yh _ ?_;rw[ym _ _ n1];exact yh _ e
end
theorem kY:∀{us:List wC} {ns:List Int},IntsAre us ns->Vals (ns.map V.int) us
 | _,_,.nil=>.nil
 | _,_,.cons r t h=>.cons {_,rfl} (kY h)
section
variable {X:Cx}
def l3:b9 X (.builtin "sorted") (λxs H Q=>∃(a:wJ) (ns:List Int),xs=[.ref a]/\(aE X.K H a (ns.map V.int)\/cQ X.K H a (ns.map V.int))/\⇑ns<64/\∀ns':List Int,ns'.Perm ns->ns'.Pairwise (·<=·)->∀l,H l=none->Q (.ref l) (upd H l (.lst (ns'.map V.int)))):=by
 intro pins s U H xs us Q I r h;let⟨a,ns,rfl,hq,h64,q⟩:=h;let⟨u,rfl,rx⟩:=vals1 r;cases rx;let fin:∀(its:List wC),⇑ns=⇑its->∀(out:Array wC) (ns':List Int),IntsAre out.toList ns'->ns'.Perm ns->ns'.Pairwise (·<=·)->EP X pins U Q (.ref (↑s+1)) {s with heap:=sortedAll s.heap its out}:=λits hl out ns' a1 a2 a3=>by
  let⟨n,hn⟩:=rb s.heap its out;refine{.ref _,_,I.laid (t':=s.toks) (a:=↑s+1) (o:=.lst (ns'.map V.int)) (nK s.heap its out) (xD _) ?_,rfl,q ns' a2 a3 _ (I.aP.fresh (xD _))};refine{by rw[za,a2.length_eq,yp];ext,out.toList,n,kY a1,by simpa using hn}
 rcases hq with hq | hq
 ·let⟨its,rv,p,_⟩:=I.list hq
  let hl:⇑ns=⇑its:=by have:=⇑rv;rw[za] at this;exact this
  exact sorted_ints p.isList (intsAre_of rv) () (fin its hl)
 ·let⟨its,rv,p,_⟩:=I.tuple hq
  let hl:⇑ns=⇑its:=by have:=⇑rv;rw[za] at this;exact this
  exact Cp p (intsAre_of rv) () (fin its hl)
theorem DU:∀{zs:List Str} {us:List wC},Vals (zs.map V.str) us->∃l:List (Str×Tok),us=strValues l/\l.map (·.1)=zs
 | [],_,.nil=>{[],rfl,rfl}
 | z::zs,_,.cons ⟨t,e⟩ r=>by
  let⟨l,e1,e2⟩:=DU r;subst e e1 e2;exact{(z,t)::l,rfl,rfl}
def rJoin (K:yo):V->List V->Hp->VK->Prop:=λx vs H Q=>∃(sep:Str) (a:wJ) (zs:List Str),x=.str sep/\vs=[.ref a]/\aE K H a (zs.map V.str)/\(zs.map (λz:Str=>⇑z+⇑sep)).sum<=sizeLine/\Q (.str (Str.join sep zs)) H
theorem Bi (sep:Str):∀(zs:List Str) (k:Nat),zs.foldl (λn z=>n+⇑z+⇑sep) k=k+(zs.map (λz:Str=>⇑z+⇑sep)).sum
 | [],k=>by simp
 | z::zs,k=>by
  rw[List.foldl_cons,Bi sep zs,zf,wc];ext
theorem DS (sep:Str):∀zs:List Str,(zs.map (·.length)).sum+⇑zs*⇑sep=(zs.map (λz:Str=>⇑z+⇑sep)).sum
 | []=>by simp
 | z::zs=>by
  let ih:=DS sep zs;simp only[zf,wc,zo,Nat.succ_mul] at ih ⊢;ext
def Ee:LO X "str.join" (rJoin X.K):=by
 intro pins s U H x vs v us Q I rx rv h;let⟨sep,a,zs,rfl,rfl,hq,hz,q⟩:=h;let⟨tk,rfl⟩:=rx;let⟨u,rfl,ru⟩:=rv.one;cases ru;let⟨its,ri,p,_⟩:=I.list hq;let⟨l,e1,e2⟩:=DU ri;subst e1;let hl:Builtin.Str.tooLong ((l.map (·.1)).toArray.foldl (·+·.length+⇑sep) 0)=false:=by
  rw[e2,List.foldl_toArray,Bi,Nat.zero_add];exact zc ()
 let hj:Builtin.Str.glued sep (l.map (·.1))=Str.join sep zs:=by rw[e2];exact StrLaws.glued_eq_join sep zs
 let jl:⇑(Str.join sep zs)<=sizeLine:=by
  exact zH (StrLaws.join_length_le sep zs) (zH (Nat.le_of_eq (DS sep zs)) hz)
 refine xR F.slot_str_join (wa s sep tk) F.entry_str_join (F.args_str_join_2 _ _) (meets_str_join_list sep tk a l hl) {p.isList,?_}
 match l,e2,hj with
 | [],e2,hj=>
  subst e2;exact{by rw[hj];exact jl,.str _,H,I.tok _,{_,rfl},by rw[hj];exact q}
 | [z],e2,hj=>
  subst e2;exact{.str _,H,I,{_,rfl},q}
 | z::z'::r,e2,hj=>
  subst e2;exact{by rw[hj];exact jl,.str _,H,I.tok _,{_,rfl},by rw[hj];exact q}
end
def KD (P:wF) (w:wG) (K:yo) (a:wJ) (kvs:List (Str×V)):Prop:=
 (a == sysModules)=false/\(kvs.map (·.1)).Nodup/\∀h:wK,K.In h->∃vs:List (Key×wC),KV (kvs.map λp=>((Sum.inr p.1:Key),p.2)) vs/\h.DictOf (bI P w) a vs
def Bq (Pm:Params) (l:List (Str×Tok×wJ)):List DictEntry:=l.map λp=>{PyData.keyHash Pm p.1,.str p.1 p.2.1,.ref p.2.2}
theorem G0:∀{l:List Str},l.Nodup->(l.map (Sum.inr:Str->Key)).Nodup
 | [],_=>xE
 | x::r,h=>by
  rw[zT] at h;rw[zf,zT];exact{λz=>by let⟨y,hy,e⟩:=zC.mp z;exact h.1 (we e▸hy),G0 h.2}
def M5 {P:wF} {w:wG} {K:yo} {a:wJ} {l:List (Str×Tok×wJ)} {n:Nat} (hl:K.lookup a=some {cls:=.type "dict",data:=.dict (Bq w.params l).toArray n}) (hs:(a == sysModules)=false) (nd:(l.map (·.1)).Nodup) :
  KD P w K a (l.map λp=>(p.1,V.ref p.2.2)):=by
 let e1:(l.map λp=>(p.1,V.ref p.2.2)).map (·.1)=l.map (·.1):=by rw[zu];rfl
 refine{hs,by rw[e1];exact nd,λh X=>{l.map λp=>(Sum.inr p.1,.ref p.2.2),?_,_,_,_,X _ _ hl,{(rfl),rfl,rfl},rfl,?_,?_,?_}}
 ·clear hl nd e1
  induction l with
  | nil=>exact .nil
  | cons p r ih=>exact .cons {(rfl),rfl} ih
 ·intro e he
  rw[List.mem_toArray] at he;let⟨p,_,rfl⟩:=zC.mp he;exact{Sum.inr p.1,jW p.1 p.2.1,rfl}
 ·show PySem.Pairs _ (Bq w.params l) _
  clear hl nd e1
  induction l with
  | nil=>exact .nil
  | cons p r ih=>exact .cons (jW p.1 p.2.1) rfl ih
 ·let e2:(l.map λp=>((Sum.inr p.1:Key),(Value.ref p.2.2))).map (·.1)=(l.map (·.1)).map Sum.inr:=by rw[zu,zu];rfl
  rw[e2];exact G0 nd
def ma (kvs:List (Str×V)) (k:Str):Option V:=(kvs.find? λp=>decide (p.1=k)).map (·.2)
theorem CY:∀{kvs:List (Str×V)} {vs:List (Key×wC)} (k:Str),KV (kvs.map λp=>((Sum.inr p.1:Key),p.2)) vs->dm (ma kvs k) (valueAt vs (Sum.inr k))
 | [],_,_,.nil=>trivial
 | (x,v)::r,_,k,.cons (b:=b) h t=>by
  let⟨h1,h2⟩:=h;let⟨bk,bv⟩:=b;dsimp only at h1 h2;subst h1
  by_cases e:x=k
  ·subst e
   simp only[ma,valueAt,yG,decide_true];exact h2
  ·let ih:=CY k t
   let e':¬((Sum.inr x:Key)=Sum.inr k):=λz=>e (we z);simp only[ma,valueAt,yG,e,e',decide_false] at ih ⊢;exact ih
def KC (P:wF) (w:wG) (K:yo) (td ty:TE):TE:=λU H Q=>td U H λx H1=>ty U H1 λy H2=>∃a kvs k v,x=.ref a/\KD P w K a kvs/\y=.str k/\ma kvs k=some v/\Q v H2
def Ms (P:wF) (w:wG) (K:yo) (b:Bool) (ty td:TE):TE:=λU H Q=>ty U H λy H1=>td U H1 λx H2=>∃a kvs k,x=.ref a/\KD P w K a kvs/\y=.str k/\Q (.bl (b ^^ (ma kvs k).isSome)) H2
section
variable {X:Cx} {pos:Pos} {o i:Expr} {td ty:TE}
theorem dm.C0:∀{a:Option V} {b:Option wC},dm a b->a.isSome=b.isSome
 | some _,some _,_=>rfl
 | none,none,_=>rfl
 | some _,none,h=>h.elim
 | none,some _,h=>h.elim
def AJ (ho:PE X o td) (hi:PE X i ty) (hs:LN i):PE X (.Subscript o i pos) (KC X.prog X.w X.K td ty):=by
 intro pins s U H Q I h;refine DT PySem.F.slot_dict_getitem.lookup hs (bR (ho pins s U H _ I h) λu s1 ⟨x,H1,I1,rx,q1⟩=>bR (hi pins s1 U H1 _ I1 q1) λiv s2 zz=>?_);let⟨y,H2,I2,ry,a,kvs,k,v,ex,kd,ey,hv,q2⟩:=zz;subst ex ey;obtain rfl:u=Value.ref a:=rx;let⟨tk,rfl⟩:=ry;let⟨hd,_,hk⟩:=kd;let⟨vs,rel,dd⟩:=hk _ I2.gL;let rv:=CY k rel;rw[hv] at rv;cases hw:valueAt vs (Sum.inr k) with
 | none=>rw[hw] at rv;exact rv.elim
 | some w'=>
  rw[hw] at rv;exact{dd.typeIs,wpAny_getItem_of (jW k tk) dd.mapOf hw {v,H2,I2.tok _,rv,q2}}
def I0 (hi:PE X i ty) (ho:PE X o td):PC X .In i o (Ms X.prog X.w X.K false ty td):=by
 intro pins s U H Q I h;refine bR (hi pins s U H _ I h) λiv s1 ⟨y,H1,I1,ry,q1⟩=>bR (ho pins s1 U H1 _ I1 q1) λu s2 zz=>?_;let⟨x,H2,I2,rx,a,kvs,k,ex,kd,ey,q2⟩:=zz;subst ex ey;obtain rfl:u=Value.ref a:=rx;let⟨tk,rfl⟩:=ry;let⟨hd,_,hk⟩:=kd;let⟨vs,rel,dd⟩:=hk _ I2.gL;refine wpAny_in_of (m9 _ _ k tk) hd dd.mapOf ?_;let e:=dm.C0 (CY k rel);exact{.bl _,H2,I2.tok _,rfl,by rw[e,Bool.false_xor] at q2;exact q2}
end
structure LR (X:Cx) (CX:B5) (k:Nat) (f:wJ) (sp:Sp):Prop where
 ok:∃fd ps,bC X.prog X.w X.K X.mg X.base CX k f fd ps sp/\PySem.W.keepIn X.K (.ref f)=true/\Binds X.K fd ps []
def KH (Tb:wJ->Sp->Prop) (E:XK) (i:Nat) (t:TA):TE:=λU H Q=>∃f sp,U[i]?=some (some (.ref f))/\Tb f sp/\t U H λvs H1=>sp vs H1 Q E
section
variable {X:Cx} {CX:B5} {k:Nat} {x:Str} {i:Nat} {p pos:Pos} {e:Expr} {es:List Expr} {t:TA} {E:XK}
def AL (Tb:wJ->Sp->Prop) (hT:∀f sp,Tb f sp->LR X CX k f sp) (hr:cN k X.A) (hv:PE X (.Name x p) (cj i)) (hx:Passes CX X E)
  (ha:PA X (e::es) t) (he:starEach (e::es) X.env=(false,eval e X.env)::starEach es X.env<|>qe_) (hpl:(backTo pos (starEach es X.env)).any (·.1)=false<|>qe_) :
  PE X (.Call (.Name x p) (e::es) [] pos) (KH Tb E i t):=by
 intro pins s U H Q I h;let⟨f,sp,hf,hTb,h⟩:=h;let⟨fd,ps,F,hk,hb⟩:=(hT f sp hTb).ok;refine y0 (bR (hv pins s U H (λv H1=>v=.ref f/\H1=H) I {_,hf,rfl,rfl}) λu s1 zz=>?_);let⟨v,H1,I1,rv,ev,eH⟩:=zz;subst ev eH;obtain rfl:u=Value.ref f:=rv;refine wu (h₀:=X.base) I1.ok.mod.Jm hk (bR (ha pos pins s1 U _ _ I1 h) λus s2 ⟨vs,H2,I2,r,q⟩=>{I2.gL,?_}) he hpl;exact Gs F hr hb .nil hx I2 r (by rw[zO];exact q)
end
def Mi (sp:Sp) (t:TA) (C:wJ) (th:TS):TS:=λD U H=>t U H λvs H1=>sp vs H1 (λv H2=>D.rt v H2) λcls _ H2=>cls=.ref C/\th D U H2
section
variable {X:Cx} {k:Nat} {f:wJ} {fd:wI} {ps:List Str} {sp:Sp} {fx cn:Str} {p pos cpos pa np hpos:Pos} {e₀:Expr} {es:List Expr} {t:TA} {C:wJ} {bm:List wC} {newId:String} {b₀:Stmt} {suite:List Stmt} {th:TS}
def IV (F:bC X.prog X.w X.K X.mg X.base (B4 X.prog X.w) k f fd ps sp) (hr:cN k X.A) (hg:Gl X fx) (hm:X.mg fx=some (.ref f)) (hk:PySem.W.keepIn X.K (.ref f)=true) (hb:Binds X.K fd ps []) (ha:PA X.wZ (e₀::es) t)
  (hc:X.calm=true) (hgc:Gl X cn) (hC0:PySem.W.nsIn X.K mainGlobals cn=some (some (.ref C))) (hQ0:PySem.W.excIn X.K C bm newId=true) (hbase:bm.contains (.type "BaseException")=true) (hstk:X.stack=X.env::X.outer) (hfrm:X.env.frame=some X.env.locals)
  (hsu:∀e,sI (X.held e).wZ (b₀::suite) th)
  (hdb:(fx == ("__debug__": Str))=false<|>qb_) (hdc:(cn == ("__debug__": Str))=false<|>qb_) (he:starEach (e₀::es) X.env=(false,eval e₀ X.env)::starEach es X.env<|>qe_) (hpl:(backTo cpos (starEach es X.env)).any (·.1)=false<|>qe_) :
  PS X (.Try [.Return (some (.Call (.Name fx p) (e₀::es) [] cpos)) pa] [.ExceptHandler (some (.Name cn np)) none (b₀::suite) hpos] [] [] pos) (Mi sp t C th):=by
 intro pins s U H D I h;let O:OwnCls cn C bm newId X.mg X.base:=ie X.prog I.ok.mod hC0 hQ0;refine wpAny_Try_except (wpAny_execs_cons ?_);refine wpAny_Return_some ?_;refine y0 (dB I hg hm ?_ hdb);let hA:wpAny (model X.prog X.w) X.A (spliced (backTo cpos (starEach (e₀::es) X.env))) (AP X.wZ pins U _) (λ_ _=>False) s:=ha cpos pins s U H _ (I.j3 _) h;refine wu (h₀:=X.base) I.ok.mod.Jm hk (yS hA (λus s1 ⟨vs,H1,I1',r,q⟩=>{I1'.gL,?_}) λ_ _ z=>z.elim) he hpl;let I1:Inv X pins U H1 s1:=I1'.dq;let hl:⇑us=⇑ps:=by rw[<-⇑r];exact F.len _ _ _ _ q
 refine wpAny_call (xt (F.run X.A X.stack s1 H1 {us,[]} us vs _ _ hr I1.Fn (by have:=hb s1 us I1.gL (by rw[zO];exact hl);rw[zO] at this;exact this) r q) λrr s' hq=>?_);cases rr with
 | ok fl=>
  cases fl with
  | ret u=>
   let⟨v,H2,I2,r2,q2⟩:=I1.after hq;exact{v,U,H2,I2,r2,q2}
  | next=>exact False.elim hq
  | brk=>exact False.elim hq
  | cont=>exact False.elim hq
 | error ev=>
  let⟨a,cls,a0,B,H',rfl,os,bare,fl,fly,⟨rfl,q2⟩⟩:=hq;let vw:∀b∈fX X.stack,H1 b=none:=I1.gZ;let nf:∀{hh:wK},Heap.FunFrames hh B X.stack->∀b∈fX X.stack,∃o,hh.get? b=some o/\∀vs,o.data≠.fields vs:=λhF b hb=>(hF.mem hb).2;let back:∀(hh:wK),B8 X.prog X.w (fX X.stack) H1 H' s1.heap B hh->Inv X pins U H' {s' with heap:=hh}:=λhh fy=>
   I1.Er (s':={s' with heap:=hh}) (ch:=[]) os (fy.un vw) (fy.aP.kept fy.fY) bare λb z=>absurd z (by simp)
  let hfr:X.A.frames=some (X.env::X.outer):=by rw[<-hstk];exact I1.ok.frames
  refine wpAny_looks_onW hfr hfrm (by rw[<-hstk];exact fl) λh4 held4 up4=>?_;refine wpAny_landsW held4 λh5 fl5 up5=>?_;let fl5':Heap.FlyingW B X.stack a (.ref C) a0 h5:=by rw[hstk];exact fl5
  let fy5:B8 X.prog X.w (fX X.stack) H1 H' s1.heap B h5:=fly.on (up4.trans up5) fl5.1 (nf fl.2.2.1);let I5:=back h5 fy5;let⟨ob,hob,hobc⟩:=fl5'.there;let⟨tl,Nn,nm,qn,bs,hdct,sn,sub,ab,col,dd,k0,k1,k2,k3,k5,mN,hC,hN',hni,T⟩:=O.obj;refine wpAny_handleBy_cons (codeAny_handlers_test (dB (X:=X.held (.ref a)) (I5.held _) hgc O.bound ?_ hdc)) (by intro q;cases q);refine wpAny_excMatches_sub_self (I5.bk _ _ hC) hob hobc (T.hasType hbase) (codeAny_handlers_suite ?_);refine lands_againW fl5' λh6 fl6 up6=>?_;let fy6:B8 X.prog X.w (fX X.stack) H1 H' s1.heap B h6:=fy5.on up6 fl6.1 (nf fl5'.2.2.1);let I6:=back h6 fy6;refine yS (hsu (.ref a) pins _ U H' D ((I6.held _).j3 _) q2) (λfl s7 z=>?_) λ_ _ z=>z.elim;exact SP.gz I.ok.hd (SP.dq z)
end
section
variable {prog:wF} {w:wG} {A:wH} {E:wC->wD->Prop} {s:wD}
def GC (hd:(d == sysModules)=false) (ho:s.heap.get? d=some o) (hx:o.ExactDict) (hdat:o.data=.dict es ep)
  (hQ:Q (.ref ↑s) {s with heap:=s.heap.push {cls:=.type "dict_keyiterator",data:=.fields #[.ref d,.int 0 0,.int es.size 0,.int ep 0]}}) :
  wpAny (model prog w) A (pyIter (.ref d)) Q E s:=by
 let hT:s.TypeIs (.ref d) "dict":={(o),ho,hx.1}
 refine wpAny_pyIter_slot hT F.slot_dict_iter (yQ F.slot_dict_iter hT F.entry_dict_iter ?_ (F.args_dict_iter_1 _));unfold Builtin.«dict.__iter__»;refine yg ?_;unfold Builtin.Dict.dictSlotNone;refine yg (wpAny_notOrdered_dict hT ?_);show wpAny _ _ (pure (Value.ref d)) _ _ s;refine yi ?_;show wpAny _ _ (Builtin.Dict.showsAll d >>= _) _ _ s;unfold Builtin.Dict.showsAll;rw[yB (by rw[hd];exact zG)];refine yg (yi ?_);refine yg (wpAny_dictEntries ho hdat ?_);refine yg (wpAny_dictEpoch ho hdat ?_);refine yg (yR (yi {_,rfl,"dict_keyiterator",_,{_,yj _ rfl,rfl},xA.lookup,?_}))
 simpa[rawInt] using hQ
def GD (hit:s.heap.IsKeyIter it d i es.size ep)
  (hod:s.heap.get? d=some od) (hdd:od.data=.dict es ep) (hx:es[i]?=some e)
  (hQ:∀h',h'.IsKeyIter it d (i+1) es.size ep->Heap.SameBut it s.heap h'->Q (some e.key) {s with heap:=h'}) :
  wpAny (model prog w) A (pyNext (.ref it)) Q E s:=by
 let⟨o,ho,hc,hd⟩:=id hit;unfold pyNext;refine yg (wb (yM (name:=Str.ofString "__next__") hit.typeIs xA
  (yQ xA hit.typeIs F.entry_dict_keyiterator_next ?_ (F.args_dict_keyiterator_next_1 _))))
 refine yg (yi ?_);refine yg ?_;refine yg ?_
 first | refine yg (xr hit.typeIs (yi ?_)) | refine yg (xO hit.typeIs (yi ?_))
 refine yg (wpAny_fieldsOf ho hd ?_);let hown:Builtin.Dict_items.ownsTuple "dict_keyiterator"= false:=by decide
 simp only[hown,xV,xN];show wpAny _ _ (if(Value.ref d == Value.none)=true then _ else _) _ _ s;rw[yB (show¬((Value.ref d == Value.none)=true) from zG)];refine yg (yi ?_);refine yg (wpAny_dictEntries hod hdd ?_);rw[yB (by simp)];refine yg (yi ?_);refine yg (wpAny_dictEpoch hod hdd ?_);rw[yB (by simp)];refine yi ?_;simp only[show¬((i:Int)<0) from by ext,xN,xC,hx];refine yg ?_
 first | refine yg (xr hit.typeIs (yi ?_)) | refine yg (xO hit.typeIs (yi ?_))
 refine yg (wpAny_isOneOf_keyiter hit.typeIs ?_);show wpAny _ _ (setField (.ref it) 1 (rawInt ((i:Int)+1)) >>= _) _ _ s;refine yg (wpAny_setField ho hd (by simp) ?_);let hit':(s.heap.update it (Obj.mapFields (·.setIfInBounds 1 (rawInt ((i:Int)+1))))).IsKeyIter it d (i+1) es.size ep:=
  {_,yn _ ho (Obj.isFreed_of_fields (wx hd _)),(Obj.cls_mapFields ..).trans hc,by rw[wx hd];simp[rawInt]}
 refine yg (xi ?_);refine yg (wpAny_isOneOf_keyiter (s:={s with heap:=s.heap.update it (Obj.mapFields (·.setIfInBounds 1 (rawInt ((i:Int)+1))))}) hit'.typeIs ?_);show wpAny _ _ (pure e.key) _ _ _;exact yi (yi {_,rfl,yi (hQ _ hit' (wm ..))})
def IS (hh:A.handled=none) (hit:s.heap.IsKeyIter it d i es.size ep)
  (hod:s.heap.get? d=some od) (hdd:od.data=.dict es ep) (hx:es.size<=i)
  (hQ:∀h',Heap.ExtBut it s.heap h'->Q none {s with heap:=h'}):wpAny (model prog w) A (pyNext (.ref it)) Q E s:=by
 let⟨o,ho,hc,hd⟩:=id hit;unfold pyNext;refine yg (wb (yM (name:=Str.ofString "__next__") hit.typeIs xA
  (yQ xA hit.typeIs F.entry_dict_keyiterator_next ?_ (F.args_dict_keyiterator_next_1 _))))
 refine yg (yi ?_);refine yg ?_;refine yg ?_
 first | refine yg (xr hit.typeIs (yi ?_)) | refine yg (xO hit.typeIs (yi ?_))
 refine yg (wpAny_fieldsOf ho hd ?_);let hown:Builtin.Dict_items.ownsTuple "dict_keyiterator"= false:=by decide
 simp only[hown,xV,xN];show wpAny _ _ (if(Value.ref d == Value.none)=true then _ else _) _ _ s;rw[yB (show¬((Value.ref d == Value.none)=true) from zG)];refine yg (yi ?_);refine yg (wpAny_dictEntries hod hdd ?_);rw[yB (by simp)];refine yg (yi ?_);refine yg (wpAny_dictEpoch hod hdd ?_);rw[yB (by simp)];refine yi ?_;simp only[show¬((i:Int)<0) from by ext,xN,xC,Array.getElem?_eq_none hx];refine yg ?_
 first | refine yg (xr hit.typeIs (yi ?_)) | refine yg (xO hit.typeIs (yi ?_))
 show wpAny _ _ (setField (.ref it) 0 .none >>= _) _ _ s;refine yg (wpAny_setField ho hd (by simp) ?_);show wpAny _ _ (newExc (.type "StopIteration") [] >>= _) _ _ _;refine yg ?_;simp only[newExc,newTuple];refine yg (yR ?_ (by size_fits));refine yg (m:=firstArgMember _ _) (wpAny_of_eq (a:=Value.none) (by first | rfl | (simp only[firstArgMember];rfl)) ?_);refine yR ?_ (by size_fits);simp only[raiseNew];refine yg (wpAny_handled ?_);rw[show A.in1.handled=none from hh];refine yg (yi (wpAny_throw ?_));refine yg (wpAny_isInstance (T:="StopIteration") (b:=true) {_,yj _ rfl,rfl} isSubtype_stop ?_);exact yi (hQ _ (((wm ..).extBut.push _).push _))
end
def Ia (H:Hp) (d:wJ) (o:Obj) (n:Nat) (kat:Hp->Nat->V->Prop):Prop:=∃u,H d=some (.i9 o u)/\((∃kvs:List (Key×V),u=.dK kvs/\n=⇑kvs/\kat=λ_ i x=>∃p,kvs[i]?=some p/\x=kV p.1)\/
 ∃kvs:List (List Key×V),u=.dT kvs/\n=⇑kvs/\kat=λH i x=>∃p b,kvs[i]?=some p/\H b=some (.tup (p.1.map kV))/\x=.ref b)
theorem sY {K:Type} [DecidableEq K] {prog:wF} {w:wG} {knd:KeyKind prog w K}:∀{es:List DictEntry} {kvs:List (K×wC)} {i:Nat} {e:DictEntry},PySem.Pairs knd es kvs->es[i]?=some e->∃kv,kvs[i]?=some kv/\knd.is kv.1 e.key=true/\e.val=kv.2
 | _,_,_,_,.nil,h=>by simp at h
 | _,_,0,_,.cons a b _,h=>by simp at h;subst h;exact{_,rfl,a,b}
 | _,_,i+1,_,.cons _ _ t,h=>by
  let⟨kv,h1,h2⟩:=sY (i:=i) t (by simpa using h);exact{kv,by simpa using h1,h2}
theorem ic:∀{l:List α} {m:List β} {i:Nat} {b:β},Paired F l m->m[i]?=some b->∃a,l[i]?=some a/\F a b
 | _,_,_,_,.nil,h=>by simp at h
 | _,_,0,_,.cons r _,h=>by simp at h;subst h;exact{_,rfl,r}
 | _,_,i+1,_,.cons _ t,h=>by
  let⟨a,h1,h2⟩:=ic (i:=i) t (by simpa using h);exact{a,by simpa using h1,h2}
section
variable {X:Cx} {pins:List (wJ×Obj)} {U:St} {H:Hp} {s:wD} {d:wJ} {o:Obj} {n:Nat} {kat:Hp->Nat->V->Prop}
def Ia.raw (f:Ia H d o n kat) (I:Inv X pins U H s):(d == sysModules)=false/\∃es ep,s.heap.get? d=some o/\o.ExactDict/\o.data=.dict es ep/\es.size=n/\∀i e,es[i]?=some e->∃x,RelV x e.key/\kat H i x:=by
 let⟨u,hH,hu⟩:=f;let⟨ho,ok⟩:=(show aT X.prog X.w H s.heap d (.i9 o u) from I.aP d _ hH)
 rcases hu with⟨kvs,rfl,rfl,rfl⟩ | ⟨kvs,rfl,rfl,rfl⟩
 ·let⟨_,hd,vs,rel,o',es,ep,ho',hx,hdat,_,hp,_⟩:=ok
  let hl:es.size=⇑kvs:=by
   let h1:=⇑hp;let h2:⇑kvs=⇑vs:=xB rel;let h3:⇑es.toList=es.size:=yE;ext
  rw[ho] at ho';cases ho';refine{hd,es,ep,ho,hx,hdat,hl,λi e he=>?_};let⟨kv,h1,h2,_⟩:=sY hp (i:=i) (e:=e) (by rw[yV];exact he);let⟨p,h3,h4,_⟩:=ic rel h1;refine{kV p.1,?_,p,h3,rfl};rw[<-h4] at h2;rcases bN h2 with⟨j,t,e1,e2⟩ | ⟨y,t,e1,e2⟩
  ·rw[e1,e2];exact{(t),rfl}
  ·rw[e1,e2];exact{(t),rfl}
 ·let⟨_,hd,xs,rel,o',es,ep,ho',hx,hdat,he,_⟩:=ok
  let h3:⇑es.toList=es.size:=yE;let hl:es.size=⇑kvs:=by
   let h2:⇑kvs=⇑xs:=xB rel;rw[he,za] at h3;ext
  rw[ho] at ho';cases ho';refine{hd,es,ep,ho,hx,hdat,hl,λi e hi=>?_};rw[<-yV,he,zF] at hi;cases q:xs[i]? with
  | none=>rw[q] at hi;cases hi
  | some y=>
   rw[q] at hi;cases hi;let⟨p,h4,h5,h6,_⟩:=ic rel q;exact{.ref y.2.1,rfl,p,y.2.1,h4,h6,rfl}
end
def Pc (d:wJ) (o:Obj) (n:Nat) (kat:Hp->Nat->V->Prop):It:={λi H=>Ia H d o n kat/\i<n,λi H x H'=>H'=H/\kat H i x,λi H=>Ia H d o n kat/\n<=i}
def EI {P:wF} {w:wG} {K:yo} {tg:Expr} (d it:wJ) (n:Nat) (kat:Hp->Nat->V->Prop) (o:Obj) (es:Array DictEntry) (ep:Nat) (hdat:o.data=.dict es ep) (hn:es.size=n) :
  Turn P w K tg (Pc d o n kat) [it] it (λi h=>h.IsKeyIter it d i n ep) where
 mem:=by simp
 obj:=λi h st b hb=>by
  let e:b=it:=by simpa using hb
  subst e;let⟨o,e,c,d⟩:=st;exact{o,e,λv z=>by rw[d] at z;cases z}
 keep:=λi h h' st k=>st.at λo e=>k it (by simp) o e
 item:=by
  intro X hP hw hK hc i pins s U H E I hf st hg;subst hP hw hK hn;let⟨fz,hlt⟩:=hg;let⟨hd,es',ep',ho,hx,hdat',hsz,hk⟩:=fz.raw I;rw[hdat] at hdat';cases hdat';let⟨f0,f1,f2,f3,f4,f5⟩:=hf it (by simp);let he:es[i]?=some es[i]:=Array.getElem?_eq_getElem hlt;let⟨x,rx,kx⟩:=hk i _ he;refine GD st ho hdat he λh' st' sb=>?_;let I1:Inv X pins U H {s with heap:=h'}:=I.turned (t':=s.toks) (λb o hb e=>(sb.2 b hb).trans e) f0 f1 f3 f4 f5;let⟨oi,e,c,dd⟩:=id st';exact{_,rfl,tJ (s:={s with heap:=h'}) e c dd ∅ {x,H,I1,rx,{(rfl),kx},st',λb hb=>(hf b hb).1}}
 done:=by
  intro X hP hw hK hc i pins s U H E I hf st hg;subst hP hw hK hn;let⟨fz,hge⟩:=hg;let⟨hd,es',ep',ho,hx,hdat',hsz,hk⟩:=fz.raw I;rw[hdat] at hdat';cases hdat';let⟨f0,f1,f2,f3,f4,f5⟩:=hf it (by simp);exact IS (I.ok.hd hc) st ho hdat hge λh' eb=>{rfl,I.turned (t':=s.toks) (λb o hb e=>eb b o hb e) f0 f1 f3 f4 f5}
 self:=λ_ _ _ _ _ st h=>wpAny_pyIter_keyiter st h
def Na (td:TE):TI:=λU H R=>td U H λx H1=>∃d o n kat,x=.ref d/\Ia H1 d o n kat/\R (Pc d o n kat) H1
section
variable {X:Cx} {tg l:Expr} {tl:TE}
def IY (hl:PE X l tl):PI X tg l (Na tl):=by
 intro pins s U H R I h;refine bR (hl pins s U H _ I h) λv s1 zz=>?_;let⟨x,H1,I1,r1,q1⟩:=zz;let⟨d,o,n,kat,e,fz,q⟩:=q1;subst e;cases r1;let⟨hd,es,ep,ho,hx,hdat,hsz,hk⟩:=fz.raw I1;refine GC hd ho hx hdat ?_;refine{↑s1,[↑s1],_,_,H1,rfl,I1.kept (t':=s1.toks) λb o e=>yh _ e,EI d _ n kat o es ep hdat hsz,{_,yj _ rfl,rfl,by rw[hsz];rfl},λb hb=>?_,q};let e:b=↑s1:=by simpa using hb
 subst e;exact I1.vx (zh _) (I1.aP.fresh (zh _))
end
def DL (H:Hp) (d:wJ) (o:Obj) (kvs:List (Key×V)):Prop:=H d=some (.i9 o (.dK kvs))
def HZ (d:wJ) (o:Obj) (kvs:List (Key×V)):It:={λi H=>DL H d o kvs/\i<⇑kvs,λi H x H'=>H'=H/\∃p,kvs[i]?=some p/\x=p.2,λi H=>DL H d o kvs/\⇑kvs<=i}
section
variable {X:Cx} {pins:List (wJ×Obj)} {U:St} {H:Hp} {s:wD} {d:wJ} {o:Obj} {kvs:List (Key×V)}
def DL.at' (f:DL H d o kvs) (I:Inv X pins U H s):(d == sysModules)=false/\∃vs es ep,KV kvs vs/\o.data=.dict es ep/\s.heap.DictAt (bI X.prog X.w) d vs ep:=by
 let⟨ho,ok⟩:=(show aT X.prog X.w H s.heap d (.i9 o (.dK kvs)) from I.aP d _ f)
 let⟨_,hd,vs,rel,o',es,ep,ho',hx,hdat,hk,hp,nd⟩:=ok;rw[ho] at ho';cases ho';exact{(hd),vs,es,ep,rel,hdat,o,es,ho,hx,hdat,hk,hp,nd}
end
def w8 {P:wF} {w:wG} {K:yo} {tg:Expr} (d it:wJ) (o:Obj) (kvs:List (Key×V)) (es:Array DictEntry) (ep:Nat) (hdat:o.data=.dict es ep) :
  Turn P w K tg (HZ d o kvs) [it] it (λi h=>h.IsValIter it d i ⇑kvs ep) where
 mem:=by simp
 obj:=λi h st b hb=>by
  let e:b=it:=by simpa using hb
  subst e;let⟨o,e,c,d⟩:=st;exact{o,e,λv z=>by rw[d] at z;cases z}
 keep:=λi h h' st k=>st.at λo e=>k it (by simp) o e
 item:=by
  intro X hP hw hK hc i pins s U H E I hf st hg;subst hP hw hK;let⟨fz,hlt⟩:=hg;let⟨hd,vs,es',ep',rel,hdat',da⟩:=fz.at' I;rw[hdat] at hdat';cases hdat';let⟨f0,f1,f2,f3,f4,f5⟩:=hf it (by simp);let hl:⇑kvs=⇑vs:=xB rel;let hi:vs[i]?=some (vs[i]'()):=zb ();let⟨p,h3,h4,h5⟩:=ic rel hi;refine wpAny_pyNext_values_item (by rw[<-hl];exact st) da hi λh' st' sb=>?_;let I1:Inv X pins U H {s with heap:=h'}:=I.turned (t':=s.toks) (λb o hb e=>(sb.2 b hb).trans e) f0 f1 f3 f4 f5;let⟨oi,e,c,dd⟩:=id st';exact{_,rfl,tJ (s:={s with heap:=h'}) e c dd ∅ {p.2,H,I1,h5,{(rfl),p,h3,rfl},by rw[hl];exact st',λb hb=>(hf b hb).1}}
 done:=by
  intro X hP hw hK hc i pins s U H E I hf st hg;subst hP hw hK;let⟨fz,hge⟩:=hg;let⟨hd,vs,es',ep',rel,hdat',da⟩:=fz.at' I;rw[hdat] at hdat';cases hdat';let⟨f0,f1,f2,f3,f4,f5⟩:=hf it (by simp);let hl:⇑kvs=⇑vs:=xB rel;exact wpAny_pyNext_values_end (I.ok.hd hc) (by rw[<-hl];exact st) da (by simp;ext) λh' eb=>{rfl,I.turned (t':=s.toks) (λb o hb e=>eb b o hb e) f0 f1 f3 f4 f5}
 self:=λ_ _ _ _ _ st h=>wpAny_pyIter_valiter st h
def Jq (td:TE):TI:=λU H R=>td U H λx H1=>∃d o kvs,x=.ref d/\DL H1 d o kvs/\R (HZ d o kvs) H1
section
variable {X:Cx} {tg l:Expr} {tl:TE} {apos cpos:Pos}
def E4 (hl:PE X l tl) (hbase:attributeBase l "values" X.env (eval l X.env)=eval l X.env<|>qe_) (hline:(apos.endLine == cpos.line)=true<|>qe_):PI X tg (.Call (.Attribute l "values" apos) [] [] cpos) (Jq tl):=by
 intro pins s U H R I h;refine wpAny_Call_method0_late hbase hline (bR (hl pins s U H _ I h) λv s1 zz=>?_);let⟨x,H1,I1,r1,q1⟩:=zz;let⟨d,o,kvs,e,fz,q⟩:=q1;subst e;cases r1;let⟨hd,vs,es,ep,rel,hdat,da⟩:=fz.at' I1;refine{"dict","dict.values",F.plainAttrs_dict,F.slot_dict_values,F.type_dict_values,da.dictOf.typeIs,da.dictOf.mapOf.noDict,x8 rfl (PySem.evalArgs_none ?_)};refine call_meetsIn F.slot_dict_values da.dictOf.typeIs F.entry_dict_values (F.args_dict_values_1 _) (meets_dict_values (bI X.prog X.w) d hd) {{(vs),da.dictOf},?_};let I2:Inv X pins U H1 {s1 with heap:=s1.heap.push {cls:=.type "dict_values",data:=.fields #[.ref d]}}:=I1.kept (t':=s1.toks) λb o e=>yh _ e;let⟨_,vs2,es2,ep2,rel2,hdat2,da2⟩:=fz.at' I2;rw[hdat] at hdat2;cases hdat2;let hl2:⇑kvs=⇑vs2:=xB rel2;refine wpAny_pyIter_values (knd:=bI X.prog X.w) {_,yj _ rfl,rfl,rfl} da2 ?_;refine{_,[_],_,_,H1,rfl,I2.kept (t':=s1.toks) λb o e=>yh _ e,w8 d _ o kvs es ep hdat,{_,yj _ rfl,rfl,by rw[hl2];rfl},λb hb=>?_,q};rw[zt.mp hb];exact I2.vx (zh _) (I2.aP.fresh (zh _))
end
def C2 {d:wJ} {o:Obj} {kvs:List (Key×V)} {g:TG} {tb:TS} {D:Ends} {U:St} {H:Hp} (Pv:Nat->St->Hp->Prop) (h0:Pv 0 U H) (hf:∀i U H,i<=⇑kvs->Pv i U H->DL H d o kvs)
  (hs:∀i p U H,kvs[i]?=some p->Pv i U H->g p.2 U H λU2 H2=>tb {D with nx:=Pv (i+1),ct:=Pv (i+1),bk:=D.nx} U2 H2) (hd:∀U H,Pv ⇑kvs U H->D.nx U H) :
  ∃W:Nat->Nat->St->Hp->Prop,(∃m,W 0 m U H)/\∀i m U H,W i m U H->
   ((HZ d o kvs).stop i H/\D.nx U H)\/((HZ d o kvs).go i H/\∃Nn:St->Hp->Prop,(∀U' H',Nn U' H'->∃m',m'<m/\W (i+1) m' U' H')/\∀v H',(HZ d o kvs).F6 i H v H'->g v U H' λU2 H2=>tb {D with nx:=Nn,ct:=Nn,bk:=D.nx} U2 H2):=by
 refine{λi m U H=>m=⇑kvs-i/\i<=⇑kvs/\Pv i U H,{⇑kvs,by simp,zW _,h0},?_};rintro i m U H ⟨rfl,hi,pv'⟩;rcases xh i ⇑kvs with hlt | hge
 ·refine .inr {{hf i U H hi pv',hlt},Pv (i+1),λU' H' p'=>{⇑kvs-(i+1),(),rfl,hlt,p'},λv H' y=>?_}
  let⟨e1,p,hp,e2⟩:=y;rw[e1,e2];exact hs i p U H hp pv'
 ·let e:i=⇑kvs:=()
  subst e;exact .inl {{hf _ U H hi pv',zh _},hd U H pv'}
def M9:HO->Bool
 | .dK _=>true
 | .dT _=>true
 | _=>false
def bC.JV {P:wF} {w:wG} {K:yo} {mg:Str->Option wC} {base:wK} {k:Nat} {f:wJ} {fd:wI} {ps:List Str} {sp sp':Sp} (F:bC P w K mg base sL k f fd ps sp) (len:∀vs H Q E,sp' vs H Q E->⇑vs=⇑ps)
  (h:∀vs H Q E,sp' vs H Q E->∃d u,H d=some u/\M9 u=true/\∀o,sp vs (upd H d (.i9 o u)) (λv H'=>Q v (upd H' d u)) E):bC P w K mg base sL k f fd ps sp':=by
 refine{len,λA outer s H args us vs Q E hr e hb hv hs=>?_};let⟨d,u,hd,hu,hsp⟩:=h vs H Q E hs;let okd:=e.aP d u hd;let⟨o,ho⟩:=okd.here;let nt:∀xs,u≠.tup xs:=λxs z=>by rw[z] at hu;cases hu
 let no:∀x,u≠.own x:=λx z=>by rw[z] at hu;cases hu
 let nf:∀a b,u≠.i9 a b:=λa b z=>by rw[z] at hu;cases hu
 let nb:∀a,u≠.Gf a:=λa z=>by rw[z] at hu;cases hu
 let off:∀b,H b=none->b≠d:=λb n z=>by rw[z,hd] at n;cases n
 let tup1:∀b xs,H b=some (.tup xs)->upd H d (.i9 o u) b=some (.tup xs):=λb xs q=>by rw[aq (λz=>by rw[z,hd] at q;exact nt xs (z0 q))];exact q
 let own1:∀b x,H b=some (.own x)->upd H d (.i9 o u) b=some (.own x):=λb x q=>by rw[aq (λz=>by rw[z,hd] at q;exact no x (z0 q))];exact q
 let e1:B3 P w K mg base A outer s (upd H d (.i9 o u)):=by
  refine{e.frames,e.mod,λb ob q=>{(e.bs b ob q).1,by rw[aq (off b (e.bs b ob q).2)];exact(e.bs b ob q).2},e.FU,e.jB,λb hb=>by rw[aq (off b (e.vw b hb))];exact e.vw b hb,λb ub q=>?_,e.bare}
  by_cases hbd:b=d
  ·subst hbd
   rw[az] at q;cases q;exact{ho,okd.fY (λ_ _ _ z=>z) (λc z=>own1 c _ z) tup1}
  ·rw[aq hbd] at q
   exact(e.aP b ub q).fY (λ_ _ _ z=>z) (λc z=>own1 c _ z) tup1
 refine xt (F.run A outer s _ args us vs _ E hr e1 hb hv (hsp o)) λr s' hq=>?_;cases r with
 | error x=>exact hq
 | ok fl=>
  cases fl with
  | next=>exact hq
  | brk=>exact hq
  | cont=>exact hq
  | ret uv=>
   let⟨v,H',os,bare,un,aP,rv,q⟩:=hq;let hd':H' d=some (.i9 o u):=un.gS d o u az;let off1:∀b,H b=none->upd H d (.i9 o u) b=none:=λb n=>by rw[aq (off b n)];exact n
   let back:∀b z,H b=some z->b≠d->upd H d (.i9 o u) b=some z:=λb z q n=>by rw[aq n];exact q
   refine{v,upd H' d u,os,bare,{λb ob q n hb hx=>un.keep b ob q (off1 b n) hb hx,λb ob q n hb hx=>un.slot b ob q (off1 b n) hb hx,λb ob q n hx=>by rw[aq (off b n)];exact un.free b ob q (off1 b n) hx,un.there,
    λb xs q=>?_,λb ob uu q=>?_,λb ps' q=>?_},λb ub q=>?_,rv,q}
   ·let n:b≠d:=λz=>by rw[z,hd] at q;exact nt xs (z0 q)
    rw[aq n];exact un.i4 b xs (back b _ q n)
   ·let n:b≠d:=λz=>by rw[z,hd] at q;exact nf ob uu (z0 q)
    rw[aq n];exact un.gS b ob uu (back b _ q n)
   ·let n:b≠d:=λz=>by rw[z,hd] at q;exact nb ps' (z0 q)
    let⟨m,z⟩:=un.i5 b ps' (back b _ q n);exact{m,by rw[aq n];exact z}
   ·let own2:∀c x,H' c=some (.own x)->upd H' d u c=some (.own x):=λc x z=>by rw[aq (λy=>by rw[y,hd'] at z;cases z)];exact z
    let tup2:∀c xs,H' c=some (.tup xs)->upd H' d u c=some (.tup xs):=λc xs z=>by rw[aq (λy=>by rw[y,hd'] at z;cases z)];exact z
    by_cases hbd:b=d
    ·subst hbd
     rw[az] at q;cases q;let⟨_,ok'⟩:=(show aT P w H' s'.heap b (.i9 o u) from aP b _ hd')
     exact ok'.fY (λ_ _ _ z=>z) (λc z=>own2 c _ z) tup2
    ·rw[aq hbd] at q
     exact(aP b ub q).fY (λ_ _ _ z=>z) (λc z=>own2 c _ z) tup2
def AG (U:List Str) (x:Str):List Str:=if x∈U then U else U++[x]
def dW (l:List Str):List Str:=l.foldl AG []
def Bt (l:List Str):⇑(dW l)<=⇑l/\(⇑(dW l)=⇑l↔l.Nodup):=by
 let key:∀(l U:List Str),U.Nodup->⇑(l.foldl AG U)<=U.length+⇑l/\(⇑(l.foldl AG U)=U.length+⇑l↔(U++l).Nodup):=by
  intro l
  induction l with
  | nil=>intro U h;simp[h]
  | cons x l ih=>
   intro U h;rw[List.foldl_cons,zo]
   by_cases hx:x∈U
   ·rw[show AG U x=U from yC hx]
    have:=ih U h;refine{(),{λe=>(),λe=>?_}};exact absurd hx (λz=>(zN.mp e).2.2 x z x zk rfl)
   ·rw[show AG U x=U++[x] from yB hx]
    let hn:(U++[x]).Nodup:=zN.mpr {h,by simp,λa ha b hb e=>by rw[zt.mp hb] at e;exact hx (e▸ha)};have:=ih (U++[x]) hn;rw[ze,List.length_singleton,zA,List.singleton_append] at this;exact{(),{λe=>this.2.mp (),λe=>by have:=this.2.mpr e;ext}}
 have:=key l [] xE
 simpa[dW] using this
def sub_tuple_set:isSubtype (.type "tuple") (.type "set")=pure false:=by rw[isSubtype_type];kernel_rfl
def sub_tuple_frozenset:isSubtype (.type "tuple") (.type "frozenset")=pure false:=by rw[isSubtype_type];kernel_rfl
section
variable {prog:wF} {w:wG}
def Gp {A:wH} {R:Result->wD->Prop} {I:wJ} {fp wr:List wJ} {G:Array GenState->Array GenState->Prop} {n:Nat} {P:Nat->wC->Prop} {St:Nat->wD->Prop} (W:WalksS prog w A.in1 I fp wr G n P St) (S:wJ) (hSf:S∉fp)
  (zs:List Str) (hn:n=⇑zs) (hval:∀i v,P i v->∃z t,zs[i]?=some z/\v=.str z t) (hb:n+1<scanBound) :
  ∀(k i:Nat) (s:wD),n-i=k->i<=n->St i s->s.heap.SetOf (PySem.strKind prog w) S (λx=>decide (x∈dW (zs.take i))) ⇑(dW (zs.take i))->
   (∀s',Moved (S::wr) G s s'->s'.heap.SetOf (PySem.strKind prog w) S (λx=>decide (x∈dW zs)) ⇑(dW zs)->R (.ok (.ret .none)) s')->
   codeAny (model prog w) A (.builtin "set.update.loop" {[.ref S,.ref I],[]}) R s:=by
 let hSw:S∉wr:=λh=>hSf (W.sub _ h);let hsub:∀b∈wr,b∈S::wr:=λb hb=>zj _ hb;intro k
 induction k with
 | zero=>
  intro i s hk hi hst hS hR;let hin:i=n:=()
  subst hin;rw[hn,zI] at hS;refine xx F.entry_set_update_loop ?_;rw[Around.under_plainId F.plain_set_update_loop _];show wpAny _ A.in1 (pyNext (.ref I) >>= _) _ _ s;refine yg (W.done s _ _ hst λs' hm=>?_);let⟨o,es,ep,t,ho,rest⟩:=hS;exact yi (hR s' (hm.mono hsub) {o,es,ep,t,hm.heap S _ hSw ho,rest})
 | succ k ih=>
  intro i s hk hi hst hS hR;let hlt:i<n:=()
  refine xx F.entry_set_update_loop ?_;rw[Around.under_plainId F.plain_set_update_loop _];show wpAny _ A.in1 (pyNext (.ref I) >>= _) _ _ s;refine yg (W.item i s _ _ hlt hst λv s' hP hst' hm=>?_);let⟨z,t,hz,rfl⟩:=hval i v hP;let⟨o,es,ep,tb,ho,rest⟩:=hS;let hS':s'.heap.SetOf (PySem.strKind prog w) S (λx=>decide (x∈dW (zs.take i))) ⇑(dW (zs.take i)):={o,es,ep,tb,hm.heap S _ hSw ho,rest}
  show wpAny _ A.in1 (holding [Value.str z t] (setAdd S (.str z t)) >>= _) _ _ s';refine yg (xi ?_);unfold setAdd;refine xi ?_;refine yg ((PySem.strKind prog w).pyHash (k:=z) (strKind_is _ _ _ _) ?_);let hl:=(Bt (zs.take i)).1;rw[zL] at hl;refine wpAny_setAddHashed_of (knd:=PySem.strKind prog w) (s:={s' with toks:=s'.toks+1}) (strKind_is _ _ _ _) rfl hS' () λh' hsb hS2=>?_;let et:zs.take (i+1)=zs.take i++[z]:=by rw[List.take_succ,hz];rfl
  let ed:dW (zs.take (i+1))=AG (dW (zs.take i)) z:=by rw[et];unfold dW;rw[List.foldl_append];rfl
  let hSi:h'.SetOf (PySem.strKind prog w) S (λx=>decide (x∈dW (zs.take (i+1)))) ⇑(dW (zs.take (i+1))):=by
   refine SetOf_congr hS2 (λx=>?_) ?_
   ·rw[ed]
    unfold AG
    by_cases hx:z∈dW (zs.take i)
    ·rw[yC hx]
     by_cases e:x=z
     ·subst e;simp[hx]
     ·simp[e]
    ·rw[yB hx];simp[zB]
   ·rw[ed]
    unfold AG
    by_cases hx:z∈dW (zs.take i) <;> simp[hx]
  refine yi {plainId_quiet F.plain_set_update_loop _,ih (i+1) _ () hlt (W.frame _ s' _ _ hst' (xD _) λb hb o e=>?_) hSi λs'' hm'' hS''=>?_}
  ·rw[hsb.2 b (λh:b=S=>hSf (by rw[<-h];exact hb))];exact e
  ·refine hR s'' (Moved.trans W.gtrans ((hm.mono hsub).then_heap (xD _) λb o hb e=>?_) hm'') hS''
   rw[hsb.2 b (λh:b=S=>hb (by rw[h];exact zk))];exact e
variable {A:wH} {E:wC->wD->Prop} {s:wD}
def Cs {l:wJ} {items:Array wC} {zs:List Str} {Q:wC->wD->Prop} (hh:A.handled=none) (hl:IsTup s.heap l items) (hi:∀(i:Nat) (v:wC),items[i]?=some v->∃z t,zs[i]?=some z/\v=.str z t) (hn:items.size=⇑zs) (hb:items.size+1<scanBound)
  (h:∀(h':wK) (tk:Nat),h'.SetOf (PySem.strKind prog w) ↑s (λx=>decide (x∈dW zs)) ⇑(dW zs)->(∀b o,b<↑s->s.heap.get? b=some o->h'.get? b=some o)->Q (.ref ↑s) {s with heap:=h',toks:=tk}) :
  wpAny (model prog w) A (call (.type "set") [.ref l]) Q E s:=by
 let⟨c,tl,hmro⟩:=F.called_set.mro;let hmade:=F.called_set.made;let hsub:=F.called_set.sub;refine wpAny_call (codeAny_of_tree ?_);show wpAny _ _ (callAny (.type "set") _) _ _ _;refine yi {Code.quiet_builtin _ (by decide +kernel),xx F.entry_type_call ?_};rw[Around.under_plain (weight_type_call_type "set" [.ref l] []) rfl];let h1:=F.called_set.notType;let h2:=F.called_set.canCreate;let hct:=F.typeCall_set_1 (.ref l)
 repeat (any_goals (first | assumption | wp_step))
 letI fresh:Bool->Obj:=λled=>{cls:=.type "set",dict:=none,data:=.set #[] 0 (.fresh 0 0 led)}
 refine xt (code_set_new_1 (.ref l) (E:=E) (Q₁:=λobj s₁=>∃led:Bool,obj=.ref ↑s/\s₁={s with heap:=s.heap.push (fresh led)}) λled=>{(led),rfl,rfl}) λr s₁ hr=>?_;cases r with
 | error e=>exact hr
 | ok fl=>
  cases fl with
  | next=>exact hr.elim
  | brk=>exact hr.elim
  | cont=>exact hr.elim
  | ret obj=>
   let⟨led,rfl,rfl⟩:=hr;let hS:(s.heap.push (fresh led)).get? ↑s=some (fresh led):=yj _ rfl;let hT:Shared.TypeIs {s with heap:=s.heap.push (fresh led)} (.ref ↑s) "set":={_,hS,rfl}
   let hli:=F.called_set.init.lookup;let hbi:=F.called_set.init.bind (.ref ↑s)
   repeat (any_goals (first | assumption | wp_step))
   refine xt (codeAny_call_builtin (R:=wants (λr s₂=>r=.none/\∃h' tk,s₂={s with heap:=h',toks:=tk}/\h'.SetOf (PySem.strKind prog w) ↑s (λx=>decide (x∈dW zs)) ⇑(dW zs)/\
     (∀b o,b<↑s->s.heap.get? b=some o->h'.get? b=some o)) E) F.called_set.init.plain F.entry_set_init (check_set_init_1 hT ?_)) λr₂ s₂ hr₂=>?_
   ·let⟨⟨ocls,odict,odata,oslots⟩,hol,hcl,nl,hdl⟩:=hl
    simp only at hcl hdl;subst hcl hdl;let hol':(s.heap.push (fresh led)).get? l=some {cls:=.type "tuple",dict:=odict,data:=.seq items nl,slots:=oslots}:=yh _ hol;let hsls:=sub_tuple_set;let hslf:=sub_tuple_frozenset;let hne:(Value.type "tuple"== Value.type "dict")=false:=by decide
    let hl1:(s.heap.push (fresh led)).IsTuple l items:={_,hol',rfl,nl,rfl}
    unfold Builtin.«set.__init__» noKeywords Builtin.Frozenset.updateFrom;generalize hPI:pyIter=PI;wp_walk;subst hPI;refine wpAny_pyIter_tuple hl1 ?_;refine yg (wpAny_runValue ?_);let hlS:l<↑s:=yk hol;let hh3:A.in1.in1.in1.handled=none:=by simp[hh]
    let hz:(s.heap.push (fresh led)).objs.size=↑s+1:=yW ..;let hSf:↑s∉[(s.heap.push (fresh led)).objs.size,l]:=by
     rw[hz];simp only[zw,zy,yI,not_or];exact{zZ (xp _),zY hlS}
    refine Gp ((Walks.tuple hh3 _ l (by rw[hz];exact zZ (x6 hlS)) items).toS) ↑s hSf zs hn hi hb (items.size-0) 0 _ () (zW _)
     {{_,yj _ rfl,rfl,rfl},(hl1.push _)} ?hS0 ?hR
    case hS0=>
     exact SetOf_congr ((setObjOf_fresh (knd:=PySem.strKind prog w) led).setOf (yh _ hS) (by unfold scanBound;ext)) (λ_=>rfl) rfl
    case hR=>
     intro s' hm hS';let⟨h',g',d',tk',os'⟩:=s';let eg:g'=s.gens:=hm.gens;let ed:d'=s.drawn:=hm.drawn;let eo:os'=s.os:=hm.os;subst eg ed eo;refine yi (yi {rfl,h',tk',rfl,hS',λb o hb e=>?_});refine hm.heap b o ?_ (yh _ (yh _ e));simp only[zw,zy,yI,not_or];exact{zZ hb,by rw[hz];exact zZ (x6 hb)}
   ·cases r₂ with
    | error e=>exact hr₂
    | ok fl₂=>
     cases fl₂ with
     | next=>exact hr₂.elim
     | brk=>exact hr₂.elim
     | cont=>exact hr₂.elim
     | ret r=>
      let⟨rfl,h',tk,rfl,hS',hk'⟩:=hr₂
      repeat (any_goals (first | assumption | wp_step))
      exact h _ _ hS' hk'
end
def B2 (a:wJ) (n:Nat):HO:=.ext λh=>∃o es ep t,h.get? a=some o/\o.ExactSet/\o.data=.set es ep t/\t.fits es.size=true/\es.size=n
section
variable {X:Cx}
def Fz (hc:X.calm=true):b9 X (.type "set") (λxs H Q=>∃(a:wJ) (zs:List Str),xs=[.ref a]/\cQ X.K H a (zs.map V.str)/\⇑zs<=1000/\∀p,H p=none->Q (.ref p) (upd H p (B2 p ⇑(dW zs)))):=by
 intro pins s U H xs us Q I r h;let⟨a,zs,rfl,hq,hz,q⟩:=h;let⟨u,rfl,rx⟩:=vals1 r;cases rx;let⟨its,rv,p,_⟩:=I.tuple hq;let hl:⇑zs=⇑its:=by have:=⇑rv;rw[za] at this;exact this
 refine Cs (zs:=zs) (I.ok.hd hc) p (λi v hv=>?_) (by rw[zR,hl]) (by rw[zR];unfold scanBound;ext) λh' tk hS hk=>?_
 ·let hv':its[i]?=some v:=by simpa using hv
  let hi:i<⇑its:=(zr.mp hv').1;let⟨z,t,e1,e2⟩:=Gj rv hi;have:=(zr.mp hv').2;exact{z,t,e1,by rw[<-this,e2]}
 ·let⟨o,es,ep,t,ho,hex,hd,hel,hmem,hb,hf,hn⟩:=hS
  refine{.ref _,_,I.laid (t':=tk) (a:=↑s) (o:=B2 ↑s ⇑(dW zs)) (λb ob e=>hk b ob (yk e) e) (zh _) ?_,rfl,q _ (I.aP.fresh (zh _))};exact{{(o),es,ep,t,ho,hex,hd,hf,hn},{(o),ho},λh1 h2 ⟨o,es,ep,t,e1,r⟩ kk=>{o,es,ep,t,kk o e1,r}}
def FA:b9 X (.builtin "len") (λxs H Q=>∃(p:wJ) (n:Nat),xs=[.ref p]/\H p=some (B2 p n)/\n<=1000/\Q (.int n) H):=by
 intro pins s U H xs us Q I r h;let⟨p,n,rfl,hp,hn,q⟩:=h;let⟨u,rfl,rx⟩:=vals1 r;cases rx;let⟨⟨o,es,ep,t,ho,hex,hd,hf,rfl⟩,_⟩:=(show aT X.prog X.w H s.heap p (B2 p n) from I.aP p _ hp)
 exact call_len_set ho hex hd hf () {.int _,H,I.tok _,{_,rfl},q}
end
def J1:V->Bool
 | .aO=>true
 | .int _=>true
 | .str _=>true
 | _=>false
def AI (h:J1 x=true):jC x=true:=by cases x <;> first | rfl | cases h
def K1 {x y:V} (a:J1 x=true) (b:J1 y=true):Fm x y=decide (x=y):=by
 cases x <;> first | cases a;done | skip
 all_goals (cases y <;> first | rfl | exact vE.symm | exact vC.symm | cases b)
def O9 (K:yo) (H:Hp) (a b:wJ) (xs ys:List V):Prop:=(aE K H a xs/\aE K H b ys)\/(cQ K H a xs/\cQ K H b ys)
def OZ (xs ys:List V):Prop:=xs=[]\/ys=[]\/(xs.all J1=true/\ys.all J1=true)
inductive OC (K:yo) (x y:V) (H:Hp) (Q:VK):Prop
 | mk (a b:wJ) (xs ys:List V) (_:x=.ref a) (_:y=.ref b) (_:O9 K H a b xs ys) (_:OZ xs ys) (_:Q (.bl (decide (xs=ys))) H)
inductive Oz (K:yo) (x y:V) (H:Hp) (Q:VK):Prop
 | mk (a b:wJ) (xs ys:List V) (_:x=.ref a) (_:y=.ref b) (_:O9 K H a b xs ys) (_:OZ xs ys) (_:Q (.bl (!decide (xs=ys))) H)
def DQ (r:Vals xs its) (h:j<⇑its):∃x,xs[j]?=some x/\RelV x its[j]:=by
 let hl:=⇑r;let⟨u,hu,ru⟩:=r.get (i:=j) (x:=xs[j]'()) (zb ());rw[zb h] at hu;cases hu;exact{_,zb (),ru}
section
variable {X:Cx}
def vy (r:Vals xs its) (r':Vals ys jts) (p:OZ xs ys):∀j (h1:j<its.toArray.size) (h2:j<jts.toArray.size),SeqAt.EqAt A s its.toArray[j] jts.toArray[j] (decide (xs[j]?=ys[j]?)):=by
 intro j h1 h2;let h1':j<⇑its:=by simpa using h1
 let h2':j<⇑jts:=by simpa using h2
 let⟨x,ex,rx⟩:=DQ r h1';let⟨y,ey,ry⟩:=DQ r' h2';let l1:=⇑r;let l2:=⇑r';let hp:J1 x=true/\J1 y=true:=by
  rcases p with e | e | ⟨q1,q2⟩
  ·rw[e] at ex;simp at ex
  ·rw[e] at ey;simp at ey
  ·exact{yc.mp q1 x (zv ex),yc.mp q2 y (zv ey)}
 let g1:its.toArray[j]=its[j]:=by simp
 let g2:jts.toArray[j]=jts[j]:=by simp
 let z:=HD (A:=A) (s:=s) rx ry (AI hp.1) (AI hp.2);rw[K1 hp.1 hp.2] at z;let e:decide (xs[j]?=ys[j]?)=decide (x=y):=by rw[ex,ey,xm];simp
 rw[g1,g2,e];exact z
def all_eq {xs ys:List V} (h:⇑xs=⇑ys):((List.range ⇑xs).all λj=>decide (xs[j]?=ys[j]?))=decide (xs=ys):=by
 rw[xm,yc,decide_eq_true_eq];constructor
 ·intro hh
  refine List.ext_getElem? λj=>?_;rcases xh j ⇑xs with hj | hj
  ·exact zU (hh j (yF.mpr hj))
  ·rw[x9 hj,x9 ()]
 ·intro hh j _
  rw[hh];exact zd rfl
def vh {xs ys:List V} (h:⇑xs≠⇑ys):decide (xs=ys)=false:=zc λe=>h (by rw[e])
def K3 (hu:X.A.units+64<cLine):mV X (compareOp .Eq) (OC X.K):=by
 intro pins s U H x y v u Q I rx ry h;let⟨a,b,xs,ys,rfl,rfl,hs,pl,q⟩:=h;cases rx;cases ry;rcases hs with⟨ha,hb⟩ | ⟨ha,hb⟩
 ·let⟨its,r,p,_⟩:=I.list ha
  let⟨jts,r',p',_⟩:=I.list hb;let l1:=⇑r;let l2:=⇑r'
  by_cases hl:⇑xs=⇑ys
  ·let z:=SeqAt.RcAt.lists (A:=X.A) (s:=s) p.isList p'.isList (by rw[zR,zR];ext) () (vy r r' pl)
   rw[zR,<-l1,all_eq hl] at z;exact z _ _ _ _ {.bl _,H,I,rfl,q}
  ·let z:=SeqAt.RcAt.lists_lengths (A:=X.A) (s:=s) p.isList p'.isList (by rw[zR,zR];simp;ext) ()
   rw[vh hl] at q;exact z _ _ _ _ {.bl false,H,I,rfl,q}
 ·let⟨its,r,p,_⟩:=I.tuple ha
  let⟨jts,r',p',_⟩:=I.tuple hb;let l1:=⇑r;let l2:=⇑r';let z:=SeqAt.RcAt.tuples (A:=X.A) (s:=s) p p' () (vy r r' pl);rw[zR,zR,<-l1,<-l2] at z
  by_cases hl:⇑xs=⇑ys
  ·let em:min ⇑xs ⇑ys=⇑xs:=()
   rw[em,all_eq hl,hl,xI,Bool.and_true] at z;exact z _ _ _ _ {.bl _,H,I,rfl,q}
  ·rw[show(⇑xs == ⇑ys)=false by simpa using hl,xY] at z
   rw[vh hl] at q;exact z _ _ _ _ {.bl false,H,I,rfl,q}
def GU (hu:X.A.units+64<cLine):mV X (compareOp .NotEq) (Oz X.K):=by
 intro pins s U H x y v u Q I rx ry h;let⟨a,b,xs,ys,rfl,rfl,hs,pl,q⟩:=h;cases rx;cases ry;rcases hs with⟨ha,hb⟩ | ⟨ha,hb⟩
 ·let⟨its,r,p,_⟩:=I.list ha
  let⟨jts,r',p',_⟩:=I.list hb;let l1:=⇑r;let l2:=⇑r'
  by_cases hl:⇑xs=⇑ys
  ·let z:=SeqAt.RcNeAt.lists (A:=X.A) (s:=s) p.isList p'.isList (by rw[zR,zR];ext) () (vy r r' pl)
   rw[zR,<-l1,all_eq hl] at z;exact z _ _ _ _ {.bl _,H,I,rfl,q}
  ·let z:=SeqAt.RcNeAt.lists_lengths (A:=X.A) (s:=s) p.isList p'.isList (by rw[zR,zR];simp;ext) ()
   rw[vh hl] at q;exact z _ _ _ _ {.bl true,H,I,rfl,q}
 ·let⟨its,r,p,_⟩:=I.tuple ha
  let⟨jts,r',p',_⟩:=I.tuple hb;let l1:=⇑r;let l2:=⇑r';let z:=SeqAt.RcNeAt.tuples (A:=X.A) (s:=s) p p' () (vy r r' pl);rw[zR,zR,<-l1,<-l2] at z
  by_cases hl:⇑xs=⇑ys
  ·let em:min ⇑xs ⇑ys=⇑xs:=()
   rw[em,all_eq hl,hl,xI,Bool.and_true] at z;exact z _ _ _ _ {.bl _,H,I,rfl,q}
  ·rw[show(⇑xs == ⇑ys)=false by simpa using hl,xY] at z
   rw[vh hl] at q;exact z _ _ _ _ {.bl true,H,I,rfl,q}
def JZ (K:yo):V->Option Int->Option Int->Hp->VK->Prop:=λx lo hi H Q=>∃a xs,x=.ref a/\cQ K H a xs/\(HT.cO ⇑xs 0 lo=0/\HT.cO ⇑xs ⇑xs hi=⇑xs)/\Q (.ref a) H
def IE:HW X (JZ X.K):=by
 intro pins s U H x v vl vu lo hi sl Q I rx hs pl pu h;let⟨a,xs,rfl,hx,hw,q⟩:=h;cases rx;let⟨its,r,ht,hz⟩:=I.tuple hx;let hlen:its.toArray.size=⇑xs:=by rw[zR];exact r.length.symm
 refine{"tuple",_,xo.lookup,ht.typeIs,?_};rw[<-hlen] at hw;let⟨os,hos,hcs,hds⟩:=id hs;let hTs:s.TypeIs (.ref sl) "slice":={(os),hos,hcs}
 unfold getItem
 try with_reducible refine xi ?_
 first | refine yg (yi ?_) | skip
 refine yg (wpAny_sequenceKey ht.typeIs ∅ ?_);refine yg (yM (name:=Str.ofString "__getitem__") ht.typeIs xo
  (yQ xo ht.typeIs entry_tuple_getitem ?_ (args_tuple_getitem _ _)))
 show wpAny _ _ (Builtin.Tuple.tupleItemsOf (.ref a) >>= _) _ _ s;refine yg (tupleItemsOf_ ht ?_);refine yg (wq hTs ?_);rw[yC ∅];refine yg (HT.gM hs pl pu ?_);show wpAny _ _ (if(((HT.cO its.toArray.size 0 lo:Nat):Int) == 0&&(1:Int) == 1&&(HT.cO its.toArray.size its.toArray.size hi-HT.cO its.toArray.size 0 lo) == its.toArray.size)=true then _ else _) _ _ s;rw[yC (by rw[hw.1,hw.2];simp)];unfold Builtin.Tuple.tupleIsExact;refine yg ?_
 repeat (any_goals (first | assumption | exact⟨_,rfl,yi ⟨.ref a,H,I,rfl,q⟩⟩ | refine yg (wq ht.typeIs ?_) | wp_step))
def J0 (K:yo):V->Option Int->Option Int->Hp->VK->Prop:=λx lo hi H Q=>MF K x lo hi H Q\/JZ K x lo hi H Q
def IF:HW X (J0 X.K):=HW.or KL IE
def AF (K:yo):V->List V->Hp->VK->Prop:=λx vs H Q=>∃l b xs zs,x=.ref l/\vs=[.ref b]/\H l=some (.lst xs)/\H b=some (.tup zs)/\⇑xs+⇑zs<=sizeLine/\Q .aO (upd H l (.lst (xs++zs)))
def GG (K:yo):V->List V->Hp->VK->Prop:=λx vs H Q=>D7 x vs H Q\/AF K x vs H Q
def CT:LO X "list.extend" (AF X.K):=by
 intro pins s U H x vs v us Q I rx rv h;let⟨l,b,xs,zs,rfl,rfl,hH,hB,hz,q⟩:=h;cases rx;let⟨u,rfl,ru⟩:=rv.one;cases ru;let⟨z,its,n,r,hl,e⟩:=I.Jh hH;let⟨_,its2,r2,⟨oc,od,oda,osl⟩,ho,hoc,n2,hod⟩:=(show aT X.prog X.w H s.heap b (.tup zs) from I.aP b _ hB)
 let l1:=⇑r;let l2:=⇑r2;let hsz:its.toArray.size+its2.toArray.size<=sizeLine:=by rw[zR,zR];ext
 let hlong:¬(!its.toArray.isEmpty&&Builtin.List.listTooLong (its.toArray.size+its2.toArray.size))=true:=by
  rw[A2 hsz,xY];exact zG
 dsimp only at hoc hod;subst hoc hod;refine yQ F.slot_list_extend {_,e,rfl} F.entry_list_extend ?_ (F.args_list_extend_2 _ _);show wpAny _ _ (Builtin.List.listExtendWith (.ref l) (.ref b) .none) _ _ s;unfold Builtin.List.listExtendWith;refine yg (wq (T:="tuple") {_,ho,rfl} ?_);let ht:(Value.type "tuple"== Value.type "tuple")=true:=by rfl
 rw[yC (by rw[ht];simp)];refine yg (listItems_at ho rfl ?_);refine yg (listItems_at e rfl ?_);rw[yB hlong];refine yg (listUpdate_at e rfl ?_ (by rw[zR];ext) (by show(its.toArray++its2.toArray).size<=sizeLine+1;rw[Array.size_append];ext));refine yi {_,rfl,?_};refine{.aO,_,I.K8 (its':=its++its2) hH e (by simp) (r.append r2) ?_,rfl,q};rw[ze];ext
def CU:LO X "list.extend" (GG X.K):=by
 intro pins s U H x vs v us Q I rx rv h;rcases h with h | h
 ·exact E9 pins s U H x vs v us Q I rx rv h
 ·exact CT pins s U H x vs v us Q I rx rv h
def qy:b9 X (.builtin "len") (λxs H Q=>∃p kvs,xs=[.ref p]/\H p=some (.dK kvs)/\Q (.int (⇑kvs:Nat)) H):=by
 intro pins s U H xs us Q I r h;let⟨p,kvs,rfl,hp,q⟩:=h;let⟨u,rfl,rx⟩:=vals1 r;cases rx;exact Np I (.inl hp) λt s' I'=>{.int _,H,I',{_,rfl},q}
end
abbrev OE (K:yo):List V->Hp->VK->Prop:=λxs H Q=>∃p ys,xs=[.ref p]/\(aE K H p ys\/cQ K H p ys)/\Q (.int ⇑ys) H
def EY (lo:Int) (n:Nat):List Int:=(List.range n).map λi=>lo+(i:Nat)
def Kx (ta:TA):TE:=λU H Q=>ta U H λvs H1=>∃i j:Int,vs=[.int i,.int j]/\(-(2^62)<=i/\i<2^62/\-(2^62)<=j/\j<2^62)/\(j-i).toNat<=1000000/\∀l,H1 l=none->Q (.ref l) (upd H1 l (.lst ((EY i (j-i).toNat).map V.int)))
theorem DP:∀{xs:List V} {us:List wC},⇑xs=⇑us->(∀(i:Nat) (x:V) (u:wC),xs[i]?=some x->us[i]?=some u->RelV x u)->Vals xs us
 | [],[],_,_=>.nil
 | x::xs,u::us,h,k=>.cons (k 0 x u rfl rfl) (DP (by simpa using h) λi y v e e'=>k (i+1) y v (by simpa using e) (by simpa using e'))
 | [],_::_,h,_=>by simp at h
 | _::_,[],h,_=>by simp at h
section
variable {X:Cx}
def GP (hc:X.calm=true) (hg0:Gl X "list") (hm0:X.mg "list"= none) (hg:Gl X "range") (hm:X.mg "range"= none) (ha:PA X [a,b] ta)
  (hs:starEach [a,b] X.env=[(false,eval a X.env),(false,eval b X.env)]<|>qe_) (hs2:starEach [b] X.env=[(false,eval b X.env)]<|>qe_)
  (hs1:starEach [.Call (.Name "range" p2) [a,b] [] pos2] X.env=[(false,eval (.Call (.Name "range" p2) [a,b] [] pos2) X.env)]<|>qe_) :
  PE X (.Call (.Name "list" p1) [.Call (.Name "range" p2) [a,b] [] pos2] [] pos1) (Kx ta):=by
 intro pins s U H Q I h;refine y0 (jw I hg0 hm0 (by decide +kernel:bootBuiltins "list"= some (.type "list")) ?_ ∅ ∅);refine yA (Q:=_) ?_ hs1 rfl;rw[hs1];refine xU ?_;refine Call_ (jw I hg hm boot_range (yA (bR (ha pos2 pins s U H _ I h) λus s1 ⟨vs,H1,I1,r1,q1⟩=>?_) (by rw[hs,hs2]) (by rw[hs2];rfl)));let⟨i,j,e,⟨q1,q2,q3,q4⟩,hz,q⟩:=q1;subst e;cases r1 with
 | cons r rr=>
  cases rr with
  | cons r' rr=>
   cases rr;let⟨t,rfl⟩:=r;let⟨t',rfl⟩:=r';refine call_range_2 ?_;refine wA ?_;let I2:Inv X pins U H1 {s1 with heap:=s1.heap.push {cls:=.type "range",data:=.fields #[.int i t,.int j t',.int 1 s1.toks]},toks:=s1.toks+1}:=I1.kept λb o e=>yh _ e;let hn:Builtin.Range.rangeSize i j 1=(((j-i).toNat:Nat):Int):=by rw[rangeSize_one];split <;> ext
   refine call_list_range (I2.ok.hd hc) (IsRange.new ..) (small_one q1 q2 q3 q4) hn (zH hz ∅) λh' tk acc c hk hS hit=>?_;let rv:Vals ((EY i (j-i).toNat).map V.int) acc.toList:=by
    refine DP ?_ ?_
    ·let e1:⇑acc.toList=(j-i).toNat:=by rw[yE];exact hit.1
     rw[za,e1];unfold EY;simp
    ·intro k x u hx hu
     rw[yV] at hu;let⟨tk',rfl⟩:=hit.2 k u hu;let hk':k<(j-i).toNat:=by
      have:=(Array.getElem?_eq_some_iff.mp hu).1;rw[hit.1] at this;exact this
     unfold EY at hx;rw[zu,zF,List.getElem?_range hk'] at hx;cases hx;exact{tk',by simp}
   let hl:H1 (s1.heap.push {cls:=.type "range",data:=.fields #[.int i t,.int j t',.int 1 s1.toks]}).objs.size=none:=I2.aP.fresh (zh _);refine{.ref _,_,I2.laid (t':=tk) hk (zh _) (show aT X.prog X.w _ h' _ (.lst ((EY i (j-i).toNat).map V.int)) from{?_,acc.toList,c,rv,?_}),rfl,q _ hl}
   ·rw[za]
    let sl:=yp;unfold EY;simp;ext
   ·simpa using hS
end
section
variable {prog:wF} {w:wG} {A:wH} {E:wC->wD->Prop} {s:wD}
end
section
variable {X:Cx} {pins:List (wJ×Obj)} {U:St}
end
end L2
namespace Sc
open PySem L2 Lm
noncomputable def mixed (c k:Int):Int:=(c%2305843009213693951+1)*(k*k+48271)*40692%2147483399
def dr (h0:0<=i) (h1:i<2^n):Sz n i:=by
 unfold Sz;let e:((2^n:Nat):Int)=(2:Int)^n:=by simp
 rw[<-e] at h1;ext
def Lr (h1:48<=c) (h2:c<=57):c∈("0123456789": Str).cps.toList:=by
 have:c=48\/c=49\/c=50\/c=51\/c=52\/c=53\/c=54\/c=55\/c=56\/c=57:=()
 rcases this with rfl | rfl | rfl | rfl | rfl | rfl | rfl | rfl | rfl | rfl <;> decide
noncomputable def ik (x:Int×Int):Str:=if x.2=1 then dec x.1 else dec x.1 ++"/" ++ dec x.2
abbrev Item:=Option (Int×Int)×(Int×Int)
noncomputable def vn:Item->Str
 | (none,x)=> "r:" ++ ik x
 | (some q,x)=>dec q.1 ++":" ++ dec q.2 ++":" ++ ik x
def LP (x:Int×Int):Prop:=Rd x/\0<x.1/\x.1<10000/\x.2<10000
def LL (q:Int×Int):Prop:=-100<q.1/\q.1<100/\-100<q.2/\q.2<100/\(q.2-7*q.1)%12=0
def Ny (it:Item):Prop:=LP it.2/\∀q,it.1=some q->LL q
def dC (h1:c≠45) (h2:¬(48<=c/\c<=57)):c∉(dec n).cps.toList:=by
 intro z
 by_cases h0:0<=n
 ·let⟨m,rfl⟩:=yz h0
  exact h2 (dX z)
 ·obtain⟨m,em⟩:∃m:Nat,-n=(m:Int):={(-n).toNat,()}
  rw[oq (),em,bK] at z;rcases zB.mp z with z | z
  ·let e:("-": Str).cps.toList=[45]:=rfl
   rw[e] at z;exact h1 (zt.mp z)
  ·exact h2 (dX z)
def tq (h:LP x):58∉(ik x).cps.toList:=by
 unfold ik;split
 ·exact dC ∅ ∅
 ·rw[bK,bK]
  intro z;rcases zB.mp z with z | z
  ·rcases zB.mp z with z | z
   ·exact dC ∅ ∅ z
   ·let e:("/": Str).cps.toList=[47]:=rfl
    rw[e] at z;exact absurd (zt.mp z) ∅
  ·exact dC ∅ ∅ z
def Bv (h0:0<=n) (h:n<10000):⇑(dec n)<=4:=by
 let⟨m,rfl⟩:=yz h0;exact tO ∅ ()
abbrev l6 (x:Int×Int):HO:=.tup [.int x.1,.int x.2]
inductive DK (H:Hp):V->Option (Int×Int)->Prop where
 | aO:DK H .aO none
 | ref {b:wJ} {q:Int×Int}:H b=some (l6 q)->DK H (.ref b) (some q)
def DK.mono (s:au H H') (h:DK H v o):DK H' v o:=by
 cases h with
 | aO=>exact .aO
 | ref h=>exact .ref (s _ _ h)
def O1 (H:Hp) (v:V) (it:Item):Prop:=∃p pv a,v=.ref p/\H p=some (.tup [pv,.ref a])/\H a=some (l6 it.2)/\DK H pv it.1
noncomputable def nW:List Nat:=("0123456789": Str).cps.toList
noncomputable def rn (most:Int) (cs:List Nat):Option Int:=
 if(⇑cs:Int)<1 then none else if most<⇑cs then none else if cs.all (λc=>decide (c∈nW))=true then(if cs[0]?=some 48/\1<⇑cs then none else some ((NumText.digitsVal cs:Nat):Int)) else none
noncomputable def ov:Option Int->V
 | none=>.aO
 | some n=>.int n
noncomputable def rs (most:Int) (t:Str):Option Int:=if t.cps.toList[0]?=some 45 then(match rn most (t.cps.toList.drop 1) with | some n=>if n=0 then none else some (-n) | none=>none) else rn most t.cps.toList
noncomputable def rp (a b:Str):Option (Int×Int):=match rs 2 a,rs 2 b with
 | some f,some h=>if(h-7*f)%12=0 then some (f,h) else none
 | _,_=>none
noncomputable def Ie (t:Str):Option (Int×Int):=match Txt.split t "/" with
 | [a]=>(match rn 4 a.cps.toList with | some n=>some (red n 1) | none=>none)
 | [a,b]=>(match rn 4 a.cps.toList,rn 4 b.cps.toList with | some n,some m=>if m=0 then none else some (red n m) | _,_=>none)
 | _=>none
noncomputable def lr (t:Str):Option (Int×Int):=match Ie t with
 | some x=>if x.1=0 then none else some x
 | none=>none
noncomputable def ir (t:Str):Option Item:=match lr ((Txt.split t ":").getLast?.getD "") with
 | none=>none
 | some x=>if(Txt.split t ":").dropLast=[("r": Str)] then some (none,x) else match (Txt.split t ":").dropLast with
  | [a,b]=>(match rp a b with | some q=>some (some q,x) | none=>none)
  | _=>none
def JP (H:Hp) (v:V):Option Item->Prop
 | none=>v=.aO
 | some it=>O1 H v it
def Bm (h:c∈nW):48<=c/\c<=57:=by
 let e:nW=[48,49,50,51,52,53,54,55,56,57]:=rfl;rw[e] at h;simp at h;ext
def Gv (h:rn most cs=some n) (hm:most<=4):0<=n/\n<10000/\(cs.all (λc=>decide (c∈nW))=true):=by
 unfold rn at h;split at h
 ·cases h
 ·split at h
  ·cases h
  ·split at h
   ·rename_i h1 h2 h3
    split at h
    ·cases h
    ·cases h
     refine{Int.natCast_nonneg _,?_,h3};let hl:⇑cs<=4:=()
     let key:∀(l:List Nat) (a:Nat),l.all (λc=>decide (c∈nW))=true->l.foldl (λacc c=>acc*10+(c-48)) a<(a+1)*10^⇑l:=by
      intro l
      induction l with
      | nil=>intro a _;simp
      | cons c l ih=>
       intro a ha;rw[wd,zJ] at ha;let i3:=Bm (zU ha.1);let i1:=ih (a*10+(c-48)) ha.2;let i2:(a*10+(c-48)+1)*10^⇑l<=((a+1)*10)*10^⇑l:=Nat.mul_le_mul_right _ ();rw[List.foldl_cons,zo,Nat.pow_succ,Nat.mul_comm (10^⇑l) 10,<-Nat.mul_assoc];exact zS i1 i2
     let k1:NumText.digitsVal cs<10^⇑cs:=by have:=key cs 0 h3;rw[Nat.zero_add,Nat.one_mul] at this;exact this
     let k2:10^⇑cs<=10^4:=Nat.pow_le_pow_right ∅ hl;ext
   ·cases h
def Dv (h:cs.all (λc=>decide (c∈nW))=true):NumText.AllDigits cs:=λc hc=>by
 have:=(yc.mp h) c hc;exact Bm (zU this)
inductive gf (vs:List V) (H:Hp) (Q:VK) (E:XK):Prop
 | mk (a b:Int) (_:vs=[.int a,.int b]) (_:0<=a) (_:0<=b) (_:Q (.int (Int.gcd a b:Nat)) H)
inductive fH (vs:List V) (H:Hp) (Q:VK) (E:XK):Prop
 | mk (t b:Int) (_:vs=[.int t,.int b]) (_:0<=t) (_:0<b) (_:Sz 8999 b) (_:∀p H',au H H'->H' p=some (l6 (red t b))->Q (.ref p) H')
inductive Gn (vs:List V) (H:Hp) (Q:VK) (E:XK):Prop
 | mk (x y:Int×Int) (p q:wJ) (n m:Nat) (_:vs=[.ref p,.ref q]) (_:H p=some (l6 x)) (_:H q=some (l6 y)) (_:Rd x) (_:Rd y) (_:tW n x) (_:tW m y) (_:n+m<=8999) (_:∀r H',au H H'->H' r=some (l6 (add x y))->Q (.ref r) H')
inductive Cm (vs:List V) (H:Hp) (Q:VK) (E:XK):Prop
 | mk (x y:Int×Int) (p q:wJ) (_:vs=[.ref p,.ref q]) (_:H p=some (l6 x)) (_:H q=some (l6 y)) (_:tW 8999 x) (_:tW 8999 y) (_:Q (.bl (decide (x.1*y.2<y.1*x.2))) H)
inductive qY (vs:List V) (H:Hp) (Q:VK) (E:XK):Prop
 | mk (c k:Int) (_:vs=[.int c,.int k]) (_:0<=k) (_:k<1000000) (_:Q (.int (mixed c k)) H)
inductive eM (vs:List V) (H:Hp) (Q:VK) (E:XK):Prop
 | mk (t:Str) (most:Int) (_:vs=[.str t,.int most]) (_:⇑t<=600) (_:∀H',au H H'->Q (ov (rn most t.cps.toList)) H')
inductive iH (vs:List V) (H:Hp) (Q:VK) (E:XK):Prop
 | mk (t:Str) (most:Int) (_:vs=[.str t,.int most]) (_:⇑t<=600) (_:∀H',au H H'->Q (ov (rs most t)) H')
inductive je (vs:List V) (H:Hp) (Q:VK) (E:XK):Prop
 | mk (a b:Str) (_:vs=[.str a,.str b]) (_:⇑a<=600) (_:⇑b<=600) (_:∀v H',au H H'->DK H' v (rp a b)->Q v H')
def iG (C:wJ):Sp:=λvs H Q E=>∃(t:Str),vs=[.str t]/\⇑t<=600/\(∀x,Ie t=some x->∀p H',au H H'->H' p=some (l6 x)->Q (.ref p) H')/\(Ie t=none->∀H',au H H'->E (.ref C) none H')
def eI:Sp:=λvs H Q _=>∃(t:Str),vs=[.str t]/\⇑t<=600/\∀v H',au H H'->DK H' v (lr t)->Q v H'
def j8:Sp:=λvs H Q _=>∃(t:Str),vs=[.str t]/\⇑t<=600/\∀v H',au H H'->JP H' v (ir t)->Q v H'
noncomputable def dL (x:Int×Int):Dt:=.tup [.int x.1,.int x.2]
noncomputable def dO (f:α->Dt):Option α->Dt
 | none=>.aO
 | some x=>f x
noncomputable def fT (it:Item):Dt:=.tup [dO dL it.1,dL it.2]
noncomputable def Em (l:List Int):Dt:=.tup (l.map .int)
noncomputable def kf (l:List Str):Dt:=.tup (l.map .str)
abbrev End:=Int×List Int
noncomputable def qu (e:End):Dt:=.tup [.int e.1,Em e.2]
structure Rep where
 first:Int
 last:Int
 times:Int
 ends:List End
noncomputable def j6 (r:Rep):Dt:=.tup [.int r.first,.int r.last,.int r.times,.tup (r.ends.map qu)]
structure FY where
 bM:Int×Int
 key:Int
 marks:List Str
noncomputable def qv (b:FY):Dt:=.tup [dL b.bM,.int b.key,kf b.marks]
structure Jump where
 Bd:Int
 CZ:Int
 df:Int
 kP:Option Int
noncomputable def kg (j:Jump):Dt:=.tup [.int j.Bd,.int j.CZ,.int j.df,dO .int j.kP]
noncomputable def words (t:Str):List Str:=(Txt.split t " ").filter λw=>decide (w≠ "")
noncomputable def sgn:List Nat:=("abcdefghijklmnopqrstuvwxyz0123456789": Str).cps.toList
noncomputable def bo (t:Str):Option Str:=if(⇑t:Int)<1 then none else if(12:Int)<⇑t then none else if t.cps.toList.all (λc=>decide (c∈sgn))=true then some t else none
noncomputable def os:Option Str->V
 | none=>.aO
 | some x=>.str x
noncomputable def dg (t:Str):Option Int:=rn 3 t.cps.toList
noncomputable def iO (t:Str) (lo hi:Int):Option Int:=match dg t with
 | some n=>if n<lo then none else if hi<n then none else some n
 | none=>none
noncomputable def pj (a b:Str):Option (Int×Int):=match rp a b with
 | some q=>if 12<(if q.1<0 then -q.1 else q.1) then none else some q
 | none=>none
noncomputable def qF:List Int:=[1,2,4,8,16,32]
noncomputable def dP (t:Str):Option (Int×Int):=match Txt.split t "/" with
 | [a,b]=>(match iO a 1 32,dg b with | some m,some n=>if n∈qF then some (m,n) else none | _,_=>none)
 | _=>none
noncomputable def uO (t:Str):Option Int:=match rs 3 t with
 | some k=>if 7<(if k<0 then -k else k) then none else some k
 | none=>none
noncomputable def i7:List (Option α)->Option (List α)
 | []=>some []
 | none::_=>none
 | some x::r=>match i7 r with
  | some l=>some (x::l)
  | none=>none
noncomputable def pq (t:Str):Option End:=match Txt.split t ":" with
 | [a,b]=>(match dg a,i7 ((Txt.split b ",").map dg) with | some n,some ps=>some (n,ps) | _,_=>none)
 | _=>none
noncomputable def hX:List Str->Option (Str×(Int×Int)×(Int×Int))
 | [a,b,c,d]=>(match bo a,pj b c,Ie d with | some n,some t,some l=>some (n,t,l) | _,_,_=>none)
 | _=>none
noncomputable def kC (ws:List Str):Option (Str×List Str):=match ws with
 | a::b::r=>(match i7 ((a::b::r).map bo) with | some (n::ps)=>some (n,ps) | _=>none)
 | _=>none
noncomputable def pE:List Str->Option FY
 | m::k::ms=>(match i7 (ms.map bo) with | some l=>(match dP m,uO k with | some x,some y=>some {(x),y,l} | _,_=>none) | none=>none)
 | _=>none
noncomputable def lE:List Str->Option (Str×Int×Str)
 | [a,b,c]=>(match bo a,dg b,bo c with | some x,some y,some z=>some (x,y,z) | _,_,_=>none)
 | _=>none
noncomputable def gB:List Str->Option (Int×Str×List Item)
 | b::p::i::r=>(match i7 ((i::r).map ir) with | some l=>if l.all (λit=>it.1.isNone)=true then none else(match dg b,bo p with | some x,some y=>some (x,y,l) | _,_=>none) | none=>none)
 | _=>none
noncomputable def gk:List Str->Option Rep
 | a::b::c::r=>(match i7 (r.map pq) with | some l=>(match dg a,dg b,iO c 2 9 with | some x,some y,some z=>some {(x),y,z,l} | _,_,_=>none) | none=>none)
 | _=>none
noncomputable def m7:List Str->Option Jump
 | [a,b,c,d]=>(match dg a,dg b,dg c with | some x,some y,some z=>(match dg d with | some n=>some {x,y,z,some n} | none=>if d ="end" then some {(x),y,z,none} else none) | _,_,_=>none)
 | _=>none
noncomputable def one (f:Str->Option α):List Str->Option α
 | [w]=>f w
 | _=>none
inductive Told where
 | aM (n:Str)
 | bB (n:Str) (t l:Int×Int)
 | bf (n:Str) (ps:List Str)
 | bar (b:FY)
 | aI (l:Int×Int)
 | holds (p:Str) (b:Int) (i:Str)
 | aF (b:Int) (p:Str) (its:List Item)
 | rep (r:Rep)
 | b3 (j:Jump)
noncomputable def d6:List Str->Option Told
 | []=>none
 | w::r=>
  if w ="player" then(one bo r).map .aM
  else if w ="instrument" then(hX r).map λx=>.bB x.1 x.2.1 x.2.2
  else if w ="staff" then(kC r).map λx=>.bf x.1 x.2
  else if w ="bar" then(pE r).map .bar
  else if w ="upbeat" then(one lr r).map .aI
  else if w ="holds" then(lE r).map λx=>.holds x.1 x.2.1 x.2.2
  else if w ="notes" then(gB r).map λx=>.aF x.1 x.2.1 x.2.2
  else if w ="repeat" then(gk r).map .rep
  else if w ="jump" then(m7 r).map .b3
  else none
noncomputable def gI (r:Rep):List (Int×Int×List Int):=(r.ends.zip ((r.ends.drop 1).map (·.1)++[r.last+1])).map λp=>(p.1.1,p.2-1,p.1.2)
noncomputable def sortI (l:List Int):List Int:=l.mergeSort
noncomputable def fS:List End->Int->List Int->Option (Int×List Int)
 | [],a,ps=>some (a,ps)
 | e::r,a,ps=>if e.1<=a then none else if e.2≠sortI e.2 then none else fS r e.1 (ps++e.2)
noncomputable def KQ (lo:Int) (n:Nat):List Int:=(List.range n).map λi=>lo+(i:Nat)
noncomputable def gr (r:Rep):Bool:=match r.ends with
 | []=>true
 | _=>(match fS r.ends (r.first-1) [] with | none=>false | some (a,ps)=>decide (a<=r.last)&&decide (sortI ps=KQ 1 (r.times+1-1).toNat))
noncomputable def d5 (rs:List Rep) (r:Rep):Bool:=match rs.getLast? with
 | some q=>if r.first<=q.last then false else decide (r.first<=r.last)&&gr r
 | none=>decide (r.first<=r.last)&&gr r
noncomputable def jK (rs:List Rep) (b:Int):Option Rep:=rs.find? λr=>decide (r.first<=b)&&decide (b<=r.last)
noncomputable def gO (rs:List Rep) (b:Int):Bool:=match jK rs b with
 | none=>true
 | some r=>decide (b=r.last)
noncomputable def cX (rs:List Rep) (b:Int):Bool:=match jK rs b with
 | none=>true
 | some r=>decide (b=r.first)
noncomputable def kF (rs:List Rep) (b:Int):Bool:=rs.all λr=>(gI r).all λe=>!(decide (e.1<=b)&&decide (b<=e.2.1)&&!decide (r.times∈e.2.2))
noncomputable def lP (rs:List Rep) (j:Jump):Bool:=
 if j.df<j.CZ then false else if j.Bd<j.df then false else
 match j.kP with
 | some c=>(decide (j.Bd<c)&&cX rs c&&kF rs c)&&(gO rs j.Bd&&cX rs j.CZ&&kF rs j.df)
 | none=>gO rs j.Bd&&cX rs j.CZ&&kF rs j.df
structure bZ where
 players:List Str:=[]
 instruments:List (Str×(Int×Int)×(Int×Int)):=[]
 aG:List (Str×List Str):=[]
 bars:List FY:=[]
 aI:Option (Int×Int):=none
 holds:List (Str×List (Int×Str)):=[]
 aF:List ((Int×Str)×List Item):=[]
 repeats:List Rep:=[]
 b3:Option Jump:=none
noncomputable def bZ.bM (S:bZ) (b:Nat):Int×Int:=match S.bars[b]? with
 | some x=>red x.bM.1 x.bM.2
 | none=>(0,1)
noncomputable def bZ.len (S:bZ) (b:Nat):Int×Int:=match S.aI with
 | some u=>if b=0 then u else S.bM b
 | none=>S.bM b
noncomputable def qS (l:List Item):Int×Int:=l.foldl (λt it=>add t it.2) (0,1)
noncomputable def bZ.has (S:bZ) (bs:List Int):Bool:=bs.all λb=>decide (b<⇑S.bars)
noncomputable def fault (S:bZ):Told->Option Str
 | .aM n=>if n∈S.players then some "twice" else if 12<=⇑S.players then some "many" else none
 | .bB n _ _=>if n∈S.instruments.map (·.1) then some "twice" else if 12<=⇑S.instruments then some "many" else none
 | .bf n ps=>if n∈S.aG.map (·.1) then some "twice" else if¬ps.Nodup then some "twice" else if S.aG.any (λq=>ps.any λp=>decide (p∈q.2))=true then some "twice" else if ps.any (λp=>!decide (p∈S.players))=true then some "name" else none
 | .bar _=>if 200<=⇑S.bars then some "many" else none
 | .aI l=>if S.aI.isSome=true then some "twice" else if ⇑S.bars=0 then some "bar" else if¬l.1*(S.bM 0).2<(S.bM 0).1*l.2 then some "length" else if S.aF.any (λp=>decide (p.1.1=0))=true then some "length" else none
 | .holds p b i=>
  let hs:=(S.holds.lookup p).getD []
  if(match hs.getLast? with | some q=>decide (b<=q.1) | none=>false)=true then some "twice" else if p∉S.players then some "name" else if i∉S.instruments.map (·.1) then some "name" else if¬S.has [b]=true then some "bar" else if 20<=⇑hs then some "many" else none
 | .aF b p its=>if(b,p)∈S.aF.map (·.1) then some "twice" else if p∉S.players then some "name" else if¬S.has [b]=true then some "bar" else if qS its≠S.len b.toNat then some "length" else if 40<⇑its then some "many" else none
 | .rep r=>if¬S.has ([r.first,r.last]++r.ends.map (·.1))=true then some "bar" else if S.b3.isSome=true then some "form" else if¬d5 S.repeats r=true then some "form" else if 20<=⇑S.repeats then some "many" else none
 | .b3 j=>if S.b3.isSome=true then some "twice" else if¬S.has ([j.Bd,j.CZ,j.df]++j.kP.toList)=true then some "bar" else if¬lP S.repeats j=true then some "form" else none
noncomputable def cM (hs:List (Str×List (Int×Str))) (p:Str) (h:Int×Str):List (Str×List (Int×Str)):=
 if p∈hs.map (·.1) then hs.map λq=>if q.1=p then(q.1,q.2++[h]) else q else hs++[(p,[h])]
noncomputable def aQ (S:bZ):Told->bZ
 | .aM n=>{S with players:=S.players++[n]}
 | .bB n t l=>{S with instruments:=S.instruments++[(n,t,l)]}
 | .bf n ps=>{S with aG:=S.aG++[(n,ps)]}
 | .bar b=>{S with bars:=S.bars++[b]}
 | .aI l=>{S with aI:=some l}
 | .holds p b i=>{S with holds:=cM S.holds p (b,i)}
 | .aF b p its=>{S with aF:=S.aF++[((b,p),its)]}
 | .rep r=>{S with repeats:=S.repeats++[r]}
 | .b3 j=>{S with b3:=some j}
theorem eK (h:Is H d v):∀{ds:List Dt} {vs:List V},av H ds vs->av H (ds++[d]) (vs++[v])
 | [],_,q=>by unfold av at q;subst q;show av H [d] [v];unfold av;exact{v,[],rfl,h,by unfold av;rfl}
 | c::ds,_,q=>by
  unfold av at q;let⟨u,r,rfl,h1,h2⟩:=q;show av H (c::(ds++[d])) (u::(r++[v]));unfold av;exact{u,_,rfl,h1,eK h h2}
def Hl (h:aE K H p xs) (hi:i<⇑xs):(Ih K p).go i H:={xs,xs[i],h,zb hi}
def Hk (h:cQ K H p xs) (hi:i<⇑xs):(Ke K p).go i H:={xs,xs[i],h,zb hi}
def mr (e:au H H') (h:H a=some (.tup xs)):cQ K H' a xs:=cQ.of (e _ _ h)
theorem _root_.L2.au.back (s:au H H') (h:H' a=none):H a=none:=by
 cases q:H a with
 | none=>rfl
 | some u=>rw[s _ _ q] at h;cases h
def jE {α:Type} {J:It} {ws:List α} {enc:α->V} {U₀:St} {g:TG} {te:TE} {Q:VK} {H1:Hp} (F:α->Dt) (PU:St->Prop) (hn:⇑ws<=sizeLine) (h0:PU U₀)
  (go:∀i H,i<⇑ws->au H1 H->J.go i H) (stop:∀H,au H1 H->J.stop ⇑ws H) (yl:∀(i:Nat) x H H2 (hi:i<⇑ws),au H1 H->J.F6 i H x H2->H2=H/\x=enc ws[i])
  (turn:∀(a:α) (U:St) (H:Hp) (R:St->V->Hp->Prop),a∈ws->au H1 H->PU U->(∀U3 y H5,au H H5->Is H5 (F a) y->PU U3->R U3 y H5)->g (enc a) U H λU3 H3=>te U3 H3 λy H5=>R U3 y H5)
  (fin:∀D vs H,au H1 H->H1 D=none->H D=some (.lst vs)->av H (ws.map F) vs->Q (.ref D) H):c8 U₀ g ue te Q J H1:=by
 refine{λi m xs U H=>m=⇑ws-i/\i<=⇑ws/\⇑xs=i/\au H1 H/\av H ((ws.take i).map F) xs/\PU U,{_,rfl,zW _,rfl,au.refl _,by simp[av],h0},?_};rintro i m xs U H ⟨rfl,hi,hx,sm,il,pσ⟩;rcases xh i ⇑ws with hlt | hge
 ·refine .inr {go i H hlt sm,(),?_}
  intro x H2 hy;let⟨rfl,rfl⟩:=yl i x H H2 hlt sm hy;refine turn ws[i] U H2 (λU3 y H5=>if true=true then∃m',m'<⇑ws-i/\(m'=⇑ws-(i+1)/\i+1<=⇑ws/\⇑(xs++[y])=i+1/\au H1 H5/\av H5 ((ws.take (i+1)).map F) (xs++[y])/\PU U3) else False) (z9 hlt) sm pσ ?_;rintro U3 y H5 s5 iy p3;rw[yC rfl];refine{_,(),rfl,hlt,by simp[hx],sm.trans s5,?_,p3};rw[y6,zb hlt,zg];exact eK iy (il.mono s5)
 ·let e:i=⇑ws:=()
  subst e;refine .inl {stop H sm,(),λD hD=>?_};let il':av H (ws.map F) xs:=by rw[zI] at il;exact il
  exact fin D xs _ (sm.trans (cI hD)) (sm.back hD) az (il'.mono (cI hD))
def qw {α:Type} {J:It} {ws:List α} {enc:α->V} {U₀:St} {g:TG} {te:TE} {Q:VK} {H1:Hp} (F:α->Dt) (PU:St->Prop) (hn:⇑ws<=sizeLine) (h0:PU U₀)
  (go:∀i H,i<⇑ws->au H1 H->J.go i H) (stop:∀H,au H1 H->J.stop ⇑ws H) (yl:∀(i:Nat) x H H2 (hi:i<⇑ws),au H1 H->J.F6 i H x H2->H2=H/\x=enc ws[i])
  (turn:∀(a:α) (U:St) (H:Hp) (R:St->V->Hp->Prop),a∈ws->au H1 H->PU U->(∀U3 y H5,au H H5->Is H5 (F a) y->PU U3->R U3 y H5)->g (enc a) U H λU3 H3=>te U3 H3 λy H5=>R U3 y H5)
  (fin:∀D vs H,au H1 H->H D=some (.lst vs)->av H (ws.map F) vs->Q (.ref D) H):c8 U₀ g ue te Q J H1:=jE F PU hn h0 go stop yl turn λD vs H s _=>fin D vs H s
def Dn {K:yo} {α:Type} {p:wJ} {ws:List α} {enc:α->V} {U₀:St} {g:TG} {te:TE} {Q:VK} {H1:Hp} (F:α->Dt) (PU:St->Prop) (hn:⇑ws<=sizeLine) (hp:aE K H1 p (ws.map enc)) (h0:PU U₀)
  (turn:∀(a:α) (U:St) (H:Hp) (R:St->V->Hp->Prop),a∈ws->au H1 H->PU U->(∀U3 y H5,au H H5->Is H5 (F a) y->PU U3->R U3 y H5)->g (enc a) U H λU3 H3=>te U3 H3 λy H5=>R U3 y H5)
  (fin:∀D vs H,au H1 H->H1 D=none->H D=some (.lst vs)->av H (ws.map F) vs->Q (.ref D) H):c8 U₀ g ue te Q (Ih K p) H1:=by
 refine jE F PU hn h0 (λi H hi sm=>Hl (sm.seq hp) (by rw[za];exact hi)) (λH sm=>{_,sm.seq hp,by rw[za];exact zh _}) ?_ turn fin;rintro i x H H2 hi sm ⟨rfl,hy⟩;let hx':=hy _ (sm.seq hp);rw[zF,zb hi] at hx';cases hx';exact{(rfl),rfl}
def dk {K:yo} {α:Type} {p:wJ} {ws:List α} {enc:α->V} {U₀:St} {g:TG} {te:TE} {Q:VK} {H1:Hp} (F:α->Dt) (PU:St->Prop) (hn:⇑ws<=sizeLine) (hp:aE K H1 p (ws.map enc)) (h0:PU U₀)
  (turn:∀(a:α) (U:St) (H:Hp) (R:St->V->Hp->Prop),a∈ws->au H1 H->PU U->(∀U3 y H5,au H H5->Is H5 (F a) y->PU U3->R U3 y H5)->g (enc a) U H λU3 H3=>te U3 H3 λy H5=>R U3 y H5)
  (fin:∀D vs H,au H1 H->H D=some (.lst vs)->av H (ws.map F) vs->Q (.ref D) H):c8 U₀ g ue te Q (Ih K p) H1:=by
 refine qw F PU hn h0 (λi H hi sm=>Hl (sm.seq hp) (by rw[za];exact hi)) (λH sm=>{_,sm.seq hp,by rw[za];exact zh _}) ?_ turn fin;rintro i x H H2 hi sm ⟨rfl,hy⟩;let hx':=hy _ (sm.seq hp);rw[zF,zb hi] at hx';cases hx';exact{(rfl),rfl}
def fU {K:yo} {α:Type} {p:wJ} {ws:List α} {enc:α->V} {U₀:St} {g:TG} {te:TE} {Q:VK} {H1:Hp} (F:α->Dt) (PU:St->Prop) (hn:⇑ws<=sizeLine) (hp:H1 p=some (.tup (ws.map enc))) (h0:PU U₀)
  (turn:∀(a:α) (U:St) (H:Hp) (R:St->V->Hp->Prop),a∈ws->au H1 H->PU U->(∀U3 y H5,au H H5->Is H5 (F a) y->PU U3->R U3 y H5)->g (enc a) U H λU3 H3=>te U3 H3 λy H5=>R U3 y H5)
  (fin:∀D vs H,au H1 H->H D=some (.lst vs)->av H (ws.map F) vs->Q (.ref D) H):c8 U₀ g ue te Q (Ke K p) H1:=by
 refine qw F PU hn h0 (λi H hi sm=>Hk (mr sm hp) (by rw[za];exact hi)) (λH sm=>{_,mr sm hp,by rw[za];exact zh _}) ?_ turn fin;rintro i x H H2 hi sm ⟨rfl,hy⟩;let hx':=hy _ (mr sm hp);rw[zF,zb hi] at hx';cases hx';exact{(rfl),rfl}
noncomputable def dM (v:V):Bool:=decide (v=.aO)
noncomputable def Dt.dM:Dt->Bool
 | .aO=>true
 | _=>false
def Hf:∀{d:Dt} {v:V},Is H d v->dM v=Dt.dM d
 | .aO,_,h=>by unfold Is at h;subst h;rfl
 | .bl _,_,h=>by unfold Is at h;subst h;rfl
 | .int _,_,h=>by unfold Is at h;subst h;rfl
 | .str _,_,h=>by unfold Is at h;subst h;rfl
 | .tup _,_,h=>by unfold Is at h;let⟨a,vs,rfl,_⟩:=h;rfl
theorem gq:∀{ds:List Dt} {vs:List V},av H ds vs->vs.any dM=ds.any Dt.dM
 | [],_,h=>by unfold av at h;subst h;rfl
 | d::ds,_,h=>by
  unfold av at h;let⟨v,r,rfl,h1,h2⟩:=h;rw[y3,y3,Hf h1,gq h2]
theorem iz:∀{bs:List Bool} {vs:List V},av H (bs.map Dt.bl) vs->vs=bs.map V.bl
 | [],_,h=>by unfold av at h;exact h
 | b::bs,_,h=>by
  rw[zf] at h;unfold av at h;let⟨v,r,rfl,h1,h2⟩:=h;unfold Is at h1;rw[h1,iz h2];rfl
theorem ff:∀{bs:List Str} {vs:List V},av H (bs.map Dt.str) vs->vs=bs.map V.str
 | [],_,h=>by unfold av at h;exact h
 | b::bs,_,h=>by
  rw[zf] at h;unfold av at h;let⟨v,r,rfl,h1,h2⟩:=h;unfold Is at h1;rw[h1,ff h2];rfl
theorem gp:∀{bs:List Int} {vs:List V},av H (bs.map Dt.int) vs->vs=bs.map V.int
 | [],_,h=>by unfold av at h;exact h
 | b::bs,_,h=>by
  rw[zf] at h;unfold av at h;let⟨v,r,rfl,h1,h2⟩:=h;unfold Is at h1;rw[h1,gp h2];rfl
theorem ug:∀{bs:List Str},av H (bs.map Dt.str) (bs.map V.str)
 | []=>by simp[av]
 | b::bs=>by rw[zf,zf];unfold av;exact{_,_,rfl,by unfold Is;rfl,ug}
theorem vo:∀{bs:List Int},av H (bs.map Dt.int) (bs.map V.int)
 | []=>by simp[av]
 | b::bs=>by rw[zf,zf];unfold av;exact{_,_,rfl,by unfold Is;rfl,vo}
def DM (d:α->Dt):Prop:=∀a,Dt.dM (d a)=false
theorem fG {α:Type} {d:α->Dt} (f:DM d):∀{l:List (Option α)},(l.map (dO d)).any Dt.dM=true->i7 l=none
 | [],h=>by cases h
 | none::_,_=>rfl
 | some x::r,h=>by
  rw[zf,y3] at h;let e:Dt.dM (dO d (some x))=false:=f x;rw[e,Bool.false_or] at h;show(match i7 r with | some l=>some (x::l) | none=>none)=none;rw[fG f h]
theorem fF:∀{l:List (Option α)},(l.map (dO d)).any Dt.dM=false->∃xs,i7 l=some xs/\l.map (dO d)=xs.map d/\⇑xs=⇑l
 | [],_=>{[],rfl,rfl,rfl}
 | none::_,h=>by cases h
 | some x::r,h=>by
  rw[zf,y3,Bool.or_eq_false_iff] at h;let⟨xs,e1,e2,e3⟩:=fF h.2;refine{x::xs,?_,?_,by simp[e3]}
  ·show(match i7 r with | some l=>some (x::l) | none=>none)=_
   rw[e1]
  ·rw[zf,zf,e2];rfl
def Bk:DM Dt.str:=λ_=>rfl
def Hs:DM Dt.int:=λ_=>rfl
def Lq:DM dL:=λ_=>rfl
def Ht:DM qu:=λ_=>rfl
def Fi:DM fT:=λ_=>rfl
def pY (h:DK H v o):Is H (dO dL o) v:=by
 cases h with
 | aO=>unfold dO Is;rfl
 | ref h=>exact Eg h
def pH (h:Is H (dO dL o) v):DK H v o:=by
 cases o with
 | none=>unfold dO Is at h;subst h;exact .aO
 | some q=>
  unfold dO dL Is at h;let⟨a,vs,rfl,ha,hl⟩:=h;let e:[Dt.int q.1,Dt.int q.2]=[q.1,q.2].map Dt.int:=rfl;rw[e] at hl;rw[gp hl] at ha;exact .ref ha
def pZ (o:Option Int):Is H (dO .int o) (ov o):=by cases o <;> (unfold dO Is;rfl)
def tE (o:Option Str):Is H (dO .str o) (os o):=by cases o <;> (unfold dO Is;rfl)
def M7 (h:JP H v o):Is H (dO fT o) v:=by
 cases o with
 | none=>unfold dO Is;exact h
 | some it=>
  let⟨p,pv,a,rfl,h1,h2,h3⟩:=h;unfold dO fT;unfold Is;refine{p,_,rfl,h1,?_};unfold av;refine{_,_,rfl,pY h3,?_};unfold av;exact{_,_,rfl,Eg h2,by unfold av;rfl}
def Af:Sp:=λvs H Q _=>∃(t:Str),vs=[.str t]/\⇑t<=1000000/\∀p H',au H H'->H' p=some (.lst ((words t).map V.str))->Q (.ref p) H'
def g9:Sp:=λvs H Q _=>∃(t:Str),vs=[.str t]/\⇑t<=600/\∀H',au H H'->Q (os (bo t)) H'
def gA:Sp:=λvs H Q _=>∃(t:Str),vs=[.str t]/\⇑t<=600/\∀H',au H H'->Q (ov (dg t)) H'
inductive oS (vs:List V) (H:Hp) (Q:VK) (E:XK):Prop
 | mk (t:Str) (lo hi:Int) (_:vs=[.str t,.int lo,.int hi]) (_:⇑t<=600) (_:∀H',au H H'->Q (ov (iO t lo hi)) H')
def uq:Sp:=λvs H Q _=>∃(t:Str),vs=[.str t]/\⇑t<=600/\∀v H',au H H'->DK H' v (Ie t)->Q v H'
inductive uo (vs:List V) (H:Hp) (Q:VK) (E:XK):Prop
 | mk (a b:Str) (_:vs=[.str a,.str b]) (_:⇑a<=600) (_:⇑b<=600) (_:∀v H',au H H'->DK H' v (pj a b)->Q v H')
def qU (K:yo):Sp:=λvs H Q _=>∃(t:Str),vs=[.str t]/\⇑t<=600/\∀v H',au H H'->DK H' v (dP t)->Q v H'
def Ai:Sp:=λvs H Q _=>∃(t:Str),vs=[.str t]/\⇑t<=600/\∀H',au H H'->Q (ov (uO t)) H'
inductive qW (K:yo) (vs:List V) (H:Hp) (Q:VK) (E:XK):Prop
 | mk (a:wJ) (us:List V) (_:vs=[.ref a]) (_:aE K H a us) (_:⇑us<=1000000) (_:∀H',au H H'->Q (if us.any dM=true then .aO else .ref a) H')
inductive qV (vs:List V) (H:Hp) (Q:VK) (E:XK):Prop
 | mk (a:wJ) (us:List V) (_:vs=[.ref a]) (_:H a=some (.tup us)) (_:⇑us<=1000000) (_:∀H',au H H'->Q (if us.any dM=true then .aO else .ref a) H')
def mY:Sp:=λvs H Q _=>∃(t:Str),vs=[.str t]/\⇑t<=600/\∀v H',au H H'->Is H' (dO qu (pq t)) v->Q v H'
inductive du (K:yo) (D:Hp->Hp->V->List Str->Prop) (vs:List V) (H:Hp) (Q:VK) (E:XK):Prop
 | mk (p:wJ) (ws:List Str) (_:vs=[.ref p]) (_:aE K H p (ws.map V.str)) (_:⇑ws<=1000000) (_:(∀x∈ws,⇑x<=600)) (_:∀v H',au H H'->D H H' v ws->Q v H')
noncomputable def kM (x:Str×(Int×Int)×(Int×Int)):Dt:=.tup [.str x.1,dL x.2.1,dL x.2.2]
noncomputable def jD (x:Str×List Str):Dt:=.tup [.str x.1,kf x.2]
noncomputable def nz (x:Str×Int×Str):Dt:=.tup [.str x.1,.int x.2.1,.str x.2.2]
def Ey (H:Hp) (v:V) (x:Int×Str×List Item):Prop:=∃a q vs,v=.ref a/\H a=some (.tup [.int x.1,.str x.2.1,.ref q])/\H q=some (.lst vs)/\av H (x.2.2.map fT) vs
def fw (H0 H:Hp) (v:V) (x:Int×Str×List Item):Prop:=∃a q vs,v=.ref a/\H a=some (.tup [.int x.1,.str x.2.1,.ref q])/\H q=some (.lst vs)/\av H (x.2.2.map fT) vs/\H0 q=none
def fw.at (h:fw H0 H v x):Ey H v x:=by
 let⟨a,q,vs,h1,h2,h3,h4,_⟩:=h;exact{(a),q,vs,h1,h2,h3,h4}
theorem fw.back (s:au H00 H0) (h:fw H0 H v x):fw H00 H v x:=by
 let⟨a,q,vs,h1,h2,h3,h4,h5⟩:=h;exact{a,q,vs,h1,h2,h3,h4,s.back h5}
def kh (d:α->Dt) (f:List Str->Option α) (_ H:Hp) (v:V) (ws:List Str):Prop:=Is H (dO d (f ws)) v
def Nt (H0 H:Hp) (v:V) (ws:List Str):Prop:=match gB ws with
 | none=>v=.aO
 | some x=>fw H0 H v x
def jz (h:Is H d v):av H [d] [v]:=by unfold av;exact{_,_,rfl,h,by unfold av;rfl}
def aX (h:Is H d v) (r:av H ds vs):av H (d::ds) (v::vs):=by unfold av;exact{_,_,rfl,h,r}
def jA:av H [] []:=by unfold av;rfl
def dR (h:H a=some (.tup vs)) (r:av H ds vs):Is H (.tup ds) (.ref a):=by unfold Is;exact{_,_,rfl,h,r}
def jy:Is H (.str x) (.str x):=by unfold Is;rfl
def dS:Is H (.int x) (.int x):=by unfold Is;rfl
def cv:Is H .aO .aO:=by unfold Is;rfl
def fE (xs:List V) (k:Nat):f9 xs (some (k:Int)) none=xs.drop k:=by
 unfold f9;rw[HT.pd];let e:HT.cO ⇑xs 0 (some (k:Int))=min k ⇑xs:=by unfold HT.cO;simp;ext
 rw[e];rcases Nat.le_total k ⇑xs with h | h
 ·rw[Nat.min_eq_left h]
  exact y7 (by rw[xb];exact zh _)
 ·rw[Nat.min_eq_right h,List.drop_eq_nil_of_le (zh _),List.drop_eq_nil_of_le h,List.take_nil]
def vR (xs:List V) (k:Nat):f9 xs none (some (k:Int))=xs.take k:=by
 unfold f9;rw[HT.pd,List.drop_zero,Nat.sub_zero];let e:HT.cO ⇑xs ⇑xs (some (k:Int))=min k ⇑xs:=by unfold HT.cO;simp;ext
 rw[e];rcases Nat.le_total k ⇑xs with h | h
 ·rw[Nat.min_eq_left h]
 ·rw[Nat.min_eq_right h,y7 (zh _),y7 h]
def kB (a b:Str) (r:List Str):kC (a::b::r)=(match i7 ((a::b::r).map bo) with | some (n::ps)=>some (n,ps) | _=>none):=rfl
def dY (H0 H:Hp) (v:V):Option Told->Prop
 | none=>v=.aO
 | some (.aM n)=>v=.str n
 | some (.bB n t l)=>Is H (kM (n,t,l)) v
 | some (.bf n ps)=>Is H (jD (n,ps)) v
 | some (.bar b)=>Is H (qv b) v
 | some (.aI l)=>Is H (dL l) v
 | some (.holds p b i)=>Is H (nz (p,b,i)) v
 | some (.aF b p its)=>fw H0 H v (b,p,its)
 | some (.rep r)=>Is H (j6 r) v
 | some (.b3 j)=>Is H (kg j) v
inductive Ah (K:yo) (vs:List V) (H:Hp) (Q:VK) (E:XK):Prop
 | mk (p:wJ) (x:Str) (ws:List Str) (_:vs=[.ref p]) (_:aE K H p ((x::ws).map V.str)) (_:⇑ws<=999999) (_:(∀y∈x::ws,⇑y<=600)) (_:∀v H',au H H'->dY H H' v (d6 (x::ws))->Q v H')
def jb (h:Is H (dO d o) v) (hg:∀x,Is H (d x) v->dY H0 H v (some (g x))):dY H0 H v (o.map g):=by
 cases o with
 | none=>unfold dO Is at h;exact h
 | some x=>exact hg x h
theorem dY.back (s:au H00 H0):∀{t:Option Told},dY H0 H v t->dY H00 H v t
 | none,h=>h
 | some (.aM _),h=>h
 | some (.bB _ _ _),h=>h
 | some (.bf _ _),h=>h
 | some (.bar _),h=>h
 | some (.aI _),h=>h
 | some (.holds _ _ _),h=>h
 | some (.aF _ _ _),h=>fw.back s h
 | some (.rep _),h=>h
 | some (.b3 _),h=>h
def jH {α:Type} {l:List α} {i:Nat} {x:α} (h:l[i]?=some x):l.take (i+1)=l.take i++[x]:=by rw[y6,h];rfl
theorem Ei:∀{l:List α} {i:Nat} {x:α},l[i]?=some x->(l.take i).find? p=none->p x=true->l.find? p=some x
 | [],i,x,h,_,_=>by simp at h
 | y::l,0,x,h,_,hx=>by simp at h;subst h;rw[yG,hx]
 | y::l,i+1,x,h,hn,hx=>by
  rw[List.take_succ_cons,yG] at hn;rw[yG];cases q:p y with
  | true=>rw[q] at hn;cases hn
  | false=>rw[q] at hn;exact Ei (by simpa using h) hn hx
def tL {α:Type} {p:α->Bool} {l:List α} {i:Nat} {x:α} (h:l[i]?=some x) (hn:(l.take i).find? p=none) (hx:p x=false):(l.take (i+1)).find? p=none:=by
 rw[jH h,List.find?_append,hn];simp[hx]
def sH (K:yo) (H:Hp) (p:wJ) (rs:List Rep):Prop:=∃vs,aE K H p vs/\av H (rs.map j6) vs
theorem sH.mono {K:yo} {H H':Hp} (s:au H H') {p:wJ} {rs:List Rep} (h:sH K H p rs):sH K H' p rs:=by
 let⟨vs,h1,h2⟩:=h;exact{vs,s.seq h1,h2.mono s}
def hU (h:Is H (j6 r) v):∃a e,v=.ref a/\H a=some (.tup [.int r.first,.int r.last,.int r.times,.ref e])/\Is H (.tup (r.ends.map qu)) (.ref e):=by
 unfold j6 Is at h;let⟨a,vs,rfl,ha,hl⟩:=h;unfold av at hl;let⟨v1,r1,rfl,h1,hl⟩:=hl;unfold av at hl;let⟨v2,r2,rfl,h2,hl⟩:=hl;unfold av at hl;let⟨v3,r3,rfl,h3,hl⟩:=hl;unfold av at hl;let⟨v4,r4,rfl,h4,hl⟩:=hl;unfold av at hl;subst hl;unfold Is at h1 h2 h3;subst h1 h2 h3;let h4':=h4;unfold Is at h4;let⟨e,us,rfl,he,hle⟩:=h4;exact{(a),e,rfl,ha,h4'}
def vA (h:Is H (qu e) v):∃a q,v=.ref a/\H a=some (.tup [.int e.1,.ref q])/\H q=some (.tup (e.2.map V.int)):=by
 unfold qu Is at h;let⟨a,vs,rfl,ha,hl⟩:=h;unfold av at hl;let⟨v1,r1,rfl,h1,hl⟩:=hl;unfold av at hl;let⟨v2,r2,rfl,h2,hl⟩:=hl;unfold av at hl;subst hl;unfold Is at h1;subst h1;unfold Em Is at h2;let⟨q,us,rfl,hq,hle⟩:=h2;rw[gp hle] at hq;exact{(a),q,rfl,ha,hq}
def gF {H:Hp} {α:Type} {d:α->Dt} {xs:List α} {vs:List V} {i:Nat} {v:V} (h:av H (xs.map d) vs) (e:vs[i]?=some v):∃x,xs[i]?=some x/\Is H (d x) v:=by
 let⟨c,h1,h2⟩:=h.get e;rw[zF] at h1;cases q:xs[i]? with
 | none=>rw[q] at h1;cases h1
 | some x=>rw[q] at h1;cases h1;exact{(x),rfl,h2}
def aR {H:Hp} {α:Type} {d:α->Dt} {xs:List α} {vs:List V} (h:av H (xs.map d) vs):⇑vs=⇑xs:=by rw[h.len,za]
inductive nF (K:yo) (vs:List V) (H:Hp) (Q:VK) (E:XK):Prop
 | mk (p:wJ) (rs:List Rep) (b:Int) (_:vs=[.ref p,.int b]) (_:sH K H p rs) (_:∀v,Is H (dO j6 (jK rs b)) v->Q v H)
inductive uw (K:yo) (vs:List V) (H:Hp) (Q:VK) (E:XK):Prop
 | mk (p:wJ) (rs:List Rep) (b:Int) (_:vs=[.ref p,.int b]) (_:sH K H p rs) (_:Q (.bl (gO rs b)) H)
inductive ux (K:yo) (vs:List V) (H:Hp) (Q:VK) (E:XK):Prop
 | mk (p:wJ) (rs:List Rep) (b:Int) (_:vs=[.ref p,.int b]) (_:sH K H p rs) (_:Q (.bl (cX rs b)) H)
noncomputable def Fw (x:Int×Int×List Int):Dt:=.tup [.int x.1,.int x.2.1,Em x.2.2]
inductive Cn (vs:List V) (H:Hp) (Q:VK) (E:XK):Prop
 | mk (v:V) (r:Rep) (_:vs=[v]) (_:Is H (j6 r) v) (_:⇑r.ends<=1000000) (_:∀p us H',au H H'->H' p=some (.lst us)->av H' ((gI r).map Fw) us->Q (.ref p) H')
inductive nJ (K:yo) (vs:List V) (H:Hp) (Q:VK) (E:XK):Prop
 | mk (p:wJ) (rs:List Rep) (b:Int) (_:vs=[.ref p,.int b]) (_:sH K H p rs) (_:(∀r∈rs,⇑r.ends<=1000000)) (_:∀H',au H H'->Q (.bl (kF rs b)) H')
def kO {α:Type} {J:It} {ws:List α} {U₀:St} {g:TG} {te:TE} {Q:VK} {H1:Hp} (Y:α->V->Hp->Prop) (F:α->Dt) (PU:St->Prop) (hn:⇑ws<=sizeLine) (h0:PU U₀)
  (go:∀i H,i<⇑ws->au H1 H->J.go i H) (stop:∀H,au H1 H->J.stop ⇑ws H) (yl:∀(i:Nat) x H H2 (hi:i<⇑ws),au H1 H->J.F6 i H x H2->au H H2/\Y ws[i] x H2)
  (turn:∀(a:α) (x:V) (U:St) (H:Hp) (R:St->V->Hp->Prop),a∈ws->au H1 H->Y a x H->PU U->(∀U3 y H5,au H H5->Is H5 (F a) y->PU U3->R U3 y H5)->g x U H λU3 H3=>te U3 H3 λy H5=>R U3 y H5)
  (fin:∀D vs H,au H1 H->H D=some (.lst vs)->av H (ws.map F) vs->Q (.ref D) H):c8 U₀ g ue te Q J H1:=by
 refine{λi m xs U H=>m=⇑ws-i/\i<=⇑ws/\⇑xs=i/\au H1 H/\av H ((ws.take i).map F) xs/\PU U,{_,rfl,zW _,rfl,au.refl _,by simp[av],h0},?_};rintro i m xs U H ⟨rfl,hi,hx,sm,il,pσ⟩;rcases xh i ⇑ws with hlt | hge
 ·refine .inr {go i H hlt sm,(),?_}
  intro x H2 hy;let⟨s2,hY⟩:=yl i x H H2 hlt sm hy;refine turn ws[i] x U H2 (λU3 y H5=>if true=true then∃m',m'<⇑ws-i/\(m'=⇑ws-(i+1)/\i+1<=⇑ws/\⇑(xs++[y])=i+1/\au H1 H5/\av H5 ((ws.take (i+1)).map F) (xs++[y])/\PU U3) else False) (z9 hlt) (sm.trans s2) hY pσ ?_;rintro U3 y H5 s5 iy p3;rw[yC rfl];refine{_,(),rfl,hlt,by simp[hx],(sm.trans s2).trans s5,?_,p3};rw[y6,zb hlt,zg];exact eK iy (il.mono (s2.trans s5))
 ·let e:i=⇑ws:=()
  subst e;refine .inl {stop H sm,(),λD hD=>?_};let il':av H (ws.map F) xs:=by rw[zI] at il;exact il
  exact fin D xs _ (sm.trans (cI hD)) az (il'.mono (cI hD))
structure Ow where
 dx:wJ
 pl:wJ
 ins:wJ
 st:wJ
 ba:wJ
 ho:wJ
 no:wJ
 re:wJ
 hs:List wJ
 ns:List wJ
noncomputable def Ow.lists (o:Ow):List wJ:=[o.pl,o.ba,o.re]++o.hs++o.ns
noncomputable def II (o:Ow) (ub jm:V):List (Str×V):=[("players",.ref o.pl),("instruments",.ref o.ins),("staffs",.ref o.st),("bars",.ref o.ba),("upbeat",ub),("holds",.ref o.ho),("notes",.ref o.no),("repeats",.ref o.re),("jump",jm)]
noncomputable def kS (x:Str):Key:=Sum.inr x
noncomputable def kN (x:Int×Str):List Key:=[Sum.inl x.1,Sum.inr x.2]
noncomputable def HM (x:Str×(Int×Int)×(Int×Int)):Dt:=.tup [dL x.2.1,dL x.2.2]
noncomputable def JH (x:Str×List Str):Dt:=kf x.2
noncomputable def JI (x:Int×Str):Dt:=.tup [.int x.1,.str x.2]
def bg (H:Hp) (d:α->Dt):List (List α)->List wJ->Prop
 | [],as=>as=[]
 | l::r,as=>∃a t vs,as=a::t/\H a=some (.lst vs)/\av H (l.map d) vs/\bg H d r t
inductive Pa (C:wJ) (H:Hp) (a:wJ) (o:Ow) (u:Option (Int×Int)) (j:Option Jump):Prop
 | mk (ub jm:V) (_:H a=some (.ins C o.dx (II o ub jm))) (_:Is H (dO dL u) ub) (_:Is H (dO kg j) jm)
inductive FN {α:Type} (H:Hp) (d:α->Dt) (a:wJ) (l:List α):Prop
 | mk (vs:List V) (_:H a=some (.lst vs)) (_:av H (l.map d) vs)
inductive Ic {α:Type} (H:Hp) (d:Str×α->Dt) (a:wJ) (l:List (Str×α)):Prop
 | mk (vs:List V) (_:H a=some (.dK ((l.map λx=>kS x.1).zip vs))) (_:av H (l.map d) vs)
structure aY (C:wJ) (H:Hp) (a:wJ) (S:bZ) (o:Ow):Prop where
 obj:Pa C H a o S.aI S.b3
 pl:H o.pl=some (.lst (S.players.map V.str))
 ins:Ic H HM o.ins S.instruments
 st:Ic H JH o.st S.aG
 ba:FN H qv o.ba S.bars
 ho:H o.ho=some (.dK ((S.holds.map λx=>kS x.1).zip (o.hs.map V.ref)))/\bg H JI (S.holds.map (·.2)) o.hs
 no:H o.no=some (.dT ((S.aF.map λx=>kN x.1).zip (o.ns.map V.ref)))/\bg H fT (S.aF.map (·.2)) o.ns
 re:FN H j6 o.re S.repeats
 nd:o.lists.Nodup
 dd:[o.ins,o.st,o.ho].Nodup
theorem bg.mono (s:au H H'):∀{ls:List (List α)} {as:List wJ},bg H d ls as->bg H' d ls as
 | [],_,h=>h
 | l::r,_,⟨a,t,vs,e,h1,h2,h3⟩=>{a,t,vs,e,s _ _ h1,h2.mono s,bg.mono s h3}
theorem aY.mono (s:au H H') (h:aY C H a S o):aY C H' a S o where
 obj:=by let⟨ub,jm,h1,h2,h3⟩:=h.obj;exact{ub,jm,s _ _ h1,h2.mono s,h3.mono s}
 pl:=s _ _ h.pl
 ins:=by let⟨vs,h1,h2⟩:=h.ins;exact{vs,s _ _ h1,h2.mono s}
 st:=by let⟨vs,h1,h2⟩:=h.st;exact{vs,s _ _ h1,h2.mono s}
 ba:=by let⟨vs,h1,h2⟩:=h.ba;exact{vs,s _ _ h1,h2.mono s}
 ho:={s _ _ h.ho.1,h.ho.2.mono s}
 no:={s _ _ h.no.1,h.no.2.mono s}
 re:=by let⟨vs,h1,h2⟩:=h.re;exact{vs,s _ _ h1,h2.mono s}
 nd:=h.nd
 dd:=h.dd
def b8 (o:Option HO):Prop:=∀vs,o≠some (.tup vs)
mutual
theorem Is.upd (hx:b8 (H x)):∀{d:Dt} {v:V},Is H d v->Is (upd H x o) d v
 | .aO,_,h=>by unfold Is at h ⊢;exact h
 | .bl _,_,h=>by unfold Is at h ⊢;exact h
 | .int _,_,h=>by unfold Is at h ⊢;exact h
 | .str _,_,h=>by unfold Is at h ⊢;exact h
 | .tup l,_,h=>by
  unfold Is at h ⊢;let⟨a,vs,e,ha,hl⟩:=h;let ne:a≠x:=λz=>hx vs (by rw[<-z];exact ha);exact{a,vs,e,by rw[aq ne];exact ha,av.upd hx hl}
theorem av.upd (hx:b8 (H x)):∀{l:List Dt} {vs:List V},av H l vs->av (L2.upd H x o) l vs
 | [],_,h=>by unfold av at h ⊢;exact h
 | d::l,_,h=>by
  unfold av at h ⊢;let⟨v,r,e,hv,hr⟩:=h;exact{v,r,e,Is.upd hx hv,av.upd hx hr}
end
theorem bg.upd (hx:b8 (H x)):∀{ls:List (List α)} {as:List wJ},x∉as->bg H d ls as->bg (L2.upd H x o) d ls as
 | [],_,_,h=>h
 | l::r,_,nx,⟨a,t,vs,e,h1,h2,h3⟩=>by
  subst e;let ne:a≠x:=λz=>nx (by rw[z];exact zk);exact{a,t,vs,rfl,by rw[aq ne];exact h1,av.upd hx h2,bg.upd hx (λz=>nx (zj _ z)) h3}
structure Cf (K:yo) (C:wJ):Prop where
 cls:JQ K C
 players:bT K C "players"
 instruments:bT K C "instruments"
 aG:bT K C "staffs"
 bars:bT K C "bars"
 aI:bT K C "upbeat"
 holds:bT K C "holds"
 aF:bT K C "notes"
 repeats:bT K C "repeats"
 b3:bT K C "jump"
def JD (n:Nat):NumText.digitsVal (dec (n:Int)).cps.toList=n:=by rw[ou];exact PySem.W.KIN.val_back n
def KR {most:Int} {n k:Nat} (hk:0<k) (hm:(k:Int)<=most) (h:n<10^k):rn most (dec (n:Int)).cps.toList=some (n:Int):=by
 let l1:=Bu (n:=n);let l2:=tO hk h;let el:⇑(dec (n:Int)).cps.toList=⇑(dec (n:Int)):=yE;let ha:((dec (n:Int)).cps.toList.all λc=>decide (c∈nW))=true:=yc.mpr λc hc=>zd (Lr (dX hc).1 (dX hc).2);unfold rn;rw[yB (),yB (),yC ha,yB,JD];rintro⟨z1,z2⟩;have:=Fp (n:=n) (by rw[<-yV];exact z1);ext
def jL {most n:Int} {k:Nat} (hk:0<k) (hm:(k:Int)<=most) (h0:0<=n) (h:n<10^k):rn most (dec n).cps.toList=some n:=by
 let⟨m,rfl⟩:=yz h0;exact KR hk hm (by exact_mod_cast h)
def cZ {n:Int} (h0:0<=n) (h:n<1000):dg (dec n)=some n:=jL (k:=3) ∅ ∅ h0 ()
def sS (h0:0<=n) (h:n<1000) (h1:lo<=n) (h2:n<=hi):iO (dec n) lo hi=some n:=by
 unfold iO;rw[cZ h0 h];dsimp only;rw[yB (),yB ()]
def CG {most n:Int} {k:Nat} (hk:0<k) (hm:(k:Int)<=most) (h1:-(10^k)<n) (h2:n<10^k):rs most (dec n)=some n:=by
 unfold rs
 by_cases h0:0<=n
 ·rw[yB,jL hk hm h0 h2]
  intro z;let⟨m,rfl⟩:=yz h0;have:=dX (zv z);ext
 ·let e:(dec n).cps.toList=45::(dec (-n)).cps.toList:=by rw[oq (),bK];rfl
  rw[e,yC (show(45::(dec (-n)).cps.toList)[0]?=some 45 from rfl)];show(match rn most (dec (-n)).cps.toList with | some n=>if n=0 then none else some (-n) | none=>none)=_;rw[jL hk hm () ()];dsimp only;rw[yB (),Int.neg_neg]
def Gu {q:Int×Int} (h:LL q):rp (dec q.1) (dec q.2)=some q:=by
 let⟨h1,h2,h3,h4,h5⟩:=h;unfold rp;rw[CG (k:=2) ∅ ∅ () (),CG (k:=2) ∅ ∅ () ()];dsimp only;rw[yC h5]
def Bw (n:Int):47∉(dec n).cps.toList:=dC ∅ ∅
def Ek (n:Int):58∉(dec n).cps.toList:=dC ∅ ∅
def A9 {x:Int×Int} (h:Rd x) (h1:x.1<10000) (h2:x.2<10000):Ie (ik x)=some x:=by
 let⟨p1,p2,p3⟩:=h.pos;unfold ik Ie
 by_cases c:x.2=1
 ·rw[yC c,show Txt.split (dec x.1) "/"= [dec x.1] from split1 (c:=47) (Bw _)]
  dsimp only;rw[jL (k:=4) ∅ ∅ p1 ()];dsimp only;rw[<-c,p3]
 ·rw[yB c,show Txt.split (dec x.1 ++"/" ++ dec x.2) "/"= [dec x.1,dec x.2] from uk (c:=47) (Bw _) (Bw _)]
  dsimp only;rw[jL (k:=4) ∅ ∅ p1 (),jL (k:=4) ∅ ∅ () ()];dsimp only;rw[yB (),p3]
def vm (h:LP x):lr (ik x)=some x:=by
 let⟨h1,h2,h3,h4⟩:=h;unfold lr;rw[A9 h1 h3 h4];dsimp only;rw[yB ()]
def Jp (h:Ny it):ir (vn it)=some it:=by
 let⟨o,x⟩:=it;let⟨h1,h2⟩:=h;cases o with
 | none=>
  let e:Txt.split (vn (none,x)) ":"= [("r": Str),ik x]:=uk (c:=58) (a:="r") ∅ (tq h1);unfold ir;rw[e];show(match lr (ik x) with | none=>none | some x=>_)=_;rw[vm h1];exact yC rfl
 | some q=>
  let e:Txt.split (vn (some q,x)) ":"= [dec q.1,dec q.2,ik x]:=KJ (c:=58) (Ek _) (Ek _) (tq h1);unfold ir;rw[e];show(match lr (ik x) with | none=>none | some x=>_)=_;rw[vm h1];dsimp only;rw[yB (by simp)];show(match rp (dec q.1) (dec q.2) with | some q=>some (some q,x) | none=>none)=_;rw[Gu (h2 q rfl)]
def CH (h1:1<=a) (h2:a<=32) (h3:b∈qF):dP (dec a ++"/" ++ dec b)=some (a,b):=by
 let hb:0<=b/\b<1000:=by
  unfold qF at h3;simp at h3;ext
 unfold dP;rw[show Txt.split (dec a ++"/" ++ dec b) "/"= [dec a,dec b] from uk (c:=47) (Bw _) (Bw _)];dsimp only;rw[sS () () h1 h2,cZ hb.1 hb.2];dsimp only;rw[yC h3]
def Gw {k:Int} (h1:-7<=k) (h2:k<=7):uO (dec k)=some k:=by
 unfold uO;rw[CG (k:=3) ∅ ∅ () ()];dsimp only;rw[yB (by split <;> ext)]
def EX (h:LL q) (h1:-12<=q.1) (h2:q.1<=12):pj (dec q.1) (dec q.2)=some q:=by
 unfold pj;rw[Gu h];dsimp only;rw[yB (by split <;> ext)]
theorem jF:∀{l:List α},(∀x∈l,f (g x)=some x)->i7 ((l.map g).map f)=some l
 | [],_=>rfl
 | x::l,h=>by
  rw[zf,zf,h x zk];unfold i7;rw[jF λy hy=>h y (zj _ hy)]
noncomputable def Fj (e:End):Str:=dec e.1 ++":" ++ Str.join "," (e.2.map dec)
def Pe (e:End):Prop:=0<=e.1/\e.1<1000/\e.2≠[]/\∀p∈e.2,0<=p/\p<1000
theorem jX (hs:c∉sep.cps.toList):∀{zs:List Str},(∀z∈zs,c∉z.cps.toList)->c∉(Str.join sep zs).cps.toList
 | [],_=>by show c∉("": Str).cps.toList;exact zy
 | [z],h=>h z zk
 | z::y::r,h=>by
  rw[di,bK,bK];intro m;rcases zB.mp m with m | m
  ·rcases zB.mp m with m | m
   ·exact h z zk m
   ·exact hs m
  ·exact jX hs (λx hx=>h x (zj _ hx)) m
def Gx (h:Pe e):pq (Fj e)=some e:=by
 let⟨h1,h2,h3,h4⟩:=h;let f:58∉(Str.join "," (e.2.map dec)).cps.toList:=jX ∅ λz hz=>by
  let⟨y,_,rfl⟩:=zC.mp hz;exact Ek _
 unfold pq Fj;rw[show Txt.split (dec e.1 ++":" ++ Str.join "," (e.2.map dec)) ":"= [dec e.1,Str.join "," (e.2.map dec)] from uk (c:=58) (Ek _) f];dsimp only;rw[show Txt.split (Str.join "," (e.2.map dec)) ","= e.2.map dec from dN (c:=44) (by simpa using h3) λz hz=>by
  let⟨y,_,rfl⟩:=zC.mp hz;exact dC ∅ ∅]
 rw[cZ h1 h2,jF λx hx=>cZ (h4 x hx).1 (h4 x hx).2]
def Ex (w:Str):Prop:=w≠ ""/\32∉w.cps.toList/\10∉w.cps.toList
def oy (ne:ws≠[]) (h:∀w∈ws,Ex w):words (Str.join " " ws)=ws:=by
 unfold words;rw[show Txt.split (Str.join " " ws) " "= ws from dN (c:=32) ne λw hw=>(h w hw).2.1];exact List.filter_eq_self.mpr λw hw=>zd (h w hw).1
def dj (n:Int):Ex (dec n):=by
 refine{λz=>?_,dC ∅ ∅,dC ∅ ∅}
 by_cases h:0<=n
 ·let⟨m,rfl⟩:=yz h
  have:=Bu (n:=m);rw[z] at this;exact absurd this ∅
 ·let e:(dec n).cps.toList=45::(dec (-n)).cps.toList:=by rw[oq (),bK];rfl
  rw[z] at e;cases e
def BO (ha:Ex a) (hb1:32∉b.cps.toList) (hb2:10∉b.cps.toList):Ex (a++b):=by
 refine{λz=>ha.1 (jI ?_),λm=>?_,λm=>?_}
 ·let e:(a++b).cps.toList=("": Str).cps.toList:=by rw[z]
  rw[bK] at e;exact(List.append_eq_nil_iff.mp e).1
 ·rw[bK] at m
  rcases zB.mp m with m | m
  ·exact ha.2.1 m
  ·exact hb1 m
 ·rw[bK] at m
  rcases zB.mp m with m | m
  ·exact ha.2.2 m
  ·exact hb2 m
def v8 (ha:Ex a) (hb1:32∉b.cps.toList) (hb2:10∉b.cps.toList) (hc:Ex c):Ex (a++b++c):=BO (BO ha hb1 hb2) hc.2.1 hc.2.2
def pU (x:Int×Int):Ex (ik x):=by
 unfold ik;split
 ·exact dj _
 ·exact v8 (dj _) ∅ ∅ (dj _)
def Lg (it:Item):Ex (vn it):=by
 let⟨o,x⟩:=it;cases o with
 | none=>exact BO (a:="r:") {∅,∅,∅} (pU x).2.1 (pU x).2.2
 | some q=>exact v8 (v8 (dj _) ∅ ∅ (dj _)) ∅ ∅ (pU x)
def LB (e:End):Ex (Fj e):=by
 let f:∀c,c≠44->c≠45->¬(48<=c/\c<=57)->c∉(Str.join "," (e.2.map dec)).cps.toList:=λc h0 h1 h2=>jX (by show c∉[44];simpa using h0) λz hz=>by
  let⟨y,_,rfl⟩:=zC.mp hz;exact dC h1 h2
 unfold Fj;exact BO (BO (dj _) ∅ ∅) (f 32 ∅ ∅ ∅) (f 10 ∅ ∅ ∅)
def cY (n:Str):Prop:=bo n=some n
def cY.w (h:cY n):Ex n:=by
 unfold cY bo at h;split at h
 ·cases h
 ·split at h
  ·cases h
  ·split at h
   ·rename_i h1 _ h3
    let hs:∀c,c∉sgn->c∉n.cps.toList:=λc hc m=>hc (zU (yc.mp h3 c m));refine{λz=>h1 (by rw[z];decide),hs 32 ∅,hs 10 ∅}
   ·cases h
noncomputable def ctxt:Option Int->Str
 | none=> "end"
 | some n=>dec n
noncomputable def wordsOf:Told->List Str
 | .aM n=>["player",n]
 | .bB n t l=>["instrument",n,dec t.1,dec t.2,ik l]
 | .bf n ps=> "staff":: n::ps
 | .bar b=> "bar":: (dec b.bM.1 ++"/" ++ dec b.bM.2)::dec b.key::b.marks
 | .aI l=>["upbeat",ik l]
 | .holds p b i=>["holds",p,dec b,i]
 | .aF b p its=> "notes":: dec b::p::its.map vn
 | .rep r=> "repeat":: dec r.first::dec r.last::dec r.times::r.ends.map Fj
 | .b3 j=>["jump",dec j.Bd,dec j.CZ,dec j.df,ctxt j.kP]
noncomputable def rowOf (t:Told):Str:=Str.join " " (wordsOf t)
def NB (n:Int):Prop:=0<=n/\n<1000
def LX:Told->Prop
 | .aM n=>cY n
 | .bB n t l=>cY n/\LL t/\-12<=t.1/\t.1<=12/\Lm.Rd l/\l.1<10000/\l.2<10000
 | .bf n ps=>cY n/\ps≠[]/\∀p∈ps,cY p
 | .bar b=>1<=b.bM.1/\b.bM.1<=32/\b.bM.2∈qF/\-7<=b.key/\b.key<=7/\∀m∈b.marks,cY m
 | .aI l=>LP l
 | .holds p b i=>cY p/\NB b/\cY i
 | .aF b p its=>NB b/\cY p/\(∀it∈its,Ny it)/\its.all (λit=>it.1.isNone)=false
 | .rep r=>NB r.first/\NB r.last/\2<=r.times/\r.times<=9/\∀e∈r.ends,Pe e
 | .b3 j=>NB j.Bd/\NB j.CZ/\NB j.df/\∀c,j.kP=some c->NB c
def Ew (h:∀p∈l,cY p):i7 (l.map bo)=some l:=by
 have:=jF (f:=bo) (g:=λx:Str=>x) (l:=l) h
 rwa [List.map_id'] at this
def pA (h:LX t):d6 (wordsOf t)=some t:=by
 cases t with
 | aM n=>
  show(bo n).map Told.aM=_;rw[show bo n=some n from h];rfl
 | bB n t l=>
  let⟨h1,h2,h3,h4,h5,h6,h7⟩:=h;show(hX [n,dec t.1,dec t.2,ik l]).map (λx=>Told.bB x.1 x.2.1 x.2.2)=_;unfold hX;dsimp only;rw[show bo n=some n from h1,EX h2 h3 h4,A9 h5 h6 h7];rfl
 | bf n ps=>
  let⟨h1,h2,h3⟩:=h;show(kC (n::ps)).map (λx=>Told.bf x.1 x.2)=_;let⟨b,r,rfl⟩:=List.exists_cons_of_ne_nil h2;rw[kB,Ew (l:=n::b::r) λp hp=>by
   rcases zw.mp hp with e | e
   ·rw[e];exact h1
   ·exact h3 p e]
  rfl
 | bar b=>
  let⟨h1,h2,h3,h4,h5,h6⟩:=h;show(pE ((dec b.bM.1 ++"/" ++ dec b.bM.2)::dec b.key::b.marks)).map Told.bar=_;unfold pE;dsimp only;rw[Ew h6,CH h1 h2 h3,Gw h4 h5];rfl
 | aI l=>
  show(lr (ik l)).map Told.aI=_;rw[vm h];rfl
 | holds p b i=>
  let⟨h1,h2,h3⟩:=h;show(lE [p,dec b,i]).map (λx=>Told.holds x.1 x.2.1 x.2.2)=_;unfold lE;dsimp only;rw[show bo p=some p from h1,cZ h2.1 h2.2,show bo i=some i from h3];rfl
 | aF b p its=>
  let⟨h1,h2,h3,h4⟩:=h;show(gB (dec b::p::its.map vn)).map (λx=>Told.aF x.1 x.2.1 x.2.2)=_;cases its with
  | nil=>cases h4
  | cons i r=>
   show(gB (dec b::p::vn i::r.map vn)).map _=_;unfold gB;let e:=jF (f:=ir) (g:=vn) (l:=i::r) λx hx=>Jp (h3 x hx);rw[zf] at e;dsimp only;rw[e];dsimp only;rw[h4,cZ h1.1 h1.2,show bo p=some p from h2];rfl
 | rep r=>
  let⟨h1,h2,h3,h4,h5⟩:=h;show(gk (dec r.first::dec r.last::dec r.times::r.ends.map Fj)).map Told.rep=_;unfold gk;dsimp only;rw[jF λx hx=>Gx (h5 x hx),cZ h1.1 h1.2,cZ h2.1 h2.2,sS () () h3 h4];rfl
 | b3 j=>
  let⟨h1,h2,h3,h4⟩:=h;show(m7 [dec j.Bd,dec j.CZ,dec j.df,ctxt j.kP]).map Told.b3=_;unfold m7;dsimp only;rw[cZ h1.1 h1.2,cZ h2.1 h2.2,cZ h3.1 h3.2];let⟨a,b,c,d⟩:=j;cases d with
  | none=>rfl
  | some n=>
   dsimp only[ctxt];rw[cZ (h4 n rfl).1 (h4 n rfl).2];rfl
def DO (h:LX t):∀w∈wordsOf t,Ex w:=by
 let lit:∀s:Str,s≠ ""->32∉s.cps.toList->10∉s.cps.toList->Ex s:=λs a b c=>{(a),b,c}
 cases t with
 | aM n=>
  intro w hw;simp only[wordsOf,zw,zy,yI] at hw;rcases hw with rfl | rfl
  ·exact lit _ ∅ ∅ ∅
  ·exact cY.w h
 | bB n t l=>
  intro w hw;simp only[wordsOf,zw,zy,yI] at hw;rcases hw with rfl | rfl | rfl | rfl | rfl
  ·exact lit _ ∅ ∅ ∅
  ·exact cY.w h.1
  ·exact dj _
  ·exact dj _
  ·exact pU _
 | bf n ps=>
  intro w hw;simp only[wordsOf,zw] at hw;rcases hw with rfl | rfl | hw
  ·exact lit _ ∅ ∅ ∅
  ·exact cY.w h.1
  ·exact cY.w (h.2.2 _ hw)
 | bar b=>
  intro w hw;simp only[wordsOf,zw] at hw;rcases hw with rfl | rfl | rfl | hw
  ·exact lit _ ∅ ∅ ∅
  ·exact v8 (dj _) ∅ ∅ (dj _)
  ·exact dj _
  ·exact cY.w (h.2.2.2.2.2 _ hw)
 | aI l=>
  intro w hw;simp only[wordsOf,zw,zy,yI] at hw;rcases hw with rfl | rfl
  ·exact lit _ ∅ ∅ ∅
  ·exact pU _
 | holds p b i=>
  intro w hw;simp only[wordsOf,zw,zy,yI] at hw;rcases hw with rfl | rfl | rfl | rfl
  ·exact lit _ ∅ ∅ ∅
  ·exact cY.w h.1
  ·exact dj _
  ·exact cY.w h.2.2
 | aF b p its=>
  intro w hw;simp only[wordsOf,zw,zC] at hw;rcases hw with rfl | rfl | rfl | ⟨x,_,rfl⟩
  ·exact lit _ ∅ ∅ ∅
  ·exact dj _
  ·exact cY.w h.2.1
  ·exact Lg _
 | rep r=>
  intro w hw;simp only[wordsOf,zw,zC] at hw;rcases hw with rfl | rfl | rfl | rfl | ⟨x,_,rfl⟩
  ·exact lit _ ∅ ∅ ∅
  ·exact dj _
  ·exact dj _
  ·exact dj _
  ·exact LB _
 | b3 j=>
  intro w hw;simp only[wordsOf,zw,zy,yI] at hw;rcases hw with rfl | rfl | rfl | rfl | rfl
  ·exact lit _ ∅ ∅ ∅
  ·exact dj _
  ·exact dj _
  ·exact dj _
  ·unfold ctxt
   cases j.kP with
   | none=>exact lit _ ∅ ∅ ∅
   | some n=>exact dj _
def Cc (t:Told):wordsOf t≠[]:=by cases t <;> simp[wordsOf]
def sU (h:LX t):words (rowOf t)=wordsOf t:=oy (Cc t) (DO h)
def lB (h:LX t):10∉(rowOf t).cps.toList:=jX ∅ λw hw=>(DO h w hw).2.2
noncomputable def kindOf:HO->Nat
 | .lst _=>0
 | .tup _=>1
 | .ins _ _ _=>2
 | .dK _=>3
 | .dT _=>4
 | _=>5
def aH {H:Hp} {a b:wJ} {u v:HO} (h1:H a=some u) (h2:H b=some v) (k:kindOf u≠kindOf v):a≠b:=λz=>by
 rw[z,h2] at h1;cases h1;exact k rfl
noncomputable def own (a:wJ) (o:Ow):List wJ:=[a,o.pl,o.ins,o.st,o.ba,o.ho,o.no,o.re]++o.hs++o.ns
def og (L:List wJ) (H H':Hp):Prop:=∀b u,b∉L->H b=some u->H' b=some u
def og.of (s:au H H'):og L H H':=λb u _ h=>s b u h
def og.trans (s:og L H H') (t:og L H' H''):og L H H'':=λb u n h=>t b u n (s b u n h)
theorem og.upd (h:x∈L):og L H (L2.upd H x o):=λb u n e=>by
 rw[aq (λz=>n (by rw[z];exact h))];exact e
structure Nd (o:Ow):Prop where
 pb:o.pl≠o.ba
 pr:o.pl≠o.re
 ph:o.pl∉o.hs
 pn:o.pl∉o.ns
 br:o.ba≠o.re
 bh:o.ba∉o.hs
 bn:o.ba∉o.ns
 rh:o.re∉o.hs
 rn:o.re∉o.ns
 hh:o.hs.Nodup
 nn:o.ns.Nodup
 hn:∀x∈o.hs,x∉o.ns
def Nd.of (h:o.lists.Nodup):Nd o:=by
 unfold Ow.lists at h;rw[zN] at h;let⟨h1,h2,h3⟩:=h;rw[zN] at h1;let⟨h4,h5,h6⟩:=h1;simp only[zT,zw,zy,yI,not_or] at h4;refine{h4.1.1,h4.1.2,λz=>?_,λz=>?_,h4.2.1,λz=>?_,λz=>?_,λz=>?_,λz=>?_,h5,h2,λx hx z=>?_}
 ·exact h6 o.pl (by simp) o.pl z rfl
 ·exact h3 o.pl (by simp) o.pl z rfl
 ·exact h6 o.ba (by simp) o.ba z rfl
 ·exact h3 o.ba (by simp) o.ba z rfl
 ·exact h6 o.re (by simp) o.re z rfl
 ·exact h3 o.re (by simp) o.re z rfl
 ·exact h3 x (by simp[hx]) x z rfl
def Nd.to (h:Nd o):o.lists.Nodup:=by
 unfold Ow.lists;rw[zN];refine{?_,h.nn,?_}
 ·rw[zN]
  refine{?_,h.hh,?_}
  ·simp only[zT,zw,zy,yI,not_or]
   exact{{(h.pb),h.pr},h.br,λz=>z,xE}
  ·intro x hx y hy e
   subst e;simp only[zw,zy,yI] at hx;rcases hx with rfl | rfl | rfl
   ·exact h.ph hy
   ·exact h.bh hy
   ·exact h.rh hy
 ·intro x hx y hy e
  subst e;rw[zB] at hx;rcases hx with hx | hx
  ·simp only[zw,zy,yI] at hx
   rcases hx with rfl | rfl | rfl
   ·exact h.pn hy
   ·exact h.bn hy
   ·exact h.rn hy
  ·exact h.hn x hx hy
section
variable {C a x:wJ} {H:Hp} {S:bZ} {o:Ow} {u:HO}
def aY.tm (h:aY C H a S o) (nx:b8 (H x)) (n:a≠x):Pa C (L2.upd H x u) a o S.aI S.b3:=by
 let⟨ub,jm,h1,h2,h3⟩:=h.obj;exact{ub,jm,by rw[aq n];exact h1,Is.upd nx h2,Is.upd nx h3}
def aY.uT (h:aY C H a S o) (n:o.pl≠x):L2.upd H x u o.pl=some (.lst (S.players.map V.str)):=by rw[aq n];exact h.pl
def aY.lR (h:aY C H a S o) (nx:b8 (H x)) (n:o.ins≠x):Ic (L2.upd H x u) HM o.ins S.instruments:=by
 let⟨vs,h1,h2⟩:=h.ins;exact{vs,by rw[aq n];exact h1,av.upd nx h2}
def aY.ui (h:aY C H a S o) (nx:b8 (H x)) (n:o.st≠x):Ic (L2.upd H x u) JH o.st S.aG:=by
 let⟨vs,h1,h2⟩:=h.st;exact{vs,by rw[aq n];exact h1,av.upd nx h2}
def aY.vZ (h:aY C H a S o) (nx:b8 (H x)) (n:o.ba≠x):FN (L2.upd H x u) qv o.ba S.bars:=by
 let⟨vs,h1,h2⟩:=h.ba;exact{vs,by rw[aq n];exact h1,av.upd nx h2}
def aY.uQ (h:aY C H a S o) (nx:b8 (H x)) (n:o.re≠x):FN (L2.upd H x u) j6 o.re S.repeats:=by
 let⟨vs,h1,h2⟩:=h.re;exact{vs,by rw[aq n];exact h1,av.upd nx h2}
def aY.Bf (h:aY C H a S o) (nx:b8 (H x)) (n:o.ho≠x) (nn:x∉o.hs):L2.upd H x u o.ho=some (.dK ((S.holds.map λx=>kS x.1).zip (o.hs.map V.ref)))/\bg (L2.upd H x u) JI (S.holds.map (·.2)) o.hs:=
 {by rw[aq n];exact h.ho.1,bg.upd nx nn h.ho.2}
def aY.vf (h:aY C H a S o) (nx:b8 (H x)) (n:o.no≠x) (nn:x∉o.ns):L2.upd H x u o.no=some (.dT ((S.aF.map λx=>kN x.1).zip (o.ns.map V.ref)))/\bg (L2.upd H x u) fT (S.aF.map (·.2)) o.ns:=
 {by rw[aq n];exact h.no.1,bg.upd nx nn h.no.2}
end
theorem bz:∀{ls:List (List α)} {as:List wJ},bg H d ls as->x∈as->∃vs,H x=some (.lst vs)
 | [],_,h,hx=>by unfold bg at h;subst h;simp at hx
 | l::r,_,⟨a,t,vs,e,h1,_,h3⟩,hx=>by
  subst e;rcases zw.mp hx with rfl | hx
  ·exact{(vs),h1}
  ·exact bz h3 hx
theorem bg.snoc (hx:H x=some (.lst vs)) (im:av H (m.map d) vs):∀{ls:List (List α)} {as:List wJ},bg H d ls as->bg H d (ls++[m]) (as++[x])
 | [],_,h=>by unfold bg at h;subst h;exact{x,[],vs,rfl,hx,im,rfl}
 | l::r,_,⟨a,t,vs',e,h1,h2,h3⟩=>by
  subst e;exact{a,t++[x],vs',rfl,h1,h2,bg.snoc hx im h3}
def F1 (h:l.length=m.length) (x:α) (y:β):(l++[x]).zip (m++[y])=l.zip m++[(x,y)]:=by
 rw[List.zip_append h];rfl
def lF {κ:Type} [DecidableEq κ] {ks:List κ} {vs:List V} (hl:⇑ks=⇑vs) {k:κ} {v:V} (h:cR (ks.zip vs) k=none):putK (ks.zip vs) k v=(ks++[k]).zip (vs++[v]):=by
 rw[F1 hl];exact GH v h
theorem tG (p:Str):∀{hs:List (Str×List α)} {as:List wJ},bg H d (hs.map (·.2)) as->as.Nodup->(hs.map (·.1)).Nodup->p∈hs.map (·.1)->
  ∃x vs,cR ((hs.map λx=>kS x.1).zip (as.map V.ref)) (kS p)=some (.ref x)/\x∈as/\H x=some (.lst vs)/\∀y e,Is (L2.upd H x (.lst (vs++[y]))) (d e) y->
   bg (L2.upd H x (.lst (vs++[y]))) d ((hs.map λq=>if q.1=p then(q.1,q.2++[e]) else q).map (·.2)) as
 | [],_,_,_,_,h=>by simp at h
 | (k,l)::r,_,hL,na,nk,hm=>by
  rw[zf] at hL;let⟨a,t,vs,rfl,h1,h2,h3⟩:=hL;rw[zf,zT] at nk;rw[zT] at na
  by_cases e:k=p
  ·subst e
   refine{a,vs,?_,zk,h1,λy e iy=>?_}
   ·rw[zf,zf,yK]
    unfold cR;rw[yG];simp
   ·let nx:b8 (H a):=by rw[h1];exact λ_ z=>by cases z
    let er:(r.map λq=>if q.1=k then(q.1,q.2++[e]) else q)=r:=by
     conv=>rhs;rw[<-List.map_id r]
     refine y8 λq hq=>?_;rw[yB (λz=>nk.1 (by rw[show(k,l).1=q.1 from z.symm];exact zK (f:=λx:Str×List α=>x.1) hq))];rfl
    rw[zf,zf,yC rfl,er];refine{a,t,vs++[y],rfl,az,?_,bg.upd nx na.1 h3};rw[zg];exact eK iy (av.upd nx h2)
  ·let hm':p∈r.map (·.1):=by
    rcases zw.mp hm with z | z
    ·exact absurd z.symm e
    ·exact z
   let⟨x,vs',e1,e2,e3,e4⟩:=tG p h3 na.2 nk.2 hm';refine{x,vs',?_,zj _ e2,e3,λy e iy=>?_}
   ·let e':¬kS k=kS p:=λz=>e (we z)
    rw[zf,zf,yK];unfold cR at e1 ⊢;rw[yG];simp only[e',decide_false];exact e1
   ·let nx:b8 (H x):=by rw[e3];exact λ_ z=>by cases z
    rw[zf,zf,yB (by assumption)];refine{a,t,vs,rfl,?_,av.upd nx h2,e4 y e iy};rw[aq (λz=>na.1 (by rw[z];exact e2))];exact h1
section
variable {C a:wJ} {H:Hp} {S:bZ} {o:Ow}
def aY.Dy (h:aY C H a S o) (n:Str):aY C (L2.upd H o.pl (.lst (S.players.map V.str++[.str n]))) a (aQ S (.aM n)) o:=by
 let d:=Nd.of h.nd;let hp:=h.pl;let nx:b8 (H o.pl):=by rw[hp];exact λ_ z=>by cases z
 let⟨_,_,ha,_⟩:=h.obj;let⟨_,hi,_⟩:=h.ins;let⟨_,hs,_⟩:=h.st;exact{h.tm nx (aH ha hp (by simp[kindOf])),by rw[az];show _=some (HO.lst ((S.players++[n]).map V.str));rw[zg];rfl,h.lR nx (aH hi hp (by simp[kindOf])),h.ui nx (aH hs hp (by simp[kindOf])),h.vZ nx d.pb.symm,
  h.Bf nx (aH h.ho.1 hp (by simp[kindOf])) d.ph,h.vf nx (aH h.no.1 hp (by simp[kindOf])) d.pn,h.uQ nx d.pr.symm,h.nd,h.dd}
def aY.JM (h:aY C H a S o) {b:FY} {v:V} {vs:List V} (hb:H o.ba=some (.lst vs)) (il:av H (S.bars.map qv) vs) (iv:Is H (qv b) v):aY C (L2.upd H o.ba (.lst (vs++[v]))) a (aQ S (.bar b)) o:=by
 let d:=Nd.of h.nd;let nx:b8 (H o.ba):=by rw[hb];exact λ_ z=>by cases z
 let⟨_,_,ha,_⟩:=h.obj;let⟨_,hi,_⟩:=h.ins;let⟨_,hs,_⟩:=h.st;refine{h.tm nx (aH ha hb (by simp[kindOf])),h.uT d.pb,h.lR nx (aH hi hb (by simp[kindOf])),h.ui nx (aH hs hb (by simp[kindOf])),{_,az,?_},
  h.Bf nx (aH h.ho.1 hb (by simp[kindOf])) d.bh,h.vf nx (aH h.no.1 hb (by simp[kindOf])) d.bn,h.uQ nx d.br.symm,h.nd,h.dd}
 show av _ ((S.bars++[b]).map qv) _;rw[zg];exact eK (Is.upd nx iv) (av.upd nx il)
def aY.JL (h:aY C H a S o) {r:Rep} {v:V} {vs:List V} (hb:H o.re=some (.lst vs)) (il:av H (S.repeats.map j6) vs) (iv:Is H (j6 r) v):aY C (L2.upd H o.re (.lst (vs++[v]))) a (aQ S (.rep r)) o:=by
 let d:=Nd.of h.nd;let nx:b8 (H o.re):=by rw[hb];exact λ_ z=>by cases z
 let⟨_,_,ha,_⟩:=h.obj;let⟨_,hi,_⟩:=h.ins;let⟨_,hs,_⟩:=h.st;refine{h.tm nx (aH ha hb (by simp[kindOf])),h.uT d.pr,h.lR nx (aH hi hb (by simp[kindOf])),h.ui nx (aH hs hb (by simp[kindOf])),h.vZ nx d.br,
  h.Bf nx (aH h.ho.1 hb (by simp[kindOf])) d.rh,h.vf nx (aH h.no.1 hb (by simp[kindOf])) d.rn,{_,az,?_},h.nd,h.dd}
 show av _ ((S.repeats++[r]).map j6) _;rw[zg];exact eK (Is.upd nx iv) (av.upd nx il)
def oz {n:Str} {ks:List Str} {vs:List V} (h:n∉ks):cR ((ks.map kS).zip vs) (kS n)=none:=by
 unfold cR;rw[Option.map_eq_none_iff,xu];intro x hx z;let e:=zU z;let m:=(xQ hx).1;let⟨k,hk,ek⟩:=zC.mp m;rw[<-ek] at e;exact h ((we e)▸hk)
def HJ (h:[o.ins,o.st,o.ho].Nodup):o.ins≠o.st/\o.ins≠o.ho/\o.st≠o.ho:=by
 simp only[zT,zw,zy,yI,not_or] at h;exact{(h.1.1),h.1.2,h.2.1}
def aY.FH (h:aY C H a S o) {n:Str} {t l:Int×Int} {p:wJ} {vs:List V} (hb:H o.ins=some (.dK ((S.instruments.map λx=>kS x.1).zip vs))) (il:av H (S.instruments.map HM) vs) (iv:Is H (HM (n,t,l)) (.ref p))
  (fr:n∉S.instruments.map (·.1)):aY C (L2.upd H o.ins (.dK (putK ((S.instruments.map λx=>kS x.1).zip vs) (kS n) (.ref p)))) a (aQ S (.bB n t l)) o:=by
 let d:=Nd.of h.nd;let⟨d1,d2,d3⟩:=HJ h.dd;let nx:b8 (H o.ins):=by rw[hb];exact λ_ z=>by cases z
 let⟨_,_,ha,_⟩:=h.obj;let⟨_,hba,_⟩:=h.ba;let⟨_,hre,_⟩:=h.re;let vl:=aR il;let em:(S.instruments.map λx=>kS x.1)=(S.instruments.map (·.1)).map kS:=by rw[zu];rfl
 let hns:o.ins∉o.ns:=λz=>by
  let⟨_,q⟩:=bz h.no.2 z;rw[hb] at q;cases q
 let hhs:o.ins∉o.hs:=λz=>by
  let⟨_,q⟩:=bz h.ho.2 z;rw[hb] at q;cases q
 refine{h.tm nx (aH ha hb (by simp[kindOf])),h.uT (aH h.pl hb (by simp[kindOf])),{vs++[.ref p],?_,?_},h.ui nx d1.symm,h.vZ nx (aH hba hb (by simp[kindOf])),
  h.Bf nx d2.symm hhs,h.vf nx (aH h.no.1 hb (by simp[kindOf])) hns,h.uQ nx (aH hre hb (by simp[kindOf])),h.nd,h.dd}
 ·rw[az,lF (by rw[za];exact vl.symm) (by rw[em];exact oz fr)]
  show _=some (HO.dK (((S.instruments++[(n,t,l)]).map λx=>kS x.1).zip (vs++[.ref p])));rw[zg];rfl
 ·show av _ ((S.instruments++[(n,t,l)]).map HM) _
  rw[zg];exact eK (Is.upd nx iv) (av.upd nx il)
def aY.FF (h:aY C H a S o) {n:Str} {ps:List Str} {v:V} {vs:List V} (hb:H o.st=some (.dK ((S.aG.map λx=>kS x.1).zip vs))) (il:av H (S.aG.map JH) vs) (iv:Is H (JH (n,ps)) v)
  (fr:n∉S.aG.map (·.1)):aY C (L2.upd H o.st (.dK (putK ((S.aG.map λx=>kS x.1).zip vs) (kS n) v))) a (aQ S (.bf n ps)) o:=by
 let d:=Nd.of h.nd;let⟨d1,d2,d3⟩:=HJ h.dd;let nx:b8 (H o.st):=by rw[hb];exact λ_ z=>by cases z
 let⟨_,_,ha,_⟩:=h.obj;let⟨_,hba,_⟩:=h.ba;let⟨_,hre,_⟩:=h.re;let vl:=aR il;let em:(S.aG.map λx=>kS x.1)=(S.aG.map (·.1)).map kS:=by rw[zu];rfl
 let hns:o.st∉o.ns:=λz=>by
  let⟨_,q⟩:=bz h.no.2 z;rw[hb] at q;cases q
 let hhs:o.st∉o.hs:=λz=>by
  let⟨_,q⟩:=bz h.ho.2 z;rw[hb] at q;cases q
 refine{h.tm nx (aH ha hb (by simp[kindOf])),h.uT (aH h.pl hb (by simp[kindOf])),h.lR nx d1,{vs++[v],?_,?_},h.vZ nx (aH hba hb (by simp[kindOf])),
  h.Bf nx d3.symm hhs,h.vf nx (aH h.no.1 hb (by simp[kindOf])) hns,h.uQ nx (aH hre hb (by simp[kindOf])),h.nd,h.dd}
 ·rw[az,lF (by rw[za];exact vl.symm) (by rw[em];exact oz fr)]
  show _=some (HO.dK (((S.aG++[(n,ps)]).map λx=>kS x.1).zip (vs++[v])));rw[zg];rfl
 ·show av _ ((S.aG++[(n,ps)]).map JH) _
  rw[zg];exact eK (Is.upd nx iv) (av.upd nx il)
def EE {n:Int×Str} {ks:List (Int×Str)} {vs:List V} (h:n∉ks):cR ((ks.map kN).zip vs) (kN n)=none:=by
 unfold cR;rw[Option.map_eq_none_iff,xu];intro x hx z;let e:=zU z;let m:=(xQ hx).1;let⟨k,hk,ek⟩:=zC.mp m;rw[<-ek] at e;unfold kN at e;simp at e;have:k=n:=Prod.ext e.1 e.2;exact h (this▸hk)
def aY.FG (h:aY C H a S o) {b:Int} {pn:Str} {its:List Item} {q:wJ} {us:List V} (hq:H q=some (.lst us)) (iq:av H (its.map fT) us) (nq:q∉o.lists) (fr:(b,pn)∉S.aF.map (·.1)) :
  aY C (L2.upd H o.no (.dT (putK ((S.aF.map λx=>kN x.1).zip (o.ns.map V.ref)) (kN (b,pn)) (.ref q)))) a (aQ S (.aF b pn its)) {o with ns:=o.ns++[q]}:=by
 let d:=Nd.of h.nd;let hb:=h.no.1;let nx:b8 (H o.no):=by rw[hb];exact λ_ z=>by cases z
 let⟨ub,jm,ha,hub,hjm⟩:=h.obj;let⟨_,hi,_⟩:=h.ins;let⟨_,hs,_⟩:=h.st;let⟨_,hba,_⟩:=h.ba;let⟨_,hre,_⟩:=h.re;let em:(S.aF.map λx=>kN x.1)=(S.aF.map (·.1)).map kN:=by rw[zu];rfl
 let hns:o.no∉o.ns:=λz=>by
  let⟨_,q⟩:=bz h.no.2 z;rw[hb] at q;cases q
 let hhs:o.no∉o.hs:=λz=>by
  let⟨_,q⟩:=bz h.ho.2 z;rw[hb] at q;cases q
 let ll:⇑(o.ns.map V.ref)=⇑S.aF:=by
  have:∀{ls:List (List Item)} {as:List wJ},bg H fT ls as->⇑as=⇑ls:=by
   intro ls
   induction ls with
   | nil=>intro as z;unfold bg at z;rw[z];rfl
   | cons l r ih=>rintro _ ⟨a,t,vs,rfl,_,_,h3⟩;rw[zo,zo,ih h3]
  rw[za,this h.no.2,za]
 let nn:q∉[o.pl,o.ba,o.re]/\q∉o.hs/\q∉o.ns:=by
  unfold Ow.lists at nq;rw[zB,zB] at nq;exact{λz=>nq (.inl (.inl z)),λz=>nq (.inl (.inr z)),λz=>nq (.inr z)}
 let⟨n1,n2,n3⟩:=nn;simp only[zw,zy,yI,not_or] at n1;refine{{ub,jm,by rw[aq (aH ha hb (by simp[kindOf]))];exact ha,Is.upd nx hub,Is.upd nx hjm},h.uT (aH h.pl hb (by simp[kindOf])),h.lR nx (aH hi hb (by simp[kindOf])),h.ui nx (aH hs hb (by simp[kindOf])),h.vZ nx (aH hba hb (by simp[kindOf])),
  h.Bf nx (aH h.ho.1 hb (by simp[kindOf])) hhs,{?_,?_},h.uQ nx (aH hre hb (by simp[kindOf])),?_,h.dd}
 ·show L2.upd H o.no _ o.no=some (HO.dT (((S.aF++[((b,pn),its)]).map λx=>kN x.1).zip ((o.ns++[q]).map V.ref)))
  rw[az,lF (by rw[za];exact ll.symm) (by rw[em];exact EE fr),zg,zg];rfl
 ·show bg _ fT ((S.aF++[((b,pn),its)]).map (·.2)) (o.ns++[q])
  rw[zg];exact bg.snoc (by rw[aq (aH hq hb (by simp[kindOf]))];exact hq) (av.upd nx iq) (bg.upd nx hns h.no.2)
 ·refine Nd.to {d.pb,d.pr,d.ph,?_,d.br,d.bh,?_,d.rh,?_,d.hh,?_,?_}
  ·show o.pl∉o.ns++[q]
   rw[zB,zt];rintro(z | z)
   ·exact d.pn z
   ·exact n1.1 z.symm
  ·show o.ba∉o.ns++[q]
   rw[zB,zt];rintro(z | z)
   ·exact d.bn z
   ·exact n1.2.1 z.symm
  ·show o.re∉o.ns++[q]
   rw[zB,zt];rintro(z | z)
   ·exact d.rn z
   ·exact n1.2.2 z.symm
  ·show(o.ns++[q]).Nodup
   rw[zN];exact{d.nn,by simp,λx hx y hy e=>by rw[zt] at hy;subst hy;subst e;exact n3 hx}
  ·intro x hx z
   let z':x∈o.ns++[q]:=z;rw[zB,zt] at z';rcases z' with z' | z'
   ·exact d.hn x hx z'
   ·subst z';exact n2 hx
def aY.Dx (h:aY C H a S o) {l:Int×Int} {v ub jm:V} (ha:H a=some (.ins C o.dx (II o ub jm))) (ij:Is H (dO kg S.b3) jm) (iv:Is H (dL l) v):aY C (L2.upd H a (.ins C o.dx (II o v jm))) a (aQ S (.aI l)) o:=by
 let nx:b8 (H a):=by rw[ha];exact λ_ z=>by cases z
 let⟨_,hi,_⟩:=h.ins;let⟨_,hs,_⟩:=h.st;let⟨_,hba,_⟩:=h.ba;let⟨_,hre,_⟩:=h.re;let hns:a∉o.ns:=λz=>by
  let⟨_,q⟩:=bz h.no.2 z;rw[ha] at q;cases q
 let hhs:a∉o.hs:=λz=>by
  let⟨_,q⟩:=bz h.ho.2 z;rw[ha] at q;cases q
 exact{{v,jm,az,Is.upd nx iv,Is.upd nx ij},h.uT (aH h.pl ha (by simp[kindOf])),h.lR nx (aH hi ha (by simp[kindOf])),h.ui nx (aH hs ha (by simp[kindOf])),h.vZ nx (aH hba ha (by simp[kindOf])),
  h.Bf nx (aH h.ho.1 ha (by simp[kindOf])) hhs,h.vf nx (aH h.no.1 ha (by simp[kindOf])) hns,h.uQ nx (aH hre ha (by simp[kindOf])),h.nd,h.dd}
def aY.HV (h:aY C H a S o) {j:Jump} {v ub jm:V} (ha:H a=some (.ins C o.dx (II o ub jm))) (iu:Is H (dO dL S.aI) ub) (iv:Is H (kg j) v):aY C (L2.upd H a (.ins C o.dx (II o ub v))) a (aQ S (.b3 j)) o:=by
 let nx:b8 (H a):=by rw[ha];exact λ_ z=>by cases z
 let⟨_,hi,_⟩:=h.ins;let⟨_,hs,_⟩:=h.st;let⟨_,hba,_⟩:=h.ba;let⟨_,hre,_⟩:=h.re;let hns:a∉o.ns:=λz=>by
  let⟨_,q⟩:=bz h.no.2 z;rw[ha] at q;cases q
 let hhs:a∉o.hs:=λz=>by
  let⟨_,q⟩:=bz h.ho.2 z;rw[ha] at q;cases q
 exact{{ub,v,az,Is.upd nx iu,Is.upd nx iv},h.uT (aH h.pl ha (by simp[kindOf])),h.lR nx (aH hi ha (by simp[kindOf])),h.ui nx (aH hs ha (by simp[kindOf])),h.vZ nx (aH hba ha (by simp[kindOf])),
  h.Bf nx (aH h.ho.1 ha (by simp[kindOf])) hhs,h.vf nx (aH h.no.1 ha (by simp[kindOf])) hns,h.uQ nx (aH hre ha (by simp[kindOf])),h.nd,h.dd}
def aY.GZ (h:aY C H a S o) {pn:Str} {q:wJ} (hq:H q=some (.lst [])) (nq:q∉o.lists) (fr:pn∉S.holds.map (·.1)) :
  aY C (L2.upd H o.ho (.dK (putK ((S.holds.map λx=>kS x.1).zip (o.hs.map V.ref)) (kS pn) (.ref q)))) a {S with holds:=S.holds++[(pn,[])]} {o with hs:=o.hs++[q]}:=by
 let d:=Nd.of h.nd;let⟨d1,d2,d3⟩:=HJ h.dd;let hb:=h.ho.1;let nx:b8 (H o.ho):=by rw[hb];exact λ_ z=>by cases z
 let⟨ub,jm,ha,hub,hjm⟩:=h.obj;let⟨_,hba,_⟩:=h.ba;let⟨_,hre,_⟩:=h.re;let em:(S.holds.map λx=>kS x.1)=(S.holds.map (·.1)).map kS:=by rw[zu];rfl
 let hns:o.ho∉o.ns:=λz=>by
  let⟨_,q⟩:=bz h.no.2 z;rw[hb] at q;cases q
 let hhs:o.ho∉o.hs:=λz=>by
  let⟨_,q⟩:=bz h.ho.2 z;rw[hb] at q;cases q
 let ll:⇑(o.hs.map V.ref)=⇑S.holds:=by
  have:∀{ls:List (List (Int×Str))} {as:List wJ},bg H JI ls as->⇑as=⇑ls:=by
   intro ls
   induction ls with
   | nil=>intro as z;unfold bg at z;rw[z];rfl
   | cons l r ih=>rintro _ ⟨a,t,vs,rfl,_,_,h3⟩;rw[zo,zo,ih h3]
  rw[za,this h.ho.2,za]
 let nn:q∉[o.pl,o.ba,o.re]/\q∉o.hs/\q∉o.ns:=by
  unfold Ow.lists at nq;rw[zB,zB] at nq;exact{λz=>nq (.inl (.inl z)),λz=>nq (.inl (.inr z)),λz=>nq (.inr z)}
 let⟨n1,n2,n3⟩:=nn;simp only[zw,zy,yI,not_or] at n1;refine{{ub,jm,by rw[aq (aH ha hb (by simp[kindOf]))];exact ha,Is.upd nx hub,Is.upd nx hjm},h.uT (aH h.pl hb (by simp[kindOf])),h.lR nx d2,h.ui nx d3,h.vZ nx (aH hba hb (by simp[kindOf])),
  {?_,?_},h.vf nx (aH h.no.1 hb (by simp[kindOf])) hns,h.uQ nx (aH hre hb (by simp[kindOf])),?_,h.dd}
 ·show L2.upd H o.ho _ o.ho=some (HO.dK (((S.holds++[((pn,[]):Str×List (Int×Str))]).map λx:Str×List (Int×Str)=>kS x.1).zip ((o.hs++[q]).map V.ref)))
  rw[az,lF (by rw[za];exact ll.symm) (by rw[em];exact oz fr),zg,zg];rfl
 ·show bg _ JI ((S.holds++[((pn,[]):Str×List (Int×Str))]).map λx:Str×List (Int×Str)=>x.2) (o.hs++[q])
  rw[zg];exact bg.snoc (vs:=[]) (by rw[aq (aH hq hb (by simp[kindOf]))];exact hq) (by show av _ [] [];unfold av;rfl) (bg.upd nx hhs h.ho.2)
 ·refine Nd.to {d.pb,d.pr,?_,d.pn,d.br,?_,d.bn,?_,d.rn,?_,d.nn,?_}
  ·show o.pl∉o.hs++[q]
   rw[zB,zt];rintro(z | z)
   ·exact d.ph z
   ·exact n1.1 z.symm
  ·show o.ba∉o.hs++[q]
   rw[zB,zt];rintro(z | z)
   ·exact d.bh z
   ·exact n1.2.1 z.symm
  ·show o.re∉o.hs++[q]
   rw[zB,zt];rintro(z | z)
   ·exact d.rh z
   ·exact n1.2.2 z.symm
  ·show(o.hs++[q]).Nodup
   rw[zN];exact{d.hh,by simp,λx hx y hy e=>by rw[zt] at hy;subst hy;subst e;exact n2 hx}
  ·intro x hx z
   let hx':x∈o.hs++[q]:=hx;rw[zB,zt] at hx';rcases hx' with hx' | hx'
   ·exact d.hn x hx' z
   ·subst hx';exact n3 z
def aY.jT (h:aY C H a S o) {pn:Str} (nk:(S.holds.map (·.1)).Nodup) (hm:pn∈S.holds.map (·.1)) :
  ∃x vs,cR ((S.holds.map λx=>kS x.1).zip (o.hs.map V.ref)) (kS pn)=some (.ref x)/\x∈o.hs/\H x=some (.lst vs)/\∀y b i,Is H (JI (b,i)) y->aY C (L2.upd H x (.lst (vs++[y]))) a (aQ S (.holds pn b i)) o:=by
 let d:=Nd.of h.nd;let⟨x,vs,e1,e2,e3,e4⟩:=tG pn h.ho.2 d.hh nk hm;refine{x,vs,e1,e2,e3,λy b i iy=>?_};let nx:b8 (H x):=by rw[e3];exact λ_ z=>by cases z
 let⟨ub,jm,ha,hub,hjm⟩:=h.obj;let⟨_,hi,_⟩:=h.ins;let⟨_,hs,_⟩:=h.st;let ea:aQ S (.holds pn b i)={S with holds:=S.holds.map λq:Str×List (Int×Str)=>if q.1=pn then(q.1,q.2++[(b,i)]) else q}:=by
  show({S with holds:=cM S.holds pn (b,i)}:bZ)=_;unfold cM;rw[yC hm]
 rw[ea];refine{h.tm nx (aH ha e3 (by simp[kindOf])),h.uT (λz=>d.ph (by rw[z];exact e2)),h.lR nx (aH hi e3 (by simp[kindOf])),h.ui nx (aH hs e3 (by simp[kindOf])),h.vZ nx (λz=>d.bh (by rw[z];exact e2)),
  {?_,e4 y (b,i) (Is.upd nx iy)},h.vf nx (aH h.no.1 e3 (by simp[kindOf])) (d.hn x e2),h.uQ nx (λz=>d.rh (by rw[z];exact e2)),h.nd,h.dd}
 rw[aq (aH h.ho.1 e3 (by simp[kindOf])),h.ho.1];show _=some (HO.dK (((S.holds.map λq:Str×List (Int×Str)=>if q.1=pn then(q.1,q.2++[(b,i)]) else q).map λx:Str×List (Int×Str)=>kS x.1).zip _));rw[zu];have:(S.holds.map λx:Str×List (Int×Str)=>kS x.1)=S.holds.map ((λx:Str×List (Int×Str)=>kS x.1)∘λq:Str×List (Int×Str)=>if q.1=pn then(q.1,q.2++[(b,i)]) else q):=by
  refine y8 λq _=>?_;show kS q.1=kS (if q.1=pn then((q.1,q.2++[(b,i)]):Str×List (Int×Str)) else q).1;split <;> rfl
 rw[this]
end
end Sc
namespace L2
open PySem PySem.Spec PyProof.Rows
noncomputable def noStar:Expr->Bool
 | .Starred ..=>false
 | _=>true
def EN (h:noStar e=true):starEach (e::es) env=(false,eval e env)::starEach es env:=by
 cases e <;> first | rfl | (simp[noStar] at h)
def aj (ha:PE X e te) (hr:PA X es t) (hs:noStar e=true<|>qe_):PA X (e::es) (cB te t):=aa ha hr (EN hs)
end L2
namespace Sc
open PySem L2 Lm
def iC (F:Nat->Dt) (PU:St->Prop) (hn:n<=sizeLine) (h0:PU U₀)
  (turn:∀(i:Nat) (U:St) (H:Hp) (R:St->V->Hp->Prop),i<n->au H1 H->PU U->(∀U3 y H5,au H H5->Is H5 (F i) y->PU U3->R U3 y H5)->g (.int (lo+i)) U H λU3 H3=>te U3 H3 λy H5=>R U3 y H5)
  (fin:∀D vs H,au H1 H->H1 D=none->H D=some (.lst vs)->av H ((List.range n).map F) vs->Q (.ref D) H):c8 U₀ g ue te Q (LZ lo n) H1:=by
 refine jE (ws:=List.range n) (enc:=λi=>.int (lo+(i:Nat))) F PU (by rw[zM];exact hn) h0 (λi H hi _=>by rw[zM] at hi;exact hi) (λH _=>by rw[zM];exact zh _) ?_ ?_ fin
 ·rintro i x H H2 hi _ ⟨rfl,rfl⟩
  exact{rfl,by rw[List.getElem_range]}
 ·intro i U H R hi s p r
  exact turn i U H R (yF.mp hi) s p r
def FE {c:Bool} {T:(Bool->Hp->Prop)->Prop} {Z:Bool->Hp->Prop} {H:Hp} (v:Bool) (h1:c=true->∀Z,Z v H->T Z) (h2:c=false->v=false) (hz:Z v H):if c=true then T Z else Z false H:=by
 cases c with
 | true=>rw[yC rfl];exact h1 rfl Z hz
 | false=>rw[yB (by simp)];rw[<-h2 rfl];exact hz
end Sc
namespace Sc
open PySem L2 Lm
def join {c:Bool} {t1 t2:TS} {D:Ends} {U:St} {H:Hp} (P:St->Hp->Prop) (ha:∀N:St->Hp->Prop,(∀U H,P U H->N U H)->c=true->t1 {D with nx:=N} U H)
  (hb:∀N:St->Hp->Prop,(∀U H,P U H->N U H)->c=false->t2 {D with nx:=N} U H) (hN:∀U H,P U H->D.nx U H):if c=true then t1 D U H else t2 D U H:=by
 cases c with
 | true=>rw[yC rfl];exact ha D.nx hN rfl
 | false=>rw[yB (by simp)];exact hb D.nx hN rfl
def bP (h1:-10000<n) (h2:n<10000):⇑(dec n)<=5:=by
 by_cases h:0<=n
 ·have:=Bv h h2;ext
 ·rw[oq (),len_app]
  have:=Bv (n:=-n) () ();have:("-": Str).length=1:=rfl;ext
def cK (h1:-10000<n) (h2:n<10000):n.natAbs.log2<1920:=by
 by_cases z:n.natAbs=0
 ·rw[z];decide
 ·exact zS ((Nat.log2_lt z).mpr (show n.natAbs<2^14 by ext)) ∅
def Fb (h1:-10000<x.1) (h2:x.1<10000) (h3:-10000<x.2) (h4:x.2<10000):⇑(ik x)<=11:=by
 unfold ik;let a:=bP h1 h2;let b:=bP h3 h4;split
 ·ext
 ·rw[len_app,len_app]
  have:("/": Str).length=1:=rfl;ext
theorem Ck {sep:Str} {k:Nat}:∀{zs:List Str},(∀z∈zs,⇑z<=k)->(zs.map (λz:Str=>⇑z+⇑sep)).sum<=⇑zs*(k+⇑sep)
 | [],_=>by simp
 | z::r,h=>by
  let ih:=Ck (sep:=sep) (zs:=r) λy hy=>h y (zj _ hy);have:=h z zk;rw[zf,wc,zo,Nat.succ_mul];ext
theorem join_le (sep:Str):∀zs:List Str,⇑(Str.join sep zs)<=(zs.map (λz:Str=>⇑z+⇑sep)).sum
 | []=>zh _
 | [z]=>by rw[join_one];simp
 | z::y::r=>by
  let ih:=join_le sep (y::r);rw[di,len_app,len_app,zf,wc];ext
def Bb (h:∀z∈zs,⇑z<=k):⇑(Str.join sep zs)<=⇑zs*(k+⇑sep):=zH (join_le sep zs) (Ck h)
@[irreducible] def PK (X:Cx) (s:Stmt) (t:TS):Prop:=PS X s t
@[irreducible] def PL (X:Cx) (e:Expr) (t:TE):Prop:=PE X e t
@[irreducible] def PH (X:Cx) (s:List Stmt) (t:TS):Prop:=sI X s t
end Sc
namespace L2
open PySem PySem.Spec PyProof.Rows
structure Fl (B:wK) (l:List Env) (e:wJ) (cls:wC) (dx:Option wJ) (fl:wC) (h:wK):Prop where
 st:B.StaysIn h
 new:B.get? e=none
 fr:h.FunFrames B l
 ob:∃oe vs T oT ts,h.get? e=some oe/\oe.cls=cls/\oe.dict=dx/\oe.data=.fields vs/\vs[1]?=some (.ref T)/\B.get? T=none/\T≠e/\h.get? T=some oT/\oT.data=.fields ts/\ts[3]?=some fl
def Fo (f:Array wC->Array wC) (o:Obj):(o.mapFields f).dict=o.dict:=by
 let⟨c,d,dt,sl⟩:=o;cases dt <;> rfl
section
variable {M:Model} {A:wH} {E:wC->wD->Prop} {s:wD} {B:wK} {env:Env} {outer l:List Env} {L e:wJ} {Q:Unit->wD->Prop} {cls fl:wC} {dx:Option wJ}
def Bj {oe:Obj} {vs:Array wC} {head:wC} {had:Bool} (hfr:A.frames=some (env::outer)) (hl:s.heap.FunFrames B (env::outer)) (hf:env.frame=some L) (he:s.heap.get? e=some oe) (hb:B.StaysIn s.heap) (hn:B.get? e=none) (hd:oe.data=.fields vs) (h1:1<vs.size)
  (h:∀h',Fl B (env::outer) e oe.cls oe.dict (rawInt L) h'->s.heap.UpToSlots h'->Q .unit {s with heap:=h'}) :
  wpAny M A (do setField (.ref e) 1 (<-EntryCells.newEntry head (<-frameOf env) .none (rawInt L) .none (<-entryPlaceOf L had))) Q E s:=by
 let other:∀b o,s.heap.get? b=some o->(∀ws,o.data≠.fields ws)->b≠e:=λb o q z y=>by subst y;rw[he] at q;cases q;exact z _ hd
 let ne:e∉(env::outer).filterMap (·.frame):=λhm=>by
  let⟨_,o,ho,z⟩:=hl.mem hm;exact other e o ho z rfl
 refine yg (wpAny_frameOf_fun hfr hl hf λg sg=>yg (wpAny_entryPlaceOf λpl hpl=>?_));unfold EntryCells.newEntry newFields;refine yg (yR ?_ (hpl.sizeOk5 _ _ _ _ _));let t3:∃ts,(Data.fields ([head,.ref L,.none,rawInt L,.none]++(if pl.isEmpty then List.replicate 6 Value.none else pl)).toArray)=.fields ts/\ts[3]?=some (rawInt L):={_,rfl,by simp}
 generalize (Data.fields ([head,.ref L,.none,rawInt L,.none]++(if pl.isEmpty then List.replicate 6 Value.none else pl)).toArray)=dt at t3 ⊢;let⟨ts,rfl,t3⟩:=t3;let ge:g.get? e=some oe:=(sg.2.1 e ne).trans he;let lt:e<g.objs.size:=yk ge;let gb:B.StaysIn g:=λb o q=>(sg.2.1 b λhm=>by rw[(hl.mem hm).1] at q;cases q).trans (hb b o q);let pe:=yh {cls:=Value.type "traceback",dict:=none,data:=Data.fields ts} ge;let pt:=yj g (o:={cls:=Value.type "traceback",dict:=none,data:=Data.fields ts}) rfl;refine wpAny_setField pe hd h1 (h _ ?_ ?_)
 ·let kp:∀b o,b≠e->g.get? b=some o->((g.push {cls:=Value.type "traceback",dict:=none,data:=Data.fields ts}).update e (Obj.mapFields (·.setIfInBounds 1 (Value.ref g.objs.size)))).get? b=some o:=λb o z q=>by
   rw[ym _ _ (Ne.symm z)];exact yh _ q
  refine{λb o q=>kp b o (λz=>by subst z;rw[hn] at q;cases q) (gb b o q),hn,hl.of_keeps λb o q z=>?_,?_}
  ·let⟨sl,q'⟩:=sg.2.2 b o q
   exact{_,kp b _ (other b o q z) q',rfl}
  ·let hd':=wx hd (·.setIfInBounds 1 (Value.ref g.objs.size))
   refine{_,_,g.objs.size,_,ts,yn _ pe (Obj.isFreed_of_fields hd'),Obj.cls_mapFields _ _,Fo _ _,hd',by simp[h1],gb.fresh,zY lt,(ym _ _ (zZ lt)).trans pt,rfl,t3}
 ·intro b o q z
  let⟨sl,q'⟩:=sg.2.2 b o q;exact{sl,by rw[ym _ _ (Ne.symm (other b o q z))];exact yh _ q'}
def mQ (x:Fl B l e cls dx fl s.heap) (h:∀h',Fl B l e cls dx .none h'->s.heap.UpToSlots h'->Q .unit {s with heap:=h'}):wpAny M A (setFlight (.ref e) none) Q E s:=by
 let⟨st,new,fr,oe,vs,T,oT,ts,he,hc,hdx,hd,h1,nT,Te,hT,hdT,h3⟩:=x;let nr:∀b o,s.heap.get? b=some o->(∀ws,o.data≠.fields ws)->b≠T:=λb o q z y=>by subst y;rw[hT] at q;cases q;exact z _ hdT
 unfold setFlight;refine yg (yO he hd h1 ?_);rw[yC (show(Value.ref T != Value.none)=true from by simp)];let z3:=(Array.getElem?_eq_some_iff.mp h3).1;let ot:∀b,b≠T->(s.heap.update T (Obj.mapFields (·.setIfInBounds 3 ((none:Option wJ).elim Value.none λf=>rawInt f)))).get? b=s.heap.get? b:=λb z=>ym _ _ (Ne.symm z);let hd':=wx hdT (·.setIfInBounds 3 ((none:Option wJ).elim Value.none λf=>rawInt f));refine wpAny_setField hT hdT z3 (h _ {λb o q=>(ot b λz=>by subst z;rw[nT] at q;cases q).trans (st b o q),new,fr.of_keeps λb o q z=>{o,(ot b (nr b o q z)).trans q,rfl},?_} λb o q z=>{o.slots,(ot b (nr b o q z)).trans q});exact{oe,vs,T,_,_,(ot e (Ne.symm Te)).trans he,hc,hdx,hd,h1,nT,Te,yn _ hT (Obj.isFreed_of_fields hd'),hd',by simp[z3]}
def Hr {oe:Obj} {vs:Array wC} (hfr:A.frames=some (env::outer)) (hl:s.heap.FunFrames B (env::outer)) (hf:env.frame=some L) (he:s.heap.get? e=some oe) (hb:B.StaysIn s.heap) (hn:B.get? e=none) (hd:oe.data=.fields vs) (h1:vs[1]?=some .none)
  (h:∀h',Fl B (env::outer) e oe.cls oe.dict (rawInt L) h'->s.heap.UpToSlots h'->Q .unit {s with heap:=h'}):wpAny M A (noteFrame (.ref e) env) Q E s:=by
 unfold noteFrame;simp only[hf];refine yg (yO he hd h1 ?_);rw[yB ∅];exact Bj hfr hl hf he hb hn hd (Array.getElem?_eq_some_iff.mp h1).1 h
def Ju (hfr:A.frames=some (env::outer)) (hf:env.frame=some L) (x:Fl B (env::outer) e cls dx .none s.heap) (h:∀h',Fl B (env::outer) e cls dx (rawInt L) h'->s.heap.UpToSlots h'->Q .unit {s with heap:=h'}):wpAny M A (noteFrame (.ref e) env) Q E s:=by
 let⟨st,new,fr,oe,vs,T,oT,ts,he,hc,hdx,hd,h1,nT,Te,hT,hdT,h3⟩:=x;let nr:∀b o,s.heap.get? b=some o->(∀ws,o.data≠.fields ws)->b≠T:=λb o q z y=>by subst y;rw[hT] at q;cases q;exact z _ hdT
 unfold noteFrame;simp only[hf];refine yg (yO he hd h1 ?_);rw[yC (show(Value.ref T != Value.none)=true from by simp)];refine yg (yO hT hdT h3 ?_);rw[yB (show¬((Value.none == rawInt L)=true) from by simp[rawInt])];let ot:∀b,b≠T->(s.heap.update T (Obj.mapFields (·.setIfInBounds 3 Value.none))).get? b=s.heap.get? b:=λb z=>ym _ _ (Ne.symm z);refine yg (wpAny_setField hT hdT (Array.getElem?_eq_some_iff.mp h3).1 ?_);subst hc hdx;refine Bj hfr (fr.of_keeps λb o q z=>{o,(ot b (nr b o q z)).trans q,rfl}) hf ((ot e (Ne.symm Te)).trans he) (λb o q=>(ot b λz=>by subst z;rw[nT] at q;cases q).trans (st b o q)) new hd (Array.getElem?_eq_some_iff.mp h1).1 λh' x u=>h h' x λb o q z=>u b o ((ot b (nr b o q z)).trans q) z
end
section
variable {K:yo} {D x:wJ} {prog:wF} {w:wG} {A:wH} {E:wC->wD->Prop} {h:wK} {g:Array GenState} {d:Drawn} {t:Nat} {os:OsState} {name:Str} {v:wC} {o:Obj} {dx:wJ} {mA:Str->Option wC}
def Io {M:Model} (X:K.In h) (hx:h.get? x=some o) (hc:o.cls=.ref D) (hno:PySem.W.notCls o=true) (hd:o.dict=some dx) (hn:h.Ns1 dx mA) (hh:PySem.W.hasDictIn K D=true) (ha:PySem.W.findIn K (.ref D) name=some none) (hv:mA name=some v) :
  PySem.W.Looks M h (Builtin.ObjectAttr.find (.ref x) (.ref D) name) (.value v):=by
 let⟨od,ho,hl⟩:=mI hn;exact PySem.W.looks_find X (od:=some od) {hx,hc,hno,by rw[hd];exact ho} (PySem.W.findObj_own hh ha rfl (by rw[hl,hv]))
open Builtin Builtin.ObjectAttr in
def F8 {tk:Tok} {Q:Fin->wD->Prop} (hx:h.get? x=some o) (hc:o.cls=.ref D) (L:PySem.W.Looks (model prog w) h (find (.ref x) (.ref D) name) (.value v)) (hq:Q (.done (.ret v)) {(h),g,d,t,os}) :
  wpAny (model prog w) A (Builtin.«object.__getattribute__» {[.ref x,.str name tk],[]}) Q E {(h),g,d,t,os}:=by
 unfold Builtin.«object.__getattribute__»
 repeat (any_goals (first | assumption | (with_reducible refine wpAny_loadPart_at hx ?_;rw[hc]) | (with_reducible refine L.at ?_) | wp_step))
def L4 {tk:Tok} {fill expr:Bool} {Q:wC->wD->Prop} (X:K.In h) (Z:gy K D) (hx:h.get? x=some o) (hc:o.cls=.ref D) (L:PySem.W.Looks (model prog w) h (Builtin.ObjectAttr.find (.ref x) (.ref D) name) (.value v)) (hv:PySem.W.handedIn v=true) (hq:Q v {(h),g,d,t,os}) :
  wpAny (model prog w) A (getAttrBy (.ref x) (.str name tk) fill expr) Q E {(h),g,d,t,os}:=by
 let f3:=F.attr_ValueError.ga.bind (.ref x);let hx0:(expr&&onTheHeap (Value.builtin "BaseException.__getattribute__"))=false:=by cases expr <;> rfl
 let hx2:(Value.builtin "BaseException.__getattribute__"== Value.builtin "object.__getattribute__")=false:=by decide +kernel
 let hx1:(onTheHeap (Value.ref D)&&Value.builtin "BaseException.__getattribute__"== Value.builtin "object.__getattribute__")=false:=by rw[hx2];rfl
 let L1:=PySem.W.looks_findIn (M:=model prog w) X Z.ga;let L2:=PySem.W.looks_findIn (M:=model prog w) X Z.O6;let ho:handedOut v=pure v:=PySem.W.handedOut_of hv
 repeat (any_goals (first | assumption | (with_reducible refine wpAny_loadPart_at hx ?_;rw[hc]) | (with_reducible refine L1.at ?_) | (with_reducible refine L2.at ?_) | wp_step))
 refine codeAny_call_builtin F.attr_ValueError.ga.plain F.entry_bexc_ga (Bp X Z hx hc (F8 hx hc L ?_))
 repeat (any_goals (first | assumption | rw[ho] | wp_step))
def Ki {expr:Bool} {Q:wC->wD->Prop} {s:wD} (X:K.In s.heap) (Z:gy K D) (hx:s.heap.get? x=some o) (hc:o.cls=.ref D) (hno:PySem.W.notCls o=true) (hd:o.dict=some dx) (hn:s.heap.Ns1 dx mA) (hh:PySem.W.hasDictIn K D=true) (ha:PySem.W.findIn K (.ref D) name=some none) (hm:mA name=some v) (hv:PySem.W.handedIn v=true)
  (hq:Q v {s with toks:=s.toks+1}):wpAny (model prog w) A (getAttr (.ref x) name expr) Q E s:=by
 let⟨h,g,d,t,os⟩:=s;unfold getAttr;refine yg (wpAny_mkText ?_);exact L4 X Z hx hc (Io X hx hc hno hd hn hh ha hm) hv hq
end
structure tY (K:yo) (D S:wJ):Prop where
 sa:PySem.W.findIn K (.ref D) "__setattr__"= some (some (.builtin "object.__setattr__"))
 cd:∃nm bs ns qn sn sub ab col del,PySem.W.clsIn K D=some {nm,bs,[.ref D,.ref S,.type "ValueError",.type "Exception",.type "BaseException",.type "object"],ns,qn,true,sn,sub,ab,col,del}
section
variable {K:yo} {D S x:wJ} {prog:wF} {w:wG} {A:wH} {E:wC->wD->Prop} {name:Str} {v:wC} {o:Obj} {dx:wJ} {mA:Str->Option wC} {s:wD} {Q:Unit->wD->Prop}
def EA (self:wC):refuseLoop self "__setattr__" [.ref D,.ref S,.type "ValueError",.type "Exception",.type "BaseException",.type "object"]=pure .unit:=by
 rw[refuseLoop_ref,refuseLoop_ref];exact PySem.F.store_ValueError.passes self
open Builtin Builtin.ObjectAttr in
def DN {od:Option Obj} {tk:Tok} {R:Result->wD->Prop} (X:K.In s.heap) (I:PySem.W.InstAt s.heap x o D od) (Z:tY K D S) (ha:PySem.W.findIn K (.ref D) name=some none)
  (h:wpAny (model prog w) A.in1 (storeInOwnDict (.ref x) (.ref D) (.str name tk) name v false) (λfin s'=>match fin with | .done f=>R (.ok f) s' | .again c'=>c'.quiet=true/\codeAny (model prog w) A c' R s') (λe s'=>R (.error e) s') s) :
  codeAny (model prog w) A (.call (.builtin "object.__setattr__") {[.ref x,.str name tk,v],[]}) R s:=by
 let SF:=PySem.F.store_object;let⟨nm,bs,ns,qn,sn,sub,ab,col,del,hc⟩:=Z.cd;let hi:PySem.W.Looks (model prog w) s.heap (isInstance (.ref x) (.type "object")) true:=I.type.andThen (PySem.W.looks_mroIn X (by unfold PySem.W.mroIn;rw[hc];rfl));refine codeAny_call_builtin SF.slot.plain SF.entry (@PySem.W.check_slot (model prog w) _ _ s "object.__setattr__" "object" "__setattr__" (.ref x) [.str name tk,v] [] _ SF.kind SF.split hi (SF.args (.ref x) (.str name tk) v) ?_);let hm:PySem.W.Looks (model prog w) s.heap (mroOf (.ref D)) [.ref D,.ref S,.type "ValueError",.type "Exception",.type "BaseException",.type "object"]:=(PySem.W.looks_clsIn X hc).andThen .now;rw[PySem.W.osa_eq,refuse_eq];refine yg (yg (I.type.here (yg (hm.here ?_))));rw[EA];exact yi (yg (I.type.here (yg ((PySem.W.looks_findIn X ha).here (yg (yi h))))))
def F7 {vs:Array wC} (X:K.In s.heap) (hx:s.heap.get? x=some o) (hc:o.cls=.ref D) (hd:o.data=.fields vs) (hn:o.dict=none) (Z:tY K D S) (ha:PySem.W.findIn K (.ref D) name=some none)
  (h:∀h',h'.get? x=some {o with dict:=some ↑s}->h'.Ns1 ↑s (λy=>if y=name then some v else none)->(∀b u,b≠x->s.heap.get? b=some u->h'.get? b=some u)->Q .unit {s with heap:=h',toks:=s.toks+2}) :
  wpAny (model prog w) A (setAttr (.ref x) name v) Q E s:=by
 let I:PySem.W.InstAt s.heap x o D none:={hx,hc,by unfold PySem.W.notCls;rw[hd],by rw[hn];trivial}
 let⟨nm,bs,ns,qn,sn,sub,ab,col,del,hcl⟩:=Z.cd;refine PySem.W.set_plain X I Z.sa (DN (s:={s with toks:=s.toks+1}) X I Z ha ?_);let⟨oc,odd,oda,osl⟩:=o;dsimp only at hc hd hn;subst hc hd hn;refine yg (yi (yg (yg (wpAny_loadPart hx (yg (PySem.W.Looks.here (s:={s with toks:=s.toks+1}) (PySem.W.looks_clsIn X hcl) ?_))))));let hs:x≠↑s:=zZ (yk hx);let h1:=yh {cls:=Value.type "dict",data:=Data.dict #[]} hx;refine yg (wpAny_alloc' ?_);refine yg (wpAny_update' h1 ?_);refine yi (a:=some ↑s) ?_;let hu:=yn (λo:Obj=>{cls:=o.cls,dict:=some ↑s,data:=o.data,slots:=o.slots}) h1 rfl;let hg:((s.heap.push {cls:=Value.type "dict",data:=Data.dict #[]}).update x λo=>{cls:=o.cls,dict:=some ↑s,data:=o.data,slots:=o.slots}).get? ↑s=some {cls:=Value.type "dict",data:=Data.dict #[]}:=(Heap.get?_update_ne _ _ _ _ hs.symm).trans (Heap.get?_push_at rfl rfl);let hk:∀b u,b≠x->s.heap.get? b=some u->((s.heap.push {cls:=Value.type "dict",data:=Data.dict #[]}).update x λo=>{cls:=o.cls,dict:=some ↑s,data:=o.data,slots:=o.slots}).get? b=some u:=λb u z q=>(Heap.get?_update_ne _ _ _ _ z).trans (yh _ q);generalize ((s.heap.push {cls:=Value.type "dict",data:=Data.dict #[]}).update x λo=>{cls:=o.cls,dict:=some ↑s,data:=o.data,slots:=o.slots})=h2 at hu hg hk ⊢;let n2:h2.Ns ↑s (λ_=>none):={_,#[],_,hg,rfl,λe he=>absurd he (by simp),λ_=>rfl}
 show wpAny _ _ (Builtin.ObjectAttr.storeInDict ↑s (.str name s.toks) name v) _ _ _;unfold Builtin.ObjectAttr.storeInDict Builtin.ObjectAttr.newKeyGuard;refine yg (yi (yg (wpAny_nsSet1 (Heap.Ns1.of_empty n2) λh3 n3 s3=>?_)));let⟨oD,esD,epD,hoD,hdD,hcD⟩:=n3.count (Within.cons name v Within.nil);refine yg (wpAny_lookBehind hoD (by rw[hdD];exact pastItsLine_dict (zH hcD (by rw[zo,yZ,yp];ext))) ?_);refine yi (h h3 ((s3.2 x hs).trans hu) n3 λb u z q=>(s3.2 b (zZ (yk q))).trans (hk b u z q))
def Ik {ns:List Str} {vs:Array wC} (X:K.In s.heap) (hx:s.heap.get? x=some o) (hc:o.cls=.ref D) (hd:o.data=.fields vs) (hn:o.dict=some dx) (n1:s.heap.Ns1 dx mA) (hw:Within mA ns) (hz:⇑ns<1000) (Z:tY K D S) (ha:PySem.W.findIn K (.ref D) name=some none)
  (h:∀h',h'.Ns1 dx (λy=>if y=name then some v else mA y)->Heap.SameBut dx s.heap h'->Q .unit {s with heap:=h',toks:=s.toks+2}) :
  wpAny (model prog w) A (setAttr (.ref x) name v) Q E s:=by
 let⟨od,ho,hl⟩:=mI n1;let I:PySem.W.InstAt s.heap x o D (some od):={hx,hc,by unfold PySem.W.notCls;rw[hd],by rw[hn];exact ho}
 let⟨nm,bs,ns',qn,sn,sub,ab,col,del,hcl⟩:=Z.cd;refine PySem.W.set_plain X I Z.sa (DN (s:={s with toks:=s.toks+1}) X I Z ha ?_);let⟨oc,odd,oda,osl⟩:=o;dsimp only at hc hd hn;subst hc hd hn;refine yg (yi (yg (yg (wpAny_loadPart hx (yg (PySem.W.Looks.here (s:={s with toks:=s.toks+1}) (PySem.W.looks_clsIn X hcl) ?_))))));refine yi (a:=some dx) (yg (yi (yg ?_)));refine wpAny_nsSet1 (s:={s with toks:=s.toks+1}) n1 λh3 n3 s3=>?_;let⟨oD,esD,epD,hoD,hdD,hcD⟩:=n3.count (Within.cons name v hw);refine yg (wpAny_lookBehind hoD (by rw[hdD];exact pastItsLine_dict (zH hcD (by rw[zo,yp];ext))) ?_);exact yi (h h3 n3 s3)
end
abbrev tZ:List wC:=[.type "ValueError",.type "Exception",.type "BaseException",.type "object"]
structure wX (K:yo) (C S f:wJ):Prop where
 obj:∃nm q N bs hdct sn sub ab col dd k0 k1 k2 k3 k5,K.lookup C=some (excClassObj nm q C N bs (.ref S::tZ) hdct sn sub ab col dd k0 k1 k2 k3 k5 "ValueError.__new__")
 up:∃nm bs ns qn hd sn sub ab col del dd sl,K.lookup S=some {.type "type",dd,.cls {nm,bs,.ref S::tZ,ns,qn,hd,sn,sub,ab,col,del},sl}
 sup:PySem.W.excIn K S tZ "ValueError.__new__"= true
 init:PySem.W.findIn K (.ref C) "__init__"= some (some (.ref f))
 fn:PySem.W.isFn K (.ref f)=true
 kp:PySem.W.keepIn K (.ref C)=true
 cls:gy K C
 set:tY K C S
section
variable {K:yo} {C S f:wJ} {prog:wF} {w:wG} {A:wH} {s:wD} {h:wK} {g:Array GenState} {d:Drawn} {t:Nat} {os:OsState} {E:wC->wD->Prop} {rest:List wC}
def wX.tail (M:wX K C S f) (X:K.In h):OwnTail h tZ (.ref S::tZ):=by
 let q:=M.sup;let⟨nm,bs,ns,qn,hd,sn,sub,ab,col,del,dd,sl,e⟩:=M.up;unfold PySem.W.excIn at q;rw[e] at q;simp only at q;split at q
 ·rename_i hm hs
  cases hm;simp only[zJ,wt,Bool.not_eq_true'] at q;let⟨⟨⟨⟨⟨_,_⟩,_⟩,ht⟩,aP⟩,hni⟩:=q;exact .own (X _ _ e) (.of_isNs (PySem.W.isNs_of_in X aP)) (PySem.W.nsMap_none_of_in X aP hni) .base
 ·cases q
abbrev HB (C t:wJ):Obj:={cls:=.ref C,data:=.fields #[.ref t,.none,.none,.none,.bool false,.none]}
abbrev kG (h:wK) (C:wJ) (rest:List wC):wK:=(h.push {cls:=.type "tuple",data:=.seq rest.toArray}).push (HB C h.objs.size)
def lU {b:wJ} {o:Obj} (e:h.get? b=some o):(kG h C rest).get? b=some o:=yh _ (yh _ e)
def tM:(kG h C rest).get? (h.objs.size+1)=some (HB C h.objs.size):=by heap_get
def Il {Q:Fin->wD->Prop} (M:wX K C S f) (X:K.In h) (hr:⇑rest<=sizeLine)
  (hq:wpAny (model prog w) A (call (.ref f) (.ref (h.objs.size+1)::rest)) (λr s'=>r=.none/\Q (.done (.ret (.ref (h.objs.size+1)))) s') E {kG h C rest,g,d,t,os}) :
  wpAny (model prog w) A (Builtin.«type.__call__» {.ref C::rest,[]}) Q E {(h),g,d,t,os}:=by
 let F:=F.excBase_ValueError;let⟨nm,q,N,bs,hdct,sn,sub,ab,col,dd,k0,k1,k2,k3,k5,hl⟩:=M.obj;let hC:=X _ _ hl;let T:=M.tail X
 repeat (first | with_reducible refine wpAny_loadPart_at hC ?_ | with_reducible refine wpAny_madeBy_exc hC ?_ | wp_step)
 refine codeAny_call_builtin_code (Code.quiet_builtin _ F.quiet) (wpAny_check_new_subT F T hC (codeAny_exc_new_subT F T hC ?_ hr));show wpAny _ _ _ _ _ _;let X1:K.In (kG h C rest):=λa o e=>lU (X a o e);let hC1:=X1 _ _ hl;let he:(kG h C rest).get? (h.objs.size+1)=some (HB C h.objs.size):=tM;let hcC:(Value.ref C::(.ref S::tZ)).contains (.ref C)=true:=by simp
 unfold isInstance
 repeat (first | with_reducible refine wpAny_loadPart_at he ?_ | (with_reducible refine wpAny_isSubtype_exc hC1 ?_;rw[hcC]) | wp_step)
 refine(PySem.W.looks_findIn X1 M.init).at ?_;refine xi (yg ((PySem.W.bind_fn X1 _ (wt.mp M.fn)).at ?_));refine yg (yS hq (λr s' z=>?_) λ_ _ z=>z);let⟨rfl,z⟩:=z;wp_walk;exact z
def Im {Q:wC->wD->Prop} (M:wX K C S f) (X:K.In h) (hr:⇑rest<=sizeLine)
  (hq:wpAny (model prog w) (A.under (.builtin "type.__call__" {.ref C::rest,[]})) (call (.ref f) (.ref (h.objs.size+1)::rest)) (λr s'=>r=.none/\Q (.ref (h.objs.size+1)) s') E {kG h C rest,g,d,t,os}) :
  wpAny (model prog w) A (call (.ref C) rest) Q E {(h),g,d,t,os}:=by
 let⟨nm,q,N,bs,hdct,sn,sub,ab,col,dd,k0,k1,k2,k3,k5,hl⟩:=M.obj;let hC:=X _ _ hl;let f1:=tc_lookup;let f2:=tc_bind (.ref C);let hT:({(h),g,d,t,os}:wD).TypeIs (.ref C) "type":={_,hC,rfl}
 refine wpAny_call (codeAny_of_tree ?_);show wpAny _ _ (callAny (.ref C) _) _ _ _
 repeat (any_goals (first | assumption | with_reducible refine wpAny_loadPart_at hC ?_ | wp_step))
 refine{rfl,?_};exact codeAny_call_builtin_at (Code.quiet_builtin _ (by decide +kernel)) entry_typeCall (wpAny_check_type_call_sub hC (Il M X hr hq))
end
def tX (C:wJ) (od:Option wJ) (a:wJ):HO:=.ext λh=>∃o vs,h.get? a=some o/\o.cls=.ref C/\o.dict=od/\o.data=.fields vs/\vs[1]?=some .none
def w4 (C:wJ) (od:Option wJ) (a:wJ):HO:=.ext λh=>∃o vs,h.get? a=some o/\o.cls=.ref C/\o.dict=od/\o.data=.fields vs
def XD (a:wJ) (fs:List (Str×V)):HO:=.ext λh=>∃mA,h.Ns1 a mA/\∀f,dm (fs.lookup f) (mA f)
section
variable {P:wF} {w:wG} {H:Hp} {h:wK} {C a:wJ} {od:Option wJ} {fs:List (Str×V)} {mA:Str->Option wC} {o:Obj} {vs:Array wC}
def tX.ok (e:h.get? a=some o) (hc:o.cls=.ref C) (hd:o.dict=od) (hf:o.data=.fields vs) (h1:vs[1]?=some .none):aT P w H h a (tX C od a):=
 {{(o),vs,e,hc,hd,hf,h1},{(o),e},λ_ _ ⟨o,vs,e,r⟩ k=>{o,vs,k o e,r}}
def w4.ok (e:h.get? a=some o) (hc:o.cls=.ref C) (hd:o.dict=od) (hf:o.data=.fields vs):aT P w H h a (w4 C od a):=
 {{(o),vs,e,hc,hd,hf},{(o),e},λ_ _ ⟨o,vs,e,r⟩ k=>{o,vs,k o e,r}}
def XD.ok (n:h.Ns1 a mA) (r:∀f,dm (fs.lookup f) (mA f)):aT P w H h a (XD a fs):=
 {{(mA),n,r},let ⟨o,_,_,e,_⟩:=n;{(o),e},λ_ _ ⟨m,n,r⟩ k=>{m,n.at k,r}}
def tX.at' (ok:j2 P w H h) (e:H a=some (tX C od a)):∃o vs,h.get? a=some o/\o.cls=.ref C/\o.dict=od/\o.data=.fields vs/\vs[1]?=some .none:=(show aT P w H h a (tX C od a) from ok a _ e).1
def w4.at' (ok:j2 P w H h) (e:H a=some (w4 C od a)):∃o vs,h.get? a=some o/\o.cls=.ref C/\o.dict=od/\o.data=.fields vs:=(show aT P w H h a (w4 C od a) from ok a _ e).1
def XD.at' (ok:j2 P w H h) (e:H a=some (XD a fs)):∃mA,h.Ns1 a mA/\∀f,dm (fs.lookup f) (mA f):=(show aT P w H h a (XD a fs) from ok a _ e).1
def ED (r:∀f,dm (fs.lookup f) (mA f)):Within mA (fs.map (·.1)):=λy hy=>by
 cases q:fs.lookup y with
 | none=>exact absurd (dm.none_of (by rw[<-q];exact r y)) hy
 | some v=>
  obtain⟨k,e,hm⟩:∃k,k=y/\(k,v)∈fs:=by
   clear r hy
   induction fs with
   | nil=>cases q
   | cons p l ih=>
    let⟨k,x⟩:=p;rw[yd] at q;split at q
    ·rename_i z;cases q;exact{k,(wt.mp z).symm,zk}
    ·let⟨k',e,m⟩:=ih q;exact{k',e,zj _ m}
  exact zC.mpr {(k,v),hm,e}
def D4 {f:Str} {y:V} {u:wC} (ry:RelV y u) (r:∀g,dm (fs.lookup g) (mA g)) (g:Str):dm ((aC f y fs).lookup g) (if g=f then some u else mA g):=by
 rw[jv]
 by_cases q:g=f
 ·rw[yC q,yC q];exact ry
 ·rw[yB q,yB q];exact r g
end
def Pq (K:yo) (ta tv:TE) (f:Str):TS:=λD U H=>tv U H λy H1=>ta U H1 λx H2=>∃a C S,x=.ref a/\H2 a=some (tX C none a)/\tY K C S/\bT K C f/\∀dx,H2 dx=none->dx≠a->
 D.nx U (upd (upd H2 dx (XD dx [(f,y)])) a (tX C (some dx) a))
def Pp (K:yo) (ta tv:TE) (f:Str):TS:=λD U H=>tv U H λy H1=>ta U H1 λx H2=>∃a C S dx fs,x=.ref a/\H2 a=some (tX C (some dx) a)/\H2 dx=some (XD dx fs)/\tY K C S/\bT K C f/\⇑fs<1000/\
 D.nx U (upd H2 dx (XD dx (aC f y fs)))
section
variable {X:Cx} {o value:Expr} {f:Str} {pos pos':Pos} {ta tv:TE}
def MK (ha:PE X o ta) (hv:PE X value tv) (hs:swapsWith value (some (.Attribute o f pos')) pos.line X.env=pure false):PS X (.Assign [.Attribute o f pos'] value pos) (Pq X.K ta tv f):=by
 intro pins s U H D I h;refine plainObj_wpAny_Assign_Attribute (bR (hv pins s U H _ I h) λu s1 ⟨y,H1,I1,ry,q⟩=>bR (ha pins s1 U H1 _ I1 q) λov s2 ⟨x,H2,I2,rx,a,C,S,ex,ea,c,n,q2⟩=>?_) hs;subst ex;obtain rfl:ov=Value.ref a:=rx;let⟨ob,vs,e,hc,hd,hf,h1⟩:=tX.at' I2.aP ea;let hn:H2 ↑s2=none:=I2.aP.fresh (zh _);let na:↑s2≠a:=zY (yk e);refine F7 I2.gL e hc hf hd c n λh' e' n' k=>{U,_,?_,q2 _ hn na}
 let⟨od,es,ep,eo,r⟩:=id n';let nfr:od.isFreed=false:=(Heap.get?_some_iff.mp eo).2;let p1:(s2.heap.push od).get? ↑s2=some od:=yj _ nfr;let r0:∀g,dm ([(f,y)].lookup g) (if g=f then some u else none):=λg=>by
  have:=D4 (fs:=[]) (mA:=λ_=>none) (f:=f) ry (λ_=>True.intro) g;exact this
 let I3:=I2.laid (a:=↑s2) (o:=XD ↑s2 [(f,y)]) (h':=s2.heap.push od) (t':=s2.toks) (λb u q=>yh _ q) (zh _) (XD.ok (n'.at λo z=>by rw[eo] at z;cases z;exact p1) r0);let ea3:upd H2 ↑s2 (XD ↑s2 [(f,y)]) a=some (tX C none a):=by rw[aq (Ne.symm na)];exact ea
 refine I3.write (x:=a) (e:=a) (by rw[ea3];exact True.intro) (.inl rfl) (λb v z q=>?_) {_,e'} (tX.ok e' hc rfl hf h1);rcases Heap.get?_push_cases q with⟨rfl,rfl⟩ | q
 ·exact eo
 ·exact k b v z q
def MJ (ha:PE X o ta) (hv:PE X value tv) (hs:swapsWith value (some (.Attribute o f pos')) pos.line X.env=pure false):PS X (.Assign [.Attribute o f pos'] value pos) (Pp X.K ta tv f):=by
 intro pins s U H D I h;refine plainObj_wpAny_Assign_Attribute (bR (hv pins s U H _ I h) λu s1 ⟨y,H1,I1,ry,q⟩=>bR (ha pins s1 U H1 _ I1 q) λov s2 ⟨x,H2,I2,rx,a,C,S,dx,fs,ex,ea,ed,c,n,l,q2⟩=>?_) hs;subst ex;obtain rfl:ov=Value.ref a:=rx;let⟨ob,vs,e,hc,hd,hf,h1⟩:=tX.at' I2.aP ea;let⟨mA,n1,r⟩:=XD.at' I2.aP ed;refine Ik I2.gL e hc hf hd n1 (ED r) (by rw[za];exact l) c n λh' n' sb=>{U,_,?_,q2}
 let hd':∃o,h'.get? dx=some o:=let ⟨o,_,_,z,_⟩:=n';{(o),z};exact I2.write (x:=dx) (e:=dx) (by rw[ed];exact True.intro) (.inl rfl) (λb v z q=>(sb.2 b z).trans q) hd' (XD.ok n' (D4 ry r))
end
def MI (K:yo):List V->Hp->VK->Prop:=λxs H Q=>∃(x D:wJ) (od:Option wJ) (c:V) (u:wC) (b:Bool),xs=[.ref x,c]/\H x=some (w4 D od x)/\gy K D/\((∃C,c=.ref C/\u=.ref C)\/∃n,c=.ty n/\u=.type n)/\PySem.W.kitOne K (.ref D) u=some b/\Q (.bl b) H
def KW (K:yo):List V->Hp->VK->Prop:=λxs H Q=>∃(x D p:wJ) (od:Option wJ) (cs:List wJ) (b:Bool),xs=[.ref x,.ref p]/\H x=some (w4 D od x)/\gy K D/\H p=some (.tup (cs.map V.ref))/\PySem.W.kitAny K (.ref D) (cs.map Value.ref)=some b/\Q (.bl b) H
def Pl (K:yo) (ta:TE) (f:Str):TE:=λU H Q=>ta U H λx H1=>∃a C dx fs v,x=.ref a/\H1 a=some (w4 C (some dx) a)/\H1 dx=some (XD dx fs)/\gy K C/\PySem.W.hasDictIn K C=true/\bT K C f/\fs.lookup f=some v/\Q v H1
section
variable {X:Cx} {e:Expr} {f:Str} {pos:Pos} {ta:TE}
def J2 (he:PE X e ta) (hb:attributeBase e f X.env (eval e X.env)=eval e X.env):PE X (.Attribute e f pos) (Pl X.K ta f):=by
 intro pins s U H Q I h;refine Et hb (bR (he pins s U H _ I h) λu s1 zz=>?_);let⟨x,H1,I1,rx,a,C,dx,fs,v,ex,ea,ed,Z,hh,n,l,q⟩:=zz;subst ex;obtain rfl:u=Value.ref a:=rx;let⟨ob,vs,eo,hc,hd,hf⟩:=w4.at' I1.aP ea;let⟨mA,n1,r⟩:=XD.at' I1.aP ed;let⟨u',hu,ru⟩:=dm.some_of (v:=v) (o:=mA f) (by rw[<-l];exact r f);exact Ki I1.gL Z eo hc (by unfold PySem.W.notCls;rw[hf]) hd n1 hh n hu (tI ru) {v,H1,I1.tok _,ru,q}
def tP:b9 X (.builtin "isinstance") (MI X.K):=by
 intro pins s U H xs us Q I r h;let⟨x,D,od,c,u,b,rfl,hx,Z,hc,e,q⟩:=h;cases r with
 | cons r rr=>
  cases rr with
  | cons r' rr=>
   cases rr;cases r;let hu:∀v,RelV c v->v=u:=by
    rintro v rv;rcases hc with⟨C,rfl,rfl⟩ | ⟨n,rfl,rfl⟩
    ·exact rv
    ·exact rv
   cases hu _ r';let⟨o,vs,e1,e2,_⟩:=w4.at' I.aP hx;exact yX (Ef Z) I.gL {(o),e1,e2} e (λz=>nomatch z) λtk=>{.bl _,H,I.tok tk,rfl,q}
def Du:b9 X (.builtin "isinstance") (KW X.K):=by
 intro pins s U H xs us Q I r h;let⟨x,D,p,od,cs,b,rfl,hx,Z,hp,e,q⟩:=h;cases r with
 | cons r rr=>
  cases rr with
  | cons r' rr=>
   cases rr;cases r;cases r';let⟨_,its,rv,o,ho,hoc,n,hod⟩:=(show aT X.prog X.w H s.heap p (.tup _) from I.aP p _ hp)
   let eits:=sN rv;subst eits;let⟨oc,od,oda,osl⟩:=o;dsimp only at hoc hod;subst hoc hod;let⟨ox,vs,e1,e2,_⟩:=w4.at' I.aP hx;exact PySem.W.kia_tup (Ef Z) I.gL {(ox),e1,e2} ho e (λz=>nomatch z) λtk=>{.bl _,H,I.tok tk,rfl,q}
end
def Kv (C:wJ) (sp:Sp) (E:XK) (t:TA):TE:=λU H Q=>t U H λvs H1=>⇑vs<=sizeLine/\∀x,H1 x=none->sp (.ref x::vs) (upd H1 x (tX C none x)) (λv H2=>v=.aO/\Q (.ref x) H2) E
section
variable {X:Cx} {CX:B5} {k:Nat} {f C S:wJ} {fd:wI} {ps:List Str} {sp:Sp} {E:XK} {x:Str} {p pos:Pos} {e:Expr} {es:List Expr} {t:TA}
def EW {pins:List (wJ×Obj)} {U:St} {H:Hp} {s:wD} {Q:VK} {us:List wC} {vs:List V} (M:wX X.K C S f) (F:bC X.prog X.w X.K X.mg X.base CX k f fd ps sp) (hr:cN (k+1) X.A) (hb:Binds X.K fd ps [])
  (hx:Passes CX X E) (I:Inv X pins U H s) (r:Vals vs us) (hz:⇑vs<=sizeLine)
  (h:∀x,H x=none->sp (.ref x::vs) (upd H x (tX C none x)) (λv H2=>v=.aO/\Q (.ref x) H2) E):wpAny (model X.prog X.w) X.A (call (.ref C) us) (EP X pins U Q) X.xe s:=by
 let hq:=h (↑s+1) (I.aP.fresh (xD _));let I2:=I.laid (a:=↑s+1) (o:=tX C none (↑s+1)) (h':=kG s.heap C us) (t':=s.toks) (λb u q=>lU q) (xD _) (tX.ok tM rfl rfl rfl rfl);let r2:Vals (V.ref (↑s+1)::vs) (Value.ref (↑s+1)::us):=.cons rfl r;let hl:⇑(Value.ref (↑s+1)::us)=⇑ps:=by
  let e:=⇑r2;rw[F.len _ _ _ _ hq] at e;exact e.symm
 let hb2:=hb _ (Value.ref (↑s+1)::us) I2.gL (by rw[zO];exact hl);rw[zO] at hb2;refine Im M I.gL (by rw[<-⇑r];exact hz) (wpAny_call (xt (F.run _ X.stack _ _ {Value.ref (↑s+1)::us,[]} (Value.ref (↑s+1)::us) _ _ E (hr.make C us []) (I2.Fn.make C us []) hb2 r2 hq) λr s' hq'=>?_));cases r with
 | error e=>exact hx pins U _ _ e s' I2 hq'
 | ok fl=>
  cases fl with
  | ret u=>
   let⟨v,H',I3,rv,ev,q3⟩:=I2.after hq';subst ev;exact{rv,{V.ref (↑s+1),H',I3,rfl,q3}}
  | next=>exact False.elim hq'
  | brk=>exact False.elim hq'
  | cont=>exact False.elim hq'
def GN (M:wX X.K C S f) (F:bC X.prog X.w X.K X.mg X.base CX k f fd ps sp) (hr:cN (k+1) X.A) (hg:Gl X x) (hm:X.mg x=some (.ref C)) (hb:Binds X.K fd ps []) (hx:Passes CX X E)
  (ha:PA X (e::es) t) (hdb:(x == ("__debug__": Str))=false<|>qb_) (he:starEach (e::es) X.env=(false,eval e X.env)::starEach es X.env<|>qe_) (hpl:(backTo pos (starEach es X.env)).any (·.1)=false<|>qe_) :
  PE X (.Call (.Name x p) (e::es) [] pos) (Kv C sp E t):=by
 intro pins s U H Q I h;refine y0 (dB I hg hm ?_ hdb);refine wu (h₀:=X.base) I.ok.mod.Jm M.kp (bR (ha pos pins s U H _ I h) λus s1 ⟨vs,H1,I1,r,hz,q⟩=>{I1.gL,?_}) he hpl;exact EW M F hr hb hx I1 r hz q
end
def rem (H:Hp) (a:wJ):Hp:=λb=>if b=a then none else H b
def kz {H:Hp} {a b:wJ} (h:b≠a):rem H a b=H b:=yB h
def Gz {H:Hp} {a b:wJ} {o:HO} (h:rem H a b=some o):b≠a/\H b=some o:=by
 unfold rem at h;split at h
 ·cases h
 ·exact{‹_›,h}
def Ij (P:wF) (w:wG):B5:=λouter H s E e s'=>∃(a:wJ) (cls:wC) (od:Option wJ) (B:wK) (H':Hp),e=.ref a/\s'.os=s.os/\AllBare s'.gens/\Fl B outer a cls od .none s'.heap/\B8 P w (fX outer) H H' s.heap B s'.heap/\E cls od H'
def ML {P:wF} {w:wG} {X:Cx}:Passes (Ij P w) X E0:=λ_ _ _ _ _ _ _ ⟨_,_,_,_,_,_,_,_,_,_,z⟩=>z.elim
def CK {M:Model} {A:wH} {E:wC->wD->Prop} {s:wD} {env:Env} {x:Sem wC} {Q:Flow->wD->Prop} (hh:A.handled=none)
  (h:wpAny M A x (λv s1=>∃(e C:wJ) (od:Option wJ) (vs:Array wC) (sl:Array (Option wC)),v=.ref e/\s1.heap.get? e=some {.ref C,od,.fields vs,sl}/\vs[1]?=some .none/\PySem.W.Looks M s1.heap (isSubtype (.ref C) (.type "BaseException")) true/\(∃oC,s1.heap.get? C=some oC/\oC.cls=.type "type")/\E (.ref e) s1) E s) :
  wpAny M A (raiseStmt env (some x) none) Q E s:=by
 unfold raiseStmt;refine yg (yS h (λv s1 h1=>?_) λ_ _ z=>z);let⟨e,C,od,vs,sl,rfl,he,h1,L1,⟨oC,hC,hcC⟩,hE⟩:=h1;let⟨cc,cd,cda,csl⟩:=oC;dsimp only at hcC;subst hcC;let⟨hp,g,d,tk,os⟩:=s1;let f1:∀{Q':wC->wD->Prop} {A':wH},Q' .none ⟨hp,g,d,tk,os⟩->wpAny M A' (field (.ref e) 1) Q' E ⟨hp,g,d,tk,os⟩:=λq=>yO he rfl h1 q
 repeat (first | with_reducible refine wpAny_loadPart_at he ?_ | with_reducible refine wpAny_loadPart_at hC ?_ | (with_reducible refine L1.at ?_) | (with_reducible refine f1 ?_) | wp_step)
 exact wpAny_raiseNew_none hh hE
def Iz (K:yo) (H₀:Hp) (te:TE) (E:XK):TS:=λ_ U H=>te U H λv H1=>∃a C dx,v=.ref a/\H1 a=some (tX C (some dx) a)/\H₀ a=none/\(∃S f,wX K C S f)/\E (.ref C) (some dx) (rem H1 a)
section
variable {P:wF} {w:wG} {K:yo} {mg:Str->Option wC} {base:wK} {N:List Str} {qual:Str} {scope:Scope} {f:wJ} {cdv:wC} {A:wH} {outer:List Env} {s₀:wD} {H₀:Hp} {E:XK}
def E1 {x:Expr} {te:TE} {pos:Pos} (he:PE (eP (Ij P w) P w K mg base N qual scope f cdv A outer s₀ H₀ E) x te) :
  PS (eP (Ij P w) P w K mg base N qual scope f cdv A outer s₀ H₀ E) (.Raise (some x) none pos) (Iz K H₀ te E):=by
 intro pins s U H D I h;rw[arm_exec_Raise];refine yg (wpAny_standAt (CK (I.ok.hd rfl) (yg (bR (he pins s U H _ I h) λu s1 ⟨v,H1,I1,rv,a,C,dx,ev,ea,ha0,⟨S,fI,hB⟩,q⟩=>yg (wpAny_standAt (yi ?_))))));subst ev;obtain rfl:u=Value.ref a:=rv;let⟨ob,vs,hx,hc,hd,hf,h1⟩:=tX.at' I1.aP ea;let⟨oc,odd,oda,osl⟩:=ob;dsimp only at hc hd hf;subst hc hd hf;let⟨_,_,_,_,_,_,_,_,_,_,_,_,_,_,_,hCl⟩:=hB.obj;refine{a,C,some dx,vs,osl,rfl,hx,h1,PySem.W.looks_mroIn I1.gL hB.cls.mB,{_,I1.gL _ _ hCl,rfl},?_};show wpAny (model P w) (A.deeper (envOfC qual scope ↑s₀ f cdv)) (leaving (envOfC qual scope ↑s₀ f cdv) (.ref a)) (λ_ s''=>Ij P w outer H₀ s₀ E (.ref a) s'') (λe' s''=>Ij P w outer H₀ s₀ E e' s'') s1;let hfr:fX (envOfC qual scope ↑s₀ f cdv::outer)=↑s₀::fX outer:=qe rfl;let hst:s1.heap.FunFrames base (envOfC qual scope ↑s₀ f cdv::outer):=I1.stack;let hin:∀env∈(envOfC qual scope ↑s₀ f cdv::outer),∀b,env.frame=some b->b∈a::fX (envOfC qual scope ↑s₀ f cdv::outer):=λenv he b hf=>zj _ (wy.mpr {(env),he,hf});let hl:=PySem.W.funFrames_hide (as:=a::fX (envOfC qual scope ↑s₀ f cdv::outer)) hst hin;let i6:∀b:wJ,b∉(eP (Ij P w) P w K mg base N qual scope f cdv A outer s₀ H₀ E).ex:=λb z=>absurd (show b∈([]:List wJ) from z) (by simp);let n0:∀o,s₀.heap.get? a≠some o:=λo e=>by
  have:=I1.base.free a o e ha0 (i6 a);rw[ea] at this;cases this
 let low:∀b o,s₀.heap.get? b=some o->b≠↑s₀:=λb o e z=>absurd (yk e) (by rw[z];exact zV _);let nin:∀b o,s₀.heap.get? b=some o->b∉fX outer->b∉a::fX (envOfC qual scope ↑s₀ f cdv::outer):=λb o e n z=>by
  rw[hfr] at z;rcases zw.mp z with z | z
  ·subst z;exact n0 o e
  ·rcases zw.mp z with z | z
   ·exact low b o e z
   ·exact n z
 unfold leaving;refine yg (Hr (B:=PySem.W.hideAll s1.heap (a::fX (envOfC qual scope ↑s₀ f cdv::outer))) I1.ok.frames hl rfl hx (λb o q=>PySem.W.of_hideAll _ q) (PySem.W.hideAll_none _ zk) rfl h1 λh2 x2 u2=>mQ (s:={s1 with heap:=h2}) x2 λh3 x3 u3=>?_);let nt:∀b o,H1 b=some o->(∀φ,o≠.ext φ)->b≠a:=λb o e n z=>by subst z;rw[ea] at e;cases e;exact n _ rfl
 refine{a,.ref C,some dx,_,rem H1 a,rfl,I1.os,I1.bare,{(x3.st),x3.new,x3.fr.2.2,x3.ob},{λb o q n hb=>wj _ (I1.base.keep b o q n hb (i6 b)) (nin b o q hb),λb o q n hb=>?_,λb o q n=>?_,λb o q hb=>?_,λb xs e=>?_,λb o u e=>?_,λb ps e=>?_,λb o q=>?_,x3.st},q}
 ·let⟨sl,e1⟩:=I1.base.slot b o q n hb (i6 b)
  let⟨_,o1,e2,nd⟩:=I1.ok.jB.mem hb;let e2':s₀.heap.get? b=some o1:=e2;rw[q] at e2';cases e2';let⟨sl2,e4⟩:=u2 b _ e1 nd;let⟨sl3,e5⟩:=u3 b _ e4 nd;exact{(sl3),e5}
 ·unfold rem
  split
  ·rfl
  ·exact I1.base.free b o q n (i6 b)
 ·let⟨o',e1⟩:=I1.base.there b o q (i6 b)
  exact{o',wj _ e1 (nin b o q hb)}
 ·let e1:=I1.base.i4 b xs e
  rw[kz (nt b _ e1 λφ z=>nomatch z)];exact e1
 ·let e1:=I1.base.gS b o u e
  rw[kz (nt b _ e1 λφ z=>nomatch z)];exact e1
 ·let⟨m,e1⟩:=I1.base.i5 b ps e
  exact{m,by rw[kz (nt b _ e1 λφ z=>nomatch z)];exact e1}
 ·let⟨ne,q⟩:=Gz q
  refine(I1.aP b o q).fY (λc u hc e1=>wj _ e1 λz=>?_) (λc z=>by rw[kz (nt c _ z λφ y=>nomatch y)];exact z) λc xs z=>by rw[kz (nt c _ z λφ y=>nomatch y)];exact z
  rcases zw.mp z with z | z
  ·rcases hc with hc | hc
   ·exact ne (hc▸z)
   ·exact nt c _ hc (λφ y=>nomatch y) z
  ·let n:=I1.gZ c z
   rcases hc with rfl | hc
   ·rw[q] at n;cases n
   ·rw[hc] at n;cases n
def FO.Pt {x:Str} {st:Stmt} {fd:wI} {ps:List Str} {k:Nat} {sp:Sp} (F:FO K x qual st f fd) (S:cA N ps (aA st)) (len:∀vs H Q E,sp vs H Q E->⇑vs=⇑ps)
  (hbody:∀(cdv:wC) (A:wH) (outer:List Env) (s:wD) (H:Hp) (vs:List V) (Q:VK) (E:XK),cN k (A.deeper (envOfC qual (aA st) ↑s f cdv))->sp vs H Q E->
   ∃t,sI (eP (Ij P w) P w K mg base N qual (aA st) f cdv A outer s H E) (bj st) t/\t {nx:=λ_ H'=>Q .aO H',rt:=Q} (start N vs) H):bC P w K mg base (Ij P w) (k+1) f fd ps sp:=by
 let⟨oc,od,kV,doc,pm,an,cdv,ct,osl,rfl,lk,hcd⟩:=F.ex;exact Hq lk hcd S len λA outer s H vs Q E hr hsp=>hbody cdv A outer s H vs Q E hr hsp
end
def Mj (sp:Sp) (t:TA) (C:wJ) (j:Nat) (th:TS):TS:=λD U H=>t U H λvs H1=>sp vs H1 (λ_ H2=>D.nx U H2) λcls od H2=>cls=.ref C/\∀a,H2 a=none->th (N3 j D) (U.set j (some (.ref a))) (upd H2 a (w4 C od a))
section
variable {X:Cx} {k:Nat} {f:wJ} {fd:wI} {ps:List Str} {sp:Sp} {fx cn n:Str} {p pos cpos pa np hpos:Pos} {e₀:Expr} {es:List Expr} {t:TA} {j:Nat} {C S:wJ} {bmS:List wC} {newIdS:String} {b₀:Stmt} {suite:List Stmt} {th:TS}
def IW (F:bC X.prog X.w X.K X.mg X.base (Ij X.prog X.w) k f fd ps sp) (hr:cN k X.A) (hg:Gl X fx) (hm:X.mg fx=some (.ref f)) (hk:PySem.W.keepIn X.K (.ref f)=true) (hb:Binds X.K fd ps []) (ha:PA X.wZ (e₀::es) t)
  (hc:X.calm=true) (hN:X.N.Nodup) (hj:X.N[j]?=some n) (hnl:X.env.scope.names.lookup n=some .local) (hgc:Gl X cn) (hS0:PySem.W.nsIn X.K mainGlobals cn=some (some (.ref S))) (hQS:PySem.W.excIn X.K S bmS newIdS=true)
  (hSB:PySem.W.mroIn X.K S (.type "BaseException")=some true) (hup:PySem.W.mroIn X.K C (.ref S)=some true) (hstk:X.stack=X.env::X.outer) (hfrm:X.env.frame=some X.env.locals) (hex:X.ex=[])
  (hsu:∀e,sI (X.held e).wZ (b₀::suite) th)
  (hdb:(fx == ("__debug__": Str))=false<|>qb_) (hdc:(cn == ("__debug__": Str))=false<|>qb_) (he:starEach (e₀::es) X.env=(false,eval e₀ X.env)::starEach es X.env<|>qe_) (hpl:(backTo cpos (starEach es X.env)).any (·.1)=false<|>qe_)
  (hs:swapsWith (.Call (.Name fx p) (e₀::es) [] cpos) none pa.line X.env=pure false<|>qe_) :
  PS X (.Try [.Expr (.Call (.Name fx p) (e₀::es) [] cpos) pa] [.ExceptHandler (some (.Name cn np)) (some n) (b₀::suite) hpos] [] [] pos) (Mj sp t C j th):=by
 intro pins s U H D I h;let O:OwnCls cn S bmS newIdS X.mg X.base:=ie X.prog I.ok.mod hS0 hQS;let⟨ddS,cdS,slS,hSl⟩:=Dq hQS;refine wpAny_Try_except (wpAny_execs_cons ?_);refine wpAny_Expr_any ?_ I.quiet hs;refine y0 (dB I hg hm ?_ hdb);let hA:wpAny (model X.prog X.w) X.A (spliced (backTo cpos (starEach (e₀::es) X.env))) (AP X.wZ pins U _) (λ_ _=>False) s:=ha cpos pins s U H _ (I.j3 _) h;refine wu (h₀:=X.base) I.ok.mod.Jm hk (yS hA (λus s1 ⟨vs,H1,I1',r,q⟩=>{I1'.gL,?_}) λ_ _ z=>z.elim) he hpl;let I1:Inv X pins U H1 s1:=I1'.dq;let hl:⇑us=⇑ps:=by rw[<-⇑r];exact F.len _ _ _ _ q
 refine wpAny_call (xt (F.run X.A X.stack s1 H1 {us,[]} us vs _ _ hr I1.Fn (by have:=hb s1 us I1.gL (by rw[zO];exact hl);rw[zO] at this;exact this) r q) λrr s' hq=>?_);cases rr with
 | ok fl=>
  cases fl with
  | ret u=>
   let⟨v,H2,I2,r2,q2⟩:=I1.after hq;exact xP (xP {_,H2,I2,q2})
  | next=>exact False.elim hq
  | brk=>exact False.elim hq
  | cont=>exact False.elim hq
 | error ev=>
  let⟨a,cls,od,B,H',rfl,os,bare,fl,fly,⟨rfl,q2⟩⟩:=hq;let vw:∀b∈fX X.stack,H1 b=none:=I1.gZ;let nf:∀{hh:wK},Heap.FunFrames hh B X.stack->∀b∈fX X.stack,∃o,hh.get? b=some o/\∀vs,o.data≠.fields vs:=λhF b hb=>(hF.mem hb).2;let back:∀(hh:wK),B8 X.prog X.w (fX X.stack) H1 H' s1.heap B hh->Inv X pins U H' {s' with heap:=hh}:=λhh fy=>
   I1.Er (s':={s' with heap:=hh}) (ch:=[]) os (fy.un vw) (fy.aP.kept fy.fY) bare λb z=>absurd z (by simp)
  let hfr:X.A.frames=some (X.env::X.outer):=by rw[<-hstk];exact I1.ok.frames
  refine Ju hfr hfrm (by rw[<-hstk];exact fl) λh4 x4 up4=>?_;refine mQ (s:={s' with heap:=h4}) x4 λh5 fl5 up5=>?_;let fl5':Fl B X.stack a (.ref C) od .none h5:=by rw[hstk];exact fl5
  let fy5:B8 X.prog X.w (fX X.stack) H1 H' s1.heap B h5:=fly.on (up4.trans up5) fl5.st (nf fl.fr);let I5:=back h5 fy5;let⟨ob,_,_,_,_,hob,hobc,_⟩:=fl5'.ob;refine wpAny_handleBy_cons (codeAny_handlers_test (dB (X:=X.held (.ref a)) (I5.held _) hgc O.bound ?_ hdc)) (by intro q;cases q);refine Jz I5.gL hob hobc hSl hSB hup (codeAny_handlers_suite_as ?_);refine mQ (s:={s' with heap:=h5}) fl5' λh6 fl6 up6=>?_;let fy6:B8 X.prog X.w (fX X.stack) H1 H' s1.heap B h6:=fy5.on up6 fl6.st (nf fl5'.fr);let I6:=back h6 fy6;let⟨oe,ws,_,_,_,hoe,hoec,hoei,hoed,_⟩:=fl6.ob;let Bn:B.get? a=none:=fl6.new;let noFr:a∉fX X.stack:=λz=>by
   let⟨o,e1,e2⟩:=nf fl6.fr a z;rw[hoe] at e1;cases e1;exact e2 _ hoed
  let nL:a≠X.env.locals:=λz=>noFr (by rw[hstk,qe hfrm,z];exact zk);let nH:H' a=none:=by
   cases e:H' a with
   | none=>rfl
   | some u=>let⟨o,e1⟩:=(fy6.aP a u e).here;rw[Bn] at e1;cases e1
  let n0:X.s₀.heap.get? a=none:=by
   cases e:X.s₀.heap.get? a with
   | none=>rfl
   | some o=>
    let⟨o',e1⟩:=I1.base.there a o e (by rw[hex];simp);let⟨o2,e2⟩:=fy6.there a o' e1 noFr;rw[Bn] at e2;cases e2
  let nC:∀y c,X.env.cells.lookup y=some c->c≠a:=λy c e z=>by
   let⟨v,o,ho,hd⟩:=I6.cell y c e;rw[z,hoe] at ho;cases ho;rw[hoed] at hd;cases hd
  let nP:∀p∈X.pn++pins,p.1≠a:=λp hp z=>by
   let⟨e,n,ne,nf',d⟩:=I1.pin p hp;have:=fy6.keep p.1 p.2 e n (by rw[z];exact noFr);rw[z,Bn] at this;cases this
  let I7:Inv X pins U (upd H' a (w4 C od a)) {s' with heap:=h6}:=I6.Md nH n0 nL nC nP (w4.ok hoe hoec hoei hoed);refine lj (X:=X.held (.ref a)) (I7.held _) hN hj (.inl hnl) (v:=.ref a) rfl (λs8 I8=>?_) (.inr hnl);refine yS (hsu (.ref a) pins _ _ _ (N3 j D) (I8.j3 _) (q2 a nH)) (λfl s9 z=>?_) λ_ _ z=>z.elim;let z':SP X pins (N3 j D) fl s9:=SP.gz I.ok.hd (SP.dq z);let hp:(X.env.scope.kind == .class||(X.env.scope.kind == .module&&X.env.locals != X.env.globals))=false:=by rw[I.ok.kind];rfl
  let fin:∀U' H',Inv X pins U' H' s9->∀(Q:Unit->wD->Prop),(∀s10,Inv X pins (U'.set j none) H' s10->Q .unit s10)->wpAny (model X.prog X.w) X.A (do bindName X.env n .none;unbindBehindTheSuite X.env n hpos) Q X.xe s9:=λU' H' I9 Q hQ=>by
   let⟨m,hm,hml⟩:=id I9.loc;refine wpAny_nameGoes_keeps hnl hm hp λh' v hn hs=>hQ _ (I9.Ir hN hj hml hn hs)
  cases fl with
  | next=>let⟨U',H',I9,q⟩:=z';exact fin U' H' I9 _ λs10 I10=>{_,_,I10,q}
  | brk=>let⟨U',H',I9,q⟩:=z';exact fin U' H' I9 _ λs10 I10=>{_,_,I10,q}
  | cont=>let⟨U',H',I9,q⟩:=z';exact fin U' H' I9 _ λs10 I10=>{_,_,I10,q}
  | ret u=>let⟨v,U',H',I9,r,q⟩:=z';exact fin U' H' I9 _ λs10 I10=>{v,_,_,I10,r,q}
end
structure Kf (K:yo) (D:wJ):Prop where
 self:PySem.W.subIn K (.ref D) (.ref D)=some true
 ve:PySem.W.subIn K (.ref D) (.type "ValueError")=some true
 hd:PySem.W.hasDictIn K D=true
 np:bT K D "place"
 nw:bT K D "word"
def Hd {K:yo} {D a b c d e:wJ} (F:Kf K D) (na:i0 K D a) (nb:i0 K D b) (nc:i0 K D c) (nd:i0 K D d) (ne:i0 K D e):PySem.W.kitAny K (.ref D) ([a,b,c,d,e].map Value.ref)=some false:=
 jx (na.M4 F.self) (jx (nb.M4 F.self) (jx (nc.M4 F.self) (jx (nd.M4 F.self) (jx (ne.M4 F.self) Jl))))
end L2
namespace Sc
open PySem L2 Lm
noncomputable def nm (k:Int):Str:=({#[97+(7*k%26).toNat]}:Str)++dec (k*5%13)
noncomputable def tr (s k:Int):Told:=
 if s=0 then .aM (nm k) else if s=1 then .bB (nm k) (1,7) (1,8) else if s=2 then .bf (nm k) [nm (k%12)]
 else if s=3 then .bar {(1+k%32,8),k%15-7,if k%2=0 then ["a"] else []} else if s=4 then .holds "x" k "y" else .rep {2*k,2*k+k%2,2+k%8,[]}
noncomputable def fZ (n:Nat):List Str:=(List.range n).map λk=>nm (k:Nat)
noncomputable def ah (s:Int):List Told:=
 if s=2 then(fZ 12).map .aM else if s=4 then .aM "x":: .bB "y" (0,0) (0,1)::List.replicate 30 (.bar {(1,4),0,[]}) else if s=5 then List.replicate 60 (.bar {(3,8),-7,[]}) else []
def TD (t:Told):Prop:=LX t/\⇑(wordsOf t)<=100/\∀w∈wordsOf t,⇑w<=100
def Mw {c:Nat} (h:48<=c/\c<=57):c∈sgn:=by
 obtain rfl | rfl | rfl | rfl | rfl | rfl | rfl | rfl | rfl | rfl:c=48\/c=49\/c=50\/c=51\/c=52\/c=53\/c=54\/c=55\/c=56\/c=57:=()
 all_goals decide +kernel
def Mv {i:Nat} (h:i<26):97+i∈sgn:=by
 have:∀i:Fin 26,97+i.val∈sgn:=by decide +kernel
 exact this {(i),h}
def CS (k:Int):(nm k).cps.toList=(97+(7*k%26).toNat)::(dec (k*5%13)).cps.toList:=by
 show(Array.append #[97+(7*k%26).toNat] (dec (k*5%13)).cps).toList=_;simp
def jq (k:Int):1<=⇑(nm k)/\⇑(nm k)<=6:=by
 let e:⇑(nm k)=1+⇑(dec (k*5%13)):=len_app _ _;have:=bP (n:=k*5%13) () ();ext
def pS (k:Int):cY (nm k):=by
 let l:=jq k;show(if(⇑(nm k):Int)<1 then none else if(12:Int)<⇑(nm k) then none else if(nm k).cps.toList.all (λc=>decide (c∈sgn))=true then some (nm k) else none)=some (nm k);rw[yB (),yB (),yC];rw[CS,wd,zd (Mv ()),yJ,yc];intro c hc;obtain⟨m,em⟩:∃m:Nat,k*5%13=(m:Int):={(k*5%13).toNat,()}
 rw[em] at hc;exact zd (Mw (dX hc))
def CQ {i j:Int} (h:nm i=nm j) (hi:0<=i/\i<26) (hj:0<=j/\j<26):i=j:=by
 let e:=yN (λs:Str=>s.cps.toList) h;simp only[CS] at e;have:=(List.cons.inj e).1;ext
def J7 {k:Int} {s:Str} (h:∀c r,s.cps.toList=c::r->∃d r',r=d::r'/\¬(48<=d/\d<=57)):nm k≠s:=λe=>by
 let e':=CS k;rw[e] at e';let⟨d,r',er,nd⟩:=h _ _ e';obtain⟨m,em⟩:∃m:Nat,k*5%13=(m:Int):={(k*5%13).toNat,()}
 rw[em] at er;exact nd (dX (n:=m) (by rw[er];exact zk))
def K6 (k:Int):nm k≠ "new":=J7 λc r e=>by cases(show [110,101,119]=c::r from e);exact{_,_,rfl,()}
def J6 (k:Int):nm k≠ "zz":=J7 λc r e=>by cases(show [122,122]=c::r from e);exact{_,_,rfl,()}
def fb {n:Nat} {x:Str}:x∈fZ n↔∃k<n,x=nm (k:Nat):=by
 unfold fZ;rw[zC];constructor
 ·rintro⟨k,hk,rfl⟩;exact{k,yF.mp hk,rfl}
 ·rintro⟨k,hk,rfl⟩;exact{k,yF.mpr hk,rfl}
def pR {n:Nat} (h:n<=26):(fZ n).Nodup:=by
 unfold fZ List.Nodup;rw[List.pairwise_map];refine List.Pairwise.imp_of_mem ?_ (List.pairwise_lt_range (n:=n));intro a b ha hb lt e;let ha:=yF.mp ha;let hb:=yF.mp hb;have:=CQ e () ();ext
def fc (n:Nat):⇑(fZ n)=n:=by unfold fZ;rw[za,zM]
def kJ {n:Int} (h1:-10000<n) (h2:n<10000):⇑(dec n)<=100:=zH (bP h1 h2) ∅
def pT (k:Int):⇑(nm k)<=100:=zH (jq k).2 ∅
def OG:cY "a":=(by decide +kernel:bo "a"= some "a")
def E8:cY "x":=(by decide +kernel:bo "x"= some "x")
def Jg:cY "y":=(by decide +kernel:bo "y"= some "y")
def J5:cY "new":=(by decide +kernel:bo "new"= some "new")
def Jf:cY "zz":=(by decide +kernel:bo "zz"= some "zz")
def all_cons {a:Str} {l:List Str} {p:Str->Prop} (ha:p a) (hl:∀x∈l,p x):∀x∈a::l,p x:=by
 intro x hx;rcases zw.mp hx with rfl | hx
 ·exact ha
 ·exact hl x hx
def all_nil {p:Str->Prop}:∀x∈([]:List Str),p x:=λ_ h=>nomatch h
def mf {n:Str} (h:cY n) (l:⇑n<=100):TD (.aM n):={h,by show 2<=100;decide,all_cons ∅ (all_cons l all_nil)}
def lg {n p:Str} (h:cY n) (l:⇑n<=100) (h':cY p) (l':⇑p<=100):TD (.bf n [p]):={{h,by simp,all_cons h' all_nil},by show 3<=100;decide,all_cons ∅ (all_cons l (all_cons l' all_nil))}
def Ab {n:Str} {a b:Int} {l:Int×Int} (h:cY n) (hl:⇑n<=100) (hp:LL (a,b)) (h1:-12<=a) (h2:a<=12) (r:Lm.Rd l) (l1:l.1<10000) (l2:l.2<10000):TD (.bB n (a,b) l):=by
 let p0:0<=l.1/\0<l.2:={(r.pos.1),r.pos.2.1}
 exact{{(h),hp,h1,h2,r,l1,l2},by show 5<=100;decide,all_cons ∅ (all_cons hl (all_cons (kJ (by show -10000<a;ext) (by show a<10000;ext)) (all_cons (kJ (by have:=hp.2.2.1;show -10000<b;have:-100<b:=this;ext) (by have:b<100:=hp.2.2.2.1;show b<10000;ext)) (all_cons (zH (Fb () l1 () l2) ∅) all_nil))))}
def Cj {m:Int×Int} {k:Int} {ms:List Str} (h1:1<=m.1) (h2:m.1<=32) (h3:m.2∈qF) (h4:-7<=k) (h5:k<=7) (h6:ms=[("a": Str)]\/ms=[]):TD (.bar {(m),k,ms}):=by
 let hb:1<=m.2/\m.2<=32:=by
  have:∀x∈qF,1<=x/\x<=32:=by decide
  exact this _ h3
 let l1:(dec m.1 ++"/" ++ dec m.2).length<=100:=by
  rw[len_app,len_app];let a1:=bP (n:=m.1) () ();let a2:=bP (n:=m.2) () ();have:("/": Str).length=1:=rfl;ext
 let l2:⇑(dec k)<=100:=kJ () ();rcases h6 with rfl | rfl
 ·exact{{h1,h2,h3,h4,h5,all_cons OG all_nil},by show 4<=100;decide,all_cons ∅ (all_cons l1 (all_cons l2 (all_cons ∅ all_nil)))}
 ·exact{{(h1),h2,h3,h4,h5,all_nil},by show 3<=100;decide,all_cons ∅ (all_cons l1 (all_cons l2 all_nil))}
def jc {p i:Str} {b:Int} (hp:cY p) (lp:⇑p<=100) (hi:cY i) (li:⇑i<=100) (hb:NB b):TD (.holds p b i):=
 {{(hp),hb,hi},by show 4<=100;decide,all_cons ∅ (all_cons lp (all_cons (kJ (by have:=hb.1;ext) (by have:=hb.2;ext)) (all_cons li all_nil)))}
def oH {a b t:Int} (ha:NB a) (hb:NB b) (h1:2<=t) (h2:t<=9):TD (.rep {a,b,t,[]}):=by
 let la:⇑(dec a)<=100:=kJ (by have:=ha.1;ext) (by have:=ha.2;ext);let lb:⇑(dec b)<=100:=kJ (by have:=hb.1;ext) (by have:=hb.2;ext);let lt:⇑(dec t)<=100:=kJ () ();exact{{ha,hb,h1,h2,λ_ z=>nomatch z},by show 4<=100;decide,all_cons ∅ (all_cons la (all_cons lb (all_cons lt all_nil)))}
def mW {s k:Int} (hk:0<=k/\k<=400):TD (tr s k):=by
 unfold tr;split
 ·exact mf (pS k) (pT k)
 split
 ·exact Ab (pS k) (pT k) (by unfold LL;decide) ∅ ∅ (Lm.Rd.of (t:=1) (b:=8) ∅ ∅) ∅ ∅
 split
 ·exact lg (pS k) (pT k) (pS _) (pT _)
 split
 ·refine Cj (by show 1<=1+k%32;ext) (by show 1+k%32<=32;ext) (by show(8:Int)∈qF;decide) () () ?_
  split
  ·exact .inl rfl
  ·exact .inr rfl
 split
 ·exact jc E8 ∅ Jg ∅ {(hk.1),()}
 ·exact oH {(()),()} {(()),()} () ()
def Mf:TD (.bar {(1,4),0,[]}):=Cj ∅ ∅ ∅ ∅ ∅ (.inr rfl)
def Me:TD (.bar {(3,8),-7,[]}):=Cj ∅ ∅ ∅ ∅ ∅ (.inr rfl)
def Mg {s:Int}:∀t∈ah s,TD t:=by
 unfold ah;split
 ·intro t ht
  let⟨x,hx,rfl⟩:=zC.mp ht;let⟨k,_,rfl⟩:=fb.mp hx;exact mf (pS _) (pT _)
 split
 ·intro t ht
  rcases zw.mp ht with rfl | ht
  ·exact mf E8 ∅
  rcases zw.mp ht with rfl | ht
  ·exact Ab Jg ∅ (by unfold LL;decide) ∅ ∅ Lm.Rd.zero ∅ ∅
  ·rw[List.eq_of_mem_replicate ht];exact Mf
 split
 ·intro t ht
  rw[List.eq_of_mem_replicate ht];exact Me
 ·intro t ht;cases ht
noncomputable def b4:FY:={(1,4),0,[]}
noncomputable def b5:FY:={(3,8),-7,[]}
noncomputable def HP (k:Int):FY:={(1+k%32,8),k%15-7,if k%2=0 then ["a"] else []}
noncomputable def nN (k:Int):Rep:={2*k,2*k+k%2,2+k%8,[]}
noncomputable def st (s:Int) (n:Nat):bZ:=
 if s=0 then {players:=fZ n} else if s=1 then {instruments:=(fZ n).map λx=>(x,(1,7),(1,8))} else if s=2 then {players:=fZ 12,aG:=(List.range n).map λk=>(nm (k:Nat),[nm ((k:Nat)%12)])}
 else if s=3 then {bars:=(List.range n).map λk=>HP (k:Nat)} else if s=4 then {players:=["x"],instruments:=[("y",(0,0),(0,1))],bars:=List.replicate 30 b4,holds:=[("x",(List.range n).map λk=>(((k:Nat):Int),"y"))]}
 else {bars:=List.replicate 60 b5,repeats:=(List.range n).map λk=>nN (k:Nat)}
def most (s:Int):Nat:=if s=3 then 200 else if s=4\/s=5 then 20 else 12
def PD {n:Nat}:⇑(st 5 n).bars=60:=List.length_replicate
def PF {n:Nat}:⇑(st 4 n).bars=30:=List.length_replicate
def Hw {n k:Nat} (h:k<n):fault (st 0 n) (tr 0 k)=some ("twice": Str):=yC (fb.mpr {(k),h,rfl})
def Hv {n k:Nat} (h:k<n):fault (st 1 n) (tr 1 k)=some ("twice": Str):=yC (zC.mpr {_,zC.mpr {nm k,fb.mpr {(k),h,rfl},rfl},rfl})
def Jy:fault (st 0 12) (tr 0 12)=some ("many": Str):=by
 show(if nm 12∈fZ 12 then some ("twice": Str) else if 12<=⇑(fZ 12) then some ("many": Str) else none)=_;rw[yB (λz=>by let⟨k,hk,e⟩:=fb.mp z;have:=CQ e () ();ext),yC (by rw[fc];exact zh _)]
def Jx:fault (st 1 12) (tr 1 12)=some ("many": Str):=by
 show(if nm 12∈((fZ 12).map λx=>(x,((1,7):Int×Int),((1,8):Int×Int))).map (·.1) then some ("twice": Str) else if 12<=⇑((fZ 12).map λx=>(x,((1,7):Int×Int),((1,8):Int×Int))) then some ("many": Str) else none)=_;rw[zu,show((·.1)∘λx:Str=>(x,((1,7):Int×Int),((1,8):Int×Int)))=id from rfl,List.map_id,yB (λz=>by let⟨k,hk,e⟩:=fb.mp z;have:=CQ e () ();ext),yC (by rw[za,fc];exact zh _)]
def Jv:fault (st 3 200) (tr 3 200)=some ("many": Str):=by
 show(if 200<=⇑((List.range 200).map λk=>HP (k:Nat)) then some ("many": Str) else none)=_;rw[yC (by rw[za,zM];exact zh _)]
def G6 {n:Nat}:((st 4 n).holds.lookup ("x": Str)).getD []=(List.range n).map λk=>(((k:Nat):Int),("y": Str)):=rfl
def La {n:Nat}:((List.range (n+1)).map λk=>(((k:Nat):Int),("y": Str))).getLast?=some ((n:Int),("y": Str)):=by rw[List.range_succ,zg];simp
def f4 {n:Nat} (p i:Str) (b:Int) (ep:p ="x"):fault (st 4 (n+1)) (.holds p b i)=if b<=(n:Int) then some ("twice": Str) else if i≠ "y" then some ("name": Str) else if 30<=b then some ("bar": Str) else if 20<=n+1 then some ("many": Str) else none:=by
 subst ep;show(if(match (((st 4 (n+1)).holds.lookup ("x": Str)).getD []).getLast? with | some q=>decide (b<=q.1) | none=>false)=true then some ("twice": Str) else if("x": Str)∉(st 4 (n+1)).players then some ("name": Str) else if i∉(st 4 (n+1)).instruments.map (·.1) then some ("name": Str) else if¬(st 4 (n+1)).has [b]=true then some ("bar": Str) else if 20<=(((st 4 (n+1)).holds.lookup ("x": Str)).getD []).length then some ("many": Str) else none)=_;rw[G6,La,za,zM];let hp:("x": Str)∈(st 4 (n+1)).players:=zt.mpr rfl;let hi:i∉(st 4 (n+1)).instruments.map (·.1)↔i≠ "y":=by
  show i∉[("y": Str)]↔_;rw[zt]
 let hb:(¬(st 4 (n+1)).has [b]=true)↔30<=b:=by
  show¬([b].all λb=>decide (b<(⇑(st 4 (n+1)).bars:Int)))=true↔_;rw[PF];simp
 by_cases c1:b<=(n:Int)
 ·rw[yC c1,yC (zd c1)]
 rw[yB c1,yB (λz=>c1 (zU z)),yB (λz=>z hp)]
 by_cases c2:i≠ "y"
 ·rw[yC c2,yC (hi.mpr c2)]
 rw[yB c2,yB (λz=>c2 (hi.mp z))]
 by_cases c3:30<=b
 ·rw[yC c3,yC (hb.mpr c3)]
 rw[yB c3,yB (λz=>c3 (hb.mp z))]
def G9 {n:Nat}:(st 5 (n+1)).repeats.getLast?=some (nN (n:Nat)):=by
 show((List.range (n+1)).map λk=>nN (k:Nat)).getLast?=_;rw[List.range_succ,zg];simp
def f5 {n:Nat} {a b t:Int}:fault (st 5 (n+1)) (.rep {a,b,t,[]})=if 60<=a\/60<=b then some ("bar": Str) else if a<=2*(n:Int)+(n:Int)%2\/b<a then some ("form": Str) else if 20<=n+1 then some ("many": Str) else none:=by
 show(if¬(st 5 (n+1)).has [a,b]=true then some ("bar": Str) else if(st 5 (n+1)).b3.isSome=true then some ("form": Str) else if¬d5 (st 5 (n+1)).repeats {a,b,t,[]}=true then some ("form": Str) else if 20<=⇑(st 5 (n+1)).repeats then some ("many": Str) else none)=_;let hb:(¬(st 5 (n+1)).has [a,b]=true)↔60<=a\/60<=b:=by
  show¬([a,b].all λb=>decide (b<(⇑(st 5 (n+1)).bars:Int)))=true↔_;rw[PD];simp;ext
 let hl:⇑(st 5 (n+1)).repeats=n+1:=by show((List.range (n+1)).map λk=>nN (k:Nat)).length=_;rw[za,zM]
 let hf:(¬d5 (st 5 (n+1)).repeats {a,b,t,[]}=true)↔(a<=2*(n:Int)+(n:Int)%2\/b<a):=by
  unfold d5;rw[G9];show¬(if a<=2*(n:Int)+(n:Int)%2 then false else decide (a<=b)&&true)=true↔_;split
  ·rename_i h;simp[h]
  ·rename_i h;simp;ext
 rw[hl]
 by_cases c1:60<=a\/60<=b
 ·rw[yC c1,yC (hb.mpr c1)]
 rw[yB c1,yB (λz=>c1 (hb.mp z)),yB (show¬(st 5 (n+1)).b3.isSome=true from λz=>nomatch z)]
 by_cases c2:a<=2*(n:Int)+(n:Int)%2\/b<a
 ·rw[yC c2,yC (hf.mpr c2)]
 rw[yB c2,yB (λz=>c2 (hf.mp z))]
def Hu {n:Nat} (x p:Str):fault (st 2 n) (.bf x [p])=if x∈fZ n then some ("twice": Str) else if∃k<n,p=nm ((k:Nat)%12) then some ("twice": Str) else if p∉fZ 12 then some ("name": Str) else none:=by
 show(if x∈(st 2 n).aG.map (·.1) then some ("twice": Str) else if¬[p].Nodup then some ("twice": Str) else if(st 2 n).aG.any (λq=>[p].any λp=>decide (p∈q.2))=true then some ("twice": Str) else if [p].any (λp=>!decide (p∈(st 2 n).players))=true then some ("name": Str) else none)=_;let e1:(st 2 n).aG.map (·.1)=fZ n:=by show((List.range n).map λk=>(nm (k:Nat),[nm ((k:Nat)%12)])).map (·.1)=fZ n;rw[zu];rfl
 let e2:((st 2 n).aG.any (λq=>[p].any λp=>decide (p∈q.2))=true)↔∃k<n,p=nm ((k:Nat)%12):=by
  show(((List.range n).map λk=>(nm (k:Nat),[nm ((k:Nat)%12)])).any (λq=>[p].any λp=>decide (p∈q.2))=true)↔_;rw[yb];constructor
  ·rintro⟨q,hq,h⟩
   let⟨k,hk,rfl⟩:=zC.mp hq;simp at h;exact{k,yF.mp hk,h}
  ·rintro⟨k,hk,rfl⟩
   exact{_,zC.mpr {k,yF.mpr hk,rfl},by simp}
 let e3:([p].any (λp=>!decide (p∈(st 2 n).players))=true)↔p∉fZ 12:=by
  show([p].any (λp=>!decide (p∈fZ 12))=true)↔_;simp
 rw[e1,yB (c:=¬[p].Nodup) (λz=>z (by simp))]
 by_cases c1:x∈fZ n
 ·rw[yC c1,yC c1]
 rw[yB c1,yB c1]
 by_cases c2:∃k<n,p=nm ((k:Nat)%12)
 ·rw[yC c2,yC (e2.mpr c2)]
 rw[yB c2,yB (λz=>c2 (e2.mp z))]
 by_cases c3:p∉fZ 12
 ·rw[yC c3,yC (e3.mpr c3)]
 rw[yB c3,yB (λz=>c3 (e3.mp z))]
def GY {n:Nat}:("new": Str)∉fZ n:=λz=>by let⟨k,_,e⟩:=fb.mp z;exact K6 _ e.symm
def MZ {n:Nat}:("zz": Str)∉fZ n:=λz=>by let⟨k,_,e⟩:=fb.mp z;exact J6 _ e.symm
def Lv {n:Nat} (h:0<n):fault (st 2 n) (.bf "new" [nm 0])=some ("twice": Str):=by rw[Hu,yB GY,yC {0,h,rfl}]
def Lu {n k:Nat} (h:k<n) (p:Str):fault (st 2 n) (.bf (nm k) [p])=some ("twice": Str):=by rw[Hu,yC (fb.mpr {(k),h,rfl})]
def Jw {n:Nat}:fault (st 2 n) (.bf "new" ["zz"])=some ("name": Str):=by
 rw[Hu,yB GY,yB (λ⟨k,_,e⟩=>J6 _ e.symm),yC MZ]
def d1:dec 1=("1": Str):=by decide +kernel
def d7:dec 7=("7": Str):=by decide +kernel
def d8:dec 8=("8": Str):=by decide +kernel
def d0:dec 0=("0": Str):=by decide +kernel
def d4:dec 4=("4": Str):=by decide +kernel
def d3:dec 3=("3": Str):=by decide +kernel
def Px:dec (-7)=("-7": Str):=by decide +kernel
def Ov (k:Int):rowOf (tr 0 k) ="player " ++ nm k:=rfl
def Ou (k:Int):rowOf (tr 1 k) ="instrument " ++ nm k ++" 1 7 1/8":=by
 show("instrument": Str) ++" " ++ (nm k ++" " ++ (dec 1 ++" " ++ (dec 7 ++" " ++ (dec 1 ++"/" ++ dec 8))))=_;rw[d1,d7,d8,show("instrument ": Str) ="instrument" ++" " by decide +kernel,show(" 1 7 1/8": Str) =" " ++ ("1" ++ (" " ++ ("7" ++ (" " ++ ("1" ++ ("/" ++"8")))))) by decide +kernel];simp only[bD]
def Ot (k:Int):rowOf (tr 2 k) ="staff " ++ nm k ++" " ++ nm (k%12):=by
 show("staff": Str) ++" " ++ (nm k ++" " ++ nm (k%12))=_;rw[show("staff ": Str) ="staff" ++" " by decide +kernel];simp only[bD]
def Oq (k:Int):rowOf (tr 3 k) ="bar " ++ dec (1+k%32) ++"/8 " ++ dec (k%15-7)++(if k%2=0 then(" a": Str) else ""):=by
 show Str.join " " ("bar":: (dec (1+k%32) ++"/" ++ dec 8)::dec (k%15-7)::(if k%2=0 then ["a"] else []))=_;split
 ·show("bar": Str) ++" " ++ ((dec (1+k%32) ++"/" ++ dec 8) ++" " ++ (dec (k%15-7) ++" " ++"a"))=_
  rw[d8,show("bar ": Str) ="bar" ++" " by decide +kernel,show("/8 ": Str) ="/" ++ ("8" ++" ") by decide +kernel,show(" a": Str) =" " ++"a" by decide +kernel];simp only[bD]
 ·show("bar": Str) ++" " ++ ((dec (1+k%32) ++"/" ++ dec 8) ++" " ++ dec (k%15-7))=_
  rw[d8,show("bar ": Str) ="bar" ++" " by decide +kernel,show("/8 ": Str) ="/" ++ ("8" ++" ") by decide +kernel];simp only[bD];exact jI (by simp only[bK];rw[show("": Str).cps.toList=[] from rfl,zO])
def Jr (b:Int) (i:Str):rowOf (.holds "x" b i) ="holds x " ++ dec b ++" " ++ i:=by
 show("holds": Str) ++" " ++ ("x" ++" " ++ (dec b ++" " ++ i))=_;rw[show("holds x ": Str) ="holds" ++ (" " ++ ("x" ++" ")) by decide +kernel];simp only[bD]
def Oo (k:Int):rowOf (tr 4 k) ="holds x " ++ dec k ++" y":=by
 show rowOf (.holds "x" k "y")=_;rw[Jr,show(" y": Str) =" " ++"y" by decide +kernel];simp only[bD]
def IK (a b t:Int):rowOf (.rep {a,b,t,[]}) ="repeat " ++ dec a ++" " ++ dec b ++" " ++ dec t:=by
 show("repeat": Str) ++" " ++ (dec a ++" " ++ (dec b ++" " ++ dec t))=_;rw[show("repeat ": Str) ="repeat" ++" " by decide +kernel];simp only[bD]
def Om (k:Int):rowOf (tr 5 k) ="repeat " ++ dec (2*k) ++" " ++ dec (2*k+k%2) ++" " ++ dec (2+k%8):=IK _ _ _
def Ol:rowOf (.aM "x") ="player x":=by decide +kernel
def Oj:rowOf (.bB "y" (0,0) (0,1)) ="instrument y 0 0 0":=by
 show("instrument": Str) ++" " ++ ("y" ++" " ++ (dec 0 ++" " ++ (dec 0 ++" " ++ dec 0)))=_;rw[d0];decide +kernel
def ME:rowOf (.bar {(1,4),0,[]}) ="bar 1/4 0":=by
 show("bar": Str) ++" " ++ ((dec 1 ++"/" ++ dec 4) ++" " ++ dec 0)=_;rw[d1,d4,d0];decide +kernel
def MD:rowOf (.bar {(3,8),-7,[]}) ="bar 3/8 -7":=by
 show("bar": Str) ++" " ++ ((dec 3 ++"/" ++ dec 8) ++" " ++ dec (-7))=_;rw[d3,d8,Px];decide +kernel
def KI (n p:Str):rowOf (.bf n [p]) ="staff " ++ n ++" " ++ p:=by
 show("staff": Str) ++" " ++ (n ++" " ++ p)=_;rw[show("staff ": Str) ="staff" ++" " by decide +kernel];simp only[bD]
end Sc
namespace K22
open PySem L2 Lm Sc
def top (i:Nat):Stmt:=PySem.Challenge.pw_partsmith_k15_too_many_and_the_first_at.main.body.getD i (.Pass {0,0,0,0})
abbrev rF:=top 10
abbrev rC:=top 11
abbrev mv:=top 14
abbrev rH:=top 15
abbrev IJ:=top 16
abbrev ET:=top 17
abbrev kb:=top 18
abbrev uE:=top 24
abbrev ko:=top 25
abbrev Au:=top 26
abbrev Ct:=top 36
abbrev CA:=top 37
abbrev Ar:=top 38
abbrev uD:=top 39
abbrev rA:=top 40
abbrev Aq:=top 41
abbrev Ap:=top 42
abbrev uG:=top 43
abbrev Cu:=top 44
abbrev Cv:=top 45
abbrev rE:=top 46
abbrev lz:=top 47
abbrev uC:=top 48
abbrev Cw:=top 49
abbrev rB:=top 50
abbrev Av:=top 51
abbrev uF:=top 52
abbrev rD:=top 53
abbrev As:=top 54
abbrev nM:=top 56
abbrev km:=top 57
abbrev EU:=top 58
abbrev Cz:=top 59
abbrev ro:=top 60
abbrev oX:=top 61
abbrev Aw:=top 62
abbrev Ax:=top 63
abbrev o9:=top 64
abbrev Az:=top 65
abbrev Ay:=top 66
abbrev o6:=top 75
abbrev rk:=top 76
abbrev o7:=top 77
abbrev Cy:=top 78
abbrev oZ:=top 79
abbrev kr:=top 80
abbrev rm:=top 81
abbrev AA:=top 82
abbrev oW:=top 83
abbrev uI:=top 84
abbrev rG:=top 85
abbrev oY:=top 86
abbrev uH:=top 87
abbrev ku:=top 89
abbrev CB:=top 90
abbrev EV:=top 91
abbrev lx:=top 92
abbrev uK:=top 95
abbrev uM:=top 96
abbrev uL:=top 97
abbrev AB:=top 98
abbrev uN:=top 99
abbrev CC:=top 100
abbrev CD:=top 101
abbrev uJ:=top 102
abbrev Mz:=top 103
abbrev lA:=inClass (top 74) 0
abbrev iM:=inClass (top 3) 0
structure Df (K:yo) (mg:Str->Option wC) (x:Str) (st:Stmt) (a:wJ) (d:wI) (ps:List Str):Prop where
 F:FO K x x st a d
 g:mg x=some (.ref a)
 b:Binds K d ps []
structure NN (K:yo) (x y:Str) (st:Stmt) (a:wJ) (d:wI) (ps:List Str):Prop where
 F:FO K x y st a d
 b:Binds K d ps []
set_option genInjectivity false in
set_option genSizeOf false in
structure Txt (K:yo) (mg:Str->Option wC) where
 (sF sE mT sG JN FI gK wN kR BU DA DF BS wM sD BR BQ wO DB DC eE cy fk iE eC gw fm eD gs oa qI FJ DE sC qH BV BW qL BY BX qJ sA qK DD dI cg eB gx dG fq eF dH fo qM DG FK l5 wR fu wU BZ wV DH DI wQ Nq iF fj cH ck fA lD eQ aU fi jZ ow iD jY:wJ)
 (sj sd mR so JG Fq gJ vH kK BB C6 Dh Bz vG rZ By Bx vJ C8 C9 si lX vF Dc r8 BC vI se BA nX C7 Fu Dg rY ql BD BE qt BG BF qp rW qq Dd qo kL rX BH qk vL sk qm vK De Di Fv lW vN fh vO BI vP Dj Dl vM HL lY iY:wI)
 (EL mj qQ oI qR nB t9 oM mi oN nE oO ua oK kj Ac ud uc oJ:Tok)
 bU:Df K mg "read_number" rF sF sj ["text","most"]
 dh:Df K mg "read_signed" rC sE sd ["text","most"]
 dE:Df K mg "common_divisor" mv mT mR ["one","other"]
 cF:Df K mg "made_length" rH sG so ["top","bottom"]
 added:Df K mg "added" IJ JN JG ["one","other"]
 uB:Df K mg "shorter" ET FI Fq ["one","other"]
 cD:Df K mg "read_length" kb gK gJ ["text"]
 fJ:Df K mg "read_pitch" uE wN vH ["fifths_text","steps_text"]
 b6:Df K mg "read_item_length" ko kR kK ["text"]
 my:Df K mg "read_item" Au BU BB ["text"]
 words_of:Df K mg "words_of" Ct DA C6 ["row"]
 bQ:Df K mg "all_read" CA DF Dh ["values"]
 cJ:Df K mg "read_name" Ar BS Bz ["word"]
 bE:Df K mg "read_plain" uD wM vG ["word"]
 gg:Df K mg "read_within" rA sD rZ ["word","lowest","highest"]
 mx:Df K mg "read_time" Aq BR By ["word"]
 mw:Df K mg "read_turn" Ap BQ Bx ["fifths_word","steps_word"]
 kA:Df K mg "read_metre" uG wO vJ ["word"]
 px:Df K mg "read_key" Cu DB C8 ["word"]
 pz:Df K mg "read_end" Cv DC C9 ["word"]
 gj:Df K mg "read_player" rE eE si ["words"]
 c7:Df K mg "read_instrument" lz cy lX ["words"]
 hV:Df K mg "read_staff" uC fk vF ["words"]
 lC:Df K mg "read_bar" Cw iE Dc ["words"]
 gh:Df K mg "read_upbeat" rB eC r8 ["words"]
 jN:Df K mg "read_hold" Av gw BC ["words"]
 hW:Df K mg "read_notes" uF fm vI ["words"]
 gi:Df K mg "read_repeat" rD eD se ["words"]
 jM:Df K mg "read_jump" As gs BA ["words"]
 gG:Df K mg "is_score_word" nM oa nX ["word"]
 pw:Df K mg "read_row" km qI C7 ["words"]
 vz:Df K mg "ends_of" EU FJ Fu ["repeat"]
 qg:Df K mg "ends_fit" Cz DE Dg ["repeat"]
 ji:Df K mg "repeat_fits" ro sC rY ["repeats","repeat"]
 eW:Df K mg "repeat_round" oX qH ql ["repeats","bar"]
 mH:Df K mg "may_leave" Aw BV BD ["repeats","bar"]
 jU:Df K mg "may_enter" Ax BW BE ["repeats","bar"]
 fg:Df K mg "in_last_pass" o9 qL qt ["repeats","bar"]
 mS:Df K mg "coda_fits" Az BY BG ["repeats","at","coda"]
 mL:Df K mg "jump_fits" Ay BX BF ["repeats","jump"]
 fe:Df K mg "metre_length" o6 qJ qp ["score","bar"]
 ja:Df K mg "told_length" rk sA rW ["score","bar"]
 iw:Df K mg "items_length" o7 qK qq ["items"]
 gR:Df K mg "has_bars" Cy DD Dd ["score","bars"]
 eY:Df K mg "player_fault" oZ dI qo ["score","player"]
 cL:Df K mg "instrument_fault" kr cg kL ["score","told"]
 eG:Df K mg "staff_fault" rm eB rX ["score","told"]
 j1:Df K mg "bar_fault" AA gx BH ["score","told"]
 dn:Df K mg "upbeat_fault" oW dG qk ["score","length"]
 iA:Df K mg "hold_fault" uI fq vL ["score","told"]
 gn:Df K mg "notes_fault" rG eF sk ["score","told"]
 eX:Df K mg "repeat_fault" oY dH qm ["score","repeat"]
 ip:Df K mg "jump_fault" uH fo vK ["score","jump"]
 qf:Df K mg "fault_of" ku qM De ["score","sort","told"]
 qG:Df K mg "add_hold" CB DG Di ["score","told"]
 wL:Df K mg "add_row" EV FK Fv ["score","sort","told"]
 c9:Df K mg "read_score" lx l5 lW ["text"]
 kU:Df K mg "_law_mixed" uK wR vN ["_law_cell","_law_k"]
 fW:Df K mg "_law_alike" uM fu fh ["_law_found","_law_due"]
 fV:Df K mg "_law_fault" uL wU vO ["_law_text","_law_place","_law_word"]
 cq:Df K mg "_law_name" AB BZ BI ["_law_k"]
 kW:Df K mg "_law_ahead" uN wV vP ["_law_sort"]
 jG:Df K mg "_law_row" CC DH Dj ["_law_sort","_law_k"]
 qO:Df K mg "_law_odd" CD DI Dl ["_law_sort","_law_many","_law_m"]
 kT:Df K mg "_law_right" uJ wQ vM ["_law_cell","_law_k"]
 OI:Df K mg "law" Mz Nq HL ["_law_script"]
 Iu:mg "Score"= some (.ref fj)
 JO:Mk K fj iF
 qP:NN K "__init__" "Score.__init__" lA iF lY ["self"]
 FD:mg "FIGURES"= some (.str "0123456789" EL)
 gY:mg "LENGTH_FIGURES"= some (.int (4) mj)
 su:mg "HIGHEST_KEY"= some (.int (7) qQ)
 qz:mg "OCTAVE_STEPS"= some (.int (12) oI)
 sv:mg "FIFTH_STEPS"= some (.int (7) qR)
 iZ:mg "PITCH_FIGURES"= some (.int (2) nB)
 vU:mg "NAME_SIGNS"= some (.str "abcdefghijklmnopqrstuvwxyz0123456789" t9)
 qC:mg "LONGEST_NAME"= some (.int (12) oM)
 gX:mg "NUMBER_FIGURES"= some (.int (3) mi)
 qD:mg "HIGHEST_TURN"= some (.int (12) oN)
 nZ:mg "HIGHEST_METRE"= some (.int (32) nE)
 nY:mg "METRE_BOTTOMS"= some (.ref ck)
 iW:∀H,cQ K H ck [.int 1,.int 2,.int 4,.int 8,.int 16,.int 32]
 qE:mg "FEWEST_TIMES"= some (.int (2) oO)
 vV:mg "MOST_TIMES"= some (.int (9) ua)
 tQ:mg "READERS"= some (.ref fA)
 qB:mg "MOST_PLAYERS"= some (.int (12) oK)
 kQ:mg "MOST_INSTRUMENTS"= some (.int (12) kj)
 BL:mg "MOST_BARS"= some (.int (200) Ac)
 vX:mg "MOST_HOLDS"= some (.int (20) ud)
 vW:mg "MOST_ITEMS"= some (.int (40) uc)
 qA:mg "MOST_REPEATS"= some (.int (20) oJ)
 HN:mg "FAULTS"= some (.ref lD)
 vk:mg "ValueError"= none
 J9:mg "abs"= none
 A7:mg "all"= none
 A6:mg "any"= none
 vj:mg "bool"= none
 m8:mg "enumerate"= none
 Ed:mg "int"= none
 aN:mg "isinstance"= none
 bp:mg "len"= none
 vi:mg "list"= none
 lM:mg "range"= none
 M0:mg "set"= none
 A5:mg "sorted"= none
 jt:mg "str"= none
 jR:mg "tuple"= none
 J8:mg "zip"= none
 iB:PySem.W.nsIn K mainGlobals "NoLength"= some (some (.ref cH))
 hZ:PySem.W.excIn K cH [.type "ValueError",.type "Exception",.type "BaseException",.type "object"] "ValueError.__new__"= true
 Ce:mg "NoLength"= some (.ref cH)
 cf:Cf K fj
 oG:mg "BadScore"= some (.ref aU)
 bY:wX K aU fi eQ
 ki:NN K "__init__" "BadScore.__init__" iM eQ iY ["self","place","word"]
 vB:PySem.W.nsIn K mainGlobals "ScoreError"= some (some (.ref fi))
 rV:PySem.W.mroIn K fi (.type "BaseException")=some true
 w6:PySem.W.mroIn K aU (.ref fi)=some true
 EG:mg "BadDeed"= some (.ref jZ)
 Iv:mg "NoBar"= some (.ref ow)
 Cd:mg "NoPlayer"= some (.ref iD)
 EF:mg "NoStaff"= some (.ref jY)
 EC:i0 K aU jZ
 Ip:i0 K aU ow
 Cb:i0 K aU cH
 Ca:i0 K aU iD
 EB:i0 K aU jY
 xf:Kf K aU
def bH {X:Cx} {x:Str} {st:Stmt} {k n:Nat} {f:wJ} {fd:wI} {ps:List Str} {sp:Sp} {e:Expr} {es:List Expr} {t:TA} {p pos:Pos} (F:bC X.prog X.w X.K X.mg X.base sL k f fd ps sp) (hr:cN n X.A) (D:Df X.K X.mg x st f fd ps)
  (ha:PA X (e::es) t) (hk:k<=n<|>qb_) (hg:Gl X x<|>qe_) (hdb:(x == ("__debug__": Str))=false<|>qb_) (he:starEach (e::es) X.env=(false,eval e X.env)::starEach es X.env<|>qe_) (hpl:(backTo pos (starEach es X.env)).any (·.1)=false<|>qe_) :
  PE X (.Call (.Name x p) (e::es) [] pos) (gd sp [] E0 t):=uU F (hr.mono hk) hg D.g D.F.kp D.b .nil sX ha hdb he hpl
def fB {X:Cx} {a b:Expr} {ta tb:TE} {pos:Pos} (ha:PE X a ta) (hb:PE X b tb) (hs:wW b<|>qg_):PE X (.Subscript a b pos) (kX (MG X.K) ta tb):=Eb Jn ha hb hs
def cm {X:Cx} {a b:Expr} {ta tb:TE} {pos:Pos} (ha:PE X a ta) (hb:PE X b tb) (hs:wW b<|>qg_):PE X (.Subscript a b pos) (kX (pC X.K) ta tb):=Eb Lf ha hb hs
def ptr {X:Cx} {a b:Expr} {ta tb:TE} {pos:Pos} {op:CmpOp} {r:R2} (ho:mV X (compareOp op) r) (ha:PE X a ta) (hb:PE X b tb) (h:op≠.In<|>qb_) (h2:op≠.NotIn<|>qb_):PT X (.Compare a [op] [b] pos) (Ad (kX r ta tb)):=jO ho ha hb (cT b h h2)
def Lo (p:St) (n:Nat) (U:St):Prop:=∃e:Nat->Option V,U=p++(List.range n).map e
def Lo.of {p:St} {n:Nat} {U:St} (h:U.take ⇑p=p) (l:U.length=⇑p+n):Lo p n U:=by
 refine{λi=>U[⇑p+i]?.join,List.ext_getElem? λi=>?_}
 by_cases c:i<⇑p
 ·rw[xK c]
  conv=>rhs;rw[<-h]
  rw[List.getElem?_take_of_lt c]
 ·rw[zP (),zF]
  by_cases d:i-⇑p<n
  ·rw[List.getElem?_range d]
   have:⇑p+(i-⇑p)=i:=()
   simp only[yY,this];rw[zb ()];rfl
  ·rw[x9 (),x9 (by simp;ext)]
   rfl
abbrev At (b:yo->TS) (K:yo):TS:=b K
abbrev Sq (b:yo->TS) (K:yo) (D:Ends):Ends:={D with nx:=b K D}
abbrev Dz (Q:VK):Ends:={nx:=λ_ H'=>Q .aO H',rt:=Q}
def Ev (t:TE) (U:St) (H:Hp) (v:V):Prop:=∀Q:VK,Q v H->t U H Q
def Ii (t:TA) (U:St) (H:Hp) (vs:List V):Prop:=∀R:List V->Hp->Prop,R vs H->t U H R
def Kg (t:TT) (U:St) (H:Hp) (b:Bool):Prop:=∀R:Bool->Hp->Prop,R b H->t U H R
inductive OO (K:yo) (f:Str) (x:V) (H:Hp) (Q:VK):Prop
 | mk (a C dx:wJ) (fs:List (Str×V)) (v:V) (_:x=.ref a) (_:H a=some (.ins C dx fs)) (_:JQ K C) (_:bT K C f) (_:fs.lookup f=some v) (_:Q v H)
section
variable {t u:TE} {ta:TA} {c:TT} {wi:TI} {a b:TS} {gt:TG} {D:Ends} {U:St} {H:Hp} {v x y:V} {vs:List V} {g:Int->Int->V} {i j:Int} {r:R2} {Q:VK} {R:List V->Hp->Prop} {S:Bool->Hp->Prop} {k:Bool} {K:yo} {p:wJ} {xs:List V}
def Lx {n:Nat} (e:U[n]?=some (some v)):Ev (cj n) U H v:=λ_ q=>{(v),e,q}
def OR:Ev (tC v) U H v:=λ_ q=>q
def Ni (a:Ev t U H (.int i)) (b:Ev u U H (.int j)):Ev (kX (FQ g) t u) U H (g i j):=λ_ q=>a _ (b _ {_,_,rfl,rfl,q})
def Nh {C:Int->Int->Prop} (a:Ev t U H (.int i)) (b:Ev u U H (.int j)) (c:C i j):Ev (kX (rI C g) t u) U H (g i j):=λ_ q=>a _ (b _ {_,_,rfl,rfl,c,q})
def Ng (a:Ev t U H (.ref p)) (b:Ev u U H (.int j)) (h:H p=some (.tup xs)) (e:tV xs j=some v):Ev (kX (pC K) t u) U H v:=λ_ q=>a _ (b _ {_,_,_,_,rfl,rfl,cQ.of h,e,q})
def Lz:Ii j4 U H []:=λ_ q=>q
def JB (a:Ev t U H v) (b:Ii ta U H vs):Ii (cB t ta) U H (v::vs):=λ_ q=>a _ (b _ q)
def LA (a:Ev t U H v):Ev (Gh t) U H (.bl (decide (v=.aO))):=λ_ q=>a _ q
def JA (a:Ev t U H v):Ev (Gg t) U H (.bl (!decide (v=.aO))):=λ_ q=>a _ q
def Ly (a:Ev t U H (.bl k)):Ev (Mp t) U H (.bl (!k)):=λ_ q=>a _ {_,rfl,q}
def Nj (a:Ev t U H x) (b:Ev u U H y) (s:IH x y=true):Ev (kX OD t u) U H (.bl (decide (x=y))):=λ_ q=>a _ (b _ {(s),q})
def Nf (a:Ev t U H x) (b:Ev u U H y) (s:IH x y=true):Ev (kX OA t u) U H (.bl (!decide (x=y))):=λ_ q=>a _ (b _ {(s),q})
def OP (a:Ev t U H (.bl k)):Kg (Ad t) U H k:=λ_ q=>a _ {_,rfl,q}
def OS (a:Ev t U H (.bl k)):Kg (tB t) U H k:=λ_ q=>a _ {_,rfl,q}
def OQ (a:Kg c U H k):Kg (Mq c) U H (!k):=λ_ q=>a _ q
def MA (e:Ev t U H v) (q:gt v U H D.nx):Gi t gt D U H:=e _ q
def My (e:Ev t U H v) (q:D.rt v H):Kt t D U H:=e _ q
def Oh {a b:yo->TS} (e:Kg c U H k) (q:if k=true then At a K D U H else At b K D U H):IB c (a K) (b K) D U H:=e _ q
def NO {b:yo->TS} (q:a (Sq b K D) U H):Mm a (b K) D U H:=q
def NU {n:Nat} {S:St->Hp->Prop} (q:S (U.set n (some v)) H):eT n v U H S:=q
def NR {b:yo->TS} (q:b K D U H):(Sq b K D).nx U H:=q
def NQ (q:D.nx U H):JR D U H:=q
def L9 (q:t U H λx H1=>gt x U H1 D.nx):Gi t gt D U H:=q
def L6 (q:t U H D.rt):Kt t D U H:=q
def Kj (q:t U H λ_ H1=>D.nx U H1):JS t D U H:=q
def NT (q:c U H λz H1=>if z=true then a D U H1 else b D U H1):IB c a b D U H:=q
def NV {a b:yo->TS} (q:c U H λz H1=>if z=true then At a K D U H1 else At b K D U H1):IB c (a K) (b K) D U H:=q
def Mx (e:Kg c U H k) (q:S k H):c U H S:=e S q
def Ph (q:t U H λx H'=>∃k,x=.bl k/\S k H'):Ad t U H S:=q
def Pj (q:t U H λx H'=>∃k,x=.bl k/\S k H'):tB t U H S:=q
def NZ (e:Ev t U H v) (q:Q v H):t U H Q:=e Q q
def w_arg (e:Ii ta U H vs) (q:R vs H):ta U H R:=e R q
def x_call {sp:Sp} {dv:List V} {E:XK} (q:ta U H λvs H1=>sp (vs++dv) H1 Q E):gd sp dv E ta U H Q:=q
def NW {q':List V->Hp->VK->Prop} (q:ta U H λvs H1=>q' vs H1 Q):JT q' ta U H Q:=q
def L5 (q:ta U H λxs H1=>⇑xs<=sizeLine/\∀p,H1 p=none->Q (.ref p) (upd H1 p (.tup xs))):Iy ta U H Q:=q
def L7 (q:ta U H λxs H1=>⇑xs<=sizeLine/\∀p,H1 p=none->Q (.ref p) (upd H1 p (.lst xs))):Kw ta U H Q:=q
def Kk {fr:List (Option Nat)} (q:wi U H λJ H1=>c8 (fr.map λo=>o.bind λj=>(U[j]?).join) gt c t Q J H1):uf fr wi gt c t U H Q:=q
def Og {R:It->Hp->Prop} (e:Ev t U H (.ref p)) (q:(∃xs,aE K H p xs)/\R (Ih K p) H):Hh K t U H R:=e _ {_,rfl,q}
def NP {R:It->Hp->Prop} (q:ta U H λvs H1=>∃j:Int,vs=[.int j]/\-(2^62)<=j/\j<2^62/\R (LZ 0 j.toNat) H1):Hg ta U H R:=q
abbrev iJ (J:It):TI:=λ_ H R=>R J H
def Fr (g:TG) (b:TS) (D:Ends) (U:St) (J:It) (H:Hp):Prop:=Ky (iJ J) g b D U H
def L8 {b:yo->TS} (q:wi U H (Fr gt (At b K) D U)):Ky wi gt (b K) D U H:=q
def x_at {b:yo->TS} (q:b K D U H):At b K D U H:=q
def NS {R:It->Hp->Prop} (q:t U H λx H1=>∃a,x=.ref a/\(∃xs,aE K H1 a xs)/\R (Ih K a) H1):Hh K t U H R:=q
def N9 {R:It->Hp->Prop} (e:Ii ta U H vs) (q:∃a xs,vs=[.ref a]/\aE K H a xs/\R (LQ K a) H):Kb K ta U H R:=e _ q
def N5 {R:It->Hp->Prop} (e:Ii ta U H vs) (q:∃j:Int,vs=[.int j]/\-(2^62)<=j/\j<2^62/\R (LZ 0 j.toNat) H):Hg ta U H R:=e _ q
def Kn {sp:Sp} {dv:List V} {E:XK} (e:Ii ta U H vs) (q:sp (vs++dv) H Q E):gd sp dv E ta U H Q:=e _ q
def Oa {q':List V->Hp->VK->Prop} (e:Ii ta U H vs) (q:q' vs H Q):JT q' ta U H Q:=e _ q
def N4 (e:Ii ta U H vs) (q:⇑vs<=sizeLine/\∀p,H p=none->Q (.ref p) (upd H p (.tup vs))):Iy ta U H Q:=e _ q
def N8 (e:Ii ta U H vs) (q:⇑vs<=sizeLine/\∀p,H p=none->Q (.ref p) (upd H p (.lst vs))):Kw ta U H Q:=e _ q
def MB {d:TT} (e:Kg c U H k) (q:if k=true then d U H S else S false H):Mu c d U H S:=e _ q
def Of {d:TT} (e:Kg c U H k) (q:if k=true then S true H else d U H S):O3 c d U H S:=e _ q
def Mb {f:Str} (e:Ev t U H x) (q:OO K f x H Q):IC K t f U H Q:=e _ (by let⟨a,C,dx,fs,v,h1,h2,h3,h4,h5,h6⟩:=q;exact{(a),C,dx,fs,v,h1,h2,h3,h4,h5,h6})
def Ob {T:String} {q':V->List V->Hp->VK->Prop} (e:Ev t U H x) (q:Oc K T x H/\ta U H λxs H2=>q' x xs H2 Q):O4 K T q' t ta U H Q:=e _ q
def Mc (e:Ev t U H (.bl k)) (q:if k=true then u U H Q else Q (.bl false) H):JU t u U H Q:=e _ {_,rfl,q}
def N6 (e:Ev t U H (.bl k)) (q:if k=true then Q (.bl true) H else u U H Q):Mo t u U H Q:=e _ {_,rfl,q}
def N7 (q:t U H λx H1=>u U H1 λy H2=>r x y H2 Q):kX r t u U H Q:=q
def Km (q:t U H λx H1=>ta U H1 λxs H2=>R (x::xs) H2):cB t ta U H R:=q
def NX (e:Ev t U H x) (q:u U H λy H2=>r x y H2 Q):kX r t u U H Q:=e _ q
def Kl (e:Ev t U H v) (q:ta U H λxs H2=>R (v::xs) H2):cB t ta U H R:=e _ q
def NY (q:Q (g i j) H):FQ g (.int i) (.int j) H Q:={(i),j,rfl,rfl,q}
def Ma (h:H p=some (.tup xs)) (e:tV xs j=some v) (q:Q v H):pC K (.ref p) (.int j) H Q:={_,_,_,_,rfl,rfl,cQ.of h,e,q}
end
def l9 {g:TG} {tb:TS} {x:V} {U:St} {H:Hp} {A C:St->Hp->Prop} {B:VK} (h:∀N:Ends,(∀U H,A U H->N.nx U H)->(∀v H,B v H->N.rt v H)->(∀U H,A U H->N.ct U H)->(∀U H,C U H->N.bk U H)->g x U H λU2 H2=>tb N U2 H2):g x U H λU2 H2=>tb {nx:=A,rt:=B,bk:=C,ct:=A} U2 H2:=h _ (λ_ _ z=>z) (λ_ _ z=>z) (λ_ _ z=>z) λ_ _ z=>z
def N1 {r:Sp} {vs:List V} {H:Hp} {Q:VK} {E:XK} (h:∀Q':VK,(∀v H',Q v H'->Q' v H')->r vs H Q' E):r vs H Q E:=h Q λ_ _ z=>z
def N2 {r:R2} {x y:V} {H:Hp} {Q:VK} (h:∀Q':VK,(∀v H',Q v H'->Q' v H')->r x y H Q'):r x y H Q:=h Q λ_ _ z=>z
def N0 {r:V->Hp->VK->Prop} {x:V} {H:Hp} {Q:VK} (h:∀Q':VK,(∀v H',Q v H'->Q' v H')->r x H Q'):r x H Q:=h Q λ_ _ z=>z
abbrev cz (P:wF) (w:wG) (base:wK) (n:Nat) {K:yo} {mg:Str->Option wC} {x:Str} {st:Stmt} {a:wJ} {d:wI} {ps:List Str} (_:Df K mg x st a d ps) (sp:Sp):Prop:=bC P w K mg base sL n a d ps sp
theorem _root_.L2.FO.MO {P:wF} {w:wG} {K:yo} {mg:Str->Option wC} {base:wK} {x qual:Str} {st:Stmt} {f:wJ} {fd:wI} {N ps:List Str} {k:Nat} {sp:Sp} (F:FO K x qual st f fd) (S:cA N ps (aA st))
  (hbody:∀(cdv:wC) (A:wH) (outer:List Env) (s:wD) (H:Hp) (vs:List V) (Q:VK) (E:XK),cN k (A.deeper (PyProof.Rows.envOfC qual (aA st) ↑s f cdv))->sp vs H Q E->
   ∃t,sI (eP sL P w K mg base N qual (aA st) f cdv A outer s H E).wZ (bj st) t/\t (Dz Q) (start N vs) H)
  (len:(∀vs H Q E,sp vs H Q E->⇑vs=⇑ps)<|>qh_):bC P w K mg base sL (k+1) f fd ps sp:=F.ok S len hbody
def O5 {P:wF} {w:wG} {K:yo} {mg:Str->Option wC} {base:wK} {x:Str} {st:Stmt} {f:wJ} {fd:wI} {N ps:List Str} {k:Nat} {sp:Sp} (D:Df K mg x st f fd ps) (S:cA N ps (aA st))
  (hbody:N.Nodup->∀(cdv:wC) (A:wH) (outer:List Env) (s:wD) (H:Hp) (vs:List V) (Q:VK) (E:XK),cN k (A.deeper (PyProof.Rows.envOfC x (aA st) ↑s f cdv))->sp vs H Q E->
   ∃t,sI (eP sL P w K mg base N x (aA st) f cdv A outer s H E).wZ (bj st) t/\t (Dz Q) (start N vs) H)
  (len:(∀vs H Q E,sp vs H Q E->⇑vs=⇑ps)<|>qh_):bC P w K mg base sL (k+1) f fd ps sp:=D.F.ok S len (hbody S.nd)
def Lp {N P:List Str} {sc:Scope} (h1:sc.kind=.function<|>qe_) (h2:sc.isCoroutine=false<|>qe_) (h3:sc.isGenerator=false<|>qe_) (h4:N.Nodup<|>qi_) (h5:N.take P.length=P<|>qe_) (h6:(∀x∈P,sc.names.lookup x=some .local\/sc.names.lookup x=some .cell)<|>qi_) (h7:(∀y∈sc.names,y.2≠.free)<|>qi_):cA N P sc:={(h1),h2,h3,h4,h5,h6,h7}
def dJ {X:Cx} {x:Str} {id:String} {r:List V->Hp->VK->Prop} {e:Expr} {es:List Expr} {t:TA} {p pos:Pos} (hc:b9 X (.builtin id) r) (hm:X.mg x=none) (ha:PA X (e::es) t) (hg:Gl X x<|>qe_) (hv:bootBuiltins x=some (.builtin id)<|>qi_) (hn:x≠ "__name__"<|>qb_) (hdb:(x == ("__debug__": Str))=false<|>qb_)
  (he:starEach (e::es) X.env=(false,eval e X.env)::starEach es X.env<|>qe_) (hpl:(backTo pos (starEach es X.env)).any (·.1)=false<|>qe_):PE X (.Call (.Name x p) (e::es) [] pos) (JT r t):=AM hc hg hm hv ha hn hdb he hpl
def AN {X:Cx} {x:Str} {id:String} {r:List V->Hp->VK->Prop} {e:Expr} {es:List Expr} {t:TA} {p pos:Pos} (hc:b9 X (.type id) r) (hm:X.mg x=none) (ha:PA X (e::es) t) (hg:Gl X x<|>qe_) (hv:bootBuiltins x=some (.type id)<|>qi_) (hn:x≠ "__name__"<|>qb_) (hdb:(x == ("__debug__": Str))=false<|>qb_)
  (he:starEach (e::es) X.env=(false,eval e X.env)::starEach es X.env<|>qe_) (hpl:(backTo pos (starEach es X.env)).any (·.1)=false<|>qe_):PE X (.Call (.Name x p) (e::es) [] pos) (JT r t):=E6 hc hg hm hv ha hn hdb he hpl
def cu {X:Cx} {x:Str} {e:Expr} {te:TE} {pos pos':Pos} (i:Nat) (hN:X.N.Nodup) (he:PE X e te) (hi:X.N[i]?=some x<|>qe_) (hx:Loc X.env.scope x<|>qj_) (hs:swapsWith e (some (.Name x pos')) pos.line X.env=pure false<|>qe_) (hf:X.fn x=true\/X.env.scope.names.lookup x=some .local<|>qa_) :
  PS X (.Assign [.Name x pos'] e pos) (Gi te (eT i)):=KY hN hi hx he hs hf
def FR {X:Cx} {x:Str} {pos:Pos} (i:Nat) (hN:X.N.Nodup) (hi:X.N[i]?=some x<|>qe_) (hx:Loc X.env.scope x<|>qj_) (hf:X.fn x=true\/X.env.scope.names.lookup x=some .local<|>qa_):PG X (.Name x pos) (eT i):=Ea hN hi hx hf
def mC {X:Cx} {ts ys:List Str} {scope:Scope} {cl:List (Str×wJ)} {C:wJ} {s₀:wD} {H₀:Hp} {ex:List wJ} {x:Str} {pos:Pos} (i:Nat) (hN:(ts++ys).Nodup<|>qi_) (hi:(ts++ys)[i]?=some x<|>qe_) (hx:Loc (cG X (ts++ys) scope cl C s₀ H₀ ex).env.scope x<|>qj_) (hf:(cG X (ts++ys) scope cl C s₀ H₀ ex).fn x=true\/(cG X (ts++ys) scope cl C s₀ H₀ ex).env.scope.names.lookup x=some .local<|>qa_):PG (cG X (ts++ys) scope cl C s₀ H₀ ex) (.Name x pos) (eT i):=Ea hN hi hx hf
section
variable {X:Cx} {pos:Pos} {elt target iter:Expr} {ifs:List Expr} {scope:Scope} {ts ys:List Str} {js:List Nat} {cl:List (Str×wJ)} {wi:TI} {g:TG} {tc:TT} {te:TE}
def nO (hi:PI X target iter wi) (hg:∀{C s₀ H₀ ex},PG (cG X (ts++ys) scope cl C s₀ H₀ ex) target g) (hif:∀{C s₀ H₀ ex},LY (cG X (ts++ys) scope cl C s₀ H₀ ex) ifs tc) (he:∀{C s₀ H₀ ex},PE (cG X (ts++ys) scope cl C s₀ H₀ ex) elt te)
  (hclos:closureFor scope X.env=pure cl<|>qe_) (hc:X.calm=true<|>qe_) (hcl:DJ X.env.cells cl<|>qk_)
  (hLo:((relabel scope X.env).names.all λp=>(p.2 != .cell&&p.2 != .free)||ys.contains p.1||scope.names.contains (p.1,.cell))=true<|>qe_) (hno:(∀p∈scope.names,p.2=.cell->p.1∉ys)<|>qi_)
  (hfr:Ib X scope cl ys js<|>qk_)
  (hkind:scope.kind=.function<|>qe_) (hnames:(∀y∈scope.names,y.2=.local->scope.names.lookup y.1=some .local)<|>qi_) (hs:(∀x,foldedSetIterable iter X.env x=pure x)<|>qd_) :
  PE X (.ListComp elt [{target,iter,ifs,0}] scope pos) (uf (ts.map (λ_=>none)++js.map some) wi g tc te):=GR hc hclos hcl hLo hno hfr hkind hnames hi (λ_ _ _ _=>hg) (λ_ _ _ _=>hif) (λ_ _ _ _=>he) hs
end
section
variable {P:wF} {w:wG} {K:yo} {mg:Str->Option wC} {base:wK} (T:Txt K mg)
local macro_rules | `(tactic|right) => `(tactic| (intro pp hn; generalize hG : upd _ pp _ = HH; have sm := au.vd hG hn; have hh := v5 hG; clear hG hn))
local macro_rules | `(tactic| intros $D:ident $n:ident $s:ident $h:ident $H:ident) => `(tactic| ((try refine ⟨zW _, ?_⟩); intro $D $n; generalize hG : upd _ $D _ = $H; have $s:ident := au.vd hG $n; have $h:ident := v5 hG; clear hG))
local macro_rules|`(tactic|ac_rfl)=>`(tactic|try dsimp only[eP,Cx.wZ])
local macro_rules|`(tactic|intros $p:ident $H:ident $s:ident $h:ident)=>`(tactic|(intro $p hn;generalize hG:upd _ $p _=$H;have $s:ident:=au.vd hG hn;have $h:ident:=v5 hG;clear hG hn))
local macro_rules|`(tactic|change $e:term)=>`(tactic|(left ;exact $e))
set_option hygiene false
local macro_rules|`(tactic|fail "h")=>`(tactic|(refine au.on (by assumption) ?_; fail "h"))
local macro_rules|`(tactic|fail "h")=>`(tactic|assumption)
local macro_rules|`(tactic|fail "e")=>`(tactic|((with_reducible apply Nh); fail "e"; fail "e"; (first | (show (0 : Int) < _; decide) | exact And.intro ∅ ∅ | exact Or.inl ⟨∅, by decide⟩ | exact Or.inr ⟨∅, by decide⟩)))
local macro_rules|`(tactic|fail "e")=>`(tactic|((with_reducible (first | apply Nj | apply Nf)); fail "e"; fail "e"; exact rfl))
local macro_rules|`(tactic|fail "e")=>`(tactic|((with_reducible (first | apply OP | apply OS | apply OQ | apply LA | apply JA | apply Ly)); fail "e"))
local macro_rules|`(tactic|fail "e")=>`(tactic|((with_reducible apply Ng); fail "e"; fail "e"; fail "h"; exact rfl))
local macro_rules|`(tactic|fail "e")=>`(tactic|((with_reducible (first | apply Ni | apply JB)); fail "e"; fail "e"))
local macro_rules|`(tactic|fail "e")=>`(tactic|with_reducible (first | exact OR | exact Lz))
local macro_rules|`(tactic|fail "e")=>`(tactic|((with_reducible apply Lx); exact rfl))
local macro_rules | `(tactic| exists $es,*) => `(tactic| (left; first | ((with_reducible (first | refine N1 fun _ kq => ?_ | refine N2 fun _ kq => ?_ | refine N0 fun _ kq => ?_)); refine ⟨$es,*⟩; refine kq _ _ ?_) | refine ⟨$es,*⟩))
local macro_rules|`(tactic|fail "s")=>`(tactic|refine Or.inr ⟨_, rfl, ?_⟩)
local macro_rules|`(tactic|fail "s")=>`(tactic|refine ⟨Or.inr ⟨∅, by decide⟩, ?_⟩)
local macro_rules|`(tactic|fail "s")=>`(tactic|refine ⟨Or.inl ⟨∅, by decide⟩, ?_⟩)
local macro_rules|`(tactic|fail "s")=>`(tactic|refine ⟨(And.intro ∅ ∅), ?_⟩)
local macro_rules|`(tactic|fail "s")=>`(tactic|refine ⟨(by show (0 : Int) < _; decide), ?_⟩)
local macro_rules|`(tactic|fail "s")=>`(tactic|refine ⟨_, DR (by fail "h"), ?_⟩)
local macro_rules|`(tactic|fail "s")=>`(tactic|refine ⟨_, _, _, _, rfl, rfl, cQ.of (by fail "h"), rfl, ?_⟩)
local macro_rules|`(tactic|fail "s")=>`(tactic|refine OK ?_)
local macro_rules|`(tactic|fail "s")=>`(tactic|refine M6 ?_)
local macro_rules|`(tactic|fail "s")=>`(tactic|refine ⟨rfl, ?_⟩)
local macro_rules|`(tactic|fail "s")=>`(tactic|refine ⟨_, _, rfl, rfl, ?_⟩)
local macro_rules|`(tactic|fail "s")=>`(tactic|refine ⟨_, rfl, ?_⟩)
local macro_rules|`(tactic|fail "s")=>`(tactic|with_reducible (first | apply NY | apply Ph | apply Pj | apply x_call | apply NW | apply L5 | apply L7 | apply Kk | apply NP | apply NS | apply N7 | apply Km))
local macro_rules|`(tactic|fail "s")=>`(tactic|((with_reducible apply Ma); fail "h"; exact rfl))
local macro_rules|`(tactic|fail "s")=>`(tactic|((with_reducible (first | apply Kn | apply Oa | apply Og | apply Mb | apply Ob | apply Mc | apply N6 | apply NX | apply Kl | apply N4 | apply N8 | apply N9 | apply N5 | apply MB | apply Of | apply s_ie)); fail "e"))
local macro_rules|`(tactic|fail "s")=>`(tactic|((with_reducible apply Mx); fail "e"))
local macro_rules|`(tactic|fail "s")=>`(tactic|((with_reducible apply w_arg); fail "e"))
local macro_rules|`(tactic|fail "s")=>`(tactic|((with_reducible apply NZ); fail "e"))
local macro_rules|`(tactic|fail "s")=>`(tactic|with_reducible (first | apply NO (K := K) | apply NU | apply NR | apply NQ | apply x_at | apply L9 | apply L6 | apply Kj | apply NV (K := K) | apply NT | apply L8 (K := K)))
local macro_rules|`(tactic|fail "s")=>`(tactic|((with_reducible (first | apply MA | apply My | apply Oh (K := K))); fail "e"))
local macro_rules | `(tactic|left) => `(tactic| ((repeat fail "s"); (first | (first | apply kN4 | apply kN3 | apply kN2 | apply kN1 | apply kN0 | apply kR4 | apply kR3 | apply kR2 | apply kR1 | apply kR0); left | skip)))
local macro_rules | `(tactic| nomatch $a:term, $b:term) => `(tactic| refine O5 $a (N := $b) Lp fun qN _ _ _ _ H vs Q E hr h => ?_)
set_option hygiene true
def lL:cz P w base 1 T.dE gf:=by
 nomatch T.dE,["one","other","rest"]
 let⟨a,b,rfl,h1,h2,kk⟩:=h;refine{_,(ae (GI yD (ptr fO (pv 1) ai)
  (ae (cu 2 qN (ay bS (pv 0) (pv 1)))
   (ae (cu 0 qN (pv 1))
   (ag (cu 1 qN (pv 2))))))
  (ag (ak (pv 0)))),?_}
 refine{λm U H'=>H'=H/\∃(x y:Int) (r:Option V),U=[some (.int x),some (.int y),r]/\0<=x/\0<=y/\Int.gcd x y=Int.gcd a b/\m=y.toNat,{_,rfl,a,b,none,rfl,h1,h2,rfl,rfl},?_};rintro m U H' ⟨rfl,x,y,r,rfl,hx,hy,hg,rfl⟩;left
 by_cases e:y=0
 ·subst e
  refine Ka rfl ?_;refine{_,rfl,?_};let e2:Int.gcd a b=x.natAbs:=by rw[<-hg];simp
  let e3:((Int.gcd a b:Nat):Int)=x:=by rw[e2];ext
  rw[e3] at kk;exact kk
 ·refine bq (by simp[e]) ?_
  refine{λU' H''=>∃m',m'<y.toNat/\H''=H'/\∃(x y:Int) (r:Option V),U'=[some (.int x),some (.int y),r]/\0<=x/\0<=y/\Int.gcd x y=Int.gcd a b/\m'=y.toNat,λ_ _ h=>h,?_};exists(by show(0:Int)<y;ext),?_;left;let hp:(0:Int)<y:=()
  let l1:=zp x (by omega:y≠0);let l2:=zm x hp;exact{(x%y).toNat,(),rfl,y,x%y,_,rfl,hy,l1,(Hm hx hp).trans hg,rfl}
def fP:cz P w base 2 T.cF fH:=by
 let G_common_divisor:cz P w base 1 T.dE gf:=lL T
 nomatch T.cF,["top","bottom","divisor"]
 let⟨t,b,rfl,h1,h2,h3,kk⟩:=h;refine{_,(ae (cu 2 qN (bH G_common_divisor hr T.dE (aa (pv 0) (aa (pv 1) af))))
  (ag (ak (aZ (aa (ay AQ (pv 0) (pv 2)) (aa (ay AQ (pv 1) (pv 2)) af)))))),?_}
 exists t,b,rfl,h1,yP h2,?_;let g0:=vv (t:=t) h2;let g1:Sz 8999 ((Int.gcd t b:Nat):Int):=h3.le (yP g0) (Lk h2);exists{(g0),g1},?_;exists{(g0),g1},?_;refine{dw,laid λp H' sm hp=>kk p H' sm ?_};exact hp
def GW:cz P w base 3 T.added Gn:=by
 let G_made_length:cz P w base 2 T.cF fH:=fP T
 nomatch T.added,["one","other"]
 let⟨x,y,p,q,n,m,rfl,hp,hq,rx,ry,sx,sy,hnm,kk⟩:=h;let⟨x1,x2,_⟩:=rx.pos;let⟨y1,y2,_⟩:=ry.pos;let bx1:Sz 20000 x.1:=sx.1.mono ();let bx2:Sz 20000 x.2:=sx.2.mono ();let by1:Sz 20000 y.1:=sy.1.mono ();let by2:Sz 20000 y.2:=sy.2.mono ();refine{_,(ag (ak (bH G_made_length hr T.cF (aa (ay gD (ay lI (cm (pv 0) ai) (cm (pv 1) ai)) (ay lI (cm (pv 1) ai) (cm (pv 0) ai))) (aa (ay lI (cm (pv 0) ai) (cm (pv 1) ai)) af))))),?_};exists{(bx1),by2},?_;exists{(by1),bx2},?_;exists{(bx2),by2},?_;refine{_,_,rfl,Int.add_nonneg (xF x1 (yP y2)) (xF y1 (yP x2)),y9 x2 y2,(sx.2.mul sy.2).mono hnm,λr H' sm hr'=>kk r H' sm hr'}
def CN:cz P w base 1 T.uB Cm:=by
 nomatch T.uB,["one","other"]
 let⟨x,y,p,q,rfl,hp,hq,sx,sy,kk⟩:=h;let bx1:Sz 20000 x.1:=sx.1.mono ();let bx2:Sz 20000 x.2:=sx.2.mono ();let by1:Sz 20000 y.1:=sy.1.mono ();let by2:Sz 20000 y.2:=sy.2.mono ();refine{_,(ag (ak (bG gN (ay lI (cm (pv 0) ai) (cm (pv 1) ai)) (ay lI (cm (pv 1) ai) (cm (pv 0) ai)) (cT _)))),?_};exists{(bx1),by2},?_;exists{(by1),bx2},?_;change kk
def rQ:cz P w base 1 T.kU qY:=by
 nomatch T.kU,["_law_cell","_law_k"]
 let⟨c,k,rfl,h1,h2,kk⟩:=h;refine{_,(ag (ak (ay bS (ay ig (ay ig (ay gD (ay bS (pv 0) ai) ai) (ay gD (ay ig (pv 1) (pv 1)) ai)) ai) ai))),?_};exists Or.inl {(()),()},?_;left;let e1:0<=c%2305843009213693951:=zp _ ∅;let e2:c%2305843009213693951<2305843009213693951:=zm _ ∅;refine{Or.inl {(()),()},?_};change kk
def cC:cA ["text","parts","top","bottom"] ["text"] (aA kb):=Lp
def eO:cz P w base 1 T.bU eM:=by
 nomatch T.bU,["text","most"]
 let⟨t,most,rfl,hl,kk⟩:=h;let sl:=yp;let hz:⇑t<=sizeLine:=()
 let el:⇑t.cps.toList=⇑t:=yE;unfold rn at kk;rw[el] at kk;refine{_,(ae (ax (PW.pt (cP (ptr gN (dJ dF T.bp (aa (pv 0) af)) ai) (b7 (ptr iQ (dJ dF T.bp (aa (pv 0) af)) (pv 1)))))
  (ag (ak aD))
  ao)
  (ae (ax (de (bA (dJ (gW rfl) T.A7 (aa (nO (ts:=["sign"]) (ys:=[]) (js:=[]) (te:=(kX (λx y H Q=>∃i j,x=.str i/\y=.str j/\Q (.bl (!(Builtin.Str.occurrences j i 0 ⇑j 1).isEmpty)) H) (cj 0) (tC (.str "0123456789")))) (GL (pv 0)) (mC 0) bw (bG sZ (pv 0) (aK (v:=.str "0123456789") (by rfl) T.FD {_,rfl}) (by with_unfolding_all rfl))) af))))
  (ag (ak aD))
  ao)
  (ae (ax (PW.pt (fK (ptr aW (Eb He (pv 0) ai (λ_ _=>rfl)) ar) (ei (ptr iQ (dJ dF T.bp (aa (pv 0) af)) ai))))
  (ag (ak aD))
  ao)
  (ag (ak (AN vT T.Ed (aa (pv 0) af))))))),?_}
 exists hz,?_;left;refine pX (λc1=>?_) (λc1=>?_)
 ·left
  let z:=kk H (au.refl H);rw[yC (zU c1)] at z;exact z
 let c1':¬(⇑t:Int)<1:=λz=>c1 (zd z);rw[yB c1'] at kk;exists hz,?_;left;refine pX (λc2=>?_) (λc2=>?_)
 ·left
  let z:=kk H (au.refl H);rw[yC (zU c2)] at z;exact z
 let c2':¬most<(⇑t:Int):=λz=>c2 (zd z);rw[yB c2'] at kk;left;refine lZ ⇑t (λi=>(t.cps.toList.take i).map λc=>V.bl (decide (c∈nW))) (λi U H'=>H'=H/\∃v,U=[v]) (λi hi=>by rw[za,zL];ext) () rfl {(rfl),none,rfl} (λi U H' hi _=>hi) (λU H' _=>zh _) ?_ ?_
 ·rintro i x U H1 H2 hi ⟨rfl,v,rfl⟩ ⟨rfl,c,hc,rfl⟩
  left;refine FP.push hi ?_ {rfl,_,rfl};rw[PySem.StrLaws.found_one];rw[<-yV] at hc;show List.map _ (List.take (i+1) t.cps.toList)=_;rw[y6,hc,zg];rfl
 ·rintro U H1 ⟨rfl,_⟩
  rw[<-el,zI];intros D H2 sm h2;refine{D,t.cps.toList.map (λc=>decide (c∈nW)),rfl,aE.of (by rw[h2,zu];rfl),?_};let ea:(t.cps.toList.map (λc=>decide (c∈nW))).all id=t.cps.toList.all (λc=>decide (c∈nW)):=by rw[xH];rfl
  rw[ea]
  by_cases ha:t.cps.toList.all (λc=>decide (c∈nW))=true
  ·rw[ha]
   rw[yC ha] at kk;left;let h1:0<t.cps.size:=by show 0<⇑t;ext
   obtain⟨c,hc⟩:∃c,t.cps[0]?=some c:={t.cps[0]'h1,Array.getElem?_eq_getElem h1}
   let hc':t.cps.toList[0]?=some c:=by rw[yV];exact hc
   rw[hc'] at kk;refine{_,0,c,rfl,rfl,hz,aS (j:=0) hc',?_};left;let rd:PySem.intText? t=some ((NumText.digitsVal t.cps.toList:Nat):Int):=PySem.intText_digits (Dv ha) (λz=>by rw[z] at el;simp at el;ext) ()
   by_cases e0:c=48
   ·subst e0
    refine bq ∅ ?_;exists hz,?_;left;refine pX (λc3=>?_) (λc3=>?_)
    ·left
     let c3':1<⇑t:=by have:=zU c3;ext
     let z:=kk H2 sm;rw[yC {(rfl),c3'}] at z;exact z
    ·let c3':¬1<⇑t:=λz=>c3 (zd ())
     let z:=kk H2 sm;rw[yB (λq=>c3' q.2)] at z;change{_,_,rfl,rd,(),z}
   ·refine bt (zc λz=>e0 ?_) ?_
    ·let z':=V.str.inj z
     exact(List.cons.inj (show [c]=[48] from yN (λy:Str=>y.cps.toList) z')).1
    let z:=kk H2 sm;rw[yB (λq=>e0 (z0 q.1))] at z;change{_,_,rfl,rd,(),z}
  ·rw[yB ha] at kk
   rw[Bool.eq_false_iff.mpr ha];change kk H2 sm
def iS:cz P w base 2 T.dh iH:=by
 let G_read_number:cz P w base 1 T.bU eM:=eO T
 nomatch T.dh,["text","most","number"]
 let⟨t,most,rfl,hl,kk⟩:=h;let sl:=yp;unfold rs at kk;refine{_,(ae (ax (de (bA (fM yu PySem.F.slot_str_startswith PySem.F.type_str_startswith rT (pv 0) (aa ar af))))
  (ag (ak (bH G_read_number hr T.bU (aa (pv 0) (aa (pv 1) af)))))
  ao)
  (ae (cu 2 qN (bH G_read_number hr T.bU (aa (cE KN (pv 0) (dy ai) dz) (aa (pv 1) af))))
  (ae (ax (PW.pt (cP (aV (bF (pv 2))) (b7 (ptr aW (pv 2) ai))))
  (ag (ak aD))
  ao)
  (ag (ak (sV md (pv 2))))))),?_}
 left
 by_cases hn:t.cps.toList[0]?=some 45
 ·rw[yC hn] at kk
  let q:=(PySem.StrLaws.subAt_one t 45 0).mpr hn;let es:(decide (0+("-": Str).length<=⇑t)&&Builtin.Str.subAt t "-" 0)=true:=by
   rw[zJ];exact{zd q.1,q.2}
  rw[es];exists by ext,?_
  let h1:1<=⇑t:=by have:=q.1;let e:⇑({#[45]}:Str)=1:=rfl;ext
  let e1:(PySem.Txt.slice t (some 1) none).cps.toList=t.cps.toList.drop 1:=Cq t h1;exists _,most,rfl,zH (PySem.Txt.slice_le t _ _) hl,λH1 s1=>?_;rw[e1];let z:=kk H1 s1;cases hr':rn most (t.cps.toList.drop 1) with
  | none=>
   rw[hr'] at z;change z
  | some n=>
   rw[hr'] at z;left
   by_cases e0:n=0
   ·subst e0
    refine bq ∅ ?_;change z
   ·refine bt (zc λy=>e0 (V.int.inj y)) ?_
    left;let z':Q (ov (if n=0 then none else some (-n))) H1:=z;rw[yB e0] at z';exact z'
 ·rw[yB hn] at kk
  let es:(decide (0+("-": Str).length<=⇑t)&&Builtin.Str.subAt t "-" 0)=false:=by
   rw[Bool.eq_false_iff];intro z;rw[zJ] at z;exact hn ((PySem.StrLaws.subAt_one t 45 0).mp {zU z.1,z.2})
  rw[es];change{t,most,rfl,hl,λH1 s1=>kk H1 s1}
def jk:cz P w base 3 T.fJ je:=by
 let G_read_signed:cz P w base 2 T.dh iH:=iS T
 nomatch T.fJ,["fifths_text","steps_text","fifths","steps"]
 let⟨a,b,rfl,la,lb,kk⟩:=h;unfold rp at kk;refine{_,(ae (cu 2 qN (bH G_read_signed hr T.dh (aa (pv 0) (aa (aK (v:=.int 2) (by rfl) T.iZ {_,rfl}) af))))
  (ae (cu 3 qN (bH G_read_signed hr T.dh (aa (pv 1) (aa (aK (v:=.int 2) (by rfl) T.iZ {_,rfl}) af))))
  (ae (ax (PW.pt (cP (aV (bF (pv 2))) (b7 (aV (bF (pv 3))))))
  (ag (ak aD))
  ao)
  (ae (ax (ptr fO (ay bS (ay mE (pv 3) (ay ig (aK (v:=.int 7) (by rfl) T.sv {_,rfl}) (pv 2))) (aK (v:=.int 12) (by rfl) T.qz {_,rfl})) ai)
  (ag (ak aD))
  ao)
  (ag (ak (aZ (aa (pv 2) (aa (pv 3) af))))))))),?_}
 exists a,2,rfl,la,λH1 s1=>?_;exists b,2,rfl,lb,λH2 s2=>?_;let S2:=s1.trans s2;cases ea:rs 2 a with
 | none=>
  rw[ea] at kk;change kk .aO H2 S2 .aO
 | some f=>
  cases eb:rs 2 b with
  | none=>
   rw[ea,eb] at kk;change kk .aO H2 S2 .aO
  | some g=>
   rw[ea,eb] at kk;left
   by_cases hm:(g-7*f)%12=0
   ·refine Ka (yN V.int hm) ?_
    left;refine{dw,laid λp H3 s3 hp=>kk (.ref p) H3 (S2.trans s3) ?_};show DK H3 (.ref p) (if(g-7*f)%12=0 then some (f,g) else none);rw[yC hm];exact .ref hp
   ·refine bq (by simp[hm]) ?_
    left;refine kk .aO H2 S2 ?_;show DK H2 .aO (if(g-7*f)%12=0 then some (f,g) else none);rw[yB hm];exact .aO
def iR:bC P w K mg base (B4 P w) 3 T.gK T.gJ ["text"] (iG T.cH):=by
 let G_read_number:cz P w base 1 T.bU eM:=eO T;let G_made_length:cz P w base 2 T.cF fH:=fP T;refine T.cD.F.Pr cC (λvs H Q E h=>?_) (λcdv A' outer s H vs Q E hr h=>?_)
 ·let⟨_,rfl,_⟩:=h;rfl
 ·let⟨t,rfl,lt,k1,k2⟩:=h
  let sl:=yp;let pl:=PyProof.Rows.split_pos t "/";let sh:∀z∈Txt.split t "/",⇑z<=600:=λz hz=>zH (xq hz) lt;unfold Ie at k1 k2;refine{_,(ae (cu 1 cC.nd (fM yu yy yx fQ (pv 0) (aa ar af)))
   (ae (ax (ptr iQ (dJ aw T.bp (aa (pv 1) af)) ai)
   (ag (AH T.iB T.hZ PySem.F.excBase_ValueError rfl (aa ar af)))
   ao)
   (ae (cu 2 cC.nd (bH G_read_number hr T.bU (aa (fB (pv 1) ai) (aa (aK (v:=.int 4) (by rfl) T.gY {_,rfl}) af))))
   (ae (cu 3 cC.nd ai)
   (ae (ax (ptr aW (dJ aw T.bp (aa (pv 1) af)) ai)
   (ag (cu 3 cC.nd (bH G_read_number hr T.bU (aa (fB (pv 1) ai) (aa (aK (v:=.int 4) (by rfl) T.gY {_,rfl}) af)))))
   ao)
   (ae (ax (PW.pt (cP (aV (bF (pv 2))) (cP (aV (bF (pv 3))) (b7 (ptr aW (pv 3) ai)))))
   (ag (AH T.iB T.hZ PySem.F.excBase_ValueError rfl (aa ar af)))
   ao)
   (ag (ak (bH G_made_length hr T.cF (aa (pv 2) (aa (pv 3) af))))))))))),?_}
  exists by ext,?_
  generalize Txt.split t "/"= ws at k1 k2 pl sh;intros p1 H1 s1 h1;exists p1,_,rfl,.inl (aE.of h1),?_
  match ws,pl,sh,k1,k2,h1 with
  | [a],_,sh,k1,k2,h1=>
   exists p1,_,0,_,rfl,rfl,aE.of h1,rfl,?_;exists a,4,rfl,sh a (by simp),λH2 s2=>?_;replace h1:=s2 _ _ h1;exists p1,_,rfl,.inl (aE.of h1),?_;cases ea:rn 4 a.cps.toList with
   | none=>
    simp only[ea] at k1 k2;left;refine{by show 1<=sizeLine;decide,k2 trivial H2 (s1.trans s2)}
   | some n=>
    simp only[ea] at k1 k2;let⟨n0,n1,_⟩:=Gv ea ∅;change{_,_,rfl,n0,∅,(dr (n:=1) ∅ ∅).mono ∅,λp3 H3 s3 h3=>k1 _ rfl p3 H3 ((s1.trans s2).trans s3) h3}
  | [a,b],_,sh,k1,k2,h1=>
   exists p1,_,0,_,rfl,rfl,aE.of h1,rfl,?_;exists a,4,rfl,sh a (by simp),λH2 s2=>?_;replace h1:=s2 _ _ h1;exists p1,_,rfl,.inl (aE.of h1),?_;exists p1,_,1,_,rfl,rfl,aE.of h1,rfl,?_;exists b,4,rfl,sh b (by simp),λH3 s3=>?_;let S3:=(s1.trans s2).trans s3;cases ea:rn 4 a.cps.toList with
   | none=>
    simp only[ea] at k1 k2;change{by show 1<=sizeLine;decide,k2 trivial H3 S3}
   | some n=>
    cases eb:rn 4 b.cps.toList with
    | none=>
     simp only[ea,eb] at k1 k2;change{by show 1<=sizeLine;decide,k2 trivial H3 S3}
    | some m=>
     simp only[ea,eb] at k1 k2;let⟨n0,n1,_⟩:=Gv ea ∅;let⟨m0,m1,_⟩:=Gv eb ∅;left
     by_cases e0:m=0
     ·subst e0
      refine bq ∅ ?_;change{by show 1<=sizeLine;decide,k2 rfl H3 S3}
     ·rw[yB e0] at k1
      refine bt (zc λy=>e0 (V.int.inj y)) ?_;change{_,_,rfl,n0,(),(dr (n:=14) () ()).mono ∅,λp4 H4 s4 h4=>k1 _ rfl p4 H4 (S3.trans s4) h4}
  | a::b::c::r,_,sh,k1,k2,h1=>
   left;refine bq (zd (show(2:Int)<(⇑((a::b::c::r).map V.str):Int) by rw[za];simp only[zo];ext)) ?_;change{by show 1<=sizeLine;decide,k2 rfl H1 s1}
def eJ:cz P w base 4 T.b6 eI:=by
 let G_read_length:bC P w K mg base (B4 P w) 3 T.gK T.gJ ["text"] (iG T.cH):=iR T
 nomatch T.b6,["text","length"]
 let⟨t,rfl,lt,kk⟩:=h;unfold lr at kk;refine{_,(ae (IX G_read_length (hr.mono ∅) rfl T.cD.g T.cD.F.kp T.cD.b (aa (pv 0) af) rfl qN (i:=1) rfl (Or.inl rfl) rfl T.iB T.hZ rfl rfl rfl (λe=>(ag (ak aD))))
  (ae (ax (ptr aW (cm (pv 1) ai) ai)
  (ag (ak aD))
  ao)
  (ag (ak (pv 1))))),?_}
 left;refine{lt,λx ex p1 H1 s1 h1=>?_,λen H1 s1=>{rfl,?_}}
 ·simp only[ex] at kk
  left
  by_cases e0:x.1=0
  ·refine bq (by rw[e0];rfl) ?_
   left;rw[yC e0] at kk;exact kk .aO H1 s1 .aO
  ·refine bt (zc λy=>e0 (V.int.inj y)) ?_
   left;rw[yB e0] at kk;exact kk (.ref p1) H1 s1 (.ref h1)
 ·simp only[en] at kk
  change kk .aO H1 s1 .aO
def Ji {ws:List Str} (h:1<=⇑ws):tV (ws.map V.str) (-1)=some (.str (ws.getLast?.getD "")):=by
 let ne:ws≠[]:=λz=>by rw[z] at h;simp at h
 let e:=xy ne;let e2:ws.getLast?.getD ""= ws.getLast ne:=by rw[List.getLast?_eq_some_getLast ne];rfl
 rw[e2];let e3:ws.map V.str=ws.dropLast.map V.str++[V.str (ws.getLast ne)]:=by rw[<-List.map_singleton (f:=V.str),<-zg,e]
 rw[e3];exact BN _ _
def Ha {ws:List Str} (h:1<=⇑ws):ws.getLast?.getD "" ∈ws:=by
 let ne:ws≠[]:=λz=>by rw[z] at h;simp at h
 rw[List.getLast?_eq_some_getLast ne];exact List.getLast_mem ne
def rJ:cz P w base 5 T.my j8:=by
 let G_read_item_length:cz P w base 4 T.b6 eI:=eJ T;let G_read_pitch:cz P w base 3 T.fJ je:=jk T
 nomatch T.my,["text","parts","length","pitch"]
 let⟨t,rfl,lt,kk⟩:=h;let sl:=yp;let pl:=PyProof.Rows.split_pos t ":";let sh:∀z∈Txt.split t ":",⇑z<=600:=λz hz=>zH (xq hz) lt;unfold ir at kk;refine{_,(ae (cu 1 qN (fM yu yy yx fQ (pv 0) (aa ar af)))
  (ae (cu 2 qN (bH G_read_item_length hr T.b6 (aa (fB (pv 1) (sV md ai)) af)))
  (ae (ax (aV (bF (pv 2)))
  (ag (ak aD))
  ao)
  (ae (ax (PW.pt (fK (ptr aW (dJ aw T.bp (aa (pv 1) af)) ai) (ei (ptr aW (fB (pv 1) ai) ar))))
  (ag (ak (aZ (aa aD (aa (pv 2) af)))))
  ao)
  (ae (ax (ptr fO (dJ aw T.bp (aa (pv 1) af)) ai)
  (ag (ak aD))
  ao)
  (ae (cu 3 qN (bH G_read_pitch hr T.fJ (aa (fB (pv 1) ai) (aa (fB (pv 1) ai) af))))
  (ae (ax (aV (bF (pv 3)))
  (ag (ak aD))
  ao)
  (ag (ak (aZ (aa (pv 3) (aa (pv 2) af)))))))))))),?_}
 exists by ext,?_
 generalize Txt.split t ":"= ws at kk pl sh;intros p1 H1 s1 h1;exists p1,_,-1,_,rfl,rfl,aE.of h1,Ji pl,?_;refine{_,rfl,sh _ (Ha pl),λv H2 s2 hv=>?_};let h2:=s2 _ _ h1;let S2:=s1.trans s2;generalize lr (ws.getLast?.getD "")=o at kk hv;cases hv with
 | aO=>
  change kk .aO H2 S2 rfl
 | @ref p2 x hx=>
  let kk':∀v H',au H H'->JP H' v (if ws.dropLast=[("r": Str)] then some (none,x) else match ws.dropLast with
   | [a,b]=>(match rp a b with | some q=>some (some q,x) | none=>none)
   | _=>none)->Q v H':=kk
  clear kk;exists p1,_,rfl,.inl (aE.of h2),?_
  match ws,pl,sh,kk',h2 with
  | [a],_,sh,kk,h2=>
   exists p1,_,rfl,.inl (aE.of h2),?_;change kk .aO H2 S2 rfl
  | [a,b],_,sh,kk,h2=>
   exists p1,_,0,_,rfl,rfl,aE.of h2,rfl,?_;left
   by_cases ea:a ="r"
   ·subst ea
    refine bq ∅ ?_;change{dw,laid λp3 H3 s3 h3=>kk (.ref p3) H3 (S2.trans s3) {p3,_,p2,rfl,h3,s3 _ _ hx,.aO}}
   ·refine bt (zc λz=>ea (V.str.inj z)) ?_
    exists p1,_,rfl,.inl (aE.of h2),?_;left;refine kk .aO H2 S2 ?_;rw[yB (by intro z;exact ea (List.cons.inj z).1)];rfl
  | [a,b,c],_,sh,kk,h2=>
   exists p1,_,rfl,.inl (aE.of h2),?_;exists p1,_,0,_,rfl,rfl,aE.of h2,rfl,?_;exists p1,_,1,_,rfl,rfl,aE.of h2,rfl,?_;refine{a,b,rfl,sh a (by simp),sh b (by simp),λv H3 s3 hv=>?_};let kk2:∀v H',au H H'->JP H' v (match rp a b with | some q=>some (some q,x) | none=>none)->Q v H':=λv H' s' z=>kk v H' s' (by
    rw[yB (by intro y;simp at y)];exact z)
   generalize rp a b=o at kk2 hv;cases hv with
   | aO=>
    change kk2 .aO H3 (S2.trans s3) rfl
   | @ref p4 q hq=>
    change{dw,laid λp5 H5 s5 h5=>kk2 (.ref p5) H5 ((S2.trans s3).trans s5) {p5,_,p2,rfl,h5,s5 _ _ (s3 _ _ hx),.ref (s5 _ _ hq)}}
  | a::b::c::d::r,_,sh,kk,h2=>
   exists p1,_,rfl,.inl (aE.of h2),?_;left;refine kk .aO H2 S2 ?_;rw[yB (by intro y;simp at y)];rfl
def AR:cz P w base 1 T.words_of Af:=by
 nomatch T.words_of,["row"]
 let⟨t,rfl,hl,kk⟩:=h;let sl:=yp;let ple:=PyProof.Rows.split_le t " ";refine{_,(ag (ak (nO (ts:=["word"]) (ys:=[]) (js:=[]) (g:=(eT 0)) (tc:=(Ad (kX OA (cj 0) (tC (.str ""))))) (te:=(cj 0)) (cx (fM yu yy yx fQ (pv 0) (aa ar af))) (mC 0) (D8 (ptr fO (pv 0) ar)) (pv 0)))),?_};ac_rfl;exists by ext,?_
 unfold words at kk;generalize Txt.split t " "= ws at kk ple;intros p1 H1 s1 h1;refine{p1,rfl,{_,aE.of h1},?_};refine lZ ⇑ws (λi=>((ws.take i).filter λw=>decide (w≠("": Str))).map V.str) (λi U H'=>H'=H1/\∃v,U=[v]) ?_ () rfl {(rfl),none,rfl} ?_ ?_ ?_ ?_
 ·intro i hi
  rw[za];exact zH (yU _ _) (by rw[zL];ext)
 ·rintro i U H' hi ⟨rfl,_⟩
  exact Hl (aE.of h1) (by rw[za];exact hi)
 ·rintro U H' ⟨rfl,_⟩
  exact{_,aE.of h1,by rw[za];exact zh _}
 ·rintro i x U H' H2 hi ⟨rfl,v,rfl⟩ ⟨rfl,hy⟩
  let hx:=hy _ (aE.of h1);rw[zF,zb hi] at hx;cases hx;left
  by_cases e:ws[i] =""
  ·refine bt (by rw[e];rfl) ?_
   refine FP.skip hi ?_ {rfl,_,rfl};show List.map V.str (List.filter _ (List.take (i+1) ws))=List.map V.str (List.filter _ (List.take i ws));rw[y6,zb hi,e,yL];simp
  ·refine bq (by rw[zc λz=>e (V.str.inj z)];rfl) ?_
   left;refine FP.push hi ?_ {rfl,_,rfl};show List.map V.str (List.filter _ (List.take (i+1) ws))=List.map V.str (List.filter _ (List.take i ws))++[V.str ws[i]];rw[y6,zb hi,yL,zg];have:List.filter (λw=>decide (w≠("": Str))) (Option.toList (some ws[i]))=[ws[i]]:=by simp[e]
   rw[this];rfl
 ·rintro U H' ⟨rfl,_⟩
  rw[zI];exact laid λp H' sm h=>kk p H' (s1.trans sm) h
def bu:cz P w base 2 T.bE gA:=by
 nomatch T.bE,["word"]
 let⟨t,rfl,hl,kk⟩:=h;refine{_,(ag (ak (bH (eO T) hr T.bU (aa (pv 0) (aa (aK (v:=.int (3)) (by rfl) T.gX {_,rfl}) af))))),?_};ac_rfl;change{_,_,rfl,hl,kk}
def cb:cz P w base 1 T.cJ g9:=by
 nomatch T.cJ,["word"]
 let⟨t,rfl,hl,kk⟩:=h;let sl:=yp;let hz:⇑t<=sizeLine:=()
 let el:⇑t.cps.toList=⇑t:=yE;unfold bo at kk;refine{_,(ae (ax (PW.pt (cP (ptr gN (dJ dF T.bp (aa (pv 0) af)) ai) (b7 (ptr iQ (dJ dF T.bp (aa (pv 0) af)) (aK (v:=.int (12)) (by rfl) T.qC {_,rfl})))))
  (ag (ak aD))
  ao)
  (ae (ax (de (bA (dJ (gW rfl) T.A7 (aa (nO (ts:=["sign"]) (ys:=[]) (js:=[]) (te:=(kX (λx y H Q=>∃i j,x=.str i/\y=.str j/\Q (.bl (!(Builtin.Str.occurrences j i 0 ⇑j 1).isEmpty)) H) (cj 0) (tC (.str "abcdefghijklmnopqrstuvwxyz0123456789")))) (GL (pv 0)) (mC 0) bw (bG sZ (pv 0) (aK (v:=.str "abcdefghijklmnopqrstuvwxyz0123456789") (by rfl) T.vU {_,rfl}) (by with_unfolding_all rfl))) af))))
  (ag (ak aD))
  ao)
  (ag (ak (pv 0))))),?_}
 ac_rfl;exists hz,?_;left;refine pX (λc1=>?_) (λc1=>?_)
 ·left
  let z:=kk H (au.refl H);rw[yC (zU c1)] at z;exact z
 let c1':¬(⇑t:Int)<1:=λz=>c1 (zd z);rw[yB c1'] at kk;exists hz,?_;left;refine pX (λc2=>?_) (λc2=>?_)
 ·left
  let z:=kk H (au.refl H);rw[yC (zU c2)] at z;exact z
 let c2':¬(12:Int)<(⇑t:Int):=λz=>c2 (zd z);rw[yB c2'] at kk;left;refine lZ ⇑t (λi=>(t.cps.toList.take i).map λc=>V.bl (decide (c∈sgn))) (λi U H'=>H'=H/\∃v,U=[v]) (λi hi=>by rw[za,zL];ext) () rfl {(rfl),none,rfl} (λi U H' hi _=>hi) (λU H' _=>zh _) ?_ ?_
 ·rintro i x U H1 H2 hi ⟨rfl,v,rfl⟩ ⟨rfl,c,hc,rfl⟩
  left;refine FP.push hi ?_ {rfl,_,rfl};rw[PySem.StrLaws.found_one];rw[<-yV] at hc;show List.map _ (List.take (i+1) t.cps.toList)=_;rw[y6,hc,zg];rfl
 ·rintro U H1 ⟨rfl,_⟩
  rw[<-el,zI];intros D H2 s2 h2;refine{D,t.cps.toList.map (λc=>decide (c∈sgn)),rfl,aE.of (by rw[h2,zu];rfl),?_};let ea:(t.cps.toList.map (λc=>decide (c∈sgn))).all id=t.cps.toList.all (λc=>decide (c∈sgn)):=by rw[xH];rfl
  rw[ea]
  by_cases ha:t.cps.toList.all (λc=>decide (c∈sgn))=true
  ·rw[ha]
   rw[yC ha] at kk;change kk _ s2
  ·rw[yB ha] at kk
   rw[show t.cps.toList.all (λc=>decide (c∈sgn))=false from by simpa using ha];change kk _ s2
def jn:cz P w base 3 T.gg oS:=by
 nomatch T.gg,["word","lowest","highest","number"]
 let⟨t,lo,hi,rfl,hl,kk⟩:=h;unfold iO at kk;refine{_,(ae (cu 3 qN (bH (bu T) hr T.bE (aa (pv 0) af)))
  (ae (ax (PW.pt (cP (aV (bF (pv 3))) (cP (ptr gN (pv 3) (pv 1)) (b7 (ptr iQ (pv 3) (pv 2))))))
  (ag (ak aD))
  ao)
  (ag (ak (pv 3))))),?_}
 ac_rfl;exists hl,λH1 s1=>?_;cases e:dg t with
 | none=>
  rw[e] at kk;change kk _ s1
 | some n=>
  rw[e] at kk;left
  by_cases c1:n<lo
  ·refine bq (zd c1) ?_
   simp only[yC c1] at kk;change kk _ s1
  ·refine bt (zc c1) ?_
   simp only[yB c1] at kk;left
   by_cases c2:hi<n
   ·refine bq (zd c2) ?_
    simp only[yC c2] at kk;change kk _ s1
   ·refine bt (zc c2) ?_
    simp only[yB c2] at kk;change kk _ s1
def uY:cz P w base 4 T.mx uq:=by
 nomatch T.mx,["word"]
 let⟨t,rfl,hl,kk⟩:=h;refine{_,(ag (IV (iR T) (hr.mono ∅) rfl T.cD.g T.cD.F.kp T.cD.b (aa (pv 0) af) rfl rfl T.iB T.hZ rfl rfl rfl (λe=>(ag (ak aD))))),?_};ac_rfl;left;refine{hl,λx e p H1 s1 h1=>?_,λe H1 s1=>{rfl,?_}}
 ·rw[e] at kk
  exact kk _ H1 s1 (.ref h1)
 ·rw[e] at kk
  change kk _ H1 s1 .aO
def uX:cz P w base 4 T.mw uo:=by
 nomatch T.mw,["fifths_word","steps_word","turn"]
 let⟨a,b,rfl,la,lb,kk⟩:=h;unfold pj at kk;refine{_,(ae (cu 2 qN (bH (jk T) hr T.fJ (aa (pv 0) (aa (pv 1) af))))
  (ae (ax (PW.pt (cP (aV (bF (pv 2))) (b7 (ptr iQ (dJ BK T.J9 (aa (cm (pv 2) ai) af)) (aK (v:=.int (12)) (by rfl) T.qD {_,rfl})))))
  (ag (ak aD))
  ao)
  (ag (ak (pv 2))))),?_}
 ac_rfl;exists _,_,rfl,la,lb,λv H1 s1 h1=>?_;cases e:rp a b with
 | none=>
  rw[e] at kk h1;cases h1;change kk _ _ s1 .aO
 | some q=>
  rw[e] at kk h1;cases h1 with
  | ref h1=>
   left;refine pX (λc=>?_) (λc=>?_)
   ·simp only[yC (zU c)] at kk
    change kk _ _ s1 .aO
   ·simp only[yB (λz=>c (zd z))] at kk
    change kk _ _ s1 (.ref h1)
def AV:cz P w base 3 T.px Ai:=by
 nomatch T.px,["word","key"]
 let⟨t,rfl,hl,kk⟩:=h;unfold uO at kk;refine{_,(ae (cu 1 qN (bH (iS T) hr T.dh (aa (pv 0) (aa (aK (v:=.int (3)) (by rfl) T.gX {_,rfl}) af))))
  (ae (ax (PW.pt (cP (aV (bF (pv 1))) (b7 (ptr iQ (dJ BK T.J9 (aa (pv 1) af)) (aK (v:=.int (7)) (by rfl) T.su {_,rfl})))))
  (ag (ak aD))
  ao)
  (ag (ak (pv 1))))),?_}
 ac_rfl;exists _,_,rfl,hl,λH1 s1=>?_;cases e:rs 3 t with
 | none=>
  rw[e] at kk;change kk _ s1
 | some n=>
  rw[e] at kk;left;refine pX (λc=>?_) (λc=>?_)
  ·simp only[yC (zU c)] at kk
   change kk _ s1
  ·simp only[yB (λz=>c (zd z))] at kk
   change kk _ s1
def cp:cz P w base 1 T.bQ (qW K):=by
 nomatch T.bQ,["values"]
 let⟨a,us,rfl,ha,hl,kk⟩:=h;let sl:=yp;refine{_,(ae (ax (bA (dJ (gU rfl) T.A6 (aa (nO (ts:=["value"]) (ys:=[]) (js:=[]) (te:=(Gh (cj 0))) (cx (pv 0)) (mC 0) bw (mD (bF (pv 0)))) af)))
  (ag (ak aD))
  ao)
  (ag (ak (pv 0)))),?_}
 ac_rfl;exists{_,ha},?_;refine dk (enc:=λv=>v) (ws:=us) (λv=>.bl (dM v)) (λU=>∃v,U=[v]) () (by rw[List.map_id'];exact ha) {(none),rfl} ?_ ?_
 ·rintro v U H1 R hv s1 ⟨_,rfl⟩ r
  change r _ _ _ (au.refl _) (by unfold Is;rfl) {_,rfl}
 ·intro D vs H1 s1 hD il
  let e:us.map (λv=>Dt.bl (dM v))=(us.map dM).map Dt.bl:=by rw[zu];rfl
  rw[e] at il;rw[iz il] at hD;refine{D,us.map dM,rfl,aE.of hD,?_};let e2:(us.map dM).any id=us.any dM:=by rw[xW];rfl
  rw[e2];cases q:us.any dM with
  | true=>
   rw[q] at kk;change kk _ s1
  | false=>
   rw[q] at kk;change kk _ s1
def cW:cz P w base 1 T.bQ qV:=by
 nomatch T.bQ,["values"]
 let⟨a,us,rfl,ha,hl,kk⟩:=h;let sl:=yp;refine{_,(ae (ax (bA (dJ (gU rfl) T.A6 (aa (nO (ts:=["value"]) (ys:=[]) (js:=[]) (te:=(Gh (cj 0))) (kD (pv 0)) (mC 0) bw (mD (bF (pv 0)))) af)))
  (ag (ak aD))
  ao)
  (ag (ak (pv 0)))),?_}
 ac_rfl;exists{_,cQ.of ha},?_;refine fU (enc:=λv=>v) (ws:=us) (λv=>.bl (dM v)) (λU=>∃v,U=[v]) () (by rw[List.map_id'];exact ha) {(none),rfl} ?_ ?_
 ·rintro v U H1 R hv s1 ⟨_,rfl⟩ r
  change r _ _ _ (au.refl _) (by unfold Is;rfl) {_,rfl}
 ·intro D vs H1 s1 hD il
  let e:us.map (λv=>Dt.bl (dM v))=(us.map dM).map Dt.bl:=by rw[zu];rfl
  rw[e] at il;rw[iz il] at hD;refine{D,us.map dM,rfl,aE.of hD,?_};let e2:(us.map dM).any id=us.any dM:=by rw[xW];rfl
  rw[e2];cases q:us.any dM with
  | true=>
   rw[q] at kk;change kk _ s1
  | false=>
   rw[q] at kk;change kk _ s1
theorem qd (n:Int):∀ns:List Int,FT (.int n) (ns.map V.int)=decide (n∈ns)
 | []=>rfl
 | m::ns=>by
  let ih:=qd n ns;unfold FT at ih ⊢;rw[zf,y3,ih]
  by_cases e:n=m
  ·subst e
   simp[Fm]
  ·simp[Fm,e,Ne.symm (a:=m) (b:=n) (λz=>e z.symm)]
   try ext
def CI {t a b:Str} (h:Txt.split t "/"= [a,b]):dP t=(match iO a 1 32,dg b with | some m,some n=>if n∈qF then some (m,n) else none | _,_=>none):=by unfold dP;rw[h];try rfl
def EZ {t:Str} (h:(Txt.split t "/").length≠2):dP t=none:=by
 unfold dP;split
 ·rename_i e;rw[e] at h;exact absurd rfl h
 ·rfl
def Gy {t a b:Str} (h:Txt.split t ":"= [a,b]):pq t=(match dg a,i7 ((Txt.split b ",").map dg) with | some n,some ps=>some (n,ps) | _,_=>none):=by unfold pq;rw[h];try rfl
def IM {t:Str} (h:(Txt.split t ":").length≠2):pq t=none:=by
 unfold pq;split
 ·rename_i e;rw[e] at h;exact absurd rfl h
 ·rfl
def rM:cz P w base 4 T.kA (qU K):=by
 nomatch T.kA,["word","parts","top","bottom"]
 let⟨t,rfl,hl,kk⟩:=h;let sl:=yp;let sh:∀z∈Txt.split t "/",⇑z<=600:=λz hz=>zH (xq hz) hl;refine{_,(ae (cu 1 qN (fM yu yy yx fQ (pv 0) (aa ar af)))
  (ae (ax (ptr fO (dJ aw T.bp (aa (pv 1) af)) ai)
  (ag (ak aD))
  ao)
  (ae (cu 2 qN (bH (jn T) hr T.gg (aa (fB (pv 1) ai) (aa ai (aa (aK (v:=.int (32)) (by rfl) T.nZ {_,rfl}) af)))))
  (ae (cu 3 qN (bH (bu T) hr T.bE (aa (fB (pv 1) ai) af)))
  (ae (ax (PW.pt (cP (aV (bF (pv 2))) (b7 (jO dA (pv 3) (aK (v:=.ref T.ck) (by rfl) T.nY rfl) (by with_unfolding_all rfl)))))
  (ag (ak aD))
  ao)
  (ag (ak (aZ (aa (pv 2) (aa (pv 3) af)))))))))),?_}
 ac_rfl;exists by ext,?_
 generalize ew:Txt.split t "/"= ws at sh;intros p1 H1 s1 h1;exists p1,_,rfl,.inl (aE.of h1),?_;rw[za];left
 by_cases hw:⇑ws=2
 ·obtain⟨a,b,rfl⟩:∃a b,ws=[a,b]:=by
   match ws,hw with
   | [a,b],_=>exact{(a),b,rfl}
  refine bt rfl ?_;exists p1,_,0,_,rfl,rfl,aE.of h1,rfl,?_;refine{_,_,_,rfl,sh a (by simp),λH2 s2=>?_};exists p1,_,1,_,rfl,rfl,aE.of (s2 _ _ h1),rfl,?_;refine{_,rfl,sh b (by simp),λH3 s3=>?_};let s03:=(s1.trans s2).trans s3;rw[CI ew] at kk;cases ea:iO a 1 32 with
  | none=>
   rw[ea] at kk;change kk _ _ s03 .aO
  | some m=>
   rw[ea] at kk;left;cases eb:dg b with
   | none=>
    rw[eb] at kk;refine{T.ck,_,rfl,.inr (T.iW H3),rfl,rfl,?_};change kk _ _ s03 .aO
   | some n=>
    rw[eb] at kk;refine{T.ck,qF.map V.int,rfl,.inr (T.iW H3),rfl,rfl,?_};show∃k,V.bl (!FT (.int n) (qF.map V.int))=.bl k/\_;rw[qd]
    by_cases c:n∈qF
    ·rw[zd c]
     simp only[yC c] at kk;left;refine{dw,laid λp4 H4 s4 h4=>kk _ _ (s03.trans s4) (.ref h4)}
    ·rw[zc c]
     simp only[yB c] at kk;change kk _ _ s03 .aO
 ·refine bq (by rw[zc λz=>hw (by have:=V.int.inj z;ext)];rfl) ?_
  left;rw[EZ (by rw[ew];exact hw)] at kk;exact kk _ _ s1 .aO
def AW:cz P w base 4 T.pz mY:=by
 nomatch T.pz,["word","parts","bar","passes"]
 let⟨t,rfl,hl,kk⟩:=h;let sl:=yp;let sh:∀z∈Txt.split t ":",⇑z<=600:=λz hz=>zH (xq hz) hl;refine{_,(ae (cu 1 qN (fM yu yy yx fQ (pv 0) (aa ar af)))
  (ae (ax (ptr fO (dJ aw T.bp (aa (pv 1) af)) ai)
  (ag (ak aD))
  ao)
  (ae (cu 2 qN (bH (bu T) hr T.bE (aa (fB (pv 1) ai) af)))
  (ae (cu 3 qN (bH (cp T) hr T.bQ (aa (nO (ts:=["part"]) (ys:=[]) (js:=[]) (te:=(gd gA [] E0 (cB (cj 0) j4))) (cx (fM yu yy yx fQ (fB (pv 1) ai) (aa ar af))) (mC 0) bw (bH (bu T) hr T.bE (aa (pv 0) af))) af)))
  (ae (ax (PW.pt (cP (aV (bF (pv 2))) (b7 (aV (bF (pv 3))))))
  (ag (ak aD))
  ao)
  (ag (ak (aZ (aa (pv 2) (aa (AN eA T.jR (aa (pv 3) af)) af)))))))))),?_}
 ac_rfl;exists by ext,?_
 generalize ew:Txt.split t ":"= ws at sh;intros p1 H1 s1 h1;exists p1,_,rfl,.inl (aE.of h1),?_;rw[za];left
 by_cases hw:⇑ws=2
 ·obtain⟨a,b,rfl⟩:∃a b,ws=[a,b]:=by
   match ws,hw with
   | [a,b],_=>exact{(a),b,rfl}
  refine bt rfl ?_;exists p1,_,0,_,rfl,rfl,aE.of h1,rfl,?_;refine{_,rfl,sh a (by simp),λH2 s2=>?_};exists p1,_,1,_,rfl,rfl,aE.of (s2 _ _ h1),rfl,?_;left;let lb:=sh b (by simp);let bl:=PyProof.Rows.split_le b ",";let bsh:∀z∈Txt.split b ",",⇑z<=600:=λz hz=>zH (xq hz) lb;refine{(),?_};rw[Gy ew] at kk;generalize Txt.split b ","= bs at kk bl bsh;intros p3 H3 s3 h3;exists{_,aE.of h3},?_;refine dk (enc:=V.str) (ws:=bs) (λz=>dO .int (dg z)) (λU=>∃v,U=[v]) () (aE.of h3) {(none),rfl} ?_ ?_
  ·rintro z U H4 R hz s4 ⟨_,rfl⟩ r
   change{bsh z hz,λH5 s5=>r _ _ _ s5 (pZ _) {_,rfl}}
  ·intro D vs H4 s4 hD il
   let s04:=((s1.trans s2).trans s3).trans s4;refine{D,vs,rfl,aE.of hD,by rw[il.len,za];ext,λH5 s5=>?_};let e1:bs.map (λz=>dO Dt.int (dg z))=(bs.map dg).map (dO Dt.int):=by rw[zu];rfl
   rw[e1] at il;rw[gq il];cases q:((bs.map dg).map (dO Dt.int)).any Dt.dM with
   | true=>
    rw[fG Hs q] at kk;let kn:=kk .aO H5 (s04.trans s5) (by cases dg a <;> (unfold dO Is;rfl));cases ea:dg a with
    | none=>change kn
    | some n=>change kn
   | false=>
    let⟨xs,e2,e3,e4⟩:=fF q;rw[e2] at kk;rw[e3] at il;let ev:=gp il;subst ev;cases ea:dg a with
    | none=>
     rw[ea] at kk;change kk .aO H5 (s04.trans s5) (by unfold dO Is;rfl)
    | some n=>
     rw[ea] at kk;left;refine{D,_,rfl,.inl {aE.of (s5 _ _ hD),?_}};intros p6 H6 s6 h6;left;refine{dw,laid λp7 H7 s7 h7=>kk _ _ (((s04.trans s5).trans s6).trans s7) ?_};show Is H7 (.tup [.int n,.tup (xs.map .int)]) _;unfold Is;refine{p7,_,rfl,h7,?_};unfold av;refine{_,_,rfl,by unfold Is;rfl,?_};unfold av;refine{_,_,rfl,?_,by unfold av;rfl};unfold Is;exact{p6,_,rfl,s7 _ _ h6,vo}
 ·refine bq (by rw[zc λz=>hw (by have:=V.int.inj z;ext)];rfl) ?_
  left;rw[IM (by rw[ew];exact hw)] at kk;exact kk _ _ s1 (by unfold dO Is;rfl)
def GV {α:Type} {f:Str->Option α} {ws:List Str} (h:⇑ws≠1):one f ws=none:=by
 match ws,h with
 | [],_=>rfl
 | [_],h=>exact absurd rfl h
 | _::_::_,_=>rfl
def pN:cz P w base 2 T.gj (du K (kh .str (one bo))):=by
 nomatch T.gj,["words"]
 let⟨p,ws,rfl,hp,hl,sh,kk⟩:=h;refine{_,(ae (ax (ptr fO (dJ aw T.bp (aa (pv 0) af)) ai)
  (ag (ak aD))
  ao)
  (ag (ak (bH (cb T) hr T.cJ (aa (fB (pv 0) ai) af))))),?_}
 ac_rfl;exists p,_,rfl,.inl hp,?_;rw[za];left
 by_cases hw:⇑ws=1
 ·obtain⟨a,rfl⟩:∃a,ws=[a]:=by
   match ws,hw with
   | [a],_=>exact{(a),rfl}
  refine bt rfl ?_;exists p,_,0,_,rfl,rfl,hp,rfl,?_;exact{_,rfl,sh a (by simp),λH1 s1=>kk _ _ s1 (tE _)}
 ·refine bq (by rw[zc λz=>hw (by have:=V.int.inj z;ext)];rfl) ?_
  left;refine kk _ _ (au.refl _) ?_;unfold kh;rw[GV hw];exact cv
def pL:cz P w base 5 T.gh (du K (kh dL (one lr))):=by
 nomatch T.gh,["words"]
 let⟨p,ws,rfl,hp,hl,sh,kk⟩:=h;refine{_,(ae (ax (ptr fO (dJ aw T.bp (aa (pv 0) af)) ai)
  (ag (ak aD))
  ao)
  (ag (ak (bH (eJ T) hr T.b6 (aa (fB (pv 0) ai) af))))),?_}
 ac_rfl;exists p,_,rfl,.inl hp,?_;rw[za];left
 by_cases hw:⇑ws=1
 ·obtain⟨a,rfl⟩:∃a,ws=[a]:=by
   match ws,hw with
   | [a],_=>exact{(a),rfl}
  refine bt rfl ?_;exists p,_,0,_,rfl,rfl,hp,rfl,?_;exact{_,rfl,sh a (by simp),λv H1 s1 h1=>kk _ _ s1 (pY h1)}
 ·refine bq (by rw[zc λz=>hw (by have:=V.int.inj z;ext)];rfl) ?_
  left;refine kk _ _ (au.refl _) ?_;unfold kh;rw[GV hw];exact cv
def vQ {α:Type} (d:α->Dt) (o:Option α):dO d o=(o.map d).getD .aO:=by cases o <;> rfl
def v9 {H:Hp} {ds:List Dt} {us:List V} {a:wJ} {d:Option Dt} (ha:H a=some (.tup us)) (il:av H ds us) (h1:ds.any Dt.dM=true->d=none) (h2:ds.any Dt.dM=false->d=some (.tup ds)):Is H (d.getD .aO) (if us.any dM=true then .aO else .ref a):=by
 rw[gq il];cases q:ds.any Dt.dM with
 | true=>rw[h1 q];exact cv
 | false=>rw[h2 q];exact dR ha il
def kE:cz P w base 5 T.c7 (du K (kh kM hX)):=by
 nomatch T.c7,["words"]
 let⟨p,ws,rfl,hp,hl,sh,kk⟩:=h;refine{_,(ae (ax (ptr fO (dJ aw T.bp (aa (pv 0) af)) ai)
  (ag (ak aD))
  ao)
  (ag (ak (bH (cW T) hr T.bQ (aa (aZ (aa (bH (cb T) hr T.cJ (aa (fB (pv 0) ai) af)) (aa (bH (uX T) hr T.mw (aa (fB (pv 0) ai) (aa (fB (pv 0) ai) af))) (aa (bH (uY T) hr T.mx (aa (fB (pv 0) ai) af)) af)))) af))))),?_}
 ac_rfl;exists p,_,rfl,.inl hp,?_;rw[za];left
 by_cases hw:⇑ws=4
 ·obtain⟨a,b,c,d,rfl⟩:∃a b c d,ws=[a,b,c,d]:=by
   match ws,hw with
   | [a,b,c,d],_=>exact{(a),b,c,d,rfl}
  refine bt rfl ?_;exists p,_,0,_,rfl,rfl,hp,rfl,?_;refine{_,rfl,sh a (by simp),λH1 s1=>?_};exists p,_,1,_,rfl,rfl,s1.seq hp,rfl,?_;exists p,_,2,_,rfl,rfl,s1.seq hp,rfl,?_;refine{_,_,rfl,sh b (by simp),sh c (by simp),λv2 H2 s2 h2=>?_};exists p,_,3,_,rfl,rfl,(s1.trans s2).seq hp,rfl,?_;refine{_,rfl,sh d (by simp),λv3 H3 s3 h3=>?_};exists oV,?_;intros p4 H4 s4 h4;let s24:=s3.trans s4;refine{p4,_,rfl,h4,(by show 3<=1000000;decide),λH5 s5=>kk _ _ (((s1.trans s2).trans s24).trans s5) ?_};unfold kh;rw[vQ];refine v9 (s5 _ _ h4) (aX (tE _) (aX (pY (h2.mono (s24.trans s5))) (jz (pY (h3.mono (s4.trans s5)))))) ?_ ?_
  ·simp only[hX]
   cases bo a <;> cases pj b c <;> cases Ie d <;> first | (intro _;rfl) | (intro q;exact absurd q (by simp[dO,dL,Dt.dM]))
  ·simp only[hX]
   cases bo a <;> cases pj b c <;> cases Ie d <;> first | (intro _;rfl) | (intro q;exact absurd q (by simp[dO,dL,Dt.dM]))
 ·refine bq (by rw[zc λz=>hw (by have:=V.int.inj z;ext)];rfl) ?_
  left;refine kk _ _ (au.refl _) ?_;let e:hX ws=none:=by
   unfold hX;split
   ·exact absurd rfl hw
   ·rfl
  unfold kh;rw[e];exact cv
def u7:cz P w base 3 T.jN (du K (kh nz lE)):=by
 nomatch T.jN,["words"]
 let⟨p,ws,rfl,hp,hl,sh,kk⟩:=h;refine{_,(ae (ax (ptr fO (dJ aw T.bp (aa (pv 0) af)) ai)
  (ag (ak aD))
  ao)
  (ag (ak (bH (cW T) hr T.bQ (aa (aZ (aa (bH (cb T) hr T.cJ (aa (fB (pv 0) ai) af)) (aa (bH (bu T) hr T.bE (aa (fB (pv 0) ai) af)) (aa (bH (cb T) hr T.cJ (aa (fB (pv 0) ai) af)) af)))) af))))),?_}
 ac_rfl;exists p,_,rfl,.inl hp,?_;rw[za];left
 by_cases hw:⇑ws=3
 ·obtain⟨a,b,c,rfl⟩:∃a b c,ws=[a,b,c]:=by
   match ws,hw with
   | [a,b,c],_=>exact{(a),b,c,rfl}
  refine bt rfl ?_;exists p,_,0,_,rfl,rfl,hp,rfl,?_;refine{_,rfl,sh a (by simp),λH1 s1=>?_};exists p,_,1,_,rfl,rfl,s1.seq hp,rfl,?_;refine{_,rfl,sh b (by simp),λH2 s2=>?_};exists p,_,2,_,rfl,rfl,(s1.trans s2).seq hp,rfl,?_;refine{_,rfl,sh c (by simp),λH3 s3=>?_};exists oV,?_;intros p4 H4 s4 h4;refine{p4,_,rfl,h4,(by show 3<=1000000;decide),λH5 s5=>kk _ _ (((s1.trans s2).trans (s3.trans s4)).trans s5) ?_};unfold kh;rw[vQ];refine v9 (s5 _ _ h4) (aX (tE _) (aX (pZ _) (jz (tE _)))) ?_ ?_
  ·simp only[lE]
   cases bo a <;> cases dg b <;> cases bo c <;> first | (intro _;rfl) | (intro q;exact absurd q (by simp[dO,dL,Dt.dM]))
  ·simp only[lE]
   cases bo a <;> cases dg b <;> cases bo c <;> first | (intro _;rfl) | (intro q;exact absurd q (by simp[dO,dL,Dt.dM]))
 ·refine bq (by rw[zc λz=>hw (by have:=V.int.inj z;ext)];rfl) ?_
  left;refine kk _ _ (au.refl _) ?_;let e:lE ws=none:=by
   unfold lE;split
   ·exact absurd rfl hw
   ·rfl
  unfold kh;rw[e];exact cv
def jr {H:Hp} {ws:List Str} {vs:List V} {α:Type} {d:α->Dt} {f:Str->Option α} (il:av H (ws.map λz=>dO d (f z)) vs):av H ((ws.map f).map (dO d)) vs:=by
 let e:ws.map (λz=>dO d (f z))=(ws.map f).map (dO d):=by rw[zu];rfl
 rw[<-e];exact il
def rK:cz P w base 2 T.hV (du K (kh jD kC)):=by
 nomatch T.hV,["words","names"]
 let⟨p,ws,rfl,hp,hl,sh,kk⟩:=h;let sl:=yp;refine{_,(ae (ax (ptr gN (dJ aw T.bp (aa (pv 0) af)) ai)
  (ag (ak aD))
  ao)
  (ae (cu 1 qN (bH (cp T) hr T.bQ (aa (nO (ts:=["word"]) (ys:=[]) (js:=[]) (te:=(gd g9 [] E0 (cB (cj 0) j4))) (cx (pv 0)) (mC 0) bw (bH (cb T) hr T.cJ (aa (pv 0) af))) af)))
  (ae (ax (aV (bF (pv 1)))
  (ag (ak aD))
  ao)
  (ag (ak (aZ (aa (fB (pv 1) ai) (aa (AN eA T.jR (aa (cE eU (pv 1) (dy ai) dz) af)) af)))))))),?_}
 ac_rfl;exists p,_,rfl,.inl hp,?_;rw[za];left;refine pX (λc=>?_) (λc=>?_)
 ·left
  refine kk _ _ (au.refl _) ?_;let hw:=zU c;let e:kC ws=none:=by
   unfold kC;split
   ·simp at hw;ext
   ·rfl
  unfold kh;rw[e];exact cv
 ·let hw:¬(⇑ws:Int)<2:=λz=>c (zd z)
  obtain⟨a,b,r,rfl⟩:∃a b r,ws=a::b::r:=by
   match ws,hw with
   | [],h=>exact absurd (by simp) h
   | [_],h=>exact absurd (by simp) h
   | a::b::r,_=>exact{(a),b,r,rfl}
  exists{_,hp},?_;refine dk (enc:=V.str) (ws:=a::b::r) (λz=>dO .str (bo z)) (λU=>∃v,U=[v]) () hp {(none),rfl} ?_ ?_
  ·rintro z U H4 R hz s4 ⟨_,rfl⟩ r
   change{sh z hz,λH5 s5=>r _ _ _ s5 (tE _) {_,rfl}}
  ·intro D vs H4 s4 hD il
   refine{D,vs,rfl,aE.of hD,by rw[il.len,za];ext,λH5 s5=>?_};let il:=jr il;rw[gq il];cases q:(((a::b::r).map bo).map (dO Dt.str)).any Dt.dM with
   | true=>
    left;refine kk _ _ (s4.trans s5) ?_;unfold kh;rw[kB,fG Bk q];exact cv
   | false=>
    let⟨xs,e2,e3,e4⟩:=fF q;rw[e3] at il;let ev:=ff il;subst ev;obtain⟨n,ps,rfl⟩:∃n ps,xs=n::ps:=by
     match xs,e4 with
     | n::ps,_=>exact{(n),ps,rfl}
    let hD5:=s5 _ _ hD;exists D,_,0,_,rfl,rfl,aE.of hD5,aS (j:=0) rfl,?_;exists D,_,rfl,aE.of hD5,?_;rw[show f9 (List.map V.str (n::ps)) (some 1) none=ps.map V.str from(fE _ 1).trans rfl];intros p6 H6 s6 h6;left;refine{p6,_,rfl,.inl {aE.of h6,?_}};intros p7 H7 s7 h7;left;refine{dw,laid λp8 H8 s8 h8=>kk _ _ (((((s4.trans s5).trans s6).trans s7)).trans s8) ?_};unfold kh;rw[kB,e2];exact dR h8 (aX jy (jz (dR (s8 _ _ h7) ug)))
def AX:cz P w base 5 T.lC (du K (kh qv pE)):=by
 nomatch T.lC,["words","marks"]
 let⟨p,ws,rfl,hp,hl,sh,kk⟩:=h;let sl:=yp;refine{_,(ae (ax (ptr gN (dJ aw T.bp (aa (pv 0) af)) ai)
  (ag (ak aD))
  ao)
  (ae (cu 1 qN (bH (cp T) hr T.bQ (aa (nO (ts:=["word"]) (ys:=[]) (js:=[]) (te:=(gd g9 [] E0 (cB (cj 0) j4))) (cx (cE eU (pv 0) (dy ai) dz)) (mC 0) bw (bH (cb T) hr T.cJ (aa (pv 0) af))) af)))
  (ae (ax (aV (bF (pv 1)))
  (ag (ak aD))
  ao)
  (ag (ak (bH (cW T) hr T.bQ (aa (aZ (aa (bH (rM T) hr T.kA (aa (fB (pv 0) ai) af)) (aa (bH (AV T) hr T.px (aa (fB (pv 0) ai) af)) (aa (AN eA T.jR (aa (pv 1) af)) af)))) af))))))),?_}
 ac_rfl;exists p,_,rfl,.inl hp,?_;rw[za];left;refine pX (λc=>?_) (λc=>?_)
 ·left
  refine kk _ _ (au.refl _) ?_;let hw:=zU c;let e:pE ws=none:=by
   unfold pE;split
   ·simp at hw;ext
   ·rfl
  unfold kh;rw[e];exact cv
 ·let hw:¬(⇑ws:Int)<2:=λz=>c (zd z)
  obtain⟨a,b,r,rfl⟩:∃a b r,ws=a::b::r:=by
   match ws,hw with
   | [],h=>exact absurd (by simp) h
   | [_],h=>exact absurd (by simp) h
   | a::b::r,_=>exact{(a),b,r,rfl}
  rw[zo,zo] at hl;exists p,_,rfl,hp,?_;rw[show f9 (List.map V.str (a::b::r)) (some 2) none=r.map V.str from(fE _ 2).trans rfl];intros p1 H1 s1 h1;exists{_,aE.of h1},?_;refine dk (enc:=V.str) (ws:=r) (λz=>dO .str (bo z)) (λU=>∃v,U=[v]) () (aE.of h1) {(none),rfl} ?_ ?_
  ·rintro z U H4 R hz s4 ⟨_,rfl⟩ r
   change{sh z (by simp[hz]),λH5 s5=>r _ _ _ s5 (tE _) {_,rfl}}
  ·intro D vs H4 s4 hD il
   refine{D,vs,rfl,aE.of hD,by rw[il.len,za];ext,λH5 s5=>?_};let il:=jr il;rw[gq il];let s05:=(s1.trans s4).trans s5;cases q:((r.map bo).map (dO Dt.str)).any Dt.dM with
   | true=>
    left;refine kk _ _ s05 ?_;unfold kh;simp only[pE];rw[fG Bk q];exact cv
   | false=>
    let⟨xs,e2,e3,e4⟩:=fF q;rw[e3] at il;let ev:=ff il;subst ev;let hD5:=s5 _ _ hD;exists p,_,0,_,rfl,rfl,s05.seq hp,aS (j:=0) rfl,?_;refine{_,rfl,sh a (by simp),λv6 H6 s6 h6=>?_};exists p,_,1,_,rfl,rfl,(s05.trans s6).seq hp,aS (j:=1) rfl,?_;refine{_,rfl,sh b (by simp),λH7 s7=>?_};left;refine{D,_,rfl,.inl {aE.of (s7 _ _ (s6 _ _ hD5)),?_}};intros p8 H8 s8 h8;exists oV,?_;intros p9 H9 s9 h9;refine{p9,_,rfl,h9,(by show 3<=1000000;decide),λHx sx=>kk _ _ (((((s05.trans s6).trans s7).trans s8).trans s9).trans sx) ?_};unfold kh;rw[vQ];refine v9 (ds:=[dO dL (dP a),dO .int (uO b),kf xs]) (sx _ _ h9) (aX (pY (h6.mono (((s7.trans s8).trans s9).trans sx))) (aX (pZ _) (jz (dR (sx _ _ (s9 _ _ h8)) ug)))) ?_ ?_
    ·simp only[pE]
     rw[e2];cases dP a <;> cases uO b <;> first | (intro _;rfl) | (intro q;exact absurd q (by simp[dO,dL,Dt.dM,kf]))
    ·simp only[pE]
     rw[e2];cases dP a <;> cases uO b <;> first | (intro _;rfl) | (intro q;exact absurd q (by simp[dO,dL,Dt.dM,kf]))
theorem om {H:Hp} {α:Type} {d:α->Dt}:∀{xs:List α} {vs:List V},av H (xs.map d) vs->∃ps:List (α×V),ps.map (·.1)=xs/\ps.map (·.2)=vs/\∀q∈ps,Is H (d q.1) q.2
 | [],_,h=>by unfold av at h;exact{[],rfl,h.symm,λ_ z=>nomatch z}
 | x::xs,_,h=>by
  rw[zf] at h;unfold av at h;let⟨u,r,rfl,h1,h2⟩:=h;let⟨ps,e1,e2,hh⟩:=om h2;refine{(x,u)::ps,by simp[e1],by simp[e2],λq m=>?_};rcases zw.mp m with e | m
  ·subst e;exact h1
  ·exact hh q m
def item_at {H:Hp} {it:Item} {v:V} (h:Is H (fT it) v):∃a pv lv,v=.ref a/\H a=some (.tup [pv,lv])/\Is H (dO dL it.1) pv/\Is H (dL it.2) lv:=by
 unfold fT Is at h;let⟨a,vs,rfl,ha,hl⟩:=h;unfold av at hl;let⟨pv,r,rfl,h1,hl⟩:=hl;unfold av at hl;let⟨lv,r,rfl,h2,hl⟩:=hl;unfold av at hl;subst hl;exact{(a),pv,lv,rfl,ha,h1,h2}
def M8 {H:Hp} {α:Type} {d:α->Dt} (f:DM d) {o:Option α} {v:V} (h:Is H (dO d o) v):dM v=o.isNone:=by
 rw[Hf h];cases o with
 | none=>rfl
 | some x=>exact f x
def rL:cz P w base 6 T.hW (du K Nt):=by
 nomatch T.hW,["words","items"]
 let⟨p,ws,rfl,hp,hl,sh,kk⟩:=h;let sl:=yp;refine{_,(ae (ax (ptr gN (dJ aw T.bp (aa (pv 0) af)) ai)
  (ag (ak aD))
  ao)
  (ae (cu 1 qN (bH (cp T) hr T.bQ (aa (nO (ts:=["word"]) (ys:=[]) (js:=[]) (te:=(gd j8 [] E0 (cB (cj 0) j4))) (cx (cE eU (pv 0) (dy ai) dz)) (mC 0) bw (bH (rJ T) hr T.my (aa (pv 0) af))) af)))
  (ae (ax (PW.pt (cP (aV (bF (pv 1))) (b7 (bA (dJ (gW rfl) T.A7 (aa (nO (ts:=["item"]) (ys:=[]) (js:=[]) (te:=(Gh (kX (pC K) (cj 0) (tC (.int (0)))))) (cx (pv 1)) (mC 0) bw (mD (bF (cm (pv 0) ai)))) af))))))
  (ag (ak aD))
  ao)
  (ag (ak (bH (cW T) hr T.bQ (aa (aZ (aa (bH (bu T) hr T.bE (aa (fB (pv 0) ai) af)) (aa (bH (cb T) hr T.cJ (aa (fB (pv 0) ai) af)) (aa (pv 1) af)))) af))))))),?_}
 ac_rfl;exists p,_,rfl,.inl hp,?_;rw[za];left;refine pX (λc=>?_) (λc=>?_)
 ·left
  refine kk _ _ (au.refl _) ?_;let hw:=zU c;let e:gB ws=none:=by
   unfold gB;split
   ·simp at hw;ext
   ·rfl
  unfold Nt;rw[e]
 ·let hw:¬(⇑ws:Int)<3:=λz=>c (zd z)
  obtain⟨a,b,i,r,rfl⟩:∃a b i r,ws=a::b::i::r:=by
   match ws,hw with
   | [],h=>exact absurd (by simp) h
   | [_],h=>exact absurd (by simp) h
   | [_,_],h=>exact absurd (by simp) h
   | a::b::i::r,_=>exact{(a),b,i,r,rfl}
  let en:gB (a::b::i::r)=(match i7 ((i::r).map ir) with | some l=>if l.all (λit=>it.1.isNone)=true then none else(match dg a,bo b with | some x,some y=>some (x,y,l) | _,_=>none) | none=>none):=rfl;unfold Nt at kk;rw[en] at kk;let sh':∀z∈i::r,⇑z<=600:=λz hz=>sh z (by simp at hz ⊢;rcases hz with h | h <;> simp[h]);let hl':⇑(i::r)<=1000000:=by simp at hl ⊢;ext
  exists p,_,rfl,hp,?_;rw[show f9 (List.map V.str (a::b::i::r)) (some 2) none=(i::r).map V.str from(fE _ 2).trans rfl];clear en;generalize i::r=its at kk sh' hl';intros p1 H1 s1 h1;exists{_,aE.of h1},?_;refine Dn (enc:=V.str) (ws:=its) (λz=>dO fT (ir z)) (λU=>∃v,U=[v]) () (aE.of h1) {(none),rfl} ?_ ?_
  ·rintro z U H4 R hz s4 ⟨_,rfl⟩ r
   change{sh' z hz,λv H5 s5 h5=>r _ _ _ s5 (M7 h5) {_,rfl}}
  ·intro D vs H4 s4 nD hD il
   refine{D,vs,rfl,aE.of hD,by rw[il.len,za];ext,λH5 s5=>?_};let il:=jr il;rw[gq il];let s05:=(s1.trans s4).trans s5;cases q:((its.map ir).map (dO fT)).any Dt.dM with
   | true=>
    left;refine kk _ _ s05 ?_;rw[fG Fi q]
   | false=>
    let⟨xs,e2,e3,e4⟩:=fF q;rw[e3] at il;rw[e2] at kk;let il5:=il.mono s5;let hD5:=s5 _ _ hD;let⟨ps,f1,f2,f3⟩:=om il5;let pl:⇑ps<=1000000:=by
     have:⇑ps=⇑xs:=by rw[<-f1,za]
     rw[this,e4,za];exact hl'
    exists{_,aE.of hD5},?_;refine dk (enc:=λq:Item×V=>q.2) (ws:=ps) (λq=>.bl q.1.1.isNone) (λU=>∃v,U=[v]) () (by rw[f2];exact aE.of hD5) {(none),rfl} ?_ ?_
    ·rintro z U H6 R hz s6 ⟨_,rfl⟩ r
     let⟨a6,pv,lv,ev,h6,h7,h8⟩:=item_at (f3 z hz);rw[ev];let h66:=s6 _ _ h6;left;refine r _ _ _ (au.refl _) ?_ {_,rfl};rw[<-M8 Lq h7];unfold Is;rfl
    ·intro D2 vs2 H6 s6 hD2 il2
     let e5:ps.map (λq=>Dt.bl q.1.1.isNone)=(ps.map λq=>q.1.1.isNone).map Dt.bl:=by rw[zu];rfl
     rw[e5] at il2;rw[iz il2] at hD2;refine{D2,_,rfl,aE.of hD2,?_};let e6:(ps.map λq=>q.1.1.isNone).all id=xs.all λit=>it.1.isNone:=by rw[<-f1,xH,xH];rfl
     rw[e6];cases qa:xs.all λit=>it.1.isNone with
     | true=>
      dsimp only at kk;rw[qa] at kk;change kk _ _ (s05.trans s6) rfl
     | false=>
      dsimp only at kk;rw[qa] at kk;let s06:=s05.trans s6;exists p,_,0,_,rfl,rfl,s06.seq hp,aS (j:=0) rfl,?_;refine{_,rfl,sh a (by simp),λH7 s7=>?_};exists p,_,1,_,rfl,rfl,(s06.trans s7).seq hp,aS (j:=1) rfl,?_;refine{_,rfl,sh b (by simp),λH8 s8=>?_};exists oV,?_;intros p9 H9 s9 h9;let s59:=((s6.trans s7).trans s8).trans s9;refine{p9,_,rfl,h9,(by show 3<=1000000;decide),λHx sx=>kk _ _ ((s05.trans s59).trans sx) ?_};let s5x:=s59.trans sx;let h9x:=sx _ _ h9;clear h9
      revert h9x
      cases dg a <;> cases bo b <;> intro h9x <;> first | rfl | exact⟨p9,D,vs,rfl,h9x,s5x _ _ hD5,il5.mono s5x,s1.back nD⟩
def pM:cz P w base 5 T.gi (du K (kh j6 gk)):=by
 nomatch T.gi,["words","times","ends"]
 let⟨p,ws,rfl,hp,hl,sh,kk⟩:=h;let sl:=yp;refine{_,(ae (ax (ptr gN (dJ aw T.bp (aa (pv 0) af)) ai)
  (ag (ak aD))
  ao)
  (ae (cu 1 qN (bH (jn T) hr T.gg (aa (fB (pv 0) ai) (aa (aK (v:=.int (2)) (by rfl) T.qE {_,rfl}) (aa (aK (v:=.int (9)) (by rfl) T.vV {_,rfl}) af)))))
  (ae (cu 2 qN (bH (cp T) hr T.bQ (aa (nO (ts:=["word"]) (ys:=[]) (js:=[]) (te:=(gd mY [] E0 (cB (cj 0) j4))) (cx (cE eU (pv 0) (dy ai) dz)) (mC 0) bw (bH (AW T) hr T.pz (aa (pv 0) af))) af)))
  (ae (ax (aV (bF (pv 2)))
  (ag (ak aD))
  ao)
  (ag (ak (bH (cW T) hr T.bQ (aa (aZ (aa (bH (bu T) hr T.bE (aa (fB (pv 0) ai) af)) (aa (bH (bu T) hr T.bE (aa (fB (pv 0) ai) af)) (aa (pv 1) (aa (AN eA T.jR (aa (pv 2) af)) af))))) af)))))))),?_}
 ac_rfl;exists p,_,rfl,.inl hp,?_;rw[za];left;refine pX (λc=>?_) (λc=>?_)
 ·left
  refine kk _ _ (au.refl _) ?_;let hw:=zU c;let e:gk ws=none:=by
   unfold gk;split
   ·simp at hw;ext
   ·rfl
  unfold kh;rw[e];exact cv
 ·let hw:¬(⇑ws:Int)<3:=λz=>c (zd z)
  obtain⟨a,b,c',r,rfl⟩:∃a b i r,ws=a::b::i::r:=by
   match ws,hw with
   | [],h=>exact absurd (by simp) h
   | [_],h=>exact absurd (by simp) h
   | [_,_],h=>exact absurd (by simp) h
   | a::b::i::r,_=>exact{(a),b,i,r,rfl}
  let en:gk (a::b::c'::r)=(match i7 (r.map pq) with | some l=>(match dg a,dg b,iO c' 2 9 with | some x,some y,some z=>some {(x),y,z,l} | _,_,_=>none) | none=>none):=rfl;unfold kh at kk;rw[en] at kk;let sh':∀z∈r,⇑z<=600:=λz hz=>sh z (by simp[hz]);let hl':⇑r<=1000000:=by simp at hl ⊢;ext
  exists p,_,2,_,rfl,rfl,hp,aS (j:=2) rfl,?_;refine{_,_,_,rfl,sh c' (by simp),λH0 s0=>?_};exists p,_,rfl,s0.seq hp,?_;rw[show f9 (List.map V.str (a::b::c'::r)) (some 3) none=r.map V.str from(fE _ 3).trans rfl];intros p1 H1 s1 h1;exists{_,aE.of h1},?_;refine dk (enc:=V.str) (ws:=r) (λz=>dO qu (pq z)) (λU=>∃v,U=[v]) () (aE.of h1) {(none),rfl} ?_ ?_
  ·rintro z U H4 R hz s4 ⟨_,rfl⟩ r
   change{sh' z hz,λv H5 s5 h5=>r _ _ _ s5 h5 {_,rfl}}
  ·intro D vs H4 s4 hD il
   refine{D,vs,rfl,aE.of hD,by rw[il.len,za];ext,λH5 s5=>?_};let il:=jr il;rw[gq il];let s05:=((s0.trans s1).trans s4).trans s5;cases q:((r.map pq).map (dO qu)).any Dt.dM with
   | true=>
    left;refine kk _ _ s05 ?_;rw[fG Ht q];exact cv
   | false=>
    let⟨xs,e2,e3,e4⟩:=fF q;rw[e3] at il;rw[e2] at kk;let il5:=il.mono s5;let hD5:=s5 _ _ hD;exists p,_,0,_,rfl,rfl,s05.seq hp,aS (j:=0) rfl,?_;refine{_,rfl,sh a (by simp),λH6 s6=>?_};exists p,_,1,_,rfl,rfl,(s05.trans s6).seq hp,aS (j:=1) rfl,?_;refine{_,rfl,sh b (by simp),λH7 s7=>?_};left;refine{D,_,rfl,.inl {aE.of (s7 _ _ (s6 _ _ hD5)),?_}};intros p8 H8 s8 h8;exists by show 4<=sizeLine;ext,?_
    intros p9 H9 s9 h9;let s59:=((s6.trans s7).trans s8).trans s9;refine{p9,_,rfl,h9,(by show 4<=1000000;decide),λHx sx=>kk _ _ ((s05.trans s59).trans sx) ?_};rw[vQ];refine v9 (ds:=[dO .int (dg a),dO .int (dg b),dO .int (iO c' 2 9),.tup (xs.map qu)]) (sx _ _ h9) (aX (pZ _) (aX (pZ _) (aX (pZ _) (jz (dR (sx _ _ (s9 _ _ h8)) (il5.mono (s59.trans sx))))))) ?_ ?_
    ·cases dg a <;> cases dg b <;> cases iO c' 2 9 <;> first | (intro _;rfl) | (intro q;exact absurd q (by simp[dO,dL,Dt.dM]))
    ·cases dg a <;> cases dg b <;> cases iO c' 2 9 <;> first | (intro _;rfl) | (intro q;exact absurd q (by simp[dO,dL,Dt.dM]))
def uZ:cz P w base 3 T.jM (du K (kh kg m7)):=by
 nomatch T.jM,["words","stops","coda"]
 let⟨p,ws,rfl,hp,hl,sh,kk⟩:=h;let sl:=yp;refine{_,(ae (ax (ptr fO (dJ aw T.bp (aa (pv 0) af)) ai)
  (ag (ak aD))
  ao)
  (ae (cu 1 qN (bH (cp T) hr T.bQ (aa (nO (ts:=["word"]) (ys:=[]) (js:=[]) (te:=(gd gA [] E0 (cB (cj 0) j4))) (cx (cE eU (pv 0) dz (dy ai))) (mC 0) bw (bH (bu T) hr T.bE (aa (pv 0) af))) af)))
  (ae (cu 2 qN (bH (bu T) hr T.bE (aa (fB (pv 0) ai) af)))
  (ae (ax (PW.pt (cP (aV (bF (pv 1))) (b7 (PW.pt (fK (aV (bF (pv 2))) (ei (ptr fO (fB (pv 0) ai) ar)))))))
  (ag (ak aD))
  ao)
  (ag (ak (aZ (aa (fB (pv 1) ai) (aa (fB (pv 1) ai) (aa (fB (pv 1) ai) (aa (pv 2) af))))))))))),?_}
 ac_rfl;exists p,_,rfl,.inl hp,?_;rw[za];left
 by_cases hw:⇑ws=4
 ·obtain⟨a,b,c,d,rfl⟩:∃a b c d,ws=[a,b,c,d]:=by
   match ws,hw with
   | [a,b,c,d],_=>exact{(a),b,c,d,rfl}
  let en:m7 [a,b,c,d]=(match dg a,dg b,dg c with | some x,some y,some z=>(match dg d with | some n=>some {x,y,z,some n} | none=>if d ="end" then some {(x),y,z,none} else none) | _,_,_=>none):=rfl;unfold kh at kk;rw[en] at kk;refine bt rfl ?_;exists p,_,rfl,hp,?_;rw[show f9 (List.map V.str [a,b,c,d]) none (some 3)=[a,b,c].map V.str from(vR _ 3).trans rfl];intros p1 H1 s1 h1;exists{_,aE.of h1},?_;refine dk (enc:=V.str) (ws:=[a,b,c]) (λz=>dO .int (dg z)) (λU=>∃v,U=[v]) (by show 3<=sizeLine;ext) (aE.of h1) {(none),rfl} ?_ ?_
  ·rintro z U H4 R hz s4 ⟨_,rfl⟩ r
   change{sh z (by simp at hz ⊢;rcases hz with h | h | h <;> simp[h]),λH5 s5=>r _ _ _ s5 (pZ _) {_,rfl}}
  ·intro D vs H4 s4 hD il
   refine{D,vs,rfl,aE.of hD,by rw[il.len];show 3<=1000000;decide,λH5 s5=>?_};let il:=jr il;rw[gq il];let s05:=(s1.trans s4).trans s5;cases q:(([a,b,c].map dg).map (dO Dt.int)).any Dt.dM with
   | true=>
    exists p,_,3,_,rfl,rfl,s05.seq hp,rfl,?_;refine{_,rfl,sh d (by simp),λH6 s6=>?_};left;refine kk _ _ (s05.trans s6) ?_;let q':([dg a,dg b,dg c].map (dO Dt.int)).any Dt.dM=true:=q;clear q en kk
    revert q'
    cases dg a <;> cases dg b <;> cases dg c <;> intro q' <;> first | exact cv | exact absurd q' (by simp[dO,Dt.dM])
   | false=>
    obtain⟨x,y,z,ea,eb,ec⟩:∃x y z,dg a=some x/\dg b=some y/\dg c=some z:=by
     let q':([dg a,dg b,dg c].map (dO Dt.int)).any Dt.dM=false:=q;clear q en kk il
     revert q'
     cases dg a <;> cases dg b <;> cases dg c <;> intro q' <;> first | exact⟨_,_,_,rfl,rfl,rfl⟩ | exact absurd q' (by simp[dO,Dt.dM])
    rw[ea,eb,ec] at kk;let il':av H4 ([x,y,z].map Dt.int) vs:=by
     have:([a,b,c].map dg).map (dO Dt.int)=[x,y,z].map Dt.int:=by simp[ea,eb,ec,dO]
     rw[this] at il;exact il
    let ev:=gp il';subst ev;let hD5:=s5 _ _ hD;exists p,_,3,_,rfl,rfl,s05.seq hp,rfl,?_;refine{_,rfl,sh d (by simp),λH6 s6=>?_};let hD6:=s6 _ _ hD5;let s06:=s05.trans s6;let fin:∀(o:Option Int) (v:V),Is H6 (dO .int o) v->dg d=o->(o=none->d ="end")->∀p7 H7,au H6 H7->H7 p7=some (.tup [.int x,.int y,.int z,v])->Q (.ref p7) H7:=λo v iv eo hend p7 H7 s7 h7=>by
     refine kk _ _ (s06.trans s7) ?_;rw[eo];cases o with
     | none=>
      simp only[hend rfl,yC];exact dR h7 (aX dS (aX dS (aX dS (jz (iv.mono s7)))))
     | some n=>exact dR h7 (aX dS (aX dS (aX dS (jz (iv.mono s7)))))
    cases ed:dg d with
    | none=>
     exists p,_,3,_,rfl,rfl,s06.seq hp,rfl,?_;left
     by_cases he:d ="end"
     ·refine bt (by rw[he];rfl) ?_
      exists D,_,0,_,rfl,rfl,aE.of hD6,rfl,?_;exists D,_,1,_,rfl,rfl,aE.of hD6,rfl,?_;exists D,_,2,_,rfl,rfl,aE.of hD6,rfl,?_;left;refine{by show 4<=sizeLine;ext,laid ?_};exact fin none .aO cv ed λ_=>he
     ·refine bq (by rw[zc λz=>he (V.str.inj z)];rfl) ?_
      left;refine kk _ _ s06 ?_;rw[ed];simp only[yB he];exact cv
    | some n=>
     exists D,_,0,_,rfl,rfl,aE.of hD6,rfl,?_;exists D,_,1,_,rfl,rfl,aE.of hD6,rfl,?_;exists D,_,2,_,rfl,rfl,aE.of hD6,rfl,?_;left;refine{by show 4<=sizeLine;ext,laid ?_};exact fin (some n) (.int n) dS ed λz=>nomatch z
 ·refine bq (by rw[zc λz=>hw (by have:=V.int.inj z;ext)];rfl) ?_
  left;refine kk _ _ (au.refl _) ?_;let e:m7 ws=none:=by
   unfold m7;split
   ·exact absurd rfl hw
   ·rfl
  unfold kh;rw[e];exact cv
structure Dk (P:wF) (w:wG) (K:yo) {mg:Str->Option wC} (T:Txt K mg):Prop where
 D6:KD P w K T.fA [("player",.ref T.eE),("instrument",.ref T.cy),("staff",.ref T.fk),("bar",.ref T.iE),("upbeat",.ref T.eC),("holds",.ref T.gw),("notes",.ref T.fm),("repeat",.ref T.eD),("jump",.ref T.gs)]
 Ls:KD P w K T.lD [("player",.ref T.dI),("instrument",.ref T.cg),("staff",.ref T.eB),("bar",.ref T.gx),("upbeat",.ref T.dG),("holds",.ref T.fq),("notes",.ref T.eF),("repeat",.ref T.dH),("jump",.ref T.fo)]
inductive FV (K:yo) {mg:Str->Option wC} (T:Txt K mg):wJ->Sp->Prop where
 | aM:FV K T T.eE (du K (kh .str (one bo)))
 | bB:FV K T T.cy (du K (kh kM hX))
 | bf:FV K T T.fk (du K (kh jD kC))
 | bar:FV K T T.iE (du K (kh qv pE))
 | aI:FV K T T.eC (du K (kh dL (one lr)))
 | holds:FV K T T.gw (du K (kh nz lE))
 | aF:FV K T T.fm (du K Nt)
 | rep:FV K T T.eD (du K (kh j6 gk))
 | b3:FV K T T.gs (du K (kh kg m7))
noncomputable def pB {K:yo} {mg:Str->Option wC} (T:Txt K mg):List (Str×V):=[("player",V.ref T.eE),("instrument",.ref T.cy),("staff",.ref T.fk),("bar",.ref T.iE),("upbeat",.ref T.eC),("holds",.ref T.gw),("notes",.ref T.fm),("repeat",.ref T.eD),("jump",.ref T.gs)]
def GB (K:yo) {mg:Str->Option wC} (T:Txt K mg) (x:Str):(ma (pB T) x=none/\∀ws,d6 (x::ws)=none)\/∃f D,ma (pB T) x=some (.ref f)/\FV K T f (du K D)/\∀H0 H v ws,D H0 H v ws->dY H0 H v (d6 (x::ws)):=by
 by_cases e0:x ="player"
 ·subst e0
  refine .inr {_,_,rfl,.aM,λH0 H v ws h=>?_};exact jb (g:=Told.aM) h λx z=>by unfold Is at z;exact z
 by_cases e1:x ="instrument"
 ·subst e1
  refine .inr {_,_,rfl,.bB,λH0 H v ws h=>?_};exact jb (g:=λ(x:Str×(Int×Int)×(Int×Int))=>Told.bB x.1 x.2.1 x.2.2) h λx z=>(show Is H (kM x) v from z)
 by_cases e2:x ="staff"
 ·subst e2
  refine .inr {_,_,rfl,.bf,λH0 H v ws h=>?_};exact jb (g:=λ(x:Str×List Str)=>Told.bf x.1 x.2) h λx z=>(show Is H (jD x) v from z)
 by_cases e3:x ="bar"
 ·subst e3
  refine .inr {_,_,rfl,.bar,λH0 H v ws h=>?_};exact jb (g:=Told.bar) h λx z=>z
 by_cases e4:x ="upbeat"
 ·subst e4
  refine .inr {_,_,rfl,.aI,λH0 H v ws h=>?_};exact jb (g:=Told.aI) h λx z=>z
 by_cases e5:x ="holds"
 ·subst e5
  refine .inr {_,_,rfl,.holds,λH0 H v ws h=>?_};exact jb (g:=λ(x:Str×Int×Str)=>Told.holds x.1 x.2.1 x.2.2) h λx z=>(show Is H (nz x) v from z)
 by_cases e6:x ="notes"
 ·subst e6
  refine .inr {_,_,rfl,.aF,λH0 H v ws h=>?_};let e:d6 ("notes":: ws)=(gB ws).map λx=>Told.aF x.1 x.2.1 x.2.2:=rfl;rw[e];unfold Nt at h;cases q:gB ws with
  | none=>rw[q] at h;exact h
  | some y=>rw[q] at h;exact h
 by_cases e7:x ="repeat"
 ·subst e7
  refine .inr {_,_,rfl,.rep,λH0 H v ws h=>?_};exact jb (g:=Told.rep) h λx z=>z
 by_cases e8:x ="jump"
 ·subst e8
  refine .inr {_,_,rfl,.b3,λH0 H v ws h=>?_};exact jb (g:=Told.b3) h λx z=>z
 refine .inl {?_,λws=>?_}
 ·let f0:∀(k:Str) (v:V) (r:List (Str×V)),x≠k->ma ((k,v)::r) x=ma r x:=λk v r h=>by
   unfold ma;rw[yG];rw[show decide ((k,v).1=x)=false from zc λz=>h z.symm]
  unfold pB;rw[f0 _ _ _ e0,f0 _ _ _ e1,f0 _ _ _ e2,f0 _ _ _ e3,f0 _ _ _ e4,f0 _ _ _ e5,f0 _ _ _ e6,f0 _ _ _ e7,f0 _ _ _ e8];rfl
 ·unfold d6
  dsimp only;rw[yB e0,yB e1,yB e2,yB e3,yB e4,yB e5,yB e6,yB e7,yB e8]
def mm {K:yo} {mg:Str->Option wC} (T:Txt K mg):Sp:=λvs H Q _=>∃x:Str,vs=[.str x]/\Q (.bl (ma (pB T) x).isSome) H
def mF (B:Dk P w K T):cz P w base 1 T.gG (mm T):=by
 nomatch T.gG,["word"]
 let⟨x,rfl,kk⟩:=h;refine{_,(ag (ak (mD (I0 (pv 0) (aK (v:=.ref T.fA) (by rfl) T.tQ rfl))))),?_};ac_rfl;exists T.fA,pB T,x,rfl,B.D6,rfl,?_;left;show Q (V.bl (false ^^ (ma (pB T) x).isSome)) H;rw[Bool.false_xor];exact kk
def m4:cA ["words","reader"] ["words"] (aA km):=Lp
def AU (B:Dk P w K T):cz P w base 7 T.pw (Ah K):=by
 refine T.pw.F.MO m4 λcdv A' outer s H vs Q E hr h=>?_
 ·let⟨p,x,ws,rfl,hp,hl,sh,kk⟩:=h
  let sl:=yp;let hTbV:∀f sp,FV K T f sp->LR (eP sL P w K mg base ["words","reader"] "read_row" (aA km) T.qI cdv A' outer s H E).wZ sL 6 f sp:=by
   intro f sp h;cases h with
   | aM=>exact{_,_,L2.bC.mono (pN T) ∅,T.gj.F.kp,T.gj.b}
   | bB=>exact{_,_,L2.bC.mono (kE T) ∅,T.c7.F.kp,T.c7.b}
   | bf=>exact{_,_,L2.bC.mono (rK T) ∅,T.hV.F.kp,T.hV.b}
   | bar=>exact{_,_,L2.bC.mono (AX T) ∅,T.lC.F.kp,T.lC.b}
   | aI=>exact{_,_,L2.bC.mono (pL T) ∅,T.gh.F.kp,T.gh.b}
   | holds=>exact{_,_,L2.bC.mono (u7 T) ∅,T.jN.F.kp,T.jN.b}
   | aF=>exact{_,_,L2.bC.mono (rL T) ∅,T.hW.F.kp,T.hW.b}
   | rep=>exact{_,_,L2.bC.mono (pM T) ∅,T.gi.F.kp,T.gi.b}
   | b3=>exact{_,_,L2.bC.mono (uZ T) ∅,T.jM.F.kp,T.jM.b}
  refine{_,(ae (ax (de (bA (bH (mF T B) hr T.gG (aa (fB (pv 0) ai) af))))
   (ag (ak aD))
   ao)
   (ae (cu 1 m4.nd (AJ (aK (v:=.ref T.fA) (by rfl) T.tQ rfl) (fB (pv 0) ai) (λ_ _=>rfl)))
   (ag (ak (AL (FV K T) hTbV (hr.mono ∅) (pv 1) sX (aa (cE eU (pv 0) (dy ai) dz) af)))))),?_}
  ac_rfl;exists p,_,0,_,rfl,rfl,hp,aS (j:=0) rfl,?_;refine{x,rfl,?_};rcases GB K T x with⟨ev,er⟩ | ⟨f,D,ev,htb,hd⟩
  ·rw[ev]
   left;refine kk _ _ (au.refl _) ?_;rw[er];rfl
  ·rw[ev]
   exists p,_,0,_,rfl,rfl,hp,aS (j:=0) rfl,?_;refine{T.fA,pB T,x,_,rfl,B.D6,rfl,ev,?_};exists f,_,rfl,htb,?_;exists p,_,rfl,hp,?_;rw[show f9 (List.map V.str (x::ws)) (some 1) none=ws.map V.str from(fE _ 1).trans rfl];intros p1 H1 s1 h1;refine{p1,ws,rfl,aE.of h1,(),λy hy=>sh y (by simp[hy]),λv H2 s2 h2=>kk _ _ (s1.trans s2) ((hd _ _ _ _ h2).back s1)}
def iT:cz P w base 1 T.eW (nF K):=by
 nomatch T.eW,["repeats","bar","repeat"]
 let⟨p,rs,b,rfl,⟨vs,hp,il⟩,kk⟩:=h;unfold jK at kk;refine{_,(ae (jj yD rfl (cx (pv 0)) (FR 2 qN)
  (ag (ax (PW.pt (fK (ptr lJ (cm (pv 2) ai) (pv 1)) (ei (ptr lJ (pv 1) (cm (pv 2) ai)))))
   (ag (ak (pv 2)))
   ao)))
  (ag (ak aD))),?_}
 ac_rfl;exists{_,hp},?_;refine lT (K:=K) (a:=p) (xs:=vs) (λi U H'=>H'=H/\(rs.take i).find? (λr=>decide (r.first<=b)&&decide (b<=r.last))=none/\∃v,U=[some (.ref p),some (.int b),v]) {(rfl),rfl,none,rfl} (λi U H' _ h=>by rw[h.1];exact hp) ?_ ?_
 ·intro i x U H' hx hh
  refine l9 λN kN0 kR0 _ _=>?_;let⟨rfl,hn,v,rfl⟩:=hh;let⟨r,hr',hi⟩:=gF il hx;let⟨a,e,rfl,ha,he⟩:=hU hi;left
  by_cases c1:r.first<=b
  ·refine bq (zd c1) ?_
   left
   by_cases c2:b<=r.last
   ·refine bq (zd c2) ?_
    left;refine kk _ ?_;rw[Ei hr' hn (by rw[zd c1,zd c2];rfl)];exact hi
   ·refine bt (zc c2) ?_
    change{tL hr' hn (by rw[zc c2,xY]),_,rfl}
  ·refine bt (zc c1) ?_
   change{tL hr' hn (by rw[zc c1,yH]),_,rfl}
 ·rintro U H' ⟨rfl,hn,v,rfl⟩
  rw[aR il,zI] at hn;left;refine kk _ ?_;rw[hn];exact cv
def u9:cz P w base 2 T.mH (uw K):=by
 nomatch T.mH,["repeats","bar","repeat"]
 let⟨p,rs,b,rfl,hp,kk⟩:=h;unfold gO at kk;refine{_,(ae (cu 2 qN (bH (iT T) hr T.eW (aa (pv 0) (aa (pv 1) af))))
  (ag (ak (J3 (mD (bF (pv 2))) (gC (bG aW (pv 1) (cm (pv 2) ai) (cT _))))))),?_}
 ac_rfl;exists p,rs,b,rfl,hp,λv iv=>?_;cases q:jK rs b with
 | none=>
  rw[q] at iv kk;unfold dO Is at iv;subst iv;change kk
 | some r=>
  rw[q] at iv kk;let⟨a,e,rfl,ha,he⟩:=hU iv;left;let e1:decide (V.int b=V.int r.last)=decide (b=r.last):=by simp
  show Q (.bl (decide (V.int b=V.int r.last))) H;rw[e1];exact kk
def lK:cz P w base 2 T.jU (ux K):=by
 nomatch T.jU,["repeats","bar","repeat"]
 let⟨p,rs,b,rfl,hp,kk⟩:=h;unfold cX at kk;refine{_,(ae (cu 2 qN (bH (iT T) hr T.eW (aa (pv 0) (aa (pv 1) af))))
  (ag (ak (J3 (mD (bF (pv 2))) (gC (bG aW (pv 1) (cm (pv 2) ai) (cT _))))))),?_}
 ac_rfl;exists p,rs,b,rfl,hp,λv iv=>?_;cases q:jK rs b with
 | none=>
  rw[q] at iv kk;unfold dO Is at iv;subst iv;change kk
 | some r=>
  rw[q] at iv kk;let⟨a,e,rfl,ha,he⟩:=hU iv;left;let e1:decide (V.int b=V.int r.first)=decide (b=r.first):=by simp
  show Q (.bl (decide (V.int b=V.int r.first))) H;rw[e1];exact kk
def HE (us:List V) (h:us≠[]):¬(HT.cO ⇑us 0 (some 1)=0/\HT.cO ⇑us ⇑us none=⇑us):=by
 rintro⟨h1,_⟩;let hp:0<⇑us:=ye.mpr h;let e:HT.cO ⇑us 0 (some ((1:Nat):Int))=min 1 ⇑us:=by unfold HT.cO;simp
 let e':HT.cO ⇑us 0 (some (1:Int))=min 1 ⇑us:=e;rw[e'] at h1;ext
def ER {K:yo} {H:Hp} {e:wJ} {us:List V} {Q:VK} (hu:H e=some (.tup us)) (k:∀q H1,au H H1->H1 q=some (.tup (us.drop 1))->Q (.ref q) H1):J0 K (.ref e) (some 1) none H Q:=by
 by_cases h:us=[]
 ·subst h
  exact .inr {e,[],rfl,cQ.of hu,{(rfl),rfl},k e H (au.refl H) hu}
 ·refine .inl {e,us,rfl,cQ.of hu,HE us h,?_}
  rw[show f9 us (some 1) none=us.drop 1 from fE us 1];exact laid k
def CO:cz P w base 1 T.vz Cn:=by
 nomatch T.vz,["repeat","ends","behind"]
 let⟨v,r,rfl,iv,hl,kk⟩:=h;let sl:=yp;let⟨a,e,rfl,ha,he⟩:=hU iv;unfold Is at he;let⟨e',us,ee,hu,ilu⟩:=he;cases ee;refine{_,(ae (cu 1 qN (cm (pv 0) ai))
  (ae (cu 2 qN (ay e9 (nO (ts:=["end"]) (ys:=[]) (js:=[]) (te:=(kX (pC K) (cj 0) (tC (.int (0))))) (kD (cE IF (pv 1) (dy ai) dz)) (mC 0) bw (cm (pv 0) ai)) (bx (aa (ay gD (cm (pv 0) ai) ai) af))))
  (ag (ak (nO (ts:=["end","after"]) (ys:=[]) (js:=[]) (g:=(Ll K 2 (Bg (eT 0) (Bg (eT 1) Ln)))) (te:=(Iy (cB (kX (pC K) (cj 0) (tC (.int (0)))) (cB (kX (FQ λi j=>.int (i-j)) (cj 1) (tC (.int (1)))) (cB (kX (pC K) (cj 0) (tC (.int (1)))) j4))))) (GK (by rfl) T.J8 (aa (pv 1) (aa (pv 2) af))) (pF (n:=2) rfl (cV (mC 0) (cV (mC 1) lH))) bw (aZ (aa (cm (pv 0) ai) (aa (ay mE (pv 1) ai) (aa (cm (pv 0) ai) af))))))))),?_}
 ac_rfl;left;let main:∀(q:wJ) (H1:Hp),au H H1->H1 q=some (.tup (us.drop 1))->∀(R:VK),(∀D H2,au H1 H2->H2 D=some (.lst ((r.ends.drop 1).map λx=>V.int x.1))->R (.ref D) H2)->
   c8 [none] (eT 0) ue (kX (pC K) (cj 0) (tC (.int 0))) R (Ke K q) H1:=by
  intro q H1 s1 h1 R hR;let il1:av H ((r.ends.drop 1).map qu) (us.drop 1):=by
   cases re:r.ends with
   | nil=>
    rw[re] at ilu;unfold av at ilu;subst ilu;unfold av;rfl
   | cons x xs=>
    rw[re,zf] at ilu;unfold av at ilu;let⟨u,ur,rfl,_,h2⟩:=ilu;exact h2
  let⟨ps,f1,f2,f3⟩:=om il1;let pl:⇑ps<=1000000:=by
   have:⇑ps=⇑(r.ends.drop 1):=by rw[<-f1,za]
   rw[this,xb];ext
  refine fU (enc:=λz:Sc.End×V=>z.2) (ws:=ps) (λz=>.int z.1.1) (λU=>∃v,U=[v]) () (by rw[f2];exact h1) {(none),rfl} ?_ ?_
  ·rintro z U H6 R' hz s6 ⟨_,rfl⟩ r'
   let⟨a6,q6,ev,h6,h7⟩:=vA (f3 z hz);rw[ev];let h66:=s6 _ _ (s1 _ _ h6);change r' _ _ _ (au.refl _) dS {_,rfl}
  ·intro D vs H6 s6 hD il
   let e5:ps.map (λz=>Dt.int z.1.1)=((r.ends.drop 1).map (·.1)).map Dt.int:=by rw[<-f1,zu,zu];rfl
   rw[e5] at il;rw[gp il,zu] at hD;exact hR D H6 s6 hD
 refine ER hu λq H1 s1 h1=>{q,rfl,{_,cQ.of h1},main q H1 s1 h1 _ λD H2 s2 h2=>?_}
 let ha2:=s2 _ _ (s1 _ _ ha);exists by show 1<=sizeLine;ext,?_
 intros p3 H3 s3 h3;refine{D,p3,_,_,rfl,rfl,aE.of (s3 _ _ h2),aE.of h3,by rw[za,xb];show _+1<=_;ext,?_};intros p4 H4 s4 h4;let s04:=(s1.trans s2).trans (s3.trans s4);let hu4:=s04 _ _ hu;let eb:(List.map (λx=>V.int x.1) (r.ends.drop 1)++[V.int (r.last+1)])=((r.ends.drop 1).map (·.1)++[r.last+1]).map V.int:=by rw[zg,zu];rfl
 rw[eb] at h4;left;let ilu4:=ilu.mono s04;let ul:=aR ilu;refine{true,false,e,p4,us,_,rfl,cQ.of hu4,aE.of h4,?_};generalize hbs:(r.ends.drop 1).map (·.1)++[r.last+1]=bs at h4;let zl:⇑(r.ends.zip bs)=min ⇑r.ends ⇑bs:=xa;refine kO (ws:=r.ends.zip bs) (λz x H'=>∃p u,x=.ref p/\H' p=some (.tup [u,.int z.2])/\Is H' (qu z.1) u) (λz=>Fw (z.1.1,z.2-1,z.1.2)) (λU=>∃u v,U=[u,v]) () {(none),none,rfl} ?_ ?_ ?_ ?_ ?_
 ·intro i H5 hi s5
  let i1:i<⇑us:=()
  let i2:i<⇑(bs.map V.int):=by rw[za];ext
  exact{us,bs.map V.int,us[i],(bs.map V.int)[i],cQ.of (s5 _ _ hu4),aE.of (s5 _ _ h4),zb i1,zb i2}
 ·intro H5 s5
  refine{us,bs.map V.int,cQ.of (s5 _ _ hu4),aE.of (s5 _ _ h4),?_};rw[za];rcases Nat.le_total ⇑r.ends ⇑bs with h | h
  ·exact Or.inl ()
  ·right;ext
 ·rintro i x H5 H6 hi s5 ⟨p,u,v,hp,rfl,rfl,hu',hv'⟩
  let i1:i<⇑r.ends:=()
  let i2:i<⇑bs:=()
  let gu:=hu' us (cQ.of (s5 _ _ hu4));let gv:=hv' (bs.map V.int) (aE.of (s5 _ _ h4));rw[zF,zb i2] at gv;cases gv;let⟨x0,hx0,ix0⟩:=gF (ilu4.mono s5) gu;rw[zb i1] at hx0;cases hx0;refine{cI hp,p,u,rfl,?_,?_}
  ·rw[az,List.getElem_zip]
  ·rw[List.getElem_zip];exact ix0.mono (cI hp)
 ·rintro z x U H5 R hz s5 ⟨p,u,rfl,hp,iu⟩ ⟨_,_,rfl⟩ rr
  let⟨a6,q6,rfl,h6,h7⟩:=vA iu;refine{p,_,rfl,cQ.of hp,rfl,?_};refine{_,_,rfl,_,_,rfl,rfl,?_};left;refine{oV,laid λp7 H7 s7 h7'=>rr _ _ _ s7 ?_ {_,_,rfl}};exact dR h7' (aX dS (aX dS (jz (dR (s7 _ _ h7) vo))))
 ·intro D5 vs5 H5 s5 hD5 il5
  refine kk _ _ _ (s04.trans s5) hD5 ?_;let ee:(gI r).map Fw=(r.ends.zip bs).map λz=>Fw (z.1.1,z.2-1,z.1.2):=by
   unfold gI;rw[hbs,zu];rfl
  rw[ee];exact il5
def Kp {H:Hp} {e:Int×Int×List Int} {v:V} (h:Is H (Fw e) v):∃a q,v=.ref a/\H a=some (.tup [.int e.1,.int e.2.1,.ref q])/\H q=some (.tup (e.2.2.map V.int)):=by
 unfold Fw Is at h;let⟨a,vs,rfl,ha,hl⟩:=h;unfold av at hl;let⟨v1,r1,rfl,h1,hl⟩:=hl;unfold av at hl;let⟨v2,r2,rfl,h2,hl⟩:=hl;unfold av at hl;let⟨v3,r3,rfl,h3,hl⟩:=hl;unfold av at hl;subst hl;unfold Is at h1 h2;subst h1 h2;unfold Em Is at h3;let⟨q,us,rfl,hq,hle⟩:=h3;rw[gp hle] at hq;exact{(a),q,rfl,ha,hq}
noncomputable def qh (r:Rep) (b:Int) (e:Int×Int×List Int):Bool:=decide (e.1<=b)&&decide (b<=e.2.1)&&!decide (r.times∈e.2.2)
def Fg (rs:List Rep) (b:Int):kF rs b=rs.all λr=>(gI r).all λe=>!qh r b e:=rfl
theorem tK:∀ns:List Int,(ns.map V.int).all jC=true
 | []=>rfl
 | n::ns=>by rw[zf,wd,tK ns];rfl
def iV:cz P w base 2 T.fg (nJ K):=by
 nomatch T.fg,["repeats","bar","repeat","end"]
 let⟨p,rs,b,rfl,⟨vs,hp,il⟩,hl,kk⟩:=h;rw[Fg] at kk;refine{_,(ae (jj yD rfl (cx (pv 0)) (FR 2 qN)
  (ag (jj yD rfl (cx (bH (CO T) hr T.vz (aa (pv 2) af))) (FR 3 qN)
   (ag (ax (PW.pt (fK (ptr lJ (cm (pv 3) ai) (pv 1)) (fK (ptr lJ (pv 1) (cm (pv 3) ai)) (ei (jO dA (cm (pv 2) ai) (cm (pv 3) ai) (by with_unfolding_all rfl))))))
    (ag (ak iP))
    ao)))))
  (ag (ak iP))),?_}
 ac_rfl;exists{_,hp},?_;refine lT (K:=K) (a:=p) (xs:=vs) (λi U H'=>au H H'/\(rs.take i).all (λr=>(gI r).all λe=>!qh r b e)=true/\∃v u,U=[some (.ref p),some (.int b),v,u]) {au.refl H,rfl,none,none,rfl} (λi U H' _ h=>h.1.seq hp) ?_ ?_
 ·intro i x U H' hx hh
  refine l9 λN kN0 kR0 _ _=>?_;let⟨s1,hn,v,u,rfl⟩:=hh;let⟨r,hr',hi⟩:=gF il hx;let hm:=zv hr';exists _,r,rfl,hi.mono s1,hl r hm,λD us H2 s2 hD ilD=>?_;refine{D,rfl,{_,aE.of hD},?_};let⟨a,e,rfl,ha,he⟩:=hU (hi.mono (s1.trans s2));refine lT (K:=K) (a:=D) (xs:=us) (λj U H'=>H'=H2/\((gI r).take j).all (λe=>!qh r b e)=true/\∃u,U=[some (.ref p),some (.int b),some (.ref a),u]) {rfl,rfl,_,rfl} (λj U H' _ h=>by rw[h.1];exact aE.of hD) ?_ ?_
  ·intro j y U H3 hy hh
   refine l9 λN kN1 kR1 _ _=>?_;let⟨rfl,hnj,u',rfl⟩:=hh;let⟨t,ht,it⟩:=gF ilD hy;let⟨a6,q6,rfl,h6,h7⟩:=Kp it;let good:qh r b t=false->((gI r).take (j+1)).all (λe=>!qh r b e)=true:=λz=>by
    rw[jH ht,List.all_append,hnj,yJ];simp[z]
   left
   by_cases c1:t.1<=b
   ·refine bq (zd c1) ?_
    left
    by_cases c2:b<=t.2.1
    ·refine bq (zd c2) ?_
     exists q6,t.2.2.map V.int,rfl,.inr (cQ.of h7),rfl,tK _,?_;show∃k,V.bl (!FT (.int r.times) (t.2.2.map V.int))=.bl k/\_;rw[qd]
     by_cases c3:r.times∈t.2.2
     ·rw[zd c3]
      change{good (by unfold qh;rw[zd c3];simp),_,rfl}
     ·rw[zc c3]
      left;let z:=kk H3 (s1.trans s2);let e0:(rs.all λr=>(gI r).all λe=>!qh r b e)=false:=by
       rw[List.all_eq_false];refine{r,hm,?_};have:((gI r).all λe=>!qh r b e)=false:=by
        rw[List.all_eq_false];exact{t,zv ht,by unfold qh;simp[c1,c2,c3]}
       rw[this];decide
      rw[e0] at z;exact z
    ·refine bt (zc c2) ?_
     change{good (by unfold qh;rw[zc c2];simp),_,rfl}
   ·refine bt (zc c1) ?_
    change{good (by unfold qh;rw[zc c1];simp),_,rfl}
  ·rintro U H3 ⟨rfl,hnj,u',rfl⟩
   rw[aR ilD,zI] at hnj;left;refine{s1.trans s2,?_,_,_,rfl};rw[jH hr',List.all_append,hn,yJ];simp[hnj]
 ·rintro U H' ⟨s1,hn,v,u,rfl⟩
  rw[aR il,zI] at hn;left;let z:=kk H' s1;rw[hn] at z;exact z
inductive uz (K:yo) (vs:List V) (H:Hp) (Q:VK) (E:XK):Prop
 | mk (p:wJ) (rs:List Rep) (a c:Int) (_:vs=[.ref p,.int a,.int c]) (_:sH K H p rs) (_:(∀r∈rs,⇑r.ends<=1000000)) (_:∀H',au H H'->Q (.bl (decide (a<c)&&cX rs c&&kF rs c)) H')
inductive uy (K:yo) (vs:List V) (H:Hp) (Q:VK) (E:XK):Prop
 | mk (p:wJ) (rs:List Rep) (v:V) (j:Jump) (_:vs=[.ref p,v]) (_:sH K H p rs) (_:(∀r∈rs,⇑r.ends<=1000000)) (_:Is H (kg j) v) (_:∀H',au H H'->Q (.bl (lP rs j)) H')
def oj {H:Hp} {j:Jump} {v:V} (h:Is H (kg j) v):∃a,v=.ref a/\H a=some (.tup [.int j.Bd,.int j.CZ,.int j.df,ov j.kP]):=by
 unfold kg Is at h;let⟨a,vs,rfl,ha,hl⟩:=h;unfold av at hl;let⟨v1,r1,rfl,h1,hl⟩:=hl;unfold av at hl;let⟨v2,r2,rfl,h2,hl⟩:=hl;unfold av at hl;let⟨v3,r3,rfl,h3,hl⟩:=hl;unfold av at hl;let⟨v4,r4,rfl,h4,hl⟩:=hl;unfold av at hl;subst hl;unfold Is at h1 h2 h3;subst h1 h2 h3;refine{a,rfl,?_};cases q:j.kP with
 | none=>rw[q] at h4;unfold dO Is at h4;subst h4;exact ha
 | some n=>rw[q] at h4;unfold dO Is at h4;subst h4;exact ha
def vb:cz P w base 3 T.mS (uz K):=by
 nomatch T.mS,["repeats","at","coda"]
 let⟨p,rs,a,c,rfl,hp,hl,kk⟩:=h;refine{_,(ag (ak (fN (bG gN (pv 1) (pv 2) (cT _)) (fN (bH (lK T) hr T.jU (aa (pv 0) (aa (pv 2) af))) (gC (bH (iV T) hr T.fg (aa (pv 0) (aa (pv 2) af)))))))),?_};ac_rfl;left
 by_cases c1:a<c
 ·rw[zd c1,yJ] at kk
  refine bq (zd c1) ?_;exists p,rs,c,rfl,hp,?_;cases q:cX rs c with
  | true=>
   rw[q,yJ] at kk;change{(p),rs,c,rfl,hp,hl,kk}
  | false=>
   rw[q,yH] at kk;change kk _ (au.refl _)
 ·rw[zc c1,yH,yH] at kk
  refine bt (zc c1) ?_;change kk _ (au.refl _)
def va:cz P w base 4 T.mL (uy K):=by
 nomatch T.mL,["repeats","jump","at","to","until","coda"]
 let⟨p,rs,v,j,rfl,hp,hl,iv,kk⟩:=h;let⟨a,rfl,ha⟩:=oj iv;unfold lP at kk;refine{_,(ae (cu 2 qN (cm (pv 1) ai))
  (ae (cu 3 qN (cm (pv 1) ai))
  (ae (cu 4 qN (cm (pv 1) ai))
  (ae (cu 5 qN (cm (pv 1) ai))
  (ae (ax (PW.pt (cP (ptr gN (pv 4) (pv 3)) (b7 (ptr gN (pv 2) (pv 4)))))
  (ag (ak iP))
  ao)
  (ae (ax (PW.pt (fK (aV (ib (pv 5))) (ei (de (bA (bH (vb T) hr T.mS (aa (pv 0) (aa (pv 2) (aa (pv 5) af)))))))))
  (ag (ak iP))
  ao)
  (ag (ak (fN (bH (u9 T) hr T.mH (aa (pv 0) (aa (pv 2) af))) (fN (bH (lK T) hr T.jU (aa (pv 0) (aa (pv 3) af))) (gC (bH (iV T) hr T.fg (aa (pv 0) (aa (pv 4) af)))))))))))))),?_}
 ac_rfl;left
 by_cases c1:j.df<j.CZ
 ·refine bq (zd c1) ?_
  simp only[yC c1] at kk;change kk _ (au.refl _)
 ·refine bt (zc c1) ?_
  simp only[yB c1] at kk;left
  by_cases c2:j.Bd<j.df
  ·refine bq (zd c2) ?_
   simp only[yC c2] at kk;change kk _ (au.refl _)
  ·refine bt (zc c2) ?_
   simp only[yB c2] at kk;left;cases q:j.kP with
   | none=>
    rw[q] at kk;exists p,rs,_,rfl,hp,?_;cases q1:gO rs j.Bd with
    | false=>
     rw[q1] at kk;change kk _ (au.refl _)
    | true=>
     rw[q1] at kk;exists p,rs,_,rfl,hp,?_;cases q2:cX rs j.CZ with
     | false=>
      rw[q2] at kk;change kk _ (au.refl _)
     | true=>
      rw[q2] at kk;change{p,rs,_,rfl,hp,hl,kk}
   | some n=>
    rw[q] at kk;exists p,rs,_,_,rfl,hp,hl,λH1 s1=>?_;cases q0:(decide (j.Bd<n)&&cX rs n&&kF rs n) with
    | false=>
     simp only[q0] at kk;change kk _ s1
    | true=>
     simp only[q0,yJ] at kk;exists p,rs,_,rfl,hp.mono s1,?_;cases q1:gO rs j.Bd with
     | false=>
      rw[q1] at kk;change kk _ s1
     | true=>
      rw[q1] at kk;exists p,rs,_,rfl,hp.mono s1,?_;cases q2:cX rs j.CZ with
      | false=>
       rw[q2] at kk;change kk _ s1
      | true=>
       rw[q2] at kk;change{p,rs,_,rfl,hp.mono s1,hl,λH2 s2=>kk _ (s1.trans s2)}
def sR {l ns:List Int} (h1:ns.Perm l) (h2:ns.Pairwise (·<=·)):ns=sortI l:=by
 unfold sortI;refine List.Perm.eq_of_pairwise (le:=λa b:Int=>a<=b) (λa b _ _ x y=>Int.le_antisymm x y) h2 ?_ (h1.trans (List.mergeSort_perm _ _).symm);have:=List.pairwise_mergeSort (le:=λa b:Int=>decide (a<=b)) (λa b c x y=>by simp at x y ⊢;ext) (λa b=>by simp;ext) l;exact this.imp λh=>by simpa using h
noncomputable def B6:List Sc.End->Nat
 | []=>0
 | e::r=>⇑e.2+B6 r
def Kq {es:List Sc.End} {e:Sc.End} (h:e∈es):⇑e.2<=B6 es:=by
 induction es with
 | nil=>cases h
 | cons x r ih=>
  rcases zw.mp h with rfl | h
  ·unfold B6;ext
  ·have:=ih h;unfold B6;ext
def F9 {a b:List Int}:(decide (a.map V.int=b.map V.int))=decide (a=b):=by
 by_cases h:a=b
 ·subst h;simp
 ·rw[zc h,zc]
  intro z;have:∀{a b:List Int},a.map V.int=b.map V.int->a=b:=by
   intro a
   induction a with
   | nil=>intro b z;cases b with | nil=>rfl | cons _ _=>cases z
   | cons x r ih=>intro b z;cases b with | nil=>cases z | cons y s=>simp at z;rw[z.1,ih (by simpa using z.2)]
  exact h (this z)
theorem lG:∀ns:List Int,(ns.map V.int).all J1=true
 | []=>rfl
 | n::ns=>by rw[zf,wd,lG ns];rfl
def Br {e:Sc.End} {r:List Sc.End} {a:Int} {ps:List Int} (h1:¬e.1<=a) (h2:e.2=sortI e.2):fS (e::r) a ps=fS r e.1 (ps++e.2):=by
 show(if e.1<=a then none else if e.2≠sortI e.2 then none else fS r e.1 (ps++e.2))=_;rw[yB h1,yB (λz=>z h2)]
def tN {e:Sc.End} {r:List Sc.End} {a:Int} {ps:List Int} (h:e.1<=a\/e.2≠sortI e.2):fS (e::r) a ps=none:=by
 show(if e.1<=a then none else if e.2≠sortI e.2 then none else fS r e.1 (ps++e.2))=_;rcases h with h | h
 ·rw[yC h]
 ·rw[yC h];split <;> rfl
def JC {α:Type} {l:List α} {i:Nat} {x:α} (h:l[i]?=some x):l.drop i=x::l.drop (i+1):=by
 let⟨hi,rfl⟩:=zr.mp h;exact List.drop_eq_getElem_cons hi
inductive mZ (vs:List V) (H:Hp) (Q:VK) (E:XK):Prop
 | mk (v:V) (r:Rep) (_:vs=[v]) (_:Is H (j6 r) v) (_:B6 r.ends<64) (_:-1000000<=r.times) (_:r.times<=1000000) (_:∀H',au H H'->Q (.bl (gr r)) H')
def AZ:cz P w base 1 T.qg mZ:=by
 nomatch T.qg,["repeat","ends","ahead","passes","end"]
 let⟨v,r,rfl,iv,ht,t0,t1,kk⟩:=h;let sl:=yp;let⟨a,e,rfl,ha,he⟩:=hU iv;unfold Is at he;let⟨e',us,ee,hu,ilu⟩:=he;cases ee;let ul:=aR ilu;refine{_,(ae (cu 1 qN (cm (pv 0) ai))
  (ae (ax (ptr aW (dJ aw T.bp (aa (pv 1) af)) ai)
  (ag (ak iP))
  ao)
  (ae (cu 2 qN (ay mE (cm (pv 0) ai) ai))
  (ae (cu 3 qN (bx af))
  (ae (jj yD rfl (kD (pv 1)) (FR 4 qN)
  (ae (ax (PW.pt (cP (ptr lJ (cm (pv 4) ai) (pv 2)) (b7 (ptr (GU hr.units) (AN vS T.vi (aa (cm (pv 4) ai) af)) (dJ l3 T.A5 (aa (cm (pv 4) ai) af))))))
   (ag (ak iP))
   ao)
   (ae (cu 2 qN (cm (pv 4) ai))
   (ag (ia (fM yq PySem.F.slot_list_extend PySem.F.type_list_extend CU (pv 3) (aa (cm (pv 4) ai) af)))))))
  (ag (ak (fN (bG lJ (pv 2) (cm (pv 0) ai) (cT _)) (gC (bG (K3 hr.units) (dJ l3 T.A5 (aa (pv 3) af)) (GP rfl (by rfl) T.vi (by rfl) T.lM (aa ai (aa (ay gD (cm (pv 0) ai) ai) af))) (cT _))))))))))),?_}
 ac_rfl;exists e,_,rfl,.inr (cQ.of hu),?_;rw[ul];left
 by_cases h0:⇑r.ends=0
 ·refine bq (by rw[h0];rfl) ?_
  left;let e0:gr r=true:=by
   unfold gr;rw[yf.mp h0]
  rw[e0] at kk;exact kk _ (au.refl _)
 ·refine bt (zc λz=>h0 (by have:=V.int.inj z;ext)) ?_
  let ef:gr r=(match fS r.ends (r.first-1) [] with | none=>false | some (a,ps)=>decide (a<=r.last)&&decide (sortI ps=KQ 1 (r.times+1-1).toNat)):=by
   unfold gr;cases q:r.ends with
   | nil=>rw[q] at h0;exact absurd rfl h0
   | cons x xs=>rfl
  rw[ef] at kk;exists by show 0<=sizeLine;ext,?_
  intro pp hn;generalize hG:upd _ pp _=H1;let s1:=au.vd hG hn;let h1:=v5 hG;clear hG;exists{_,cQ.of (s1 _ _ hu)},?_;refine Js (K:=K) (a:=e) (xs:=us) (λi U H'=>au H H'/\∃(z:Int) (ps:List Int) (u:Option V),U=[some (.ref a),some (.ref e),some (.int z),some (.ref pp),u]/\H' pp=some (.lst (ps.map V.int))/\⇑ps+B6 (r.ends.drop i)=B6 r.ends/\fS r.ends (r.first-1) []=fS (r.ends.drop i) z ps) {s1,_,[],none,rfl,h1,by simp,rfl} (λi U H' _ h=>cQ.of (h.1 _ _ hu)) ?_ ?_
  ·intro i x U H2 hx hh
   refine l9 λN kN0 kR0 _ _=>?_;let⟨s2,z,ps,u,rfl,h2,hc,hgo⟩:=hh;let⟨en,hen,ien⟩:=gF ilu hx;let⟨a6,q6,rfl,h6,h7⟩:=vA (ien.mono s2);let hle:=Kq (zv hen);rw[JC hen] at hgo hc;rw[show B6 (en::List.drop (i+1) r.ends)=⇑en.2+B6 (List.drop (i+1) r.ends) from rfl] at hc;left
   by_cases c1:en.1<=z
   ·refine bq (zd c1) ?_
    rw[hgo,tN (.inl c1)] at kk;change kk _ s2
   ·refine bt (zc c1) ?_
    exists q6,_,rfl,.inr (cQ.of h7),?_;intros p8 H8 s8 h8;let h68:=s8 _ _ h6;let h78:=s8 _ _ h7;exists q6,en.2,rfl,.inr (cQ.of h78),(),λns np ns'=>?_;intros p9 H9 s9 h9;let h69:=s9 _ _ h68;let h79:=s9 _ _ h78;let h29:=s9 _ _ (s8 _ _ h2);rw[sR np ns'] at h9;refine{p8,p9,_,_,rfl,rfl,.inl {aE.of (s9 _ _ h8),aE.of h9},.inr (.inr {lG _,lG _}),?_};rw[F9]
    by_cases c2:en.2=sortI en.2
    ·rw[zd c2]
     rw[Br c1 c2] at hgo;exists .inl {rfl,_,aE.of h29},?_;left;refine .inr {pp,q6,_,_,rfl,rfl,h29,h79,by rw[za,za];ext,?_};left;let s29:=(s2.trans s8).trans s9;refine{λb o hb=>?_,en.1,ps++en.2,_,rfl,by rw[az,zg],by rw[ze];ext,hgo};let ne:b≠pp:=λz=>by rw[z,hn] at hb;cases hb
     rw[aq ne];exact s29 b o hb
    ·rw[zc c2]
     rw[hgo,tN (.inr c2)] at kk;change kk _ ((s2.trans s8).trans s9)
  ·rintro U H2 ⟨s2,z,ps,u,rfl,h2,hc,hgo⟩
   rw[ul,List.drop_length] at hgo hc;rw[hgo] at kk;let ha2:=s2 _ _ ha;unfold fS at kk;simp only at kk;rw[show B6 []=0 from rfl] at hc;left
   by_cases c1:z<=r.last
   ·rw[zd c1,yJ] at kk
    refine bq (zd c1) ?_;exists pp,ps,rfl,.inl (aE.of h2),(),λns np ns'=>?_;intros p9 H9 s9 h9;rw[sR np ns'] at h9;let ha9:=s9 _ _ ha2;exists 1,r.times+1,rfl,{∅,(by decide),(),()},(),?_;intros p10 H10 s10 h10;refine{p9,p10,_,_,rfl,rfl,.inl {aE.of (s10 _ _ h9),aE.of h10},.inr (.inr {lG _,lG _}),?_};rw[F9];exact kk _ ((s2.trans s9).trans s10)
   ·rw[zc c1,yH] at kk
    refine bt (zc c1) ?_;exact kk _ s2
def Eu {xs:List V} {x:V} (h:xs[⇑xs-1]?=some x):tV xs (-1)=some x:=by
 let hp:0<⇑xs:=by
  have:=(zr.mp h).1;ext
 let ne:xs≠[]:=ye.mp hp;let e:=xy ne;let e2:xs.getLast ne=x:=by
  have:=(zr.mp h).2;rw[List.getLast_eq_getElem];exact this
 rw[<-e,e2];exact L2.BN _ _
inductive oR (K:yo) (vs:List V) (H:Hp) (Q:VK) (E:XK):Prop
 | mk (p:wJ) (rs:List Rep) (v:V) (r:Rep) (_:vs=[.ref p,v]) (_:sH K H p rs) (_:Is H (j6 r) v) (_:B6 r.ends<64) (_:-1000000<=r.times) (_:r.times<=1000000) (_:∀H',au H H'->Q (.bl (d5 rs r)) H')
def pK:cz P w base 2 T.ji (oR K):=by
 nomatch T.ji,["repeats","repeat"]
 let⟨p,rs,v,r,rfl,⟨vs,hp,il⟩,iv,ht,t0,t1,kk⟩:=h;let⟨a,e,rfl,ha,he⟩:=hU iv;let vl:=aR il;let tail:(∀H',au H H'->Q (.bl (decide (r.first<=r.last)&&gr r)) H')->(if decide (r.first<=r.last)=true then gd mZ [] E0 (cB (cj 1) j4) [some (.ref p),some (.ref a)] H Q else Q (.bl false) H):=by
  intro k
  by_cases c:r.first<=r.last
  ·rw[zd c,yJ] at k
   refine bq (zd c) ?_;exact{_,rfl,_,r,rfl,iv,ht,t0,t1,k}
  ·rw[zc c,yH] at k
   refine bt (zc c) ?_;exact k _ (au.refl _)
 refine{_,(ae (ax (PW.pt (fK (ptr iQ (dJ aw T.bp (aa (pv 0) af)) ai) (ei (ptr lJ (cm (pv 1) ai) (cm (fB (pv 0) (sV md ai)) ai)))))
  (ag (ak iP))
  ao)
  (ag (ak (fN (bG lJ (cm (pv 1) ai) (cm (pv 1) ai) (cT _)) (gC (bH (AZ T) hr T.qg (aa (pv 1) af))))))),?_}
 ac_rfl;exists p,_,rfl,.inl hp,?_;rw[vl];left
 by_cases h0:0<⇑rs
 ·refine bq (zd ()) ?_
  let hi:⇑rs-1<⇑vs:=()
  let⟨q,hq,iq⟩:=gF il (zb hi);let⟨b,eb,evb,hb,_⟩:=hU iq;let eg:rs.getLast?=some q:=by rw[xJ];exact hq
  unfold d5 at kk;rw[eg] at kk;left;refine{p,vs,-1,_,rfl,rfl,hp,Eu (by rw[vl];exact zb hi),?_};rw[evb];left
  by_cases c:r.first<=q.last
  ·refine bq (zd c) ?_
   simp only[yC c] at kk;change kk _ (au.refl _)
  ·refine bt (zc c) ?_
   simp only[yB c] at kk;change tail kk
 ·refine bt (zc ()) ?_
  let e0:rs=[]:=yf.mp ();unfold d5 at kk;rw[e0] at kk;change tail kk
def Ez (x:Sc.FY):Prop:=0<=x.bM.1/\x.bM.1<=1000/\0<x.bM.2/\x.bM.2<=1000
inductive OY (C:wJ) (H:Hp) (a:wJ) (o:Ow):Prop
 | mk (ub jm:V) (_:H a=some (.ins C o.dx (II o ub jm)))
structure NK (C:wJ) (H:Hp) (a:wJ) (S:bZ) (o:Ow):Prop where
 obj:OY C H a o
 ba:FN H qv o.ba S.bars
def NK.of {C a:wJ} {H:Hp} {S:bZ} {o:Ow} (h:aY C H a S o):NK C H a S o:={by let⟨ub,jm,h1,_⟩:=h.obj;exact{(ub),jm,h1},h.ba}
inductive nG (C:wJ) (vs:List V) (H:Hp) (Q:VK) (E:XK):Prop
 | mk (a:wJ) (S:bZ) (o:Ow) (b:Nat) (_:vs=[.ref a,.int b]) (_:NK C H a S o) (_:b<⇑S.bars) (_:(∀x∈S.bars,Ez x)) (_:∀p H',au H H'->H' p=some (l6 (S.bM b))->Q (.ref p) H')
def LI {H:Hp} {b:Sc.FY} {v:V} (h:Is H (qv b) v):∃a m q,v=.ref a/\H a=some (.tup [.ref m,.int b.key,.ref q])/\H m=some (l6 b.bM):=by
 unfold qv Is at h;let⟨a,vs,rfl,ha,hl⟩:=h;unfold av at hl;let⟨v1,r1,rfl,h1,hl⟩:=hl;unfold av at hl;let⟨v2,r2,rfl,h2,hl⟩:=hl;unfold av at hl;let⟨v3,r3,rfl,h3,hl⟩:=hl;unfold av at hl;subst hl;unfold Is at h2;subst h2;unfold kf Is at h3;let⟨q,us,rfl,hq,hle⟩:=h3;have:=pH (o:=some b.bM) h1;cases this with
 | ref hm=>exact{a,_,q,rfl,ha,hm}
def iU {C:wJ} (F:Cf K C):cz P w base 3 T.fe (nG C):=by
 nomatch T.fe,["score","bar","metre"]
 let⟨a,S,o,b,rfl,sc,hb,aP,kk⟩:=h;let⟨ub,jm,ho⟩:=sc.obj;let⟨vs,hv,il⟩:=sc.ba;let hi:b<⇑vs:=by rw[aR il];exact hb
 let⟨x,hx,ix⟩:=gF il (zb hi);let⟨a1,m,q,ev,h1,hm⟩:=LI ix;let⟨k1,k2,k3,k4⟩:=aP x (zv hx);unfold bZ.bM at kk;rw[hx] at kk;refine{_,(ae (cu 2 qN (cm (fB (aL (pv 0) rfl) (pv 1)) ai))
  (ag (ak (bH (fP T) hr T.cF (aa (cm (pv 2) ai) (aa (cm (pv 2) ai) af)))))),?_}
 ac_rfl;exists a,C,o.dx,_,_,rfl,ho,F.cls,F.bars,rfl,?_;left;refine{o.ba,vs,b,_,rfl,rfl,aE.of hv,aS (zb hi),?_};rw[ev];change{_,_,rfl,k1,k3,(dr (n:=10) () ()).mono ∅,λp H' s' h'=>kk p H' s' h'}
inductive oQ (C:wJ) (vs:List V) (H:Hp) (Q:VK) (E:XK):Prop
 | mk (a:wJ) (S:bZ) (o:Ow) (b:Nat) (_:vs=[.ref a,.int b]) (_:aY C H a S o) (_:b<⇑S.bars) (_:(∀x∈S.bars,Ez x)) (_:∀p H',au H H'->H' p=some (l6 (S.len b))->Q (.ref p) H')
def pI {C:wJ} (F:Cf K C):cz P w base 4 T.ja (oQ C):=by
 nomatch T.ja,["score","bar"]
 let⟨a,S,o,b,rfl,sc,hb,aP,kk⟩:=h;let⟨ub,jm,ho,hub,hjm⟩:=sc.obj;unfold bZ.len at kk;refine{_,(ae (ax (PW.pt (fK (ptr aW (pv 1) ai) (ei (aV (ib (aL (pv 0) rfl))))))
  (ag (ak (aL (pv 0) rfl)))
  ao)
  (ag (ak (bH (iU T F) hr T.fe (aa (pv 0) (aa (pv 1) af)))))),?_}
 ac_rfl;left
 by_cases c:b=0
 ·refine bq (by rw[c];rfl) ?_
  exists a,C,o.dx,_,_,rfl,ho,F.cls,F.aI,rfl,?_;cases q:S.aI with
  | none=>
   rw[q] at kk hub;unfold dO Is at hub;subst hub;change{a,S,o,b,rfl,.of sc,hb,aP,kk}
  | some u=>
   rw[q] at kk hub;cases pH (o:=some u) hub with
   | ref hu=>
    exists a,C,o.dx,_,_,rfl,ho,F.cls,F.aI,rfl,?_;refine kk _ _ (au.refl _) ?_;simp only[yC c];exact hu
 ·refine bt (zc λz=>c (by have:=V.int.inj z;ext)) ?_
  left;refine{a,S,o,b,rfl,.of sc,hb,aP,λp H' s' h'=>kk p H' s' ?_};cases q:S.aI with
  | none=>exact h'
  | some u=>simp only[yB c];exact h'
theorem gQ (n:Str):∀ns:List Str,FT (.str n) (ns.map V.str)=decide (n∈ns)
 | []=>rfl
 | m::ns=>by
  let ih:=gQ n ns;unfold FT at ih ⊢;rw[zf,y3,ih]
  by_cases e:n=m
  ·subst e
   simp[Fm]
  ·let e':¬m=n:=λz=>e z.symm
   simp[Fm,e,e']
theorem fC:∀ns:List Str,(ns.map V.str).all jC=true
 | []=>rfl
 | n::ns=>by rw[zf,wd,fC ns];rfl
inductive cU (C:wJ) (D:Hp->V->bZ->Option Str->Prop) (vs:List V) (H:Hp) (Q:VK) (E:XK):Prop
 | mk (a:wJ) (S:bZ) (o:Ow) (v:V) (f:Option Str) (_:vs=[.ref a,v]) (_:aY C H a S o) (_:D H v S f) (_:∀H',au H H'->Q (os f) H')
def iL (C:wJ):Sp:=cU C λ_ v S f=>∃n,v=.str n/\f=fault S (.aM n)
def nS {C:wJ} (F:Cf K C):cz P w base 1 T.eY (iL C):=by
 nomatch T.eY,["score","player"]
 let⟨a,S,o,v,f,rfl,sc,⟨n,rfl,rfl⟩,kk⟩:=h;let⟨ub,jm,ho,hub,hjm⟩:=sc.obj;let k:=kk H (au.refl H);unfold fault at k;dsimp only at k;refine{_,(ae (ax (jO tf (pv 1) (aL (pv 0) rfl) (by with_unfolding_all rfl))
  (ag (ak ar))
  ao)
  (ae (ax (ptr AO (dJ aw T.bp (aa (aL (pv 0) rfl) af)) (aK (v:=.int (12)) (by rfl) T.qB {_,rfl}))
  (ag (ak ar))
  ao)
  (ag (ak aD)))),?_}
 ac_rfl;exists a,C,o.dx,_,_,rfl,ho,F.cls,F.players,rfl,?_;refine{o.pl,_,rfl,.inl (aE.of sc.pl),rfl,fC _,?_};show∃k,V.bl (FT (.str n) (S.players.map V.str))=.bl k/\_;rw[gQ]
 by_cases c1:n∈S.players
 ·rw[zd c1]
  rw[yC c1] at k;change k
 ·rw[zc c1]
  rw[yB c1] at k;exists a,C,o.dx,_,_,rfl,ho,F.cls,F.players,rfl,?_;exists o.pl,_,rfl,.inl (aE.of sc.pl),?_;rw[za];left
  by_cases c2:12<=⇑S.players
  ·refine bq (zd ()) ?_
   rw[yC c2] at k;change k
  ·refine bt (zc ()) ?_
   rw[yB c2] at k;change k
def lq (C:wJ):Sp:=cU C λ_ _ S f=>∃b,f=fault S (.bar b)
def vc {C:wJ} (F:Cf K C):cz P w base 1 T.j1 (lq C):=by
 nomatch T.j1,["score","told"]
 let⟨a,S,o,v,f,rfl,sc,⟨b,rfl⟩,kk⟩:=h;let⟨ub,jm,ho,hub,hjm⟩:=sc.obj;let⟨vs,hv,il⟩:=sc.ba;let vl:=aR il;let k:=kk H (au.refl H);unfold fault at k;dsimp only at k;refine{_,(ae (ax (ptr AO (dJ aw T.bp (aa (aL (pv 0) rfl) af)) (aK (v:=.int (200)) (by rfl) T.BL {_,rfl}))
  (ag (ak ar))
  ao)
  (ag (ak aD))),?_}
 ac_rfl;exists a,C,o.dx,_,_,rfl,ho,F.cls,F.bars,rfl,?_;exists o.ba,_,rfl,.inl (aE.of hv),?_;rw[vl];left
 by_cases c2:200<=⇑S.bars
 ·refine bq (zd ()) ?_
  rw[yC c2] at k;change k
 ·refine bt (zc ()) ?_
  rw[yB c2] at k;change k
theorem kZ (n:Str):∀{ks:List Str} {vs:List V},⇑vs=⇑ks->(cR ((ks.map kS).zip vs) (kS n)).isSome=decide (n∈ks)
 | [],_,_=>by simp[cR]
 | k::ks,[],h=>by simp at h
 | k::ks,v::vs,h=>by
  let ih:=kZ n (ks:=ks) (vs:=vs) (by simpa using h);rw[zf,yK];unfold cR at ih ⊢;rw[yG]
  by_cases e:k=n
  ·subst e
   simp
  ·let e1:¬kS k=kS n:=λz=>e (we z)
   let e2:¬n=k:=λz=>e z.symm;simp only[e1,decide_false] at ih ⊢;rw[ih];simp[e2]
def eR (C:wJ):Sp:=cU C λH v S f=>∃x,Is H (kM x) v/\f=fault S (.bB x.1 x.2.1 x.2.2)
def Be {H:Hp} {x:Str×(Int×Int)×(Int×Int)} {v:V} (h:Is H (kM x) v):∃a t l,v=.ref a/\H a=some (.tup [.str x.1,t,l])/\Is H (dL x.2.1) t/\Is H (dL x.2.2) l:=by
 unfold kM Is at h;let⟨a,vs,rfl,ha,hl⟩:=h;unfold av at hl;let⟨v1,r1,rfl,h1,hl⟩:=hl;unfold av at hl;let⟨v2,r2,rfl,h2,hl⟩:=hl;unfold av at hl;let⟨v3,r3,rfl,h3,hl⟩:=hl;unfold av at hl;subst hl;unfold Is at h1;subst h1;exact{(a),v2,v3,rfl,ha,h2,h3}
def j5 {C:wJ} (F:Cf K C):cz P w base 1 T.cL (eR C):=by
 nomatch T.cL,["score","told"]
 let⟨a,S,o,v,f,rfl,sc,⟨x,iv,rfl⟩,kk⟩:=h;let⟨ub,jm,ho,hub,hjm⟩:=sc.obj;let⟨vs,hv,il⟩:=sc.ins;let⟨a1,t,l,rfl,h1,_,_⟩:=Be iv;let vl:=aR il;let em:(S.instruments.map λx=>kS x.1)=(S.instruments.map (·.1)).map kS:=by rw[zu];rfl
 let k:=kk H (au.refl H);unfold fault at k;dsimp only at k;refine{_,(ae (ax (aV (CM (iX hr) (cm (pv 1) ai) (aL (pv 0) rfl)))
  (ag (ak ar))
  ao)
  (ae (ax (ptr AO (dJ qy T.bp (aa (aL (pv 0) rfl) af)) (aK (v:=.int (12)) (by rfl) T.kQ {_,rfl}))
  (ag (ak ar))
  ao)
  (ag (ak aD)))),?_}
 ac_rfl;exists a,C,o.dx,_,_,rfl,ho,F.cls,F.instruments,rfl,?_;refine{o.ins,_,rfl,.inl {_,kS x.1,.inl hv,rfl,rfl},?_};rw[em,kZ x.1 (by rw[za];exact vl)];left
 by_cases c1:x.1∈S.instruments.map (·.1)
 ·rw[zd c1]
  rw[yC c1] at k;change k
 ·rw[zc c1]
  rw[yB c1] at k;exists a,C,o.dx,_,_,rfl,ho,F.cls,F.instruments,rfl,?_;exists o.ins,_,rfl,hv,?_;rw[xa,za,vl,Nat.min_self];left
  by_cases c2:12<=⇑S.instruments
  ·refine bq (zd ()) ?_
   rw[yC c2] at k;change k
  ·refine bt (zc ()) ?_
   rw[yB c2] at k;change k
inductive Aj (K:yo) (C:wJ) (vs:List V) (H:Hp) (Q:VK) (E:XK):Prop
 | mk (a p:wJ) (S:bZ) (o:Ow) (bs:List Int) (_:vs=[.ref a,.ref p]) (_:aY C H a S o) (_:aE K H p (bs.map V.int)) (_:⇑bs<=1000000) (_:∀H',au H H'->Q (.bl (S.has bs)) H')
def gm {C:wJ} (F:Cf K C):cz P w base 1 T.gR (Aj K C):=by
 nomatch T.gR,["score","bars"]
 let⟨a,p,S,o,bs,rfl,sc,hp,hl,kk⟩:=h;let sl:=yp;refine{_,(ag (ak (dJ (gW rfl) T.A7 (aa (nO (ts:=["bar"]) (ys:=["score"]) (js:=[0]) (te:=(kX (FQ λi j=>.bl (decide (i<j))) (cj 0) (JT (OE K) (cB (IC K (cj 1) "bars") j4)))) (cx (pv 1)) (mC 0) bw (bG gN (pv 0) (dJ aw T.bp (aa (aL (pv 1) rfl) af)) (cT _))) af)))),?_};ac_rfl;exists{_,hp},?_;refine dk (enc:=V.int) (ws:=bs) (λz=>.bl (decide (z<(⇑S.bars:Int)))) (λU=>∃v,U=[v,some (.ref a)]) () hp {(none),rfl} ?_ ?_
 ·rintro z U H1 R hz s1 ⟨_,rfl⟩ r
  let sc1:=sc.mono s1;let⟨ub,jm,ho,hub,hjm⟩:=sc1.obj;let⟨vs,hv,il⟩:=sc1.ba;let vl:=aR il;exists a,C,o.dx,_,_,rfl,ho,F.cls,F.bars,rfl,?_;exists o.ba,vs,rfl,.inl (aE.of hv),?_;rw[vl];change r _ _ _ (au.refl _) (by unfold Is;rfl) {_,rfl}
 ·intro D vs H1 s1 hD il
  let e:bs.map (λz=>Dt.bl (decide (z<(⇑S.bars:Int))))=(bs.map λz=>decide (z<(⇑S.bars:Int))).map Dt.bl:=by rw[zu];rfl
  rw[e] at il;rw[iz il] at hD;refine{D,_,rfl,aE.of hD,?_};let e2:(bs.map λz=>decide (z<(⇑S.bars:Int))).all id=S.has bs:=by rw[xH];rfl
  rw[e2];exact kk _ s1
inductive nI (K:yo) (vs:List V) (H:Hp) (Q:VK) (E:XK):Prop
 | mk (p:wJ) (us:List V) (its:List Item) (_:vs=[.ref p]) (_:aE K H p us) (_:av H (its.map fT) us) (_:⇑its<=500) (_:(∀it∈its,LP it.2)) (_:∀r H',au H H'->H' r=some (l6 (qS its))->Q (.ref r) H')
def ml (l:List Item) (it:Item):qS (l++[it])=add (qS l) it.2:=by unfold qS;rw[List.foldl_append];rfl
def nU:cz P w base 4 T.iw (nI K):=by
 nomatch T.iw,["items","length","item"]
 let⟨p,us,its,rfl,hp,il,hl,aP,kk⟩:=h;let sl:=yp;let ul:=aR il;refine{_,(ae (cu 1 qN (aZ (aa ai (aa ai af))))
  (ae (jj yD rfl (cx (pv 0)) (FR 2 qN)
  (ag (cu 1 qN (bH (GW T) hr T.added (aa (pv 1) (aa (cm (pv 2) ai) af))))))
  (ag (ak (pv 1))))),?_}
 ac_rfl;exists dw,?_;intros p1 H1 s1 h1;exists{_,s1.seq hp},?_;refine lT (K:=K) (a:=p) (xs:=us) (λi U H'=>au H H'/\∃q v,U=[some (.ref p),some (.ref q),v]/\H' q=some (l6 (qS (its.take i)))/\Lm.Rd (qS (its.take i))/\tW (15*i+1) (qS (its.take i))) {s1,p1,none,rfl,h1,?_,?_} (λi U H' _ h=>h.1.seq hp) ?_ ?_
 ·exact Lm.Rd.zero
 ·show tW 1 (0,1)
  exact{dr ∅ ∅,dr ∅ ∅}
 ·rintro i x U H2 hx ⟨s2,q,v,rfl,hq,rq,zq⟩
  let⟨it,hit,iit⟩:=gF il hx;let⟨a6,pv,lv,rfl,h6,_,i8⟩:=item_at (iit.mono s2);let hi:i<⇑its:=(zr.mp hit).1;let⟨ok1,MO,O5,ok4⟩:=aP it (zv hit);cases pH (o:=some it.2) i8 with
  | ref h8=>
   let zi:tW 14 it.2:={dr () (),dr (by have:=ok1.pos;ext) ()}
   exists _,_,_,_,_,_,rfl,hq,h8,rq,ok1,zq,zi,(),λr H3 s3 h3=>?_;let e:=jH hit;refine{s2.trans s3,r,_,rfl,?_,?_,?_}
   ·rw[e,ml];exact h3
   ·rw[e,ml];exact rq.add ok1
   ·rw[e,ml];exact{(tW.add rq ok1 zq zi).1.mono (),(tW.add rq ok1 zq zi).2.mono ()}
 ·rintro U H2 ⟨s2,q,v,rfl,hq,_,_⟩
  rw[ul,zI] at hq;change kk _ _ s2 hq
def HX (S:bZ):Prop:=∀r∈S.repeats,⇑r.ends<=1000000
def j9 (C:wJ):Sp:=cU C λH v S f=>∃j,Is H (kg j) v/\HX S/\f=fault S (.b3 j)
def Bl {l:List V} {i:Nat} {x:V} (h:l[i]?=some x):(l.take (i+1)).filter (λv=>!dM v)=(l.take i).filter (λv=>!dM v)++(if dM x=true then [] else [x]):=by
 rw[jH h,yL];cases q:dM x with
 | true=>simp[q]
 | false=>simp[q]
def rN {C:wJ} (F:Cf K C):cz P w base 5 T.ip (j9 C):=by
 nomatch T.ip,["score","jump"]
 let⟨a,S,o,v,f,rfl,sc,⟨j,iv,rok,rfl⟩,kk⟩:=h;let sl:=yp;let⟨ub,jm,ho,hub,hjm⟩:=sc.obj;let⟨vs,hv,il⟩:=sc.re;let⟨a1,rfl,h1⟩:=oj iv;unfold fault at kk;dsimp only at kk;refine{_,(ae (ax (aV (ib (aL (pv 0) rfl)))
  (ag (ak ar))
  ao)
  (ae (ax (de (bA (bH (gm T F) hr T.gR (aa (pv 0) (aa (nO (ts:=["bar"]) (ys:=[]) (js:=[]) (g:=(eT 0)) (tc:=(tB (Gg (cj 0)))) (te:=(cj 0)) (kD (pv 1)) (mC 0) (D8 (aV (ib (pv 0)))) (pv 0)) af)))))
  (ag (ak ar))
  ao)
  (ae (ax (de (bA (bH (va T) hr T.mL (aa (aL (pv 0) rfl) (aa (pv 1) af)))))
  (ag (ak ar))
  ao)
  (ag (ak aD))))),?_}
 ac_rfl;exists a,C,o.dx,_,_,rfl,ho,F.cls,F.b3,rfl,?_;cases q:S.b3 with
 | some j'=>
  rw[q] at hjm kk;let⟨a2,rfl,_⟩:=oj hjm;change kk _ (au.refl _)
 | none=>
  rw[q] at hjm kk;unfold dO Is at hjm;subst hjm;rw[yB ∅] at kk;exists{_,cQ.of h1},?_;generalize hw:[V.int j.Bd,V.int j.CZ,V.int j.df,ov j.kP]=ws at h1;let wl:⇑ws=4:=by rw[<-hw];rfl
  refine lZ ⇑ws (λi=>(ws.take i).filter λv=>!dM v) (λi U H'=>H'=H/\∃v,U=[v]) (λi hi=>zH (yU _ _) (by rw[zL];ext)) () rfl {(rfl),none,rfl} ?_ ?_ ?_ ?_
  ·rintro i U H' hi ⟨rfl,_⟩
   exact Hk (cQ.of h1) hi
  ·rintro U H' ⟨rfl,_⟩
   exact{_,cQ.of h1,zh _}
  ·rintro i x U H' H2 hi ⟨rfl,v,rfl⟩ ⟨rfl,hy⟩
   let hx:=hy _ (cQ.of h1);left
   by_cases e:x=.aO
   ·refine bt (by rw[zd e];rfl) ?_
    refine FP.skip hi ?_ {rfl,_,rfl};show List.filter _ (List.take (i+1) ws)=List.filter _ (List.take i ws);rw[Bl hx,yC (show dM x=true from zd e),zO]
   ·refine bq (by rw[zc e];rfl) ?_
    left;refine FP.push hi ?_ {rfl,_,rfl};show List.filter _ (List.take (i+1) ws)=List.filter _ (List.take i ws)++[x];rw[Bl hx,yB (by unfold dM;rw[zc e];decide)]
  ·rintro U H' ⟨rfl,_⟩
   rw[zI];let ef:(ws.filter λv=>!dM v)=([j.Bd,j.CZ,j.df]++j.kP.toList).map V.int:=by
    rw[<-hw];cases j.kP <;> rfl
   rw[ef];intros D H2 s2 h2;refine{a,D,S,o,_,rfl,sc.mono s2,aE.of h2,?_,λH3 s3=>?_}
   ·cases j.kP <;> simp
   ·cases qb:S.has ([j.Bd,j.CZ,j.df]++j.kP.toList) with
    | false=>
     rw[qb] at kk;change kk _ (s2.trans s3)
    | true=>
     rw[qb,yB (by simp)] at kk;let s03:=s2.trans s3;let sc3:=sc.mono s03;exists a,C,o.dx,_,_,rfl,s03 _ _ ho,F.cls,F.repeats,rfl,?_;exists o.re,S.repeats,_,j,rfl,{vs,aE.of (s03 _ _ hv),il.mono s03},rok,iv.mono s03,λH4 s4=>?_;cases qj:lP S.repeats j with
     | false=>
      rw[qj] at kk;change kk _ (s03.trans s4)
     | true=>
      rw[qj,yB (by simp)] at kk;change kk _ (s03.trans s4)
def iK (C:wJ):Sp:=cU C λH v S f=>∃r:Rep,Is H (j6 r) v/\B6 r.ends<64/\⇑r.ends<=1000/\-1000000<=r.times/\r.times<=1000000/\f=fault S (.rep r)
def nR {C:wJ} (F:Cf K C):cz P w base 3 T.eX (iK C):=by
 nomatch T.eX,["score","repeat"]
 let⟨a,S,o,v,f,rfl,sc,⟨r,iv,ht,hl,t0,t1,rfl⟩,kk⟩:=h;let sl:=yp;let⟨ub,jm,ho,hub,hjm⟩:=sc.obj;let⟨vs,hv,il⟩:=sc.re;let vl:=aR il;let⟨a1,e,rfl,h1,he⟩:=hU iv;unfold Is at he;let⟨e',us,ee,hu,ilu⟩:=he;cases ee;unfold fault at kk;dsimp only at kk;refine{_,(ae (ax (de (bA (bH (gm T F) hr T.gR (aa (pv 0) (aa (ay e9 (bx (aa (cm (pv 1) ai) (aa (cm (pv 1) ai) af))) (nO (ts:=["end"]) (ys:=[]) (js:=[]) (te:=(kX (pC K) (cj 0) (tC (.int (0))))) (kD (cm (pv 1) ai)) (mC 0) bw (cm (pv 0) ai))) af)))))
  (ag (ak ar))
  ao)
  (ae (ax (PW.pt (cP (aV (ib (aL (pv 0) rfl))) (b7 (de (bA (bH (pK T) hr T.ji (aa (aL (pv 0) rfl) (aa (pv 1) af))))))))
  (ag (ak ar))
  ao)
  (ae (ax (ptr AO (dJ aw T.bp (aa (aL (pv 0) rfl) af)) (aK (v:=.int (20)) (by rfl) T.qA {_,rfl}))
  (ag (ak ar))
  ao)
  (ag (ak aD))))),?_}
 ac_rfl;exists dw,?_;intros p2 H2 s2 h2;let h12:=s2 _ _ h1;exists{_,cQ.of (s2 _ _ hu)},?_;let⟨ps,f1,f2,f3⟩:=om ilu;let pl:⇑ps<=1000:=by
  have:⇑ps=⇑r.ends:=by rw[<-f1,za]
  ext
 refine fU (enc:=λz:Sc.End×V=>z.2) (ws:=ps) (λz=>.int z.1.1) (λU=>∃v,U=[v]) () (by rw[f2];exact s2 _ _ hu) {(none),rfl} ?_ ?_
 ·rintro z U H6 R' hz s6 ⟨_,rfl⟩ r'
  let⟨a6,q6,ev,h6,h7⟩:=vA (f3 z hz);rw[ev];let h66:=s6 _ _ (s2 _ _ h6);change r' _ _ _ (au.refl _) dS {_,rfl}
 ·intro D vs5 H3 s3 hD il5
  let e5:ps.map (λz=>Dt.int z.1.1)=(r.ends.map (·.1)).map Dt.int:=by rw[<-f1,zu,zu];rfl
  rw[e5] at il5;rw[gp il5] at hD;refine{p2,D,_,_,rfl,rfl,aE.of (s3 _ _ h2),aE.of hD,by rw[za,za];show 2+_<=_;ext,?_};rw[show [V.int r.first,V.int r.last]++List.map V.int (r.ends.map (·.1))=([r.first,r.last]++r.ends.map (·.1)).map V.int from by rw[zg];rfl];intros p4 H4 s4 h4;let s04:=(s2.trans s3).trans s4;refine{a,p4,S,o,_,rfl,sc.mono s04,aE.of h4,by rw[ze,za];show 2+_<=_;ext,λH5 s5=>?_};let s05:=s04.trans s5;cases qb:S.has ([r.first,r.last]++r.ends.map (·.1)) with
  | false=>
   rw[qb] at kk;change kk _ s05
  | true=>
   rw[qb,yB (by simp)] at kk;exists a,C,o.dx,_,_,rfl,s05 _ _ ho,F.cls,F.b3,rfl,?_;cases q:S.b3 with
   | some j'=>
    rw[q] at hjm kk;let⟨a2,rfl,_⟩:=oj hjm;change kk _ s05
   | none=>
    rw[q] at hjm kk;unfold dO Is at hjm;subst hjm;rw[yB ∅] at kk;exists a,C,o.dx,_,_,rfl,s05 _ _ ho,F.cls,F.repeats,rfl,?_;exists o.re,S.repeats,_,r,rfl,{vs,aE.of (s05 _ _ hv),il.mono s05},iv.mono s05,ht,t0,t1,λH6 s6=>?_;let s06:=s05.trans s6;cases qj:d5 S.repeats r with
    | false=>
     rw[qj] at kk;change kk _ s06
    | true=>
     rw[qj,yB (by simp)] at kk;exists a,C,o.dx,_,_,rfl,s06 _ _ ho,F.cls,F.repeats,rfl,?_;exists o.re,vs,rfl,.inl (aE.of (s06 _ _ hv)),?_;rw[vl];left
     by_cases c2:20<=⇑S.repeats
     ·refine bq (zd ()) ?_
      rw[yC c2] at kk;change kk _ s06
     ·refine bt (zc ()) ?_
      rw[yB c2] at kk;change kk _ s06
theorem w5 (n:Int×Str):∀{ks:List (Int×Str)} {vs:List V},⇑vs=⇑ks->(cR ((ks.map kN).zip vs) (kN n)).isSome=decide (n∈ks)
 | [],_,_=>by simp[cR]
 | k::ks,[],h=>by simp at h
 | k::ks,v::vs,h=>by
  let ih:=w5 n (ks:=ks) (vs:=vs) (by simpa using h);rw[zf,yK];unfold cR at ih ⊢;rw[yG]
  by_cases e:k=n
  ·subst e
   simp
  ·let e1:¬kN k=kN n:=λz=>e (by
    unfold kN at z;simp at z;exact Prod.ext z.1 z.2)
   let e2:¬n=k:=λz=>e z.symm;simp only[e1,decide_false] at ih ⊢;rw[ih];simp[e2]
theorem jV {α:Type} {d:α->Dt} {H:Hp}:∀{ls:List (List α)} {as:List wJ},bg H d ls as->⇑as=⇑ls
 | [],_,h=>by unfold bg at h;rw[h];rfl
 | l::r,_,⟨a,t,vs,e,_,_,h3⟩=>by rw[e,zo,zo,jV h3]
def Ja {x y:Int×Int}:decide ([V.int x.1,V.int x.2]=[V.int y.1,V.int y.2])=decide (x=y):=by
 by_cases h:x=y
 ·subst h;simp
 ·rw[zc h,zc]
  intro z;simp at z;exact h (Prod.ext z.1 z.2)
def jg (C:wJ):Sp:=cU C λH v S f=>∃x:Int×Str×List Item,Ey H v x/\0<=x.1/\⇑x.2.2<=500/\(∀it∈x.2.2,LP it.2)/\(∀b∈S.bars,Ez b)/\f=fault S (.aF x.1 x.2.1 x.2.2)
def pO {C:wJ} (F:Cf K C):cz P w base 5 T.gn (jg C):=by
 nomatch T.gn,["score","told","bar","player","items"]
 let⟨a,S,o,v,f,rfl,sc,⟨⟨b,pn,its⟩,⟨a1,q,us,rfl,h1,hq,ilq⟩,b0,il5,iok,bok,rfl⟩,kk⟩:=h;let sl:=yp;let⟨ub,jm,ho,hub,hjm⟩:=sc.obj;let nl:⇑(o.ns.map V.ref)=⇑(S.aF.map (·.1)):=by rw[za,za,jV sc.no.2,za]
 let em:(S.aF.map λx=>kN x.1)=(S.aF.map (·.1)).map kN:=by rw[zu];rfl
 unfold fault at kk;dsimp only at kk h1 b0 il5 iok ilq;refine{_,(ae (cu 2 qN (cm (pv 1) ai))
  (ae (cu 3 qN (cm (pv 1) ai))
  (ae (cu 4 qN (cm (pv 1) ai))
  (ae (ax (aV (CM (iX hr) (aZ (aa (pv 2) (aa (pv 3) af))) (aL (pv 0) rfl)))
  (ag (ak ar))
  ao)
  (ae (ax (jO dA (pv 3) (aL (pv 0) rfl) (by with_unfolding_all rfl))
  (ag (ak ar))
  ao)
  (ae (ax (de (bA (bH (gm T F) hr T.gR (aa (pv 0) (aa (bx (aa (pv 2) af)) af)))))
  (ag (ak ar))
  ao)
  (ae (ax (ptr (GU hr.units) (bH (nU T) hr T.iw (aa (pv 4) af)) (bH (pI T F) hr T.ja (aa (pv 0) (aa (pv 2) af))))
  (ag (ak ar))
  ao)
  (ae (ax (ptr iQ (dJ aw T.bp (aa (pv 4) af)) (aK (v:=.int (40)) (by rfl) T.vW {_,rfl}))
  (ag (ak ar))
  ao)
  (ag (ak aD)))))))))),?_}
 ac_rfl;exists dw,?_;intros p2 H2 s2 h2;let h12:=s2 _ _ h1;exists a,C,o.dx,_,_,rfl,s2 _ _ ho,F.cls,F.aF,rfl,?_;refine{o.no,_,rfl,.inr {_,kN (b,pn),p2,.inl (s2 _ _ sc.no.1),rfl,h2,rfl},?_};rw[em,w5 (b,pn) nl];left
 by_cases c1:(b,pn)∈S.aF.map (·.1)
 ·rw[zd c1]
  rw[yC c1] at kk;change kk _ s2
 ·rw[zc c1]
  rw[yB c1] at kk;exists a,C,o.dx,_,_,rfl,s2 _ _ ho,F.cls,F.players,rfl,?_;refine{o.pl,_,rfl,.inl (aE.of (s2 _ _ sc.pl)),rfl,fC _,?_};show∃k,V.bl (!FT (.str pn) (S.players.map V.str))=.bl k/\_;rw[gQ]
  by_cases c2:pn∈S.players
  ·rw[zd c2]
   rw[yB (λz=>z c2)] at kk;exists by show 1<=sizeLine;ext,?_
   intros p3 H3 s3 h3;refine{a,p3,S,o,[b],rfl,sc.mono (s2.trans s3),aE.of h3,(by show 1<=1000000;decide),λH4 s4=>?_};let s04:=(s2.trans s3).trans s4;cases qb:S.has [b] with
   | false=>
    rw[qb] at kk;change kk _ s04
   | true=>
    rw[qb,yB (by simp)] at kk;let hb:b<⇑S.bars:=by
     unfold bZ.has at qb
     simpa using qb
    let⟨n,rfl⟩:=yz b0;exists q,us,its,rfl,aE.of (s04 _ _ hq),ilq.mono s04,il5,iok,λr5 H5 s5 h5=>?_;exists a,S,o,n,rfl,sc.mono (s04.trans s5),(),bok,λr6 H6 s6 h6=>?_;let s06:=(s04.trans s5).trans s6;refine{r5,r6,_,_,rfl,rfl,.inr {cQ.of (s6 _ _ h5),cQ.of h6},.inr (.inr {(rfl),rfl}),?_};rw[Ja]
    by_cases c3:qS its=S.len n
    ·rw[zd c3]
     rw[yB (λz=>z c3)] at kk;exists q,us,rfl,.inl (aE.of (s06 _ _ hq)),?_;rw[aR ilq];left
     by_cases c4:40<⇑its
     ·refine bq (zd ()) ?_
      rw[yC c4] at kk;change kk _ s06
     ·refine bt (zc ()) ?_
      rw[yB c4] at kk;change kk _ s06
    ·rw[zc c3]
     rw[yC (show qS its≠S.len ((n:Int)).toNat from c3)] at kk;change kk _ s06
  ·rw[zc c2]
   rw[yC c2] at kk;change kk _ s2
def both {c:Bool} {T:(Bool->Hp->Prop)->Prop} {Z:Bool->Hp->Prop} {H:Hp} (v:Bool) (h1:c=true->∀Z,Z v H->T Z) (h2:c=false->v=false) (hz:Z v H):if c=true then T Z else Z false H:=by
 cases c with
 | true=>rw[yC rfl];exact h1 rfl Z hz
 | false=>rw[yB (by simp)];rw[<-h2 rfl];exact hz
theorem mM {H:Hp} {α:Type} {d:α->Dt} (p:Str):∀{hs:List (Str×List α)} {as:List wJ},bg H d (hs.map (·.2)) as->
  (hs.lookup p=none/\cR ((hs.map λx=>kS x.1).zip (as.map V.ref)) (kS p)=none)\/∃l h vs,hs.lookup p=some l/\cR ((hs.map λx=>kS x.1).zip (as.map V.ref)) (kS p)=some (.ref h)/\H h=some (.lst vs)/\av H (l.map d) vs
 | [],_,h=>.inl {rfl,by simp[cR]}
 | (x,l)::r,as,h=>by
  rw[zf] at h;unfold bg at h;let⟨a,t,vs,rfl,h1,h2,h3⟩:=h;rw[zf,zf,yK]
  by_cases e:x=p
  ·subst e
   refine .inr {l,a,vs,by rw[yd,xI],?_,h1,h2};unfold cR;rw[yG];simp
  ·let e1:¬kS x=kS p:=λz=>e (we z)
   let e2:(p == x)=false:=by simp;exact λz=>e z.symm
   let ih:=mM p h3;unfold cR at ih ⊢;rw[yG,yd,e2];simp only[e1,decide_false];exact ih
def Nb {H:Hp} {x:Int×Str} {v:V} (h:Is H (JI x) v):∃a,v=.ref a/\H a=some (.tup [.int x.1,.str x.2]):=by
 unfold JI Is at h;let⟨a,vs,rfl,ha,hl⟩:=h;unfold av at hl;let⟨v1,r1,rfl,h1,hl⟩:=hl;unfold av at hl;let⟨v2,r2,rfl,h2,hl⟩:=hl;unfold av at hl;subst hl;unfold Is at h1 h2;subst h1 h2;exact{(a),rfl,ha}
def Eh {H:Hp} {x:Str×Int×Str} {v:V} (h:Is H (nz x) v):∃a,v=.ref a/\H a=some (.tup [.str x.1,.int x.2.1,.str x.2.2]):=by
 unfold nz Is at h;let⟨a,vs,rfl,ha,hl⟩:=h;unfold av at hl;let⟨v1,r1,rfl,h1,hl⟩:=hl;unfold av at hl;let⟨v2,r2,rfl,h2,hl⟩:=hl;unfold av at hl;let⟨v3,r3,rfl,h3,hl⟩:=hl;unfold av at hl;subst hl;unfold Is at h1 h2 h3;subst h1 h2 h3;exact{(a),rfl,ha}
def ka (C:wJ):Sp:=cU C λH v S f=>∃x:Str×Int×Str,Is H (nz x) v/\f=fault S (.holds x.1 x.2.1 x.2.2)
def rO {C:wJ} (F:Cf K C):cz P w base 3 T.iA (ka C):=by
 nomatch T.iA,["score","told","bar","holds"]
 let⟨a,S,o,v,f,rfl,sc,⟨⟨pn,b,iN⟩,hd,rfl⟩,kk⟩:=h;let⟨a1,rfl,h1⟩:=Eh hd;let sl:=yp;let⟨ub,jm,ho,hub,hjm⟩:=sc.obj;unfold fault at kk;dsimp only at kk h1;refine{_,(ae (cu 2 qN (cm (pv 1) ai))
  (ae (cu 3 qN (AK (iX hr) (aL (pv 0) rfl) (cm (pv 1) ai) (bx af) {(rfl),rfl,rfl,rfl}))
  (ae (ax (PW.pt (fK (ptr iQ (dJ aw T.bp (aa (pv 3) af)) ai) (ei (ptr lJ (pv 2) (cm (fB (pv 3) (sV md ai)) ai)))))
  (ag (ak ar))
  ao)
  (ae (ax (PW.pt (cP (jO dA (cm (pv 1) ai) (aL (pv 0) rfl) (by with_unfolding_all rfl)) (b7 (aV (sW (iX hr) (cm (pv 1) ai) (aL (pv 0) rfl))))))
  (ag (ak ar))
  ao)
  (ae (ax (de (bA (bH (gm T F) hr T.gR (aa (pv 0) (aa (bx (aa (pv 2) af)) af)))))
  (ag (ak ar))
  ao)
  (ae (ax (ptr AO (dJ aw T.bp (aa (pv 3) af)) (aK (v:=.int (20)) (by rfl) T.vX {_,rfl}))
  (ag (ak ar))
  ao)
  (ag (ak aD)))))))),?_}
 ac_rfl;exists a,C,o.dx,_,_,rfl,ho,F.cls,F.holds,rfl,?_;refine{o.ho,rfl,.inl {_,.inl sc.ho.1},?_};exists by show 0<=sizeLine;ext,?_
 intros p2 H2 s2 h2;let h12:=s2 _ _ h1;refine{_,.inl {_,kS pn,.inl (s2 _ _ sc.ho.1),rfl,rfl},?_};obtain⟨h,vs,l,eh,hh,ilh,el⟩:∃h vs l,(cR ((S.holds.map λx=>kS x.1).zip (o.hs.map V.ref)) (kS pn)).getD (.ref p2)=.ref h/\H2 h=some (.lst vs)/\av H2 (l.map JI) vs/\(S.holds.lookup pn).getD []=l:=by
  rcases mM (H:=H) pn sc.ho.2 with⟨e1,e2⟩ | ⟨l,h,vs,e1,e2,hh,il⟩
  ·exact{p2,[],[],by rw[e2];rfl,h2,by unfold av;rfl,by rw[e1];rfl}
  ·exact{h,vs,l,by rw[e2];rfl,s2 _ _ hh,il.mono s2,by rw[e1];rfl}
 rw[el] at kk;rw[eh];exists h,vs,rfl,.inl (aE.of hh),?_;rw[aR ilh];left;obtain⟨c1,ec,kk⟩:∃c1:Bool,c1=(match l.getLast? with | some q=>decide (b<=q.1) | none=>false)/\∀H',au H H'->Q (Sc.os (if c1=true then some "twice" else if pn∉S.players then some "name" else if iN∉S.instruments.map (·.1) then some "name" else if¬S.has [b]=true then some "bar" else if 20<=⇑l then some "many" else none)) H':=by
  refine{_,rfl,?_};cases q:l.getLast? with
  | none=>rw[q] at kk;exact kk
  | some x=>rw[q] at kk;exact kk
 refine both c1 ?_ ?_ ?_
 ·intro c Z hz
  let lp:0<⇑l:=by have:=zU c;ext
  let vl:=aR ilh;let⟨x,hx,ix⟩:=gF ilh (i:=⇑vs-1) (zb ());let⟨a3,ea,h3⟩:=Nb ix;let eg:l.getLast?=some x:=by rw[xJ,<-vl];exact hx
  rw[ec,eg] at hz;left;refine{h,vs,-1,_,rfl,rfl,aE.of hh,Eu (zb ()),?_};rw[ea];change hz
 ·intro c
  have:l=[]:=yf.mp (by have:=of_decide_eq_false c;ext);rw[ec,this];rfl
 ·clear ec
  cases c1 with
  | true=>
   change kk _ s2
  | false=>
   rw[yB (by simp)] at kk;exists a,C,o.dx,_,_,rfl,s2 _ _ ho,F.cls,F.players,rfl,?_;refine{o.pl,_,rfl,.inl (aE.of (s2 _ _ sc.pl)),rfl,fC _,?_};show∃k,V.bl (!FT (.str pn) (S.players.map V.str))=.bl k/\_;rw[gQ]
   by_cases c2:pn∈S.players
   ·rw[zd c2]
    rw[yB (λz=>z c2)] at kk;let⟨us,hu,ilu⟩:=sc.ins;let em:(S.instruments.map λx=>kS x.1)=(S.instruments.map (·.1)).map kS:=by rw[zu];rfl
    exists a,C,o.dx,_,_,rfl,s2 _ _ ho,F.cls,F.instruments,rfl,?_;refine{o.ins,_,rfl,.inl {_,kS iN,.inl (s2 _ _ hu),rfl,rfl},?_};rw[em,kZ iN (by rw[za];exact aR ilu)]
    by_cases c3:iN∈S.instruments.map (·.1)
    ·rw[zd c3]
     rw[yB (λz=>z c3)] at kk;exists by show 1<=sizeLine;ext,?_
     intros p3 H3 s3 h3;refine{a,p3,S,o,[b],rfl,sc.mono (s2.trans s3),aE.of h3,(by show 1<=1000000;decide),λH4 s4=>?_};let s04:=(s2.trans s3).trans s4;cases qb:S.has [b] with
     | false=>
      rw[qb] at kk;change kk _ s04
     | true=>
      rw[qb,yB (by simp)] at kk;exists h,vs,rfl,.inl (aE.of ((s3.trans s4) _ _ hh)),?_;rw[aR ilh];left
      by_cases c4:20<=⇑l
      ·refine bq (zd ()) ?_
       rw[yC c4] at kk;change kk _ s04
      ·refine bt (zc ()) ?_
       rw[yB c4] at kk;change kk _ s04
    ·rw[zc c3]
     rw[yC c3] at kk;change kk _ s2
   ·rw[zc c2]
    rw[yC c2] at kk;change kk _ s2
def Ae {H:Hp} {x:Str×List Str} {v:V} (h:Is H (jD x) v):∃a q,v=.ref a/\H a=some (.tup [.str x.1,.ref q])/\H q=some (.tup (x.2.map V.str)):=by
 unfold jD Is at h;let⟨a,vs,rfl,ha,hl⟩:=h;unfold av at hl;let⟨v1,r1,rfl,h1,hl⟩:=hl;unfold av at hl;let⟨v2,r2,rfl,h2,hl⟩:=hl;unfold av at hl;subst hl;unfold Is at h1;subst h1;unfold kf Is at h2;let⟨q,us,rfl,hq,hl⟩:=h2;rw[ff hl] at hq;exact{(a),q,rfl,ha,hq}
def K0 {H:Hp} {x:Str×List Str} {v:V} (h:Is H (JH x) v):∃q,v=.ref q/\H q=some (.tup (x.2.map V.str)):=by
 unfold JH kf Is at h;let⟨q,us,rfl,hq,hl⟩:=h;rw[ff hl] at hq;exact{(q),rfl,hq}
inductive Ag (C:wJ) (vs:List V) (H:Hp) (Q:VK) (E:XK):Prop
 | mk (a:wJ) (S:bZ) (o:Ow) (v ub jm:V) (x:Str×List Str) (ob:Obj) (us:List V) (_:vs=[.ref a,v]) (_:H a=some (.ins C o.dx (II o ub jm))) (_:H o.pl=some (.lst (S.players.map V.str))) (_:DL H o.st ob ((S.aG.map λx=>kS x.1).zip us)) (_:av H (S.aG.map JH) us) (_:Is H (jD x) v) (_:⇑x.2<=1000) (_:∀H',au H H'->Q (os (fault S (.bf x.1 x.2))) H')
theorem B9 {α β:Type}:∀{l:List α} {m:List β} {i:Nat} {p:α×β},(l.zip m)[i]?=some p->l[i]?=some p.1/\m[i]?=some p.2
 | [],_,_,_,h=>by simp at h
 | _::_,[],_,_,h=>by simp at h
 | _::_,_::_,0,_,h=>by simp at h;subst h;exact{(rfl),rfl}
 | _::l,_::m,i+1,_,h=>by
  rw[yK] at h
  simpa using B9 (l:=l) (m:=m) (i:=i) (by simpa using h)
def HR {α:Type} {p:α->Bool} {l:List α} {i:Nat} {x:α} (h:l[i]?=some x) (hn:(l.take i).any p=false) (hx:p x=false):(l.take (i+1)).any p=false:=by
 rw[jH h,List.any_append,hn];simp[hx]
def HS {α:Type} {p:α->Bool} {l:List α} {i:Nat} {x:α} (h:l[i]?=some x) (hx:p x=true):l.any p=true:=yb.mpr {x,zv h,hx}
def AS {C:wJ} (F:Cf K C):cz P w base 1 T.eG (Ag C):=by
 nomatch T.eG,["score","told","players","others"]
 let⟨a,S,o,v,ub,jm,x,ob,us,rfl,ho,hpl,fz,ilu,iv,x5,kk⟩:=h;let⟨a1,q,rfl,h1,hq⟩:=Ae iv;let sl:=yp;let ul:=aR ilu;let em:(S.aG.map λx=>kS x.1)=(S.aG.map (·.1)).map kS:=by rw[zu];rfl
 unfold fault at kk;dsimp only at kk;refine{_,(ae (cu 2 qN (cm (pv 1) ai))
  (ae (ax (PW.pt (cP (aV (CM (iX hr) (cm (pv 1) ai) (aL (pv 0) rfl))) (b7 (ptr gN (dJ FA T.bp (aa (AN (Fz rfl) T.M0 (aa (pv 2) af)) af)) (dJ aw T.bp (aa (pv 2) af))))))
  (ag (ak ar))
  ao)
  (ae (jj yD rfl (E4 (aL (pv 0) rfl)) (FR 3 qN)
  (ag (ax (bA (dJ (gU rfl) T.A6 (aa (nO (ts:=["player"]) (ys:=["others"]) (js:=[3]) (te:=(kX (NI K false) (cj 0) (cj 1))) (kD (pv 2)) (mC 0) bw (bG tf (pv 0) (pv 1) (by with_unfolding_all rfl))) af)))
   (ag (ak ar))
   ao)))
  (ae (ax (bA (dJ (gU rfl) T.A6 (aa (nO (ts:=["player"]) (ys:=["score"]) (js:=[0]) (te:=(kX (NI K true) (cj 0) (IC K (cj 1) "players"))) (kD (pv 2)) (mC 0) bw (bG dA (pv 0) (aL (pv 1) rfl) (by with_unfolding_all rfl))) af)))
  (ag (ak ar))
  ao)
  (ag (ak aD)))))),?_}
 ac_rfl;exists a,C,o.dx,_,_,rfl,ho,F.cls,F.aG,rfl,?_;refine{o.st,_,rfl,.inl {_,kS x.1,.inr {_,fz},rfl,rfl},?_};rw[em,kZ x.1 (by rw[za];exact ul)]
 by_cases c1:x.1∈S.aG.map (·.1)
 ·rw[zd c1]
  rw[yC c1] at kk;change kk _ (au.refl _)
 ·rw[zc c1]
  rw[yB c1] at kk;exists q,x.2,rfl,cQ.of hq,x5,λp2 n2=>?_;let s2:au H (upd H p2 (B2 p2 ⇑(dW x.2))):=cI n2;let h2:upd H p2 (B2 p2 ⇑(dW x.2)) p2=some (B2 p2 ⇑(dW x.2)):=az;generalize upd H p2 (B2 p2 ⇑(dW x.2))=H2 at s2 h2 ⊢;let⟨d1,d2⟩:=Bt x.2;refine{p2,_,rfl,h2,(),?_};exists q,_,rfl,.inr (cQ.of (s2 _ _ hq)),?_;rw[za];left
  by_cases c2:x.2.Nodup
  ·refine bt (zc (by have:=d2.mpr c2;ext)) ?_
   rw[yB (λz=>z c2)] at kk;exists a,C,o.dx,_,_,rfl,s2 _ _ ho,F.cls,F.aG,rfl,?_;refine{o.st,ob,_,rfl,s2 _ _ fz,?_};refine C2 (λi U H'=>au H H'/\(S.aG.take i).any (λq=>x.2.any λp=>decide (p∈q.2))=false/\∃u,U=[some (.ref a),some (.ref a1),some (.ref q),u]) {(s2),rfl,none,rfl} (λi U H' _ h=>h.1 _ _ fz) ?_ ?_
   ·intro i p U H3 hp hh
    refine l9 λN kN0 kR0 _ _=>?_;let⟨s3,hn,u,rfl⟩:=hh;let⟨_,hp2⟩:=B9 hp;let⟨st,hst,ist⟩:=gF ilu hp2;let⟨r,er,hr'⟩:=K0 ist;rw[er];exists{_,cQ.of (s3 _ _ hq)},?_;refine fU (enc:=V.str) (ws:=x.2) (λz=>.bl (decide (z∈st.2))) (λU=>∃v,U=[v,some (.ref r)]) () (s3 _ _ hq) {(none),rfl} ?_ ?_
    ·rintro z U H4 R hz s4 ⟨_,rfl⟩ rr
     exists r,_,rfl,.inr (cQ.of ((s3.trans s4) _ _ hr')),rfl,fC _,?_;refine rr _ _ _ (au.refl _) ?_ {_,rfl};rw[yB (by simp),gQ];unfold Is;rfl
    ·intro D vs H4 s4 hD il
     let e:x.2.map (λz=>Dt.bl (decide (z∈st.2)))=(x.2.map λz=>decide (z∈st.2)).map Dt.bl:=by rw[zu];rfl
     rw[e] at il;rw[iz il] at hD;refine{D,_,rfl,aE.of hD,?_};let e2:(x.2.map λz=>decide (z∈st.2)).any id=x.2.any λp=>decide (p∈st.2):=by rw[xW];rfl
     rw[e2];cases qc:x.2.any λp=>decide (p∈st.2) with
     | true=>
      rw[yC (HS hst (p:=λq:Str×List Str=>x.2.any λp=>decide (p∈q.2)) qc)] at kk;change kk _ (s3.trans s4)
     | false=>
      change{s3.trans s4,HR hst hn qc,_,rfl}
   ·rintro U H3 ⟨s3,hn,u,rfl⟩
    rw[xa,za,ul,Nat.min_self,zI] at hn;rw[hn,yB (by simp)] at kk;exists{_,cQ.of (s3 _ _ hq)},?_;refine fU (enc:=V.str) (ws:=x.2) (λz=>.bl (!decide (z∈S.players))) (λU=>∃v,U=[v,some (.ref a)]) () (s3 _ _ hq) {(none),rfl} ?_ ?_
    ·rintro z U H4 R hz s4 ⟨_,rfl⟩ rr
     exists a,C,o.dx,_,_,rfl,(s3.trans s4) _ _ ho,F.cls,F.players,rfl,?_;refine{o.pl,_,rfl,.inl (aE.of ((s3.trans s4) _ _ hpl)),rfl,fC _,?_};refine rr _ _ _ (au.refl _) ?_ {_,rfl};show Is H4 _ (V.bl (!FT (.str z) (S.players.map V.str)));rw[gQ];unfold Is;rfl
    ·intro D vs H4 s4 hD il
     let e:x.2.map (λz=>Dt.bl (!decide (z∈S.players)))=(x.2.map λz=>!decide (z∈S.players)).map Dt.bl:=by rw[zu];rfl
     rw[e] at il;rw[iz il] at hD;refine{D,_,rfl,aE.of hD,?_};let e2:(x.2.map λz=>!decide (z∈S.players)).any id=x.2.any λp=>!decide (p∈S.players):=by rw[xW];rfl
     rw[e2];cases qc:x.2.any λp=>!decide (p∈S.players) with
     | true=>
      rw[qc,yC rfl] at kk;change kk _ (s3.trans s4)
     | false=>
      rw[qc,yB (by simp)] at kk;change kk _ (s3.trans s4)
  ·refine bq (zd (by have:⇑(dW x.2)≠⇑x.2:=λz=>c2 (d2.mp z);ext)) ?_
   rw[yC c2] at kk;change kk _ s2
def jf (C:wJ):Sp:=cU C λH v S f=>∃x,Is H (jD x) v/\⇑x.2<=1000/\f=fault S (.bf x.1 x.2)
def Ho {H:Hp} {d:wJ} {o:Obj} {u:HO} (hd:H d=some u) (nt:b8 (some u)) {l:List Dt} {vs:List V} (h:av H l vs):av (upd H d (.i9 o u)) l vs:=av.upd (by rw[hd];exact nt) h
def Ao {H H':Hp} {d:wJ} {o:Obj} {u:HO} (hd:H d=some u) (s:au (upd H d (.i9 o u)) H'):au H (upd H' d u):=λb z hb=>by
 by_cases e:b=d
 ·subst e;rw[az,<-hd,hb]
 ·rw[aq e];exact s b z (by rw[aq e];exact hb)
def pJ {C:wJ} (F:Cf K C):cz P w base 1 T.eG (jf C):=by
 refine(AS (P:=P) (w:=w) (base:=base) T F).JV (λvs H Q E h=>?_) (λvs H Q E h=>?_)
 ·let⟨_,_,_,_,_,rfl,_⟩:=h;rfl
 ·let⟨a,S,o,v,f,rfl,sc,⟨x,iv,x5,rfl⟩,kk⟩:=h
  let⟨us,hu,ilu⟩:=sc.st;let⟨ub,jm,ho,hub,hjm⟩:=sc.obj;let nt:b8 (some (HO.dK ((S.aG.map λx=>kS x.1).zip us))):=λvs z=>by cases z
  let na:a≠o.st:=λz=>by rw[z,hu] at ho;cases ho
  let np:o.pl≠o.st:=λz=>by have:=sc.pl;rw[z,hu] at this;cases this
  refine{o.st,_,hu,rfl,λob=>{a,S,o,v,ub,jm,x,ob,us,rfl,by rw[aq na];exact ho,by rw[aq np];exact sc.pl,az,Ho hu nt ilu,Is.upd (by rw[hu];exact nt) iv,x5,λH' s'=>kk _ (Ao hu s')}}
def Nw (S:bZ):Prop:=∀b∈S.bars,Ez b
inductive um (C:wJ) (vs:List V) (H:Hp) (Q:VK) (E:XK):Prop
 | mk (a:wJ) (S:bZ) (o:Ow) (v ub jm:V) (x:Int×Int) (ob:Obj) (us:List V) (_:vs=[.ref a,v]) (_:H a=some (.ins C o.dx (II o ub jm))) (_:Is H (dO dL S.aI) ub) (_:NK C H a S o) (_:H o.no=some (.i9 ob (.dT ((S.aF.map λx=>kN x.1).zip us)))) (_:⇑us=⇑S.aF) (_:⇑S.aF<=1000000) (_:Is H (dL x) v) (_:tW 8999 x) (_:Nw S) (_:∀H',au H H'->Q (os (fault S (.aI x))) H')
def G3 {S:bZ} (h:Nw S) (b:Nat) (hb:b<⇑S.bars):tW 8999 (S.bM b):=by
 unfold bZ.bM;rw[zb hb];let⟨k1,k2,k3,k4⟩:=h _ (z9 hb);let⟨g,g1,g2,g3,g4,g5⟩:=uP (t:=S.bars[b].bM.1) k3;let r0:=CJ (t:=S.bars[b].bM.1) (b:=S.bars[b].bM.2) k1;let r1:=GA (t:=S.bars[b].bM.1) (b:=S.bars[b].bM.2) k1;dsimp only;exact{(dr (n:=10) r0 ()).mono ∅,(dr (n:=10) () ()).mono ∅}
def uW {C:wJ} (F:Cf K C):cz P w base 4 T.dn (um C):=by
 nomatch T.dn,["score","length"]
 let⟨a,S,o,v,ub,jm,x,ob,us,rfl,ho,hub,sb,fz,ul,n6,iv,zx,bok,kk⟩:=h;let sl:=yp;unfold fault at kk;dsimp only at kk;refine{_,(ae (ax (aV (ib (aL (pv 0) rfl)))
  (ag (ak ar))
  ao)
  (ae (ax (ptr aW (dJ aw T.bp (aa (aL (pv 0) rfl) af)) ai)
  (ag (ak ar))
  ao)
  (ae (ax (de (bA (bH (CN T) hr T.uB (aa (pv 1) (aa (bH (iU T F) hr T.fe (aa (pv 0) (aa ai af))) af)))))
  (ag (ak ar))
  ao)
  (ae (ax (bA (dJ (gU rfl) T.A6 (aa (nO (ts:=["place"]) (ys:=[]) (js:=[]) (te:=(kX OD (kX (pC K) (cj 0) (tC (.int (0)))) (tC (.int (0))))) (IY (aL (pv 0) rfl)) (mC 0) bw (bG aW (cm (pv 0) ai) ai (cT _))) af)))
  (ag (ak ar))
  ao)
  (ag (ak aD)))))),?_}
 ac_rfl;exists a,C,o.dx,_,_,rfl,ho,F.cls,F.aI,rfl,?_;cases q:S.aI with
 | some u=>
  rw[q,yC (show(some u).isSome=true from rfl)] at kk;rw[q] at hub;cases pH (o:=some u) hub with
  | ref hu=>
   change kk _ (au.refl _)
 | none=>
  rw[q,yB (by simp)] at kk;rw[q] at hub;unfold dO Is at hub;subst hub;let⟨vs,hv,il⟩:=sb.ba;cases pH (o:=some x) iv with
  | ref hx=>
  rename_i a1;exists a,C,o.dx,_,_,rfl,ho,F.cls,F.bars,rfl,?_;exists o.ba,vs,rfl,.inl (aE.of hv),?_;rw[aR il];left
  by_cases c1:⇑S.bars=0
  ·refine bq (by rw[c1];rfl) ?_
   rw[yC c1] at kk;change kk _ (au.refl _)
  ·refine bt (zc λz=>c1 (by have:=V.int.inj z;ext)) ?_
   rw[yB c1] at kk;exists a,S,o,0,rfl,sb,(),bok,λp H1 s1 h1=>?_;refine{_,_,_,_,rfl,s1 _ _ hx,h1,zx,G3 bok 0 (),?_}
   by_cases c2:x.1*(S.bM 0).2<(S.bM 0).1*x.2
   ·rw[zd c2]
    rw[yB (λz=>z c2)] at kk;exists a,C,o.dx,_,_,rfl,s1 _ _ ho,F.cls,F.aF,rfl,?_;refine{o.no,ob,_,_,rfl,{_,s1 _ _ fz,.inr {_,rfl,rfl,rfl}},?_};let kl:⇑((S.aF.map λx=>kN x.1).zip us)=⇑S.aF:=by rw[xa,za,ul,Nat.min_self]
    refine kO (ws:=S.aF) (λp x H=>∃b,x=.ref b/\H b=some (.tup [.int p.1.1,.str p.1.2])) (λp=>.bl (decide (p.1.1=0))) (λU=>∃v,U=[v]) () {(none),rfl} (λi H2 hi s2=>{{_,s2 _ _ (s1 _ _ fz),.inr {_,rfl,rfl,rfl}},()}) (λH2 s2=>{{_,s2 _ _ (s1 _ _ fz),.inr {_,rfl,rfl,rfl}},()}) ?_ ?_ ?_
    ·rintro i y H2 H3 hi s2 ⟨rfl,p,b,hp,hb,rfl⟩
     refine{au.refl _,b,rfl,?_};let⟨z1,_⟩:=B9 hp;rw[zF,zb hi] at z1;simp only[yY,xn] at z1;rw[<-z1] at hb;exact hb
    ·rintro p y U H2 R hp s2 ⟨b,rfl,hb⟩ ⟨_,rfl⟩ r
     left;refine r _ _ _ (au.refl _) ?_ {_,rfl};rw[show decide (V.int p.1.1=V.int 0)=decide (p.1.1=0) from by by_cases h:p.1.1=0 <;> simp[h]];unfold Is;rfl
    ·intro D vs H4 s4 hD il
     let e:S.aF.map (λp=>Dt.bl (decide (p.1.1=0)))=(S.aF.map λp=>decide (p.1.1=0)).map Dt.bl:=by rw[zu];rfl
     rw[e] at il;rw[iz il] at hD;refine{D,_,rfl,aE.of hD,?_};let e2:(S.aF.map λp=>decide (p.1.1=0)).any id=S.aF.any λp=>decide (p.1.1=0):=by rw[xW];rfl
     rw[e2];cases qc:S.aF.any λp=>decide (p.1.1=0) with
     | true=>
      rw[qc,yC rfl] at kk;change kk _ (s1.trans s4)
     | false=>
      rw[qc,yB (by simp)] at kk;change kk _ (s1.trans s4)
   ·rw[zc c2]
    rw[yC c2] at kk;change kk _ s1
def iI (C:wJ):Sp:=cU C λH v S f=>∃x,Is H (dL x) v/\tW 8999 x/\Nw S/\⇑S.aF<=1000000/\f=fault S (.aI x)
def nQ {C:wJ} (F:Cf K C):cz P w base 4 T.dn (iI C):=by
 refine(uW (P:=P) (w:=w) (base:=base) T F).JV (λvs H Q E h=>?_) (λvs H Q E h=>?_)
 ·let⟨_,_,_,_,_,rfl,_⟩:=h;rfl
 ·let⟨a,S,o,v,f,rfl,sc,⟨x,iv,zx,bok,n6,rfl⟩,kk⟩:=h
  let⟨hn,ln⟩:=sc.no;let⟨ub,jm,ho,hub,hjm⟩:=sc.obj;let⟨bs,hb,ilb⟩:=sc.ba;let nt:b8 (some (HO.dT ((S.aF.map λx=>kN x.1).zip (o.ns.map V.ref)))):=λvs z=>by cases z
  let na:a≠o.no:=λz=>by rw[z,hn] at ho;cases ho
  let nb:o.ba≠o.no:=λz=>by rw[z,hn] at hb;cases hb
  let ho':∀ob,upd H o.no (.i9 ob (.dT ((S.aF.map λx=>kN x.1).zip (o.ns.map V.ref)))) a=some (.ins C o.dx (II o ub jm)):=λob=>by rw[aq na];exact ho
  refine{o.no,_,hn,rfl,λob=>{a,S,o,v,ub,jm,x,ob,o.ns.map V.ref,rfl,ho' ob,Is.upd (by rw[hn];exact nt) hub,{{ub,jm,ho' ob},bs,by rw[aq nb];exact hb,Ho hn nt ilb},az,by rw[za,jV ln,za],n6,Is.upd (by rw[hn];exact nt) iv,zx,bok,λH' s'=>kk _ (Ao hn s')}}
noncomputable def jh:Told->Str
 | .aM _=> "player"
 | .bB _ _ _=> "instrument"
 | .bf _ _=> "staff"
 | .bar _=> "bar"
 | .aI _=> "upbeat"
 | .holds _ _ _=> "holds"
 | .aF _ _ _=> "notes"
 | .rep _=> "repeat"
 | .b3 _=> "jump"
def B1 (S:bZ):Told->Prop
 | .bf _ ps=>⇑ps<=1000
 | .aI l=>tW 8999 l/\Nw S/\⇑S.aF<=1000000
 | .aF b _ its=>0<=b/\⇑its<=500/\(∀it∈its,LP it.2)/\Nw S
 | .rep r=>B6 r.ends<64/\⇑r.ends<=1000/\-1000000<=r.times/\r.times<=1000000
 | .b3 _=>HX S
 | _=>True
inductive FW (K:yo) {mg:Str->Option wC} (T:Txt K mg) (C:wJ):wJ->Sp->Prop where
 | aM:FW K T C T.dI (iL C)
 | bB:FW K T C T.cg (eR C)
 | bf:FW K T C T.eB (jf C)
 | bar:FW K T C T.gx (lq C)
 | aI:FW K T C T.dG (iI C)
 | holds:FW K T C T.fq (ka C)
 | aF:FW K T C T.eF (jg C)
 | rep:FW K T C T.dH (iK C)
 | b3:FW K T C T.fo (j9 C)
noncomputable def Kc {K:yo} {mg:Str->Option wC} (T:Txt K mg):List (Str×V):=[("player",V.ref T.dI),("instrument",.ref T.cg),("staff",.ref T.eB),("bar",.ref T.gx),("upbeat",.ref T.dG),("holds",.ref T.fq),("notes",.ref T.eF),("repeat",.ref T.dH),("jump",.ref T.fo)]
def Hn (K:yo) {mg:Str->Option wC} (T:Txt K mg) (C:wJ) (t:Told):∃f D,ma (Kc T) (jh t)=some (.ref f)/\FW K T C f (cU C D)/\∀H0 H v S,dY H0 H v (some t)->B1 S t->D H v S (fault S t):=by
 cases t with
 | aM n=>exact{_,_,rfl,.aM,λH0 H v S h1 h2=>{(n),h1,rfl}}
 | bB n t l=>exact{_,_,rfl,.bB,λH0 H v S h1 h2=>{(n,t,l),h1,rfl}}
 | bf n ps=>exact{_,_,rfl,.bf,λH0 H v S h1 h2=>{(n,ps),h1,h2,rfl}}
 | bar b=>exact{_,_,rfl,.bar,λH0 H v S h1 h2=>{(b),rfl}}
 | aI l=>exact{_,_,rfl,.aI,λH0 H v S h1 h2=>{(l),h1,h2.1,h2.2.1,h2.2.2,rfl}}
 | holds p b i=>exact{_,_,rfl,.holds,λH0 H v S h1 h2=>{(p,b,i),h1,rfl}}
 | aF b p its=>exact{_,_,rfl,.aF,λH0 H v S h1 h2=>{(b,p,its),fw.at h1,h2.1,h2.2.1,h2.2.2.1,h2.2.2.2,rfl}}
 | rep r=>exact{_,_,rfl,.rep,λH0 H v S h1 h2=>{(r),h1,h2.1,h2.2.1,h2.2.2.1,h2.2.2.2,rfl}}
 | b3 j=>exact{_,_,rfl,.b3,λH0 H v S h1 h2=>{(j),h1,h2,rfl}}
def Gd {H0 H:Hp} {v:V} {t:Told} (h:dY H0 H v (some t)):v≠.aO:=by
 let tp:∀l,Is H (.tup l) v->v≠.aO:=λl z=>by
  unfold Is at z;let⟨a,vs,e,_⟩:=z;rw[e];simp
 cases t with
 | aM n=>let e:v=.str n:=h;rw[e];simp
 | bB n t l=>exact tp _ h
 | bf n ps=>exact tp _ h
 | bar b=>exact tp _ h
 | aI l=>exact tp _ h
 | holds p b i=>exact tp _ h
 | aF b p its=>let⟨a,_,_,e,_⟩:=h;rw[e];simp
 | rep r=>exact tp _ h
 | b3 j=>exact tp _ h
noncomputable def C3 (S:bZ):Option Told->Option Str
 | none=>some "row"
 | some t=>fault S t
inductive Ak (C:wJ) (vs:List V) (H:Hp) (Q:VK) (E:XK):Prop
 | mk (a:wJ) (S:bZ) (o:Ow) (x:Str) (v:V) (H0:Hp) (t:Option Told) (_:vs=[.ref a,.str x,v]) (_:aY C H a S o) (_:dY H0 H v t) (_:(∀t',t=some t'->x=jh t'/\B1 S t')) (_:∀H',au H H'->Q (os (C3 S t)) H')
def m5:cA ["score","sort","told","finder"] ["score","sort","told"] (aA ku):=Lp
def AY (B:Dk P w K T) {C:wJ} (F:Cf K C):cz P w base 6 T.qf (Ak C):=by
 refine T.qf.F.MO m5 λcdv A' outer s H vs Q E hr h=>?_
 ·let⟨a,S,o,x,v,H0,t,rfl,sc,tv,fit,kk⟩:=h
  let hTbV:∀f sp,FW K T C f sp->LR (eP sL P w K mg base ["score","sort","told","finder"] "fault_of" (aA ku) T.qM cdv A' outer s H E).wZ sL 5 f sp:=by
   intro f sp h;cases h with
   | aM=>exact{_,_,L2.bC.mono (nS T F) ∅,T.eY.F.kp,T.eY.b}
   | bB=>exact{_,_,L2.bC.mono (j5 T F) ∅,T.cL.F.kp,T.cL.b}
   | bf=>exact{_,_,L2.bC.mono (pJ T F) ∅,T.eG.F.kp,T.eG.b}
   | bar=>exact{_,_,L2.bC.mono (vc T F) ∅,T.j1.F.kp,T.j1.b}
   | aI=>exact{_,_,L2.bC.mono (nQ T F) ∅,T.dn.F.kp,T.dn.b}
   | holds=>exact{_,_,L2.bC.mono (rO T F) ∅,T.iA.F.kp,T.iA.b}
   | aF=>exact{_,_,L2.bC.mono (pO T F) ∅,T.gn.F.kp,T.gn.b}
   | rep=>exact{_,_,L2.bC.mono (nR T F) ∅,T.eX.F.kp,T.eX.b}
   | b3=>exact{_,_,L2.bC.mono (rN T F) ∅,T.ip.F.kp,T.ip.b}
  refine{_,(ae (ax (aV (bF (pv 2)))
   (ag (ak ar))
   ao)
   (ae (cu 3 m5.nd (AJ (aK (v:=.ref T.lD) (by rfl) T.HN rfl) (pv 1) (λ_ _=>rfl)))
   (ag (ak (AL (FW K T C) hTbV (hr.mono ∅) (pv 3) sX (aa (pv 0) (aa (pv 2) af))))))),?_}
  ac_rfl;left;cases t with
  | none=>
   let e:v=.aO:=tv;subst e;change kk _ (au.refl _)
  | some t=>
   let⟨ex,ft⟩:=fit t rfl;subst ex;let⟨f,D,ev,htb,hd⟩:=Hn K T C t;let ne:=Gd tv;rw[zc ne];exists T.lD,Kc T,jh t,_,rfl,B.Ls,rfl,ev,?_;exists f,_,rfl,htb,?_;change{a,S,o,v,_,rfl,sc,hd H0 H v S tv ft,kk}
def BP {hs:List (Str×List (Int×Str))} {p:Str} {h:Int×Str} (fr:p∉hs.map (·.1)):cM (hs++[(p,[])]) p h=cM hs p h:=by
 unfold cM;rw[yB fr,yC (by rw[zg];exact zD _ (zt.mpr rfl)),zg];let e:(hs.map λq:Str×List (Int×Str)=>if q.1=p then(q.1,q.2++[h]) else q)=hs:=by
  conv=>rhs;rw[<-List.map_id hs]
  refine y8 λq hq=>?_;rw[yB (λz=>fr (by rw[<-z];exact zK (f:=λx:Str×List (Int×Str)=>x.1) hq))];rfl
 rw[e];simp
def l8 (S:bZ):Prop:=(S.holds.map (·.1)).Nodup/\⇑S.holds<=1000000/\∀q∈S.holds,⇑q.2<=1000000
inductive Am (C:wJ) (vs:List V) (H:Hp) (Q:VK) (E:XK):Prop
 | mk (a:wJ) (S:bZ) (o:Ow) (v:V) (pn:Str) (b:Int) (i:Str) (_:vs=[.ref a,v]) (_:aY C H a S o) (_:Is H (nz (pn,b,i)) v) (_:l8 S) (_:∀H' o',aY C H' a (aQ S (.holds pn b i)) o'->og (own a o) H H'->(∀x∈own a o',x∈own a o\/H x=none)->Q .aO H')
def lO {o:Ow} {a x:wJ} (h:x∈o.lists):x∈own a o:=by
 unfold Ow.lists at h;unfold own;rw[zB,zB] at h ⊢;rcases h with(h | h) | h
 ·refine .inl (.inl ?_)
  simp only[zw,zy,yI] at h ⊢;rcases h with h | h | h <;> simp[h]
 ·exact .inl (.inr h)
 ·exact .inr h
def GS {C a x:wJ} {H:Hp} {S:bZ} {o:Ow} (h:aY C H a S o) (hx:x∈own a o):∃u,H x=some u:=by
 let⟨_,_,ha,_⟩:=h.obj;let⟨_,hi,_⟩:=h.ins;let⟨_,hs,_⟩:=h.st;let⟨_,hb,_⟩:=h.ba;let⟨_,hr,_⟩:=h.re;unfold own at hx;rw[zB,zB] at hx;rcases hx with(hx | hx) | hx
 ·simp only[zw,zy,yI] at hx
  rcases hx with rfl | rfl | rfl | rfl | rfl | rfl | rfl | rfl
  ·exact{_,ha}
  ·exact{_,h.pl}
  ·exact{_,hi}
  ·exact{_,hs}
  ·exact{_,hb}
  ·exact{_,h.ho.1}
  ·exact{_,h.no.1}
  ·exact{_,hr}
 ·let⟨vs,e⟩:=bz h.ho.2 hx
  exact{_,e}
 ·let⟨vs,e⟩:=bz h.no.2 hx
  exact{_,e}
def uV {C a x:wJ} {H:Hp} {S:bZ} {o:Ow} (h:aY C H a S o) (hx:H x=none):x∉own a o:=λz=>by
 let⟨u,e⟩:=GS h z;rw[hx] at e;cases e
def Ba {hs:List (Str×List (Int×Str))} {as:List wJ} {H:Hp} {x:wJ} {vs:List V} (hL:bg H JI (hs.map (·.2)) as) (hx:x∈as) (hH:H x=some (.lst vs)) (hb:∀q∈hs,⇑q.2<=1000000):⇑vs<=1000000:=by
 induction hs generalizing as with
 | nil=>unfold bg at hL;rw[hL] at hx;simp at hx
 | cons q r ih=>
  rw[zf] at hL;let⟨a,t,us,rfl,h1,h2,h3⟩:=hL;rcases zw.mp hx with rfl | hx
  ·rw[h1] at hH;cases hH
   have:=aR h2;have:=hb q zk;ext
  ·exact ih h3 hx λq hq=>hb q (zj _ hq)
def A0 {C:wJ} (F:Cf K C):cz P w base 1 T.qG (Am C):=by
 nomatch T.qG,["score","told"]
 let⟨a,S,o,v,pn,b,i,rfl,sc,iv,⟨nk,hl,hb⟩,kk⟩:=h;let⟨a1,rfl,h1⟩:=Eh iv;let sl:=yp;let⟨ub,jm,ho,hub,hjm⟩:=sc.obj;let em:(S.holds.map λx=>kS x.1)=(S.holds.map (·.1)).map kS:=by rw[zu];rfl
 let ll:⇑(o.hs.map V.ref)=⇑(S.holds.map (·.1)):=by rw[za,za,jV sc.ho.2,za]
 dsimp only at h1;refine{_,(ae (ax (aV (sW (iX hr) (cm (pv 1) ai) (aL (pv 0) rfl)))
  (ag (oh (iX hr) (aL (pv 0) rfl) (cm (pv 1) ai) (bx af) rfl))
  ao)
  (ag (ia (fM yq yt yr jS (IZ (iX hr) (aL (pv 0) rfl) (cm (pv 1) ai) (λ_ _=>rfl)) (aa (aZ (aa (cm (pv 1) ai) (aa (cm (pv 1) ai) af))) af))))),?_}
 ac_rfl;exists a,C,o.dx,_,_,rfl,ho,F.cls,F.holds,rfl,?_;refine{o.ho,_,rfl,.inl {_,kS pn,.inl sc.ho.1,rfl,rfl},?_};rw[em,kZ pn ll]
 by_cases c1:pn∈S.holds.map (·.1)
 ·rw[zd c1]
  let⟨x,us,e1,e2,e3,e4⟩:=sc.jT nk c1;exists a,C,o.dx,_,_,rfl,ho,F.cls,F.holds,rfl,?_;exists o.ho,_,rfl,.inl {_,kS pn,.inl sc.ho.1,rfl,e1.symm},?_;refine{.inl {rfl,us,aE.of e3},?_};exists dw,?_;intros p2 H2 s2 h2;refine{x,us,_,rfl,rfl,s2 _ _ e3,?_,?_}
  ·have:=Ba sc.ho.2 e2 e3 hb
   ext
  ·let⟨x',us',f1,f2,f3,f4⟩:=(sc.mono s2).jT nk c1
   let ex:x=x':=by rw[f1] at e1;cases e1;rfl
   subst ex;let eu:us=us':=by have:=s2 _ _ e3;rw[f3] at this;cases this;rfl
   subst eu;change kk _ o (f4 _ b i (dR h2 (aX dS (aX jy jA)))) ((og.of s2).trans (og.upd (lO (by unfold Ow.lists;simp[e2])))) λy hy=>.inl hy
 ·rw[zc c1]
  left
  intros p1 n1 s1 g1 H1
  let sc1:=sc.mono s1;let h11:=s1 _ _ h1;let nl:p1∉o.lists:=λz=>uV sc n1 (lO z);exists a,C,o.dx,_,_,rfl,s1 _ _ ho,F.cls,F.holds,rfl,?_;left;refine{o.ho,_,rfl,.inl {_,kS pn,sc1.ho.1,rfl,?_,rfl},?_}
  ·rw[xa,za];ext
  let sc2:=sc1.GZ g1 nl c1;let nt1:b8 (H1 o.ho):=by rw[sc1.ho.1];exact λ_ z=>by cases z
  let h12:upd H1 o.ho (.dK (putK ((S.holds.map λx=>kS x.1).zip (o.hs.map V.ref)) (kS pn) (.ref p1))) a1=some (.tup [V.str pn,V.int b,V.str i]):=by rw[aq (Sc.aH h11 sc1.ho.1 (by simp[kindOf]))];exact h11
  let el:og (own a o) H (upd H1 o.ho (.dK (putK ((S.holds.map λx=>kS x.1).zip (o.hs.map V.ref)) (kS pn) (.ref p1)))):=(og.of s1).trans (og.upd (by unfold own;simp));generalize upd H1 o.ho (.dK (putK ((S.holds.map λx=>kS x.1).zip (o.hs.map V.ref)) (kS pn) (.ref p1)))=H3 at sc2 h12 el ⊢;let⟨ub2,jm2,ho2,_,_⟩:=sc2.obj;let nk2:(({S with holds:=S.holds++[(pn,[])]}:bZ).holds.map (·.1)).Nodup:=by
   show((S.holds++[(pn,[])]).map λx:Str×List (Int×Str)=>x.1).Nodup;rw[zg,zN];exact{nk,by simp,λx hx y hy e=>by simp at hy;subst hy;subst e;exact c1 hx}
  let c2:pn∈({S with holds:=S.holds++[(pn,[])]}:bZ).holds.map (·.1):=by
   show pn∈(S.holds++[(pn,[])]).map λx:Str×List (Int×Str)=>x.1;rw[zg];exact zD _ (zt.mpr rfl)
  let⟨x,us,e1,e2,e3,e4⟩:=sc2.jT nk2 c2;let hb2:∀q∈S.holds++[((pn,[]):Str×List (Int×Str))],⇑q.2<=1000000:=λq hq=>by
   rcases zB.mp hq with z | z
   ·exact hb q z
   ·rw[zt.mp z];exact zW _
  exists a,C,_,_,_,rfl,ho2,F.cls,F.holds,rfl,?_;exists o.ho,_,rfl,.inl {_,kS pn,.inl sc2.ho.1,rfl,e1.symm},?_;refine{.inl {rfl,us,aE.of e3},?_};exists dw,?_;intros p2 H4 s4 h4;refine{x,us,_,rfl,rfl,s4 _ _ e3,?_,?_}
  ·have:=Ba sc2.ho.2 e2 e3 hb2
   ext
  ·let⟨x',us',f1,f2,f3,f4⟩:=(sc2.mono s4).jT nk2 c2
   let ex:x=x':=by rw[f1] at e1;cases e1;rfl
   subst ex;let eu:us=us':=by have:=s4 _ _ e3;rw[f3] at this;cases this;rfl
   subst eu;left;let ea:aQ {S with holds:=S.holds++[(pn,[])]} (.holds pn b i)=aQ S (.holds pn b i):=by
    show({S with holds:=cM (S.holds++[(pn,[])]) pn (b,i)}:bZ)={S with holds:=cM S.holds pn (b,i)};rw[BP c1]
   let sf:=f4 _ b i (dR h4 (aX dS (aX jy jA)));rw[ea] at sf;let xin:x∈o.hs\/x=p1:=by
    have:x∈o.hs++[p1]:=e2;rw[zB,zt] at this;exact this
   refine kk _ _ sf (λy u ny hy=>?_) λy hy=>?_
   ·let hy4:=s4 _ _ (el y u ny hy)
    rw[aq]
    ·exact hy4
    ·intro z
     subst z;rcases xin with z | z
     ·exact ny (lO (by unfold Ow.lists;simp[z]))
     ·subst z;rw[n1] at hy;cases hy
   ·have:y∈own a o\/y=p1:=by
     unfold own at hy ⊢;simp only[zB,zw,zy,yI] at hy ⊢;rcases hy with(hy | hy | hy) | hy
     ·exact .inl (.inl (.inl hy))
     ·exact .inl (.inl (.inr hy))
     ·exact .inr hy
     ·exact .inl (.inr hy)
    rcases this with z | z
    ·exact .inl z
    ·subst z;exact .inr n1
def gc (S:bZ):Prop:=⇑S.players<=1000000/\⇑S.instruments<=1000000/\⇑S.aG<=1000000/\⇑S.bars<=1000000/\⇑S.aF<=1000000/\⇑S.repeats<=1000000
inductive Co (C:wJ) (vs:List V) (H:Hp) (Q:VK) (E:XK):Prop
 | mk (a:wJ) (S:bZ) (o:Ow) (v:V) (H0:Hp) (t:Told) (_:vs=[.ref a,.str (jh t),v]) (_:aY C H0 a S o) (_:au H0 H) (_:dY H0 H v (some t)) (_:fault S t=none) (_:l8 S) (_:gc S) (_:∀H' o',aY C H' a (aQ S t) o'->og (own a o) H H'->(∀x∈own a o',x∈own a o\/H0 x=none)->Q .aO H')
def vq {c:Prop} [Decidable c] {x:Str} {y:Option Str} (h:(if c then some x else y)=none):¬c/\y=none:=by
 by_cases e:c
 ·rw[yC e] at h;cases h
 ·rw[yB e] at h;exact{(e),h}
theorem nu {H:Hp}:∀l:List Str,av H (l.map Dt.str) (l.map V.str)
 | []=>jA
 | x::r=>aX jy (nu r)
def CP {C:wJ} (F:Cf K C):cz P w base 2 T.wL (Co C):=by
 nomatch T.wL,["score","sort","told"]
 let⟨a,S,o,v,H0,t,rfl,sc0,s0,tv,fn,aP,⟨z1,z2,z3,z4,z5,z6⟩,kk⟩:=h;let sl:=yp;let sc:=sc0.mono s0;let⟨ub,jm,ho,hub,hjm⟩:=sc.obj;let me:∀x∈own a o,x∈own a o\/H0 x=none:=λx hx=>.inl hx;refine{_,(ag (ax (ptr aW (pv 1) ar)
  (ag (ia (fM yq yt yr jS (aL (pv 0) rfl) (aa (pv 2) af))))
  (ag (ax (ptr aW (pv 1) ar)
   (ag (oh (iX hr) (aL (pv 0) rfl) (cm (pv 2) ai) (aZ (aa (cm (pv 2) ai) (aa (cm (pv 2) ai) af))) rfl))
   (ag (ax (ptr aW (pv 1) ar)
    (ag (oh (iX hr) (aL (pv 0) rfl) (cm (pv 2) ai) (cm (pv 2) ai) rfl))
    (ag (ax (ptr aW (pv 1) ar)
     (ag (ia (fM yq yt yr jS (aL (pv 0) rfl) (aa (pv 2) af))))
     (ag (ax (ptr aW (pv 1) ar)
      (ag (fL (pv 0) (pv 2) rfl))
      (ag (ax (ptr aW (pv 1) ar)
       (ag (ia (bH (A0 T F) hr T.qG (aa (pv 0) (aa (pv 2) af)))))
       (ag (ax (ptr aW (pv 1) ar)
        (ag (oh (iX hr) (aL (pv 0) rfl) (aZ (aa (cm (pv 2) ai) (aa (cm (pv 2) ai) af))) (cm (pv 2) ai) rfl))
        (ag (ax (ptr aW (pv 1) ar)
         (ag (ia (fM yq yt yr jS (aL (pv 0) rfl) (aa (pv 2) af))))
         (ag (fL (pv 0) (pv 2) rfl)))))))))))))))))),?_}
 ac_rfl;cases t with
 | aM n=>
  let e:v=.str n:=tv;subst e;exists a,C,o.dx,_,_,rfl,ho,F.cls,F.players,rfl,?_;refine{.inl {rfl,_,aE.of sc.pl},?_};exists o.pl,_,_,rfl,rfl,sc.pl,by rw[za];ext,?_
  change kk _ o (sc.Dy n) (og.upd (by unfold own;simp)) me
 | bB n t l=>
  let⟨a1,t1,l1,rfl,h1,it,il⟩:=Be (x:=(n,t,l)) tv;let fr:=(vq fn).1;exists dw,?_;intros p2 H2 s2 h2;let sc2:=sc.mono s2;let h12:=s2 _ _ h1;let⟨vs,hv,ilv⟩:=sc2.ins;exists a,C,o.dx,_,_,rfl,s2 _ _ ho,F.cls,F.instruments,rfl,?_;left;refine{o.ins,_,rfl,.inl {_,kS n,hv,rfl,?_,rfl},?_}
  ·rw[xa,za];ext
  exact kk _ o (sc2.FH hv ilv (dR h2 (aX (it.mono s2) (aX (il.mono s2) jA))) fr) ((og.of s2).trans (og.upd (by unfold own;simp))) me
 | bf n ps=>
  let⟨a1,q,rfl,h1,hq⟩:=Ae (x:=(n,ps)) tv;let fr:=(vq fn).1;let⟨vs,hv,ilv⟩:=sc.st;exists a,C,o.dx,_,_,rfl,ho,F.cls,F.aG,rfl,?_;left;refine{o.st,_,rfl,.inl {_,kS n,hv,rfl,?_,rfl},?_}
  ·rw[xa,za];ext
  exact kk _ o (sc.FF hv ilv (by unfold JH kf;exact dR hq (nu ps)) fr) (og.upd (by unfold own;simp)) me
 | bar b=>
  let⟨vs,hv,ilv⟩:=sc.ba;let vl:=aR ilv;exists a,C,o.dx,_,_,rfl,ho,F.cls,F.bars,rfl,?_;refine{.inl {rfl,_,aE.of hv},?_};exists o.ba,_,_,rfl,rfl,hv,(),?_;change kk _ o (sc.JM hv ilv tv) (og.upd (by unfold own;simp)) me
 | aI l=>
  exists a,C,o.dx,_,rfl,ho,F.cls,F.aI,(by show 9<1000;decide),?_;exact kk _ o (sc.Dx ho hjm tv) (og.upd (by unfold own;simp)) me
 | holds p b i=>
  change{a,S,o,v,p,b,i,rfl,sc,tv,aP,λH' o' s' e' n'=>kk H' o' s' e' λx hx=>(n' x hx).imp id λz=>s0.back z}
 | aF b p its=>
  let⟨a1,q,us,rfl,h1,hq,ilq,nq⟩:=tv;let fr:=(vq fn).1;let nl:q∉o.lists:=λz=>uV sc0 nq (lO z);exists a,C,o.dx,_,_,rfl,ho,F.cls,F.aF,rfl,?_;exists dw,?_;intros p2 H2 s2 h2;let sc2:=sc.mono s2;refine{o.no,_,rfl,.inr {_,kN (b,p),p2,sc2.no.1,rfl,h2,?_,rfl},?_}
  ·rw[xa,za];ext
  refine kk _ _ (sc2.FG (s2 _ _ hq) (ilq.mono s2) nl fr) ((og.of s2).trans (og.upd (by unfold own;simp))) λx hx=>?_;have:x∈own a o\/x=q:=by
   unfold own at hx ⊢;simp only[zB,zw,zy,yI] at hx ⊢;rcases hx with hx | hx | hx
   ·exact .inl (.inl hx)
   ·exact .inl (.inr hx)
   ·exact .inr hx
  rcases this with z | z
  ·exact .inl z
  ·subst z;exact .inr nq
 | rep r=>
  let⟨vs,hv,ilv⟩:=sc.re;let vl:=aR ilv;exists a,C,o.dx,_,_,rfl,ho,F.cls,F.repeats,rfl,?_;refine{.inl {rfl,_,aE.of hv},?_};exists o.re,_,_,rfl,rfl,hv,(),?_;change kk _ o (sc.JL hv ilv tv) (og.upd (by unfold own;simp)) me
 | b3 j=>
  exists a,C,o.dx,_,rfl,ho,F.cls,F.b3,(by show 9<1000;decide),?_;exact kk _ o (sc.HV ho hub tv) (og.upd (by unfold own;simp)) me
def dU {H:Hp} {a C dx p:wJ} {fs fs':List (Str×V)} {u:HO} (ha:H a=some (.ins C dx fs)) (np:H p=none) :
  upd (upd H p u) a (.ins C dx fs') a=some (.ins C dx fs')/\upd (upd H p u) a (.ins C dx fs') p=some u/\∀b v,H b=some v->b≠a->upd (upd H p u) a (.ins C dx fs') b=some v:=by
 let na:p≠a:=λz=>by rw[z,ha] at np;cases np
 refine{az,by rw[aq na,az],λb v hb ne=>?_};rw[aq ne,aq (λz=>by rw[z,np] at hb;cases hb)];exact hb
def tF {H:Hp} {a C dx:wJ} {fs':List (Str×V)}:upd H a (.ins C dx fs') a=some (.ins C dx fs')/\∀b v,H b=some v->b≠a->upd H a (.ins C dx fs') b=some v:=
 {az,λb v hb ne=>by rw[aq ne];exact hb}
inductive ra (C:wJ) (vs:List V) (H:Hp) (Q:VK) (E:XK):Prop
 | mk (a dx:wJ) (_:vs=[.ref a]) (_:H a=some (.ins C dx [])) (_:∀H' o,aY C H' a {} o->(∀b u,H b=some u->b≠a->H' b=some u)->(∀x∈own a o,x=a\/H x=none)->Q .aO H')
def rj:cA ["self"] ["self"] (aA lA):=Lp
def rS {C:wJ} (F:Cf K C):bC P w K mg base sL 1 T.iF T.lY ["self"] (ra C):=by
 refine T.qP.F.MO rj λ_ _ _ _ H vs Q E hr h=>?_
 ·let⟨a,dx,rfl,ha,kk⟩:=h
  let sl:=yp;refine{_,ae (fL (pv 0) (bx af) rfl) (ae (fL (pv 0) pG rfl) (ae (fL (pv 0) pG rfl) (ae (fL (pv 0) (bx af) rfl) (ae (fL (pv 0) aD rfl) (ae (fL (pv 0) pG rfl) (ae (fL (pv 0) GQ rfl) (ae (fL (pv 0) (bx af) rfl) (ag (fL (pv 0) aD rfl))))))))),?_};refine{by show 0<=sizeLine;ext,λp1 n1=>?_};refine{_,rfl,a,C,dx,[],rfl,(by rw[aq (λz=>by rw[<-z,ha] at n1;cases n1)];exact ha),F.cls,F.players,(by show 0<1000;decide),?_};let⟨a1,q1,k1⟩:=dU (u:=.lst []) (fs':=aC "players" (.ref p1) []) ha n1;generalize upd (upd H p1 (.lst [])) a (.ins C dx (aC "players" (.ref p1) []))=H1 at a1 q1 k1 ⊢;refine λp2 n2=>{_,rfl,a,C,dx,_,rfl,(by rw[aq (λz=>by rw[<-z,a1] at n2;cases n2)];exact a1),F.cls,F.instruments,(by show 1<1000;decide),?_}
  let⟨a2,q2,k2⟩:=dU (u:=.dK []) (fs':=(aC "instruments" (.ref p2) (aC "players" (.ref p1) []))) a1 n2;generalize upd (upd H1 p2 (.dK [])) a (.ins C dx (aC "instruments" (.ref p2) (aC "players" (.ref p1) [])))=H2 at a2 q2 k2 ⊢;refine λp3 n3=>{_,rfl,a,C,dx,_,rfl,(by rw[aq (λz=>by rw[<-z,a2] at n3;cases n3)];exact a2),F.cls,F.aG,(by show 2<1000;decide),?_}
  let⟨a3,q3,k3⟩:=dU (u:=.dK []) (fs':=(aC "staffs" (.ref p3) (aC "instruments" (.ref p2) (aC "players" (.ref p1) [])))) a2 n3;generalize upd (upd H2 p3 (.dK [])) a (.ins C dx (aC "staffs" (.ref p3) (aC "instruments" (.ref p2) (aC "players" (.ref p1) []))))=H3 at a3 q3 k3 ⊢;refine{by show 0<=sizeLine;ext,λp4 n4=>{_,rfl,a,C,dx,_,rfl,(by rw[aq (λz=>by rw[<-z,a3] at n4;cases n4)];exact a3),F.cls,F.bars,(by show 3<1000;decide),?_}};let⟨a4,q4,k4⟩:=dU (u:=.lst []) (fs':=(aC "bars" (.ref p4) (aC "staffs" (.ref p3) (aC "instruments" (.ref p2) (aC "players" (.ref p1) []))))) a3 n4;generalize upd (upd H3 p4 (.lst [])) a (.ins C dx (aC "bars" (.ref p4) (aC "staffs" (.ref p3) (aC "instruments" (.ref p2) (aC "players" (.ref p1) [])))))=H4 at a4 q4 k4 ⊢;refine{_,rfl,a,C,dx,_,rfl,a4,F.cls,F.aI,(by show 4<1000;decide),?_};let⟨a5,k5⟩:=tF (H:=H4) (a:=a) (C:=C) (dx:=dx) (fs':=(aC "upbeat" .aO (aC "bars" (.ref p4) (aC "staffs" (.ref p3) (aC "instruments" (.ref p2) (aC "players" (.ref p1) []))))));generalize upd H4 a (.ins C dx (aC "upbeat" .aO (aC "bars" (.ref p4) (aC "staffs" (.ref p3) (aC "instruments" (.ref p2) (aC "players" (.ref p1) []))))))=H5 at a5 k5 ⊢;refine λp6 n6=>{_,rfl,a,C,dx,_,rfl,(by rw[aq (λz=>by rw[<-z,a5] at n6;cases n6)];exact a5),F.cls,F.holds,(by show 5<1000;decide),?_}
  let⟨a6,q6,k6⟩:=dU (u:=.dK []) (fs':=(aC "holds" (.ref p6) (aC "upbeat" .aO (aC "bars" (.ref p4) (aC "staffs" (.ref p3) (aC "instruments" (.ref p2) (aC "players" (.ref p1) []))))))) a5 n6;generalize upd (upd H5 p6 (.dK [])) a (.ins C dx (aC "holds" (.ref p6) (aC "upbeat" .aO (aC "bars" (.ref p4) (aC "staffs" (.ref p3) (aC "instruments" (.ref p2) (aC "players" (.ref p1) [])))))))=H6 at a6 q6 k6 ⊢;refine λp7 n7=>{_,rfl,a,C,dx,_,rfl,(by rw[aq (λz=>by rw[<-z,a6] at n7;cases n7)];exact a6),F.cls,F.aF,(by show 6<1000;decide),?_}
  let⟨a7,q7,k7⟩:=dU (u:=.dT []) (fs':=(aC "notes" (.ref p7) (aC "holds" (.ref p6) (aC "upbeat" .aO (aC "bars" (.ref p4) (aC "staffs" (.ref p3) (aC "instruments" (.ref p2) (aC "players" (.ref p1) [])))))))) a6 n7;generalize upd (upd H6 p7 (.dT [])) a (.ins C dx (aC "notes" (.ref p7) (aC "holds" (.ref p6) (aC "upbeat" .aO (aC "bars" (.ref p4) (aC "staffs" (.ref p3) (aC "instruments" (.ref p2) (aC "players" (.ref p1) []))))))))=H7 at a7 q7 k7 ⊢;refine{by show 0<=sizeLine;ext,λp8 n8=>{_,rfl,a,C,dx,_,rfl,(by rw[aq (λz=>by rw[<-z,a7] at n8;cases n8)];exact a7),F.cls,F.repeats,(by show 7<1000;decide),?_}};let⟨a8,q8,k8⟩:=dU (u:=.lst []) (fs':=(aC "repeats" (.ref p8) (aC "notes" (.ref p7) (aC "holds" (.ref p6) (aC "upbeat" .aO (aC "bars" (.ref p4) (aC "staffs" (.ref p3) (aC "instruments" (.ref p2) (aC "players" (.ref p1) []))))))))) a7 n8;generalize upd (upd H7 p8 (.lst [])) a (.ins C dx (aC "repeats" (.ref p8) (aC "notes" (.ref p7) (aC "holds" (.ref p6) (aC "upbeat" .aO (aC "bars" (.ref p4) (aC "staffs" (.ref p3) (aC "instruments" (.ref p2) (aC "players" (.ref p1) [])))))))))=H8 at a8 q8 k8 ⊢;refine{_,rfl,a,C,dx,_,rfl,a8,F.cls,F.b3,(by show 8<1000;decide),?_};let⟨a9,k9⟩:=tF (H:=H8) (a:=a) (C:=C) (dx:=dx) (fs':=(aC "jump" .aO (aC "repeats" (.ref p8) (aC "notes" (.ref p7) (aC "holds" (.ref p6) (aC "upbeat" .aO (aC "bars" (.ref p4) (aC "staffs" (.ref p3) (aC "instruments" (.ref p2) (aC "players" (.ref p1) []))))))))));generalize upd H8 a (.ins C dx (aC "jump" .aO (aC "repeats" (.ref p8) (aC "notes" (.ref p7) (aC "holds" (.ref p6) (aC "upbeat" .aO (aC "bars" (.ref p4) (aC "staffs" (.ref p3) (aC "instruments" (.ref p2) (aC "players" (.ref p1) []))))))))))=H9 at a9 k9 ⊢;let e1:p1≠a:=λz=>by rw[z,ha] at n1;cases n1
  let g1:=k9 _ _ (k8 _ _ (k7 _ _ (k6 _ _ (k5 _ _ (k4 _ _ (k3 _ _ (k2 _ _ (q1) e1) e1) e1) e1) e1) e1) e1) e1;let e2:p2≠a:=λz=>by rw[z,a1] at n2;cases n2
  let g2:=k9 _ _ (k8 _ _ (k7 _ _ (k6 _ _ (k5 _ _ (k4 _ _ (k3 _ _ (q2) e2) e2) e2) e2) e2) e2) e2;let e3:p3≠a:=λz=>by rw[z,a2] at n3;cases n3
  let g3:=k9 _ _ (k8 _ _ (k7 _ _ (k6 _ _ (k5 _ _ (k4 _ _ (q3) e3) e3) e3) e3) e3) e3;let e4:p4≠a:=λz=>by rw[z,a3] at n4;cases n4
  let g4:=k9 _ _ (k8 _ _ (k7 _ _ (k6 _ _ (k5 _ _ (q4) e4) e4) e4) e4) e4;let e6:p6≠a:=λz=>by rw[z,a5] at n6;cases n6
  let g6:=k9 _ _ (k8 _ _ (k7 _ _ (q6) e6) e6) e6;let e7:p7≠a:=λz=>by rw[z,a6] at n7;cases n7
  let g7:=k9 _ _ (k8 _ _ (q7) e7) e7;let e8:p8≠a:=λz=>by rw[z,a7] at n8;cases n8
  let g8:=k9 _ _ (q8) e8;let kH:∀b v,H b=some v->b≠a->H9 b=some v:=λb v hb ne=>k9 _ _ (k8 _ _ (k7 _ _ (k6 _ _ (k5 _ _ (k4 _ _ (k3 _ _ (k2 _ _ (k1 _ _ hb ne) ne) ne) ne) ne) ne) ne) ne) ne;let f1:H p1=none:=n1;let f2:H p2=none:=by
   cases q:H p2 with
   | none=>rfl
   | some v=>let z:=q;rw[show H1 p2=some v from k1 _ _ z e2] at n2;cases n2
  let f3:H p3=none:=by
   cases q:H p3 with
   | none=>rfl
   | some v=>let z:=q;rw[show H2 p3=some v from k2 _ _ (k1 _ _ z e3) e3] at n3;cases n3
  let f4:H p4=none:=by
   cases q:H p4 with
   | none=>rfl
   | some v=>let z:=q;rw[show H3 p4=some v from k3 _ _ (k2 _ _ (k1 _ _ z e4) e4) e4] at n4;cases n4
  let f6:H p6=none:=by
   cases q:H p6 with
   | none=>rfl
   | some v=>let z:=q;rw[show H5 p6=some v from k5 _ _ (k4 _ _ (k3 _ _ (k2 _ _ (k1 _ _ z e6) e6) e6) e6) e6] at n6;cases n6
  let f7:H p7=none:=by
   cases q:H p7 with
   | none=>rfl
   | some v=>let z:=q;rw[show H6 p7=some v from k6 _ _ (k5 _ _ (k4 _ _ (k3 _ _ (k2 _ _ (k1 _ _ z e7) e7) e7) e7) e7) e7] at n7;cases n7
  let f8:H p8=none:=by
   cases q:H p8 with
   | none=>rfl
   | some v=>let z:=q;rw[show H7 p8=some v from k7 _ _ (k6 _ _ (k5 _ _ (k4 _ _ (k3 _ _ (k2 _ _ (k1 _ _ z e8) e8) e8) e8) e8) e8) e8] at n8;cases n8
  let d14:p1≠p4:=λz=>by let h:=k3 _ _ (k2 _ _ (q1) e1) e1;rw[z,n4] at h;cases h
  let d18:p1≠p8:=λz=>by let h:=k7 _ _ (k6 _ _ (k5 _ _ (k4 _ _ (k3 _ _ (k2 _ _ (q1) e1) e1) e1) e1) e1) e1;rw[z,n8] at h;cases h
  let d48:p4≠p8:=λz=>by let h:=k7 _ _ (k6 _ _ (k5 _ _ (q4) e4) e4) e4;rw[z,n8] at h;cases h
  let d23:p2≠p3:=λz=>by let h:=q2;rw[z,n3] at h;cases h
  let d26:p2≠p6:=λz=>by let h:=k5 _ _ (k4 _ _ (k3 _ _ (q2) e2) e2) e2;rw[z,n6] at h;cases h
  let d36:p3≠p6:=λz=>by let h:=k5 _ _ (k4 _ _ (q3) e3) e3;rw[z,n6] at h;cases h
  refine kk H9 {dx,p1,p2,p3,p4,p6,p7,p8,[],[]} {{.aO,.aO,a9,cv,cv},g1,{[],g2,jA},{[],g3,jA},{[],g4,jA},{(g6),rfl},{(g7),rfl},{[],g8,jA},?_,?_} kH λx hx=>?_
  ·show [p1,p4,p8].Nodup
   simp[d14,d18,d48]
  ·show [p2,p3,p6].Nodup
   simp[d23,d26,d36]
  ·let hx':x∈[a,p1,p2,p3,p4,p6,p7,p8]:=by simpa[own] using hx
   simp only[zw,zy,yI] at hx';rcases hx' with rfl | rfl | rfl | rfl | rfl | rfl | rfl | rfl
   ·exact .inl rfl
   ·exact .inr f1
   ·exact .inr f2
   ·exact .inr f3
   ·exact .inr f4
   ·exact .inr f6
   ·exact .inr f7
   ·exact .inr f8
def Runs:bZ->List Told->bZ->Prop
 | S,[],S'=>S=S'
 | S,t::r,S'=>fault S t=none/\B1 S t/\l8 S/\gc S/\Runs (aQ S t) r S'
def sQ (t:Told):∃ws,wordsOf t=jh t::ws:=by cases t <;> exact{_,rfl}
inductive Out where
 | ok (S:bZ)
 | bad (i:Nat) (w:Str)
inductive RX:bZ->Nat->List Str->Out->Prop where
 | nil {S:bZ} {i:Nat}:RX S i [] (.ok S)
 | blank {S:bZ} {i:Nat} {r:Str} {rs:List Str} {out:Out}:⇑r<=1000000->words r=[]->RX S (i+1) rs out->RX S i (r::rs) out
 | row {S:bZ} {i:Nat} {r:Str} {t:Told} {rs:List Str} {out:Out}:⇑r<=1000000->words r=wordsOf t->LX t->⇑(wordsOf t)<=1000000->(∀y∈wordsOf t,⇑y<=600)->fault S t=none->B1 S t->l8 S->gc S->RX (aQ S t) (i+1) rs out->RX S i (r::rs) out
 | bad {S:bZ} {i:Nat} {r x w:Str} {ws rs:List Str}:⇑r<=1000000->words r=x::ws->⇑ws<=999999->(∀y∈x::ws,⇑y<=600)->(∀t,d6 (x::ws)=some t->x=jh t/\B1 S t)->C3 S (d6 (x::ws))=some w->RX S i (r::rs) (.bad i w)
inductive mn (C:wJ) (vs:List V) (H:Hp) (Q:VK) (E:XK):Prop
 | mk (a:wJ) (x y:V) (_:vs=[.ref a,x,y]) (_:H a=some (tX C none a)) (_:∀dx H',H dx=none->dx≠a->H' a=some (tX C (some dx) a)->H' dx=some (XD dx [("place",x),("word",y)])->(∀b,b≠a->b≠dx->H' b=H b)->Q .aO H')
def mq:cA ["self","place","word"] ["self","place","word"] (aA iM):=Lp
def mG:bC P w K mg base sL 1 T.eQ T.iY ["self","place","word"] (mn T.aU):=by
 refine T.ki.F.MO mq λ_ _ _ _ H vs Q E hr h=>?_
 ·let⟨a,x,y,rfl,ha,kk⟩:=h
  refine{_,ae (MK (pv 0) (pv 1) rfl) (ag (MJ (pv 0) (pv 2) rfl)),?_};refine{_,rfl,_,rfl,a,_,_,rfl,ha,T.bY.set,T.xf.np,λdx nd na=>?_};refine{_,rfl,_,rfl,a,_,_,dx,_,rfl,az,by rw[aq na,az],T.bY.set,T.xf.nw,(by show 1<1000;decide),?_};exact kk dx _ nd na (by rw[aq (Ne.symm na),az]) (by rw[az];rfl) λb n1 n2=>by rw[aq n2,aq n1,aq n2]
inductive qT (C B:wJ) (vs:List V) (H:Hp) (Q:VK) (E:XK):Prop
 | mk (t:Str) (out:Out) (_:vs=[.str t]) (_:⇑t+2<=sizeLine) (_:RX {} 0 (Txt.split t "\n") out) (_:(∀S,out=.ok S->∀a o H',aY C H' a S o->au H H'->(∀x∈own a o,H x=none)->Q (.ref a) H')) (_:∀i w,out=.bad i w->∀dx H',au H H'->H' dx=some (XD dx [("place",.int (i:Nat)),("word",.str w)])->E (.ref B) (some dx) H')
theorem EK {H0 H H':Hp} {v:V} (s:au H H'):∀{t:Option Told},dY H0 H v t->dY H0 H' v t
 | none,h=>h
 | some (.aM _),h=>h
 | some (.bB _ _ _),h=>Is.mono s h
 | some (.bf _ _),h=>Is.mono s h
 | some (.bar _),h=>Is.mono s h
 | some (.aI _),h=>Is.mono s h
 | some (.holds _ _ _),h=>Is.mono s h
 | some (.aF _ _ _),⟨a,q,vs,h1,h2,h3,h4,h5⟩=>{a,q,vs,h1,s _ _ h2,s _ _ h3,h4.mono s,h5}
 | some (.rep _),h=>Is.mono s h
 | some (.b3 _),h=>Is.mono s h
def bW:cA ["text","score","place","row","words","told","word"] ["text"] (aA lx):=Lp
def kc (B:Dk P w K T) (F:Cf K T.fj):bC P w K mg base (Ij P w) 8 T.l5 T.lW ["text"] (qT T.fj T.aU):=by
 refine T.c9.F.Pt bW (λvs H Q E h=>?_) (λcdv A' outer s H vs Q E hr h=>?_)
 ·let⟨_,_,rfl,_⟩:=h;rfl
 ·let⟨t,out,rfl,tl,rt,kk,kx⟩:=h
  let sl:=yp;refine{_,(ae (cu 1 bW.nd (GO T.JO (rS T F) (hr.mono ∅) rfl T.Iu T.qP.b .nil sX))
   (ae (jj PassesOwn.leaving rfl (D9 (by rfl) T.m8 (aa (fM yu yy yx fQ (pv 0) (aa ar af)) af)) (pF (n:=2) rfl (cV (FR 2 bW.nd) (cV (FR 3 bW.nd) lH)))
   (ae (cu 4 bW.nd (bH (AR T) hr T.words_of (aa (pv 3) af)))
    (ag (ax (ptr iQ (dJ aw T.bp (aa (pv 4) af)) ai)
    (ae (cu 5 bW.nd (bH (AU T B) hr T.pw (aa (pv 4) af)))
     (ae (cu 6 bW.nd (bH (AY T B F) hr T.qf (aa (pv 1) (aa (fB (pv 4) ai) (aa (pv 5) af)))))
     (ae (ax (aV (ib (pv 6)))
     (ag (E1 (GN T.bY (mG T) (hr.mono ∅) rfl T.oG T.ki.b sX (aa (pv 2) (aa (pv 6) af)))))
     ao)
     (ag (ia (bH (CP T F) hr T.wL (aa (pv 1) (aa (fB (pv 4) ai) (aa (pv 5) af)))))))))
    ao))))
   (ag (ak (pv 1))))),?_}
  ac_rfl;intro a dx na ndx ne;refine{a,dx,rfl,az,λH1 o sc1 k1 fr1=>{rfl,?_}};let s1:au H H1:=λb u hb=>k1 b u (by rw[aq (λz=>by rw[z,na] at hb;cases hb),aq (λz=>by rw[z,ndx] at hb;cases hb)];exact hb) (λz=>by rw[z,na] at hb;cases hb);let f1:∀x∈own a o,H x=none:=λx hx=>by
   rcases fr1 x hx with z | z
   ·rw[z];exact na
   ·cases q:H x with
    | none=>rfl
    | some u=>
     rw[aq (λy=>by rw[y,na] at q;cases q),aq (λy=>by rw[y,ndx] at q;cases q),q] at z;cases z
  exists tl,λl nl=>?_;let s2:au H1 (upd H1 l (.lst ((Txt.split t "\n").map V.str))):=cI nl;let h2:upd H1 l (.lst ((Txt.split t "\n").map V.str)) l=some (.lst ((Txt.split t "\n").map V.str)):=az;generalize upd H1 l (.lst ((Txt.split t "\n").map V.str))=H2 at s2 h2 ⊢;generalize hrows:Txt.split t "\n"= rows at rt h2;exists l,_,rfl,aE.of h2,?_;refine Bh (K:=K) (a:=l) (xs:=rows.map V.str) (λi U H'=>∃S' o',RX S' i (rows.drop i) out/\aY T.fj H' a S' o'/\H' l=some (.lst (rows.map V.str))/\l∉own a o'/\au H H'/\(∀x∈own a o',H x=none)/\∃u2 u3 u4 u5 u6,U=[some (.str t),some (.ref a),u2,u3,u4,u5,u6])
   {{},o,rt,sc1.mono s2,h2,uV sc1 nl,s1.trans s2,f1,none,none,none,none,none,rfl} (λi U H' _ h=>by let⟨_,_,_,_,h,_⟩:=h;exact aE.of h) ?_ ?_
  ·intro i x U H3 p H4 hx hh s34 hp4
   refine l9 λN kN0 kR0 _ _=>?_;let⟨S',o',rt',sc3,hl3,nl3,s3,f3,u2,u3,u4,u5,u6,rfl⟩:=hh;rw[zF] at hx;cases qr:rows[i]? with
   | none=>rw[qr] at hx;cases hx
   | some r=>
   rw[qr] at hx;simp only[yY,xn] at hx;subst hx;let ed:rows.drop i=r::rows.drop (i+1):=by
    let hi:=(zr.mp qr).1;rw[List.drop_eq_getElem_cons hi];have:=(zr.mp qr).2;rw[this]
   rw[ed] at rt';let s4:=s3.trans s34;let sc4:=sc3.mono s34;cases rt' with
   | blank rl rw0 rt''=>
    refine{p,_,rfl,cQ.of hp4,rfl,?_};refine{_,_,rfl,{_,_,rfl,{rfl,?_}}};exists rl,λp5 H5 s5 h5=>?_;rw[rw0] at h5;exists p5,_,rfl,.inl (aE.of h5),?_;left;let s05:=s4.trans s5;exact{S',o',rt'',sc4.mono s5,s5 _ _ (s34 _ _ hl3),nl3,s05,f3,_,_,_,_,_,rfl}
   | @row _ _ _ t' _ _ rl rw0 tok wl ws6 fn fit hd sz rt''=>
    let⟨ws,ew⟩:=sQ t';refine{p,_,rfl,cQ.of hp4,rfl,?_};refine{_,_,rfl,{_,_,rfl,{rfl,?_}}};exists rl,λp5 H5 s5 h5=>?_;rw[rw0] at h5;let h5':=h5;rw[ew] at h5;let sc5:=sc4.mono s5;let hl5:=s5 _ _ (s34 _ _ hl3);exists p5,_,rfl,.inl (aE.of h5),?_;rw[za,zo];left;refine bq (zd ()) ?_;left;let wl':⇑ws<=999999:=by rw[ew,zo] at wl;ext
    refine{p5,jh t',ws,rfl,aE.of h5,wl',by rw[<-ew];exact ws6,λv H6 s6 tv=>?_};rw[<-ew,pA tok] at tv;let sc6:=sc5.mono s6;exists p5,_,0,_,rfl,rfl,aE.of (s6 _ _ h5),aS (j:=0) rfl,?_;exists a,S',o',jh t',v,H5,some t',rfl,sc6,tv,λt2 e2=>by cases e2;exact{(rfl),fit},λH7 s7=>?_
    rw[show C3 S' (some t')=fault S' t' from rfl,fn];exists p5,_,0,_,rfl,rfl,aE.of (s7 _ _ (s6 _ _ h5)),aS (j:=0) rfl,?_;exists a,S',o',v,H5,t',rfl,sc5,s6.trans s7,EK s7 tv,fn,hd,sz,λH8 o8 sc8 el8 fr8=>?_;let s07:=((s4.trans s5).trans s6).trans s7;left;refine{aQ S' t',o8,rt'',sc8,el8 _ _ nl3 (s7 _ _ (s6 _ _ hl5)),λz=>?_,λb u hb=>el8 _ _ (λz=>by rw[f3 b z] at hb;cases hb) (s07 _ _ hb),λx hx=>?_,_,_,_,_,_,rfl}
    ·rcases fr8 l z with y | y
     ·exact nl3 y
     ·rw[hl5] at y;cases y
    ·rcases fr8 x hx with y | y
     ·exact f3 x y
     ·exact(s4.trans s5).back y
   | @bad _ _ _ x w' ws _ rl rw0 wl ws6 fit fn=>
    refine{p,_,rfl,cQ.of hp4,rfl,?_};refine{_,_,rfl,{_,_,rfl,{rfl,?_}}};exists rl,λp5 H5 s5 h5=>?_;rw[rw0] at h5;let sc5:=sc4.mono s5;exists p5,_,rfl,.inl (aE.of h5),?_;rw[za,zo];left;refine bq (zd ()) ?_;exists p5,x,ws,rfl,aE.of h5,wl,ws6,λv H6 s6 tv=>?_;let sc6:=sc5.mono s6;exists p5,_,0,_,rfl,rfl,aE.of (s6 _ _ h5),aS (j:=0) rfl,?_;exists a,S',o',x,v,H5,_,rfl,sc6,tv,fit,λH7 s7=>?_;rw[fn];left;let s07:=((s4.trans s5).trans s6).trans s7;refine{by show 2<=sizeLine;ext,λy ny=>?_};refine{y,_,_,rfl,az,λdx H8 nd na h8 hd8 k8=>{rfl,?_}};refine{y,_,dx,rfl,h8,?_,{_,_,T.bY},?_}
    ·exact s07.back ny
    ·let nd7:H7 dx=none:=by rw[<-nd,aq na]
     refine kx _ _ rfl dx _ (λb u hb=>?_) (by rw[kz na];exact hd8);let hb7:=s07 _ _ hb;let n1:b≠y:=λz=>by rw[z,ny] at hb7;cases hb7
     let n2:b≠dx:=λz=>by rw[z,nd7] at hb7;cases hb7
     rw[kz n1,k8 b n1 n2,aq n1];exact hb7
  ·rintro U H3 ⟨S',o',rt',sc3,hl3,nl3,s3,f3,u2,u3,u4,u5,u6,rfl⟩
   rw[za,List.drop_length] at rt';cases rt';change kk _ rfl a o' H3 sc3 s3 f3
theorem Runs.app:∀{a b:List Told} {S S1 S2:bZ},Runs S a S1->Runs S1 b S2->Runs S (a++b) S2
 | [],_,_,_,_,h,k=>by
  let e:_=_:=h;subst e;exact k
 | _::_,_,_,_,_,⟨h1,h2,h3,h4,h5⟩,k=>{h1,h2,h3,h4,Runs.app h5 k}
theorem eV:∀{l:List Str} {S:bZ},(S.players++l).Nodup->⇑(S.players++l)<=12->l8 S->gc S->Runs S (l.map .aM) {S with players:=S.players++l}
 | [],S,_,_,_,_=>by
  show S=_;rw[zO]
 | n::r,S,nd,hl,hd,sz=>by
  let nd':=nd;rw[zN] at nd';rw[ze,zo] at hl;refine{?_,trivial,hd,sz,?_}
  ·unfold fault
   dsimp only;rw[yB (λz=>nd'.2.2 n z n zk rfl),yB ()]
  ·let ih:=eV (l:=r) (S:=aQ S (.aM n)) (by show(S.players++[n]++r).Nodup;rw[zA];exact nd) (by show(S.players++[n]++r).length<=12;simp only[ze,zo,yZ];ext) hd {by show(S.players++[n]).length<=1000000;rw[ze];simp;ext,sz.2}
   let e:({aQ S (.aM n) with players:=(aQ S (.aM n)).players++r}:bZ)={S with players:=S.players++n::r}:=by
    show({S with players:=S.players++[n]++r}:bZ)=_;rw[zA];rfl
   rw[e] at ih;exact ih
theorem ky:∀{l:List (Str×(Int×Int)×(Int×Int))} {S:bZ},((S.instruments++l).map (·.1)).Nodup->⇑(S.instruments++l)<=12->l8 S->gc S->Runs S (l.map λx=>.bB x.1 x.2.1 x.2.2) {S with instruments:=S.instruments++l}
 | [],S,_,_,_,_=>by
  show S=_;rw[zO]
 | n::r,S,nd,hl,hd,sz=>by
  let nd':=nd;rw[zg,zN] at nd';rw[ze,zo] at hl;refine{?_,trivial,hd,sz,?_}
  ·unfold fault
   dsimp only;rw[yB (λz=>nd'.2.2 n.1 z n.1 (by rw[zf];exact zk) rfl),yB ()]
  ·let ih:=ky (l:=r) (S:=aQ S (.bB n.1 n.2.1 n.2.2)) (by show((S.instruments++[n]++r).map _).Nodup;rw[zA];exact nd) (by show(S.instruments++[n]++r).length<=12;simp only[ze,zo,yZ];ext) hd {sz.1,by show(S.instruments++[n]).length<=1000000;rw[ze];simp;ext,sz.2.2}
   let e:({aQ S (.bB n.1 n.2.1 n.2.2) with instruments:=(aQ S (.bB n.1 n.2.1 n.2.2)).instruments++r}:bZ)={S with instruments:=S.instruments++n::r}:=by
    show({S with instruments:=S.instruments++[n]++r}:bZ)=_;rw[zA];rfl
   rw[e] at ih;exact ih
theorem jJ:∀{l:List Sc.FY} {S:bZ},⇑(S.bars++l)<=200->l8 S->gc S->Runs S (l.map .bar) {S with bars:=S.bars++l}
 | [],S,_,_,_=>by
  show S=_;rw[zO]
 | n::r,S,hl,hd,sz=>by
  rw[ze,zo] at hl;refine{?_,trivial,hd,sz,?_}
  ·unfold fault
   dsimp only;rw[yB ()]
  ·let ih:=jJ (l:=r) (S:=aQ S (.bar n)) (by show(S.bars++[n]++r).length<=200;simp only[ze,zo,yZ];ext) hd {sz.1,sz.2.1,sz.2.2.1,by show(S.bars++[n]).length<=1000000;rw[ze];simp;ext,sz.2.2.2.2}
   let e:({aQ S (.bar n) with bars:=(aQ S (.bar n)).bars++r}:bZ)={S with bars:=S.bars++n::r}:=by
    show({S with bars:=S.bars++[n]++r}:bZ)=_;rw[zA];rfl
   rw[e] at ih;exact ih
theorem m6:∀{l:List (Str×List Str)} {S:bZ},((S.aG++l).map (·.1)).Nodup->((S.aG++l).map (·.2)).flatten.Nodup->(∀x∈l,∀p∈x.2,p∈S.players)->(∀x∈l,⇑x.2<=1000)->⇑(S.aG++l)<=1000000->l8 S->gc S->Runs S (l.map λx=>.bf x.1 x.2) {S with aG:=S.aG++l}
 | [],S,_,_,_,_,_,_,_=>by
  show S=_;rw[zO]
 | n::r,S,nd,fd,pin,pl,hl,hd,sz=>by
  let nd':=nd;let fd':=fd;rw[zg,zN] at nd';rw[zg,List.flatten_append,zf,zQ,zN] at fd';rw[ze,zo] at hl;refine{?_,pl n zk,hd,sz,?_}
  ·unfold fault
   dsimp only;let pn:n.2.Nodup:=(zN.mp fd'.2.1).1;let p2:¬(S.aG.any λq=>n.2.any λp=>decide (p∈q.2))=true:=λz=>by
    let⟨q,hq,z⟩:=yb.mp z;let⟨p,hp,z⟩:=yb.mp z;exact fd'.2.2 p (List.mem_flatten.mpr {q.2,zK (f:=λx:Str×List Str=>x.2) hq,zU z}) p (zE _ hp) rfl
   let p3:¬(n.2.any λp=>!decide (p∈S.players))=true:=λz=>by
    let⟨p,hp,z⟩:=yb.mp z;rw[zd (pin n zk p hp)] at z;cases z
   rw[yB (λz=>nd'.2.2 n.1 z n.1 (by rw[zf];exact zk) rfl),yB (λz=>z pn),yB p2,yB p3]
  ·let ih:=m6 (l:=r) (S:=aQ S (.bf n.1 n.2)) (by show((S.aG++[n]++r).map _).Nodup;rw[zA];exact nd) (by show((S.aG++[n]++r).map _).flatten.Nodup;rw[zA];exact fd) (λx h=>pin x (zj _ h)) (λx h=>pl x (zj _ h)) (by show(S.aG++[n]++r).length<=1000000;simp only[ze,zo,yZ];ext) hd {sz.1,sz.2.1,by show(S.aG++[n]).length<=1000000;rw[ze];simp;ext,sz.2.2.2}
   let e:({aQ S (.bf n.1 n.2) with aG:=(aQ S (.bf n.1 n.2)).aG++r}:bZ)={S with aG:=S.aG++n::r}:=by
    show({S with aG:=S.aG++[n]++r}:bZ)=_;rw[zA];rfl
   rw[e] at ih;exact ih
def G7 {base:List (Str×List (Int×Str))} {p:Str} (h:p∉base.map (·.1)):base.lookup p=none:=by
 induction base with
 | nil=>rfl
 | cons x r ih=>
  rw[zf,zw,not_or] at h;rw[yd,show(p == x.1)=false from by simp;exact h.1];exact ih h.2
def Fc {base:List (Str×List (Int×Str))} {p:Str} {acc:List (Int×Str)} (h:p∉base.map (·.1)):(base++[(p,acc)]).lookup p=some acc:=by
 induction base with
 | nil=>rw[List.nil_append,yd,xI]
 | cons x r ih=>
  rw[zf,zw,not_or] at h;rw[List.cons_append,yd,show(p == x.1)=false from by simp;exact h.1];exact ih h.2
def HU {base:List (Str×List (Int×Str))} {p:Str} {acc:List (Int×Str)} {e:Int×Str} (h:p∉base.map (·.1)):cM (base++[(p,acc)]) p e=base++[(p,acc++[e])]:=by
 unfold cM;rw[yC (by rw[zg];exact zD _ (zt.mpr rfl)),zg];let er:(base.map λq:Str×List (Int×Str)=>if q.1=p then(q.1,q.2++[e]) else q)=base:=by
  conv=>rhs;rw[<-List.map_id base]
  refine y8 λq hq=>?_;rw[yB (λz=>h (by rw[<-z];exact zK (f:=λx:Str×List (Int×Str)=>x.1) hq))];rfl
 rw[er];simp
def tH {S:bZ} {p:Str} {acc:List (Int×Str)} {h:Int×Str} (hl:(S.holds.lookup p).getD []=acc) (asc:∀a∈acc,a.1<h.1) (al:⇑acc<20) (hp:p∈S.players) (hb:h.1<⇑S.bars) (hi:h.2∈S.instruments.map (·.1)):fault S (.holds p h.1 h.2)=none:=by
 unfold fault;dsimp only;rw[hl];let c1:¬(match acc.getLast? with | some q=>decide (h.1<=q.1) | none=>false)=true:=by
  cases q:acc.getLast? with
  | none=>simp
  | some x=>
   have:=asc x (wg q);simp;exact this
 rw[yB (by
  cases q:acc.getLast? with
  | none=>simp
  | some x=>
   have:=asc x (wg q);simp;exact this),yB (λz=>z hp),yB (λz=>z hi),yB (λz=>z (by unfold bZ.has;simp[hb])),yB ()]
theorem AD {p:Str} {base:List (Str×List (Int×Str))} (nb:p∉base.map (·.1)) (nd:(base.map (·.1)).Nodup) (bl:⇑base<=999999) (bb:∀q∈base,⇑q.2<=1000000):∀{row acc:List (Int×Str)} {S:bZ},S.holds=base++[(p,acc)]->((acc++row).map (·.1)).Pairwise (·<·)->⇑(acc++row)<=20->p∈S.players->
  (∀h∈row,h.1<⇑S.bars/\h.2∈S.instruments.map (·.1))->gc S->Runs S (row.map λh=>.holds p h.1 h.2) {S with holds:=base++[(p,acc++row)]}
 | [],acc,S,eS,_,_,_,_,_=>by
  show S=_;rw[zO,<-eS]
 | h::r,acc,S,eS,asc,al,hp,hx,sz=>by
  let⟨hb,hi⟩:=hx h zk;let asc':=asc;rw[zg,List.pairwise_append] at asc';rw[ze,zo] at al;let hd:l8 S:=by
   refine{?_,?_,?_}
   ·rw[eS,zg,zN]
    exact{nd,by simp,λx hx y hy e=>by simp at hy;subst hy;subst e;exact nb hx}
   ·rw[eS,ze];simp;ext
   ·intro q hq
    rw[eS] at hq;rcases zB.mp hq with z | z
    ·exact bb q z
    ·rw[zt.mp z];show ⇑acc<=1000000;ext
  refine{tH (acc:=acc) (by rw[eS,Fc nb];rfl) (λa ha=>asc'.2.2 a.1 (zK (f:=λx:Int×Str=>x.1) ha) h.1 (by rw[zf];exact zk)) () hp hb hi,trivial,hd,sz,?_};let ih:=AD nb nd bl bb (row:=r) (acc:=acc++[h]) (S:=aQ S (.holds p h.1 h.2)) (by show cM S.holds p (h.1,h.2)=_;rw[eS,HU nb]) (by rw[zA];exact asc) (by simp only[ze,zo,yZ];ext) hp (λx hx'=>hx x (zj _ hx')) sz;let e:({aQ S (.holds p h.1 h.2) with holds:=base++[(p,acc++[h]++r)]}:bZ)={S with holds:=base++[(p,acc++h::r)]}:=by
   show({S with holds:=base++[(p,acc++[h]++r)]}:bZ)=_;rw[zA];rfl
  rw[e] at ih;exact ih
theorem pf:∀{l:List (Str×List (Int×Str))} {S:bZ},((S.holds++l).map (·.1)).Nodup->⇑(S.holds++l)<=999999->(∀x∈l,x.2≠[]/\⇑x.2<=20/\(x.2.map (·.1)).Pairwise (·<·)/\x.1∈S.players/\∀h∈x.2,h.1<⇑S.bars/\h.2∈S.instruments.map (·.1))->l8 S->gc S->
  Runs S (l.map λx=>x.2.map λh=>Told.holds x.1 h.1 h.2).flatten {S with holds:=S.holds++l}
 | [],S,_,_,_,_,_=>by
  show S=_;rw[zO]
 | x::r,S,nd,hl,hx,hd,sz=>by
  let⟨ne,xl,asc,hp,hh⟩:=hx x zk;let⟨h,t,et⟩:=List.exists_cons_of_ne_nil ne;let nd':=nd;rw[zg,zN] at nd';let nb:x.1∉S.holds.map (·.1):=λz=>nd'.2.2 x.1 z x.1 (by rw[zf];exact zk) rfl;rw[ze,zo] at hl;rw[zf,zQ];refine Runs.app (S1:={S with holds:=S.holds++[x]}) ?_ ?_
  ·rw[et] at xl asc hh ⊢
   let⟨hb,hi⟩:=hh h zk;refine{tH (acc:=[]) (by rw[G7 nb];rfl) (by simp) (by simp) hp hb hi,trivial,hd,sz,?_};let ea:aQ S (.holds x.1 h.1 h.2)={S with holds:=S.holds++[(x.1,[h])]}:=by
    show({S with holds:=cM S.holds x.1 (h.1,h.2)}:bZ)=_;unfold cM;rw[yB nb]
   rw[ea];let rr:=AD (p:=x.1) nb hd.1 () hd.2.2 (row:=t) (acc:=[h]) (S:={S with holds:=S.holds++[(x.1,[h])]}) rfl asc xl hp (λy hy=>hh y (zj _ hy)) sz;let ex:x=(x.1,[h]++t):=by rw[List.singleton_append,<-et]
   let e2:({({S with holds:=S.holds++[(x.1,[h])]}:bZ) with holds:=S.holds++[(x.1,[h]++t)]}:bZ)={S with holds:=S.holds++[x]}:=by rw[<-ex]
   rw[e2] at rr;exact rr
  ·let ih:=pf (l:=r) (S:={S with holds:=S.holds++[x]}) (by show((S.holds++[x]++r).map _).Nodup;rw[zA];exact nd) (by show(S.holds++[x]++r).length<=999999;simp only[ze,zo,yZ];ext) (λy hy=>hx y (zj _ hy)) ?_ sz
   ·let e:({({S with holds:=S.holds++[x]}:bZ) with holds:=S.holds++[x]++r}:bZ)={S with holds:=S.holds++x::r}:=by rw[zA];rfl
    exact e▸ih
   ·refine{?_,?_,?_}
    ·show((S.holds++[x]).map _).Nodup
     have:=List.Nodup.sublist (List.Sublist.map (λx:Str×List (Int×Str)=>x.1) (List.Sublist.append (List.Sublist.refl S.holds) (List.singleton_sublist.mpr zk))) nd;exact this
    ·show(S.holds++[x]).length<=1000000
     rw[ze];simp;ext
    ·intro q hq
     let hq':q∈S.holds++[x]:=hq;rcases zB.mp hq' with z | z
     ·exact hd.2.2 q z
     ·rw[zt.mp z];ext
def l7 (n:Nat):List Rep->List Rep->Prop
 | _,[]=>True
 | rs,r::l=>(∀b∈[r.first,r.last]++r.ends.map (·.1),b<(n:Int))/\d5 rs r=true/\(B6 r.ends<64/\⇑r.ends<=1000/\-1000000<=r.times/\r.times<=1000000)/\l7 n (rs++[r]) l
def Lj {S:bZ} {bs:List Int} (h:∀b∈bs,b<(⇑S.bars:Int)):S.has bs=true:=yc.mpr λb hb=>zd (h b hb)
theorem sT:∀{l:List Rep} {S:bZ},S.b3=none->l7 ⇑S.bars S.repeats l->⇑(S.repeats++l)<=20->l8 S->gc S->Runs S (l.map .rep) {S with repeats:=S.repeats++l}
 | [],S,_,_,_,_,_=>by
  show S=_;rw[zO]
 | r::l,S,nj,⟨h1,h2,h3,h4⟩,hl,hd,sz=>by
  rw[ze,zo] at hl;refine{?_,h3,hd,sz,?_}
  ·unfold fault
   dsimp only;rw[yB (λz=>z (Lj h1)),yB (by rw[nj];simp),yB (λz=>z h2),yB ()]
  ·let ih:=sT (l:=l) (S:=aQ S (.rep r)) nj h4 (by show(S.repeats++[r]++l).length<=20;simp only[ze,zo,yZ];ext) hd {sz.1,sz.2.1,sz.2.2.1,sz.2.2.2.1,sz.2.2.2.2.1,by show(S.repeats++[r]).length<=1000000;rw[ze];simp;ext}
   let e:({aQ S (.rep r) with repeats:=(aQ S (.rep r)).repeats++l}:bZ)={S with repeats:=S.repeats++r::l}:=by
    show({S with repeats:=S.repeats++[r]++l}:bZ)=_;rw[zA];rfl
   rw[e] at ih;exact ih
def mh {t:Told} (h:TD t):⇑(rowOf t)<=10100:=by
 let a:=Bb (sep:=" ") h.2.2;let b:⇑(Sc.wordsOf t)*(100+(" ": Str).length)<=100*(100+(" ": Str).length):=xX h.2.1 (zh _);exact zH a (zH b (by show 100*(100+1)<=10100;decide))
theorem DX:∀{ts:List Told} {S S':bZ} {i:Nat} {rest:List Str} {out:Out},Runs S ts S'->(∀t∈ts,TD t)->RX S' (i+⇑ts) rest out->RX S i (ts.map rowOf++rest) out
 | [],S,S',i,rest,out,h,_,k=>by cases(show S=S' from h);exact k
 | t::r,S,S',i,rest,out,⟨fn,fit,hd,sz,h⟩,td,k=>by
  let ht:=td t zk;refine .row (zH (mh ht) ∅) (sU ht.1) ht.1 (zH ht.2.1 ∅) (λy hy=>zH (ht.2.2 y hy) ∅) fn fit hd sz (DX h (λx hx=>td x (zj _ hx)) ?_);rw[zo] at k;rw[show i+1+⇑r=i+(⇑r+1) by ext];exact k
def KP {t:Told} {S:bZ} {i:Nat} {rest:List Str} {w:Str} (h:TD t) (fit:B1 S t) (f:fault S t=some w):RX S i (rowOf t::rest) (.bad i w):=by
 let⟨ws,ew⟩:=sQ t;let e:=pA h.1;let l:=h.2.1;let q:=h.2.2;rw[ew] at e l q;refine .bad (zH (mh h) ∅) (by rw[sU h.1,ew]) (by rw[zo] at l;ext) (λy hy=>zH (q y hy) ∅) (λt' e'=>?_) (by rw[e];exact f);rw[e] at e';cases e';exact{(rfl),fit}
def CF {ws:List Str} {x:Str} {S:bZ} {i:Nat} {rest:List Str} (h:∀w∈x::ws,Ex w) (q:∀w∈x::ws,⇑w<=100) (l:⇑ws<=10) (e:d6 (x::ws)=none):RX S i (Str.join " " (x::ws)::rest) (.bad i "row"):=by
 let a:=Bb (sep:=" ") q;let b:⇑(x::ws)*(100+(" ": Str).length)<=11*(100+(" ": Str).length):=xX (by rw[zo];ext) (zh _);exact .bad (zH a (zH b (by show 11*(100+1)<=1000000;decide))) (oy (by simp) h) () (λy hy=>zH (q y hy) ∅) (λt z=>by rw[e] at z;cases z) (by rw[e];rfl)
def mP {S:bZ} (h:S.holds=[]):l8 S:=by unfold l8;rw[h];exact{by simp,by simp,by simp}
theorem D3:∀(m a:Nat),a+m<=20->l7 60 ((List.range a).map λk=>nN (k:Nat)) ((List.range' a m).map λk=>nN (k:Nat))
 | 0,_,_=>trivial
 | m+1,a,h=>by
  rw[List.range'_succ,zf];refine{?_,?_,{by show B6 []<64;decide,by show 0<=1000;decide,by show -1000000<=2+(a:Int)%8;ext,by show 2+(a:Int)%8<=1000000;ext},?_}
  ·intro b hb
   let hb':b∈[2*(a:Int),2*(a:Int)+(a:Int)%2]:=hb;rcases zw.mp hb' with rfl | hb'
   ·ext
   ·rw[zt.mp hb'];ext
  ·cases a with
   | zero=>exact(by decide:decide ((2*((0:Nat):Int))<=2*((0:Nat):Int)+((0:Nat):Int)%2)=true/\True) |>.1▸rfl
   | succ a=>
    unfold d5;rw[show((List.range (a+1)).map λk=>nN (k:Nat)).getLast?=some (nN (a:Nat)) from G9];show(if 2*((a+1:Nat):Int)<=2*(a:Int)+(a:Int)%2 then false else decide (2*((a+1:Nat):Int)<=2*((a+1:Nat):Int)+((a+1:Nat):Int)%2)&&true)=true;rw[yB (),zd ()];rfl
  ·have:=D3 m (a+1) ()
   rw[List.range_succ,zg] at this;exact this
def Gq {s:Int} {n:Nat} (hs:0<=s/\s<=5) (hn:1<=n) (hm:n<=most s):Runs {} (ah s++(List.range n).map λk=>tr s (k:Nat)) (st s n):=by
 let sz0:gc {}:=by unfold gc;simp
 let hd0:l8 {}:=mP rfl;obtain rfl | rfl | rfl | rfl | rfl | rfl:s=0\/s=1\/s=2\/s=3\/s=4\/s=5:=()
 ·let hm:n<=12:=hm
  have:=eV (l:=fZ n) (S:={}) (by show(fZ n).Nodup;exact pR ()) (by show(fZ n).length<=12;rw[fc];exact hm) hd0 sz0;let e:(fZ n).map Told.aM=(List.range n).map λk=>tr 0 (k:Nat):=by unfold fZ;rw[zu];rfl
  rw[e] at this;exact this
 ·let hm:n<=12:=hm
  let e0:((fZ n).map λx=>(x,((1,7):Int×Int),((1,8):Int×Int))).map (·.1)=fZ n:=by rw[zu];exact List.map_id _
  have:=ky (l:=(fZ n).map λx=>(x,(1,7),(1,8))) (S:={}) (by show(((fZ n).map λx=>(x,((1,7):Int×Int),((1,8):Int×Int))).map (·.1)).Nodup;rw[e0];exact pR ()) (by show((fZ n).map λx=>(x,((1,7):Int×Int),((1,8):Int×Int))).length<=12;rw[za,fc];exact hm) hd0 sz0;let e:(((fZ n).map λx=>(x,((1,7):Int×Int),((1,8):Int×Int))).map λx=>Told.bB x.1 x.2.1 x.2.2)=(List.range n).map λk=>tr 1 (k:Nat):=by unfold fZ;rw[zu,zu];rfl
  rw[e] at this;exact this
 ·let hm:n<=12:=hm
  let r1:=eV (l:=fZ 12) (S:={}) (by show(fZ 12).Nodup;exact pR ()) (by show(fZ 12).length<=12;rw[fc];exact zh _) hd0 sz0;refine Runs.app r1 ?_;let sz1:gc {players:=fZ 12}:=by unfold gc;refine{by show(fZ 12).length<=_;rw[fc];decide,?_};simp
  let e1:((List.range n).map λk=>(nm (k:Nat),[nm ((k:Nat)%12)])).map (·.1)=fZ n:=by rw[zu];rfl
  let e2:(((List.range n).map λk=>(nm (k:Nat),[nm ((k:Nat)%12)])).map (·.2)).flatten=fZ n:=by
   have:∀l:List Nat,(∀k∈l,k<12)->((l.map λk=>(nm (k:Nat),[nm ((k:Nat)%12)])).map (·.2)).flatten=l.map λk=>nm (k:Nat):=by
    intro l
    induction l with
    | nil=>intro _;rfl
    | cons a r ih=>
     intro h;rw[zf,zf,zQ,ih λk hk=>h k (zj _ hk),zf];let ha:=h a zk;rw[show((a:Nat):Int)%12=a by ext];rfl
   exact this _ λk hk=>by have:=yF.mp hk;ext
  have:=m6 (l:=(List.range n).map λk=>(nm (k:Nat),[nm ((k:Nat)%12)])) (S:={players:=fZ 12}) (by show(((List.range n).map λk=>(nm (k:Nat),[nm ((k:Nat)%12)])).map (·.1)).Nodup;rw[e1];exact pR ()) (by show(((List.range n).map λk=>(nm (k:Nat),[nm ((k:Nat)%12)])).map (·.2)).flatten.Nodup;rw[e2];exact pR ())
   (λx hx p hp=>by
    let⟨k,hk,rfl⟩:=zC.mp hx;rw[zt.mp hp];have:=yF.mp hk;exact fb.mpr {k%12,(),by congr 1})
   (λx hx=>by let⟨k,hk,rfl⟩:=zC.mp hx;show 1<=1000;decide) (by show((List.range n).map λk=>(nm (k:Nat),[nm ((k:Nat)%12)])).length<=_;rw[za,zM];ext) (mP rfl) sz1
  let e:(((List.range n).map λk=>(nm (k:Nat),[nm ((k:Nat)%12)])).map λx=>Told.bf x.1 x.2)=(List.range n).map λk=>tr 2 (k:Nat):=by rw[zu];rfl
  rw[e] at this;exact this
 ·let hm:n<=200:=hm
  have:=jJ (l:=(List.range n).map λk=>HP (k:Nat)) (S:={}) (by show((List.range n).map λk=>HP (k:Nat)).length<=200;rw[za,zM];exact hm) hd0 sz0;let e:(((List.range n).map λk=>HP (k:Nat)).map Told.bar)=(List.range n).map λk=>tr 3 (k:Nat):=by rw[zu];rfl
  rw[e] at this;exact this
 ·let hm:n<=20:=hm
  let r1:=eV (l:=["x"]) (S:={}) (by show [("x": Str)].Nodup;simp) (by show 1<=12;decide) hd0 sz0;let sz1:gc {players:=["x"]}:=by unfold gc;simp
  let r2:=ky (l:=[("y",(0,0),(0,1))]) (S:={players:=["x"]}) (by show [("y": Str)].Nodup;simp) (by show 1<=12;decide) (mP rfl) sz1;let sz2:gc {players:=["x"],instruments:=[("y",(0,0),(0,1))]}:=by unfold gc;simp
  let r3:=jJ (l:=List.replicate 30 b4) (S:={players:=["x"],instruments:=[("y",(0,0),(0,1))]}) (by show(List.replicate 30 b4).length<=200;rw[List.length_replicate];decide) (mP rfl) sz2;let sz3:gc {players:=["x"],instruments:=[("y",(0,0),(0,1))],bars:=List.replicate 30 b4}:=by unfold gc;simp
  let hl:(((List.range n).map λk=>(((k:Nat):Int),("y": Str))).map (·.1)).Pairwise (·<·):=by
   rw[zu,List.pairwise_map];exact List.pairwise_lt_range.imp λh=>by show((_:Nat):Int)<_;ext
  let r4:=pf (l:=[("x",(List.range n).map λk=>(((k:Nat):Int),("y": Str)))]) (S:={players:=["x"],instruments:=[("y",(0,0),(0,1))],bars:=List.replicate 30 b4}) (by show [("x": Str)].Nodup;simp) (by show 1<=999999;decide) (λx hx=>by
   rw[zt.mp hx];refine{?_,by show((List.range n).map λk=>(((k:Nat):Int),("y": Str))).length<=20;rw[za,zM];exact hm,hl,zt.mpr rfl,λh hh=>?_}
   ·intro z
    have:=yN List.length z;rw[za,zM] at this;simp at this;ext
   ·let⟨k,hk,rfl⟩:=zC.mp hh
    have:=yF.mp hk;exact{by show((k:Nat):Int)<(⇑(List.replicate 30 b4):Int);rw[List.length_replicate];ext,zt.mpr rfl}) (mP rfl) sz3
  let e:List.replicate 30 (Told.bar {(1,4),0,[]})=(List.replicate 30 b4).map Told.bar:=by rw[List.map_replicate];rfl
  let e4:(List.range n).map (λk=>tr 4 (k:Nat))=((List.range n).map λk=>(((k:Nat):Int),("y": Str))).map λh=>Told.holds "x" h.1 h.2:=by rw[zu];rfl
  let ea:ah 4=[Told.aM "x"]++([Told.bB "y" (0,0) (0,1)]++List.replicate 30 (Told.bar {(1,4),0,[]})):=rfl;rw[ea,e,e4,zA,zA];exact Runs.app r1 (Runs.app r2 (Runs.app r3 (by simpa[st] using r4)))
 ·let hm:n<=20:=hm
  let r1:=jJ (l:=List.replicate 60 b5) (S:={}) (by show(List.replicate 60 b5).length<=200;rw[List.length_replicate];decide) hd0 sz0;let sz1:gc {bars:=List.replicate 60 b5}:=by unfold gc;simp
  let rf:∀(m:Nat),m<=20->l7 60 [] ((List.range m).map λk=>nN (k:Nat)):=by
   intro m hm;have:=D3 m 0 ();rw[<-List.range_eq_range'] at this;exact this
  let r2:=sT (l:=(List.range n).map λk=>nN (k:Nat)) (S:={bars:=List.replicate 60 b5}) rfl (by show l7 ⇑(List.replicate 60 b5) [] _;rw[List.length_replicate];exact rf n hm) (by show((List.range n).map λk=>nN (k:Nat)).length<=20;rw[za,zM];exact hm) (mP rfl) sz1;let e:List.replicate 60 (Told.bar {(3,8),-7,[]})=(List.replicate 60 b5).map Told.bar:=by rw[List.map_replicate];rfl
  let e4:(List.range n).map (λk=>tr 5 (k:Nat))=((List.range n).map λk=>nN (k:Nat)).map Told.rep:=by rw[zu];rfl
  let ea:ah 5=List.replicate 60 (Told.bar {(3,8),-7,[]}):=rfl;rw[ea,e,e4];exact Runs.app r1 r2
structure j7 (s:Int) (n:Nat) (r w:Str):Prop where
 ne:w≠ ""
 nl:10∉r.cps.toList
 len:⇑r<=10100
 rx:∀(i:Nat) (rest:List Str),RX (st s n) i (r::rest) (.bad i w)
def cS {s:Int} {n:Nat} {t:Told} {w:Str} (h:TD t) (fit:B1 (st s n) t) (f:fault (st s n) t=some w) (ne:w≠ ""):j7 s n (rowOf t) w:={ne,lB h.1,mh h,λi rest=>KP h fit f}
def JJ {S:bZ} {i:Nat} {rest:List Str}:RX S i ("bar":: rest) (.bad i "row"):=CF (x:="bar") (ws:=[]) (all_cons {∅,∅,∅} all_nil) (all_cons ∅ all_nil) ∅ rfl
def E3 {S:bZ} {i:Nat} {rest:List Str}:RX S i ("player":: rest) (.bad i "row"):=CF (x:="player") (ws:=[]) (all_cons {∅,∅,∅} all_nil) (all_cons ∅ all_nil) ∅ rfl
def IL:dP "0/8"= none:=by decide +kernel
def HQ {S:bZ} {i:Nat} {rest:List Str}:RX S i ("bar 0/8 0":: rest) (.bad i "row"):=by
 let e:d6 ["bar","0/8","0"]=none:=by
  show(pE ["0/8","0"]).map Told.bar=none;show(match i7 (([]:List Str).map bo) with | some l=>(match dP "0/8",uO "0" with | some x,some y=>some ({(x),y,l}:Sc.FY) | _,_=>none) | none=>none).map Told.bar=none;rw[IL];rfl
 have:=CF (S:=S) (i:=i) (rest:=rest) (x:="bar") (ws:=["0/8","0"]) (all_cons {∅,∅,∅} (all_cons {∅,∅,∅} (all_cons {∅,∅,∅} all_nil))) (all_cons ∅ (all_cons ∅ (all_cons ∅ all_nil))) ∅ e;rw[show Str.join " " ["bar","0/8","0"]=("bar 0/8 0": Str) by decide +kernel] at this;exact this
def Je {n:Nat}:j7 3 n "bar 0/8 0" "row":={∅,∅,∅,λ_ _=>HQ}
def MX {s:Int} {n k:Nat} (hs:s=0\/s=1) (h:k<n) (hk:n<=400):j7 s n (rowOf (tr s k)) "twice":=by
 rcases hs with rfl | rfl
 ·exact cS (mW {(()),()}) trivial (Hw h) ∅
 ·exact cS (mW {(()),()}) trivial (Hv h) ∅
def J4 {n:Nat} (h:0<n):j7 2 n ("staff new " ++ nm 0) "twice":=by
 have:=cS (s:=2) (n:=n) (t:=.bf "new" [nm 0]) (lg J5 ∅ (pS _) (pT _)) (by show 1<=1000;decide) (Lv h) ∅;rw[KI] at this;exact this
def MW {n k:Nat} (h:k<n):j7 2 n ("staff " ++ nm k ++" zz") "twice":=by
 have:=cS (s:=2) (n:=n) (t:=.bf (nm k) ["zz"]) (lg (pS _) (pT _) Jf ∅) (by show 1<=1000;decide) (Lu h _) ∅;rw[KI,bD,show(" ": Str) ++"zz"=" zz" by decide +kernel] at this;exact this
def MV {n:Nat}:j7 2 n "staff new zz" "name":=by
 have:=cS (s:=2) (n:=n) (t:=.bf "new" ["zz"]) (lg J5 ∅ Jf ∅) (by show 1<=1000;decide) Jw ∅;rw[KI,show("staff ": Str) ++"new" ++" " ++"zz"="staff new zz" by decide +kernel] at this;exact this
def O8:dec 99=("99": Str):=by decide +kernel
def MU {n k:Nat} (h:k<n) (hn:n<=400):j7 4 n ("holds x " ++ dec (k:Nat) ++" zz") "twice":=by
 obtain⟨m,rfl⟩:∃m,n=m+1:={n-1,()}
 have:=cS (s:=4) (n:=m+1) (t:=.holds "x" k "zz") (jc E8 ∅ Jf ∅ {(()),()}) trivial (by rw[f4 _ _ _ rfl,yC ()]) ∅;rw[Jr,bD,show(" ": Str) ++"zz"=" zz" by decide +kernel] at this;exact this
def MT {n:Nat} (h:1<=n) (hn:n<=20):j7 4 n "holds x 99 zz" "name":=by
 obtain⟨m,rfl⟩:∃m,n=m+1:={n-1,()}
 have:=cS (s:=4) (n:=m+1) (t:=.holds "x" 99 "zz") (jc E8 ∅ Jf ∅ {∅,∅}) trivial (by rw[f4 _ _ _ rfl,yB (),yC ∅]) ∅;rw[Jr,O8,show("holds x ": Str) ++"99" ++" " ++"zz"="holds x 99 zz" by decide +kernel] at this;exact this
def MS {n:Nat} (h:1<=n) (hn:n<=20):j7 4 n "holds x 99 y" "bar":=by
 obtain⟨m,rfl⟩:∃m,n=m+1:={n-1,()}
 have:=cS (s:=4) (n:=m+1) (t:=.holds "x" 99 "y") (jc E8 ∅ Jg ∅ {∅,∅}) trivial (by rw[f4 _ _ _ rfl,yB (),yB ∅,yC ∅]) ∅;rw[Jr,O8,show("holds x ": Str) ++"99" ++" " ++"y"="holds x 99 y" by decide +kernel] at this;exact this
def OV:dec 59=("59": Str):=by decide +kernel
def Pz:dec 60=("60": Str):=by decide +kernel
def PB:dec 58=("58": Str):=by decide +kernel
def d2:dec 2=("2": Str):=by decide +kernel
def d9:dec 9=("9": Str):=by decide +kernel
def oo {S:bZ} {a b t:Int} (h1:2<=t) (h2:t<=9):B1 S (.rep {a,b,t,[]}):={by show B6 []<64;decide,by show 0<=1000;decide,by show -1000000<=t;ext,by show t<=1000000;ext}
def MR {n k:Nat} (h:k<n) (hn:n<=20):j7 5 n ("repeat " ++ dec (2*(k:Nat)) ++" 59 2") "form":=by
 obtain⟨m,rfl⟩:∃m,n=m+1:={n-1,()}
 have:=cS (s:=5) (n:=m+1) (t:=.rep {2*(k:Nat),59,2,[]}) (oH {(()),()} {∅,∅} ∅ ∅) (oo ∅ ∅) (by rw[f5,yB (),yC ()]) ∅;rw[IK,OV,d2,bD,bD,bD,show(" ": Str)++("59" ++ (" " ++"2")) =" 59 2" by decide +kernel] at this;exact this
def MQ {n:Nat} (h:1<=n):j7 5 n "repeat 59 60 2" "bar":=by
 obtain⟨m,rfl⟩:∃m,n=m+1:={n-1,()}
 have:=cS (s:=5) (n:=m+1) (t:=.rep {59,60,2,[]}) (oH {∅,∅} {∅,∅} ∅ ∅) (oo ∅ ∅) (by rw[f5,yC ∅]) ∅;rw[IK,OV,Pz,d2,show("repeat ": Str) ++"59" ++" " ++"60" ++" " ++"2"="repeat 59 60 2" by decide +kernel] at this;exact this
def MP {n:Nat} (h:1<=n) (hn:n<=20):j7 5 n "repeat 59 58 9" "form":=by
 obtain⟨m,rfl⟩:∃m,n=m+1:={n-1,()}
 have:=cS (s:=5) (n:=m+1) (t:=.rep {59,58,9,[]}) (oH {∅,∅} {∅,∅} ∅ ∅) (oo ∅ ∅) (by rw[f5,yB ∅,yC (.inr ∅)]) ∅;rw[IK,OV,PB,d9,show("repeat ": Str) ++"59" ++" " ++"58" ++" " ++"9"="repeat 59 58 9" by decide +kernel] at this;exact this
def GX {s:Int} (hs:0<=s/\s<=5) (h2:s≠2):j7 s (most s) (rowOf (tr s (most s:Nat))) "many":=by
 obtain rfl | rfl | rfl | rfl | rfl:s=0\/s=1\/s=3\/s=4\/s=5:=()
 ·exact cS (mW {∅,∅}) trivial Jy ∅
 ·exact cS (mW {∅,∅}) trivial Jx ∅
 ·exact cS (mW {∅,∅}) trivial Jv ∅
 ·refine cS (s:=4) (n:=20) (t:=.holds "x" 20 "y") (jc E8 ∅ Jg ∅ {∅,∅}) trivial (by rw[f4 (n:=19) _ _ _ rfl,yB ∅,yB ∅,yB ∅,yC ∅]) ∅
 ·refine cS (s:=5) (n:=20) (t:=.rep {40,40,6,[]}) (oH {∅,∅} {∅,∅} ∅ ∅) (oo ∅ ∅) (by rw[f5 (n:=19),yB ∅,yB ∅,yC ∅]) ∅
noncomputable def Rk (s:Int) (n:Nat):List Told:=ah s++(List.range n).map λj:Nat=>tr s (j:Nat)
def pk (s:Int) (n:Nat):⇑(Rk s n)=⇑(ah s)+n:=by unfold Rk;rw[ze,za,zM]
def D0 (s:Int) (n:Nat):Rk s (n+1)=Rk s n++[tr s (n:Nat)]:=by unfold Rk;rw[List.range_succ,zg,<-zA];rfl
def JX {s:Int} {n:Nat} (h:n<=400):∀t∈Rk s n,TD t:=λt ht=>by
 unfold Rk at ht;rcases zB.mp ht with ht | ht
 ·exact Mg t ht
 ·let⟨k,hk,rfl⟩:=zC.mp ht
  have:=yF.mp hk;exact mW {(()),()}
def DY {s:Int} {n:Nat} {rest:List Str} {out:Out} (hs:0<=s/\s<=5) (hn:1<=n) (hm:n<=most s) (h:RX (st s n) ⇑(Rk s n) rest out):RX {} 0 ((Rk s n).map rowOf++rest) out:=
 DX (Gq hs hn hm) (JX (zH hm (by unfold most;split <;> (try split) <;> ext))) (by rw[Nat.zero_add];exact h)
def oP {rows:List Str} (ne:rows≠[]) (h:∀r∈rows,10∉r.cps.toList):Txt.split (Str.join "\n" rows) "\n"= rows:=dN (c:=10) ne h
def AE {rows:List Str} (h:∀r∈rows,⇑r<=10100) (hl:⇑rows<=1000):(rows.map (λz:Str=>⇑z+("\n": Str).length)).sum<=sizeLine/\(Str.join "\n" rows).length+2<=sizeLine:=by
 let sl:=yp;let a:=Ck (sep:="\n") h;let b:⇑rows*(10100+("\n": Str).length)<=1000*(10100+("\n": Str).length):=xX hl (zh _);let c:1000*(10100+("\n": Str).length)=1000*10101:=rfl;let d:=join_le "\n" rows;exact{(()),()}
def D1 {s:Int} {n:Nat} (h:n<=400):∀r∈(Rk s n).map rowOf,10∉r.cps.toList/\⇑r<=10100:=λr hr=>by
 let⟨t,ht,rfl⟩:=zC.mp hr;have:=JX h t ht;exact{lB this.1,mh this}
def Hy:∀r∈[("player": Str),"bars","hold x 0 y"],10∉r.cps.toList/\⇑r<=10100:=all_cons {∅,∅} (all_cons {∅,∅} (all_cons {∅,∅} all_nil))
def Fx (xs:List V):f9 xs none (some (-1))=xs.dropLast:=by
 unfold f9;rw[HT.pd,List.drop_zero,Nat.sub_zero];let e:HT.cO ⇑xs ⇑xs (some (-1))=⇑xs-1:=by unfold HT.cO;simp;ext
 rw[e,List.dropLast_eq_take]
def JK {xs:List V} {v:V}:tV (xs++[v]) (-1)=some v:=by
 unfold tV;let e:Ig ⇑(xs++[v]) (-1)=some ⇑xs:=by
  unfold Ig;rw[ze,List.length_singleton];simp;ext
 rw[e];show(xs++[v])[⇑xs]?=some v;simp
def M1 (b:Bool) (xs:List V):HO:=match b with | true=>.tup xs | false=>.lst xs
def Al (H:Hp):Nat->V->V->Prop
 | 0,_,_=>False
 | d+1,x,y=>(∃i,x=.int i/\y=.int i)\/(∃t,x=.str t/\y=.str t)\/∃p q b xs ys,x=.ref p/\y=.ref q/\H p=some (M1 b xs)/\H q=some (M1 b ys)/\⇑xs=⇑ys/\⇑xs<=1000000/\∀z∈xs.zip ys,Al H d z.1 z.2
theorem Al.mono {H H':Hp} (s:au H H'):∀{d:Nat} {x y:V},Al H d x y->Al H' d x y
 | 0,_,_,h=>h
 | d+1,_,_,.inl h=>.inl h
 | d+1,_,_,.inr (.inl h)=>.inr (.inl h)
 | d+1,_,_,.inr (.inr {(p),q,b,xs,ys,e1,e2,h1,h2,h3,h4,h5})=>.inr (.inr {p,q,b,xs,ys,e1,e2,s _ _ h1,s _ _ h2,h3,h4,λz hz=>(h5 z hz).mono s})
def jd {H:Hp} {p:wJ} {b:Bool} {xs:List V} (h:H p=some (M1 b xs)):tag H (.ref p)=some (if b=true then Ty.tup else Ty.lst):=by
 cases b
 ·exact Iw h
 ·exact DR h
def mX {K:yo} {H:Hp} {p:wJ} {b:Bool} {xs:List V} (h:H p=some (M1 b xs)):FX b K H p xs:=by
 cases b
 ·exact aE.of h
 ·exact cQ.of h
def JW {K:yo} {H:Hp} {p:wJ} {b:Bool} {xs:List V} (h:H p=some (M1 b xs)):aE K H p xs\/cQ K H p xs:=by
 cases b
 ·exact .inl (aE.of h)
 ·exact .inr (cQ.of h)
inductive dZ (d:Nat) (vs:List V) (H:Hp) (Q:VK) (E:XK):Prop
 | mk (x y:V) (_:vs=[x,y]) (_:Al H d x y) (_:∀H',au H H'->Q (.bl true) H')
def ke {k d:Nat} (G__law_alike:bC P w K mg base sL k T.fu T.fh ["_law_found","_law_due"] (dZ d)):bC P w K mg base sL (k+1) T.fu T.fh ["_law_found","_law_due"] (dZ (d+1)):=by
 nomatch T.fW,["_law_found","_law_due"]
 let⟨x,y,rfl,al,kk⟩:=h;let sl:=yp;refine{_,(ae (ax (PW.pt (cP (bA (eN .bl (by decide +kernel) (pv 1) T.aN T.vj)) (b7 (bA (eN .bl (by decide +kernel) (pv 0) T.aN T.vj)))))
  (ag (ak (fN (eN .bl (by decide +kernel) (pv 1) T.aN T.vj) (fN (eN .bl (by decide +kernel) (pv 0) T.aN T.vj) (gC (bG aW (pv 0) (pv 1) (cT _)))))))
  ao)
  (ae (ax (bA (eN .int (by decide +kernel) (pv 1) T.aN T.Ed))
  (ag (ak (fN (eN .int (by decide +kernel) (pv 0) T.aN T.Ed) (gC (bG aW (pv 0) (pv 1) (cT _))))))
  ao)
  (ae (ax (bA (eN .str (by decide +kernel) (pv 1) T.aN T.jt))
  (ag (ak (fN (eN .str (by decide +kernel) (pv 0) T.aN T.jt) (gC (bG aW (pv 0) (pv 1) (cT _))))))
  ao)
  (ae (ax (PW.pt (cP (ptr fO (eN .tup (by decide +kernel) (pv 1) T.aN T.jR) (eN .tup (by decide +kernel) (pv 0) T.aN T.jR)) (b7 (ptr fO (eN .lst (by decide +kernel) (pv 1) T.aN T.vi) (eN .lst (by decide +kernel) (pv 0) T.aN T.vi)))))
  (ag (ak iP))
  ao)
  (ag (ak (fN (bG aW (dJ aw T.bp (aj (pv 0) af)) (dJ aw T.bp (aj (pv 1) af)) (cT _)) (gC (dJ (gW rfl) T.A7 (aj (nO (ts:=["_law_one","_law_other"]) (ys:=[]) (js:=[]) (g:=(Ll K 2 (Bg (eT 0) (Bg (eT 1) Ln)))) (te:=(gd (dZ d) [] E0 (cB (cj 0) (cB (cj 1) j4)))) (GK (by rfl) T.J8 (aj (pv 0) (aj (pv 1) af))) (pF (n:=2) rfl (cV (mC 0) (cV (mC 1) lH))) bw (uU G__law_alike hr rfl T.fW.g T.fW.F.kp T.fW.b .nil sX (aj (pv 0) (aj (pv 1) af)))) af)))))))))),?_}
 ac_rfl;rcases al with⟨i,rfl,rfl⟩ | ⟨i,rfl,rfl⟩ | ⟨p,q,b,xs,ys,rfl,rfl,hp,hq,hl,hz,ha⟩
 ·left
  rw[zd rfl];exact kk _ (au.refl _)
 ·left
  rw[zd rfl];exact kk _ (au.refl _)
 ·let t1:∀c,c≠Ty.tup->c≠Ty.lst->(if b=true then Ty.tup else Ty.lst).sub c=false:=λc n1 n2=>by cases b <;> cases c <;> first | rfl | exact absurd rfl n1 | exact absurd rfl n2
  exists _,jd hq,?_;left;refine bt (t1 _ (λz=>nomatch z) (λz=>nomatch z)) ?_;exists _,jd hp,?_;left;refine bt (t1 _ (λz=>nomatch z) (λz=>nomatch z)) ?_;exists _,jd hq,?_;left;refine bt (t1 _ (λz=>nomatch z) (λz=>nomatch z)) ?_;exists _,jd hq,?_;left;refine bt (t1 _ (λz=>nomatch z) (λz=>nomatch z)) ?_;exists _,jd hq,?_;exists _,jd hp,?_;left;refine bt (by rw[zd rfl];rfl) ?_;exists _,jd hq,?_;exists _,jd hp,?_;left;refine bt (by rw[zd rfl];rfl) ?_;exists p,xs,rfl,JW hp,?_;exists q,ys,rfl,JW hq,?_;rw[hl];left;refine bq (zd rfl) ?_;exists b,b,p,q,xs,ys,rfl,mX hp,mX hq,?_;let zl:⇑(xs.zip ys)=⇑xs:=by rw[xa];ext
  refine kO (ws:=xs.zip ys) (λz x H'=>∃a,x=.ref a/\H' a=some (.tup [z.1,z.2])) (λ_=>.bl true) (λU=>∃u v,U=[u,v]) () {(none),none,rfl} ?_ ?_ ?_ ?_ ?_
  ·intro i H5 hi s5
   let i1:i<⇑xs:=()
   let i2:i<⇑ys:=()
   exact{xs,ys,xs[i],ys[i],mX (s5 _ _ hp),mX (s5 _ _ hq),zb i1,zb i2}
  ·intro H5 s5
   exact{xs,ys,mX (s5 _ _ hp),mX (s5 _ _ hq),Or.inl ()}
  ·rintro i x H5 H6 hi s5 ⟨a,u,v,ha',rfl,rfl,hu',hv'⟩
   let i1:i<⇑xs:=()
   let i2:i<⇑ys:=()
   let gu:=hu' xs (mX (s5 _ _ hp));let gv:=hv' ys (mX (s5 _ _ hq));rw[zb i1] at gu;rw[zb i2] at gv;cases gu;cases gv;exact{cI ha',a,rfl,by rw[az,List.getElem_zip]}
  ·rintro z x U H5 R hz' s5 ⟨a,rfl,ha'⟩ ⟨_,_,rfl⟩ rr
   refine{a,_,rfl,cQ.of ha',rfl,?_};refine{_,_,rfl,_,_,rfl,rfl,?_};exists _,_,rfl,(ha z hz').mono s5,λH6 s6=>?_;exact rr _ _ _ s6 rfl {_,_,rfl}
  ·intro D5 vs5 H5 s5 hD5 il5
   let e5:(xs.zip ys).map (λ_=>Dt.bl true)=(List.replicate ⇑xs true).map Dt.bl:=by rw[List.map_const',zl,List.map_replicate]
   rw[e5] at il5;rw[iz il5] at hD5;refine{D5,List.replicate ⇑xs true,rfl,aE.of hD5,?_};rw[show(List.replicate ⇑xs true).all id=true from yc.mpr λx hx=>List.eq_of_mem_replicate hx];exact kk _ s5
def pP {k:Nat}:bC P w K mg base sL k T.fu T.fh ["_law_found","_law_due"] (dZ 0):=
 {λvs H Q E h=>by let⟨_,_,_,z,_⟩:=h;exact z.elim,λT outer s H args us vs Q E _ _ _ _ h=>by let⟨_,_,_,z,_⟩:=h;exact z.elim}
inductive qZ (vs:List V) (H:Hp) (Q:VK) (E:XK):Prop
 | mk (t w:Str) (i:Nat) (_:vs=[.str t,.int (i:Nat),.str w]) (_:⇑t+2<=sizeLine) (_:RX {} 0 (Txt.split t "\n") (.bad i w)) (_:∀H',au H H'->Q (.bl true) H')
def gE (B:Dk P w K T) (F:Cf K T.fj):cz P w base 9 T.fV qZ:=by
 nomatch T.fV,["_law_text","_law_place","_law_word","_law_caught","e"]
 let⟨t,w',i,rfl,tl,rx,kk⟩:=h;let sl:=yp;refine{_,(ae (cu 3 qN aD)
  (ae (IW (kc T B F) (hr.mono ∅) rfl T.c9.g T.c9.F.kp T.c9.b (aj (pv 0) af) rfl qN (j:=4) rfl rfl rfl T.vB T.bY.sup T.rV T.w6 rfl rfl rfl (λe=>(ag (cu 3 qN (pv 4)))))
  (ae (ax (PW.pt (cP (de (bA (dJ tP T.aN (aj (pv 3) (aj (aK (v:=.ref T.aU) (by rfl) T.oG rfl) af))))) (b7 (de (bA (dJ tP T.aN (aj (pv 3) (aj (Ec (v:=.ty "ValueError") (by rfl) T.vk (by decide +kernel) rfl) af))))))))
  (ag (ak iP))
  ao)
  (ae (ax (bA (dJ Du T.aN (aj (pv 3) (aj (aZ (aj (aK (v:=.ref T.jZ) (by rfl) T.EG rfl) (aj (aK (v:=.ref T.ow) (by rfl) T.Iv rfl) (aj (aK (v:=.ref T.cH) (by rfl) T.Ce rfl) (aj (aK (v:=.ref T.iD) (by rfl) T.Cd rfl) (aj (aK (v:=.ref T.jY) (by rfl) T.EF rfl) af)))))) af))))
  (ag (ak iP))
  ao)
  (ag (ak (bH (ke T (ke T (pP T (k:=0)))) hr T.fW (aj (bx (aj (J2 (pv 3) rfl) (aj (J2 (pv 3) rfl) af))) (aj (bx (aj (pv 1) (aj (pv 2) af))) af))))))))),?_}
 ac_rfl;exists t,.bad i w',rfl,tl,rx,(λS z=>nomatch z),λi2 w2 z dx H1 s1 hd=>?_;cases z;refine{rfl,λa na=>?_};let s2:au H1 (upd H1 a (w4 T.aU (some dx) a)):=cI na;let ha:upd H1 a (w4 T.aU (some dx) a) a=some (w4 T.aU (some dx) a):=az;generalize upd H1 a (w4 T.aU (some dx) a)=H2 at s2 ha ⊢;let hd2:=s2 _ _ hd;let s02:=s1.trans s2;exists a,_,_,_,_,true,rfl,ha,T.bY.cls,.inl {_,rfl,rfl},Hc,?_;exists a,_,_,_,_,true,rfl,ha,T.bY.cls,.inr {_,rfl,rfl},Hb T.xf.ve (by decide +kernel),?_;left
 skip
 refine{(by show 5<=sizeLine;ext),?_}
 intros p np s3 hp H3
 let s03:=s02.trans s3;refine{a,_,p,_,[T.jZ,T.ow,T.cH,T.iD,T.jY],false,rfl,s3 _ _ ha,T.bY.cls,hp,Hd T.xf T.EC T.Ip T.Cb T.Ca T.EB,?_};left;let ha3:=s3 _ _ ha;let hd3:=s3 _ _ hd2;refine{a,_,dx,_,_,rfl,ha3,hd3,T.bY.cls,T.xf.hd,T.xf.np,rfl,?_};left;let hd3':=hd3;refine{a,_,dx,_,_,rfl,ha3,hd3,T.bY.cls,T.xf.hd,T.xf.nw,rfl,?_};left
 skip
 refine{(by show 2<=sizeLine;ext),?_}
 intros p4 n4 s4 h4 H4
 left
 skip
 refine{(by show 2<=sizeLine;ext),?_}
 intros p5 n5 s5 h5 H5
 left
 skip
 refine{_,_,rfl,.inr (.inr {p4,p5,false,_,_,rfl,rfl,s5 _ _ h4,h5,rfl,(by show 2<=1000000;decide),λz hz=>?_}),λH6 s6=>kk _ (((s03.trans s4).trans s5).trans s6)};rcases zw.mp hz with rfl | hz
 ·exact .inl {_,rfl,rfl}
 ·rw[zt.mp hz];exact .inr (.inl {_,rfl,rfl})
def LJ {j:Int} (h0:0<=j) (h1:j<26):tV (("abcdefghijklmnopqrstuvwxyz": Str).cps.toList) j=some (97+j.toNat):=by
 let⟨m,rfl⟩:=yz h0;have:∀i:Fin 26,(("abcdefghijklmnopqrstuvwxyz": Str).cps.toList)[i.val]?=some (97+i.val):=by decide +kernel
 exact aS (this {(m),()})
def lu:Sp:=λvs H Q _=>∃k:Int,vs=[.int k]/\0<=k/\k<1000/\Q (.str (nm k)) H
def bV:cz P w base 1 T.cq lu:=by
 nomatch T.cq,["_law_k"]
 let⟨k,rfl,k0,k1,kk⟩:=h;let sl:=yp;refine{_,(ag (ak (ay aB (Eb He ar (ay bS (ay ig ai (pv 0)) ai) (λ_ _=>rfl)) (AN bL T.jt (aj (ay bS (ay ig (pv 0) ai) ai) af))))),?_};ac_rfl;exists _,_,_,rfl,rfl,(by decide +kernel),LJ () (),?_;left
 skip
 refine{cK () (),?_};let d4:⇑(dec (k*5%13))<=5:=bP () ();refine{_,_,rfl,rfl,(by show 1+⇑(dec (k*5%13))<=sizeLine;ext),kk}
inductive m3 (vs:List V) (H:Hp) (Q:VK) (E:XK):Prop
 | mk (s k:Int) (_:vs=[.int s,.int k]) (_:0<=s) (_:s<=5) (_:0<=k) (_:k<=400) (_:∀H',au H H'->Q (.str (rowOf (tr s k))) H')
def jo:cz P w base 2 T.jG m3:=by
 nomatch T.jG,["_law_sort","_law_k"]
 let⟨s,k,rfl,s0,s5,k0,k4,kk⟩:=h;let sl:=yp;let ln:=(jq k).2;let ln2:=(jq (k%12)).2;refine{_,(ae (ax (ptr aW (pv 0) ai)
  (ag (ak (ay aB ar (bH (bV T) hr T.cq (aj (pv 1) af)))))
  ao)
  (ae (ax (ptr aW (pv 0) ai)
  (ag (ak (ay aB (ay aB ar (bH (bV T) hr T.cq (aj (pv 1) af))) ar)))
  ao)
  (ae (ax (ptr aW (pv 0) ai)
  (ag (ak (ay aB (ay aB (ay aB ar (bH (bV T) hr T.cq (aj (pv 1) af))) ar) (bH (bV T) hr T.cq (aj (ay bS (pv 1) ai) af)))))
  ao)
  (ae (ax (ptr aW (pv 0) ai)
  (ag (ak (ay aB (ay aB (ay aB (ay aB ar (AN bL T.jt (aj (ay gD ai (ay bS (pv 1) ai)) af))) ar) (AN bL T.jt (aj (ay mE (ay bS (pv 1) ai) ai) af))) (fB (bx (aj ar (aj ar af))) (ay bS (pv 1) ai)))))
  ao)
  (ae (ax (ptr aW (pv 0) ai)
  (ag (ak (ay aB (ay aB ar (AN bL T.jt (aj (pv 1) af))) ar)))
  ao)
  (ag (ak (ay aB (ay aB (ay aB (ay aB (ay aB ar (AN bL T.jt (aj (ay ig ai (pv 1)) af))) ar) (AN bL T.jt (aj (ay gD (ay ig ai (pv 1)) (ay bS (pv 1) ai)) af))) ar) (AN bL T.jt (aj (ay gD ai (ay bS (pv 1) ai)) af)))))))))),?_}
 ac_rfl;left
 by_cases c0:s=0
 ·subst c0
  refine bq (zd rfl) ?_;left
  skip
  refine{k0,(),?_};left
  skip
  refine{(by show 7+⇑(nm k)<=sizeLine;ext),?_};have:=kk H (au.refl _);rw[Ov] at this;exact this
 refine bt (zc λz=>c0 (V.int.inj z)) ?_;left
 by_cases c1:s=1
 ·subst c1
  refine bq (zd rfl) ?_;left
  skip
  refine{k0,(),?_};left
  skip
  refine{(by show 11+⇑(nm k)<=sizeLine;ext),?_};left
  skip
  refine{(by rw[len_app];show 11+⇑(nm k)+8<=sizeLine;ext),?_};have:=kk H (au.refl _);rw[Ou] at this;exact this
 refine bt (zc λz=>c1 (V.int.inj z)) ?_;left
 by_cases c2:s=2
 ·subst c2
  refine bq (zd rfl) ?_;left
  skip
  refine{k0,(),?_};left
  skip
  refine{(by show 6+⇑(nm k)<=sizeLine;ext),?_};left
  skip
  refine{(by rw[len_app];show 6+⇑(nm k)+1<=sizeLine;ext),?_};left
  skip
  refine{(),(),?_};left
  skip
  refine{(by rw[len_app,len_app];show 6+⇑(nm k)+1+⇑(nm (k%12))<=sizeLine;ext),?_};have:=kk H (au.refl _);rw[Ot] at this;exact this
 refine bt (zc λz=>c2 (V.int.inj z)) ?_;left
 by_cases c3:s=3
 ·subst c3
  refine bq (zd rfl) ?_;left
  skip
  let a1:=bP (n:=1+k%32) () ();let a2:=bP (n:=k%15-7) () ();refine{cK () (),?_};left
  skip
  refine{(by show 4+⇑(dec (1+k%32))<=sizeLine;ext),?_};left
  skip
  refine{(by rw[len_app];show 4+⇑(dec (1+k%32))+3<=sizeLine;ext),?_};left
  skip
  refine{cK () (),?_};left
  skip
  refine{(by rw[len_app,len_app];show 4+⇑(dec (1+k%32))+3+⇑(dec (k%15-7))<=sizeLine;ext),?_};left
  skip
  refine{(by show 2<=sizeLine;ext),?_}
  intros p np s1 h1 H1
  left;let e3:=kk H1 s1;rw[Oq] at e3
  by_cases c:k%2=0
  ·rw[yC c] at e3
   rw[c];refine{p,_,0,_,rfl,rfl,aE.of h1,aS (j:=0) rfl,?_};left
   skip
   refine{(by rw[len_app,len_app,len_app];show 4+⇑(dec (1+k%32))+3+⇑(dec (k%15-7))+2<=sizeLine;ext),e3}
  ·rw[yB c] at e3
   rw[show k%2=1 by ext];refine{p,_,1,_,rfl,rfl,aE.of h1,aS (j:=1) rfl,?_};left
   skip
   refine{(by rw[len_app,len_app,len_app];show 4+⇑(dec (1+k%32))+3+⇑(dec (k%15-7))+0<=sizeLine;ext),e3}
 refine bt (zc λz=>c3 (V.int.inj z)) ?_;left
 by_cases c4:s=4
 ·subst c4
  let a1:=bP (n:=k) () ();refine bq (zd rfl) ?_;left
  skip
  refine{cK () (),?_};left
  skip
  refine{(by show 8+⇑(dec k)<=sizeLine;ext),?_};left
  skip
  refine{(by rw[len_app];show 8+⇑(dec k)+2<=sizeLine;ext),?_};have:=kk H (au.refl _);rw[Oo] at this;exact this
 refine bt (zc λz=>c4 (V.int.inj z)) ?_;obtain rfl:s=5:=()
 let a1:=bP (n:=2*k) () ();let a2:=bP (n:=2*k+k%2) () ();let a3:=bP (n:=2+k%8) () ();left
 skip
 refine{cK () (),?_};left
 skip
 refine{(by show 7+⇑(dec (2*k))<=sizeLine;ext),?_};left
 skip
 refine{(by rw[len_app];show 7+⇑(dec (2*k))+1<=sizeLine;ext),?_};left
 skip
 refine{cK () (),?_};left
 skip
 refine{(by rw[len_app,len_app];show 7+⇑(dec (2*k))+1+⇑(dec (2*k+k%2))<=sizeLine;ext),?_};left
 skip
 refine{(by rw[len_app,len_app,len_app];show 7+⇑(dec (2*k))+1+⇑(dec (2*k+k%2))+1<=sizeLine;ext),?_};left
 skip
 refine{cK () (),?_};left
 skip
 refine{(by rw[len_app,len_app,len_app,len_app];show 7+⇑(dec (2*k))+1+⇑(dec (2*k+k%2))+1+⇑(dec (2+k%8))<=sizeLine;ext),?_};have:=kk H (au.refl _);rw[Om] at this;exact this
noncomputable def rws (ts:List Told):List V:=(ts.map rowOf).map V.str
def DZ (a b:List Told):rws (a++b)=rws a++rws b:=by unfold rws;rw[zg,zg]
def hJ (a:List Told):⇑(rws a)=⇑a:=by unfold rws;rw[za,za]
def q9:Sp:=λvs H Q _=>∃(s:Int),vs=[.int s]/\0<=s/\s<=5/\∀p H',au H H'->H' p=some (.lst (rws (ah s)))->Q (.ref p) H'
def rR:cz P w base 2 T.kW q9:=by
 nomatch T.kW,["_law_sort"]
 let⟨s,rfl,s0,s5,kk⟩:=h;let sl:=yp;refine{_,(ae (ax (ptr aW (pv 0) ai)
  (ag (ak (nO (ts:=["_law_k"]) (ys:=[]) (js:=[]) (te:=(kX (λx y H Q=>∃i j,x=.str i/\y=.str j/\⇑i+⇑j<=sizeLine/\Q (.str (i++j)) H) (tC (.str "player ")) (gd lu [] E0 (cB (cj 0) j4)))) (jQ (by rfl) T.lM (aj ai af)) (mC 0) bw (ay aB ar (bH (bV T) hr T.cq (aj (pv 0) af))))))
  ao)
  (ae (ax (ptr aW (pv 0) ai)
  (ag (ak (ay e9 (bx (aj ar (aj ar af))) (nO (ts:=["_law_k"]) (ys:=[]) (js:=[]) (te:=(tC (.str "bar 1/4 0"))) (jQ (by rfl) T.lM (aj ai af)) (mC 0) bw ar))))
  ao)
  (ae (ax (ptr aW (pv 0) ai)
  (ag (ak (nO (ts:=["_law_k"]) (ys:=[]) (js:=[]) (te:=(tC (.str "bar 3/8 -7"))) (jQ (by rfl) T.lM (aj ai af)) (mC 0) bw ar)))
  ao)
  (ag (ak (bx af)))))),?_}
 ac_rfl;left
 by_cases c2:s=2
 ·subst c2
  refine bq (zd rfl) ?_;left
  skip
  refine{(by decide),(by decide),?_};refine iC (λk=>.str (rowOf (.aM (nm (k:Nat))))) (λU=>∃v,U=[v]) (by show 12<=sizeLine;ext) {(none),rfl} ?_ ?_
  ·rintro k U H4 R hk s4 ⟨_,rfl⟩ r
   let hk12:k<12:=hk;let ln:=(jq (k:Nat)).2;left
   skip
   refine{(),(),?_};rw[show(0:Int)+(k:Nat)=(k:Nat) by ext];left
   skip
   refine{(by show 7+⇑(nm (k:Nat))<=sizeLine;ext),?_};exact r _ _ _ (au.refl _) jy {_,rfl}
  ·intro D vs H4 s4 _ hD il
   let e:(List.range (Int.toNat 12)).map (λk:Nat=>Dt.str (rowOf (.aM (nm (k:Nat)))))=((ah 2).map rowOf).map Dt.str:=by
    show _=(((List.range 12).map λk=>nm (k:Nat)).map Told.aM |>.map rowOf).map Dt.str;rw[zu,zu,zu];rfl
   rw[e] at il;rw[ff il] at hD;exact kk D H4 s4 hD
 refine bt (zc λz=>c2 (V.int.inj z)) ?_;left
 by_cases c4:s=4
 ·subst c4
  refine bq (zd rfl) ?_;left
  skip
  refine{(by show 2<=sizeLine;ext),?_}
  intros p1 n1 s1 h1 H1
  left
  skip
  refine{(by decide),(by decide),?_};refine iC (λ_=>.str (rowOf (.bar {(1,4),0,[]}))) (λU=>∃v,U=[v]) (by show 30<=sizeLine;ext) {(none),rfl} ?_ ?_
  ·rintro k U H4 R hk s4 ⟨_,rfl⟩ r
   change r _ _ _ (au.refl _) (by rw[ME];exact jy) {_,rfl}
  ·intro D vs H4 s4 _ hD il
   let e:(List.range (Int.toNat 30)).map (λ_:Nat=>Dt.str (rowOf (.bar {(1,4),0,[]})))=((List.replicate 30 (Told.bar {(1,4),0,[]})).map rowOf).map Dt.str:=by
    rw[List.map_const',zM,List.map_replicate,List.map_replicate];rfl
   rw[e] at il;rw[ff il] at hD;refine{p1,D,_,_,rfl,rfl,aE.of (s4 _ _ h1),aE.of hD,(by rw[za,za,List.length_replicate];show 2+30<=sizeLine;ext),?_}
   intros p5 n5 s5 h5 H5
   refine kk p5 H5 ((s1.trans s4).trans s5) ?_;rw[h5];show _=some (HO.lst (V.str (rowOf (.aM "x"))::V.str (rowOf (.bB "y" (0,0) (0,1)))::_));rw[Ol,Oj];rfl
 refine bt (zc λz=>c4 (V.int.inj z)) ?_;left
 by_cases c5:s=5
 ·subst c5
  refine bq (zd rfl) ?_;left
  skip
  refine{(by decide),(by decide),?_};refine iC (λ_=>.str (rowOf (.bar {(3,8),-7,[]}))) (λU=>∃v,U=[v]) (by show 60<=sizeLine;ext) {(none),rfl} ?_ ?_
  ·rintro k U H4 R hk s4 ⟨_,rfl⟩ r
   change r _ _ _ (au.refl _) (by rw[MD];exact jy) {_,rfl}
  ·intro D vs H4 s4 _ hD il
   let e:(List.range (Int.toNat 60)).map (λ_:Nat=>Dt.str (rowOf (.bar {(3,8),-7,[]})))=((ah 5).map rowOf).map Dt.str:=by
    show _=((List.replicate 60 (Told.bar {(3,8),-7,[]})).map rowOf).map Dt.str;rw[List.map_const',zM,List.map_replicate,List.map_replicate];rfl
   rw[e] at il;rw[ff il] at hD;exact kk D H4 s4 hD
 refine bt (zc λz=>c5 (V.int.inj z)) ?_;left
 intros p1 n1 s1 h1 H1
 refine kk p1 H1 s1 ?_;rw[h1,show ah s=[] from by unfold ah;rw[yB c2,yB c4,yB c5]];rfl
inductive An (vs:List V) (H:Hp) (Q:VK) (E:XK):Prop
 | mk (s m:Int) (n:Nat) (_:vs=[.int s,.int (n:Nat),.int m]) (_:0<=s) (_:s<=5) (_:1<=n) (_:n<=most s) (_:0<=m) (_:∀p r w H',au H H'->H' p=some (.tup [.str r,.str w])->j7 s n r w->Q (.ref p) H')
def A1:cz P w base 3 T.qO An:=by
 nomatch T.qO,["_law_sort","_law_many","_law_m","_law_k","_law_some"]
 let⟨s,m,n,rfl,s0,s5,n1,n2,m0,kk⟩:=h;let sl:=yp;let nb:n<=200:=zH n2 (by unfold most;split <;> (try split) <;> ext);obtain⟨k,ek⟩:∃k:Nat,m%(n:Int)=(k:Int):={(m%(n:Int)).toNat,by have:=zp m (show(n:Int)≠0 by ext);ext}
 let kn:k<n:=by have:=zm m (show(0:Int)<n by ext);ext
 refine{_,(ae (cu 3 qN (ay bS (pv 2) (pv 1)))
  (ae (ax (ptr aW (pv 0) ai)
  (ae (cu 4 qN (bx (aj (aZ (aj (ay aB ar (bH (bV T) hr T.cq (aj ai af))) (aj ar af))) (aj (aZ (aj (ay aB (ay aB ar (bH (bV T) hr T.cq (aj (pv 3) af))) ar) (aj ar af))) af))))
   (ag (ak (fB (ay e9 (pv 4) (bx (aj (aZ (aj ar (aj ar af))) af))) (ay bS (ay eZ (pv 2) ai) ai)))))
  ao)
  (ae (ax (ptr aW (pv 0) ai)
  (ag (ak (aZ (aj ar (aj ar af)))))
  ao)
  (ae (ax (ptr aW (pv 0) ai)
  (ae (cu 4 qN (bx (aj (aZ (aj (ay aB (ay aB ar (AN bL T.jt (aj (pv 3) af))) ar) (aj ar af))) (aj (aZ (aj ar (aj ar af))) (aj (aZ (aj ar (aj ar af))) af)))))
   (ag (ak (fB (pv 4) (ay bS (ay eZ (pv 2) ai) ai)))))
  ao)
  (ae (ax (ptr aW (pv 0) ai)
  (ae (cu 4 qN (bx (aj (aZ (aj (ay aB (ay aB ar (AN bL T.jt (aj (ay ig ai (pv 3)) af))) ar) (aj ar af))) (aj (aZ (aj ar (aj ar af))) (aj (aZ (aj ar (aj ar af))) af)))))
   (ag (ak (fB (pv 4) (ay bS (ay eZ (pv 2) ai) ai)))))
  ao)
  (ag (ak (aZ (aj (bH (jo T) hr T.jG (aj (pv 0) (aj (pv 3) af))) (aj ar af)))))))))),?_}
 ac_rfl;left
 skip
 refine{(),?_};show eT 3 (V.int (m%(n:Int))) _ _ _;rw[ek];left
 by_cases c2:s=2
 ·subst c2
  refine bq (zd rfl) ?_;left
  skip
  let l0:=(jq 0).2;let lk:=(jq (k:Nat)).2;refine{(by decide),(by decide),?_};left
  skip
  refine{(by show 10+⇑(nm 0)<=sizeLine;ext),?_};left
  skip
  refine{(by show 2<=sizeLine;ext),?_}
  intros p1 n1' s1 h1 H1
  left
  skip
  refine{(),(),?_};left
  skip
  refine{(by show 6+⇑(nm (k:Nat))<=sizeLine;ext),?_};left
  skip
  refine{(by rw[len_app];show 6+⇑(nm (k:Nat))+3<=sizeLine;ext),?_};left
  skip
  refine{(by show 2<=sizeLine;ext),?_}
  intros p2 n2' s2 h2 H2
  left
  skip
  refine{(by show 2<=sizeLine;ext),?_}
  intros p3 n3' s3 h3 H3
  left
  skip
  refine{(by show 2<=sizeLine;ext),?_}
  intros p4 n4' s4 h4 H4
  left
  skip
  refine{(by show 1<=sizeLine;ext),?_}
  intros p5 n5' s5' h5 H5
  exists p3,p5,_,_,rfl,rfl,aE.of (s5' _ _ (s4 _ _ h3)),aE.of h5,(by show 2+1<=sizeLine;ext),?_
  intros p6 n6' s6 h6 H6
  left;let q1:=s6 _ _ (s5' _ _ (s4 _ _ (s3 _ _ (s2 _ _ h1))));let q2:=s6 _ _ (s5' _ _ (s4 _ _ (s3 _ _ h2)));let q4:=s6 _ _ (s5' _ _ h4);let s06:=((((s1.trans s2).trans s3).trans s4).trans s5').trans s6;obtain e | e | e:m/64%3=0\/m/64%3=1\/m/64%3=2:=()
  ·rw[e]
   exact{p6,_,0,_,rfl,rfl,aE.of h6,aS (j:=0) rfl,kk p1 _ _ H6 s06 q1 (J4 ())}
  ·rw[e]
   exact{p6,_,1,_,rfl,rfl,aE.of h6,aS (j:=1) rfl,kk p2 _ _ H6 s06 q2 (MW kn)}
  ·rw[e]
   exact{p6,_,2,_,rfl,rfl,aE.of h6,aS (j:=2) rfl,kk p4 _ _ H6 s06 q4 MV}
 refine bt (zc λz=>c2 (V.int.inj z)) ?_;left
 by_cases c3:s=3
 ·subst c3
  refine bq (zd rfl) ?_;left
  skip
  refine{(by show 2<=sizeLine;ext),?_}
  intros p1 n1' s1 h1 H1
  exact kk p1 _ _ H1 s1 h1 Je
 refine bt (zc λz=>c3 (V.int.inj z)) ?_;left
 by_cases c4:s=4
 ·subst c4
  let n20:n<=20:=n2;let lk:=bP (n:=(k:Nat)) () ();refine bq (zd rfl) ?_;left
  skip
  refine{cK () (),?_};left
  skip
  refine{(by show 8+⇑(dec (k:Nat))<=sizeLine;ext),?_};left
  skip
  refine{(by rw[len_app];show 8+⇑(dec (k:Nat))+3<=sizeLine;ext),?_};left
  skip
  refine{(by show 2<=sizeLine;ext),?_}
  intros p1 n1' s1 h1 H1
  left
  skip
  refine{(by show 2<=sizeLine;ext),?_}
  intros p2 n2' s2 h2 H2
  left
  skip
  refine{(by show 2<=sizeLine;ext),?_}
  intros p3 n3' s3 h3 H3
  left
  skip
  refine{(by show 3<=sizeLine;ext),?_}
  intros p6 n6' s6 h6 H6
  left;let q1:=s6 _ _ (s3 _ _ (s2 _ _ h1));let q2:=s6 _ _ (s3 _ _ h2);let q4:=s6 _ _ h3;let s06:=((s1.trans s2).trans s3).trans s6;obtain e | e | e:m/64%3=0\/m/64%3=1\/m/64%3=2:=()
  ·rw[e]
   exact{p6,_,0,_,rfl,rfl,aE.of h6,aS (j:=0) rfl,kk p1 _ _ H6 s06 q1 (MU kn ())}
  ·rw[e]
   exact{p6,_,1,_,rfl,rfl,aE.of h6,aS (j:=1) rfl,kk p2 _ _ H6 s06 q2 (MT n1 n20)}
  ·rw[e]
   exact{p6,_,2,_,rfl,rfl,aE.of h6,aS (j:=2) rfl,kk p3 _ _ H6 s06 q4 (MS n1 n20)}
 refine bt (zc λz=>c4 (V.int.inj z)) ?_;left
 by_cases c5:s=5
 ·subst c5
  let n20:n<=20:=n2;let lk:=bP (n:=2*(k:Nat)) () ();refine bq (zd rfl) ?_;left
  skip
  refine{cK () (),?_};left
  skip
  refine{(by show 7+⇑(dec (2*(k:Nat)))<=sizeLine;ext),?_};left
  skip
  refine{(by rw[len_app];show 7+⇑(dec (2*(k:Nat)))+5<=sizeLine;ext),?_};left
  skip
  refine{(by show 2<=sizeLine;ext),?_}
  intros p1 n1' s1 h1 H1
  left
  skip
  refine{(by show 2<=sizeLine;ext),?_}
  intros p2 n2' s2 h2 H2
  left
  skip
  refine{(by show 2<=sizeLine;ext),?_}
  intros p3 n3' s3 h3 H3
  left
  skip
  refine{(by show 3<=sizeLine;ext),?_}
  intros p6 n6' s6 h6 H6
  left;let q1:=s6 _ _ (s3 _ _ (s2 _ _ h1));let q2:=s6 _ _ (s3 _ _ h2);let q4:=s6 _ _ h3;let s06:=((s1.trans s2).trans s3).trans s6;obtain e | e | e:m/64%3=0\/m/64%3=1\/m/64%3=2:=()
  ·rw[e]
   exact{p6,_,0,_,rfl,rfl,aE.of h6,aS (j:=0) rfl,kk p1 _ _ H6 s06 q1 (MR kn n20)}
  ·rw[e]
   exact{p6,_,1,_,rfl,rfl,aE.of h6,aS (j:=1) rfl,kk p2 _ _ H6 s06 q2 (MQ n1)}
  ·rw[e]
   exact{p6,_,2,_,rfl,rfl,aE.of h6,aS (j:=2) rfl,kk p3 _ _ H6 s06 q4 (MP n1 n20)}
 refine bt (zc λz=>c5 (V.int.inj z)) ?_;exists _,_,rfl,s0,s5,(),(),λH1 s1=>?_;left
 skip
 refine{(by show 2<=sizeLine;ext),?_}
 intros p1 n1' s2 h1 H2
 exact kk p1 _ _ H2 (s1.trans s2) h1 (MX () kn ())
def HK {α:Type} {H:Hp} {d:Str×α->Dt} {a:wJ} {l:List (Str×α)} (h:Ic H d a l):∃kvs,H a=some (.dK kvs)/\⇑kvs=⇑l:=by
 let⟨vs,h1,h2⟩:=h;exact{_,h1,by rw[xa,za,aR h2,Nat.min_self]}
def G5 {α:Type} {H:Hp} {d:α->Dt} {a:wJ} {l:List α} (h:FN H d a l):∃vs,H a=some (.lst vs)/\⇑vs=⇑l:=by
 let⟨vs,h1,h2⟩:=h;exact{_,h1,aR h2}
def Ge {C a hx:wJ} {H:Hp} {s:Int} {n:Nat} {o:Ow} {vs:List V} (sc:aY C H a (st s (n+1)) o) (s0:0<=s) (s5:s<=5) (hh:H hx=some (.lst vs)) (lh:⇑vs=(((st s (n+1)).holds.lookup ("x": Str)).getD []).length) :
  ∃v,tV [V.ref o.pl,V.ref o.ins,V.ref o.st,V.ref o.ba,V.ref hx,V.ref o.re] s=some (V.ref v)/\((∃ys,H v=some (.lst ys)/\⇑ys=n+1)\/∃kvs,H v=some (.dK kvs)/\⇑kvs=n+1):=by
 obtain rfl | rfl | rfl | rfl | rfl | rfl:s=0\/s=1\/s=2\/s=3\/s=4\/s=5:=()
 ·exact{o.pl,rfl,.inl {_,sc.pl,by rw[za];exact fc _}}
 ·let⟨kvs,h1,h2⟩:=HK sc.ins
  exact{o.ins,rfl,.inr {kvs,h1,by rw[h2];show((fZ (n+1)).map _).length=_;rw[za,fc]}}
 ·let⟨kvs,h1,h2⟩:=HK sc.st
  exact{o.st,rfl,.inr {kvs,h1,by rw[h2];show((List.range (n+1)).map _).length=_;rw[za,zM]}}
 ·let⟨kvs,h1,h2⟩:=G5 sc.ba
  exact{o.ba,rfl,.inl {kvs,h1,by rw[h2];show((List.range (n+1)).map _).length=_;rw[za,zM]}}
 ·exact{hx,rfl,.inl {vs,hh,by rw[lh,G6,za,zM]}}
 ·let⟨kvs,h1,h2⟩:=G5 sc.re
  exact{o.re,rfl,.inl {kvs,h1,by rw[h2];show((List.range (n+1)).map _).length=_;rw[za,zM]}}
def b9.or {X:Cx} {f:wC} {r1 r2:List V->Hp->VK->Prop} (a:b9 X f r1) (b:b9 X f r2):b9 X f (λxs H Q=>r1 xs H Q\/r2 xs H Q):=λpins s U H xs us Q I r h=>h.elim (a pins s U H xs us Q I r) (b pins s U H xs us Q I r)
def Nu (s:Int) (n:Nat) (r w:Str):Prop:=(w =""/\n<most s/\r=rowOf (tr s (n:Nat)))\/j7 s n r w
theorem Nu.nl {s:Int} {n:Nat} {r w:Str} (h:Nu s n r w) (hn:n<=400):10∉r.cps.toList/\⇑r<=10100:=by
 rcases h with⟨_,_,rfl⟩ | h
 ·let t:=mW (s:=s) (k:=(n:Nat)) {(()),()}
  exact{lB t.1,mh t}
 ·exact{(h.nl),h.len}
inductive qX (vs:List V) (H:Hp) (Q:VK) (E:XK):Prop
 | mk (c k:Int) (_:vs=[.int c,.int k]) (_:0<=k) (_:k<=10) (_:∀H',au H H'->Q (.bl true) H')
def rP (B:Dk P w K T) (F:Cf K T.fj):cz P w base 10 T.kT qX:=by
 nomatch T.kT,["_law_cell","_law_k","_law_m","_law_sort","_law_most","_law_many","_law_rows","_law_row_here","_law_word","_law_text","_law_score","_law_told"]
 let⟨c,k,rfl,k0,k1,kk⟩:=h;let sl:=yp;refine{_,(ae (cu 2 qN (bH (rQ T) hr T.kU (aj (pv 0) (aj (pv 1) af))))
  (ae (cu 3 qN (ay bS (pv 2) ai))
  (ae (cu 4 qN (fB (bx (aj ai (aj ai (aj ai (aj ai (aj ai (aj ai af))))))) (pv 3)))
  (ae (cu 5 qN (ay mE (pv 4) (fB (bx (aj ai (aj ai (aj ai (aj ai (aj ai (aj ai af))))))) (ay bS (ay eZ (pv 2) ai) ai))))
  (ae (cu 6 qN (ay e9 (bH (rR T) hr T.kW (aj (pv 3) af)) (nO (ts:=["_law_at"]) (ys:=["_law_sort"]) (js:=[3]) (te:=(gd m3 [] E0 (cB (cj 1) (cB (cj 0) j4)))) (jQ (by rfl) T.lM (aj (pv 5) af)) (mC 0) bw (bH (jo T) hr T.jG (aj (pv 1) (aj (pv 0) af))))))
  (ae (cu 7 qN (bH (jo T) hr T.jG (aj (pv 3) (aj (pv 5) af))))
  (ae (cu 8 qN (fB (bx (aj ar (aj ar af))) (AN FC T.Ed (aj (bG aW (pv 5) (pv 4) (cT _)) af))))
  (ae (ax (PW.pt (fK (ptr aW (pv 3) ai) (ei (ptr aW (pv 5) (pv 4)))))
  (ae (cu 7 qN (ay aB ar (bH (bV T) hr T.cq (aj ai af))))
   (ag (cu 8 qN ar)))
  ao)
  (ae (ax (ptr aW (ay bS (ay eZ (pv 2) ai) ai) ai)
  (ag (KZ (bH (A1 T) hr T.qO (aj (pv 3) (aj (pv 5) (aj (ay eZ (pv 2) ai) af)))) (pF (n:=2) rfl (cV (FR 7 qN) (cV (FR 8 qN) lH)))))
  ao)
  (ae (cu 9 qN (fM yu yw yv Ee ar (aj (ay e9 (ay e9 (pv 6) (bx (aj (pv 7) af))) (cE eU (bx (aj ar (aj ar (aj ar af)))) dz (dy (ay bS (ay eZ (pv 2) ai) ai)))) af)))
  (ae (ax (ptr aW (ay bS (ay eZ (pv 2) ai) ai) ai)
  (ag (ak (bH (gE T B F) hr T.fV (aj (fM yu yw yv Ee ar (aj (ay e9 (cE eU (pv 6) dz (dy (sV md ai))) (bx (aj ar (aj (fB (pv 6) (sV md ai)) (aj (pv 7) af))))) af)) (aj (ay mE (dJ aw T.bp (aj (pv 6) af)) ai) (aj ar af))))))
  ao)
  (ae (ax (ptr fO (pv 8) ar)
  (ag (ak (bH (gE T B F) hr T.fV (aj (pv 9) (aj (dJ aw T.bp (aj (pv 6) af)) (aj (pv 8) af))))))
  ao)
  (ae (ax (ptr iQ (ay bS (ay eZ (pv 2) ai) ai) ai)
  (ag (ak (bH (gE T B F) hr T.fV (aj (pv 9) (aj (ay gD (dJ aw T.bp (aj (pv 6) af)) ai) (aj ar af))))))
  ao)
  (ae (cu 10 qN (uU (kc T B F) (hr.mono ∅) rfl T.c9.g T.c9.F.kp T.c9.b .nil ML (aj (pv 9) af)))
  (ae (cu 11 qN (fB (bx (aj (aL (pv 10) rfl) (aj (aL (pv 10) rfl) (aj (aL (pv 10) rfl) (aj (aL (pv 10) rfl) (aj (AK (iX hr) (aL (pv 10) rfl) ar (bx af) {(rfl),rfl,rfl,rfl}) (aj (aL (pv 10) rfl) af))))))) (pv 3)))
  (ag (ak (bG aW (dJ (b9.or aw qy) T.bp (aj (pv 11) af)) (ay gD (pv 5) ai) (cT _))))))))))))))))))),?_}
 ac_rfl;exists c,k,rfl,k0,(),?_;let m0:0<=mixed c k:=zp _ ∅;let m1:mixed c k<2147483399:=zm _ ∅;generalize mixed c k=m at m0 m1;left;let s0:0<=m%6:=()
 let s5:m%6<=5:=()
 left
 skip
 refine{(by show 6<=sizeLine;ext),?_}
 intros p1 n1 s1 h1 H1
 left;let mo:tV [V.int 12,V.int 12,V.int 12,V.int 200,V.int 20,V.int 20] (m%6)=some (V.int (most (m%6):Nat)):=by
  obtain e | e | e | e | e | e:m%6=0\/m%6=1\/m%6=2\/m%6=3\/m%6=4\/m%6=5:=()
  all_goals rw[e];rfl
 refine{p1,_,m%6,_,rfl,rfl,aE.of h1,mo,?_};left
 skip
 refine{(by show 6<=sizeLine;ext),?_}
 intros p2 n2 s2 h2 H2
 left;obtain⟨d,hd,d3⟩:∃d:Nat,tV [V.int 0,V.int 0,V.int 1,V.int 0,V.int 2,V.int 3] (m/6%6)=some (V.int (d:Nat))/\d<=3:=by
  obtain e | e | e | e | e | e:m/6%6=0\/m/6%6=1\/m/6%6=2\/m/6%6=3\/m/6%6=4\/m/6%6=5:=()
  ·rw[e];exact{0,rfl,()}
  ·rw[e];exact{0,rfl,()}
  ·rw[e];exact{1,rfl,()}
  ·rw[e];exact{0,rfl,()}
  ·rw[e];exact{2,rfl,()}
  ·rw[e];exact{3,rfl,()}
 let mb:12<=most (m%6)/\most (m%6)<=200:=by unfold most;split <;> (try split) <;> ext
 obtain⟨n,en,n9,nm'⟩:∃n:Nat,((most (m%6):Nat):Int)-(d:Nat)=(n:Int)/\9<=n/\n<=most (m%6):={most (m%6)-d,(),(),()}
 refine{p2,_,_,_,rfl,rfl,aE.of h2,hd,?_};refine{_,_,rfl,rfl,?_};show eT 5 (V.int (((most (m%6):Nat):Int)-(d:Nat))) _ _ _;rw[en];left
 skip
 refine{s0,s5,λp3 H3 s3 h3=>?_};left
 skip
 refine{(),(),?_};refine iC (λj=>.str (rowOf (tr (m%6) (j:Nat)))) (λU=>∃v,U=[v,some (.int (m%6))]) (by rw[xC];ext) {(none),rfl} ?_ ?_
 ·rintro j U H4 R hj s4 ⟨_,rfl⟩ r
  rw[xC] at hj;exists m%6,_,rfl,s0,s5,(),(),λH5 s5'=>?_;rw[show(0:Int)+(j:Nat)=(j:Nat) by ext];exact r _ _ _ s5' jy {_,rfl}
 intro D vs H4 s4 _ hD il;let e4:(List.range (n:Int).toNat).map (λj:Nat=>Dt.str (rowOf (tr (m%6) (j:Nat))))=(((List.range n).map λj:Nat=>tr (m%6) (j:Nat)).map rowOf).map Dt.str:=by
  rw[xC,zu,zu];rfl
 rw[e4] at il;rw[ff il] at hD;let al:⇑(ah (m%6))<=60:=by
  unfold ah;split
  ·rw[za,fc];ext
  split
  ·simp
  split
  ·simp
  ·simp
 refine{p3,D,_,_,rfl,rfl,aE.of (s4 _ _ h3),aE.of hD,(by rw[hJ,za,za,za,zM];ext),?_}
 intros p5 n5 s5' h5 H5
 let h5:H5 p5=some (.lst (rws (Rk (m%6) n))):=by unfold Rk;rw[DZ];exact h5
 let s05:=(((s1.trans s2).trans s3).trans s4).trans s5';exists m%6,_,rfl,s0,s5,(),(),λH6 s6=>?_;left
 skip
 refine{(by show 2<=sizeLine;ext),?_}
 intros p7 n7 s7 h7 H7
 left;obtain⟨w0,hw0,cw⟩:∃w0:Str,tV [V.str "",V.str "many"] (if decide (V.int (n:Nat)=V.int (most (m%6):Nat))=true then 1 else 0)=some (V.str w0)/\((n<most (m%6)/\w0 ="")\/(n=most (m%6)/\w0 ="many")):=by
  by_cases e:n=most (m%6)
  ·rw[e,zd rfl];exact{"many",rfl,.inr {(rfl),rfl}}
  ·rw[zc (λz=>e (by have:=V.int.inj z;ext))];exact{"",rfl,.inl {(()),rfl}}
 refine{p7,_,_,_,rfl,rfl,aE.of h7,hw0,?_};let s07:=(s05.trans s6).trans s7;let h57:=s7 _ _ (s6 _ _ h5);left;refine FE (decide (V.int (m%6)=V.int 2)&&decide (V.int (n:Nat)=V.int (most (m%6):Nat))) ?_ ?_ ?_
 ·intro c1 Z hz
  rw[show decide (V.int (m%6)=V.int 2)=true from c1,yJ] at hz;change hz
 ·intro c1;rw[show decide (V.int (m%6)=V.int 2)=false from c1,yH]
 refine join (λU H'=>∃r w,U=[some (.int c),some (.int k),some (.int m),some (.int (m%6)),some (.int (most (m%6):Nat)),some (.int (n:Nat)),some (.ref p5),some (.str r),some (.str w),none,none,none]/\au H H'/\H' p5=some (.lst (rws (Rk (m%6) n)))/\Nu (m%6) n r w) (λN hN c1=>?_) (λN hN c1=>?_) ?_
 ·rw[zJ] at c1
  let e2:m%6=2:=V.int.inj (zU c1.1);let ln0:=(jq 0).2;left
  skip
  refine{(by decide),(by decide),?_};left
  skip
  refine{(by show 10+⇑(nm 0)<=sizeLine;ext),?_};change hN _ _ {_,_,rfl,s07,h57,.inr (by rw[e2];exact J4 ())}
 ·left
  refine hN _ _ {_,_,rfl,s07,h57,?_};rcases cw with⟨lt,rfl⟩ | ⟨e,rfl⟩
  ·exact .inl {(rfl),lt,rfl}
  ·refine .inr ?_
   let n2:m%6≠2:=λz=>by rw[z] at c1;rw[<-z,e,zd rfl,zd rfl] at c1;cases c1
   rw[e];exact GX {(s0),s5} n2
 rintro U H8 ⟨r,w,rfl,s08,h8,rw8⟩;left;refine join (λU H'=>∃r w,U=[some (.int c),some (.int k),some (.int m),some (.int (m%6)),some (.int (most (m%6):Nat)),some (.int (n:Nat)),some (.ref p5),some (.str r),some (.str w),none,none,none]/\au H H'/\H' p5=some (.lst (rws (Rk (m%6) n)))/\Nu (m%6) n r w) (λN hN c1=>?_) (λN hN c1=>?_) ?_
 ·left
  refine{m%6,m/108,n,rfl,s0,s5,(),nm',(),λp9 r9 w9 H9 s9 h9 od=>?_};refine{p9,_,rfl,cQ.of h9,rfl,?_};refine{_,_,rfl,{_,_,rfl,{rfl,?_}}};exact hN _ _ {r9,w9,rfl,s08.trans s9,s9 _ _ h8,.inr od}
 ·left
  exact hN _ _ {(r),w,rfl,s08,h8,rw8}
 clear rw8 h8 s08;rintro U H8 ⟨r,w,rfl,s08,h8,rw8⟩;let nb:n<=200:=()
 let rl:⇑(Rk (m%6) n)<=260:=by rw[pk];ext
 let rn:=Nu.nl rw8 ();let rks:=D1 (s:=m%6) (n:=n) ();left
 skip
 refine{(by show 1<=sizeLine;ext),?_}
 intros p11 n11 s11 h11 H11
 exists p5,p11,_,_,rfl,rfl,aE.of (s11 _ _ h8),aE.of h11,(by rw[hJ];show _+1<=_;ext),?_
 intros p12 n12 s12 h12 H12
 left
 skip
 refine{(by show 3<=sizeLine;ext),?_}
 intros p13 n13 s13 h13 H13
 exists p13,_,rfl,aE.of h13,?_
 intros p14 n14 s14 h14 H14
 obtain⟨j,ej⟩:∃j:Nat,m/200%4=(j:Int):={(m/200%4).toNat,()}
 let h14:H14 p14=some (.lst (([("player": Str),"bars","hold x 0 y"].take j).map V.str)):=by
  rw[h14];show some (HO.lst (f9 [V.str "player",V.str "bars",V.str "hold x 0 y"] none (some (m/200%4))))=_;rw[ej,vR,List.map_take];rfl
 exists p12,p14,_,_,rfl,rfl,aE.of (s14 _ _ (s13 _ _ h12)),aE.of h14,(by rw[ze,hJ,za,zL];show _+1+min _ 3<=_;ext),?_
 intros p15 n15 s15 h15 H15
 let h15:H15 p15=some (.lst (((Rk (m%6) n).map rowOf++(r::[("player": Str),"bars","hold x 0 y"].take j)).map V.str)):=by
  rw[h15,zg,zf];unfold rws;rw[zA];rfl
 let xe:∀x∈(Rk (m%6) n).map rowOf++(r::[("player": Str),"bars","hold x 0 y"].take j),10∉x.cps.toList/\⇑x<=10100:=λx hx=>by
  rcases zB.mp hx with hx | hx
  ·exact rks x hx
  rcases zw.mp hx with rfl | hx
  ·exact rn
  ·exact Hy x (List.mem_of_mem_take hx)
 let xl:((Rk (m%6) n).map rowOf++(r::[("player": Str),"bars","hold x 0 y"].take j)).length<=1000:=by
  rw[ze,za,zo,zL];show _+(min _ 3+1)<=_;ext
 let tx:=AE (λx hx=>(xe x hx).2) xl;let sp:=oP (rows:=(Rk (m%6) n).map rowOf++(r::[("player": Str),"bars","hold x 0 y"].take j)) (by simp) λx hx=>(xe x hx).1;exists "\n",p15,_,rfl,rfl,aE.of h15,tx.1,?_;let s015:=((((s08.trans s11).trans s12).trans s13).trans s14).trans s15;let h815:=s15 _ _ (s14 _ _ (s13 _ _ (s12 _ _ (s11 _ _ h8))));left
 by_cases c5:m/50%5=1
 ·refine bq (zd (yN V.int c5)) ?_
  obtain⟨n',rfl⟩:∃n',n=n'+1:={n-1,()}
  let er:rws (Rk (m%6) (n'+1))=rws (Rk (m%6) n')++[V.str (rowOf (tr (m%6) (n':Nat)))]:=by rw[D0,DZ];rfl
  let rl':=pk (m%6) n';let rl2:=pk (m%6) (n'+1);let td':=mW (s:=m%6) (k:=(n':Nat)) {(()),()};exists p5,_,rfl,aE.of h815,?_
  intros p16 n16 s16 h16 H16
  let h16:H16 p16=some (.lst (rws (Rk (m%6) n'))):=by rw[h16,show f9 (rws (Rk (m%6) (n'+1))) none (some (-1))=_ from Fx _,er,List.dropLast_concat]
  exists p5,_,-1,V.str (rowOf (tr (m%6) (n':Nat))),rfl,rfl,aE.of (s16 _ _ h815),(by rw[er];exact JK),?_;left
  skip
  refine{(by show 3<=sizeLine;ext),?_}
  intros p17 n17 s17 h17 H17
  exists p16,p17,_,_,rfl,rfl,aE.of (s17 _ _ h16),aE.of h17,(by rw[hJ];show _+3<=_;ext),?_
  intros p18 n18 s18 h18 H18
  let h18:H18 p18=some (.lst (((Rk (m%6) n').map rowOf++(("bar": Str)::[rowOf (tr (m%6) (n':Nat)),r])).map V.str)):=by
   rw[h18,zg];rfl
  let xe':∀x∈(Rk (m%6) n').map rowOf++(("bar": Str)::[rowOf (tr (m%6) (n':Nat)),r]),10∉x.cps.toList/\⇑x<=10100:=λx hx=>by
   rcases zB.mp hx with hx | hx
   ·exact D1 () x hx
   ·exact all_cons (p:=λx:Str=>10∉x.cps.toList/\⇑x<=10100) {∅,∅} (all_cons {lB td'.1,mh td'} (all_cons rn all_nil)) x hx
  let tx':=AE (λx hx=>(xe' x hx).2) (by rw[ze,za];show _+3<=_;ext);let sp':=oP (rows:=(Rk (m%6) n').map rowOf++(("bar": Str)::[rowOf (tr (m%6) (n':Nat)),r])) (by simp) λx hx=>(xe' x hx).1;exists "\n",p18,_,rfl,rfl,aE.of h18,tx'.1,?_;exists p5,_,rfl,.inl (aE.of (s18 _ _ (s17 _ _ (s16 _ _ h815)))),?_;left;refine{_,"row",⇑(Rk (m%6) n'),?_,tx'.2,?_,λH19 s19=>kk _ ((((s015.trans s16).trans s17).trans s18).trans s19)}
  ·rw[hJ]
   exact yN (λz=>[V.str _,V.int z,V.str "row"]) (by show(⇑(Rk (m%6) (n'+1)):Int)-1=_;ext)
  ·rw[sp']
   exact DY {(s0),s5} () () JJ
 refine bt (zc λz=>c5 (V.int.inj z)) ?_;left
 by_cases cw:w =""
 ·subst cw
  obtain⟨lt,rfl⟩:n<most (m%6)/\r=rowOf (tr (m%6) (n:Nat)):=by
   rcases rw8 with⟨_,a,b⟩ | od
   ·exact{(a),b}
   ·exact absurd rfl od.ne
  let e1:(Rk (m%6) n).map rowOf++(rowOf (tr (m%6) (n:Nat))::[("player": Str),"bars","hold x 0 y"].take j)=(Rk (m%6) (n+1)).map rowOf++[("player": Str),"bars","hold x 0 y"].take j:=by rw[D0,zg,zA];rfl
  let rl3:=pk (m%6) (n+1);let rl4:=pk (m%6) n;refine bt (by rw[zd rfl];rfl) ?_;left
  by_cases c6:0<m/200%4
  ·refine bq (zd c6) ?_
   exists p5,_,rfl,.inl (aE.of h815),?_;left;refine{_,"row",⇑(Rk (m%6) (n+1)),?_,tx.2,?_,λH19 s19=>kk _ (s015.trans s19)}
   ·rw[hJ]
    exact yN (λz=>[V.str _,V.int z,V.str "row"]) (by show(⇑(Rk (m%6) n):Int)+1=_;ext)
   ·rw[sp,e1]
    refine DY {(s0),s5} () () ?_;obtain⟨j',rfl⟩:∃j',j=j'+1:={j-1,()}
    exact E3
  refine bt (zc c6) ?_;let j0:j=0:=()
  subst j0;left;refine{_,.ok (st (m%6) (n+1)),rfl,tx.2,(by rw[sp,e1];exact DY {(s0),s5} () () .nil),λS eS a o H16 sc s16 fr=>?_,λi w z=>nomatch z};cases eS;let⟨ub,jm,ho,hub,hjm⟩:=sc.obj;exists a,_,o.dx,_,_,rfl,ho,F.cls,F.players,rfl,?_;exists a,_,o.dx,_,_,rfl,ho,F.cls,F.instruments,rfl,?_;exists a,_,o.dx,_,_,rfl,ho,F.cls,F.aG,rfl,?_;exists a,_,o.dx,_,_,rfl,ho,F.cls,F.bars,rfl,?_;exists a,_,o.dx,_,_,rfl,ho,F.cls,F.holds,rfl,?_;refine{o.ho,rfl,.inl {_,.inl sc.ho.1},?_};left
  skip
  refine{(by show 0<=sizeLine;ext),?_}
  intros p17 n17 s17 h17 H17
  refine{_,.inl {_,kS "x",.inl (s17 _ _ sc.ho.1),rfl,rfl},?_};obtain⟨hx,vs,eh,hh,lh⟩:∃hx vs,(cR (((st (m%6) (n+1)).holds.map λx=>kS x.1).zip (o.hs.map V.ref)) (kS "x")).getD (.ref p17)=.ref hx/\H17 hx=some (.lst vs)/\⇑vs=(((st (m%6) (n+1)).holds.lookup ("x": Str)).getD []).length:=by
   rcases mM (H:=H16) "x" sc.ho.2 with⟨e1,e2⟩ | ⟨l,h,vs,e1,e2,hh,il⟩
   ·exact{p17,[],by rw[e2];rfl,h17,by rw[e1];rfl}
   ·exact{h,vs,by rw[e2];rfl,s17 _ _ hh,by rw[e1];exact aR il}
  rw[eh];exists a,_,o.dx,_,_,rfl,s17 _ _ ho,F.cls,F.repeats,rfl,?_;left
  skip
  refine{(by show 6<=sizeLine;ext),?_}
  intros p18 n18 s18 h18 H18
  left;let⟨v,hv,lv⟩:=Ge (sc.mono (s17.trans s18)) s0 s5 (s18 _ _ hh) lh;refine{p18,_,m%6,_,rfl,rfl,aE.of h18,hv,?_};left;rcases lv with⟨ys,hy,ly⟩ | ⟨ys,hy,ly⟩
  ·refine .inl {v,ys,rfl,.inl (aE.of hy),?_}
   rw[ly];left;rw[zd (yN V.int ())];exact kk _ (((s015.trans s16).trans s17).trans s18)
  ·refine .inr {v,ys,rfl,hy,?_}
   rw[ly];left;rw[zd (yN V.int ())];exact kk _ (((s015.trans s16).trans s17).trans s18)
 ·refine bq (by rw[zc λz=>cw (V.str.inj z)];rfl) ?_
  let od:j7 (m%6) n r w:=by
   rcases rw8 with⟨a,_⟩ | od
   ·exact absurd a cw
   ·exact od
  exists p5,_,rfl,.inl (aE.of h815),?_;left;refine{_,w,⇑(Rk (m%6) n),yN (λz=>[V.str _,V.int z,V.str w]) (by rw[hJ]),tx.2,?_,λH19 s19=>kk _ (s015.trans s19)};rw[sp];exact DY {(s0),s5} () nm' (od.rx _ _)
inductive Gm (K:yo) (vs:List V) (H:Hp) (Q:VK) (E:XK):Prop
 | mk (a:wJ) (ns:List Int) (_:vs=[.ref a]) (_:aE K H a (ns.map V.int)) (_:⇑ns<=63) (_:∀H':Hp,Q (.bl true) H')
def K4 (B:Dk P w K T) (F:Cf K T.fj):cz P w base 11 T.OI (Gm K):=by
 nomatch T.OI,["_law_script","_law_k","_law_cell"]
 let⟨a,ns,rfl,ha,hl,kk⟩:=h;let sl:=yp;refine{_,(ae (jj yD rfl (D9 (by rfl) T.m8 (aj (ay e9 (cE eU (pv 0) dz (dy ai)) (bx (aj ai af))) af)) (pF (n:=2) rfl (cV (FR 1 qN) (cV (FR 2 qN) lH)))
  (ag (ax (de (bA (bH (rP T B F) hr T.kT (aj (pv 2) (aj (pv 1) af)))))
   (ag (ak iP))
   ao)))
  (ag (ak iP))),?_}
 ac_rfl;exists a,_,rfl,ha,?_
 intros p1 n1 s1 h1 H1
 left
 skip
 refine{(by show 1<=sizeLine;ext),?_}
 intros p2 n2 s2 h2 H2
 let h12:H2 p1=some (.lst ((ns.take 4).map V.int)):=by rw[s2 _ _ h1,show f9 (ns.map V.int) none (some 4)=_ from vR _ 4,List.map_take]
 exists p1,p2,_,_,rfl,rfl,aE.of h12,aE.of h2,(by rw[za,zL];show _+1<=_;ext),?_
 intros p3 n3 s3 h3 H3
 let h3:H3 p3=some (.lst ((ns.take 4++[1]).map V.int)):=by rw[h3,zg];rfl
 let xl:⇑(ns.take 4++[1])<=5:=by rw[ze,zL];show _+1<=_;ext
 generalize ns.take 4++[1]=xs at h3 xl;exists p3,_,rfl,aE.of h3,?_;refine Bh (K:=K) (a:=p3) (xs:=xs.map V.int) (λi U H'=>H' p3=some (.lst (xs.map V.int))/\∃u1 u2,U=[some (.ref a),u1,u2]) {(h3),none,none,rfl} (λi U H' _ h=>aE.of h.1) ?_ ?_
 ·rintro i x U H4 p H5 hx ⟨h4,u1,u2,rfl⟩ s45 hp5
  rw[zF] at hx;cases qr:xs[i]? with
  | none=>rw[qr] at hx;cases hx
  | some v=>
  rw[qr] at hx;simp only[yY,xn] at hx;subst hx;let hi:=(zr.mp qr).1;refine{p,_,rfl,cQ.of hp5,rfl,?_};refine{_,_,rfl,{_,_,rfl,{rfl,?_}}};exists v,_,rfl,(),(),λH6 s6=>?_;change{s6 _ _ (s45 _ _ h4),_,_,rfl}
 ·rintro U H4 ⟨h4,u1,u2,rfl⟩
  change kk _
end
def l1 {α:Type} {n:Nat} {P:List α->Prop} {us:List α} (h:⇑us=n+1) (k:∀u r,⇑r=n->P (u::r)):P us:=match us,h with
 | u::r,h=>k u r (Nat.succ.inj h)
def l0 {α:Type} {P:List α->Prop} {us:List α} (h:⇑us=0) (k:P []):P us:=match us,h with
 | [],_=>k
def lV {K:yo} {h:wK} {mg:Str->Option wC} {x:Str} {st:Stmt} {f:wJ} {od an:Option wJ} {sl:Array (Option wC)} {oc kV dc pm cd ct:wC} {p0:Str} (X:K.In h) (G:h.Ns mainGlobals mg) (a:PySem.W.nsIn K mainGlobals x=some (some (.ref f))<|>ql_) (l:K.lookup f=some {oc,od,.func (PySem.W.fnOf x x (bJ st) (bj st) (aA st) .none kV dc pm an cd ct),sl}<|>ql_) (c:PySem.W.codeIn K cd x=true<|>ql_) (k:PySem.W.keepIn K (.ref f)=true<|>ql_)
  (hb:(∀(kV dc pm:wC) (an:Option wJ) (cd ct u0:wC),bindArgs (PySem.W.fnOf x x (bJ st) (bj st) (aA st) .none kV dc pm an cd ct) {[u0],[]}=pure [(p0,u0)])<|>qm_) :
  Df K mg x st f (PySem.W.fnOf x x (bJ st) (bj st) (aA st) .none kV dc pm an cd ct) [p0]:=
 {gH l c k,wB X G a,(gH l c k).binds (ps:=[p0]) λkV dc pm an cd ct us hl=>by
  apply l1 hl;intro u0 r h;apply l0 h;exact hb kV dc pm an cd ct u0}
def kI {K:yo} {h:wK} {mg:Str->Option wC} {x:Str} {st:Stmt} {f:wJ} {od an:Option wJ} {sl:Array (Option wC)} {oc kV dc pm cd ct:wC} {p0 p1:Str} (X:K.In h) (G:h.Ns mainGlobals mg) (a:PySem.W.nsIn K mainGlobals x=some (some (.ref f))<|>ql_) (l:K.lookup f=some {oc,od,.func (PySem.W.fnOf x x (bJ st) (bj st) (aA st) .none kV dc pm an cd ct),sl}<|>ql_) (c:PySem.W.codeIn K cd x=true<|>ql_) (k:PySem.W.keepIn K (.ref f)=true<|>ql_)
  (hb:(∀(kV dc pm:wC) (an:Option wJ) (cd ct u0 u1:wC),bindArgs (PySem.W.fnOf x x (bJ st) (bj st) (aA st) .none kV dc pm an cd ct) {[u0,u1],[]}=pure [(p0,u0),(p1,u1)])<|>qm_) :
  Df K mg x st f (PySem.W.fnOf x x (bJ st) (bj st) (aA st) .none kV dc pm an cd ct) [p0,p1]:=
 {gH l c k,wB X G a,(gH l c k).binds (ps:=[p0,p1]) λkV dc pm an cd ct us hl=>by
  apply l1 hl;intro u0 r h;apply l1 h;intro u1 r h;apply l0 h;exact hb kV dc pm an cd ct u0 u1}
def LV {K:yo} {h:wK} {mg:Str->Option wC} {x:Str} {st:Stmt} {f:wJ} {od an:Option wJ} {sl:Array (Option wC)} {oc kV dc pm cd ct:wC} {p0 p1 p2:Str} (X:K.In h) (G:h.Ns mainGlobals mg) (a:PySem.W.nsIn K mainGlobals x=some (some (.ref f))<|>ql_) (l:K.lookup f=some {oc,od,.func (PySem.W.fnOf x x (bJ st) (bj st) (aA st) .none kV dc pm an cd ct),sl}<|>ql_) (c:PySem.W.codeIn K cd x=true<|>ql_) (k:PySem.W.keepIn K (.ref f)=true<|>ql_)
  (hb:(∀(kV dc pm:wC) (an:Option wJ) (cd ct u0 u1 u2:wC),bindArgs (PySem.W.fnOf x x (bJ st) (bj st) (aA st) .none kV dc pm an cd ct) {[u0,u1,u2],[]}=pure [(p0,u0),(p1,u1),(p2,u2)])<|>qm_) :
  Df K mg x st f (PySem.W.fnOf x x (bJ st) (bj st) (aA st) .none kV dc pm an cd ct) [p0,p1,p2]:=
 {gH l c k,wB X G a,(gH l c k).binds (ps:=[p0,p1,p2]) λkV dc pm an cd ct us hl=>by
  apply l1 hl;intro u0 r h;apply l1 h;intro u1 r h;apply l1 h;intro u2 r h;apply l0 h;exact hb kV dc pm an cd ct u0 u1 u2}
def walk {l:PySem.W.OpenLaw} {q:wF} {loose:List Str} {XP:(Str->Option wC)->wK->Prop} {YP:wG->wK->Prop} {d:DefRec} {K:Params->yo} (hn:l.most=some 63) (hdf:d.params.defaults=[]) (hdn:d.name ="law")
  (hY:∀(w:wG) (h:wK),YP w h->(K w.params).In h)
  (F:∀(w:wG) (mg:Str->Option wC) (h:wK),(K w.params).In h->h.Ns mainGlobals mg->
   ∃T:Txt (K w.params) mg,Dk l.prog w (K w.params) T/\∀(s:wD) (v:wC),BindsTo s T.HL {[v],[]} [("_law_script",v)]) :
  PySem.W.WalkO q loose XP YP l.row.toRowW d [] (λf vs=>PySem.call f vs):=
 L2.Iq (n:=63) (k:=11) (x:="_law_script") (CX:=λ_=>sL) (sp:=λw=>Gm (K w.params)) hn ∅ hdf {rfl,∅,∅} hY
  (λw mg fa h kx hns hm=>by
   let⟨T,B,hb⟩:=F w mg h kx hns;rw[hdn] at hm;let e:=hm.symm.trans T.OI.g;cases e;exact{T.HL,hb,λbase _ _=>K4 T B T.cf}) (λ_ _ a ns hl _ hS=>{a,ns,rfl,hS,hl,λ_=>rfl}) λ_ _ _ _ _ z=>z
def O7 {P:wF} {w:wG} {K:yo} {a:wJ} {n:Nat} {t0 t1 t2 t3 t4 t5 t6 t7 t8:Tok} {f0 f1 f2 f3 f4 f5 f6 f7 f8:wJ} {s0 s1 s2 s3 s4 s5 s6 s7 s8:Str} (r:K.lookup a=some {cls:=.type "dict",data:=.dict #[{PyData.keyHash w.params s0,.str s0 t0,.ref f0},{PyData.keyHash w.params s1,.str s1 t1,.ref f1},{PyData.keyHash w.params s2,.str s2 t2,.ref f2},{PyData.keyHash w.params s3,.str s3 t3,.ref f3},{PyData.keyHash w.params s4,.str s4 t4,.ref f4},{PyData.keyHash w.params s5,.str s5 t5,.ref f5},{PyData.keyHash w.params s6,.str s6 t6,.ref f6},{PyData.keyHash w.params s7,.str s7 t7,.ref f7},{PyData.keyHash w.params s8,.str s8 t8,.ref f8}] n}) (y:(a == sysModules)=false) (nd:List.Nodup [s0,s1,s2,s3,s4,s5,s6,s7,s8]) :
  KD P w K a [(s0,.ref f0),(s1,.ref f1),(s2,.ref f2),(s3,.ref f3),(s4,.ref f4),(s5,.ref f5),(s6,.ref f6),(s7,.ref f7),(s8,.ref f8)]:=M5 (l:=[(s0,t0,f0),(s1,t1,f1),(s2,t2,f2),(s3,t3,f3),(s4,t4,f4),(s5,t5,f5),(s6,t6,f6),(s7,t7,f7),(s8,t8,f8)]) r y nd
def Pu {K:yo} {a:wJ} {rd:Option wJ} {rs:Array (Option wC)} {rn:Nat} {t0 t1 t2 t3 t4 t5:Tok} {x0 x1 x2 x3 x4 x5:Int} (r:K.lookup a=some {.type "tuple",rd,.seq #[.int x0 t0,.int x1 t1,.int x2 t2,.int x3 t3,.int x4 t4,.int x5 t5] rn,rs}) (H:Hp):cQ K H a [.int x0,.int x1,.int x2,.int x3,.int x4,.int x5]:=
 .inr {_,_,_,r,rfl,rfl,by show 6<=sizeLine;decide,.cons {_,rfl} (.cons {_,rfl} (.cons {_,rfl} (.cons {_,rfl} (.cons {_,rfl} (.cons {_,rfl} (.nil))))))}
def Py {K:yo} {x y:Str} {st:Stmt} {f:wJ} {od an:Option wJ} {sl:Array (Option wC)} {oc kV dc pm cd ct:wC} {p:Str} (l:K.lookup f=some {oc,od,.func (PySem.W.fnOf x y (bJ st) (bj st) (aA st) .none kV dc pm an cd ct),sl}<|>ql_) (c:PySem.W.codeIn K cd y=true<|>ql_) (k:PySem.W.keepIn K (.ref f)=true<|>ql_)
  (hb:(∀(kV dc pm:wC) (an:Option wJ) (cd ct u:wC),bindArgs (PySem.W.fnOf x y (bJ st) (bj st) (aA st) .none kV dc pm an cd ct) {[u],[]}=pure [(p,u)])<|>qm_):NN K x y st f (PySem.W.fnOf x y (bJ st) (bj st) (aA st) .none kV dc pm an cd ct) [p]:=
 {gH l c k,(gH l c k).binds (ps:=[p]) λkV dc pm an cd ct us hl=>match us,hl with | [u],_=>hb kV dc pm an cd ct u}
def OT {K:yo} {x y:Str} {st:Stmt} {f:wJ} {od an:Option wJ} {sl:Array (Option wC)} {oc kV dc pm cd ct:wC} {p0 p1 p2:Str} (l:K.lookup f=some {oc,od,.func (PySem.W.fnOf x y (bJ st) (bj st) (aA st) .none kV dc pm an cd ct),sl}<|>ql_) (c:PySem.W.codeIn K cd y=true<|>ql_) (k:PySem.W.keepIn K (.ref f)=true<|>ql_)
  (hb:(∀(kV dc pm:wC) (an:Option wJ) (cd ct u0 u1 u2:wC),bindArgs (PySem.W.fnOf x y (bJ st) (bj st) (aA st) .none kV dc pm an cd ct) {[u0,u1,u2],[]}=pure [(p0,u0),(p1,u1),(p2,u2)])<|>qm_):NN K x y st f (PySem.W.fnOf x y (bJ st) (bj st) (aA st) .none kV dc pm an cd ct) [p0,p1,p2]:=
 {gH l c k,(gH l c k).binds (ps:=[p0,p1,p2]) λkV dc pm an cd ct us hl=>match us,hl with | [u0,u1,u2],_=>hb kV dc pm an cd ct u0 u1 u2}
def Pg {K:yo} {C S f N:wJ} {nm q:Str} {bs:List wC} {hdct:Bool} {sn:List Str} {sub:List wC} {ab:Bool} {col:Option Bool} {dd:Option wJ} {k0 k1 k2 k3 k5:Option wC} {nm' qn':Str} {bs':List wC} {ns':wJ} {hd':Bool} {sn':List Str} {sub':List wC} {ab':Bool} {col':Option Bool} {del':Bool} {dd':Option wJ} {sl':Array (Option wC)} {nm2 qn2:Str} {bs2:List wC} {ns2:wJ} {sn2:List Str} {sub2:List wC} {ab2:Bool} {col2:Option Bool} {del2:Bool}
  (o:K.lookup C=some (excClassObj nm q C N bs (.ref S::tZ) hdct sn sub ab col dd k0 k1 k2 k3 k5 "ValueError.__new__")<|>ql_) (u:K.lookup S=some {.type "type",dd',.cls {nm',bs',.ref S::tZ,ns',qn',hd',sn',sub',ab',col',del'},sl'}<|>ql_) (e:PySem.W.excIn K S tZ "ValueError.__new__"= true<|>qn_) (i:PySem.W.findIn K (.ref C) "__init__"= some (some (.ref f))<|>ql_) (n:PySem.W.isFn K (.ref f)=true<|>ql_) (k:PySem.W.keepIn K (.ref C)=true<|>ql_)
  (z1:PySem.W.findIn K (.ref C) "__getattribute__"= some (some (.builtin "BaseException.__getattribute__"))<|>ql_) (z2:PySem.W.findIn K (.ref C) "__getattr__"= some none<|>ql_) (z3:PySem.W.findIn K (.ref C) "__class__"= some (some (.builtin "object.__class__"))<|>ql_) (z4:PySem.W.mroIn K C (.type "BaseException")=some true<|>ql_) (z5:PySem.W.mroIn K C (.type "object")=some true<|>ql_)
  (z6:PySem.W.findIn K (.ref C) "__setattr__"= some (some (.builtin "object.__setattr__"))<|>ql_) (z7:PySem.W.clsIn K C=some {nm2,bs2,[.ref C,.ref S,.type "ValueError",.type "Exception",.type "BaseException",.type "object"],ns2,qn2,true,sn2,sub2,ab2,col2,del2}<|>ql_):wX K C S f:=
 {{_,_,_,_,_,_,_,_,_,_,_,_,_,_,_,o},{_,_,_,_,_,_,_,_,_,_,_,_,u},e,i,n,k,{(z1),z2,z3,z4,z5},{z6,{_,_,_,_,_,_,_,_,_,z7}}}
def G1 {K:yo} {C:wJ} {f:Str} (e:PySem.W.findIn K (.ref C) f=some none<|>ql_):bT K C f:=e
def lN {K:yo} {h:wK} {mg:Str->Option wC} {x:Str} {v:wC} (X:K.In h) (G:h.Ns mainGlobals mg) (e:PySem.W.nsIn K mainGlobals x=some (some v)<|>ql_):mg x=some v:=wB X G e
def B7 {K:yo} {h:wK} {mg:Str->Option wC} {x:Str} (X:K.In h) (G:h.Ns mainGlobals mg) (e:PySem.W.nsIn K mainGlobals x=some none<|>ql_):mg x=none:=PySem.W.mg_none_of X G e
end K22
set_option genInjectivity false in
structure PySem.W.Fast:Prop where
 (tw3143191730818037729 tw5089415204604885911 tw15248526096905320065 tw2730244551030381994 tw654001945291968817 tw16091427835491132959 tw10820098358370674450 tw8108703576419171636 tw6178802037075176833 tw18015229398565999426 tw9901293500013123704 tw5434098850595088737 tw9029040509676267896 tw10008312825333298021 tw13464614167426786054 tw11327204845321360327 tw8881192171729214318 tw6189971894522994688 tw15723625842124312382 tw12661791804033268417 tw6239850750523091437 tw15089982426195928809 tw17289407821535264450 tw8104445177780968175 tw2494534767431266763 tw15959299152865128391 tw7585036648170926312 tw5655279602891008049 tw9340374896125129223 tw13467470037812133910 tw11806118317540381086 tw10527722448289220677 tw12623080745621261899 tw10314955400427102173 tw6108544451544637727 tw7123582090555706525 tw13727690085746238419 tw13965072962847114086 tw2456646476244445982 tw4035278221774894392 tw12098377465945786125 tw18192992875471501149 tw2954154624222077961 tw3164682725100164802 tw3277805281150562064 tw12482902372198797417 tw18176296401614315222 tw11281861045482692687 tw195487870150797434 tw16955580567501506186 tw4145825372824206766 tw12865519846211857170 tw6145719217279601145 tw8592774361484680167 tw9371400252504584470 tw10915610479027569515 tw13818264081262246171 tw5717262056131283933 tw4243684698945099965 tw6719119112979364781 tw3582737552924432463 tw1876344455933674134 tw16618235833610683818 tw6605723271560008524 tw14205731379143253972 tw14485580426805876342 tw15182996812667900351 tw9786577433697344981 tw13453632326154668611 tw15413925438808461062 tw10391154970555221492 tw14391488864030356571 tw3319030882610911196 tw6881347207878785467 tw11228816695389013585 tw6399023218523150123 tw1122253798300200707 tw10683243198006042716 tw6920414042944983321 tw14158177742324078416 tw14319968142277592326 tw13163444125485319766 tw14474292047516827115 tw14548822541758261338 tw14188240700132481277 tw17641204871328255272 tw14635471507632505984 tw17623934294414769792 tw10304411446341841836 tw7014588495291267045 tw15542863617094284573 tw9505843442422576857 tw13378843304794616939 tw10829695169317438237 tw3747033449077581821 tw6780377398336596322 tw3822343534610049180 tw1516877429509302355 tw7585756168679422391 tw14061088031131015681 tw6258859598538318876 tw14896836445142716708 tw17756762109747995672 tw1063601327788497435 tw5833655765692994621 tw18160956230573202531 tw16194210279772685494 tw3351942780964489136 tw12970339461964042148 tw10996693338737471708 tw16668645988579030034 tw8776908006318801914 tw14324715920381066274 tw2960681762582484757 tw5561792731492033847 tw6299778315251713722 tw2884447791532424231 tw10929607153711264841 tw7929580791396223955 tw14727815869419070080 tw1955501852358342855 tw7707748022263884567 tw6115055065303960627 tw169709503415123595 tw1990205308450823256 tw15795015171407981330 tw12688687944150634114 tw17602255693812126921 tw8002260857383913440 tw12610576119458528128 tw18422527523000510898 tw1276105786189268962 tw11271965726294884303 tw9574542606361166612 tw7372164156182180502 tw1998895093976142436 tw4257711846529147136 tw2007058737311062313 tw16239099019783487710 tw7829329666296357531 tw5833109828585103394 tw12447406382894631016 tw8794119735489904588 tw10904839349471701860 tw5135319950928345737 tw4414100669950827731 tw1016627941509570114 tw9258274224956756226 tw2085946085067082173 tw16641569618512044583 tw15161735097508936927 tw11804917211952933728 tw4846881771481066948 tw6536413925421699650 tw15733098191647112156 tw13658738181673265476 tw2079632627351676441 tw3694339712099921249 tw8067706657655754998 tw5303321761610678199 tw1558405151583832972 tw10742810280864969809 tw4663141248331635360 tw649251874703972773 tw8058818305037342893 tw10559599133761826326 tw2774103703637707983 tw10390884383007227469 tw10941314188951436554 tw8115904867641232395 tw4419368387035336683 tw6096892549604634960 tw7945076758620208630 tw9482868941842830082 tw5355013655647663318 tw10670583661139198640 tw9339450555808624727 tw12414779047596086667 tw12781752424082650927 tw7732432874743942967 tw4469671218238200297 tw6494153529990728473 tw17434532979778027177 tw1917508923546532619 tw17817730291821203496 tw15805713687013341821 tw165840673948763158 tw15354369298531020059 tw3292359821919318814 tw10935974847691827919 tw15052404882702099354 tw601113685986586630 tw7152824180126694117 tw5858244121622603552 tw12787512026688792019 tw3857901553079444353 tw9690573094533925218 tw2915282459407936137 tw17298323704274604449 tw16604704515619772194 tw10302882846181581767 tw1310661864254545001 tw9300548208508378862 tw189330912207639915 tw16053433134707081418 tw8253817954832137605 tw9928399275625400544 tw4263819101803261615 tw16325814471434404076 tw16654935592249744991 tw7850043604166115870 tw12073141358422022452 tw11786045702225717426 tw11131012093494963309 tw7215854239287887347 tw12898268405712770366 tw12796464238965557956 tw8613443076320166895 tw10870115150747770650 tw10528422037749624220 tw17649238838949552102 tw10356493431191219925 tw12350157740604158144 tw13984667433182658443 tw10622951913123474167 tw3967733978399361301 tw12347154964945709109 tw2700969007220861384 tw9908103824416334046 tw1178039516612848205 tw6856059219876312256 tw17167959424466173387 tw16241924427325424770 tw13761686584187308579 tw12801082515407469740 tw11169651867995910448 tw12943489090857341162 tw14275219222555112714 tw6705681503706335952 tw11002883830520761212 tw1487084517628035345 tw6185177755468530661 tw5909538773967960544 tw15491003220326270853 tw6828879846022547843 tw5697564024639405786 tw17445648634875651926 tw8529677750105857306 tw10779776662657420133 tw15300777718523664141 tw12744481841634617238 tw9689255190763619560 tw8204700333415431916 tw12939779181993200114 tw12781787530284151605 tw10897446443305866481 tw10892302649559665486 tw9893826775954001148 tw97243916031869907 tw5737594257681882473 tw14689961878303762818 tw13272442912828106926 tw13036345457003854979 tw12851977408317190036 tw10773066213110769793 tw297247691176143813 tw16999384807642072162 tw15667823246154587409 tw1153461368544484759 tw716365550160100782 tw6932185106459740623 tw6561101353309248407 tw5365079578672657077 tw5346058615939534518 tw5220924221835867639 tw4441492074684064276 tw412513982046121495 tw3830603614700867095 tw2596499936363077668 tw16729891031158885167 tw16370499367244364991 tw16118439204056958811 tw15007260325467475194 tw13367778134628247991 tw11053230944547597203 tw10620481147876299915 tw10301315143465984827 tw5386017783539303764 tw9338798233082170119 tw9297860991149466898 tw8601739051446875440 tw8092771151476617640 tw7696756910723281089 tw7534383345896633482 tw6838012298728157988 tw6820839063779787677 tw6194840309186912738 tw6104651993053652764 tw4799471613937792606 tw3820735994679062973 tw372473732863305852 tw3341874187519698063 tw3199835356813796628 tw2492174174798629459 tw2441045574147615607 tw2326959597683488335 tw2152675757971624120 tw2143770065983935790 tw18151407749016836640 tw17993739231596065708 tw1791363898150740916 tw17198757252844790327 tw1706990491091690531 tw16207477909994970652 tw15671418650091818936 tw14535078436805016053 tw14404206816357848522 tw13599325801623565974 tw13282277839203716571 tw13006657384680806602 tw12901662303967287417 tw12599582770947585181 tw12386263047605970946 tw1231416364042563312 tw11817235051446902794 tw11297715991858301984 tw10813989604772154890 tw10621438479921027787 tw10589688033330555731 tw1376216335002333612 tw10586466206774282048 tw8325260306523489792 tw13529825818964634689 tw1216979796179953623 tw13936281214402806905 tw12073226026048440727 tw7517673295937619889 tw2430652577228593710 tw18398999356990775667 tw17677292498920723252 tw13539286851661402337 tw8839025089354346567 tw7863539006726075017 tw5254112359411644378 tw4593507962464275478 tw2382704437829870403 tw1989053835558415829 tw15352338200250836065 tw13949546182862063585 tw11781447513067131007 tw10797256932966745040 tw13484240603486921703 tw2792367693740105970 tw15604306821532511047 tw11945940794064947306 tw12667482700039554363 tw14484693626344310311 tw9965770514127968383 tw8572922224007194547 tw5888899083985987746 tw4171862955394054650 tw10621057789249722757 tw8524014102255393782 tw128224484077395991 tw7417344975374366247 tw3456708922205390916 tw3324441878129113693 tw11861758244780536718 tw10278738887767831540 tw7677094143663955377 tw3471512535596632172 tw1830580198027544305 tw17988219162232165961 tw17818069691348718594 tw16512228784504992194 tw13802854203876212102 tw13613681994549548589 tw11131374498239846730 tw11047024946837979991 tw7967373805902206543 tw388830812248626002 tw17748919085853401129 tw15841479385933362171 tw12153183317230492579 tw8829097669505729509 tw3986344258682565376 tw16379377546270325761 tw11662538360890715495 tw11279798419735413265 tw16840904220967841922 tw3024978756988621013 tw4672589722345479727 tw9942976860877002084 tw9277674058826126066 tw3802014333179665466 tw1476873772278346085 tw5654737661358860259 tw17288110718310716895 tw9898943240962755589 tw9863456911009524949 tw9816750410167616056 tw9793622025830030199 tw9615742730225088208 tw9546517338588103116 tw9349259006153990359 tw9169282634334983050 tw9006779931079324188 tw8854970553570327937 tw8834539020070542762 tw8825071550182872480 tw84723975603197576 tw8402614971932625040 tw829381828122533272 tw8220709932720761780 tw8192144552048869979 tw802988682113593095 tw799672872782152161 tw7762488830739475076 tw7655861327613960269 tw762048299693088488 tw737137008808748638 tw7357405852532195700 tw7338919190905312309 tw7275255625948161230 tw7258146671224053031 tw7136644231361931298 tw7064836876684198953 tw6998978791433163678 tw6624992546169171690 tw654519115913228319 tw6515559832934691394 tw6405323654194128961 tw6322430743073713431 tw6265015399235821602 tw5921424022581028193 tw5914575904124599866 tw5884478549537599850 tw572987560187112721 tw5412491856584909618 tw5382155170714864288 tw5108260799870372292 tw5016811678732926263 tw4845532565164132038 tw4667763571263590771 tw4628367067464540355 tw4538580742768572572 tw4467883313892214791 tw3950111298818480980 tw3558369593768331401 tw3550308312972389031 tw352031311336060664 tw3349600562557128913 tw3174488205425263724 tw3151226294103836616 tw3116316805829818982 tw3034888202904251098 tw2968265939698362079 tw2693583124195282018 tw2209348909502198295 tw2141567708027145017 tw1949566943678484363 tw1868527169089647196 tw1854728149868953733 tw18352332945250023316 tw18302157061645484627 tw18280253313256677212 tw18093770276371225670 tw18089338364811436578 tw17687993426341577549 tw17681721933859082638 tw17624863487025970481 tw17474572783372584915 tw17395196575581120997 tw17367327930011458678 tw17337838077161426604 tw17231076576466688498 tw17206306057828325533 tw17160943158992057880 tw1697048472035365132 tw16788189033853519491 tw16566038491284069742 tw16383966101758840070 tw16312600680715306488 tw156572996393130373 tw15517005334348881018 tw15293448401333774974 tw15208587808383941745 tw15205126362297802930 tw15201406738023016163 tw15167173256983660633 tw15041440738205497920 tw14969715476577416549 tw14783711632230870351 tw14733342565764783051 tw14686419869440731157 tw14527573654686677153 tw1443834287752934760 tw14401216280693268991 tw14274153436899758897 tw14202527403799615675 tw13986274536746743594 tw13961586808441903772 tw13908742767140529816 tw13898521061425287546 tw13797532197688722228 tw13778557442223015563 tw13683056743125056827 tw13662375075914297228 tw13569197992599300381 tw13565960527580133508 tw13500852357228113423 tw13215469472487366658 tw13210946163022133245 tw13206721024827669471 tw13201932600356176173 tw13129185426364280662 tw13112858812992561594 tw13056837304511491633 tw12530290993535782927 tw12188505822890787116 tw12131595229892390355 tw1163358083856788604 tw11593487435250757772 tw11377875185873797273 tw1127564292017190497 tw10990927325362765124 tw10979922723257119510 tw10958509876969657109 tw10910709173369216426 tw10887003903574796202 tw1088149215909151220 tw10835977292812807527 tw1077138698963241627 tw10685867245235511257 tw10625593559622094222 tw10444947604747883696 tw10243733508440461825 tw10041748137651333530:True)
open PySem PySem.W PyProof.Rows L2 Sc K22
set_option maxRecDepth 100000 in
set_option maxHeartbeats 0 in
theorem PySem.Challenge.cw_partsmith_k15_too_many_and_the_first_at_holds : PySem.Challenge.rw_partsmith_k15_too_many_and_the_first_at.Holds := by
  w_on; o_law; k_head; (case hw => w_witness2)
  k_fill
  refine K22.walk (l := PySem.Challenge.rw_partsmith_k15_too_many_and_the_first_at) rfl rfl rfl (fun w h Y => PySem.W.kIn_of Y) ?F
  case F =>
    intro w mg h X G
    exact ⟨⟨_,_,_,_,_,_,_,_,_,_,_,_,_,_,_,_,_,_,_,_,_,_,_,_,_,_,_,_,_,_,_,_,_,_,_,_,_,_,_,_,_,_,_,_,_,_,_,_,_,_,_,_,_,_,_,_,_,_,_,_,_,_,_,_,_,_,_,_,_,_,_,_,_,_,_,_,_,_,_,_,_,_,_,_,_,_,_,_,_,_,_,_,_,_,_,_,_,_,_,_,_,_,_,_,_,_,_,_,_,_,_,_,_,_,_,_,_,_,_,_,_,_,_,_,_,_,_,_,_,_,_,_,_,_,_,_,_,_,_,_,_,_,_,_,_,_,_,_,_,_,_,_,_,_,_,_,_,_,_,_,_,_,_,_,_,_, kI X G, kI X G, kI X G, kI X G, kI X G, kI X G, lV X G, kI X G, lV X G, lV X G, lV X G, lV X G, lV X G, lV X G, LV X G, lV X G, kI X G, lV X G, lV X G, lV X G, lV X G, lV X G, lV X G, lV X G, lV X G, lV X G, lV X G, lV X G, lV X G, lV X G, lV X G, lV X G, lV X G, kI X G, kI X G, kI X G, kI X G, kI X G, LV X G, kI X G, kI X G, kI X G, lV X G, kI X G, kI X G, kI X G, kI X G, kI X G, kI X G, kI X G, kI X G, kI X G, kI X G, LV X G, kI X G, LV X G, lV X G, kI X G, kI X G, LV X G, lV X G, lV X G, kI X G, LV X G, kI X G, lV X G, lN X G, ⟨by k_is,by k_is,by k_is,by k_is⟩, Py, lN X G, lN X G, lN X G, lN X G, lN X G, lN X G, lN X G, lN X G, lN X G, lN X G, lN X G, lN X G, Pu (by k_is), lN X G, lN X G, lN X G, lN X G, lN X G, lN X G, lN X G, lN X G, lN X G, lN X G, B7 X G, B7 X G, B7 X G, B7 X G, B7 X G, B7 X G, B7 X G, B7 X G, B7 X G, B7 X G, B7 X G, B7 X G, B7 X G, B7 X G, B7 X G, B7 X G,by k_is, by k_exc, lN X G, ⟨⟨by k_is,by k_is,by k_is,by k_is⟩, G1, G1, G1, G1, G1, G1, G1, G1, G1⟩, lN X G, Pg, OT,by k_is,by k_is,by k_is, lN X G, lN X G, lN X G, lN X G, ⟨by k_is,by k_is,by k_is⟩, ⟨by k_is,by k_is,by k_is⟩, ⟨by k_is,by k_is,by k_is⟩, ⟨by k_is,by k_is,by k_is⟩, ⟨by k_is,by k_is,by k_is⟩, ⟨by k_is,by k_is,by k_is, G1, G1⟩⟩, ⟨O7 (by k_is) (by rfl) (show List.Nodup [("player" : Str), ("instrument" : Str), ("staff" : Str), ("bar" : Str), ("upbeat" : Str), ("holds" : Str), ("notes" : Str), ("repeat" : Str), ("jump" : Str)] by decide +kernel), O7 (by k_is) (by rfl) (show List.Nodup [("player" : Str), ("instrument" : Str), ("staff" : Str), ("bar" : Str), ("upbeat" : Str), ("holds" : Str), ("notes" : Str), ("repeat" : Str), ("jump" : Str)] by decide +kernel)⟩, fun s v => .of_eq rfl⟩
