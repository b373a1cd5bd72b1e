import PyProof.Rows.All
import Wide.All
import OpenK.AllK
import Wide.FinOn
import HandS.ForMost
import HandS.Wide
import HandS.Deep
import HandS.Lambda
import HandS.EndTab
import HandS.Conv
import HandS.Star
import HandS.TupAny
import HandS.Flow
import HandS.Style
import HandS.TryMany
import HandS.IsInst
import HandS.Zip
import HandS.Small
import HandS.Sort
import HandS.WordsExc
import HandS.GenList
import HandS.AnyAll
import PyProof.ConsumeS
import PyProof.SumWalk
import PyProof.TupleOfGen
import HandS.Strs
import HandS.Text
import KE.KBits
import HandS.RaiseMore
import HandS.FStr
import HandS.FStrTup
import PySem.Challenge.RW_chipstack_k11_code_as_lines
import HandS.StrMore
import HandS.DictComp
import HandS.Iter
import KE.GoesMore
import KE.GoesEnum
import HandS.Call
import PyProof.StrOps2
import HandS.More
import HandS.Head0
import HandS.Head1
import HandS.Head2
import HandS.HeadEnd
import HandS.HeadHook1
import HandS.HeadHook2
import HandS.HeadHook3
import HandS.HeadHook4
import HandS.HeadWalk
set_option Elab.async false
set_option linter.all false
set_option maxRecDepth 100000
set_option maxHeartbeats 4000000
namespace Own
open PySem L2
/-! ### texts written out -/
theorem char_toNat_inj {a b : Char} (h : a.toNat = b.toNat) : a = b := by
  apply Char.ext
  apply UInt32.toNat_inj.mp
  exact h
theorem map_toNat_inj : ∀ {a b : List Char}, a.map Char.toNat = b.map Char.toNat → a = b
  | [], [], _ => rfl
  | [], _ :: _, h => by simp at h
  | _ :: _, [], h => by simp at h
  | x :: xs, y :: ys, h => by
    simp only [List.map_cons, List.cons.injEq] at h
    rw [char_toNat_inj h.1, map_toNat_inj h.2]
theorem ofString_inj {a b : String} : Str.ofString a = Str.ofString b ↔ a = b := by
  constructor
  · intro h
    rw [Str.ofString_eq_toList, Str.ofString_eq_toList] at h
    injection h with h
    have h2 : a.toList.map Char.toNat = b.toList.map Char.toNat := by
      have := congrArg Array.toList h
      simpa using this
    have h3 := map_toNat_inj h2
    exact String.toList_inj.mp h3
  · rintro rfl
    rfl
@[simp] theorem str_eq {a b : String} : (Str.ofString a = Str.ofString b) = (a = b) := propext ofString_inj
@[simp] theorem str_beq {a b : String} : (Str.ofString a == Str.ofString b) = decide (a = b) := by
  rw [Bool.eq_iff_iff, beq_iff_eq, decide_eq_true_eq]
  exact ofString_inj
example : ¬ (Str.ofString "ab" = Str.ofString "ac") := by simp
example (x : Str) (h : x = Str.ofString "ab") : ¬ (x = Str.ofString "ac") := by simp [h]
/-! ### readings opened -/
section
variable {σ : St} {H : Hp} {D : Ends} {Q : VK} {QB : Bool → Hp → Prop} {QL : List V → Hp → Prop} {v : V} {x y : V} {K : PySem.W.Frag}
@[simp] theorem o_tSeq (t u : TS) : tSeq t u D σ H = t { D with nx := u D } σ H := rfl
@[simp] theorem o_tIfS (c : TT) (t u : TS) : tIfS c t u D σ H = c σ H fun b H1 => if b = true then t D σ H1 else u D σ H1 := rfl
@[simp] theorem o_tTest (t : TE) : tTest t σ H QB = t σ H fun x H' => ∃ k, x = .bl k ∧ QB k H' := rfl
@[simp] theorem o_tB (t : TE) : tB t σ H QB = t σ H fun x H' => ∃ k, x = .bl k ∧ QB k H' := rfl
@[simp] theorem o_tC : tC v σ H Q = Q v H := rfl
@[simp] theorem o_tVar (i : Nat) : tVar i σ H Q = ∃ v, σ[i]? = some (some v) ∧ Q v H := rfl
@[simp] theorem o_tOp (r : R2) (ta tb : TE) : tOp r ta tb σ H Q = ta σ H fun x H1 => tb σ H1 fun y H2 => r x y H2 Q := rfl
@[simp] theorem o_tUn (r : V → Hp → VK → Prop) (ta : TE) : tUn r ta σ H Q = ta σ H fun x H1 => r x H1 Q := rfl
@[simp] theorem o_rI (C : Int → Int → Prop) (g : Int → Int → V) : rI C g x y H Q = ∃ i j, x = .int i ∧ y = .int j ∧ C i j ∧ Q (g i j) H := rfl
@[simp] theorem o_rI0 (g : Int → Int → V) : rI0 g x y H Q = ∃ i j, x = .int i ∧ y = .int j ∧ Q (g i j) H := rfl
@[simp] theorem o_rU (g : Int → V) : rU g x H Q = ∃ i, x = .int i ∧ Q (g i) H := rfl
@[simp] theorem o_rAdd : rAdd x y H Q = ∃ i j, x = .int i ∧ y = .int j ∧ Q (.int (i + j)) H := rfl
@[simp] theorem o_rSub : rSub x y H Q = ∃ i j, x = .int i ∧ y = .int j ∧ Q (.int (i - j)) H := rfl
@[simp] theorem o_rEq : rEq x y H Q = (scal x y = true ∧ Q (.bl (decide (x = y))) H) := rfl
@[simp] theorem o_rNe : rNe x y H Q = (scal x y = true ∧ Q (.bl (!decide (x = y))) H) := rfl
@[simp] theorem o_tNil : tNil σ H QL = QL [] H := rfl
@[simp] theorem o_tCons (ta : TE) (tr : TA) : tCons ta tr σ H QL = ta σ H fun x H1 => tr σ H1 fun xs H2 => QL (x :: xs) H2 := rfl
@[simp] theorem o_tCB (r : List V → Hp → VK → Prop) (t : TA) : tCB r t σ H Q = t σ H fun vs H1 => r vs H1 Q := rfl
@[simp] theorem o_tTup (t : TA) : tTup t σ H Q = t σ H fun xs H1 => xs.length ≤ sizeLine ∧ ∀ p, H1 p = none → Q (.ref p) (upd H1 p (.tup xs)) := rfl
@[simp] theorem o_tLst (t : TA) : tLst t σ H Q = t σ H fun xs H1 => xs.length ≤ sizeLine ∧ ∀ p, H1 p = none → Q (.ref p) (upd H1 p (.lst xs)) := rfl
@[simp] theorem o_tRet (te : TE) : tRet te D σ H = te σ H D.rt := rfl
@[simp] theorem o_tRetN : tRetN D σ H = D.rt .non H := rfl
@[simp] theorem o_tNext : tNext D σ H = D.nx σ H := rfl
@[simp] theorem o_tBreak : tBreak D σ H = D.bk σ H := rfl
@[simp] theorem o_tCont : tCont D σ H = D.ct σ H := rfl
@[simp] theorem o_tDrop (te : TE) : tDrop te D σ H = te σ H fun _ H1 => D.nx σ H1 := rfl
@[simp] theorem o_tNever : tNever D σ H = False := rfl
@[simp] theorem o_tAsg (te : TE) (g : TG) : tAsg te g D σ H = te σ H fun x H1 => g x σ H1 D.nx := rfl
@[simp] theorem o_gName (i : Nat) (Qs : St → Hp → Prop) : gName i v σ H Qs = Qs (σ.set i (some v)) H := rfl
@[simp] theorem o_gSub (to ti : TE) (t : TSet) (Qs : St → Hp → Prop) : gSub to ti t v σ H Qs = to σ H fun o H1 => ti σ H1 fun i H2 => t o i v H2 fun H3 => Qs σ H3 := rfl
@[simp] theorem o_tAnd (t u : TT) : tAnd t u σ H QB = t σ H fun c H1 => if c = true then u σ H1 QB else QB false H1 := rfl
@[simp] theorem o_tOr (t u : TT) : tOr t u σ H QB = t σ H fun c H1 => if c = true then QB true H1 else u σ H1 QB := rfl
@[simp] theorem o_tNot (t : TT) : tNot t σ H QB = t σ H fun c H1 => QB (!c) H1 := rfl
@[simp] theorem o_tIf (t : TT) (ta tb : TE) : tIf t ta tb σ H Q = t σ H fun c H1 => if c = true then ta σ H1 Q else tb σ H1 Q := rfl
@[simp] theorem o_tChain (r r' : R2) (ta tb tc : TE) : tChain r r' ta tb tc σ H Q = ta σ H fun x H1 => tb σ H1 fun y H2 => r x y H2 fun z H3 => ∃ k, z = .bl k ∧ (if k = true then tc σ H3 fun w' H4 => r' y w' H4 Q else Q (.bl false) H3) := rfl
@[simp] theorem o_tPar (i j : Nat) (ta : TA) : tPar i j ta D σ H = ta σ H fun vs H1 => ∃ v w, vs = [v, w] ∧ D.nx ((σ.set i (some v)).set j (some w)) H1 := rfl
@[simp] theorem o_tAug (i : Nat) (te : TE) (ti : TIp) : tAug i te ti D σ H = ∃ x, σ[i]? = some (some x) ∧ te σ H fun y H1 => ti x y H1 fun z H2 => D.nx (σ.set i (some z)) H2 := rfl
@[simp] theorem o_rSetL (i : V) (QH : Hp → Prop) : rSetL x i v H QH = ∃ p xs k j, x = .ref p ∧ i = .int k ∧ H p = some (.lst xs) ∧ ixN xs.length k = some j ∧ QH (upd H p (.lst (xs.set j v))) := rfl
@[simp] theorem o_rCat : rCat x y H Q = ∃ l b xs zs, x = .ref l ∧ y = .ref b ∧ H l = some (.lst xs) ∧ H b = some (.lst zs) ∧ xs.length + zs.length ≤ sizeLine ∧ ∀ p, H p = none → Q (.ref p) (upd H p (.lst (xs ++ zs))) := rfl
@[simp] theorem o_tFld (ta : TE) (f : Str) : tFld K ta f σ H Q = ta σ H fun x H1 => ∃ a C dx fs v, x = .ref a ∧ H1 a = some (.ins C dx fs) ∧ Cls K C ∧ NoAttr K C f ∧ fs.lookup f = some v ∧ Q v H1 := rfl
@[simp] theorem o_sFld (ta tv : TE) (f : Str) : sFld K ta tv f D σ H = tv σ H fun y H1 => ta σ H1 fun x H2 => ∃ a C dx fs, x = .ref a ∧ H2 a = some (.ins C dx fs) ∧ Cls K C ∧ NoAttr K C f ∧ fs.length < 1000 ∧ D.nx σ (upd H2 a (.ins C dx (putF f y fs))) := rfl
@[simp] theorem o_tCall (sp : Sp) (dvs : List V) (E : XK) (t : TA) : tCall sp dvs E t σ H Q = t σ H fun vs H1 => sp (vs ++ dvs) H1 Q E := rfl
@[simp] theorem o_tMeth (C : Addr) (m : Str) (sp : Sp) (dvs : List V) (E : XK) (ta : TE) (t : TA) : tMeth C m sp dvs E ta t σ H Q = ta σ H fun x H1 => ∃ a dx fs, x = .ref a ∧ H1 a = some (.ins C dx fs) ∧ fs.lookup m = none ∧ t σ H1 fun vs H2 => sp (x :: (vs ++ dvs)) H2 Q E := rfl
@[simp] theorem o_tMake (C : Addr) (sp : Sp) (dvs : List V) (E : XK) (t : TA) : tMake C sp dvs E t σ H Q = t σ H fun vs H1 => ∀ x dx, H1 x = none → H1 dx = none → dx ≠ x →
  sp (.ref x :: (vs ++ dvs)) (upd (upd H1 dx (.own x)) x (.ins C dx [])) (fun v H2 => v = .non ∧ Q (.ref x) H2) E := rfl
@[simp] theorem o_start (N : List Str) (vs : List V) : L2.start N vs = vs.map some ++ List.replicate (N.length - vs.length) none := rfl
@[simp] theorem o_rAppend {vs : List V} : rAppend x vs H Q = ∃ l xs y, x = .ref l ∧ vs = [y] ∧ H l = some (.lst xs) ∧ xs.length < sizeLine ∧ Q .non (upd H l (.lst (xs ++ [y]))) := rfl
@[simp] theorem o_tYes : tYes σ H QB = QB true H := rfl
@[simp] theorem o_CPow (i j : Int) : CPow i j = (0 ≤ j ∧ j ≤ 1000000 ∧ i.natAbs < 2 ^ 64) := rfl
end
@[simp] theorem o_CDiv (i j : Int) : CDiv i j = (0 < j ∧ j < 1073741824) := rfl
theorem o_CMul (i j : Int) : CMul i j = ((-(2 ^ 64) < i ∧ i < 2 ^ 64) ∨ (-(2 ^ 64) < j ∧ j < 2 ^ 64)) := rfl
end Own
namespace Own
open PySem L2
section
variable {X : Cx}
/-! ### rules that read what is held itself -/
def rIL : R2 := fun x y H Q => ∃ p xs i v, x = .ref p ∧ y = .int i ∧ H p = some (.lst xs) ∧ atI xs i = some v ∧ Q v H
theorem ix_l : IxR X rIL := fun value slice pins s σ H x y v u Q I rx ry h hs => by
  obtain ⟨p, xs, i, z, e1, e2, hp, ha, q⟩ := h
  exact ix_list value slice pins s σ H x y v u Q I rx ry ⟨p, xs, i, z, e1, e2, SqL.of hp, ha, q⟩ hs
def rIT : R2 := fun x y H Q => ∃ p xs i v, x = .ref p ∧ y = .int i ∧ H p = some (.tup xs) ∧ atI xs i = some v ∧ Q v H
theorem ix_t : IxR X rIT := fun value slice pins s σ H x y v u Q I rx ry h hs => by
  obtain ⟨p, xs, i, z, e1, e2, hp, ha, q⟩ := h
  exact ix_tup value slice pins s σ H x y v u Q I rx ry ⟨p, xs, i, z, e1, e2, SqT.of hp, ha, q⟩ hs
def rCI : List V → Hp → VK → Prop := fun xs H Q => ∃ i, xs = [.int i] ∧ Q (.int i) H
theorem call_intI : CallR X (.type "int") rCI := fun pins s σ H xs us Q I rs h => by
  obtain ⟨i, e, q⟩ := h
  exact call_int1 pins s σ H xs us Q I rs (.inl ⟨i, e, q⟩)
def rCIB : List V → Hp → VK → Prop := fun xs H Q => ∃ k, xs = [.bl k] ∧ Q (.int (if k then 1 else 0)) H
theorem call_intB : CallR X (.type "int") rCIB := fun pins s σ H xs us Q I rs h => by
  obtain ⟨k, e, q⟩ := h
  exact call_int1 pins s σ H xs us Q I rs (.inr ⟨k, e, q⟩)
def rLenL : List V → Hp → VK → Prop := fun xs H Q => ∃ p ys, xs = [.ref p] ∧ H p = some (.lst ys) ∧ Q (.int ys.length) H
theorem call_lenL : CallR X (.builtin "len") rLenL := fun pins s σ H xs us Q I rs h => by
  obtain ⟨p, ys, e, hp, q⟩ := h
  exact call_len_seq pins s σ H xs us Q I rs ⟨p, ys, e, .inl (SqL.of hp), q⟩
def rLenTp : List V → Hp → VK → Prop := fun xs H Q => ∃ p ys, xs = [.ref p] ∧ H p = some (.tup ys) ∧ Q (.int ys.length) H
theorem call_lenT : CallR X (.builtin "len") rLenTp := fun pins s σ H xs us Q I rs h => by
  obtain ⟨p, ys, e, hp, q⟩ := h
  exact call_len_seq pins s σ H xs us Q I rs ⟨p, ys, e, .inr (SqT.of hp), q⟩
variable {σ : St} {H : Hp} {Q : VK} {v x y : V} {xs : List V}
@[simp] theorem o_rIL : rIL x y H Q = ∃ p xs i v, x = .ref p ∧ y = .int i ∧ H p = some (.lst xs) ∧ atI xs i = some v ∧ Q v H := rfl
@[simp] theorem o_rIT : rIT x y H Q = ∃ p xs i v, x = .ref p ∧ y = .int i ∧ H p = some (.tup xs) ∧ atI xs i = some v ∧ Q v H := rfl
@[simp] theorem o_rCI : rCI xs H Q = ∃ i, xs = [.int i] ∧ Q (.int i) H := rfl
@[simp] theorem o_rCIB : rCIB xs H Q = ∃ k, xs = [.bl k] ∧ Q (.int (if k then 1 else 0)) H := rfl
@[simp] theorem o_rLenL : rLenL xs H Q = ∃ p ys, xs = [.ref p] ∧ H p = some (.lst ys) ∧ Q (.int ys.length) H := rfl
@[simp] theorem o_rLenTp : rLenTp xs H Q = ∃ p ys, xs = [.ref p] ∧ H p = some (.tup ys) ∧ Q (.int ys.length) H := rfl
end
/-! ### places of written lists -/
section
variable {α : Type} {a b c d : α} {l : List α}
@[simp] theorem at_0 : atI (a :: l) 0 = some a := atI_nat (j := 0) rfl
@[simp] theorem at_1 : atI (a :: b :: l) 1 = some b := atI_nat (j := 1) rfl
@[simp] theorem at_2 : atI (a :: b :: c :: l) 2 = some c := atI_nat (j := 2) rfl
@[simp] theorem at_3 : atI (a :: b :: c :: d :: l) 3 = some d := atI_nat (j := 3) rfl
theorem ixN_nat {n j : Nat} (h : j < n) : ixN n (j : Int) = some j := by
  unfold ixN
  rw [if_pos (by omega), if_pos (by omega)]
  simp
@[simp] theorem ixN_0 {n : Nat} : ixN (n + 1) 0 = some 0 := ixN_nat (j := 0) (by omega)
@[simp] theorem ixN_1 {n : Nat} : ixN (n + 1 + 1) 1 = some 1 := ixN_nat (j := 1) (by omega)
@[simp] theorem ixN_2 {n : Nat} : ixN (n + 1 + 1 + 1) 2 = some 2 := ixN_nat (j := 2) (by omega)
@[simp] theorem ixN_3_0 : ixN 3 0 = some 0 := ixN_nat (j := 0) (by omega)
@[simp] theorem ixN_3_1 : ixN 3 1 = some 1 := ixN_nat (j := 1) (by omega)
@[simp] theorem ixN_3_2 : ixN 3 2 = some 2 := ixN_nat (j := 2) (by omega)
end
@[simp] theorem scal_ii {i j : Int} : scal (.int i) (.int j) = true := rfl
@[simp] theorem scal_bb {i j : Bool} : scal (.bl i) (.bl j) = true := rfl
@[simp] theorem scal_ss {i j : Str} : scal (.str i) (.str j) = true := rfl
@[simp] theorem upd_sameS {H : Hp} {a : Addr} {o : HO} : upd H a o a = some o := upd_same
@[simp] theorem upd_updS {H : Hp} {a : Addr} {o u : HO} : upd (upd H a o) a u = upd H a u := upd_upd
end Own
namespace Own
open PySem L2 LamX PySem.Spec PyProof.Rows
/-- a lambda's text -/
structure LamB where
  params : Arguments
  body : Expr
  scope : Scope
/-- at f stands a lambda of this text -/
def LamO (f : Addr) (q : Str) (b : LamB) (cl : List (Str × Addr)) (c' : Addr) : HO :=
  .ext fun h => ∃ pm ctv, h.get? f = some (PySem.W.kla_obj "<lambda>" q b.params b.body b.scope cl pm c' ctv)
/-- all but what stands at P goes on standing -/
def ExtP (P : Addr) (H H1 : Hp) : Prop := ∀ d o, H d = some o → d ≠ P → H1 d = some o
theorem ExtP.refl {P : Addr} {H : Hp} : ExtP P H H := fun _ _ e _ => e
theorem ExtP.trans {P : Addr} {H H1 H2 : Hp} (a : ExtP P H H1) (b : ExtP P H1 H2) : ExtP P H H2 := fun d o e n => b d o (a d o e n) n
theorem extP_new {P : Addr} {H : Hp} {f : Addr} {o : HO} (n : H f = none) : ExtP P H (upd H f o) := fun d u e _ => by rw [upd_ne (ne_of_none e n), e]
section
variable {X : Cx} {pins : List (Addr × Obj)} {σ : L2.St} {H : Hp} {s : Shared}
theorem lamO_ok {P : Program} {w : World} {G : Hp} {h : Heap} {f : Addr} {q : Str} {b : LamB} {cl : List (Str × Addr)} {c' : Addr} {pm ctv : Value}
    (e : h.get? f = some (PySem.W.kla_obj "<lambda>" q b.params b.body b.scope cl pm c' ctv)) : ObjOk P w G h f (LamO f q b cl c') := by
  refine ⟨⟨pm, ctv, e⟩, ⟨_, e⟩, ?_⟩
  rintro h1 h2 ⟨pm, ctv, e⟩ st
  exact ⟨pm, ctv, st _ e⟩
/-- a lambda is made and tracked -/
theorem lam_new {T : List (Addr × Str)} {c P : Addr} {b : LamB} {pos : Pos} {E Q : Value → Shared → Prop} (I : Inv X pins σ H s) (TB : TabB X.base X.mg c P) (hcode : X.env.code = .ref c)
    (hm : (P, X.env.qual ++ "<lambda>") ∈ T) (hu : ∀ p ∈ T, p.1 = P → p.2 = X.env.qual ++ "<lambda>") (hT : Tabs T H) (hdef : defaultsOf b.params X.env = ([], []))
    (hfree : ∀ y ∈ b.scope.names, y.2 = .free → ∃ c, X.env.cells.lookup y.1 = some c)
    (h : ∀ (f c' : Addr) (H1 : Hp) (s' : Shared), Inv X pins σ (upd H1 f (LamO f (X.env.qual ++ "<lambda>") b (cloFrom X.env.cells b.scope.names []) c')) s' →
      H1 f = none → ExtN H H1 → ExtP P H H1 → Tabs T H1 → H1 c' = some (CodeO c' (X.env.qual ++ "<lambda>")) → Q (.ref f) s') :
    wpAny (model X.prog X.w) X.A (eval (.Lambda b.params b.body b.scope pos) X.env) Q E s := by
  have hT0 := hT
  obtain ⟨ps, tabP, trip, among⟩ := hT _ hm
  have heldP : s.heap.get? P = some { cls := .none, data := .fields ps } := I.hok P _ tabP
  refine PySem.W.kla_eval hdef ?_
  cases found : codeAmong pos ps.toList with
  | some cv =>
    obtain ⟨c', rfl, known⟩ := among pos cv found
    refine PySem.W.kla_makeFunctionHit (mg := X.mg) (c := c) (P := P) (ps := ps) (closure_ok hfree) I.ok.glob (I.mod.glob.keeps I.bk)
      hcode (TB.code.keeps I.bk) heldP trip found (TB.bm.keeps I.bk) fun ctv h' tk grown more => ?_
    have new : H h'.objs.size = none := I.hok.fresh more
    refine h _ c' H _ (I.laid (t' := tk) (fun d o e => Heap.get?_push_of_some _ (grown d o e)) more (lamO_ok (Heap.get?_push_size _ rfl))) new (ExtN.refl H) ExtP.refl hT0 known
  | none =>
    refine PySem.W.kla_makeFunction (mg := X.mg) (c := c) (P := P) (ps := ps) (closure_ok hfree) I.ok.glob (I.mod.glob.keeps I.bk)
      hcode (TB.code.keeps I.bk) heldP trip found TB.gP (TB.bm.keeps I.bk) fun c' ctv h' tk grown above below rec held => ?_
    obtain ⟨_, oc, vs, t, ec, hoc, hd, hv⟩ := rec
    cases ec
    have newC : H c' = none := I.hok.fresh above
    have J := inv_table (t' := tk) I tabP (fun d o hd' e => grown d o hd' e) held above ⟨oc, vs, t, hoc, hd, hv⟩
    have grownT : ExtN H (upd (upd H P (.tbl (ps ++ #[rawInt pos.line, rawInt pos.col, .ref c']))) c' (CodeO c' (X.env.qual ++ "<lambda>"))) := fun d o e n => by
      have n1 := ne_of_none e newC
      have n2 : d ≠ P := fun z => n ps (Option.some.inj (e.symm.trans (z ▸ tabP)))
      rw [upd_ne n1, upd_ne n2, e]
    have grownP : ExtP P H (upd (upd H P (.tbl (ps ++ #[rawInt pos.line, rawInt pos.col, .ref c']))) c' (CodeO c' (X.env.qual ++ "<lambda>"))) := fun d o e n => by
      rw [upd_ne (ne_of_none e newC), upd_ne n, e]
    have app : (ps ++ #[rawInt pos.line, rawInt pos.col, .ref c']).toList = ps.toList ++ [rawInt pos.line, rawInt pos.col, .ref c'] := by simp
    refine h _ c' _ _ (J.laid (t' := tk) (fun d o e => Heap.get?_push_of_some _ e) (Nat.le_refl _) (lamO_ok (Heap.get?_push_size _ rfl))) (J.hok.fresh (Nat.le_refl _)) grownT grownP (fun p hp => ?_) upd_same
    by_cases at_ : p.1 = P
    · have atP : (upd (upd H P (.tbl (ps ++ #[rawInt pos.line, rawInt pos.col, .ref c']))) c' (CodeO c' (X.env.qual ++ "<lambda>"))) P = some (.tbl (ps ++ #[rawInt pos.line, rawInt pos.col, .ref c'])) := by
        rw [upd_ne (ne_of_none tabP newC), upd_same]
      rw [hu p hp at_, at_]
      refine ⟨_, atP, app ▸ PySem.TriplesOk_snoc _ _ _ _ trip, fun p' cv hcv => ?_⟩
      rcases among_app _ trip (app ▸ hcv) with old | new
      · obtain ⟨d, e1, e2⟩ := among p' cv old
        exact ⟨d, e1, grownT _ _ e2 codeO_ne⟩
      · exact ⟨c', new, upd_same⟩
    · obtain ⟨qs, a1, a2, a3⟩ := hT0 p hp
      have stays : (upd (upd H P (.tbl (ps ++ #[rawInt pos.line, rawInt pos.col, .ref c']))) c' (CodeO c' (X.env.qual ++ "<lambda>"))) p.1 = some (.tbl qs) := by
        rw [upd_ne (ne_of_none a1 newC), upd_ne at_, a1]
      refine ⟨qs, stays, a2, fun p' cv hcv => ?_⟩
      obtain ⟨d, e1, e2⟩ := a3 p' cv hcv
      exact ⟨d, e1, grownT _ _ e2 codeO_ne⟩
/-! ### several lambdas, one after another -/
def LamsAt (q : Str) (cells : List (Str × Addr)) (H : Hp) (fs : List Addr) (bs : List LamB) : Prop :=
  Paired (fun f b => ∃ c', H f = some (LamO f q b (cloFrom cells b.scope.names []) c') ∧ H c' = some (CodeO c' q)) fs bs
theorem lamO_ne {f : Addr} {q : Str} {b : LamB} {cl : List (Str × Addr)} {c' : Addr} (ps : Array Value) : LamO f q b cl c' ≠ .tbl ps := fun z => by
  unfold LamO at z
  cases z
def tLams (T : List (Addr × Str)) (P : Addr) (q : Str) (cells : List (Str × Addr)) (bs : List LamB) : TA := fun σ H Q =>
  Tabs T H ∧ ∀ fs H1, ExtN H H1 → ExtP P H H1 → Tabs T H1 → LamsAt q cells H1 fs bs → Q (fs.map V.ref) H1
/-- what every lambda of the def asks of it -/
structure LamTab (X : Cx) (T : List (Addr × Str)) (c P : Addr) : Prop where
  tb : TabB X.base X.mg c P
  code : X.env.code = .ref c
  mem : (P, X.env.qual ++ "<lambda>") ∈ T
  uni : ∀ p ∈ T, p.1 = P → p.2 = X.env.qual ++ "<lambda>"
def tLam1 (T : List (Addr × Str)) (P : Addr) (q : Str) (cl : List (Str × Addr)) (b : LamB) : TE := fun σ H Q =>
  Tabs T H ∧ ∀ f c' H1, H1 f = none → ExtN H H1 → ExtP P H H1 → Tabs T H1 → H1 c' = some (CodeO c' q) → Q (.ref f) (upd H1 f (LamO f q b cl c'))
theorem pe_lam1 {T : List (Addr × Str)} {c P : Addr} {b : LamB} {pos : Pos} (TB : LamTab X T c P) (L : LamS X.env.scope b.scope) (hdef : defaultsOf b.params X.env = ([], [])) :
    PE X (.Lambda b.params b.body b.scope pos) (tLam1 T P (X.env.qual ++ "<lambda>") (cloFrom X.env.cells b.scope.names []) b) := by
  constructor
  intro pins s σ H Q I h
  exact lam_new I TB.tb TB.code TB.mem TB.uni h.1 hdef (L.has I.ok) fun f c' H1 s' J n e ep t k => ⟨.ref f, _, J, rfl, h.2 f c' H1 n e ep t k⟩
theorem tab_new {T : List (Addr × Str)} {H : Hp} {f : Addr} {o : HO} (n : H f = none) (t : Tabs T H) : Tabs T (upd H f o) :=
  t.ext fun d u e => by rw [upd_ne (ne_of_none e n), e]
theorem extN_new {H : Hp} {f : Addr} {o : HO} (n : H f = none) : ExtN H (upd H f o) := fun d u e _ => by rw [upd_ne (ne_of_none e n), e]
theorem LamsAt.ext {q : Str} {cells : List (Str × Addr)} {H H1 : Hp} {fs : List Addr} {bs : List LamB} (l : LamsAt q cells H fs bs) (e : ExtN H H1) : LamsAt q cells H1 fs bs := by
  induction l with
  | nil => exact .nil
  | cons a _ ih =>
    obtain ⟨c', a1, a2⟩ := a
    exact .cons ⟨c', e _ _ a1 lamO_ne, e _ _ a2 codeO_ne⟩ ih
theorem pa_lams {T : List (Addr × Str)} {c P : Addr} (TB : LamTab X T c P) : ∀ {bs : List (LamB × Pos)}, (∀ b ∈ bs, LamS X.env.scope b.1.scope ∧ defaultsOf b.1.params X.env = ([], [])) →
    PA X (bs.map fun b => .Lambda b.1.params b.1.body b.1.scope b.2) (tLams T P (X.env.qual ++ "<lambda>") X.env.cells (bs.map (·.1)))
  | [], _ => ⟨fun pos pins s σ H Q I h => pa_nil.run pos pins s σ H Q I (h.2 [] H (ExtN.refl H) ExtP.refl h.1 .nil)⟩
  | b :: bs, h => by
    have hb := h b List.mem_cons_self
    have hr := pa_lams TB (bs := bs) fun d hd => h d (List.mem_cons_of_mem _ hd)
    constructor
    intro pos pins s σ H Q I k
    refine (pa_cons (pe_lam1 (b := b.1) (pos := b.2) TB hb.1 hb.2) hr).run pos pins s σ H Q I ⟨k.1, fun f c' H1 n e ep t kc => ⟨tab_new n t, fun fs H2 e2 ep2 t2 l2 => ?_⟩⟩
    refine k.2 (f :: fs) H2 (e.trans ((extN_new n).trans e2)) (ep.trans ((extP_new n).trans ep2)) t2 (.cons ⟨c', e2 _ _ upd_same lamO_ne, e2 _ _ ?_ codeO_ne⟩ l2)
    rw [upd_ne (ne_of_none kc n), kc]
end
end Own
namespace Own
open PySem L2 LamX PySem.Spec PyProof.Rows
section
variable {X : Cx} {pins : List (Addr × Obj)} {σ : L2.St} {H : Hp} {s : Shared}
/-- the frame of a def, entered from X at s -/
abbrev inDef (X : Cx) (Ng : List Str) (qg : Str) (sg : Scope) (g : Addr) (cdg : Value) (s : Shared) (H : Hp) : Cx := cxOf C8.CX0 X.prog X.w X.K X.mg X.base Ng qg sg g cdg X.A X.stack s H C8.E0
theorem pe_actT {Ng : List Str} {qg : Str} {sg : Scope} {g f c' : Addr} {cdg : Value} {b : LamB} {k i : Nat} {a : Str} {pn : List (Addr × Obj)} {xe : Value → Shared → Prop} {W : WX} {E : XK} {tb : TE} {p1 p2 : Pos}
    (I : Inv X pins σ H s) (L : LamS X.env.scope b.scope)
    (hbind : ∀ (q : Str) (cl : List (Str × Addr)) (pm cv ctv : Value), bindArgs (PySem.W.kla_fn "<lambda>" q b.params b.body b.scope cl pm cv ctv) ⟨[], []⟩ = pure [])
    (tk : Takes ((inDef X Ng qg sg g cdg s H).tr pn xe) W) (hW : ∀ cls d σ' H', E cls d H' → W cls d σ' H') (hr : Room (k + 1) (X.A.deeper (envOfC qg sg s.heap.objs.size g cdg)))
    (hbody : ∀ (A : Around) (outer : List Env) (s : Shared) (H : Hp), Room k (A.deeper (lamEnv X b.scope s.heap.objs.size f c')) → PE (lamCx X A outer s H E b.scope f c') b.body tb)
    (hN : Ng[i]? = some a) (hv : Vis sg a) (hd : (a == ("__debug__" : Str)) = false) (hcd : (a == ("__classdict__" : Str)) = false) :
    PE ((inDef X Ng qg sg g cdg s H).tr pn xe) (.Call (.Name a p1) [] [] p2) fun σZ HZ Q =>
      σZ[i]? = some (some (.ref f)) ∧ (HZ c' = some (CodeO c' (X.env.qual ++ "<lambda>")) ∧ HZ f = some (LamO f (X.env.qual ++ "<lambda>") b (cloFrom X.env.cells b.scope.names []) c') ∧ tb σ HZ Q) := by
  constructor
  rintro pz sz σz HZ Q IZ ⟨hs, hc, hl, ht⟩
  have name := (pe_var (pos := p1) (i := i) hN hv hd hcd).run pz sz σz HZ (fun v H1 => v = .ref f ∧ H1 = HZ) IZ ⟨.ref f, hs, rfl, rfl⟩
  refine wpAny_Call_Name_kw (thn name ?_)
  rintro u s1 ⟨v, H1, I1, ru, rfl, rfl⟩
  cases ru
  obtain ⟨⟨pm, ctv, here⟩, -, -⟩ := I1.hok f _ hl
  obtain ⟨⟨oc, vs, t, coc, cd, cv⟩, -, -⟩ := I1.hok c' _ hc
  refine PySem.W.callWith_F0 ⟨_, _, _, _, here⟩ ?_
  have leaves : Passes (L2.CX X.prog X.w) ((inDef X Ng qg sg g cdg s H).tr pn xe) E := passes_call tk hW
  let inner := envOfC qg sg s.heap.objs.size g cdg
  have runs : codeAny (model X.prog X.w) (X.A.deeper inner) (.call (.ref f) ⟨[], []⟩) (CR (L2.CX X.prog X.w) (inner :: X.stack) X.prog X.w H1 s1 Q E) s1 := by
    refine PySem.W.kla_callFunE hr.depth here rfl L.co L.gen rfl ⟨c', oc, vs, t, rfl, coc, cd, cv⟩ ?_
    rw [hbind]
    refine wpAny_pure (wpAny_newFunctionEnv (fun y hy => (L.own y hy).2) (fun y hy => nomatch hy) (fun hn names fresh => ?_) L.kind)
    refine ⟨I1.nolimit.fresh _ fresh, ?_⟩
    have grown : ∀ d o, s1.heap.get? d = some o → hn.get? d = some o := fun d o e => fresh.extBut d o (Nat.ne_of_lt (Heap.lt_size e)) (Heap.get?_push_of_some _ e)
    have J := lam_start2 (E := E) (scope := b.scope) (f := f) (c' := c') (tk := s1.toks + 0) I L I1.env0 hr.hd I1.base names grown
    refine PySem.W.kla_codeExpr (wpAny_mono ((hbody _ _ s1 H1 (hr.deeper _)).run [] _ _ H1 Q J ht) ?_ fun e s' hq => hq)
    rintro v s' ⟨w', H', J', rv, q⟩
    exact ⟨w', H', J'.os, J'.bare, J'.base, J'.hok, rv, q⟩
  refine wpAny_call (codeAny_mono runs fun r s' hq => ?_)
  match r, hq with
  | .error e, hq => exact leaves pz σz H1 s1 e s' I1 hq
  | .ok (.ret u), hq => exact I1.after hq
end
end Own
namespace Own
open PySem L2 LamX PySem.Spec PyProof.Rows
/-- what the second clause, then nobody, makes of an exception -/
def XLast (K : PySem.W.Frag) (C : Addr) (r : Str) (Q : VK) : XK := fun cls _ H' => ∃ b, PySem.W.exmOne K cls (.ref C) = some b ∧ (b = true → Q (.str r) H') ∧ (b = false → False)
def XTwo (K : PySem.W.Frag) (C1 : Addr) (r1 : Str) (C2 : Addr) (r2 : Str) (Q : VK) : XK := fun cls d H' => ∃ b, PySem.W.exmOne K cls (.ref C1) = some b ∧ (b = true → Q (.str r1) H') ∧ (b = false → XLast K C2 r2 Q cls d H')
def TTold2 (K : PySem.W.Frag) (C1 : Addr) (r1 : Str) (C2 : Addr) (r2 : Str) : (XK → Hp → VK → Prop) → Hp → VK → Prop := fun tl H Q => tl (XTwo K C1 r1 C2 r2 Q) H Q
section
variable {X : Cx}
theorem told2_gives {Ng : List Str} {x a e1 e2 q r1 r2 : Str} {sg : Scope} {g C1 C2 : Addr} {cdg : Value} {j1 j2 : Nat} {p1 p2 p3 p4 p5 p6 p7 p8 p9 p10 p11 p12 : Pos}
    (g1 : sg.names.lookup e1 = some .globalImplicit) (m1 : X.mg e1 = some (.ref C1)) (d1 : (e1 == ("__debug__" : Str)) = false)
    (g2 : sg.names.lookup e2 = some .globalImplicit) (m2 : X.mg e2 = some (.ref C2)) (d2 : (e2 == ("__debug__" : Str)) = false) (h0 : ∀ f : Addr, (L2.start Ng [V.ref f])[0]? = some (some (V.ref f))) :
    GivesTo X Ng x sg g cdg [.Try [.Return (some (.Call (.Name a p1) [] [] p2)) p3] [.ExceptHandler (some (.Name e1 p4)) none [.Return (some (.Constant (.str r1) j1 p5)) p6] p7, .ExceptHandler (some (.Name e2 p9)) none [.Return (some (.Constant (.str r2) j2 p10)) p11] p12] [] [] p8] a q (TTold2 X.K C1 r1 C2 r2) := by
  intro f c' s H Q tl act hc h
  have l1 : Gl (inDef X Ng x sg g cdg s H).nox e1 := g1
  have l2 : Gl (inDef X Ng x sg g cdg s H).nox e2 := g2
  have clauses := HdsOk.cons (X := (inDef X Ng x sg g cdg s H).nox) (x := e1) (np := p4) (pos' := p7) (c := .ref C1) ⟨l1, d1, .inl m1⟩ (fun a oe cls d pn _ _ => pss_one (ps_ret (pos := p6) (@pe_str _ r1 j1 p5)))
    (.cons (x := e2) (np := p9) (pos' := p12) (c := .ref C2) ⟨l2, d2, .inl m2⟩ (fun a oe cls d pn _ _ => pss_one (ps_ret (pos := p11) (@pe_str _ r2 j2 p10))) .nil)
  have whole := ps_try_many (X := (inDef X Ng x sg g cdg s H).nox) (pos := p8) (tb := fun W D σ H => ∃ Ech : XK, (∀ cls d σ' H', Ech cls d H' → W cls d σ' H') ∧ σ[0]? = some (some (.ref f)) ∧ H c' = some (CodeO c' q) ∧ tl Ech H D.rt)
    rfl rfl LamX.takes0 (fun W pn xe tk _ => (⟨fun pins s' σ H' D I ⟨Ech, hW, h1, h2, h3⟩ =>
      (pss_one (ps_ret (pos := p3) (act W pn xe Ech p1 p2 tk hW))).run pins s' σ H' D I ⟨h1, h2, h3⟩⟩ : PSs _ _ _)) clauses
  refine ⟨_, pss_one whole, XTwo X.K C1 r1 C2 r2 Q, ?_, h0 f, hc, h⟩
  rintro cls d σ' H' ⟨b, e, yes, no⟩
  refine ⟨b, e, fun hb a _ => yes hb, fun hb => ?_⟩
  obtain ⟨b2, e', yes', no'⟩ := no hb
  exact ⟨b2, e', fun hb a _ => yes' hb, fun hb => no' hb⟩
end
end Own
namespace Own
open PySem L2 LamX PySem.Spec PyProof.Rows
section
variable {X : Cx}
/-- the def that tells, as the top has written it -/
structure ToldAt (X : Cx) (x : Str) (g C1 C2 : Addr) (r1 r2 : Str) (q : Str) : Prop where
  mg : X.mg x = some (.ref g)
  keep : PySem.W.keepIn X.K (.ref g) = true
  run : ∃ (oc : Value) (od : Option Addr) (pg : Arguments) (bg : List Stmt) (sg : Scope) (dV kV doc pm : Value) (an : Option Addr) (cdv ct : Value) (osl : Array (Option Value)) (Ng : List Str) (a : Str),
    X.K.lookup g = some ⟨oc, od, .func (PySem.W.fnOf x x pg bg sg dV kV doc pm an cdv ct), osl⟩ ∧ PySem.W.codeIn X.K cdv x = true ∧ L2.Binds X.K (PySem.W.fnOf x x pg bg sg dV kV doc pm an cdv ct) [a] [] ∧ FnScope Ng [a] sg ∧ Ng[0]? = some a ∧ Vis sg a ∧
    (a == ("__debug__" : Str)) = false ∧ (a == ("__classdict__" : Str)) = false ∧ GivesTo X Ng x sg g cdv bg a q (TTold2 X.K C1 r1 C2 r2)
/-- the lambdas of a def, each with what its body is read as -/
structure LamsOk (X : Cx) (k : Nat) (bs : List (LamB × (XK → TE))) : Prop where
  sc : ∀ b ∈ bs, LamS X.env.scope b.1.scope
  bind : ∀ b ∈ bs, ∀ (q : Str) (cl : List (Str × Addr)) (pm cv ctv : Value), bindArgs (PySem.W.kla_fn "<lambda>" q b.1.params b.1.body b.1.scope cl pm cv ctv) ⟨[], []⟩ = pure []
  body : ∀ b ∈ bs, ∀ (A : Around) (outer : List Env) (s : Shared) (H : Hp) (E : XK) (f c' : Addr), Room k (A.deeper (lamEnv X b.1.scope s.heap.objs.size f c')) → PE (lamCx X A outer s H E b.1.scope f c') b.1.body (b.2 E)
/-- from the block back to the def around it -/
abbrev Back (X B : Cx) (σ : L2.St) : Prop := ∀ pins' σ' H' s', Inv B pins' σ' H' s' → ∃ pins, Inv X pins σ H' s'
def tTold (K : PySem.W.Frag) (C1 C2 : Addr) (r1 r2 q : Str) (cells : List (Str × Addr)) (bs : List (LamB × (XK → TE))) (σ : L2.St) (te : TE) : TE := fun σ2 H2 Q => te σ2 H2 fun v H3 =>
  ∃ f c' b, b ∈ bs ∧ v = .ref f ∧ H3 c' = some (CodeO c' q) ∧ H3 f = some (LamO f q b.1 (cloFrom cells b.1.scope.names []) c') ∧ b.2 (XTwo K C1 r1 C2 r2 Q) σ H3 Q
theorem pe_toldAt {s0 : Shared} {H0 : Hp} {scope : Scope} {cenv : Env} {fp : List Addr} {x r1 r2 : Str} {g C1 C2 : Addr} {k : Nat} {bs : List (LamB × (XK → TE))} {e : Expr} {te : TE} {p pos : Pos} {σ : L2.St}
    (hg : Gl (X.blk s0 H0 scope cenv fp) x) (hdb : (x == ("__debug__" : Str)) = false) (D : ToldAt X x g C1 C2 r1 r2 (X.env.qual ++ "<lambda>")) (L : LamsOk X k bs) (hr : Room (k + 2) X.A) (back : Back X (X.blk s0 H0 scope cenv fp) σ)
    (he : PE (X.blk s0 H0 scope cenv fp) e te) (hs : starEach [e] cenv = (false, eval e cenv) :: starEach [] cenv := by rfl) :
    PE (X.blk s0 H0 scope cenv fp) (.Call (.Name x p) [e] [] pos) (tTold X.K C1 C2 r1 r2 (X.env.qual ++ "<lambda>") X.env.cells bs σ te) := by
  obtain ⟨mg, keep, oc, od, pg, bg, sg, dV, kV, doc, pm, an, cdv, ct, osl, Ng, a, lk, hcg, hb, Sg, hNg, hva, hd, hcd, gives⟩ := D
  constructor
  intro pins s σ2 H Q I h
  refine wpAny_Call_Name_kw (ld_glob I hg mg ?_ hdb)
  refine PySem.W.callWith_K (h₀ := X.base) I.ok.mod.kin keep ?_ hs (by rfl)
  have args := (pa_cons he pa_nil hs).run pos pins s σ2 H (fun vs H3 => ∃ v, vs = [v] ∧ ∃ f c' b, b ∈ bs ∧ v = .ref f ∧ H3 c' = some (CodeO c' (X.env.qual ++ "<lambda>")) ∧ H3 f = some (LamO f (X.env.qual ++ "<lambda>") b.1 (cloFrom X.env.cells b.1.scope.names []) c') ∧ b.2 (XTwo X.K C1 r1 C2 r2 Q) σ H3 Q)
    I (by
      unfold tTold at h
      have e : tCons te tNil σ2 H = fun (QL : List V → Hp → Prop) => te σ2 H fun v H3 => QL [v] H3 := rfl
      rw [e]
      simpa using h)
  refine thn args ?_
  rintro us s1 ⟨vs, H1, I1, rv, v, rfl, f, c', b, hmem, rfl, hc, hf, hq⟩
  refine ⟨I1.kIn, ?_⟩
  obtain ⟨u, rfl⟩ : ∃ u, us = [u] := by
    cases rv with
    | cons _ t =>
      cases t
      exact ⟨_, rfl⟩
  have ru : u = .ref f := by
    cases rv with
    | cons r _ => exact r
  subst ru
  obtain ⟨pins', J⟩ := back _ _ _ _ I1
  have runs : codeAny (model X.prog X.w) X.A (.call (.ref g) ⟨[.ref f], []⟩) (CR C8.CX0 X.stack X.prog X.w H1 s1 Q C8.E0) s1 := by
    refine run_ofS (N := Ng) (ps := [a]) (us := [.ref f]) (vs := [.ref f]) lk hcg Sg hr I1.env0 (hb s1 [.ref f] I1.kIn rfl) (.cons rfl .nil) rfl fun hr' => ?_
    obtain ⟨t', ht', hq'⟩ := gives f c' s1 H1 Q (fun E HZ Q' => HZ f = some (LamO f (X.env.qual ++ "<lambda>") b.1 (cloFrom X.env.cells b.1.scope.names []) c') ∧ b.2 E σ HZ Q')
      (fun W pn xe E p1 p2 tk hW => pe_actT (i := 0) J (L.sc b hmem) (L.bind b hmem) tk hW hr' (fun A outer s H hr2 => L.body b hmem A outer s H E f c' hr2) hNg hva hd hcd) hc ⟨hf, hq⟩
    exact ⟨t', ht'.nox, hq'⟩
  refine wpAny_call (codeAny_mono runs fun r s2 hq => ?_)
  match r, hq with
  | .ok (.ret u), hq => exact I1.after hq
end
end Own
namespace Own
open PySem L2 LamX PySem.Spec PyProof.Rows
section
variable {X : Cx}
theorem pe_lcI {elt tg iter : Expr} {ifs : List Expr} {scope : Scope} {own : List (Str × Nat)} {pos : Pos} {wi : TI} {g : TG} {tt : L2.St → TT} {te : TE}
    (calm : X.calm = true) (hN : X.N.Nodup) (hi : PI X tg iter wi) (ok : BlkOk X.N X.env.scope scope own)
    (hg : ∀ s H C cl fp, PG (X.blk s H scope (compEnvC scope cl C X.env) fp) tg g)
    (ht : ∀ σ s H C cl fp, Back X (X.blk s H scope (compEnvC scope cl C X.env) fp) σ → PTs (X.blk s H scope (compEnvC scope cl C X.env) fp) ifs (tt σ))
    (he : ∀ s H C cl fp, PE (X.blk s H scope (compEnvC scope cl C X.env) fp) elt te) (hs : ∀ x, foldedSetIterable iter X.env x = pure x := by intro _; rfl) :
    PE X (.ListComp elt [⟨tg, iter, ifs, 0⟩] scope pos) fun σ H Q => tLc wi g (tt σ) te (own.map (·.2)) σ H Q := by
  constructor
  intro pins s σ H Q I h
  rw [eval_ListComp]
  have free : ∀ y ∈ scope.names, y.2 = .free → ∃ c, X.env.cells.lookup y.1 = some c := fun y hy e => I.ok.has _ (ok.free y hy e)
  refine wpAny_comprehension_free (use := none) rfl hs (closure_ok free) ok.kind (fun y hy e => e ▸ ok.uniq y hy) (thn (hi.run pins s σ H _ I h) fun xv s1 hx => thn hx ?_)
  rintro itv s2 ⟨it, fp, tn, J, H2, rfl, I2, T, here, apart, next⟩
  refine wpAny_newObj_type (newEnv_comp ?_) (Nat.zero_le _)
  -- the list that grows
  let D := s2.heap.objs.size
  let s3 : Shared := { s2 with heap := s2.heap.push { cls := .type "list", data := .seq ([] : List Value).toArray } }
  have kept3 : ∀ b o, s2.heap.get? b = some o → s3.heap.get? b = some o := fun b o e => Heap.get?_push_of_some _ e
  have I3 : Inv X pins σ (upd H2 D (.lst [])) s3 := I2.laid (t' := s2.toks) kept3 (Nat.le_refl _) ⟨Nat.zero_le _, [], 0, .nil, Heap.get?_push_size _ rfl⟩
  obtain ⟨W, ⟨m0, start⟩, turn⟩ := next D (I2.hok.fresh (Nat.le_refl _))
  have below : ∀ b ∈ fp, b < D := fun b hb => let ⟨_, e, _⟩ := T.obj _ _ here b hb; Heap.lt_size e
  have apart3 : ∀ b ∈ fp, FpOk X pins (upd H2 D (.lst [])) b ∧ b < s3.heap.objs.size := fun b hb => by
    have lt := below b hb
    have more : s3.heap.objs.size = D + 1 := Heap.size_push _ _
    exact ⟨⟨(upd_ne (Nat.ne_of_lt lt)).trans (apart b hb).1, (apart b hb).2⟩, more ▸ Nat.lt_succ_of_lt lt⟩
  have here3 : tn 0 s3.heap := T.keep _ _ _ here fun b _ o e => kept3 b o e
  have I4 := block_start I3 ok hN apart3
  let cl := cellsFrom (s3.heap.objs.size + 1) scope.names (cloFrom X.env.cells scope.names [])
  let cenv := compEnvC scope cl s3.heap.objs.size X.env
  let H3 := upd H2 D (.lst [])
  let B := X.blk s3 H3 scope cenv fp
  have back : Back X B σ := fun pins' σ' H' s' J' => ⟨pins, I3.call' (ch := fp) J'.os J'.base J'.hok J'.bare fun b hb => ⟨(apart3 b hb).1.2.2.2.1, (apart3 b hb).1.2.1, (apart3 b hb).1.2.2.2.2.1, (apart3 b hb).1.2.2.2.2.2⟩⟩
  have pg : PG B tg g := hg s3 H3 s3.heap.objs.size cl fp
  have pt : PTs B ifs (tt σ) := ht σ s3 H3 s3.heap.objs.size cl fp back
  have pe : PE B elt te := he s3 H3 s3.heap.objs.size cl fp
  let s4 : Shared := { s3 with heap := pushCells (s3.heap.push { cls := .type "dict", data := .dict #[] }) scope.names }
  have here4 : tn 0 s4.heap := T.keep _ _ _ here3 fun b _ o e => pushCells_keeps _ _ _ _ (Heap.get?_push_of_some _ e)
  have away : ∀ {σ' : L2.St} {H' : Hp} {s' : Shared}, Inv B [] σ' H' s' → (∀ b ∈ fp, H' b = none) → ∀ b ∈ fp, FpOk B [] H' b := fun J' none b hb =>
    ⟨none b hb, (J'.ok.exf b hb).1, J'.ok.exfs b hb, .inl hb, (J'.ok.exf b hb).2, fun p hp => nomatch (show p ∈ ([] : List (Addr × Obj)) ++ [] from hp)⟩
  let V := own.map (·.2)
  let At : Nat → Shared → Prop := fun n s' => ∃ i H', Inv B [] (wipe σ V) H' s' ∧ tn i s'.heap ∧ (∀ b ∈ fp, H' b = none) ∧ W i n H'
  have goes : codeAny (model X.prog X.w) X.A (.compLoop (.ListComp elt [⟨tg, iter, ifs, 0⟩] scope pos) 0 (.ref it) (.ref D) cenv) (compPost (model X.prog X.w) X.A X.xe none (EP X pins σ Q) (.ref D) s3.heap.objs.size) s4 := by
    refine compLoop_any At ?_ m0 ⟨0, H3, I4, here4, fun b hb => (apart3 b hb).1.1, start⟩
    rintro n s5 ⟨i, H5, I5, here5, none5, w5⟩
    cases turn i n H5 w5 with
    | inl fin =>
      refine thnF (T.done B rfl rfl rfl calm i [] s5 _ H5 (fun _ _ => False) I5 (away I5 none5) here5 fin.1) ?_
      rintro r s6 ⟨rfl, I6⟩
      obtain ⟨_, names, _⟩ := I6.loc
      have freeC : H5 s3.heap.objs.size = none := I6.free
      obtain ⟨_, f1, f2, f3, f4, f5⟩ := I3.fpOk (Nat.le_refl _) freeC
      have I7 : Inv X pins σ H5 s6 := I3.call' (ch := fp) I6.os I6.base I6.hok I6.bare fun b hb => ⟨(apart3 b hb).1.2.2.2.1, (apart3 b hb).1.2.1, (apart3 b hb).1.2.2.2.2.1, (apart3 b hb).1.2.2.2.2.2⟩
      exact ⟨_, names, fun h'' sb => ⟨.ref D, H5, I7.turned (t' := s6.toks) (fun b o hb e => (sb.2 b hb).trans e) freeC f1 f3 f4 f5, rfl, fin.2⟩⟩
    | inr more =>
      obtain ⟨go, Nx, again, body⟩ := more
      refine thnF (T.item B rfl rfl rfl calm i [] s5 _ H5 (fun _ _ => False) I5 (away I5 none5) here5 go) ?_
      rintro r s6 ⟨u, rfl, got⟩
      refine thnF got ?_
      rintro _ s7 ⟨x, H7, I7, rx, y7, here7, none7⟩
      refine thnF (pg.run _ s7 _ H7 x u _ (I7.pinned (away I7 none7) (T.obj _ _ here7)) rx (body x H7 y7)) ?_
      rintro _ s8 ⟨σ8, H8, I8, same, q8⟩
      -- the end of a turn
      have ends : ∀ {s' : Shared} {H' : Hp}, Inv B ([] ++ pinsAt fp s7.heap) σ8 H' s' → Nx H' → ∃ m, m < n ∧ At m s' := by
        intro s' H' J' nx
        obtain ⟨m', less, w'⟩ := again H' nx
        have stays : ∀ b ∈ fp, ∀ o, s7.heap.get? b = some o → s'.heap.get? b = some o ∧ H' b = none := fun b hb o e => by
          have z := J'.pin (b, o) (List.mem_append_right _ (List.mem_append_right _ (mem_pinsAt hb e)))
          exact ⟨z.1, z.2.1⟩
        refine ⟨m', less, i + 1, H', (J'.unpinned (pins := [])).weak ?_ fun j v e => (wipe_some (same ▸ e : (wipe σ8 V)[j]? = some (some v))).1, T.keep _ _ _ here7 fun b hb o e => (stays b hb o e).1, fun b hb => ?_, w'⟩
        · rw [← same]
          exact wipe_length ..
        · obtain ⟨o, e, _⟩ := T.obj _ _ here7 b hb
          exact (stays b hb o e).2
      refine thnF (pt.run _ s8 σ8 H8 _ I8 q8) ?_
      rintro yes s9 ⟨H9, I9, q9⟩
      cases yes with
      | false => exact ends I9 q9
      | true =>
        refine thnF (pe.run _ s9 σ8 H9 _ I9 q9) ?_
        rintro z s10 ⟨yv, H10, I10, r10, acc, hD, room, nx⟩
        exact app_ok (X := B) I10 hD room r10 fun s11 I11 => ends I11 nx
  exact codeAny_compStart_list goes (T.self X.A 0 _ _ _ here4 goes)
end
end Own
namespace Own
open PySem L2 PySem.Spec PyProof.Rows
section
variable {X : Cx}
/-! ### dicts with texts as keys, held -/
def tDGH (td ty : TE) : TE := fun σ H Q => td σ H fun x H1 => ty σ H1 fun y H2 => ∃ a kvs k v, x = .ref a ∧ y = .str k ∧ H2 a = some (.dK kvs) ∧ valV kvs (.inr k) = some v ∧ Q v H2
theorem PE.weaken {e : Expr} {t u : TE} (h : PE X e t) (w : ∀ σ H Q, u σ H Q → t σ H Q) : PE X e u := ⟨fun pins s σ H Q I k => h.run pins s σ H Q I (w _ _ _ k)⟩
theorem PS.weaken {e : Stmt} {t u : TS} (h : PS X e t) (w : ∀ D σ H, u D σ H → t D σ H) : PS X e u := ⟨fun pins s σ H Q I k => h.run pins s σ H Q I (w _ _ _ k)⟩
theorem OpR.weaken {f : Value → Value → Sem Value} {r q : R2} (h : OpR X f r) (w : ∀ x y H Q, q x y H Q → r x y H Q) : OpR X f q := fun pins s σ H x y v u Q I rx ry k => h pins s σ H x y v u Q I rx ry (w _ _ _ _ k)
end
/-- a reading, closed under going on -/
def Clo (t : TE) : TE := fun σ H Q => ∃ Q0 : VK, t σ H Q0 ∧ ∀ v H', Q0 v H' → Q v H'
theorem PE.clo {X : Cx} {e : Expr} {t : TE} (h : PE X e t) : PE X e (Clo t) := ⟨fun pins s σ H Q I ⟨Q0, k, w⟩ =>
  wpAny_mono (h.run pins s σ H Q0 I k) (fun u s' ⟨v, H', I', r, q⟩ => ⟨v, H', I', r, w _ _ q⟩) fun _ _ x => x⟩
section
variable {X : Cx}
theorem pe_dgH {o i : Expr} {td ty : TE} {pos : Pos} (hu : X.A.units + 1 < cLine) (ho : PE X o td) (hi : PE X i ty) (hs : NoSl i) : PE X (.Subscript o i pos) (tDGH td ty) :=
  PE.weaken (pe_dget hu (PE.clo ho) (PE.clo hi) hs) fun σ H Q h => ⟨_, h, fun x H1 h1 => ⟨_, h1, fun y H2 h2 => by
    obtain ⟨a, kvs, k, v, rfl, rfl, h3, h4, q⟩ := h2
    exact ⟨a, v, rfl, by rw [← h4]; exact DGet.k (k := Sum.inr k) h3, q⟩⟩⟩
def sDPH (td ty tv : TE) : TS := fun D σ H => tv σ H fun v H1 => td σ H1 fun x H2 => ty σ H2 fun y H3 => ∃ a kvs k, x = .ref a ∧ y = .str k ∧ H3 a = some (.dK kvs) ∧ kvs.length < sizeLine ∧ D.nx σ (upd H3 a (.dK (putK kvs (.inr k) v)))
theorem ps_dpH {o i value : Expr} {td ty tv : TE} {pos pos' : Pos} (hu : X.A.units + 1 < cLine) (ho : PE X o td) (hi : PE X i ty) (hv : PE X value tv) (hs : swapsWith value (some (.Subscript o i pos')) pos.line X.env = pure false) :
    PS X (.Assign [.Subscript o i pos'] value pos) (sDPH td ty tv) :=
  PS.weaken (ps_dput hu (PE.clo ho) (PE.clo hi) (PE.clo hv) hs) fun D σ H h => ⟨_, h, fun v H1 h1 => ⟨_, h1, fun x H2 h2 => ⟨_, h2, fun y H3 h3 => by
    obtain ⟨a, kvs, k, rfl, rfl, h4, hl, q⟩ := h3
    exact ⟨a, _, rfl, DPut.k (k := Sum.inr k) h4 hl, q⟩⟩⟩⟩
def rSetDH : V → V → V → Hp → (Hp → Prop) → Prop := fun o i v H Q => ∃ a kvs k, o = .ref a ∧ i = .str k ∧ H a = some (.dK kvs) ∧ kvs.length < sizeLine ∧ Q (upd H a (.dK (putK kvs (.inr k) v)))
theorem set_dictH (hu : X.A.units + 1 < cLine) : PSet X rSetDH := by
  have z := set_dict hu
  intro pins s σ H o i v uo ui uv Q I r1 r2 r3 h
  obtain ⟨a, kvs, k, rfl, rfl, h4, hl, q⟩ := h
  exact z pins s σ H _ _ v uo ui uv Q I r1 r2 r3 ⟨a, _, rfl, DPut.k (k := Sum.inr k) h4 hl, q⟩
/-! ### x in a held list, x in a written tuple -/
def rInH (neg : Bool) : R2 := fun x y H Q => ∃ p xs, y = .ref p ∧ H p = some (.lst xs) ∧ flatV x = true ∧ xs.all flatV = true ∧ Q (.bl (if neg then !inV x xs else inV x xs)) H
theorem op_inH : OpR X (compareOp .In) (rInH false) := OpR.weaken op_in_seq fun x y H Q ⟨p, xs, e, h, f, g, q⟩ => ⟨p, xs, e, .inl (SqL.of h), f, g, q⟩
theorem op_notInH : OpR X (compareOp .NotIn) (rInH true) := OpR.weaken op_notIn_seq fun x y H Q ⟨p, xs, e, h, f, g, q⟩ => ⟨p, xs, e, .inl (SqL.of h), f, g, q⟩
/-- at a stands the written tuple xs -/
def Wr (K : PySem.W.Frag) (a : Addr) (xs : List V) : Prop := ∀ H, SqT K H a xs
def rInC (a : Addr) (xs : List V) (neg : Bool) : R2 := fun x y H Q => y = .ref a ∧ flatV x = true ∧ xs.all flatV = true ∧ Q (.bl (if neg then !inV x xs else inV x xs)) H
theorem op_inC {a : Addr} {xs : List V} (w : Wr X.K a xs) : OpR X (compareOp .In) (rInC a xs false) := OpR.weaken op_in_seq fun x y H Q ⟨e, f, g, q⟩ => ⟨a, xs, e, .inr (w H), f, g, q⟩
theorem op_notInC {a : Addr} {xs : List V} (w : Wr X.K a xs) : OpR X (compareOp .NotIn) (rInC a xs true) := OpR.weaken op_notIn_seq fun x y H Q ⟨e, f, g, q⟩ => ⟨a, xs, e, .inr (w H), f, g, q⟩
def rIC (a : Addr) (xs : List V) : R2 := fun x y H Q => ∃ i v, x = .ref a ∧ y = .int i ∧ atI xs i = some v ∧ Q v H
theorem ix_c {a : Addr} {xs : List V} (w : Wr X.K a xs) : IxR X (rIC a xs) := fun value slice pins s σ H x y v u Q I rx ry h hs => by
  obtain ⟨i, z, e1, e2, ha, q⟩ := h
  exact ix_tup value slice pins s σ H x y v u Q I rx ry ⟨a, xs, i, z, e1, e2, w H, ha, q⟩ hs
variable {σ : L2.St} {H : Hp} {D : Ends} {Q : VK} {v x y : V} {xs : List V} {td ty tv : TE} {a : Addr} {neg : Bool}
@[simp] theorem o_tDGH : tDGH td ty σ H Q = td σ H fun x H1 => ty σ H1 fun y H2 => ∃ a kvs k v, x = .ref a ∧ y = .str k ∧ H2 a = some (.dK kvs) ∧ valV kvs (.inr k) = some v ∧ Q v H2 := rfl
@[simp] theorem o_sDPH : sDPH td ty tv D σ H = tv σ H fun v H1 => td σ H1 fun x H2 => ty σ H2 fun y H3 => ∃ a kvs k, x = .ref a ∧ y = .str k ∧ H3 a = some (.dK kvs) ∧ kvs.length < sizeLine ∧ D.nx σ (upd H3 a (.dK (putK kvs (.inr k) v))) := rfl
@[simp] theorem o_rSetDH {QH : Hp → Prop} : rSetDH x y v H QH = ∃ a kvs k, x = .ref a ∧ y = .str k ∧ H a = some (.dK kvs) ∧ kvs.length < sizeLine ∧ QH (upd H a (.dK (putK kvs (.inr k) v))) := rfl
@[simp] theorem o_rInH : rInH neg x y H Q = ∃ p xs, y = .ref p ∧ H p = some (.lst xs) ∧ flatV x = true ∧ xs.all flatV = true ∧ Q (.bl (if neg then !inV x xs else inV x xs)) H := rfl
@[simp] theorem o_rInC : rInC a xs neg x y H Q = (y = .ref a ∧ flatV x = true ∧ xs.all flatV = true ∧ Q (.bl (if neg then !inV x xs else inV x xs)) H) := rfl
@[simp] theorem o_rIC : rIC a xs x y H Q = ∃ i v, x = .ref a ∧ y = .int i ∧ atI xs i = some v ∧ Q v H := rfl
@[simp] theorem o_rRep : rRep x y H Q = ∃ l k xs, x = .ref l ∧ y = .int k ∧ H l = some (.lst xs) ∧ -(2 ^ 63) ≤ k ∧ k < 2 ^ 63 ∧ xs.length * k.toNat ≤ sizeLine ∧ ∀ p, H p = none → Q (.ref p) (upd H p (.lst (List.replicate k.toNat xs).flatten)) := rfl
@[simp] theorem o_tDisp (trs : List (TE × TE)) : tDisp trs σ H Q = ∀ p, H p = none → tPairs trs σ (upd H p (.dK [])) fun ps H2 => H2 p = some (.dK []) ∧ ∃ kvs : List (Key × V), ps = kvs.map (fun kv => (kV kv.1, kv.2)) ∧ kvs.length ≤ 15 ∧ Q (.ref p) (upd H2 p (.dK (mergeK [] kvs))) := rfl
@[simp] theorem o_tPairs0 {QP : List (V × V) → Hp → Prop} : tPairs [] σ H QP = QP [] H := rfl
@[simp] theorem o_tPairs1 {QP : List (V × V) → Hp → Prop} {tk : TE} {r : List (TE × TE)} : tPairs ((tk, tv) :: r) σ H QP = tk σ H fun x H1 => tv σ H1 fun y H2 => tPairs r σ H2 fun ps H3 => QP ((x, y) :: ps) H3 := rfl
@[simp] theorem flat_i {i : Int} : flatV (.int i) = true := rfl
@[simp] theorem flat_s {i : Str} : flatV (.str i) = true := rfl
@[simp] theorem flat_b {i : Bool} : flatV (.bl i) = true := rfl
@[simp] theorem flat_n : flatV .non = true := rfl
@[simp] theorem eqV_ss {i j : Str} : eqV (.str i) (.str j) = (i == j) := rfl
@[simp] theorem eqV_ii {i j : Int} : eqV (.int i) (.int j) = (i == j) := rfl
@[simp] theorem inV_nil : inV x [] = false := rfl
@[simp] theorem inV_cons : inV x (y :: xs) = (eqV y x || inV x xs) := rfl
@[simp] theorem o_tAndV {ta tb : TE} : tAndV ta tb σ H Q = ta σ H fun x H1 => ∃ c, x = .bl c ∧ if c = true then tb σ H1 Q else Q (.bl false) H1 := rfl
@[simp] theorem o_tOrV {ta tb : TE} : tOrV ta tb σ H Q = ta σ H fun x H1 => ∃ c, x = .bl c ∧ if c = true then Q (.bl true) H1 else tb σ H1 Q := rfl
end
end Own
namespace Own
open PySem L2 PySem.Spec PyProof.Rows
/-! ### == of lists and tuples of whole numbers and texts -/
def isIS : V → Bool
  | .int _ => true
  | .str x => PyData.strOk x
  | _ => false
def toD : V → PyData
  | .int i => .int i
  | .str x => .str x
  | _ => .none
theorem dpAll_toD {K : PySem.W.Frag} {H : Hp} : ∀ {xs : List V}, xs.all isIS = true → DpAll K H xs (xs.map toD)
  | [], _ => .nil
  | .int i :: xs, h => .cons (.int i) (dpAll_toD (by simpa [isIS] using h))
  | .str x :: xs, h => .cons (.str x) (dpAll_toD (by
      rw [List.all_cons, Bool.and_eq_true] at h
      exact h.2))
  | .non :: xs, h => by simp [isIS] at h
  | .bl _ :: xs, h => by simp [isIS] at h
  | .byt _ :: xs, h => by simp [isIS] at h
  | .flt _ :: xs, h => by simp [isIS] at h
  | .ref _ :: xs, h => by simp [isIS] at h
  | .ty _ :: xs, h => by simp [isIS] at h
theorem eqv_toD {x y : V} (hx : isIS x = true) (hy : isIS y = true) : PyData.eqv (toD x) (toD y) = decide (x = y) := by
  cases x <;> cases y <;> simp_all [isIS, toD, PyData.eqv]
  all_goals rw [Bool.eq_iff_iff]; simp
theorem eqvAll_toD : ∀ {xs ys : List V}, xs.all isIS = true → ys.all isIS = true → PyData.eqvAll (xs.map toD) (ys.map toD) = decide (xs = ys)
  | [], [], _, _ => rfl
  | [], _ :: _, _, _ => rfl
  | _ :: _, [], _, _ => rfl
  | x :: xs, y :: ys, hx, hy => by
    simp only [List.all_cons, Bool.and_eq_true] at hx hy
    simp only [List.map_cons, PyData.eqvAll, eqv_toD hx.1 hy.1, eqvAll_toD hx.2 hy.2]
    simp
theorem canLay_toD : ∀ {xs : List V}, xs.all isIS = true → PyData.canLayAll0 (xs.map toD) = true
  | [], _ => rfl
  | x :: xs, h => by
    simp only [List.all_cons, Bool.and_eq_true] at h
    simp only [List.map_cons, PyData.canLayAll0, canLay_toD h.2, Bool.and_true]
    cases x <;> simp_all [isIS, toD, PyData.canLay0]
theorem depth_toD : ∀ {xs : List V}, PyData.depthAll (xs.map toD) ≤ 1
  | [] => by simp [PyData.depthAll]
  | x :: xs => by
    have := depth_toD (xs := xs)
    cases x <;> simp [toD, PyData.depthAll, PyData.depth] <;> omega
theorem shaped_l {xs : List V} (h : xs.all isIS = true) : SeqAt.shaped (.list (xs.map toD)) = true := by
  have d := depth_toD (xs := xs)
  simp only [SeqAt.shaped, PyData.canLay0, canLay_toD h, PyData.depth, Bool.true_and, decide_eq_true_eq]
  exact decide_eq_true (by omega)
theorem shaped_t {xs : List V} (h : xs.all isIS = true) : SeqAt.shaped (.tuple (xs.map toD)) = true := by
  have d := depth_toD (xs := xs)
  simp only [SeqAt.shaped, PyData.canLay0, canLay_toD h, PyData.depth, Bool.true_and, decide_eq_true_eq]
  exact decide_eq_true (by omega)
section
variable {X : Cx} {x y : V} {H : Hp} {Q : VK}
def rEqFL (neg : Bool) : R2 := fun x y H Q => ∃ p q xs ys, x = .ref p ∧ y = .ref q ∧ H p = some (.lst xs) ∧ H q = some (.lst ys) ∧ xs.all isIS = true ∧ ys.all isIS = true ∧ Q (.bl (if neg then !decide (xs = ys) else decide (xs = ys))) H
def rEqFT (neg : Bool) : R2 := fun x y H Q => ∃ p q xs ys, x = .ref p ∧ y = .ref q ∧ H p = some (.tup xs) ∧ H q = some (.tup ys) ∧ xs.all isIS = true ∧ ys.all isIS = true ∧ Q (.bl (if neg then !decide (xs = ys) else decide (xs = ys))) H
theorem op_eqFL (hu : X.A.units + 64 < cLine) : OpR X (compareOp .Eq) (rEqFL false) := OpR.weaken (op_eqD hu) fun x y H Q ⟨p, q, xs, ys, e1, e2, h1, h2, f1, f2, k⟩ =>
  ⟨.list (xs.map toD), .list (ys.map toD), by rw [e1]; exact .lst (SqL.of h1) (dpAll_toD f1), by rw [e2]; exact .lst (SqL.of h2) (dpAll_toD f2), shaped_l f1, shaped_l f2, by simpa [PyData.eqv, eqvAll_toD f1 f2] using k⟩
theorem op_neFL (hu : X.A.units + 64 < cLine) : OpR X (compareOp .NotEq) (rEqFL true) := OpR.weaken (op_neD hu) fun x y H Q ⟨p, q, xs, ys, e1, e2, h1, h2, f1, f2, k⟩ =>
  ⟨.list (xs.map toD), .list (ys.map toD), by rw [e1]; exact .lst (SqL.of h1) (dpAll_toD f1), by rw [e2]; exact .lst (SqL.of h2) (dpAll_toD f2), shaped_l f1, shaped_l f2, by simpa [PyData.eqv, eqvAll_toD f1 f2] using k⟩
theorem op_eqFT (hu : X.A.units + 64 < cLine) : OpR X (compareOp .Eq) (rEqFT false) := OpR.weaken (op_eqD hu) fun x y H Q ⟨p, q, xs, ys, e1, e2, h1, h2, f1, f2, k⟩ =>
  ⟨.tuple (xs.map toD), .tuple (ys.map toD), by rw [e1]; exact .tup (SqT.of h1) (dpAll_toD f1), by rw [e2]; exact .tup (SqT.of h2) (dpAll_toD f2), shaped_t f1, shaped_t f2, by simpa [PyData.eqv, eqvAll_toD f1 f2] using k⟩
theorem op_neFT (hu : X.A.units + 64 < cLine) : OpR X (compareOp .NotEq) (rEqFT true) := OpR.weaken (op_neD hu) fun x y H Q ⟨p, q, xs, ys, e1, e2, h1, h2, f1, f2, k⟩ =>
  ⟨.tuple (xs.map toD), .tuple (ys.map toD), by rw [e1]; exact .tup (SqT.of h1) (dpAll_toD f1), by rw [e2]; exact .tup (SqT.of h2) (dpAll_toD f2), shaped_t f1, shaped_t f2, by simpa [PyData.eqv, eqvAll_toD f1 f2] using k⟩
variable {neg : Bool}
@[simp] theorem o_rEqFL : rEqFL neg x y H Q = ∃ p q xs ys, x = .ref p ∧ y = .ref q ∧ H p = some (.lst xs) ∧ H q = some (.lst ys) ∧ xs.all isIS = true ∧ ys.all isIS = true ∧ Q (.bl (if neg then !decide (xs = ys) else decide (xs = ys))) H := rfl
@[simp] theorem o_rEqFT : rEqFT neg x y H Q = ∃ p q xs ys, x = .ref p ∧ y = .ref q ∧ H p = some (.tup xs) ∧ H q = some (.tup ys) ∧ xs.all isIS = true ∧ ys.all isIS = true ∧ Q (.bl (if neg then !decide (xs = ys) else decide (xs = ys))) H := rfl
@[simp] theorem isIS_i {i : Int} : isIS (.int i) = true := rfl
@[simp] theorem isIS_s {i : Str} : isIS (.str i) = PyData.strOk i := rfl
@[simp] theorem o_tSl {σ : L2.St} (r : V → Option Int → Option Int → Hp → VK → Prop) (te : TE) (tl th : TO) : tSl r te tl th σ H Q = te σ H fun x H1 => tl σ H1 fun l H2 => th σ H2 fun u H3 => r x l u H3 Q := rfl
@[simp] theorem o_tNoPart {σ : L2.St} {QO : Option Int → Hp → Prop} : tNoPart σ H QO = QO none H := rfl
@[simp] theorem o_tPart {σ : L2.St} {t : TE} {QO : Option Int → Hp → Prop} : tPart t σ H QO = t σ H fun x H1 => ∃ i, x = .int i ∧ QO (some i) H1 := rfl
theorem cut_first {xs : List V} : cutV xs none (some 1) = xs.take 1 := by
  unfold cutV
  have e := HT.sIx_nat xs.length xs.length 1
  rw [HT.sIx_none, show (some (1 : Int)) = some ((1 : Nat) : Int) from rfl, e]
  cases xs with
  | nil => rfl
  | cons x xs => simp
def rSlLH : V → Option Int → Option Int → Hp → VK → Prop := fun x lo hi H Q => ∃ a xs, x = .ref a ∧ H a = some (.lst xs) ∧ ∀ p, H p = none → Q (.ref p) (upd H p (.lst (cutV xs lo hi)))
theorem sl_listH : SlR X rSlLH := by
  intro pins s σ H x v vl vu lo hi sl Q I rx hs pl pu h
  obtain ⟨a, xs, e, hx, q⟩ := h
  exact sl_list pins s σ H x v vl vu lo hi sl Q I rx hs pl pu ⟨a, xs, e, SqL.of hx, q⟩
@[simp] theorem o_rSlLH {lo hi : Option Int} : rSlLH x lo hi H Q = ∃ a xs, x = .ref a ∧ H a = some (.lst xs) ∧ ∀ p, H p = none → Q (.ref p) (upd H p (.lst (cutV xs lo hi))) := rfl
@[simp] theorem cut_rest {xs : List V} : cutV xs (some 1) none = xs.drop 1 := by
  unfold cutV
  have e := HT.sIx_nat xs.length 0 1
  rw [HT.sIx_none, show (some (1 : Int)) = some ((1 : Nat) : Int) from rfl, e]
  cases xs with
  | nil => rfl
  | cons x xs => simp
def gTupH (n : Nat) (t : TGs) : TG := fun v σ H Q => ∃ a xs, v = .ref a ∧ H a = some (.tup xs) ∧ xs.length = n ∧ t xs σ H Q
theorem pg_tupH {es : List Expr} {k : Nat} {t : TGs} {n : Nat} {pos : Pos} (hc : X.calm = true) (h : PGs X es t)
    (hn : (assignEach es X.env).length = n := by rfl) (hst : (assignEach es X.env).findIdx? (·.1) = none := by rfl) : PG X (.Tuple es k pos) (gTupH n t) := by
  have z := pg_tup (k := k) (pos := pos) hc h hn hst
  refine ⟨fun pins s σ H v u Q I r hw => ?_⟩
  obtain ⟨a, xs, e1, hq, hl, hw⟩ := hw
  exact z.run pins s σ H v u Q I r ⟨a, xs, e1, SqT.of hq, hl, hw⟩
@[simp] theorem o_gTupH {n : Nat} {t : TGs} {v : V} {σ : L2.St} {Qs : L2.St → Hp → Prop} : gTupH n t v σ H Qs = ∃ a xs, v = .ref a ∧ H a = some (.tup xs) ∧ xs.length = n ∧ t xs σ H Qs := rfl
@[simp] theorem o_gNil {vs : List V} {σ : L2.St} {Qs : L2.St → Hp → Prop} : gNil vs σ H Qs = (vs = [] ∧ Qs σ H) := rfl
@[simp] theorem o_gCons {t : TG} {u : TGs} {vs : List V} {σ : L2.St} {Qs : L2.St → Hp → Prop} : gCons t u vs σ H Qs = ∃ v r, vs = v :: r ∧ t v σ H fun σ' H' => u r σ' H' Qs := rfl
@[simp] theorem o_tPar3 {i j l : Nat} {ta : TA} {D : Ends} {σ : L2.St} : tPar3 i j l ta D σ H = ta σ H fun vs H1 => ∃ u v w, vs = [u, v, w] ∧ D.nx (((σ.set i (some u)).set j (some v)).set l (some w)) H1 := rfl
theorem upd_if {H : Hp} {a b : Addr} {o : HO} : upd H a o b = if b = a then some o else H b := by
  by_cases h : b = a
  · rw [h, upd_same, if_pos rfl]
  · rw [upd_ne h, if_neg h]
theorem upd_none {H : Hp} {a b : Addr} {o : HO} : upd H a o b = none ↔ b ≠ a ∧ H b = none := by
  rw [upd_if]
  by_cases h : b = a <;> simp [h]
theorem same_new {H G : Hp} {a : Addr} {o : HO} (s : Same H G) (n : H a = none) : Same H (upd G a o) := fun b u e => by
  rw [upd_ne (ne_of_none e n)]
  exact s b u e
/-- all but S is kept -/
def Keep (S : List Addr) (H H' : Hp) : Prop := ∀ b o, H b = some o → b ∉ S → H' b = some o
theorem Keep.refl {S : List Addr} {H : Hp} : Keep S H H := fun _ _ e _ => e
theorem Keep.trans {S : List Addr} {H G F : Hp} (a : Keep S H G) (b : Keep S G F) : Keep S H F := fun c o e n => b c o (a c o e n) n
theorem Keep.new {S : List Addr} {H G : Hp} {q : Addr} {u : HO} (a : Keep S H G) (n : G q = none) : Keep S H (upd G q u) := fun c o e m => by
  have z := a c o e m
  rw [upd_ne (ne_of_none z n), z]
theorem Keep.at {S : List Addr} {H G : Hp} {q : Addr} {u : HO} (a : Keep S H G) (n : q ∈ S) : Keep S H (upd G q u) := fun c o e m => by
  have z : c ≠ q := fun z => m (by rw [z]; exact n)
  rw [upd_ne z, a c o e m]
theorem Keep.free {S : List Addr} {H G : Hp} {q : Addr} (a : Keep S H G) (n : G q = none) (m : q ∉ S) : H q = none := by
  cases e : H q with
  | none => rfl
  | some o =>
    rw [a q o e m] at n
    cases n
theorem Keep.more {S S' : List Addr} {H G : Hp} (a : Keep S H G) (m : ∀ b ∈ S, b ∈ S') : Keep S' H G := fun c o e n => a c o e fun z => n (m c z)
theorem Same.keep {S : List Addr} {H G : Hp} (a : Same H G) : Keep S H G := fun c o e _ => a c o e
end
end Own
namespace Own
open PySem L2
section
open PySem L2
/-! ### what is looked up, then gone on with -/
def onTup (o : Option HO) (f : List V → Prop) : Prop := ∃ xs, o = some (.tup xs) ∧ f xs
def onLst (o : Option HO) (f : List V → Prop) : Prop := ∃ xs, o = some (.lst xs) ∧ f xs
def onDK (o : Option HO) (f : List (Key × V) → Prop) : Prop := ∃ xs, o = some (.dK xs) ∧ f xs
def onSome {α : Type} (o : Option α) (f : α → Prop) : Prop := ∃ x, o = some x ∧ f x
/-! a gate: simp computes what is looked up ahead of what follows it (the congruence of Vector.mapFinIdx leaves the function alone) -/
def vec1 {α : Type} (o : α) : Vector α 1 := Vector.mk #[o] rfl
def get1 (v : Vector Prop 1) : Prop := v[0]
def nTup (f : List V → Prop) : (i : Nat) → Option HO → i < 1 → Prop := fun _ o _ => onTup o f
def nLst (f : List V → Prop) : (i : Nat) → Option HO → i < 1 → Prop := fun _ o _ => onLst o f
def nDK (f : List (Key × V) → Prop) : (i : Nat) → Option HO → i < 1 → Prop := fun _ o _ => onDK o f
def nSome {α : Type} (f : α → Prop) : (i : Nat) → Option α → i < 1 → Prop := fun _ o _ => onSome o f
section
variable {o : Option HO} {f : List V → Prop} {g : List (Key × V) → Prop} {α : Type} {p : Option α} {h : α → Prop}
theorem onTup_some {xs : List V} : onTup (some (.tup xs)) f = f xs := by simp [onTup]
theorem onLst_some {xs : List V} : onLst (some (.lst xs)) f = f xs := by simp [onLst]
theorem onDK_some {xs : List (Key × V)} : onDK (some (.dK xs)) g = g xs := by simp [onDK]
theorem onSome_some {x : α} : onSome (some x) h = h x := by simp [onSome]
theorem onTup_in : onTup o f = get1 (Vector.mapFinIdx (vec1 o) (nTup f)) := by simp [get1, vec1, nTup]
theorem onLst_in : onLst o f = get1 (Vector.mapFinIdx (vec1 o) (nLst f)) := by simp [get1, vec1, nLst]
theorem onDK_in : onDK o g = get1 (Vector.mapFinIdx (vec1 o) (nDK g)) := by simp [get1, vec1, nDK]
theorem onSome_in : onSome p h = get1 (Vector.mapFinIdx (vec1 p) (nSome h)) := by simp [get1, vec1, nSome]
theorem onTup_out {xs : List V} : get1 (Vector.mapFinIdx (vec1 (some (.tup xs))) (nTup f)) = f xs := onTup_in.symm.trans onTup_some
theorem onLst_out {xs : List V} : get1 (Vector.mapFinIdx (vec1 (some (.lst xs))) (nLst f)) = f xs := onLst_in.symm.trans onLst_some
theorem onDK_out {xs : List (Key × V)} : get1 (Vector.mapFinIdx (vec1 (some (.dK xs))) (nDK g)) = g xs := onDK_in.symm.trans onDK_some
theorem onSome_out {x : α} : get1 (Vector.mapFinIdx (vec1 (some x)) (nSome h)) = h x := onSome_in.symm.trans onSome_some
theorem onTup_back : get1 (Vector.mapFinIdx (vec1 o) (nTup f)) = onTup o f := onTup_in.symm
theorem onLst_back : get1 (Vector.mapFinIdx (vec1 o) (nLst f)) = onLst o f := onLst_in.symm
theorem onDK_back : get1 (Vector.mapFinIdx (vec1 o) (nDK g)) = onDK o g := onDK_in.symm
theorem onSome_back : get1 (Vector.mapFinIdx (vec1 p) (nSome h)) = onSome p h := onSome_in.symm
end
def asB (QB : Bool → Hp → Prop) : VK := fun x H' => ∃ k, x = .bl k ∧ QB k H'
section
variable {σ σ' : L2.St} {H : Hp} {D : Ends} {Q : VK} {QB : Bool → Hp → Prop} {QL : List V → Hp → Prop} {Qs : L2.St → Hp → Prop} {v x y : V} {K : PySem.W.Frag} {a : Addr} {i j : Int} {k b : Bool} {s z : Str} {xs : List V}
theorem asB_bl : asB QB (.bl k) H = QB k H := by simp [asB]
theorem e_tTest (t : TE) : tTest t σ H QB = t σ H (asB QB) := rfl
theorem e_tB (t : TE) : tB t σ H QB = t σ H (asB QB) := rfl
theorem e_var {n : Nat} : tVar n σ H Q = onSome (σ[n]?) fun o => onSome o fun v => Q v H := by
  unfold tVar onSome
  exact propext ⟨fun ⟨v, e, q⟩ => ⟨_, e, v, rfl, q⟩, fun ⟨o, e, v, e2, q⟩ => ⟨v, by rw [e, e2], q⟩⟩
theorem e_rI (C : Int → Int → Prop) (g : Int → Int → V) : rI C g (.int i) (.int j) H Q = (C i j ∧ Q (g i j) H) := by simp
theorem e_rI0 (g : Int → Int → V) : rI0 g (.int i) (.int j) H Q = Q (g i j) H := by simp
theorem e_rU (g : Int → V) : rU g (.int i) H Q = Q (g i) H := by simp
theorem e_rAdd : rAdd (.int i) (.int j) H Q = Q (.int (i + j)) H := by simp
theorem e_rSub : rSub (.int i) (.int j) H Q = Q (.int (i - j)) H := by simp
theorem e_tChain (r r' : R2) (ta tb tc : TE) : tChain r r' ta tb tc σ H Q = ta σ H fun x H1 => tb σ H1 fun y H2 => r x y H2 fun z H3 => asB (fun k H3 => if k = true then tc σ H3 fun w' H4 => r' y w' H4 Q else Q (.bl false) H3) z H3 := rfl
theorem e_tAndV {ta tb : TE} : tAndV ta tb σ H Q = ta σ H fun x H1 => asB (fun c H1 => if c = true then tb σ H1 Q else Q (.bl false) H1) x H1 := rfl
theorem e_tOrV {ta tb : TE} : tOrV ta tb σ H Q = ta σ H fun x H1 => asB (fun c H1 => if c = true then Q (.bl true) H1 else tb σ H1 Q) x H1 := rfl
theorem e_rIL : rIL (.ref a) (.int i) H Q = onLst (H a) fun xs => onSome (atI xs i) fun v => Q v H := by simp [onLst, onSome]
theorem e_rIT : rIT (.ref a) (.int i) H Q = onTup (H a) fun xs => onSome (atI xs i) fun v => Q v H := by simp [onTup, onSome]
theorem e_rIC : rIC a xs (.ref a) (.int i) H Q = onSome (atI xs i) fun v => Q v H := by simp [onSome]
theorem e_rSetL {QH : Hp → Prop} : rSetL (.ref a) (.int i) v H QH = onLst (H a) fun xs => onSome (ixN xs.length i) fun j => QH (upd H a (.lst (xs.set j v))) := by simp [onLst, onSome]
def dgH (x y : V) (H : Hp) (Q : VK) : Prop := ∃ a kvs k v, x = .ref a ∧ y = .str k ∧ H a = some (.dK kvs) ∧ valV kvs (.inr k) = some v ∧ Q v H
theorem e_tDGH {td ty : TE} : tDGH td ty σ H Q = td σ H fun x H1 => ty σ H1 fun y H2 => dgH x y H2 Q := rfl
theorem e_dgH : dgH (.ref a) (.str s) H Q = onDK (H a) fun kvs => onSome (valV kvs (.inr s)) fun v => Q v H := by simp [dgH, onDK, onSome]
theorem e_rSetDH {QH : Hp → Prop} : rSetDH (.ref a) (.str s) v H QH = onDK (H a) fun kvs => kvs.length < sizeLine ∧ QH (upd H a (.dK (putK kvs (.inr s) v))) := by simp [onDK]
theorem e_sDPH {td ty tv : TE} : sDPH td ty tv D σ H = tv σ H fun v H1 => td σ H1 fun x H2 => ty σ H2 fun y H3 => rSetDH x y v H3 fun H4 => D.nx σ H4 := by
  simp only [sDPH, o_rSetDH]
theorem e_rInH {neg : Bool} : rInH neg x (.ref a) H Q = onLst (H a) fun xs => flatV x = true ∧ xs.all flatV = true ∧ Q (.bl (if neg then !inV x xs else inV x xs)) H := by simp only [o_rInH, onLst]; simp
theorem e_rInC {neg : Bool} : rInC a xs neg x (.ref a) H Q = (flatV x = true ∧ xs.all flatV = true ∧ Q (.bl (if neg then !inV x xs else inV x xs)) H) := by simp only [o_rInC]; simp
theorem e_rEqFL {neg : Bool} {c : Addr} : rEqFL neg (.ref a) (.ref c) H Q = onLst (H a) fun xs => onLst (H c) fun ys => xs.all isIS = true ∧ ys.all isIS = true ∧ Q (.bl (if neg then !decide (xs = ys) else decide (xs = ys))) H := by
  simp only [o_rEqFL, onLst]; simp
theorem e_rEqFT {neg : Bool} {c : Addr} : rEqFT neg (.ref a) (.ref c) H Q = onTup (H a) fun xs => onTup (H c) fun ys => xs.all isIS = true ∧ ys.all isIS = true ∧ Q (.bl (if neg then !decide (xs = ys) else decide (xs = ys))) H := by
  simp only [o_rEqFT, onTup]; simp
theorem e_rCat {c : Addr} : rCat (.ref a) (.ref c) H Q = onLst (H a) fun xs => onLst (H c) fun zs => xs.length + zs.length ≤ sizeLine ∧ ∀ p, H p = none → Q (.ref p) (upd H p (.lst (xs ++ zs))) := by
  simp only [o_rCat, onLst]; simp
theorem e_rSlLH {lo hi : Option Int} : rSlLH (.ref a) lo hi H Q = onLst (H a) fun xs => ∀ p, H p = none → Q (.ref p) (upd H p (.lst (cutV xs lo hi))) := by simp only [o_rSlLH, onLst]; simp
theorem e_rCI : rCI [.int i] H Q = Q (.int i) H := by simp
theorem e_rCIB : rCIB [.bl k] H Q = Q (.int (if k then 1 else 0)) H := by simp
theorem e_rLenL : rLenL [.ref a] H Q = onLst (H a) fun xs => Q (.int xs.length) H := by simp [onLst]
theorem e_rLenTp : rLenTp [.ref a] H Q = onTup (H a) fun xs => Q (.int xs.length) H := by simp [onTup]
theorem e_rAppend : rAppend (.ref a) [y] H Q = onLst (H a) fun xs => xs.length < sizeLine ∧ Q .non (upd H a (.lst (xs ++ [y]))) := by simp [onLst]
theorem e_tPart {t : TE} {QO : Option Int → Hp → Prop} : tPart t σ H QO = t σ H fun x H1 => ∃ i, x = .int i ∧ QO (some i) H1 := rfl
theorem e_tPar (m n : Nat) (ta : TA) : tPar m n ta D σ H = ta σ H fun vs H1 => ∃ v w, vs = [v, w] ∧ D.nx ((σ.set m (some v)).set n (some w)) H1 := rfl
theorem e_gTupH {n : Nat} {t : TGs} : gTupH n t (.ref a) σ H Qs = onTup (H a) fun xs => xs.length = n ∧ t xs σ H Qs := by simp only [o_gTupH, onTup]; simp
theorem e_gNil : gNil [] σ H Qs = Qs σ H := by simp
theorem e_gCons {t : TG} {u : TGs} : gCons t u (v :: xs) σ H Qs = t v σ H fun σ' H' => u xs σ' H' Qs :=
  propext ⟨fun ⟨a, r, e, q⟩ => by cases e; exact q, fun q => ⟨v, xs, rfl, q⟩⟩
theorem e_tAug (n : Nat) (te : TE) (ti : TIp) : tAug n te ti D σ H = onSome (σ[n]?) fun o => onSome o fun x => te σ H fun y H1 => ti x y H1 fun z H2 => D.nx (σ.set n (some z)) H2 := by
  unfold tAug onSome
  exact propext ⟨fun ⟨v, e, q⟩ => ⟨_, e, v, rfl, q⟩, fun ⟨o, e, v, e2, q⟩ => ⟨v, by rw [e, e2], q⟩⟩
theorem e_tNotV {t : TE} : tNotV t σ H Q = t σ H (asB fun k H1 => Q (.bl (!k)) H1) := rfl
def asI (f : Int → Hp → Prop) : VK := fun x H => ∃ i, x = .int i ∧ f i H
theorem e_asI {f : Int → Hp → Prop} : asI f (.int i) H = f i H := by simp [asI]
theorem p_tPart {t : TE} {QO : Option Int → Hp → Prop} : tPart t σ H QO = t σ H (asI fun i H1 => QO (some i) H1) := rfl
def as2 (f : V → V → Hp → Prop) : List V → Hp → Prop := fun vs H1 => ∃ v w, vs = [v, w] ∧ f v w H1
def as3 (f : V → V → V → Hp → Prop) : List V → Hp → Prop := fun vs H1 => ∃ u v w, vs = [u, v, w] ∧ f u v w H1
theorem e_as2 {f : V → V → Hp → Prop} : as2 f [x, y] H = f x y H := propext ⟨fun ⟨a, b, e, q⟩ => by cases e; exact q, fun q => ⟨x, y, rfl, q⟩⟩
theorem e_as3 {f : V → V → V → Hp → Prop} : as3 f [x, y, v] H = f x y v H := propext ⟨fun ⟨a, b, c, e, q⟩ => by cases e; exact q, fun q => ⟨x, y, v, rfl, q⟩⟩
theorem p_tPar (m n : Nat) (ta : TA) : tPar m n ta D σ H = ta σ H (as2 fun v w H1 => D.nx ((σ.set m (some v)).set n (some w)) H1) := rfl
theorem p_tPar3 (m n l : Nat) (ta : TA) : tPar3 m n l ta D σ H = ta σ H (as3 fun u v w H1 => D.nx (((σ.set m (some u)).set n (some v)).set l (some w)) H1) := rfl
def fldH (K : PySem.W.Frag) (f : Str) (x : V) (H : Hp) (Q : VK) : Prop := ∃ a C dx fs v, x = .ref a ∧ H a = some (.ins C dx fs) ∧ Cls K C ∧ NoAttr K C f ∧ fs.lookup f = some v ∧ Q v H
def onIns (o : Option HO) (f : Addr → Addr → List (Str × V) → Prop) : Prop := ∃ C dx fs, o = some (.ins C dx fs) ∧ f C dx fs
theorem onIns_some {C dx : Addr} {fs : List (Str × V)} {f : Addr → Addr → List (Str × V) → Prop} : onIns (some (.ins C dx fs)) f = f C dx fs :=
  propext ⟨fun ⟨a, b, c, e, q⟩ => by cases e; exact q, fun q => ⟨C, dx, fs, rfl, q⟩⟩
def nIns (f : Addr → Addr → List (Str × V) → Prop) : (i : Nat) → Option HO → i < 1 → Prop := fun _ o _ => onIns o f
theorem onIns_in {o : Option HO} {f : Addr → Addr → List (Str × V) → Prop} : onIns o f = get1 (Vector.mapFinIdx (vec1 o) (nIns f)) := by simp [get1, vec1, nIns]
theorem onIns_out {C dx : Addr} {fs : List (Str × V)} {f : Addr → Addr → List (Str × V) → Prop} : get1 (Vector.mapFinIdx (vec1 (some (.ins C dx fs))) (nIns f)) = f C dx fs := onIns_in.symm.trans onIns_some
theorem onIns_back {o : Option HO} {f : Addr → Addr → List (Str × V) → Prop} : get1 (Vector.mapFinIdx (vec1 o) (nIns f)) = onIns o f := onIns_in.symm
theorem e_tFld (ta : TE) (f : Str) : tFld K ta f σ H Q = ta σ H fun x H1 => fldH K f x H1 Q := rfl
theorem e_fldH (f : Str) : fldH K f (.ref a) H Q = onIns (H a) fun C dx fs => Cls K C ∧ NoAttr K C f ∧ onSome (fs.lookup f) fun v => Q v H := by
  simp only [fldH, onIns, onSome]
  apply propext
  constructor
  · rintro ⟨a', C, dx, fs, v, e, h1, h2, h3, h4, q⟩
    cases e
    exact ⟨C, dx, fs, h1, h2, h3, v, h4, q⟩
  · rintro ⟨C, dx, fs, h1, h2, h3, v, h4, q⟩
    exact ⟨a, C, dx, fs, v, rfl, h1, h2, h3, h4, q⟩
def setF (K : PySem.W.Frag) (f : Str) (y x : V) (H : Hp) (Qh : Hp → Prop) : Prop := ∃ a C dx fs, x = .ref a ∧ H a = some (.ins C dx fs) ∧ Cls K C ∧ NoAttr K C f ∧ fs.length < 1000 ∧ Qh (upd H a (.ins C dx (putF f y fs)))
theorem e_sFld (ta tv : TE) (f : Str) : sFld K ta tv f D σ H = tv σ H fun y H1 => ta σ H1 fun x H2 => setF K f y x H2 fun H3 => D.nx σ H3 := rfl
theorem e_setF (f : Str) {Qh : Hp → Prop} : setF K f y (.ref a) H Qh = onIns (H a) fun C dx fs => Cls K C ∧ NoAttr K C f ∧ fs.length < 1000 ∧ Qh (upd H a (.ins C dx (putF f y fs))) := by
  simp only [setF, onIns]
  apply propext
  constructor
  · rintro ⟨a', C, dx, fs, e, h1, h2, h3, h4, q⟩
    cases e
    exact ⟨C, dx, fs, h1, h2, h3, h4, q⟩
  · rintro ⟨C, dx, fs, h1, h2, h3, h4, q⟩
    exact ⟨a, C, dx, fs, rfl, h1, h2, h3, h4, q⟩
end
/-! ### lists of whole numbers -/
def getI (xs : List Int) (n : Int) : Int := (xs[n.toNat]?).getD 0
def setI (xs : List Int) (n v : Int) : List Int := xs.set n.toNat v
theorem all_ints {ns : List Int} : (ns.map V.int).all isIS = true := by simp
theorem set_map {ns : List Int} {j : Nat} {v : Int} : (ns.map V.int).set j (.int v) = (ns.set j v).map V.int := by rw [List.map_set]
theorem at_getI {xs : List Int} {n : Int} (h0 : 0 ≤ n) (h1 : n < xs.length) : atI (xs.map V.int) n = some (.int (getI xs n)) := by
  obtain ⟨j, rfl⟩ := Int.eq_ofNat_of_zero_le h0
  have hj : j < xs.length := by omega
  refine atI_nat ?_
  simp [getI, hj]
theorem ix_getI {xs : List Int} {n : Int} (h0 : 0 ≤ n) (h1 : n < xs.length) : ixN (xs.map V.int).length n = some n.toNat := by
  obtain ⟨j, rfl⟩ := Int.eq_ofNat_of_zero_le h0
  have hj : j < xs.length := by omega
  rw [List.length_map, Int.toNat_natCast]
  exact ixN_nat hj
theorem getI_mem {xs : List Int} {n : Int} (h0 : 0 ≤ n) (h1 : n < xs.length) : getI xs n ∈ xs := by
  obtain ⟨j, rfl⟩ := Int.eq_ofNat_of_zero_le h0
  have hj : j < xs.length := by omega
  simp [getI, hj]
/-! ### written dicts -/
def unK : List (V × V) → Option (List (Key × V))
  | [] => some []
  | (.str s, v) :: r => (unK r).map fun k => (.inr s, v) :: k
  | (.int i, v) :: r => (unK r).map fun k => (.inl i, v) :: k
  | _ => none
theorem unK_kV : ∀ kvs : List (Key × V), unK (kvs.map fun kv => (kV kv.1, kv.2)) = some kvs
  | [] => rfl
  | (.inl i, v) :: r => by
    have ih := unK_kV r
    show (unK (r.map fun kv => (kV kv.1, kv.2))).map (fun k => (Sum.inl i, v) :: k) = _
    rw [ih]
    rfl
  | (.inr i, v) :: r => by
    have ih := unK_kV r
    show (unK (r.map fun kv => (kV kv.1, kv.2))).map (fun k => (Sum.inr i, v) :: k) = _
    rw [ih]
    rfl
theorem kV_unK : ∀ {ps : List (V × V)} {kvs : List (Key × V)}, unK ps = some kvs → ps = kvs.map fun kv => (kV kv.1, kv.2)
  | [], kvs, h => by
    cases h
    rfl
  | (k, v) :: r, kvs, h => by
    cases k with
    | int i =>
      cases e : unK r with
      | none => rw [unK, e] at h; cases h
      | some t => rw [unK, e] at h; cases h; rw [kV_unK e]; rfl
    | str i =>
      cases e : unK r with
      | none => rw [unK, e] at h; cases h
      | some t => rw [unK, e] at h; cases h; rw [kV_unK e]; rfl
    | _ => cases h
def asK (f : List (Key × V) → Prop) (ps : List (V × V)) : Prop := ∃ kvs : List (Key × V), ps = kvs.map (fun kv => (kV kv.1, kv.2)) ∧ kvs.length ≤ 15 ∧ f kvs
theorem e_asK {f : List (Key × V) → Prop} {ps : List (V × V)} : asK f ps = onSome (unK ps) fun kvs => kvs.length ≤ 15 ∧ f kvs := by
  unfold asK onSome
  refine propext ⟨?_, ?_⟩
  · rintro ⟨kvs, rfl, h, q⟩
    exact ⟨kvs, unK_kV kvs, h, q⟩
  · rintro ⟨kvs, e, h, q⟩
    exact ⟨kvs, kV_unK e, h, q⟩
theorem unK_0 : unK [] = some [] := rfl
theorem unK_s {s : Str} {v : V} {r : List (V × V)} : unK ((.str s, v) :: r) = (unK r).map fun k => (.inr s, v) :: k := rfl
theorem unK_i {s : Int} {v : V} {r : List (V × V)} : unK ((.int s, v) :: r) = (unK r).map fun k => (.inl s, v) :: k := rfl
theorem p_tDisp {σ : L2.St} {H : Hp} {Q : VK} (trs : List (TE × TE)) : tDisp trs σ H Q = ∀ p, H p = none → tPairs trs σ (upd H p (.dK [])) fun ps H2 => H2 p = some (.dK []) ∧ asK (fun kvs => Q (.ref p) (upd H2 p (.dK (mergeK [] kvs)))) ps := rfl
theorem fold_put : ∀ (kvs acc : List (Key × V)), (kvs.map (·.1)).Nodup → (∀ p ∈ kvs, ∀ q ∈ acc, q.1 ≠ p.1) → kvs.foldl (fun acc kv => putK acc kv.1 kv.2) acc = acc ++ kvs
  | [], acc, _, _ => by simp
  | (k, v) :: r, acc, hn, hd => by
    have h1 : putK acc k v = acc ++ [(k, v)] := by
      unfold putK
      rw [if_neg]
      simp only [List.any_eq_true, decide_eq_true_eq, not_exists, not_and]
      exact fun q hq e => hd (k, v) List.mem_cons_self q hq e
    rw [List.foldl_cons, h1, fold_put r _ (by simp at hn; simpa using hn.2)]
    · simp
    · intro p hp q hq
      rcases List.mem_append.mp hq with z | z
      · exact hd p (List.mem_cons_of_mem _ hp) q z
      · simp only [List.mem_singleton] at z
        rw [z]
        simp only [List.map_cons, List.nodup_cons, List.mem_map] at hn
        exact fun e => hn.1 ⟨p, hp, e.symm⟩
theorem mergeK_nd {kvs : List (Key × V)} (h : (kvs.map (·.1)).Nodup) : mergeK [] kvs = kvs := by
  unfold mergeK
  rw [fold_put _ _ h (by simp)]
  rfl
theorem valV_0 {k : Key} : valV ([] : List (Key × V)) k = none := rfl
theorem valV_c {k l : Key} {v : V} {r : List (Key × V)} : valV ((l, v) :: r) k = if l = k then some v else valV r k := by
  by_cases h : l = k
  · rw [if_pos h]; exact valV_pos h
  · rw [if_neg h]; exact valV_neg h
/-! ### heaps -/
theorem nn_of (H : Hp) : ∀ p b, H p = none → (H b).isSome = true → ¬ p = b := fun p b h1 h2 e => by rw [e] at h1; rw [h1] at h2; cases h2
theorem nn_of' (H : Hp) : ∀ p b, H p = none → (H b).isSome = true → ¬ b = p := fun p b h1 h2 e => by rw [← e] at h1; rw [h1] at h2; cases h2
theorem upd_new {H : Hp} {p b : Addr} {o : HO} (np : H p = none) (hb : (H b).isSome = true) : upd H p o b = H b := by
  refine upd_ne fun e => ?_
  rw [e, np] at hb
  cases hb
theorem upd_neS {H : Hp} {p b : Addr} {o : HO} (h : ¬ b = p) : upd H p o b = H b := upd_ne h
/-! ### places in written lists -/
section
variable {α : Type} {l : List α} {x y : α} {n : Nat}
theorem set_0 : (x :: l).set 0 y = y :: l := rfl
theorem set_s : (x :: l).set (n + 1) y = x :: l.set n y := rfl
end
theorem le_sl {n : Nat} (h : n ≤ 1000) : (n ≤ sizeLine) = True := eq_true (Nat.le_of_lt (small1000 h))
theorem lt_sl {n : Nat} (h : n ≤ 1000) : (n < sizeLine) = True := eq_true (small1000 h)
end
local macro_rules | `(tactic| simp_arith [$ts,*]) => `(tactic| (simp (config := { failIfUnchanged := false, maxDischargeDepth := 12 }) only [↓o_tSeq, ↓o_tIfS, ↓e_tTest, ↓e_tB, ↓o_tC, ↓e_var, ↓o_tOp, ↓o_tUn, ↓e_rI, ↓e_rI0, ↓e_rU, ↓e_rAdd, ↓e_rSub, ↓o_rEq, ↓o_rNe, ↓o_tNil, ↓o_tCons, ↓o_tCB,
  ↓o_tTup, ↓o_tLst, ↓o_tRet, ↓o_tRetN, ↓o_tNext, ↓o_tBreak, ↓o_tCont, ↓o_tDrop, ↓o_tNever, ↓o_tAsg, ↓o_gName, ↓o_gSub, ↓o_tAnd, ↓o_tOr, ↓o_tNot, ↓o_tIf, ↓e_tChain, ↓e_tNotV, dite_eq_ite, ↓e_tAndV, ↓e_tOrV, ↓e_rIL, ↓e_rIT, ↓e_rIC, ↓e_rSetL, ↓e_tDGH, ↓e_dgH,
  ↓e_rSetDH, ↓e_sDPH, ↓e_rInH, ↓e_rInC, ↓e_rEqFL, ↓e_rEqFT, ↓e_rCat, ↓e_rSlLH, ↓e_rCI, ↓e_rCIB, ↓e_rLenL, ↓e_rLenTp, ↓e_rAppend, ↓o_tSl, ↓o_tNoPart, ↓p_tPart, ↓e_asI, all_ints, set_map, cut_rest, o_CDiv, ↓p_tPar, ↓p_tPar3, ↓e_as2, ↓e_as3, o_start, List.cons_append, List.nil_append, List.reduceReplicate, ↓e_gTupH, ↓e_gNil, ↓e_gCons, ↓e_tAug, ↓e_tFld, ↓e_fldH, ↓e_sFld, ↓e_setF, ↓asB_bl,
  ↓o_tCall, ↓o_tMeth, ↓o_tMake, ↓o_tYes, ↓p_tDisp, ↓e_asK, unK_0, unK_s, unK_i, Option.map_some, mergeK_nd, valV_0, valV_c, Sum.inr.injEq, Sum.inl.injEq, List.nodup_cons, List.nodup_nil, List.mem_cons, List.not_mem_nil, List.map_append, List.drop_nil, List.drop_succ_cons, List.drop_zero, ↓o_tPairs0, ↓o_tPairs1, ↓onTup_in, ↓onLst_in, ↓onDK_in, ↓onSome_in, ↓onIns_in, onTup_out, onLst_out, onDK_out, onSome_out, onIns_out, upd_sameS, upd_updS, upd_new, upd_neS, Option.isSome_some, Option.isSome_none,
  List.getElem?_cons_zero, List.getElem?_cons_succ, set_0, set_s, List.set_cons_zero, List.set_cons_succ, List.length_cons, List.length_nil, at_0, at_1, at_2, at_3, scal_ii, scal_bb, scal_ss, str_eq, str_beq, V.str.injEq, V.int.injEq, V.bl.injEq, V.ref.injEq, Option.some.injEq,
  decide_true, decide_false, if_true, if_false, ite_true, ite_false, Bool.not_true, Bool.not_false, true_and, and_true, decide_eq_true_eq, flat_i, flat_s, flat_b, flat_n, eqV_ss, eqV_ii, inV_nil, inV_cons, Bool.or_false, Bool.or_true, Bool.false_or, Bool.true_or, Bool.or_eq_true, Bool.not_eq_true', decide_eq_false_iff_not,
  reduceCtorEq, String.reduceEq, or_false, false_or, or_true, true_or, or_self, and_self, le_sl, lt_sl, upd_none, Nat.reduceLeDiff, ne_eq, and_imp, Nat.reduceAdd, Nat.reduceLT, Nat.reduceSub, Int.reduceLT, Int.reduceEq, List.all_cons, List.all_nil, List.map_cons, List.map_nil, isIS_i, not_false_eq_true, not_true_eq_false, true_implies, forall_const, reduceIte, Bool.false_eq_true, Bool.and_true, Bool.true_and, eq_self, $ts,*] <;> simp (config := { failIfUnchanged := false }) only [↓onTup_back, ↓onLst_back, ↓onDK_back, ↓onSome_back, ↓onIns_back]))
local macro_rules | `(tactic| simp_all_arith [$ts,*]) => `(tactic| (simp (config := { failIfUnchanged := false, maxDischargeDepth := 12 }) only [↓o_tSeq, ↓o_tIfS, ↓e_tTest, ↓e_tB, ↓o_tC, ↓e_var, ↓o_tOp, ↓o_tUn, ↓e_rI, ↓e_rI0, ↓e_rU, ↓e_rAdd, ↓e_rSub, ↓o_rEq, ↓o_rNe, ↓o_tNil, ↓o_tCons, ↓o_tCB,
  ↓o_tTup, ↓o_tLst, ↓o_tRet, ↓o_tRetN, ↓o_tNext, ↓o_tBreak, ↓o_tCont, ↓o_tDrop, ↓o_tNever, ↓o_tAsg, ↓o_gName, ↓o_gSub, ↓o_tAnd, ↓o_tOr, ↓o_tNot, ↓o_tIf, ↓e_tChain, ↓e_tNotV, dite_eq_ite, ↓e_tAndV, ↓e_tOrV, ↓e_rIL, ↓e_rIT, ↓e_rIC, ↓e_rSetL, ↓e_tDGH, ↓e_dgH,
  ↓e_rSetDH, ↓e_sDPH, ↓e_rInH, ↓e_rInC, ↓e_rEqFL, ↓e_rEqFT, ↓e_rCat, ↓e_rSlLH, ↓e_rCI, ↓e_rCIB, ↓e_rLenL, ↓e_rLenTp, ↓e_rAppend, ↓o_tSl, ↓o_tNoPart, ↓p_tPart, ↓e_asI, all_ints, set_map, cut_rest, o_CDiv, ↓p_tPar, ↓p_tPar3, ↓e_as2, ↓e_as3, o_start, List.cons_append, List.nil_append, List.reduceReplicate, ↓e_gTupH, ↓e_gNil, ↓e_gCons, ↓e_tAug, ↓e_tFld, ↓e_fldH, ↓e_sFld, ↓e_setF, ↓asB_bl,
  ↓o_tCall, ↓o_tMeth, ↓o_tMake, ↓o_tYes, ↓p_tDisp, ↓e_asK, unK_0, unK_s, unK_i, Option.map_some, mergeK_nd, valV_0, valV_c, Sum.inr.injEq, Sum.inl.injEq, List.nodup_cons, List.nodup_nil, List.mem_cons, List.not_mem_nil, List.map_append, List.drop_nil, List.drop_succ_cons, List.drop_zero, ↓o_tPairs0, ↓o_tPairs1, ↓onTup_in, ↓onLst_in, ↓onDK_in, ↓onSome_in, ↓onIns_in, onTup_out, onLst_out, onDK_out, onSome_out, onIns_out, upd_sameS, upd_updS, upd_new, upd_neS, Option.isSome_some, Option.isSome_none,
  List.getElem?_cons_zero, List.getElem?_cons_succ, set_0, set_s, List.set_cons_zero, List.set_cons_succ, List.length_cons, List.length_nil, at_0, at_1, at_2, at_3, scal_ii, scal_bb, scal_ss, str_eq, str_beq, V.str.injEq, V.int.injEq, V.bl.injEq, V.ref.injEq, Option.some.injEq,
  decide_true, decide_false, if_true, if_false, ite_true, ite_false, Bool.not_true, Bool.not_false, true_and, and_true, decide_eq_true_eq, flat_i, flat_s, flat_b, flat_n, eqV_ss, eqV_ii, inV_nil, inV_cons, Bool.or_false, Bool.or_true, Bool.false_or, Bool.true_or, Bool.or_eq_true, Bool.not_eq_true', decide_eq_false_iff_not,
  reduceCtorEq, String.reduceEq, or_false, false_or, or_true, true_or, or_self, and_self, le_sl, lt_sl, upd_none, Nat.reduceLeDiff, ne_eq, and_imp, Nat.reduceAdd, Nat.reduceLT, Nat.reduceSub, Int.reduceLT, Int.reduceEq, List.all_cons, List.all_nil, List.map_cons, List.map_nil, isIS_i, not_false_eq_true, not_true_eq_false, true_implies, forall_const, reduceIte, Bool.false_eq_true, Bool.and_true, Bool.true_and, eq_self, *, $ts,*] <;> simp (config := { failIfUnchanged := false }) only [↓onTup_back, ↓onLst_back, ↓onDK_back, ↓onSome_back, ↓onIns_back]))
section
open PySem L2 LamX PySem.Spec PyProof.Rows
theorem pass_no {X : Cx} : Passes (L2.CX X.prog X.w) X (fun _ _ _ => False) := by
  rintro pins σ H s e s' I ⟨a, B, H', cls, d, -, -, -, -, -, -, -, z⟩
  exact z.elim
section
variable {X : Cx}
theorem pe_toldHere {x r1 r2 : Str} {g C1 C2 : Addr} {k : Nat} {bs : List (LamB × (XK → TE))} {e : Expr} {te : TE} {p pos : Pos}
    (hg : Gl X x) (hdb : (x == ("__debug__" : Str)) = false) (D : ToldAt X x g C1 C2 r1 r2 (X.env.qual ++ "<lambda>")) (L : LamsOk X k bs) (hr : Room (k + 2) X.A)
    (he : PE X e te) (hs : starEach [e] X.env = (false, eval e X.env) :: starEach [] X.env := by rfl) :
    PE X (.Call (.Name x p) [e] [] pos) (fun σ => tTold X.K C1 C2 r1 r2 (X.env.qual ++ "<lambda>") X.env.cells bs σ te σ) := by
  obtain ⟨mg, keep, oc, od, pg, bg, sg, dV, kV, doc, pm, an, cdv, ct, osl, Ng, a, lk, hcg, hb, Sg, hNg, hva, hd, hcd, gives⟩ := D
  constructor
  intro pins s σ H Q I h
  refine wpAny_Call_Name_kw (ld_glob I hg mg ?_ hdb)
  refine PySem.W.callWith_K (h₀ := X.base) I.ok.mod.kin keep ?_ hs (by rfl)
  have args := (pa_cons he pa_nil hs).run pos pins s σ H (fun vs H3 => ∃ v, vs = [v] ∧ ∃ f c' b, b ∈ bs ∧ v = .ref f ∧ H3 c' = some (CodeO c' (X.env.qual ++ "<lambda>")) ∧ H3 f = some (LamO f (X.env.qual ++ "<lambda>") b.1 (cloFrom X.env.cells b.1.scope.names []) c') ∧ b.2 (XTwo X.K C1 r1 C2 r2 Q) σ H3 Q)
    I (by
      unfold tTold at h
      have e : tCons te tNil σ H = fun (QL : List V → Hp → Prop) => te σ H fun v H3 => QL [v] H3 := rfl
      rw [e]
      simpa using h)
  refine thn args ?_
  rintro us s1 ⟨vs, H1, I1, rv, v, rfl, f, c', b, hmem, rfl, hc, hf, hq⟩
  refine ⟨I1.kIn, ?_⟩
  obtain ⟨u, rfl⟩ : ∃ u, us = [u] := by
    cases rv with
    | cons _ t =>
      cases t
      exact ⟨_, rfl⟩
  have ru : u = .ref f := by
    cases rv with
    | cons r _ => exact r
  subst ru
  have J := I1
  have runs : codeAny (model X.prog X.w) X.A (.call (.ref g) ⟨[.ref f], []⟩) (CR C8.CX0 X.stack X.prog X.w H1 s1 Q C8.E0) s1 := by
    refine run_ofS (N := Ng) (ps := [a]) (us := [.ref f]) (vs := [.ref f]) lk hcg Sg hr I1.env0 (hb s1 [.ref f] I1.kIn rfl) (.cons rfl .nil) rfl fun hr' => ?_
    obtain ⟨t', ht', hq'⟩ := gives f c' s1 H1 Q (fun E HZ Q' => HZ f = some (LamO f (X.env.qual ++ "<lambda>") b.1 (cloFrom X.env.cells b.1.scope.names []) c') ∧ b.2 E σ HZ Q')
      (fun W pn xe E p1 p2 tk hW => pe_actT (i := 0) J (L.sc b hmem) (L.bind b hmem) tk hW hr' (fun A outer s H hr2 => L.body b hmem A outer s H E f c' hr2) hNg hva hd hcd) hc ⟨hf, hq⟩
    exact ⟨t', ht'.nox, hq'⟩
  refine wpAny_call (codeAny_mono runs fun r s2 hq => ?_)
  match r, hq with
  | .ok (.ret u), hq => exact I1.after hq
/-- told(lambda: ..), and what goes on standing while the lambda is made -/
def tLamP (K : PySem.W.Frag) (T : List (Addr × Str)) (P C1 C2 : Addr) (r1 r2 : Str) (t : XK → TE) : TE := fun σ H Q => Tabs T H ∧ ∀ H1, ExtN H H1 → ExtP P H H1 → Tabs T H1 → t (XTwo K C1 r1 C2 r2 Q) σ H1 Q
theorem e_tLamP {K : PySem.W.Frag} {T : List (Addr × Str)} {P C1 C2 : Addr} {r1 r2 : Str} {t : XK → TE} {σ : L2.St} {H : Hp} {Q : VK} : tLamP K T P C1 C2 r1 r2 t σ H Q = (Tabs T H ∧ ∀ H1, ExtN H H1 → ExtP P H H1 → Tabs T H1 → t (XTwo K C1 r1 C2 r2 Q) σ H1 Q) := rfl
theorem pe_toldLam {T : List (Addr × Str)} {c P g C1 C2 : Addr} {k : Nat} {x r1 r2 : Str} {params : Arguments} {body : Expr} {scope : Scope} {t : XK → TE} {p lpos pos : Pos}
    (hg : Gl X x) (D : ToldAt X x g C1 C2 r1 r2 (X.env.qual ++ "<lambda>")) (TB : LamTab X T c P) (hr : Room (k + 2) X.A) (L : LamS X.env.scope scope) (hdef : defaultsOf params X.env = ([], []))
    (hbind : ∀ (q : Str) (cl : List (Str × Addr)) (pm cv ctv : Value), bindArgs (PySem.W.kla_fn "<lambda>" q params body scope cl pm cv ctv) ⟨[], []⟩ = pure [])
    (hbody : ∀ (A : Around) (outer : List Env) (s : Shared) (H : Hp) (E : XK) (f c' : Addr), Room k (A.deeper (lamEnv X scope s.heap.objs.size f c')) → PE (lamCx X A outer s H E scope f c') body (t E))
    (hdb : (x == ("__debug__" : Str)) = false := by decide) :
    PE X (.Call (.Name x p) [.Lambda params body scope lpos] [] pos) (tLamP X.K T P C1 C2 r1 r2 t) := by
  have z := pe_toldHere (p := p) (pos := pos) (bs := [(⟨params, body, scope⟩, t)]) hg hdb D ⟨fun b hb => by rw [List.mem_singleton.mp hb]; exact L, fun b hb => by rw [List.mem_singleton.mp hb]; exact hbind, fun b hb => by rw [List.mem_singleton.mp hb]; exact hbody⟩ hr (pe_lam1 (b := ⟨params, body, scope⟩) (pos := lpos) TB L hdef) (by rfl)
  refine PE.weaken z fun σ H Q h => ⟨h.1, fun f c' H1 n e ep t1 kc => ⟨f, c', _, List.mem_singleton.mpr rfl, rfl, ?_, upd_same, ?_⟩⟩
  · rw [upd_ne (ne_of_none kc n), kc]
  · exact h.2 _ (e.trans (extN_new n)) (ep.trans (extP_new n)) (tab_new n t1)
/-- the lambdas of a list that is written out -/
def lamsOf : List Expr → List (LamB × Pos)
  | .Lambda params body scope pos :: r => (⟨params, body, scope⟩, pos) :: lamsOf r
  | _ :: r => lamsOf r
  | [] => []
theorem pa_lamsOf {T : List (Addr × Str)} {c P : Addr} {es : List Expr} (TB : LamTab X T c P) (h : (lamsOf es).map (fun b => Expr.Lambda b.1.params b.1.body b.1.scope b.2) = es)
    (ok : ∀ b ∈ lamsOf es, LamS X.env.scope b.1.scope ∧ defaultsOf b.1.params X.env = ([], [])) : PA X es (tLams T P (X.env.qual ++ "<lambda>") X.env.cells ((lamsOf es).map (·.1))) := by
  have z := pa_lams TB ok
  rw [h] at z
  exact z
def lamsOkB (sc : Scope) (es : List Expr) : Bool := (lamsOf es).all fun b => lamSB sc b.1.scope && b.1.params.defaults.isEmpty && b.1.params.kw_defaults.isEmpty
theorem lams_ok {sc : Scope} {env : Env} {es : List Expr} (h : lamsOkB sc es = true) : ∀ b ∈ lamsOf es, LamS sc b.1.scope ∧ defaultsOf b.1.params env = ([], []) := by
  intro b hb
  have z := List.all_eq_true.mp h b hb
  simp only [Bool.and_eq_true, List.isEmpty_iff] at z
  obtain ⟨⟨z1, z2⟩, z3⟩ := z
  refine ⟨lamS_by z1, ?_⟩
  obtain ⟨⟨⟨p1, p2, p3, p4, p5, p6, p7⟩, b2, b3⟩, b4⟩ := b
  simp only at z2 z3
  subst z2 z3
  rfl
def lamAt (es : List Expr) (i : Nat) : LamB := ((lamsOf es).map (·.1)).getD i ⟨defArgs (.Pass ⟨0, 0, 0, 0⟩), .Constant (.int 0) 0 ⟨0, 0, 0, 0⟩, defScope (.Pass ⟨0, 0, 0, 0⟩)⟩
def listOf (st : Stmt) : List Expr := match st with
  | .Assign _ (.List es _) _ => es
  | _ => []
theorem LamsOk.nil {k : Nat} : LamsOk X k [] := ⟨fun _ h => (by cases h), fun _ h => (by cases h), fun _ h => (by cases h)⟩
theorem LamsOk.cons {k : Nat} {b : LamB × (XK → TE)} {bs : List (LamB × (XK → TE))} (L : LamS X.env.scope b.1.scope)
    (hbind : ∀ (q : Str) (cl : List (Str × Addr)) (pm cv ctv : Value), bindArgs (PySem.W.kla_fn "<lambda>" q b.1.params b.1.body b.1.scope cl pm cv ctv) ⟨[], []⟩ = pure [])
    (hbody : ∀ (A : Around) (outer : List Env) (s : Shared) (H : Hp) (E : XK) (f c' : Addr), Room k (A.deeper (lamEnv X b.1.scope s.heap.objs.size f c')) → PE (lamCx X A outer s H E b.1.scope f c') b.1.body (b.2 E))
    (r : LamsOk X k bs) : LamsOk X k (b :: bs) := by
  refine ⟨fun d hd => ?_, fun d hd => ?_, fun d hd => ?_⟩
  · rcases List.mem_cons.mp hd with rfl | hd
    · exact L
    · exact r.sc d hd
  · rcases List.mem_cons.mp hd with rfl | hd
    · exact hbind
    · exact r.bind d hd
  · rcases List.mem_cons.mp hd with rfl | hd
    · exact hbody
    · exact r.body d hd
end
/-- != of what is alike -/
def rNeSame (K : PySem.W.Frag) : R2 := fun x y H Q => ∃ d, Dp K H x d ∧ Dp K H y d ∧ SeqAt.shaped d = true ∧ Q (.bl false) H
mutual
theorem eqv_refl : ∀ d : PyData, d.canLay0 = true → PyData.eqv d d = true
  | .none, _ => rfl
  | .bool b, _ => by simp [PyData.eqv]
  | .int i, _ => by simp [PyData.eqv]
  | .str s, _ => by simp [PyData.eqv]
  | .list xs, h => by simpa [PyData.eqv] using eqvAll_refl xs (by simpa [PyData.canLay0] using h)
  | .tuple xs, h => by simpa [PyData.eqv] using eqvAll_refl xs (by simpa [PyData.canLay0] using h)
  | .dict xs, h => by simp [PyData.canLay0] at h
theorem eqvAll_refl : ∀ ds : List PyData, PyData.canLayAll0 ds = true → PyData.eqvAll ds ds = true
  | [], _ => rfl
  | d :: ds, h => by
    simp only [PyData.canLayAll0, Bool.and_eq_true] at h
    simp only [PyData.eqvAll, eqv_refl d h.1, eqvAll_refl ds h.2, Bool.and_self]
end
theorem op_neSame {X : Cx} (hu : X.A.units + 64 < cLine) : OpR X (compareOp .NotEq) (rNeSame X.K) := OpR.weaken (op_neD hu) fun x y H Q ⟨d, h1, h2, h3, q⟩ =>
  ⟨d, d, h1, h2, h3, h3, by rw [eqv_refl d (SeqAt.canLay_of_shaped h3)]; exact q⟩
end
section
open PySem L2
section
variable {K : PySem.W.Frag} {σ : L2.St} {H : Hp} {D : Ends} {Q : VK} {g : TG} {tb : TS} {tl : TE} {ta : TA} {tt : TT} {te : TE} {vs : List Nat} {a : Addr} {n : Int}
def asL (K : PySem.W.Frag) (f : Addr → Hp → Prop) : VK := fun x H => ∃ a, x = .ref a ∧ (∃ xs, SqL K H a xs) ∧ f a H
theorem e_asL {f : Addr → Hp → Prop} : asL K f (.ref a) H = ((∃ xs, SqL K H a xs) ∧ f a H) :=
  propext ⟨fun ⟨b, e, h, q⟩ => by cases e; exact ⟨h, q⟩, fun ⟨h, q⟩ => ⟨a, rfl, h, q⟩⟩
/-- for .. in the list at a -/
def forL (K : PySem.W.Frag) (a : Addr) (g : TG) (tb : TS) (D : Ends) (σ : L2.St) (H : Hp) : Prop := ∃ W : Nat → Nat → L2.St → Hp → Prop, (∃ m, W 0 m σ H) ∧ ∀ i m σ H, W i m σ H →
  ((Itl K a).stop i H ∧ D.nx σ H) ∨ ((Itl K a).go i H ∧ ∃ N : L2.St → Hp → Prop, (∀ σ' H', N σ' H' → ∃ m', m' < m ∧ W (i + 1) m' σ' H') ∧ ∀ x H', (Itl K a).yld i H x H' → g x σ H' fun σ2 H2 => tb { D with nx := N, ct := N, bk := D.nx } σ2 H2)
theorem e_tForL : tFor (iList K tl) g tb D σ H = tl σ H (asL K fun a H1 => forL K a g tb D σ H1) := rfl
/-- for .. in range(n) -/
def forR (lo : Int) (n : Nat) (g : TG) (tb : TS) (D : Ends) (σ : L2.St) (H : Hp) : Prop := ∃ W : Nat → Nat → L2.St → Hp → Prop, (∃ m, W 0 m σ H) ∧ ∀ i m σ H, W i m σ H →
  ((Itr lo n).stop i H ∧ D.nx σ H) ∨ ((Itr lo n).go i H ∧ ∃ N : L2.St → Hp → Prop, (∀ σ' H', N σ' H' → ∃ m', m' < m ∧ W (i + 1) m' σ' H') ∧ ∀ x H', (Itr lo n).yld i H x H' → g x σ H' fun σ2 H2 => tb { D with nx := N, ct := N, bk := D.nx } σ2 H2)
/-- [.. for .. in the list at a] -/
def lcL (K : PySem.W.Frag) (a : Addr) (g : TG) (tt : TT) (te : TE) (vs : List Nat) (σ : L2.St) (H1 : Hp) (Q : VK) : Prop := ∀ D, H1 D = none → ∃ W : Nat → Nat → Hp → Prop, (∃ m, W 0 m (upd H1 D (.lst []))) ∧ ∀ i m H, W i m H →
  ((Itl K a).stop i H ∧ Q (.ref D) H) ∨ ((Itl K a).go i H ∧ ∃ Nx : Hp → Prop, (∀ H', Nx H' → ∃ m', m' < m ∧ W (i + 1) m' H') ∧ ∀ x H', (Itl K a).yld i H x H' → g x (wipe σ vs) H' fun σ2 H2 => wipe σ2 vs = wipe σ vs ∧ tt σ2 H2 fun b H3 =>
    if b = true then te σ2 H3 fun y H4 => ∃ acc, H4 D = some (.lst acc) ∧ acc.length < sizeLine ∧ Nx (upd H4 D (.lst (acc ++ [y]))) else Nx H3)
theorem e_tLcL : tLc (iList K tl) g tt te vs σ H Q = tl σ H (asL K fun a H1 => lcL K a g tt te vs σ H1 Q) := rfl
def lcR (lo : Int) (n : Nat) (g : TG) (tt : TT) (te : TE) (vs : List Nat) (σ : L2.St) (H1 : Hp) (Q : VK) : Prop := ∀ D, H1 D = none → ∃ W : Nat → Nat → Hp → Prop, (∃ m, W 0 m (upd H1 D (.lst []))) ∧ ∀ i m H, W i m H →
  ((Itr lo n).stop i H ∧ Q (.ref D) H) ∨ ((Itr lo n).go i H ∧ ∃ Nx : Hp → Prop, (∀ H', Nx H' → ∃ m', m' < m ∧ W (i + 1) m' H') ∧ ∀ x H', (Itr lo n).yld i H x H' → g x (wipe σ vs) H' fun σ2 H2 => wipe σ2 vs = wipe σ vs ∧ tt σ2 H2 fun b H3 =>
    if b = true then te σ2 H3 fun y H4 => ∃ acc, H4 D = some (.lst acc) ∧ acc.length < sizeLine ∧ Nx (upd H4 D (.lst (acc ++ [y]))) else Nx H3)
def asR (f : Nat → Hp → Prop) : List V → Hp → Prop := fun vs H => ∃ j : Int, vs = [.int j] ∧ -(2 ^ 62) ≤ j ∧ j < 2 ^ 62 ∧ f j.toNat H
theorem e_asR {f : Nat → Hp → Prop} : asR f [.int n] H = (-(2 ^ 62) ≤ n ∧ n < 2 ^ 62 ∧ f n.toNat H) :=
  propext ⟨fun ⟨b, e, h⟩ => by cases e; exact h, fun h => ⟨n, rfl, h⟩⟩
theorem e_tForR : tFor (iRng1 ta) g tb D σ H = ta σ H (asR fun n H1 => forR 0 n g tb D σ H1) := rfl
theorem e_tLcR : tLc (iRng1 ta) g tt te vs σ H Q = ta σ H (asR fun n H1 => lcR 0 n g tt te vs σ H1 Q) := rfl
theorem forL_by {xs : List V} (Pv : Nat → L2.St → Hp → Prop) (h0 : Pv 0 σ H) (hl : ∀ i σ H, i ≤ xs.length → Pv i σ H → SqL K H a xs)
    (hs : ∀ i x σ H, xs[i]? = some x → Pv i σ H → g x σ H fun σ2 H2 => tb { D with nx := Pv (i + 1), ct := Pv (i + 1), bk := D.nx } σ2 H2) (hd : ∀ σ H, Pv xs.length σ H → D.nx σ H) : forL K a g tb D σ H := for_list Pv h0 hl hs hd
theorem forR_by {lo : Int} {n : Nat} (Pv : Nat → L2.St → Hp → Prop) (h0 : Pv 0 σ H)
    (hs : ∀ i σ H, i < n → Pv i σ H → g (.int (lo + i)) σ H fun σ2 H2 => tb { D with nx := Pv (i + 1), ct := Pv (i + 1), bk := D.nx } σ2 H2) (hd : ∀ σ H, Pv n σ H → D.nx σ H) : forR lo n g tb D σ H := for_range Pv h0 hs hd
theorem lcR_by {lo : Int} {n : Nat} (Pv : Addr → Nat → Hp → Prop) (h0 : ∀ p, H p = none → Pv p 0 (upd H p (.lst [])))
    (hs : ∀ p i H1, H p = none → i < n → Pv p i H1 → g (.int (lo + i)) (wipe σ vs) H1 fun σ2 H2 => wipe σ2 vs = wipe σ vs ∧ tt σ2 H2 fun b H3 =>
      if b = true then te σ2 H3 fun y H4 => ∃ acc, H4 p = some (.lst acc) ∧ acc.length < sizeLine ∧ Pv p (i + 1) (upd H4 p (.lst (acc ++ [y]))) else Pv p (i + 1) H3) (hd : ∀ p H1, H p = none → Pv p n H1 → Q (.ref p) H1) : lcR lo n g tt te vs σ H Q :=
  fun p np => lc_range (Pv p) (h0 p np) (fun i H1 hi h => hs p i H1 np hi h) fun H1 h => hd p H1 np h
theorem lcL_by {xs : List V} (Pv : Addr → Nat → Hp → Prop) (h0 : ∀ p, H p = none → Pv p 0 (upd H p (.lst []))) (hl : ∀ p i H1, H p = none → i ≤ xs.length → Pv p i H1 → SqL K H1 a xs)
    (hs : ∀ p i x H1, H p = none → xs[i]? = some x → Pv p i H1 → g x (wipe σ vs) H1 fun σ2 H2 => wipe σ2 vs = wipe σ vs ∧ tt σ2 H2 fun b H3 =>
      if b = true then te σ2 H3 fun y H4 => ∃ acc, H4 p = some (.lst acc) ∧ acc.length < sizeLine ∧ Pv p (i + 1) (upd H4 p (.lst (acc ++ [y]))) else Pv p (i + 1) H3) (hd : ∀ p H1, H p = none → Pv p xs.length H1 → Q (.ref p) H1) : lcL K a g tt te vs σ H Q :=
  fun p np => lc_list (Pv p) (h0 p np) (fun i H1 hi h => hl p i H1 np hi h) (fun i x H1 hi h => hs p i x H1 np hi h) fun H1 h => hd p H1 np h
end
open LamX in
theorem e_tLam {T : List (Addr × Str)} {TT : (XK → Hp → VK → Prop) → Hp → VK → Prop} {t : XK → TE} {σ : L2.St} {H : Hp} {Q : VK} : tLam T TT t σ H Q = (Tabs T H ∧ ∀ H1, ExtN H H1 → Tabs T H1 → TT (fun E H' Q' => t E σ H' Q') H1 Q) := rfl
end
section
open PySem PySem.Spec PyProof.Rows L2 GenW
/-- its own names: locals (own, and «.0»), captured ones that the def has, globals -/
structure GexS (N : List Str) (sc scope : Scope) (own : List (Str × Nat)) : Prop where
  kind : scope.kind = .function
  co : scope.isCoroutine = false
  cell : ∀ y ∈ scope.names, y.2 ≠ .cell
  dot : scope.names.lookup (".0" : Str) = some NameKind.local
  ix : ∀ p ∈ own, N[p.2]? = some p.1
  loc : ∀ y ∈ scope.names, y.2 = .local → y.1 ∈ own.map (·.1) ∨ y.1 ∉ N
  uniq : ∀ y ∈ scope.names, scope.names.lookup y.1 = some y.2
  free : ∀ y ∈ scope.names, y.2 = .free → sc.names.lookup y.1 = some .cell ∨ sc.names.lookup y.1 = some .free
def gexB (N : List Str) (sc scope : Scope) (own : List (Str × Nat)) : Bool :=
  decide (scope.kind = .function) && !scope.isCoroutine && decide (scope.names.lookup (".0" : Str) = some NameKind.local) && own.all (fun p => decide (N[p.2]? = some p.1)) &&
    scope.names.all fun y => !decide (y.2 = .cell) && (!decide (y.2 = .local) || decide (y.1 ∈ own.map (·.1)) || decide (y.1 ∉ N)) && decide (scope.names.lookup y.1 = some y.2) &&
      (!decide (y.2 = .free) || decide (sc.names.lookup y.1 = some .cell) || decide (sc.names.lookup y.1 = some .free))
theorem gexS_by {N : List Str} {sc scope : Scope} {own : List (Str × Nat)} (h : gexB N sc scope own = true) : GexS N sc scope own := by
  unfold gexB at h
  simp only [Bool.and_eq_true, Bool.or_eq_true, Bool.not_eq_true', decide_eq_true_eq, decide_eq_false_iff_not, List.all_eq_true] at h
  obtain ⟨⟨⟨⟨h1, h2⟩, h3⟩, h4⟩, h5⟩ := h
  refine ⟨h1, h2, fun y hy => (h5 y hy).1.1.1, h3, h4, fun y hy e => ?_, fun y hy => (h5 y hy).1.2, fun y hy e => ?_⟩
  · rcases (h5 y hy).1.1.2 with (z | z) | z
    · exact absurd e z
    · exact .inl z
    · exact .inr z
  · rcases (h5 y hy).2 with (z | z) | z
    · exact absurd e z
    · exact .inl z
    · exact .inr z
theorem over_gexL {A : Around} {elt : Expr} {gs : List Comprehension} {scope : Scope} {pos : Pos} {it acc : Value} {env : Env} : A.over (.compLoop (.GeneratorExp elt gs scope pos) 0 it acc env) [] = A.deeper env := by
  first
    | rfl
    | (obtain ⟨hd, d, fr, gs', u⟩ := A; simp [Around.over, Around.deeper, marksOver, frameCount, unitsOf, envsOf, guardsOf, pushEnvs, pushGuards, Code.envs, Code.env?, Code.isFrame, Code.guards, Code.isGuard, Code.weight, Code.frames, Code.isCreation, Code.isCaller, Code.cUnits])
theorem over_gexS {A : Around} {elt : Expr} {gs : List Comprehension} {scope : Scope} {pos : Pos} {it acc : Value} {env : Env} : A.over (.compStart (.GeneratorExp elt gs scope pos) 0 it acc env) [] = A.deeper env := by
  first
    | rfl
    | (obtain ⟨hd, d, fr, gs', u⟩ := A; simp [Around.over, Around.deeper, marksOver, frameCount, unitsOf, envsOf, guardsOf, pushEnvs, pushGuards, Code.envs, Code.env?, Code.isFrame, Code.guards, Code.isGuard, Code.weight, Code.frames, Code.isCreation, Code.isCaller, Code.cUnits])
abbrev gexEnv (X : Cx) (scope : Scope) (C : Addr) (code : Value) : Env := genEnv scope (cloFrom X.env.cells scope.names []) C code builtinsNs X.env
/-- the context of the element, the generator begun in the state s (its frame is the next object), resumed under A -/
abbrev gexCx (X : Cx) (A : Around) (s : Shared) (H : Hp) (scope : Scope) (code : Value) (fp : List Addr) (pn : List (Addr × Obj)) : Cx :=
  { X with A := A.deeper (gexEnv X scope s.heap.objs.size code), s_0 := s, H_0 := H, env := gexEnv X scope s.heap.objs.size code, outer := X.stack, stack := gexEnv X scope s.heap.objs.size code :: X.stack, ex := fp, fn := fun _ => false, calm := true, pn := pn, xe := fun _ _ => False }
section
variable {X : Cx} {pins pn : List (Addr × Obj)} {σ : L2.St} {H : Hp} {s s2 : Shared} {fp : List Addr} {own : List (Str × Nat)} {scope : Scope} {code : Value}
theorem gex_start {A : Around} {m : Str → Option Value} (I : Inv X pins σ H s) (hN0 : X.N.Nodup) (L : GexS X.N X.env.scope scope own) (hd : A.handled = none) (hfr : A.frames = some X.stack)
    (hfp : ∀ b ∈ fp, FpOk X pins H b ∧ b < s.heap.objs.size) (hns : s2.heap.Ns s.heap.objs.size m) (kp : ∀ b o, s.heap.get? b = some o → s2.heap.get? b = some o) (hos : s2.os = s.os) (hg : AllBare s2.gens)
    (hpn : ∀ p ∈ pn, s2.heap.get? p.1 = some p.2 ∧ s.heap.objs.size < p.1 ∧ ∀ v, p.2.data ≠ .cell v) :
    Inv (gexCx X A s H scope code fp pn) [] (wipe σ (own.map (·.2))) H s2 := by
  have hfree : ∀ y ∈ scope.names, y.2 = .free → ∃ c, X.env.cells.lookup y.1 = some c := fun y hy e => by
    rcases L.free y hy e with k | k
    · exact I.ok.has _ (.inl k)
    · exact I.ok.has _ (.inr k)
  have cm : ∀ {y c}, (cloFrom X.env.cells scope.names []).lookup y = some c → X.env.cells.lookup y = some c := fun {y c} e => by
    rcases cloFrom_mem (PySem.mem_of_lookup e) with hm | ⟨h1, h2⟩
    · cases hm
    · obtain ⟨c1, hc⟩ := hfree _ h1 rfl
      have hc : X.env.cells.lookup y = some c1 := hc
      have e2 : c = c1 := by
        rw [h2, hc] <;> rfl
      rw [e2]
      exact hc
  have look : ∀ {y}, scope.names.lookup y = some .free → ∃ c, (cloFrom X.env.cells scope.names []).lookup y = some c := fun {y} hl => by
    have hy : (y, NameKind.free) ∈ scope.names := PySem.mem_of_lookup hl
    exact mem_lookup (cloFrom_has (cells := X.env.cells) (acc := []) hy)
  have lt_ : ∀ {y c}, X.env.cells.lookup y = some c → c < s.heap.objs.size := fun {y c} e => by
    obtain ⟨v, z⟩ := I.cell y c e
    exact z.lt
  have nofs : ∀ b, s.heap.objs.size ≤ b → b ∉ frs X.stack := fun b hb z => by
    rcases List.mem_cons.mp (I.stkSub b z) with e | e
    · have h1 := I.lt
      rw [← e] at h1
      exact Nat.lt_irrefl _ (Nat.lt_of_lt_of_le h1 hb)
    · exact I.nofs hb e
  have okX : (gexCx X A s H scope code fp pn).Ok := by
    refine ⟨I.ok.mod, L.kind, I.ok.glob, rfl, Nat.le_refl _, fun y z c e1 e2 => I.ok.inj y z c (cm e1) (cm e2), fun y hy => ?_, fun y c z _ => ?_, fun _ => hd, Around.frames_deeper hfr, .inr ⟨rfl, rfl⟩, fun b hb => ⟨?_, fun y c e z => ?_⟩, I.bs, Nat.le_trans I.ok.bsz I.sz,
      fun b o e hb => ?_, fun b hb z => ?_, I.stack, I.stkFree⟩
    · have hy : scope.names.lookup y = some .cell ∨ scope.names.lookup y = some .free := hy
      rcases hy with hy | hy
      · exact absurd rfl (L.cell _ (PySem.mem_of_lookup hy))
      · exact look hy
    · have z : false = true := z
      cases z
    · exact Nat.ne_of_lt (hfp b hb).2
    · exact (hfp b hb).1.2.2.2.2.1 y c (cm e) z
    · rcases (hfp b hb).1.2.2.2.1 with z | z
      · exact I.ok.noex b o e z
      · exact Nat.lt_irrefl _ (Nat.lt_of_lt_of_le (Nat.lt_of_lt_of_le (Heap.lt_size e) I.ok.bsz) z)
    · rcases List.mem_cons.mp (I.stkSub b z) with e | e
      · exact (hfp b hb).1.2.1 e
      · exact (hfp b hb).1.2.2.1 e
  refine ⟨okX, hos, hg, Un.kept kp, ⟨_, hns, fun i y v e1 e2 e3 => ?_⟩, fun y c e => ?_, I.hok.fresh (Nat.le_refl _), fun y c e => ?_, fun q hq => ?_, I.hok.kept kp, by rw [wipe_length]; exact I.len⟩
  · have e3 : Vis scope y := e3
    have e1 : X.N[i]? = some y := e1
    have ew := wipe_some e2
    rcases e3 with k | k | k
    · rcases L.loc _ (PySem.mem_of_lookup k) rfl with z | z
      · obtain ⟨p, hp, ep⟩ := List.mem_map.mp z
        have e4 := L.ix p hp
        have hN : y ∈ X.N := List.mem_of_getElem? e1
        have ep : p.1 = y := ep
        rw [ep] at e4
        by_cases hi : p.2 = i
        · exact absurd (List.mem_map.mpr ⟨p, hp, hi⟩) ew.2
        · exact absurd (nodup_ix hN0 e4 e1) hi
      · exact absurd (List.mem_of_getElem? e1) z
    · exact absurd rfl (L.cell _ (PySem.mem_of_lookup k))
    · obtain ⟨m', hn, hl⟩ := I.loc
      have hvis : Vis X.env.scope y := (L.free _ (PySem.mem_of_lookup k) rfl).elim (fun k => .inr (.inl k)) (fun k => .inr (.inr k))
      obtain ⟨w', r, q⟩ := hl i y v e1 ew.1 hvis
      obtain ⟨c2, h2⟩ := look k
      refine ⟨w', r, .inr ⟨.inr k, c2, h2, ?_⟩⟩
      have c1 := cm h2
      rcases q with ⟨k', _⟩ | ⟨_, c3, e', z⟩
      · have k' : X.env.scope.names.lookup y = some .local := k'
        rcases L.free _ (PySem.mem_of_lookup k) rfl with k2 | k2 <;> rw [show X.env.scope.names.lookup y = _ from k2] at k' <;> cases k'
      · rw [c1] at e'
        cases e'
        obtain ⟨o, ho, hdt⟩ := z
        exact ⟨o, kp _ _ ho, hdt⟩
  · obtain ⟨w', o, ho, hdt⟩ := I.cell y c (cm e)
    exact ⟨w', o, kp _ _ ho, hdt⟩
  · exact I.freeC y c (cm e)
  · have hq : q ∈ pn := by simpa using hq
    obtain ⟨h1, h2, h3⟩ := hpn q hq
    exact ⟨h1, I.hok.fresh (Nat.le_of_lt h2), Nat.ne_of_gt h2, nofs _ (Nat.le_of_lt h2), h3⟩
end
end
section
open PySem PySem.Spec PyProof.Rows L2 GenW
/-- while the generator sleeps: only what stands at Pr changes -/
structure SleptP (Pr : List Addr) (s s' : Shared) : Prop where
  os : s'.os = s.os
  bare : AllBare s'.gens
  keep : ∀ b o, b ∉ Pr → s.heap.get? b = some o → s'.heap.get? b = some o
  own : ∀ b ∈ Pr, ∃ o, s'.heap.get? b = some o ∧ ∀ v, o.data ≠ .cell v
/-- what the one who made the generator may rely on whenever it sleeps or is through -/
def OutX (P : Program) (w : World) (outer : List Env) (fp : List Addr) (H0 : Hp) (sc : Shared) (a : Addr) (g : Nat) (H : Hp) (s : Shared) : Prop :=
  s.os = sc.os ∧ AllBare s.gens ∧ Un (frs outer) fp H0 H sc.heap s.heap ∧ HOk P w H s.heap ∧ s.heap.IsGen a g ∧ s.heap.NoLimit
def YX (P : Program) (w : World) (outer : List Env) (fp : List Addr) (H0 : Hp) (sc : Shared) (a : Addr) (g : Nat) (Pr : List Addr) (vs : List V) (QY : Nat → Hp → Prop) : Protocol := fun n s₀ v s kap =>
  ∃ j y H, n + 1 + j = sizeLine ∧ vs[j]? = some y ∧ RelV y v ∧ QY j H ∧ OutX P w outer fp H0 sc a g H s ∧ (∀ b ∈ Pr, H b = none ∧ ∀ o, s₀.heap.get? b = some o → s.heap.get? b = some o) ∧ ∀ s', SleptP Pr s s' → kap (.send .none) s'
def PX (P : Program) (w : World) (outer : List Env) (fp : List Addr) (H0 : Hp) (sc : Shared) (a : Addr) (g : Nat) (Pr : List Addr) (vs : List V) (QE : Hp → Prop) : Nat → Shared → Shared → Prop := fun n s₀ s =>
  ∃ H, n + vs.length = sizeLine ∧ QE H ∧ OutX P w outer fp H0 sc a g H s ∧ (∀ b ∈ Pr, H b = none ∧ ∀ o, s₀.heap.get? b = some o → s.heap.get? b = some o)
/-- the reading: items are walked, tests asked, values yielded, which are vs in this order; QY: wanted behind the j-th value, QE: wanted at the end -/
def GxR (g : TG) (tt : TT) (te : TE) (own : List Nat) (vs : List V) (QY : Nat → Hp → Prop) (QE : Hp → Prop) (σ : L2.St) (J : It) (H1 : Hp) : Prop :=
  ∃ W : Nat → Nat → Nat → Hp → Prop, (∃ m, W 0 0 m H1) ∧ ∀ i j m H, W i j m H →
    (J.stop i H ∧ j = vs.length ∧ QE H) ∨ (J.go i H ∧ j < sizeLine ∧ ∃ Nx : Nat → Hp → Prop, (∀ j' H', Nx j' H' → ∃ m', m' < m ∧ W (i + 1) j' m' H') ∧ ∀ x H', J.yld i H x H' → g x (wipe σ own) H' fun σ2 H2 => wipe σ2 own = wipe σ own ∧ tt σ2 H2 fun b H3 =>
      if b = true then te σ2 H3 fun y H4 => vs[j]? = some y ∧ QY j H4 ∧ Nx (j + 1) H4 else Nx j H3)
section
variable {X : Cx} {pins pn : List (Addr × Obj)} {σ : L2.St} {H : Hp} {s s2 : Shared} {fp : List Addr} {own : List (Str × Nat)} {scope : Scope} {code : Value}
/-- woken again -/
theorem gx_woken {A : Around} {s₀ s' : Shared} {Pr : List Addr} {σ' : L2.St} (hPr : ∀ b ∈ Pr, s.heap.objs.size < b ∧ ∃ o, s₀.heap.get? b = some o) (hpP : ∀ p ∈ pn, p.1 ∉ Pr) (hcell : ∀ y c, (cloFrom X.env.cells scope.names []).lookup y = some c → c < s.heap.objs.size)
    (I : Inv (gexCx X A s H scope code fp pn) (pinsAt Pr s₀.heap) σ' H' s2) (z : SleptP Pr s2 s') :
    Inv (gexCx X A s H scope code fp pn) (pinsAt Pr s'.heap) σ' H' s' := by
  have hn : ∀ b ∈ Pr, H' b = none ∧ b ≠ s.heap.objs.size ∧ b ∉ frs X.stack := fun b hb => by
    obtain ⟨o, ho⟩ := (hPr b hb).2
    obtain ⟨_, h2, h3, h4, _⟩ := I.pin (b, o) (List.mem_append_right _ (mem_pinsAt hb ho))
    exact ⟨h2, h3, h4⟩
  have I0 : Inv (gexCx X A s H scope code fp pn) [] σ' H' s2 := I.pins_of fun p hp => absurd hp (by simp)
  obtain ⟨z1, z2, z3, z4⟩ := z
  obtain ⟨hh, g, d, t, o⟩ := s'
  have ho : o = s2.os := z1
  subst ho
  have nt : ∀ b u, H' b = some u → b ∉ Pr := fun b u q hb => by
    rw [(hn b hb).1] at q
    cases q
  have J : Inv (gexCx X A s H scope code fp pn) [] σ' H' { s2 with heap := hh, gens := g, drawn := d, toks := t } := by
    refine I0.step (g' := g) (t' := t) (d' := d) (ch := Pr) (fun b hb => ?_)
      (fun b ob _ _ hc q _ => z3 b ob hc q) (fun b ob _ _ hc q _ => ⟨ob.slots, z3 b ob hc q⟩) (fun _ _ _ _ n => n) (fun b ob hc q => ⟨ob, z3 b ob hc q⟩)
      (fun _ _ q => q) (fun _ _ _ q => q) (fun b ps q => ⟨#[], by rw [q]; simp⟩) (fun m hm => ?_) (fun b u q => ?_) z2
    · refine ⟨.inr (Nat.le_of_lt (hPr b hb).1), Nat.ne_of_gt (hPr b hb).1, fun y c e e2 => ?_, fun p hp => ?_⟩
      · have e3 := hcell y c e
        rw [e2] at e3
        exact Nat.lt_irrefl _ (Nat.lt_trans e3 (hPr b hb).1)
      · have hp : p ∈ pn := by simpa using hp
        intro e
        exact hpP p hp (by rw [e]; exact hb)
    · obtain ⟨ob, es, ep, ho, r⟩ := hm
      exact ⟨ob, es, ep, z3 _ ob (fun hb => (hn _ hb).2.1 rfl) ho, r⟩
    · refine (I0.hok b u q).stay (fun c v hc y => z3 c v ?_ y) (fun _ y => y) fun _ _ y => y
      rcases hc with y | y
      · rw [y]; exact nt b u q
      · exact nt c _ y
  refine J.pins_of fun p hp => ?_
  obtain ⟨hb, e⟩ := of_pinsAt hp
  obtain ⟨q1, q2, q3⟩ := hn p.1 hb
  obtain ⟨o', ho', hd'⟩ := z4 p.1 hb
  rw [e] at ho'
  cases ho'
  exact ⟨e, q1, q2, q3, hd'⟩
end
end
section
open PySem PySem.Spec PyProof.Rows L2 GenW
section
variable {X : Cx} {pins : List (Addr × Obj)} {σ : L2.St} {H : Hp} {s : Shared} {fp : List Addr} {own : List (Str × Nat)} {scope : Scope} {code : Value}
/-- what holds at a generator's stop -/
theorem gx_out {A : Around} {s₀ s2 : Shared} {Pr : List Addr} {σ' : L2.St} {H' : Hp} {a : Addr} {g : Nat} {go : Obj} (hgo : ∀ h : Heap, h.get? a = some go → h.IsGen a g)
    (I : Inv (gexCx X A s H scope code fp [(a, go)]) (pinsAt Pr s₀.heap) σ' H' s2) : OutX X.prog X.w X.stack fp H s a g H' s2 :=
  ⟨I.os, I.bare, I.base, I.hok, hgo _ (I.pin (a, go) (List.mem_append_left _ (List.mem_singleton.mpr rfl))).1, I.nolimit⟩
theorem gx_priv {A : Around} {s₀ s2 : Shared} {Pr : List Addr} {σ' : L2.St} {H' : Hp} {pn : List (Addr × Obj)} (hPr : ∀ b ∈ Pr, ∃ o, s₀.heap.get? b = some o)
    (I : Inv (gexCx X A s H scope code fp pn) (pinsAt Pr s₀.heap) σ' H' s2) : ∀ b ∈ Pr, H' b = none ∧ ∀ o, s₀.heap.get? b = some o → s2.heap.get? b = some o := fun b hb => by
  obtain ⟨o, ho⟩ := hPr b hb
  refine ⟨(I.pin (b, o) (List.mem_append_right _ (mem_pinsAt hb ho))).2.1, fun o' ho' => ?_⟩
  exact (I.pin (b, o') (List.mem_append_right _ (mem_pinsAt hb ho'))).1
theorem seg_gx {A : Around} {tg elt iter : Expr} {ifs : List Expr} {pos : Pos} {it a : Addr} {g : Nat} {go : Obj} {tn : Nat → Heap → Prop} {J : It} {Pr : List Addr} {gt : TG} {tt : TT} {te : TE} {vs : List V} {QY : Nat → Hp → Prop} {QE : Hp → Prop} {W : Nat → Nat → Nat → Hp → Prop}
    (hA : A.handled = none) (T : Turn X.prog X.w X.K tg J fp it tn)
    (hPr : ∀ b ∈ Pr, s.heap.objs.size < b) (hPa : a ∉ Pr) (hPf : ∀ b ∈ Pr, b ∉ fp) (hfp : ∀ b ∈ fp, FpOk X pins H b ∧ b < s.heap.objs.size) (haf : a ∉ fp)
    (hcell : ∀ y c, (cloFrom X.env.cells scope.names []).lookup y = some c → c < s.heap.objs.size ∧ c ∉ fp) (hgo : ∀ h : Heap, h.get? a = some go → h.IsGen a g) (hL : s.heap.objs.size < a) (hfs : ∀ b ∈ fp, b ∉ frs X.stack)
    (hco : scope.isCoroutine = false)
    (pg : PG (gexCx X A s H scope code fp [(a, go)]) tg gt) (pt : PTs (gexCx X A s H scope code fp [(a, go)]) ifs tt) (pe : PE (gexCx X A s H scope code fp [(a, go)]) elt te)
    (turn : ∀ i j m H, W i j m H → (J.stop i H ∧ j = vs.length ∧ QE H) ∨ (J.go i H ∧ j < sizeLine ∧ ∃ Nx : Nat → Hp → Prop, (∀ j' H', Nx j' H' → ∃ m', m' < m ∧ W (i + 1) j' m' H') ∧ ∀ x H', J.yld i H x H' → gt x (wipe σ (own.map (·.2))) H' fun σ2 H2 => wipe σ2 (own.map (·.2)) = wipe σ (own.map (·.2)) ∧ tt σ2 H2 fun b H3 =>
      if b = true then te σ2 H3 fun y H4 => vs[j]? = some y ∧ QY j H4 ∧ Nx (j + 1) H4 else Nx j H3)) :
    ∀ (m i j n : Nat) (s₀ s1 : Shared) (H1 : Hp), n + j = sizeLine → W i j m H1 → (∀ b ∈ Pr, ∃ o, s₀.heap.get? b = some o) → Inv (gexCx X A s H scope code fp [(a, go)]) (pinsAt Pr s₀.heap) (wipe σ (own.map (·.2))) H1 s1 → tn i s1.heap → (∀ b ∈ fp, H1 b = none) →
      Seg (model X.prog X.w) A (fun n s₀ r s1 => r = .ok .next ∧ PX X.prog X.w X.stack fp H s a g Pr vs QE n s₀ s1) (YX X.prog X.w X.stack fp H s a g Pr vs QY) n s₀
        (.compLoop (.GeneratorExp elt [⟨tg, iter, ifs, 0⟩] scope pos) 0 (.ref it) .none (gexEnv X scope s.heap.objs.size code))
        ((model X.prog X.w).den (.compLoop (.GeneratorExp elt [⟨tg, iter, ifs, 0⟩] scope pos) 0 (.ref it) .none (gexEnv X scope s.heap.objs.size code))) [] s1 := by
  have stat : ∀ {σ' : L2.St} {H' : Hp} {s' s₀ : Shared}, (∀ b ∈ Pr, ∃ o, s₀.heap.get? b = some o) → Inv (gexCx X A s H scope code fp [(a, go)]) (pinsAt Pr s₀.heap) σ' H' s' → (∀ b ∈ fp, H' b = none) → ∀ b ∈ fp, FpOk (gexCx X A s H scope code fp [(a, go)]) (pinsAt Pr s₀.heap) H' b := fun {σ' H' s' s₀} _ I' hn b hb =>
    ⟨hn b hb, (I'.ok.exf b hb).1, hfs b hb, .inl hb, fun y c e => (I'.ok.exf b hb).2 y c e, fun p hp => by
      rcases List.mem_append.mp hp with z | z
      · have z : p ∈ [(a, go)] := z
        rw [List.mem_singleton.mp z]
        intro e
        exact haf (by rw [show a = b from e]; exact hb)
      · intro e
        exact hPf p.1 (of_pinsAt z).1 (by rw [e]; exact hb)⟩
  intro m
  induction m using Nat.strongRecOn with
  | ind m ih =>
    intro i j n s₀ s1 H1 hn w hP I st hf
    show Seg _ A _ _ _ s₀ _ ((compTurn (.GeneratorExp elt [⟨tg, iter, ifs, 0⟩] scope pos) 0 (.ref it) .none (gexEnv X scope s.heap.objs.size code)).onRaise (leaving (gexEnv X scope s.heap.objs.size code))) [] s1
    rw [compTurn_gen, Sem.onRaise_eq_wrap]
    refine seg_bind_wrap (wpAny_standAt ?_)
    rcases turn i j m H1 w with ⟨stop, hj, qe⟩ | ⟨go', hlt, Nx, hNx, step⟩
    · refine seg_bind_wrap ?_
      rw [over_gexL]
      refine thnF (T.done (gexCx X A s H scope code fp [(a, go)]) rfl rfl rfl rfl i _ s1 _ H1 (fun _ _ => False) I (stat hP I hf) st stop) fun r s6 ⟨hr, I6⟩ => ?_
      subst hr
      subst hj
      exact seg_end (.ok .next) ⟨rfl, H1, hn, qe, gx_out hgo I6, gx_priv hP I6⟩
    · refine seg_bind_wrap ?_
      rw [over_gexL]
      refine thnF (T.item (gexCx X A s H scope code fp [(a, go)]) rfl rfl rfl rfl i _ s1 _ H1 (fun _ _ => False) I (stat hP I hf) st go') fun r s6 ⟨u, hr, h6⟩ => ?_
      subst hr
      refine seg_bind_wrap ?_
      rw [over_gexL]
      refine thnF h6 fun _ s7 ⟨x, H7, I7, r7, y7, st7, n7⟩ => ?_
      have I7' := I7.pinned (stat hP I7 n7) (T.obj _ _ st7)
      refine seg_bind_wrap ?_
      rw [over_gexL]
      refine thnF (pg.run _ s7 _ H7 x u _ I7' r7 (step x H7 y7)) fun _ s8 ⟨σ8, H8, I8, hw8, q8⟩ => ?_
      refine seg_bind_wrap ?_
      rw [over_gexL]
      refine thnF (pt.run _ s8 σ8 H8 _ I8 q8) fun b s9 ⟨H9, I9, q9⟩ => ?_
      have back : ∀ {s' : Shared} {H' : Hp} {σ' : L2.St}, wipe σ' (own.map (·.2)) = wipe σ (own.map (·.2)) → Inv (gexCx X A s H scope code fp [(a, go)]) (pinsAt Pr s₀.heap ++ pinsAt fp s7.heap) σ' H' s' →
          Inv (gexCx X A s H scope code fp [(a, go)]) (pinsAt Pr s₀.heap) (wipe σ (own.map (·.2))) H' s' ∧ tn (i + 1) s'.heap ∧ ∀ b ∈ fp, H' b = none := fun {s' H' σ'} hw I' => by
        have pin' : ∀ b ∈ fp, ∀ o, s7.heap.get? b = some o → s'.heap.get? b = some o ∧ H' b = none := fun b hb o e =>
          let z := I'.pin (b, o) (List.mem_append_right _ (List.mem_append_right _ (mem_pinsAt hb e)))
          ⟨z.1, z.2.1⟩
        have hl : (wipe σ (own.map (·.2))).length = σ'.length := by rw [← hw, wipe_length]
        refine ⟨I'.unpinned.weak hl (fun k v e => ?_), T.keep _ _ _ st7 fun b hb o e => (pin' b hb o e).1, fun b hb => ?_⟩
        · rw [← hw] at e
          exact (wipe_some e).1
        · obtain ⟨o, e, _⟩ := T.obj _ _ st7 b hb
          exact (pin' b hb o e).2
      cases b with
      | false =>
        simp only [Bool.false_eq_true, if_false] at q9 ⊢
        obtain ⟨m', hm, w'⟩ := hNx _ _ q9
        obtain ⟨b1, b2, b3⟩ := back hw8 I9
        exact seg_again rfl (ih m' hm (i + 1) j n s₀ s9 H9 hn w' hP b1 b2 b3)
      | true =>
        simp only [if_true] at q9 ⊢
        obtain ⟨n, rfl⟩ : ∃ k, n = k + 1 := ⟨n - 1, by omega⟩
        have hy : ∀ v, yieldOut (gexEnv X scope s.heap.objs.size code) v = yieldValue v := fun v => by
          have : (gexEnv X scope s.heap.objs.size code).scope.isCoroutine = false := hco
          simp only [yieldOut, this, Bool.false_eq_true, if_false]
        simp only [hy]
        rw [Sem.bind_eq_wrap', Sem.bind_eq_wrap', Sem.wrap_wrap, Sem.wrap_wrap]
        refine seg_wrap ?_
        rw [over_gexL]
        refine thnF (pe.run _ s9 σ8 H9 _ I9 q9) fun v s10 ⟨y, H10, I10, r10, hvs, hqy, hnx⟩ => ?_
        obtain ⟨m', hm, w'⟩ := hNx _ _ hnx
        obtain ⟨b1, b2, b3⟩ := back hw8 I10
        refine seg_at (seg_yield rfl rfl rfl ⟨j, y, H10, by omega, hvs, r10, hqy, gx_out hgo b1, gx_priv hP b1, fun s'' z => ?_⟩)
        have b4 := gx_woken (fun b hb => ⟨hPr b hb, hP b hb⟩) (fun p hp => by rw [List.mem_singleton.mp hp]; exact hPa) (fun y c e => (hcell y c e).1) b1 z
        refine seg_again rfl (ih m' hm (i + 1) (j + 1) n s'' s'' H10 (by omega) w' (fun b hb => let ⟨o, ho, _⟩ := z.own b hb; ⟨o, ho⟩) b4 (T.keep _ _ _ b2 fun b hb o e => z.keep b o (fun hp => hPf b hp hb) e) b3)
end
end
section
open PySem PySem.Spec PyProof.Rows L2 GenW
/-- the list at S holds ys -/
def HistAt (S : Addr) (ys : List V) (s : Shared) : Prop := ∃ acc c, s.heap.get? S = some { cls := .type "list", dict := none, data := .seq acc c, slots := #[] } ∧ Vals ys acc.toList
def YH (P : Program) (w : World) (outer : List Env) (fp : List Addr) (H0 : Hp) (sc : Shared) (a : Addr) (g : Nat) (S : Addr) : Protocol := fun n s₀ v s kap =>
  ∃ ys y H, n + ys.length = sizeLine ∧ ys.length < sizeLine ∧ HistAt S ys s₀ ∧ RelV y v ∧ OutX P w outer fp H0 sc a g H s ∧ (∀ b ∈ [S], H b = none ∧ ∀ o, s₀.heap.get? b = some o → s.heap.get? b = some o) ∧ ∀ s', SleptP [S] s s' → HistAt S (ys ++ [y]) s' → kap (.send .none) s'
def PH (P : Program) (w : World) (outer : List Env) (fp : List Addr) (H0 : Hp) (sc : Shared) (a : Addr) (g : Nat) (S : Addr) (QE : List V → Hp → Prop) : Nat → Shared → Shared → Prop := fun n s₀ s =>
  ∃ ys H, n + ys.length = sizeLine + 1 ∧ HistAt S ys s₀ ∧ QE ys H ∧ OutX P w outer fp H0 sc a g H s ∧ (∀ b ∈ [S], H b = none ∧ ∀ o, s₀.heap.get? b = some o → s.heap.get? b = some o)
/-- the reading: items are walked, tests asked, values yielded; QE: wanted at the end, of all that was yielded -/
def GxH (g : TG) (tt : TT) (te : TE) (own : List Nat) (QE : List V → Hp → Prop) (σ : L2.St) (J : It) (H1 : Hp) : Prop :=
  ∃ W : Nat → List V → Nat → Hp → Prop, (∃ m, W 0 [] m H1) ∧ ∀ i ys m H, W i ys m H →
    (J.stop i H ∧ QE ys H) ∨ (J.go i H ∧ ys.length < sizeLine ∧ ∃ Nx : List V → Hp → Prop, (∀ ys' H', Nx ys' H' → ∃ m', m' < m ∧ W (i + 1) ys' m' H') ∧ ∀ x H', J.yld i H x H' → g x (wipe σ own) H' fun σ2 H2 => wipe σ2 own = wipe σ own ∧ tt σ2 H2 fun b H3 =>
      if b = true then te σ2 H3 fun y H4 => Nx (ys ++ [y]) H4 else Nx ys H3)
theorem HistAt.some {S : Addr} {ys : List V} {s : Shared} (h : HistAt S ys s) : ∀ b ∈ [S], ∃ o, s.heap.get? b = some o := fun b hb => by
  obtain ⟨acc, c, e, _⟩ := h
  rw [List.mem_singleton.mp hb]
  exact ⟨_, e⟩
section
variable {X : Cx} {pins : List (Addr × Obj)} {σ : L2.St} {H : Hp} {s : Shared} {fp : List Addr} {own : List (Str × Nat)} {scope : Scope} {code : Value}
theorem seg_gxH {A : Around} {tg elt iter : Expr} {ifs : List Expr} {pos : Pos} {it a : Addr} {g : Nat} {go : Obj} {tn : Nat → Heap → Prop} {J : It} {S : Addr} {gt : TG} {tt : TT} {te : TE} {QE : List V → Hp → Prop} {W : Nat → List V → Nat → Hp → Prop}
    (hA : A.handled = none) (T : Turn X.prog X.w X.K tg J fp it tn)
    (hPr : ∀ b ∈ [S], s.heap.objs.size < b) (hPa : a ∉ [S]) (hPf : ∀ b ∈ [S], b ∉ fp) (hfp : ∀ b ∈ fp, FpOk X pins H b ∧ b < s.heap.objs.size) (haf : a ∉ fp)
    (hcell : ∀ y c, (cloFrom X.env.cells scope.names []).lookup y = some c → c < s.heap.objs.size ∧ c ∉ fp) (hgo : ∀ h : Heap, h.get? a = some go → h.IsGen a g) (hL : s.heap.objs.size < a) (hfs : ∀ b ∈ fp, b ∉ frs X.stack)
    (hco : scope.isCoroutine = false)
    (pg : PG (gexCx X A s H scope code fp [(a, go)]) tg gt) (pt : PTs (gexCx X A s H scope code fp [(a, go)]) ifs tt) (pe : PE (gexCx X A s H scope code fp [(a, go)]) elt te)
    (turn : ∀ i ys m H, W i ys m H → (J.stop i H ∧ QE ys H) ∨ (J.go i H ∧ ys.length < sizeLine ∧ ∃ Nx : List V → Hp → Prop, (∀ ys' H', Nx ys' H' → ∃ m', m' < m ∧ W (i + 1) ys' m' H') ∧ ∀ x H', J.yld i H x H' → gt x (wipe σ (own.map (·.2))) H' fun σ2 H2 => wipe σ2 (own.map (·.2)) = wipe σ (own.map (·.2)) ∧ tt σ2 H2 fun b H3 =>
      if b = true then te σ2 H3 fun y H4 => Nx (ys ++ [y]) H4 else Nx ys H3)) :
    ∀ (m i : Nat) (ys : List V) (n : Nat) (s₀ s1 : Shared) (H1 : Hp), n + ys.length = sizeLine + 1 → W i ys m H1 → HistAt S ys s₀ → Inv (gexCx X A s H scope code fp [(a, go)]) (pinsAt [S] s₀.heap) (wipe σ (own.map (·.2))) H1 s1 → tn i s1.heap → (∀ b ∈ fp, H1 b = none) →
      Seg (model X.prog X.w) A (fun n s₀ r s1 => r = .ok .next ∧ PH X.prog X.w X.stack fp H s a g S QE n s₀ s1) (YH X.prog X.w X.stack fp H s a g S) n s₀
        (.compLoop (.GeneratorExp elt [⟨tg, iter, ifs, 0⟩] scope pos) 0 (.ref it) .none (gexEnv X scope s.heap.objs.size code))
        ((model X.prog X.w).den (.compLoop (.GeneratorExp elt [⟨tg, iter, ifs, 0⟩] scope pos) 0 (.ref it) .none (gexEnv X scope s.heap.objs.size code))) [] s1 := by
  have stat : ∀ {σ' : L2.St} {H' : Hp} {s' s₀ : Shared}, (∀ b ∈ [S], ∃ o, s₀.heap.get? b = some o) → Inv (gexCx X A s H scope code fp [(a, go)]) (pinsAt [S] s₀.heap) σ' H' s' → (∀ b ∈ fp, H' b = none) → ∀ b ∈ fp, FpOk (gexCx X A s H scope code fp [(a, go)]) (pinsAt [S] s₀.heap) H' b := fun {σ' H' s' s₀} _ I' hn b hb =>
    ⟨hn b hb, (I'.ok.exf b hb).1, hfs b hb, .inl hb, fun y c e => (I'.ok.exf b hb).2 y c e, fun p hp => by
      rcases List.mem_append.mp hp with z | z
      · have z : p ∈ [(a, go)] := z
        rw [List.mem_singleton.mp z]
        intro e
        exact haf (by rw [show a = b from e]; exact hb)
      · intro e
        exact hPf p.1 (of_pinsAt z).1 (by rw [e]; exact hb)⟩
  intro m
  induction m using Nat.strongRecOn with
  | ind m ih =>
    intro i ys n s₀ s1 H1 hn w hh I st hf
    have hP := hh.some
    show Seg _ A _ _ _ s₀ _ ((compTurn (.GeneratorExp elt [⟨tg, iter, ifs, 0⟩] scope pos) 0 (.ref it) .none (gexEnv X scope s.heap.objs.size code)).onRaise (leaving (gexEnv X scope s.heap.objs.size code))) [] s1
    rw [compTurn_gen, Sem.onRaise_eq_wrap]
    refine seg_bind_wrap (wpAny_standAt ?_)
    rcases turn i ys m H1 w with ⟨stop, qe⟩ | ⟨go', hlt, Nx, hNx, step⟩
    · refine seg_bind_wrap ?_
      rw [over_gexL]
      refine thnF (T.done (gexCx X A s H scope code fp [(a, go)]) rfl rfl rfl rfl i _ s1 _ H1 (fun _ _ => False) I (stat hP I hf) st stop) fun r s6 ⟨hr, I6⟩ => ?_
      subst hr
      exact seg_end (.ok .next) ⟨rfl, ys, H1, hn, hh, qe, gx_out hgo I6, gx_priv hP I6⟩
    · refine seg_bind_wrap ?_
      rw [over_gexL]
      refine thnF (T.item (gexCx X A s H scope code fp [(a, go)]) rfl rfl rfl rfl i _ s1 _ H1 (fun _ _ => False) I (stat hP I hf) st go') fun r s6 ⟨u, hr, h6⟩ => ?_
      subst hr
      refine seg_bind_wrap ?_
      rw [over_gexL]
      refine thnF h6 fun _ s7 ⟨x, H7, I7, r7, y7, st7, n7⟩ => ?_
      have I7' := I7.pinned (stat hP I7 n7) (T.obj _ _ st7)
      refine seg_bind_wrap ?_
      rw [over_gexL]
      refine thnF (pg.run _ s7 _ H7 x u _ I7' r7 (step x H7 y7)) fun _ s8 ⟨σ8, H8, I8, hw8, q8⟩ => ?_
      refine seg_bind_wrap ?_
      rw [over_gexL]
      refine thnF (pt.run _ s8 σ8 H8 _ I8 q8) fun b s9 ⟨H9, I9, q9⟩ => ?_
      have back : ∀ {s' : Shared} {H' : Hp} {σ' : L2.St}, wipe σ' (own.map (·.2)) = wipe σ (own.map (·.2)) → Inv (gexCx X A s H scope code fp [(a, go)]) (pinsAt [S] s₀.heap ++ pinsAt fp s7.heap) σ' H' s' →
          Inv (gexCx X A s H scope code fp [(a, go)]) (pinsAt [S] s₀.heap) (wipe σ (own.map (·.2))) H' s' ∧ tn (i + 1) s'.heap ∧ ∀ b ∈ fp, H' b = none := fun {s' H' σ'} hw I' => by
        have pin' : ∀ b ∈ fp, ∀ o, s7.heap.get? b = some o → s'.heap.get? b = some o ∧ H' b = none := fun b hb o e =>
          let z := I'.pin (b, o) (List.mem_append_right _ (List.mem_append_right _ (mem_pinsAt hb e)))
          ⟨z.1, z.2.1⟩
        have hl : (wipe σ (own.map (·.2))).length = σ'.length := by rw [← hw, wipe_length]
        refine ⟨I'.unpinned.weak hl (fun k v e => ?_), T.keep _ _ _ st7 fun b hb o e => (pin' b hb o e).1, fun b hb => ?_⟩
        · rw [← hw] at e
          exact (wipe_some e).1
        · obtain ⟨o, e, _⟩ := T.obj _ _ st7 b hb
          exact (pin' b hb o e).2
      cases b with
      | false =>
        simp only [Bool.false_eq_true, if_false] at q9 ⊢
        obtain ⟨m', hm, w'⟩ := hNx _ _ q9
        obtain ⟨b1, b2, b3⟩ := back hw8 I9
        exact seg_again rfl (ih m' hm (i + 1) ys n s₀ s9 H9 hn w' hh b1 b2 b3)
      | true =>
        simp only [if_true] at q9 ⊢
        obtain ⟨n, rfl⟩ : ∃ k, n = k + 1 := ⟨n - 1, by omega⟩
        have hy : ∀ v, yieldOut (gexEnv X scope s.heap.objs.size code) v = yieldValue v := fun v => by
          have : (gexEnv X scope s.heap.objs.size code).scope.isCoroutine = false := hco
          simp only [yieldOut, this, Bool.false_eq_true, if_false]
        simp only [hy]
        rw [Sem.bind_eq_wrap', Sem.bind_eq_wrap', Sem.wrap_wrap, Sem.wrap_wrap]
        refine seg_wrap ?_
        rw [over_gexL]
        refine thnF (pe.run _ s9 σ8 H9 _ I9 q9) fun v s10 ⟨y, H10, I10, r10, hnx⟩ => ?_
        obtain ⟨m', hm, w'⟩ := hNx _ _ hnx
        obtain ⟨b1, b2, b3⟩ := back hw8 I10
        refine seg_at (seg_yield rfl rfl rfl ⟨ys, y, H10, by omega, hlt, hh, r10, gx_out hgo b1, gx_priv hP b1, fun s'' z hz => ?_⟩)
        have b4 := gx_woken (fun b hb => ⟨hPr b hb, hP b hb⟩) (fun p hp => by rw [List.mem_singleton.mp hp]; exact hPa) (fun y c e => (hcell y c e).1) b1 z
        refine seg_again rfl (ih m' hm (i + 1) (ys ++ [y]) n s'' s'' H10 (by rw [List.length_append]; show n + (ys.length + 1) = sizeLine + 1; omega) w' hz b4 (T.keep _ _ _ b2 fun b hb o e => z.keep b o (fun hp => hPf b hp hb) e) b3)
end
end
section
open PySem PySem.Spec PyProof.Rows L2 GenW
section
variable {X : Cx} {A : Around} {env : Env} {elt tg iter : Expr} {ifs : List Expr} {scope : Scope} {pos : Pos} {it : Addr}
/-- the generator's first lines -/
theorem seg_gxStart {J : It} {fp : List Addr} {tn : Nat → Heap → Prop} {R : GenEnd} {Y : Protocol} {n : Nat} {s₀ s : Shared} (T : Turn X.prog X.w X.K tg J fp it tn) (st : tn 0 s.heap)
    (loop : Seg (model X.prog X.w) A R Y n s₀ (.compLoop (.GeneratorExp elt [⟨tg, iter, ifs, 0⟩] scope pos) 0 (.ref it) .none env)
      ((model X.prog X.w).den (.compLoop (.GeneratorExp elt [⟨tg, iter, ifs, 0⟩] scope pos) 0 (.ref it) .none env)) [] s) :
    Seg (model X.prog X.w) A R Y n s₀ (.compStart (.GeneratorExp elt [⟨tg, iter, ifs, 0⟩] scope pos) 0 (.ref it) .none env)
      ((model X.prog X.w).den (.compStart (.GeneratorExp elt [⟨tg, iter, ifs, 0⟩] scope pos) 0 (.ref it) .none env)) [] s := by
  show Seg _ A _ _ _ s₀ _ ((compStart (.GeneratorExp elt [⟨tg, iter, ifs, 0⟩] scope pos) 0 (.ref it) .none env).onRaise (leaving env)) [] s
  unfold compStart
  rw [Sem.onRaise_eq_wrap]
  show Seg _ A _ _ _ s₀ _ ((ask >>= _).wrap _ _ _ _) [] s
  refine seg_bind_wrap (wpAny_askSetting ?_)
  split
  · exact seg_again rfl loop
  · first
      | exact seg_bind_wrap (wpAny_rule (seg_bind_wrap (wpAny_standAt (seg_bind_wrap (T.self _ 0 s _ _ st (seg_again rfl loop))))))
      | (refine seg_bind_wrap (wpAny_rule ?_); show Seg _ A _ _ _ s₀ _ ((standAt iter.pos >>= _).wrap _ _ _ _) [] s; exact seg_bind_wrap (wpAny_standAt (seg_bind_wrap (T.self _ 0 s _ _ st (seg_again rfl loop)))))
end
/-- a generator that sleeps ahead of its j-th value: its state in the table goes on so -/
def GxAt (P : Program) (w : World) (B : Around) (outer : List Env) (fp : List Addr) (H0 : Hp) (sc : Shared) (a : Addr) (g : Nat) (Pr : List Addr) (vs : List V) (QY : Nat → Hp → Prop) (QE : Hp → Prop) (n : Nat) (s : Shared) : Prop :=
  s.heap.IsGen a g ∧ s.heap.NoLimit ∧ ∃ gs, s.gens[g]? = some gs ∧ gs.Goes (model P w) B (fun n s₀ r s1 => r = .ok .next ∧ PX P w outer fp H0 sc a g Pr vs QE n s₀ s1) (YX P w outer fp H0 sc a g Pr vs QY) n (.send .none) (s.setGen g .running)
section
variable {P : Program} {w : World} {A : Around} {E : Value → Shared → Prop} {outer : List Env} {fp : List Addr} {H0 : Hp} {sc s : Shared} {a : Addr} {g : Nat} {Pr : List Addr} {vs : List V} {QY : Nat → Hp → Prop} {QE : Hp → Prop}
/-- the next value, or the end -/
theorem next_gx {n j : Nat} {Q : Option Value → Shared → Prop} (hPr : ∀ b ∈ Pr, ∃ o, s.heap.get? b = some o ∧ ∀ v, o.data ≠ .cell v) (hh : A.handled = none) (hroom : A.depth < recursionLimit) (hnj : n + j = sizeLine)
    (h : GxAt P w A.in1 outer fp H0 sc a g Pr vs QY QE n s)
    (hY : ∀ v y H s1 gs', vs[j]? = some y → RelV y v → QY j H → OutX P w outer fp H0 sc a g H s1 → (∀ b ∈ Pr, H b = none ∧ ∀ o, s.heap.get? b = some o → s1.heap.get? b = some o) → 0 < n → gs'.bare = true →
      (∀ s', SleptP Pr s1 s' → g < s'.gens.size → s'.heap.IsGen a g → s'.heap.NoLimit → s'.gens[g]? = some gs' → GxAt P w A.in1 outer fp H0 sc a g Pr vs QY QE (n - 1) s') → Q (some v) (s1.setGen g gs'))
    (hE : ∀ H s1 h', j = vs.length → QE H → OutX P w outer fp H0 sc a g H s1 → (∀ b ∈ Pr, H b = none ∧ ∀ o, s.heap.get? b = some o → s1.heap.get? b = some o) → (∀ b o, s1.heap.get? b = some o → h'.get? b = some o) → Q none { s1.setGen g .finished with heap := h' }) :
    wpAny (model P w) A (pyNext (.ref a)) Q E s := by
  obtain ⟨hg, hl, gs, hgs, hgo⟩ := h
  refine wpAny_pyNext_genexpQ (P := PX P w outer fp H0 sc a g Pr vs QE) hh hl hroom hg hgs hgo (fun v s₁ gs' hb hv => ?_) (fun s₁ hp h' hk => ?_)
  · obtain ⟨j', y, H, hn, hvs, rv, hq, ho, hpr, hk⟩ := hv
    cases n with
    | zero =>
      exfalso
      have hsl : SleptP Pr s₁ s₁ := by
        refine ⟨rfl, ho.2.1, fun _ _ _ e => e, fun b hb => ?_⟩
        obtain ⟨o, ho', hd⟩ := hPr b hb
        exact ⟨o, (hpr b hb).2 o ho', hd⟩
      exact hk s₁ hsl
    | succ m =>
      have ej : j' = j := by omega
      subst ej
      refine hY v y H s₁ gs' hvs rv hq ho hpr (by omega) hb fun s' z hgl hg' hl' hgs' => ?_
      refine ⟨hg', hl', gs', hgs', ?_⟩
      refine hk (s'.setGen g .running) ⟨z.os, ?_, z.keep, z.own⟩
      exact allBare_setGen z.bare rfl
  · obtain ⟨H, hn, hq, ho, hpr⟩ := hp
    exact hE H s₁ h' (by omega) hq ho hpr hk
end
end
section
open PySem PySem.Spec PyProof.Rows L2 GenW
/-- a generator that sleeps, what it has yielded standing in the list at S -/
def GxAtH (P : Program) (w : World) (B : Around) (outer : List Env) (fp : List Addr) (H0 : Hp) (sc : Shared) (a : Addr) (g : Nat) (S : Addr) (QE : List V → Hp → Prop) (n : Nat) (s : Shared) : Prop :=
  s.heap.IsGen a g ∧ s.heap.NoLimit ∧ ∃ gs, s.gens[g]? = some gs ∧ gs.Goes (model P w) B (fun n s₀ r s1 => r = .ok .next ∧ PH P w outer fp H0 sc a g S QE n s₀ s1) (YH P w outer fp H0 sc a g S) n (.send .none) (s.setGen g .running)
section
variable {P : Program} {w : World} {A : Around} {E : Value → Shared → Prop} {outer : List Env} {fp : List Addr} {H0 : Hp} {sc s : Shared} {a : Addr} {g : Nat} {S : Addr} {QE : List V → Hp → Prop}
/-- the next value, or the end -/
theorem next_gxH {n : Nat} {Q : Option Value → Shared → Prop} (hh : A.handled = none) (hroom : A.depth < recursionLimit) (h0 : 0 < n)
    (h : GxAtH P w A.in1 outer fp H0 sc a g S QE n s)
    (hY : ∀ ys v y H s1 gs', n + ys.length = sizeLine + 1 → ys.length < sizeLine → HistAt S ys s → RelV y v → OutX P w outer fp H0 sc a g H s1 → H S = none → (∀ o, s.heap.get? S = some o → s1.heap.get? S = some o) → gs'.bare = true →
      (∀ s', SleptP [S] s1 s' → HistAt S (ys ++ [y]) s' → g < s'.gens.size → s'.heap.IsGen a g → s'.heap.NoLimit → s'.gens[g]? = some gs' → GxAtH P w A.in1 outer fp H0 sc a g S QE (n - 1) s') → Q (some v) (s1.setGen g gs'))
    (hE : ∀ ys H s1 h', n + ys.length = sizeLine + 1 → HistAt S ys s → QE ys H → OutX P w outer fp H0 sc a g H s1 → H S = none → (∀ o, s.heap.get? S = some o → s1.heap.get? S = some o) → (∀ b o, s1.heap.get? b = some o → h'.get? b = some o) → Q none { s1.setGen g .finished with heap := h' }) :
    wpAny (model P w) A (pyNext (.ref a)) Q E s := by
  obtain ⟨hg, hl, gs, hgs, hgo⟩ := h
  obtain ⟨m, rfl⟩ : ∃ m, n = m + 1 := ⟨n - 1, by omega⟩
  refine wpAny_pyNext_genexpQ (P := PH P w outer fp H0 sc a g S QE) hh hl hroom hg hgs hgo (fun v s₁ gs' hb hv => ?_) (fun s₁ hp h' hk => ?_)
  · obtain ⟨ys, y, H, hn, hlt, hist, rv, ho, hpr, hk⟩ := hv
    obtain ⟨p1, p2⟩ := hpr S (List.mem_singleton.mpr rfl)
    refine hY ys v y H s₁ gs' (by omega) hlt hist rv ho p1 p2 hb fun s' z hz hgl hg' hl' hgs' => ?_
    exact ⟨hg', hl', gs', hgs', hk (s'.setGen g .running) ⟨z.os, allBare_setGen z.bare rfl, z.keep, z.own⟩ hz⟩
  · obtain ⟨ys, H, hn, hist, hq, ho, hpr⟩ := hp
    obtain ⟨p1, p2⟩ := hpr S (List.mem_singleton.mpr rfl)
    exact hE ys H s₁ h' hn hist hq ho p1 p2 hk
end
end
section
open PySem PySem.Spec PyProof.Rows L2 GenW
/-- a generator that has not begun, made at s4 (H2: what is held there): it sleeps in s5 -/
def GxMade (X : Cx) (pins : List (Addr × Obj)) (σ : L2.St) (k : Nat) (vs : List V) (QY : Nat → Hp → Prop) (QE : Hp → Prop) (H2 : Hp) (u : Value) (s5 : Shared) : Prop :=
  ∃ (s4 : Shared) (fp : List Addr) (a : Addr) (g : Nat) (c : Code), u = .ref a ∧ Inv X pins σ H2 s4 ∧ (∀ b ∈ fp, FpOk X pins H2 b) ∧ s4.heap.objs.size < a ∧ a < s5.heap.objs.size ∧ s5.heap.IsGen a g ∧ s5.heap.NoLimit ∧ s5.gens[g]? = some (.fresh c) ∧ s5.os = s4.os ∧ AllBare s5.gens ∧
    (∀ b o, s4.heap.get? b = some o → s5.heap.get? b = some o) ∧
    ∀ (A : Around) (Pr : List Addr) (s2 : Shared), (∀ env, Room k (A.deeper env)) → A.frames = some X.stack → A.handled = none → (∀ b ∈ Pr, s5.heap.objs.size ≤ b ∧ ∃ o, s2.heap.get? b = some o ∧ ∀ v, o.data ≠ .cell v) → (∀ b o, s5.heap.get? b = some o → s2.heap.get? b = some o) → s2.os = s4.os → AllBare s2.gens →
      Seg (model X.prog X.w) A (fun n s₀ r s1 => r = .ok .next ∧ PX X.prog X.w X.stack fp H2 s4 a g Pr vs QE n s₀ s1) (YX X.prog X.w X.stack fp H2 s4 a g Pr vs QY) sizeLine s2 c ((model X.prog X.w).den c) [] s2
section
variable {X : Cx} {pins : List (Addr × Obj)} {σ : L2.St} {H : Hp} {s : Shared} {own : List (Str × Nat)} {scope : Scope}
theorem gx_made {c P : Addr} {elt tg iter : Expr} {ifs : List Expr} {gpos : Pos} {wi : TI} {gt : TG} {tt : TT} {te : TE} {k : Nat} {vs : List V} {QY : Hp → Nat → Hp → Prop} {QE : Hp → Hp → Prop} {Q' : Value → Shared → Prop}
    (hN : X.N.Nodup) (hr : Room k X.A) (TB : GxR.TabB X.base X.mg c P) (hcode : X.env.code = .ref c) (L : GexS X.N X.env.scope scope own) (hi : PI X tg iter wi)
    (hg : ∀ (A : Around) (s : Shared) (H : Hp) (code : Value) (fp : List Addr) (pn : List (Addr × Obj)), PG (gexCx X A s H scope code fp pn) tg gt)
    (ht : ∀ (A : Around) (s : Shared) (H : Hp) (code : Value) (fp : List Addr) (pn : List (Addr × Obj)), Room k (A.deeper (gexEnv X scope s.heap.objs.size code)) → PTs (gexCx X A s H scope code fp pn) ifs tt)
    (he : ∀ (A : Around) (s : Shared) (H : Hp) (code : Value) (fp : List Addr) (pn : List (Addr × Obj)), Room k (A.deeper (gexEnv X scope s.heap.objs.size code)) → PE (gexCx X A s H scope code fp pn) elt te)
    (hs : ∀ v, genFold iter X.env v = pure v) (I : Inv X pins σ H s)
    (h : wi σ H fun J H1 => GxR.TabG H1 P ∧ ∀ H2, GxR.Tabbed P H1 H2 → GxR gt tt te (own.map (·.2)) vs (QY H2) (QE H2) σ J H2)
    (hQ : ∀ H2 u s5, GxMade X pins σ k vs (QY H2) (QE H2) H2 u s5 → Q' u s5) :
    wpAny (model X.prog X.w) X.A (eval (.GeneratorExp elt [⟨tg, iter, ifs, 0⟩] scope gpos) X.env) Q' X.xe s := by
  have hfree : ∀ y ∈ scope.names, y.2 = .free → ∃ c, X.env.cells.lookup y.1 = some c := fun y hy e => by
    rcases L.free y hy e with k | k
    · exact I.ok.has _ (.inl k)
    · exact I.ok.has _ (.inr k)
  have cm : ∀ {y c}, (cloFrom X.env.cells scope.names []).lookup y = some c → X.env.cells.lookup y = some c := fun {y c} e => by
    rcases cloFrom_mem (PySem.mem_of_lookup e) with hm | ⟨h1, h2⟩
    · cases hm
    · obtain ⟨c1, hc⟩ := hfree _ h1 rfl
      have hc : X.env.cells.lookup y = some c1 := hc
      have e2 : c = c1 := by
        rw [h2, hc] <;> rfl
      rw [e2]
      exact hc
  refine wpAny_GeneratorExp_make L.co (closure_ok hfree) L.cell L.dot L.kind (by have := hr.dp; omega) ?_ hs
  refine thn (hi.run pins s σ H _ I h) fun xv s1 hx => thn hx fun itv s2 h2 => ?_
  obtain ⟨it, fp, tn, J, H1, e, I1, T, st1, f1, ⟨ps, hP, htr⟩, q1⟩ := h2
  subst e
  have hPs : s2.heap.get? P = some { cls := .none, data := .fields ps } := I1.hok P _ hP
  have hPlt : P < s2.heap.objs.size := Heap.lt_size hPs
  have cd : PySem.W.CodeHd s2.heap c P := TB.code.keeps fun b u e => I1.bk b u e
  have lim2 : s2.heap.NoLimit := I1.nolimit
  refine ⟨lim2, ?_⟩
  have cont : ∀ (code : Value) (h3 : Heap) (tk : Nat) (ps' : Array Value), Heap.ExtBut P s2.heap h3 → s2.heap.objs.size ≤ h3.objs.size → h3.get? P = some { cls := .none, data := .fields ps' } → (∃ more, ps' = ps ++ more) → TriplesOk ps'.toList →
      wpAny (model X.prog X.w) X.A (builtinsFor X.env.globals X.env.builtins) (fun bi s₄ =>
        ∀ h', h'.Ns s₄.heap.objs.size (fun y => if y = ".0" then some (.ref it) else none) → Heap.SameBut s₄.heap.objs.size (s₄.heap.push { cls := .type "frame", data := .dict #[] }) h' →
          Q' (.ref h'.objs.size) { s₄ with
            gens := s₄.gens.push (.fresh (.compStart (.GeneratorExp elt [⟨tg, iter, ifs, 0⟩] scope gpos) 0 (.ref it) .none (genEnv scope (cloFrom X.env.cells scope.names []) s₄.heap.objs.size code bi X.env))),
            toks := s₄.toks + 1 + 1 + 1,
            heap := h'.push { cls := .type "generator", data := .fields #[.int s₄.gens.size 0, .str "<genexpr>" (s₄.toks + 1), .str (X.env.qual ++ "<genexpr>") (s₄.toks + 1 + 1)] } }) X.xe { s2 with heap := h3, toks := tk } := by
    intro code h3 tk ps' hx3 hsz hP3 hmore ht3
    obtain ⟨bm, ob, e1, e2, e3, e4, e5, e6, e7, e8⟩ := TB.bm
    have keep3 : ∀ b u, b ≠ P → s2.heap.get? b = some u → h3.get? b = some u := fun b u hb e => hx3 b u hb e
    refine wpAny_builtinsFor (m := X.mg) (by rw [I1.ok.glob]; exact (I1.mod.glob.keeps I1.bk).extBut hx3 TB.gP) e1 e2 (keep3 _ _ e4 (I1.bk _ _ e5)) e6 e7 e8 ?_
    intro h' hns hsb
    obtain ⟨more, em⟩ := hmore
    have J4 := GxR.inv_tab (more := more) (h' := h3) (g' := s2.gens) (d' := s2.drawn) (t' := tk) I1 hP (fun b u hb e => keep3 b u hb e) (by rw [← em]; exact hP3) I1.bare
    have I4 : Inv X pins σ (upd H1 P (.tbl (ps ++ more))) { s2 with heap := h3, toks := tk } := J4
    have hT : GxR.Tabbed P H1 (upd H1 P (.tbl (ps ++ more))) := ⟨⟨ps ++ more, upd_same, by rw [← em]; exact ht3⟩, fun b hb => upd_ne hb⟩
    have qr := q1 _ hT
    generalize hH2 : upd H1 P (.tbl (ps ++ more)) = H2 at I4 hT qr
    have hfP : ∀ b ∈ fp, b ≠ P := fun b hb z => by
      have := (f1 b hb).1
      rw [z, hP] at this
      cases this
    have f2 : ∀ b ∈ fp, FpOk X pins H2 b := fun b hb => by
      obtain ⟨a1, a2⟩ := f1 b hb
      exact ⟨by rw [hT.2 b (hfP b hb)]; exact a1, a2⟩
    have st3 : tn 0 h3 := T.keep _ _ _ st1 fun b hb o e => keep3 b o (hfP b hb) e
    have fsz : ∀ b ∈ fp, b < h3.objs.size := fun b hb => by
      obtain ⟨o, e, _⟩ := T.obj _ _ st3 b hb
      exact Heap.lt_size e
    have hsz' : h'.objs.size = h3.objs.size + 1 := by rw [hsb.1, Heap.size_push]
    have keep' : ∀ b o, h3.get? b = some o → h'.get? b = some o := fun b o e => hsb.extBut b o (Nat.ne_of_lt (Heap.lt_size e)) (Heap.get?_push_of_some _ e)
    have keep5 : ∀ b o, h3.get? b = some o → (h'.push { cls := .type "generator", data := .fields #[.int s2.gens.size 0, .str "<genexpr>" (tk + 1), .str (X.env.qual ++ "<genexpr>") (tk + 1 + 1)] }).get? b = some o := fun b o e => Heap.get?_push_of_some _ (keep' b o e)
    generalize hgo : ({ cls := .type "generator", data := .fields #[.int s2.gens.size 0, .str "<genexpr>" (tk + 1), .str (X.env.qual ++ "<genexpr>") (tk + 1 + 1)] } : Obj) = go at keep5
    have isg : ∀ h : Heap, h.get? h'.objs.size = some go → h.IsGen h'.objs.size s2.gens.size := fun h e => by
      subst hgo
      exact ⟨_, _, _, e, rfl, rfl, rfl⟩
    have hgc : ∀ v, go.data ≠ .cell v := fun v z => by
      subst hgo
      cases z
    have hpush : (h'.push go).get? h'.objs.size = some go := by
      subst hgo
      exact Heap.get?_push_size _ rfl
    have lim3 : h3.NoLimit := I4.nolimit
    refine hQ H2 _ _ ⟨{ s2 with heap := h3, toks := tk }, fp, h'.objs.size, s2.gens.size, _, rfl, I4, f2, ?_, ?_, ?_, ?_, Array.getElem?_push_size .., rfl, AllBare.push I1.bare rfl, ?_, ?_⟩
    · show h3.objs.size < h'.objs.size
      omega
    · show h'.objs.size < (h'.push _).objs.size
      rw [Heap.size_push]
      exact Nat.lt_succ_self _
    · exact isg _ hpush
    · exact lim3.keeps keep5
    · intro b o e
      exact keep5 b o e
    intro A Pr s6 hroom hfr hhd hPr hk hos hba
    have hk6 : ∀ b o, (h'.push go).get? b = some o → s6.heap.get? b = some o := fun b o e => hk b o (by
      exact e)
    have hPr6 : ∀ b ∈ Pr, h3.objs.size < b ∧ h'.objs.size < b := fun b hb => by
      have h1 : (h'.push _).objs.size ≤ b := (hPr b hb).1
      rw [Heap.size_push] at h1
      omega
    obtain ⟨W, ⟨m0, w0⟩, turn⟩ := qr
    have nofs : ∀ b, h3.objs.size ≤ b → b ∉ frs X.stack := fun b hb z => by
      rcases List.mem_cons.mp (I4.stkSub b z) with e | e
      · have h1 : X.env.locals < h3.objs.size := I4.lt
        rw [← e] at h1
        exact Nat.lt_irrefl _ (Nat.lt_of_lt_of_le h1 hb)
      · exact I4.nofs hb e
    have lt_ : ∀ {y c}, X.env.cells.lookup y = some c → c < h3.objs.size := fun {y c} e => by
      obtain ⟨v, z⟩ := I4.cell y c e
      exact z.lt
    have hns6 : s6.heap.Ns h3.objs.size (fun y => if y = (".0" : Str) then some (.ref it) else none) := by
      have hns : h'.Ns h3.objs.size (fun y => if y = (".0" : Str) then some (.ref it) else none) := hns
      exact hns.at' fun o e => hk6 _ o (Heap.get?_push_of_some _ e)
    have I6 : Inv (gexCx X A { s2 with heap := h3, toks := tk } H2 scope code fp [(h'.objs.size, go)]) [] (wipe σ (own.map (·.2))) H2 s6 :=
      gex_start I4 hN L hhd hfr (fun b hb => ⟨f2 b hb, fsz b hb⟩) hns6 (fun b o e => hk6 b o (keep5 b o e)) hos hba (fun p hp => by
        rw [List.mem_singleton.mp hp]
        exact ⟨hk6 _ _ hpush, by show h3.objs.size < h'.objs.size; omega, hgc⟩)
    refine seg_gxStart T (T.keep _ _ _ st3 fun b _ o e => hk6 b o (keep5 b o e)) (seg_gx (J := J) (a := h'.objs.size) (g := s2.gens.size) (go := go) (Pr := Pr) (pins := pins) (s := { s2 with heap := h3, toks := tk }) hhd T (fun b hb => (hPr6 b hb).1) (fun hb => Nat.lt_irrefl _ (hPr6 _ hb).2) (fun b hb hf => Nat.lt_asymm (hPr6 b hb).1 (fsz b hf)) (fun b hb => ⟨f2 b hb, fsz b hb⟩)
      (fun hf => by have h1 : h'.objs.size < h3.objs.size := fsz _ hf; omega) (fun y c e => ⟨lt_ (cm e), fun hf => (f2 _ hf).2.2.2.2.1 y c (cm e) rfl⟩) isg (by show h3.objs.size < h'.objs.size; omega)
      (fun b hb z => ?_) L.co (hg A _ H2 code fp _) (ht A _ H2 code fp _ (hroom _)) (he A _ H2 code fp _ (hroom _)) turn m0 0 0 sizeLine s6 s6 H2 (Nat.add_zero _) w0 (fun b hb => let ⟨o, ho, _⟩ := (hPr b hb).2; ⟨o, ho⟩) ?_ (T.keep _ _ _ st3 fun b _ o e => hk6 b o (keep5 b o e)) (fun b hb => (f2 b hb).1))
    · rcases List.mem_cons.mp (I4.stkSub b z) with e | e
      · exact (f2 b hb).2.1 e
      · exact (f2 b hb).2.2.1 e
    · refine I6.pins_of fun p hp => ?_
      obtain ⟨hb, e⟩ := of_pinsAt hp
      obtain ⟨o, ho, hd⟩ := (hPr p.1 hb).2
      rw [e] at ho
      cases ho
      have hlt := (hPr6 p.1 hb).1
      exact ⟨e, I4.hok.fresh (Nat.le_of_lt hlt), Nat.ne_of_gt hlt, nofs _ (Nat.le_of_lt hlt), hd⟩
  cases hf : codeAmong gpos ps.toList with
  | none =>
    refine wpAny_genexprCodeX hcode (cd.code hPs htr) (cd.tab hPs) hf fun c' h' tk hx hge hlt hco' _ htab' _ => ?_
    obtain ⟨o1, vs, f1, tf, fl, tg, inF, tx, tt, op, _, _, _, _, _, _, _, _, _, htr', _⟩ := hco'
    exact cont _ h' tk _ hx (Nat.le_trans hge (Nat.le_of_lt hlt)) htab'.2 ⟨_, rfl⟩ htr'
  | some cv =>
    refine wpAny_genexprCode_hit hcode (cd.code hPs htr) hf ?_
    exact cont cv s2.heap s2.toks ps (Heap.ExtBut.refl _ _) (Nat.le_refl _) hPs ⟨#[], by simp⟩ htr
end
end
section
open PySem PySem.Spec PyProof.Rows L2 GenW
/-- a generator that has not begun, made at s4 (H2: what is held there): it sleeps in s5 -/
def GxMadeH (X : Cx) (pins : List (Addr × Obj)) (σ : L2.St) (k : Nat) (QE : List V → Hp → Prop) (H2 : Hp) (u : Value) (s5 : Shared) : Prop :=
  ∃ (s4 : Shared) (fp : List Addr) (a : Addr) (g : Nat) (c : Code), u = .ref a ∧ Inv X pins σ H2 s4 ∧ (∀ b ∈ fp, FpOk X pins H2 b) ∧ s4.heap.objs.size < a ∧ a < s5.heap.objs.size ∧ s5.heap.IsGen a g ∧ s5.heap.NoLimit ∧ s5.gens[g]? = some (.fresh c) ∧ s5.os = s4.os ∧ AllBare s5.gens ∧
    (∀ b o, s4.heap.get? b = some o → s5.heap.get? b = some o) ∧
    ∀ (A : Around) (S : Addr) (s2 : Shared), (∀ env, Room k (A.deeper env)) → A.frames = some X.stack → A.handled = none → s5.heap.objs.size ≤ S → HistAt S [] s2 → (∀ b o, s5.heap.get? b = some o → s2.heap.get? b = some o) → s2.os = s4.os → AllBare s2.gens →
      Seg (model X.prog X.w) A (fun n s₀ r s1 => r = .ok .next ∧ PH X.prog X.w X.stack fp H2 s4 a g S QE n s₀ s1) (YH X.prog X.w X.stack fp H2 s4 a g S) (sizeLine + 1) s2 c ((model X.prog X.w).den c) [] s2
section
variable {X : Cx} {pins : List (Addr × Obj)} {σ : L2.St} {H : Hp} {s : Shared} {own : List (Str × Nat)} {scope : Scope}
theorem gx_madeH {c P : Addr} {elt tg iter : Expr} {ifs : List Expr} {gpos : Pos} {wi : TI} {gt : TG} {tt : TT} {te : TE} {k : Nat} {QE : Hp → List V → Hp → Prop} {Q' : Value → Shared → Prop}
    (hN : X.N.Nodup) (hr : Room k X.A) (TB : GxR.TabB X.base X.mg c P) (hcode : X.env.code = .ref c) (L : GexS X.N X.env.scope scope own) (hi : PI X tg iter wi)
    (hg : ∀ (A : Around) (s : Shared) (H : Hp) (code : Value) (fp : List Addr) (pn : List (Addr × Obj)), PG (gexCx X A s H scope code fp pn) tg gt)
    (ht : ∀ (A : Around) (s : Shared) (H : Hp) (code : Value) (fp : List Addr) (pn : List (Addr × Obj)), Room k (A.deeper (gexEnv X scope s.heap.objs.size code)) → PTs (gexCx X A s H scope code fp pn) ifs tt)
    (he : ∀ (A : Around) (s : Shared) (H : Hp) (code : Value) (fp : List Addr) (pn : List (Addr × Obj)), Room k (A.deeper (gexEnv X scope s.heap.objs.size code)) → PE (gexCx X A s H scope code fp pn) elt te)
    (hs : ∀ v, genFold iter X.env v = pure v) (I : Inv X pins σ H s)
    (h : wi σ H fun J H1 => GxR.TabG H1 P ∧ ∀ H2, GxR.Tabbed P H1 H2 → GxH gt tt te (own.map (·.2)) (QE H2) σ J H2)
    (hQ : ∀ H2 u s5, GxMadeH X pins σ k (QE H2) H2 u s5 → Q' u s5) :
    wpAny (model X.prog X.w) X.A (eval (.GeneratorExp elt [⟨tg, iter, ifs, 0⟩] scope gpos) X.env) Q' X.xe s := by
  have hfree : ∀ y ∈ scope.names, y.2 = .free → ∃ c, X.env.cells.lookup y.1 = some c := fun y hy e => by
    rcases L.free y hy e with k | k
    · exact I.ok.has _ (.inl k)
    · exact I.ok.has _ (.inr k)
  have cm : ∀ {y c}, (cloFrom X.env.cells scope.names []).lookup y = some c → X.env.cells.lookup y = some c := fun {y c} e => by
    rcases cloFrom_mem (PySem.mem_of_lookup e) with hm | ⟨h1, h2⟩
    · cases hm
    · obtain ⟨c1, hc⟩ := hfree _ h1 rfl
      have hc : X.env.cells.lookup y = some c1 := hc
      have e2 : c = c1 := by
        rw [h2, hc] <;> rfl
      rw [e2]
      exact hc
  refine wpAny_GeneratorExp_make L.co (closure_ok hfree) L.cell L.dot L.kind (by have := hr.dp; omega) ?_ hs
  refine thn (hi.run pins s σ H _ I h) fun xv s1 hx => thn hx fun itv s2 h2 => ?_
  obtain ⟨it, fp, tn, J, H1, e, I1, T, st1, f1, ⟨ps, hP, htr⟩, q1⟩ := h2
  subst e
  have hPs : s2.heap.get? P = some { cls := .none, data := .fields ps } := I1.hok P _ hP
  have hPlt : P < s2.heap.objs.size := Heap.lt_size hPs
  have cd : PySem.W.CodeHd s2.heap c P := TB.code.keeps fun b u e => I1.bk b u e
  have lim2 : s2.heap.NoLimit := I1.nolimit
  refine ⟨lim2, ?_⟩
  have cont : ∀ (code : Value) (h3 : Heap) (tk : Nat) (ps' : Array Value), Heap.ExtBut P s2.heap h3 → s2.heap.objs.size ≤ h3.objs.size → h3.get? P = some { cls := .none, data := .fields ps' } → (∃ more, ps' = ps ++ more) → TriplesOk ps'.toList →
      wpAny (model X.prog X.w) X.A (builtinsFor X.env.globals X.env.builtins) (fun bi s₄ =>
        ∀ h', h'.Ns s₄.heap.objs.size (fun y => if y = ".0" then some (.ref it) else none) → Heap.SameBut s₄.heap.objs.size (s₄.heap.push { cls := .type "frame", data := .dict #[] }) h' →
          Q' (.ref h'.objs.size) { s₄ with
            gens := s₄.gens.push (.fresh (.compStart (.GeneratorExp elt [⟨tg, iter, ifs, 0⟩] scope gpos) 0 (.ref it) .none (genEnv scope (cloFrom X.env.cells scope.names []) s₄.heap.objs.size code bi X.env))),
            toks := s₄.toks + 1 + 1 + 1,
            heap := h'.push { cls := .type "generator", data := .fields #[.int s₄.gens.size 0, .str "<genexpr>" (s₄.toks + 1), .str (X.env.qual ++ "<genexpr>") (s₄.toks + 1 + 1)] } }) X.xe { s2 with heap := h3, toks := tk } := by
    intro code h3 tk ps' hx3 hsz hP3 hmore ht3
    obtain ⟨bm, ob, e1, e2, e3, e4, e5, e6, e7, e8⟩ := TB.bm
    have keep3 : ∀ b u, b ≠ P → s2.heap.get? b = some u → h3.get? b = some u := fun b u hb e => hx3 b u hb e
    refine wpAny_builtinsFor (m := X.mg) (by rw [I1.ok.glob]; exact (I1.mod.glob.keeps I1.bk).extBut hx3 TB.gP) e1 e2 (keep3 _ _ e4 (I1.bk _ _ e5)) e6 e7 e8 ?_
    intro h' hns hsb
    obtain ⟨more, em⟩ := hmore
    have J4 := GxR.inv_tab (more := more) (h' := h3) (g' := s2.gens) (d' := s2.drawn) (t' := tk) I1 hP (fun b u hb e => keep3 b u hb e) (by rw [← em]; exact hP3) I1.bare
    have I4 : Inv X pins σ (upd H1 P (.tbl (ps ++ more))) { s2 with heap := h3, toks := tk } := J4
    have hT : GxR.Tabbed P H1 (upd H1 P (.tbl (ps ++ more))) := ⟨⟨ps ++ more, upd_same, by rw [← em]; exact ht3⟩, fun b hb => upd_ne hb⟩
    have qr := q1 _ hT
    generalize hH2 : upd H1 P (.tbl (ps ++ more)) = H2 at I4 hT qr
    have hfP : ∀ b ∈ fp, b ≠ P := fun b hb z => by
      have := (f1 b hb).1
      rw [z, hP] at this
      cases this
    have f2 : ∀ b ∈ fp, FpOk X pins H2 b := fun b hb => by
      obtain ⟨a1, a2⟩ := f1 b hb
      exact ⟨by rw [hT.2 b (hfP b hb)]; exact a1, a2⟩
    have st3 : tn 0 h3 := T.keep _ _ _ st1 fun b hb o e => keep3 b o (hfP b hb) e
    have fsz : ∀ b ∈ fp, b < h3.objs.size := fun b hb => by
      obtain ⟨o, e, _⟩ := T.obj _ _ st3 b hb
      exact Heap.lt_size e
    have hsz' : h'.objs.size = h3.objs.size + 1 := by rw [hsb.1, Heap.size_push]
    have keep' : ∀ b o, h3.get? b = some o → h'.get? b = some o := fun b o e => hsb.extBut b o (Nat.ne_of_lt (Heap.lt_size e)) (Heap.get?_push_of_some _ e)
    have keep5 : ∀ b o, h3.get? b = some o → (h'.push { cls := .type "generator", data := .fields #[.int s2.gens.size 0, .str "<genexpr>" (tk + 1), .str (X.env.qual ++ "<genexpr>") (tk + 1 + 1)] }).get? b = some o := fun b o e => Heap.get?_push_of_some _ (keep' b o e)
    generalize hgo : ({ cls := .type "generator", data := .fields #[.int s2.gens.size 0, .str "<genexpr>" (tk + 1), .str (X.env.qual ++ "<genexpr>") (tk + 1 + 1)] } : Obj) = go at keep5
    have isg : ∀ h : Heap, h.get? h'.objs.size = some go → h.IsGen h'.objs.size s2.gens.size := fun h e => by
      subst hgo
      exact ⟨_, _, _, e, rfl, rfl, rfl⟩
    have hgc : ∀ v, go.data ≠ .cell v := fun v z => by
      subst hgo
      cases z
    have hpush : (h'.push go).get? h'.objs.size = some go := by
      subst hgo
      exact Heap.get?_push_size _ rfl
    have lim3 : h3.NoLimit := I4.nolimit
    refine hQ H2 _ _ ⟨{ s2 with heap := h3, toks := tk }, fp, h'.objs.size, s2.gens.size, _, rfl, I4, f2, ?_, ?_, ?_, ?_, Array.getElem?_push_size .., rfl, AllBare.push I1.bare rfl, ?_, ?_⟩
    · show h3.objs.size < h'.objs.size
      omega
    · show h'.objs.size < (h'.push _).objs.size
      rw [Heap.size_push]
      exact Nat.lt_succ_self _
    · exact isg _ hpush
    · exact lim3.keeps keep5
    · intro b o e
      exact keep5 b o e
    intro A S s6 hroom hfr hhd hS0 hist hk hos hba
    have hPr : ∀ b ∈ [S], (h'.push go).objs.size ≤ b ∧ ∃ o, s6.heap.get? b = some o ∧ ∀ v, o.data ≠ .cell v := fun b hb => by
      rw [List.mem_singleton.mp hb]
      obtain ⟨acc, c, e, _⟩ := hist
      exact ⟨hS0, _, e, fun v z => by cases z⟩
    have hk6 : ∀ b o, (h'.push go).get? b = some o → s6.heap.get? b = some o := fun b o e => hk b o (by
      exact e)
    have hPr6 : ∀ b ∈ [S], h3.objs.size < b ∧ h'.objs.size < b := fun b hb => by
      have h1 : (h'.push _).objs.size ≤ b := (hPr b hb).1
      rw [Heap.size_push] at h1
      omega
    obtain ⟨W, ⟨m0, w0⟩, turn⟩ := qr
    have nofs : ∀ b, h3.objs.size ≤ b → b ∉ frs X.stack := fun b hb z => by
      rcases List.mem_cons.mp (I4.stkSub b z) with e | e
      · have h1 : X.env.locals < h3.objs.size := I4.lt
        rw [← e] at h1
        exact Nat.lt_irrefl _ (Nat.lt_of_lt_of_le h1 hb)
      · exact I4.nofs hb e
    have lt_ : ∀ {y c}, X.env.cells.lookup y = some c → c < h3.objs.size := fun {y c} e => by
      obtain ⟨v, z⟩ := I4.cell y c e
      exact z.lt
    have hns6 : s6.heap.Ns h3.objs.size (fun y => if y = (".0" : Str) then some (.ref it) else none) := by
      have hns : h'.Ns h3.objs.size (fun y => if y = (".0" : Str) then some (.ref it) else none) := hns
      exact hns.at' fun o e => hk6 _ o (Heap.get?_push_of_some _ e)
    have I6 : Inv (gexCx X A { s2 with heap := h3, toks := tk } H2 scope code fp [(h'.objs.size, go)]) [] (wipe σ (own.map (·.2))) H2 s6 :=
      gex_start I4 hN L hhd hfr (fun b hb => ⟨f2 b hb, fsz b hb⟩) hns6 (fun b o e => hk6 b o (keep5 b o e)) hos hba (fun p hp => by
        rw [List.mem_singleton.mp hp]
        exact ⟨hk6 _ _ hpush, by show h3.objs.size < h'.objs.size; omega, hgc⟩)
    refine seg_gxStart T (T.keep _ _ _ st3 fun b _ o e => hk6 b o (keep5 b o e)) (seg_gxH (J := J) (a := h'.objs.size) (g := s2.gens.size) (go := go) (S := S) (pins := pins) (s := { s2 with heap := h3, toks := tk }) hhd T (fun b hb => (hPr6 b hb).1) (fun hb => Nat.lt_irrefl _ (hPr6 _ hb).2) (fun b hb hf => Nat.lt_asymm (hPr6 b hb).1 (fsz b hf)) (fun b hb => ⟨f2 b hb, fsz b hb⟩)
      (fun hf => by have h1 : h'.objs.size < h3.objs.size := fsz _ hf; omega) (fun y c e => ⟨lt_ (cm e), fun hf => (f2 _ hf).2.2.2.2.1 y c (cm e) rfl⟩) isg (by show h3.objs.size < h'.objs.size; omega)
      (fun b hb z => ?_) L.co (hg A _ H2 code fp _) (ht A _ H2 code fp _ (hroom _)) (he A _ H2 code fp _ (hroom _)) turn m0 0 [] (sizeLine + 1) s6 s6 H2 (Nat.add_zero _) w0 hist ?_ (T.keep _ _ _ st3 fun b _ o e => hk6 b o (keep5 b o e)) (fun b hb => (f2 b hb).1))
    · rcases List.mem_cons.mp (I4.stkSub b z) with e | e
      · exact (f2 b hb).2.1 e
      · exact (f2 b hb).2.2.1 e
    · refine I6.pins_of fun p hp => ?_
      obtain ⟨hb, e⟩ := of_pinsAt hp
      obtain ⟨o, ho, hd⟩ := (hPr p.1 hb).2
      rw [e] at ho
      cases ho
      have hlt := (hPr6 p.1 hb).1
      exact ⟨e, I4.hok.fresh (Nat.le_of_lt hlt), Nat.ne_of_gt hlt, nofs _ (Nat.le_of_lt hlt), hd⟩
  cases hf : codeAmong gpos ps.toList with
  | none =>
    refine wpAny_genexprCodeX hcode (cd.code hPs htr) (cd.tab hPs) hf fun c' h' tk hx hge hlt hco' _ htab' _ => ?_
    obtain ⟨o1, vs, f1, tf, fl, tg, inF, tx, tt, op, _, _, _, _, _, _, _, _, _, htr', _⟩ := hco'
    exact cont _ h' tk _ hx (Nat.le_trans hge (Nat.le_of_lt hlt)) htab'.2 ⟨_, rfl⟩ htr'
  | some cv =>
    refine wpAny_genexprCode_hit hcode (cd.code hPs htr) hf ?_
    exact cont cv s2.heap s2.toks ps (Heap.ExtBut.refl _ _) (Nat.le_refl _) hPs ⟨#[], by simp⟩ htr
end
end
section
open PySem PySem.Spec PyProof.Rows L2 GenW
/-- behind s1: nothing that stood is gone -/
def Aft (s1 s' : Shared) : Prop := s'.os = s1.os ∧ AllBare s'.gens ∧ ∀ b o, s1.heap.get? b = some o → s'.heap.get? b = some o
section
variable {P : Program} {w : World} {A : Around} {outer : List Env} {fp : List Addr} {H0 : Hp} {sc s : Shared} {a : Addr} {g : Nat} {vs : List V} {QY : Nat → Hp → Prop} {QE : Hp → Prop} {R : Result → Shared → Prop}
theorem code_any_gx {bs : List Bool} (hh : A.handled = none) (hroom : A.depth < recursionLimit) (hb : vs = bs.map V.bl)
    (hE : ∀ H s1 s', (∀ b ∈ bs, b = false) → QE H → OutX P w outer fp H0 sc a g H s1 → Aft s1 s' → R (.ok (.ret (.bool false))) s')
    (hY : ∀ (j : Nat) H s1 s', bs[j]? = some true → QY j H → OutX P w outer fp H0 sc a g H s1 → Aft s1 s' → R (.ok (.ret (.bool true))) s') :
    ∀ (n j : Nat) (s : Shared), (∀ i, i < j → ∀ b, bs[i]? = some b → b = false) → n + j = sizeLine → GxAt P w A.in1.in1 outer fp H0 sc a g [] vs QY QE n s → codeAny (model P w) A (.builtin "any.loop" ⟨[.ref a], []⟩) R s := by
  intro n
  induction n with
  | zero =>
    intro j s hf hn hx
    refine codeAny_builtin F.entry_any_loop ?_
    rw [Around.under_plainId F.plain_any_loop _]
    show wpAny _ A.in1 (pyNext (.ref a) >>= _) _ _ s
    refine wpAny_bind (next_gx (A := A.in1) (fun b hb => absurd hb (by simp)) hh hroom hn hx (fun v y H s1 gs' _ _ _ _ _ h0 _ _ => absurd h0 (by omega)) fun H s1 h' hj hq ho _ hk => ?_)
    refine wpAny_bind (wpAny_rule (wpAny_pure ?_))
    exact hE H s1 _ (fun b hb' => by obtain ⟨i, hi, e⟩ := List.getElem_of_mem hb'; exact hf i (by rw [hj, hb, List.length_map]; exact hi) b (by rw [List.getElem?_eq_getElem hi, e])) hq ho ⟨rfl, allBare_setGen ho.2.1 rfl, hk⟩
  | succ n ih =>
    intro j s hf hn hx
    have hgl : g < s.gens.size := let ⟨_, _, gs, hgs, _⟩ := hx; (Array.getElem?_eq_some_iff.mp hgs).1
    refine codeAny_builtin F.entry_any_loop ?_
    rw [Around.under_plainId F.plain_any_loop _]
    show wpAny _ A.in1 (pyNext (.ref a) >>= _) _ _ s
    refine wpAny_bind (wpAny_gsz (n := g + 1) hgl (next_gx (A := A.in1) (fun b hb => absurd hb (by simp)) hh hroom hn hx (fun v y H s1 gs' hvs rv hq ho _ _ hbare hgo => ?_) fun H s1 h' hj hq ho _ hk => ?_))
    · intro hsz
      have hsz1 : g < s1.gens.size := by
        have q : (s1.setGen g gs').gens.size = s1.gens.size := setGen_size _ _ _
        have hsz' : g + 1 ≤ (s1.setGen g gs').gens.size := hsz
        omega
      obtain ⟨b, hbj, rfl⟩ : ∃ b, bs[j]? = some b ∧ y = .bl b := by
        rw [hb, List.getElem?_map] at hvs
        cases e : bs[j]? with
        | none => rw [e] at hvs; cases hvs
        | some b => rw [e] at hvs; exact ⟨b, rfl, (Option.some.inj hvs).symm⟩
      obtain rfl : v = Value.bool b := rv
      refine wpAny_bind (wpAny_holding (wpAny_truthy_bool ?_))
      refine wpAny_bind (wpAny_letGo ?_)
      cases b with
      | false =>
        simp only [Bool.false_eq_true, if_false]
        refine wpAny_pure ⟨plainId_quiet F.plain_any_loop _, ih (j + 1) _ (fun i hi b e => by
          by_cases hij : i = j
          · rw [hij, hbj] at e; exact (Option.some.inj e).symm
          · exact hf i (by omega) b e) (by omega) (hgo _ ⟨rfl, allBare_setGen ho.2.1 hbare, fun _ _ _ e => e, fun b hb => absurd hb (by simp)⟩ (by have q : (s1.setGen g gs').gens.size = s1.gens.size := setGen_size _ _ _; omega) ho.2.2.2.2.1 ho.2.2.2.2.2 (setGen_at hsz1))⟩
      | true =>
        simp only [if_true]
        refine wpAny_bind (wpAny_rule (wpAny_pure ?_))
        exact hY j H s1 _ hbj hq ho ⟨rfl, allBare_setGen ho.2.1 hbare, fun _ _ e => e⟩
    · intro hsz
      refine wpAny_bind (wpAny_rule (wpAny_pure ?_))
      exact hE H s1 _ (fun b hb' => by obtain ⟨i, hi, e⟩ := List.getElem_of_mem hb'; exact hf i (by rw [hj, hb, List.length_map]; exact hi) b (by rw [List.getElem?_eq_getElem hi, e])) hq ho ⟨rfl, allBare_setGen ho.2.1 rfl, hk⟩
theorem code_all_gx {bs : List Bool} (hh : A.handled = none) (hroom : A.depth < recursionLimit) (hb : vs = bs.map V.bl)
    (hE : ∀ H s1 s', (∀ b ∈ bs, b = true) → QE H → OutX P w outer fp H0 sc a g H s1 → Aft s1 s' → R (.ok (.ret (.bool true))) s')
    (hY : ∀ (j : Nat) H s1 s', bs[j]? = some false → QY j H → OutX P w outer fp H0 sc a g H s1 → Aft s1 s' → R (.ok (.ret (.bool false))) s') :
    ∀ (n j : Nat) (s : Shared), (∀ i, i < j → ∀ b, bs[i]? = some b → b = true) → n + j = sizeLine → GxAt P w A.in1.in1 outer fp H0 sc a g [] vs QY QE n s → codeAny (model P w) A (.builtin "all.loop" ⟨[.ref a], []⟩) R s := by
  intro n
  induction n with
  | zero =>
    intro j s hf hn hx
    refine codeAny_builtin F.entry_all_loop ?_
    rw [Around.under_plainId F.plain_all_loop _]
    show wpAny _ A.in1 (pyNext (.ref a) >>= _) _ _ s
    refine wpAny_bind (next_gx (A := A.in1) (fun b hb => absurd hb (by simp)) hh hroom hn hx (fun v y H s1 gs' _ _ _ _ _ h0 _ _ => absurd h0 (by omega)) fun H s1 h' hj hq ho _ hk => ?_)
    refine wpAny_bind (wpAny_rule (wpAny_pure ?_))
    exact hE H s1 _ (fun b hb' => by obtain ⟨i, hi, e⟩ := List.getElem_of_mem hb'; exact hf i (by rw [hj, hb, List.length_map]; exact hi) b (by rw [List.getElem?_eq_getElem hi, e])) hq ho ⟨rfl, allBare_setGen ho.2.1 rfl, hk⟩
  | succ n ih =>
    intro j s hf hn hx
    have hgl : g < s.gens.size := let ⟨_, _, gs, hgs, _⟩ := hx; (Array.getElem?_eq_some_iff.mp hgs).1
    refine codeAny_builtin F.entry_all_loop ?_
    rw [Around.under_plainId F.plain_all_loop _]
    show wpAny _ A.in1 (pyNext (.ref a) >>= _) _ _ s
    refine wpAny_bind (wpAny_gsz (n := g + 1) hgl (next_gx (A := A.in1) (fun b hb => absurd hb (by simp)) hh hroom hn hx (fun v y H s1 gs' hvs rv hq ho _ _ hbare hgo => ?_) fun H s1 h' hj hq ho _ hk => ?_))
    · intro hsz
      have hsz1 : g < s1.gens.size := by
        have q : (s1.setGen g gs').gens.size = s1.gens.size := setGen_size _ _ _
        have hsz' : g + 1 ≤ (s1.setGen g gs').gens.size := hsz
        omega
      obtain ⟨b, hbj, rfl⟩ : ∃ b, bs[j]? = some b ∧ y = .bl b := by
        rw [hb, List.getElem?_map] at hvs
        cases e : bs[j]? with
        | none => rw [e] at hvs; cases hvs
        | some b => rw [e] at hvs; exact ⟨b, rfl, (Option.some.inj hvs).symm⟩
      obtain rfl : v = Value.bool b := rv
      refine wpAny_bind (wpAny_holding (wpAny_truthy_bool ?_))
      refine wpAny_bind (wpAny_letGo ?_)
      cases b with
      | true =>
        simp only [if_true]
        refine wpAny_pure ⟨plainId_quiet F.plain_all_loop _, ih (j + 1) _ (fun i hi b e => by
          by_cases hij : i = j
          · rw [hij, hbj] at e; exact (Option.some.inj e).symm
          · exact hf i (by omega) b e) (by omega) (hgo _ ⟨rfl, allBare_setGen ho.2.1 hbare, fun _ _ _ e => e, fun b hb => absurd hb (by simp)⟩ (by have q : (s1.setGen g gs').gens.size = s1.gens.size := setGen_size _ _ _; omega) ho.2.2.2.2.1 ho.2.2.2.2.2 (setGen_at hsz1))⟩
      | false =>
        simp only [Bool.false_eq_true, if_false]
        refine wpAny_bind (wpAny_rule (wpAny_pure ?_))
        exact hY j H s1 _ hbj hq ho ⟨rfl, allBare_setGen ho.2.1 hbare, fun _ _ e => e⟩
    · intro hsz
      refine wpAny_bind (wpAny_rule (wpAny_pure ?_))
      exact hE H s1 _ (fun b hb' => by obtain ⟨i, hi, e⟩ := List.getElem_of_mem hb'; exact hf i (by rw [hj, hb, List.length_map]; exact hi) b (by rw [List.getElem?_eq_getElem hi, e])) hq ho ⟨rfl, allBare_setGen ho.2.1 rfl, hk⟩
end
end
section
open PySem PySem.Spec PyProof.Rows L2 GenW
section
variable {X : Cx} {pins : List (Addr × Obj)} {σ : L2.St} {own : List (Str × Nat)} {scope : Scope}
theorem gx_own {H2 H : Hp} {s4 s1 s' : Shared} {fp : List Addr} {a : Addr} {g : Nat} (I : Inv X pins σ H2 s4) (hf : ∀ b ∈ fp, FpOk X pins H2 b) (o : OutX X.prog X.w X.stack fp H2 s4 a g H s1) (z : Aft s1 s') : Inv X pins σ H s' :=
  I.call' (z.1.trans o.1) (Un.trans o.2.2.1 (Un.kept z.2.2)) (o.2.2.2.1.kept z.2.2) z.2.1 fun b hb => ⟨(hf b hb).2.2.2.1, (hf b hb).2.1, (hf b hb).2.2.2.2.1, (hf b hb).2.2.2.2.2⟩
/-- the generator as it was made, ahead of its first value -/
theorem gx_first {k : Nat} {vs : List V} {QY : Nat → Hp → Prop} {QE : Hp → Prop} {H2 : Hp} {u : Value} {s5 : Shared} {B : Around} (hB : ∀ env, Room k (B.deeper env)) (hfr : B.frames = X.A.frames) (hh : B.handled = none) (m : GxMade X pins σ k vs QY QE H2 u s5) :
    ∃ (s4 : Shared) (fp : List Addr) (a : Addr) (g : Nat), u = .ref a ∧ s5.heap.IsGen a g ∧ a < s5.heap.objs.size ∧ s5.heap.NoLimit ∧ s5.os = s4.os ∧ (∀ H s1 s', OutX X.prog X.w X.stack fp H2 s4 a g H s1 → Aft s1 s' → Inv X pins σ H s') ∧
      ∀ (Pr : List Addr) (s6 : Shared), (∀ b ∈ Pr, s5.heap.objs.size ≤ b ∧ ∃ o, s6.heap.get? b = some o ∧ ∀ v, o.data ≠ .cell v) → (∀ b o, s5.heap.get? b = some o → s6.heap.get? b = some o) → s6.os = s5.os → s6.gens = s5.gens →
        GxAt X.prog X.w B X.stack fp H2 s4 a g Pr vs QY QE sizeLine s6 := by
  obtain ⟨s4, fp, a, g, c, rfl, I4, hf, ha, ha5, hg, hl, hgs, hos, hb, hk, wake⟩ := m
  refine ⟨s4, fp, a, g, rfl, hg, ha5, hl, hos, fun H s1 s' o z => gx_own I4 hf o z, fun Pr s6 hPr hk6 hos6 hg6 => ⟨hg.keeps hk6, hl.keeps hk6, .fresh c, by rw [hg6]; exact hgs, rfl, ?_⟩⟩
  refine wake B Pr _ hB (hfr.trans I4.ok.frames) hh hPr hk6 (hos6.trans hos) ?_
  exact allBare_setGen (by rw [hg6]; exact hb) rfl
/-- any(.. for ..), all(.. for ..): bs are the tests' answers -/
def tAnyG (P : Addr) (wi : TI) (gt : TG) (tt : TT) (te : TE) (own : List Nat) : TE := fun σ H Q => ∃ bs : List Bool, wi σ H fun J H1 => GxR.TabG H1 P ∧ ∀ H2, GxR.Tabbed P H1 H2 → GxR gt tt te own (bs.map V.bl) (fun j H' => bs[j]? = some true → Q (.bl true) H') (fun H' => (∀ b ∈ bs, b = false) → Q (.bl false) H') σ J H2
def tAllG (P : Addr) (wi : TI) (gt : TG) (tt : TT) (te : TE) (own : List Nat) : TE := fun σ H Q => ∃ bs : List Bool, wi σ H fun J H1 => GxR.TabG H1 P ∧ ∀ H2, GxR.Tabbed P H1 H2 → GxR gt tt te own (bs.map V.bl) (fun j H' => bs[j]? = some false → Q (.bl false) H') (fun H' => (∀ b ∈ bs, b = true) → Q (.bl true) H') σ J H2
variable {c P : Addr} {elt tg iter : Expr} {ifs : List Expr} {gpos p pos : Pos} {wi : TI} {gt : TG} {tt : TT} {te : TE} {k : Nat}
theorem pe_anyG (hN : X.N.Nodup) (hr : Room (k + 3) X.A) (hgl : Gl X "any") (hm : X.mg "any" = none) (TB : GxR.TabB X.base X.mg c P) (hcode : X.env.code = .ref c) (L : GexS X.N X.env.scope scope own) (hi : PI X tg iter wi)
    (hg : ∀ (A : Around) (s : Shared) (H : Hp) (code : Value) (fp : List Addr) (pn : List (Addr × Obj)), PG (gexCx X A s H scope code fp pn) tg gt)
    (ht : ∀ (A : Around) (s : Shared) (H : Hp) (code : Value) (fp : List Addr) (pn : List (Addr × Obj)), Room k (A.deeper (gexEnv X scope s.heap.objs.size code)) → PTs (gexCx X A s H scope code fp pn) ifs tt)
    (he : ∀ (A : Around) (s : Shared) (H : Hp) (code : Value) (fp : List Addr) (pn : List (Addr × Obj)), Room k (A.deeper (gexEnv X scope s.heap.objs.size code)) → PE (gexCx X A s H scope code fp pn) elt te)
    (hs : ∀ v, genFold iter X.env v = pure v := by intro _; rfl)
    (hse : starEach [.GeneratorExp elt [⟨tg, iter, ifs, 0⟩] scope gpos] X.env = (false, eval (.GeneratorExp elt [⟨tg, iter, ifs, 0⟩] scope gpos) X.env) :: starEach [] X.env := by rfl) :
    PE X (.Call (.Name "any" p) [.GeneratorExp elt [⟨tg, iter, ifs, 0⟩] scope gpos] [] pos) (tAnyG P wi gt tt te (own.map (·.2))) := by
  refine ⟨fun pins s σ H Q I h => ?_⟩
  obtain ⟨bs, h⟩ := h
  refine wpAny_Call_Name_kw (ld_blt I hgl hm boot_any ?_)
  refine PyProof.Rows.callWith_builtin1 ?_ hse (by rfl)
  rw [hse]
  show wpAny _ _ (spliced ((false, eval (.GeneratorExp elt [⟨tg, iter, ifs, 0⟩] scope gpos) X.env) :: backTo pos (starEach [] X.env))) _ _ s
  refine Calls.spliced_cons (gx_made (QY := fun _ j H' => bs[j]? = some true → Q (.bl true) H') (QE := fun _ H' => (∀ b ∈ bs, b = false) → Q (.bl false) H') hN (hr.mono (by omega)) TB hcode L hi hg ht he hs I h fun H2 u s5 m => ?_)
  refine Calls.spliced_nil ?_
  obtain ⟨s4, fp, a, g, rfl, hgen, _, hl, hos, ow, first⟩ := gx_first (B := X.A.in1.in1) (fun env => (Room.deeper (k := k) (hr.in1.in1) env)) rfl hr.hd m
  refine call_function_tree F.kind_any F.plain_any F.entry_any (F.args_any1 _) ?_
  unfold Builtin.«any»
  refine wpAny_bind (m := oneArg "any" _) (wpAny_pure ?_)
  refine wpAny_bind (wpAny_pyIter_gen hgen ?_)
  refine wpAny_pure ⟨plainId_quiet F.plain_any_loop _, code_any_gx (bs := bs) hr.hd (by have := hr.dp; omega) rfl (fun H s1 s' hall hq ho hz => ?_) (fun j H s1 s' hj hq ho hz => ?_) sizeLine 0 s5 (fun i hi => absurd hi (by omega)) (Nat.add_zero _) (first [] s5 (fun b hb => absurd hb (by simp)) (fun _ _ e => e) rfl rfl)⟩
  · exact ⟨.bl false, H, ow H s1 s' ho hz, rfl, hq hall⟩
  · exact ⟨.bl true, H, ow H s1 s' ho hz, rfl, hq hj⟩
theorem pe_allG (hN : X.N.Nodup) (hr : Room (k + 3) X.A) (hgl : Gl X "all") (hm : X.mg "all" = none) (hbt : bootBuiltins "all" = some (.builtin "all")) (TB : GxR.TabB X.base X.mg c P) (hcode : X.env.code = .ref c) (L : GexS X.N X.env.scope scope own) (hi : PI X tg iter wi)
    (hg : ∀ (A : Around) (s : Shared) (H : Hp) (code : Value) (fp : List Addr) (pn : List (Addr × Obj)), PG (gexCx X A s H scope code fp pn) tg gt)
    (ht : ∀ (A : Around) (s : Shared) (H : Hp) (code : Value) (fp : List Addr) (pn : List (Addr × Obj)), Room k (A.deeper (gexEnv X scope s.heap.objs.size code)) → PTs (gexCx X A s H scope code fp pn) ifs tt)
    (he : ∀ (A : Around) (s : Shared) (H : Hp) (code : Value) (fp : List Addr) (pn : List (Addr × Obj)), Room k (A.deeper (gexEnv X scope s.heap.objs.size code)) → PE (gexCx X A s H scope code fp pn) elt te)
    (hs : ∀ v, genFold iter X.env v = pure v := by intro _; rfl)
    (hse : starEach [.GeneratorExp elt [⟨tg, iter, ifs, 0⟩] scope gpos] X.env = (false, eval (.GeneratorExp elt [⟨tg, iter, ifs, 0⟩] scope gpos) X.env) :: starEach [] X.env := by rfl) :
    PE X (.Call (.Name "all" p) [.GeneratorExp elt [⟨tg, iter, ifs, 0⟩] scope gpos] [] pos) (tAllG P wi gt tt te (own.map (·.2))) := by
  refine ⟨fun pins s σ H Q I h => ?_⟩
  obtain ⟨bs, h⟩ := h
  refine wpAny_Call_Name_kw (ld_blt I hgl hm hbt ?_)
  refine PyProof.Rows.callWith_builtin1 ?_ hse (by rfl)
  rw [hse]
  show wpAny _ _ (spliced ((false, eval (.GeneratorExp elt [⟨tg, iter, ifs, 0⟩] scope gpos) X.env) :: backTo pos (starEach [] X.env))) _ _ s
  refine Calls.spliced_cons (gx_made (QY := fun _ j H' => bs[j]? = some false → Q (.bl false) H') (QE := fun _ H' => (∀ b ∈ bs, b = true) → Q (.bl true) H') hN (hr.mono (by omega)) TB hcode L hi hg ht he hs I h fun H2 u s5 m => ?_)
  refine Calls.spliced_nil ?_
  obtain ⟨s4, fp, a, g, rfl, hgen, _, hl, hos, ow, first⟩ := gx_first (B := X.A.in1.in1) (fun env => (Room.deeper (k := k) (hr.in1.in1) env)) rfl hr.hd m
  refine call_function_tree F.kind_all F.plain_all F.entry_all (F.args_all1 _) ?_
  unfold Builtin.«all»
  refine wpAny_bind (m := oneArg "all" _) (wpAny_pure ?_)
  refine wpAny_bind (wpAny_pyIter_gen hgen ?_)
  refine wpAny_pure ⟨plainId_quiet F.plain_all_loop _, code_all_gx (bs := bs) hr.hd (by have := hr.dp; omega) rfl (fun H s1 s' hall hq ho hz => ?_) (fun j H s1 s' hj hq ho hz => ?_) sizeLine 0 s5 (fun i hi => absurd hi (by omega)) (Nat.add_zero _) (first [] s5 (fun b hb => absurd hb (by simp)) (fun _ _ e => e) rfl rfl)⟩
  · exact ⟨.bl true, H, ow H s1 s' ho hz, rfl, hq hall⟩
  · exact ⟨.bl false, H, ow H s1 s' ho hz, rfl, hq hj⟩
end
end
section
open PySem PySem.Spec PyProof.Rows L2 GenW
section
variable {X : Cx} {pins : List (Addr × Obj)} {σ : L2.St} {own : List (Str × Nat)} {scope : Scope}
/-- the generator as it was made, ahead of its first value -/
theorem gx_firstH {k : Nat} {QE : List V → Hp → Prop} {H2 : Hp} {u : Value} {s5 : Shared} {B : Around} (hB : ∀ env, Room k (B.deeper env)) (hfr : B.frames = X.A.frames) (hh : B.handled = none) (m : GxMadeH X pins σ k QE H2 u s5) :
    ∃ (s4 : Shared) (fp : List Addr) (a : Addr) (g : Nat), u = .ref a ∧ s5.heap.IsGen a g ∧ a < s5.heap.objs.size ∧ s5.heap.NoLimit ∧ s5.os = s4.os ∧ (∀ H s1 s', OutX X.prog X.w X.stack fp H2 s4 a g H s1 → Aft s1 s' → Inv X pins σ H s') ∧
      ∀ (S : Addr) (s6 : Shared), s5.heap.objs.size ≤ S → HistAt S [] s6 → (∀ b o, s5.heap.get? b = some o → s6.heap.get? b = some o) → s6.os = s5.os → s6.gens = s5.gens →
        GxAtH X.prog X.w B X.stack fp H2 s4 a g S QE (sizeLine + 1) s6 := by
  obtain ⟨s4, fp, a, g, c, rfl, I4, hf, ha, ha5, hg, hl, hgs, hos, hb, hk, wake⟩ := m
  refine ⟨s4, fp, a, g, rfl, hg, ha5, hl, hos, fun H s1 s' o z => gx_own I4 hf o z, fun S s6 hS hist hk6 hos6 hg6 => ⟨hg.keeps hk6, hl.keeps hk6, .fresh c, by rw [hg6]; exact hgs, rfl, ?_⟩⟩
  refine wake B S _ hB (hfr.trans I4.ok.frames) hh hS hist hk6 (hos6.trans hos) ?_
  exact allBare_setGen (by rw [hg6]; exact hb) rfl
end
theorem vals_snoc {ys : List V} {vs : List Value} {y : V} {v : Value} (h : Vals ys vs) (r : RelV y v) : Vals (ys ++ [y]) (vs ++ [v]) := PySem.Paired.snoc h r
section
variable {P : Program} {w : World} {A : Around} {outer : List Env} {fp : List Addr} {H0 : Hp} {sc s : Shared} {a S : Addr} {g : Nat} {QE : List V → Hp → Prop} {R : Result → Shared → Prop}
/-- all values are put into the list at S -/
theorem extend_gxH (hh : A.handled = none) (hroom : A.depth < recursionLimit) (hSa : S ≠ a) (hSc : S ≠ cStatics) (res : Value)
    (hE : ∀ ys H s1 s' acc c, QE ys H → OutX P w outer fp H0 sc a g H s1 → H S = none → s'.heap.get? S = some { cls := .type "list", dict := none, data := .seq acc c, slots := #[] } → Vals ys acc.toList → ys.length ≤ sizeLine → Aft s1 s' → R (.ok (.ret res)) s') :
    ∀ (n : Nat) (s : Shared), 0 < n → GxAtH P w A.in1.in1 outer fp H0 sc a g S QE n s → codeAny (model P w) A (.builtin "list.extend.loop" ⟨[.ref S, .ref a, res], []⟩) R s := by
  intro n
  induction n with
  | zero => exact fun s h => absurd h (by decide)
  | succ n ih =>
    intro s _ hx
    have hgl : g < s.gens.size := let ⟨_, _, gs, hgs, _⟩ := hx; (Array.getElem?_eq_some_iff.mp hgs).1
    refine codeAny_builtin F.entry_extend_loop ?_
    rw [Around.under_plainId F.plain_extend_loop _]
    show wpAny _ A.in1 (pyNext (.ref a) >>= _) _ _ s
    refine wpAny_bind (wpAny_gsz (n := g + 1) hgl (next_gxH (A := A.in1) hh hroom (by omega) hx (fun ys v y H s1 gs' hn hlt hist rv ho hS0 hS1 hbare hgo => ?_) fun ys H s1 h' hn hist hq ho hS0 hS1 hk => ?_))
    · intro hsz
      have hsz1 : g < s1.gens.size := by
        have q : (s1.setGen g gs').gens.size = s1.gens.size := setGen_size _ _ _
        have hsz' : g + 1 ≤ (s1.setGen g gs').gens.size := hsz
        omega
      obtain ⟨acc, c, eS, va⟩ := hist
      have hS' : (s1.setGen g gs').heap.get? S = some { cls := .type "list", dict := none, data := .seq acc c, slots := #[] } := hS1 _ eS
      have asz : acc.size = ys.length := by
        have := va.length
        rw [this, Array.length_toList]
      show wpAny _ A.in1 (updateSeq S (·.push v) >>= _) _ _ _
      refine wpAny_bind ?_
      refine wpAny_updateSeq hS' rfl (wpAny_pure ⟨plainId_quiet F.plain_extend_loop _, ?_⟩) (by omega) (by show (acc.push v).size ≤ sizeLine + 1; rw [Array.size_push]; omega)
      have hupd := Heap.get?_update_self (h := s1.heap) (Obj.mapSeq (·.push v)) hS' rfl
      have kp : ∀ b o, b ∉ [S] → s1.heap.get? b = some o → (s1.heap.update S (Obj.mapSeq (·.push v))).get? b = some o := fun b o hb e =>
        (Heap.get?_update_other _ _ (fun h : S = b => hb (by rw [h]; exact List.mem_singleton.mpr rfl))).trans e
      refine ih _ (by omega) (hgo _ ⟨rfl, allBare_setGen ho.2.1 hbare, kp, fun b hb => ?_⟩ ⟨acc.push v, _, hupd, by rw [Array.toList_push]; exact vals_snoc va rv⟩ (by have q : (s1.setGen g gs').gens.size = s1.gens.size := setGen_size _ _ _; show g < (s1.setGen g gs').gens.size; omega) ?_ ?_ (setGen_at hsz1))
      · rw [List.mem_singleton.mp hb]
        exact ⟨_, hupd, fun v z => by cases z⟩
      · obtain ⟨o, nm, qn, ho', r⟩ := ho.2.2.2.2.1
        exact ⟨o, nm, qn, kp a o (by simp [Ne.symm hSa]) ho', r⟩
      · obtain ⟨mc, hns, hnn⟩ := ho.2.2.2.2.2
        exact ⟨mc, hns.at' fun o e => kp _ o (by simp [Ne.symm hSc]) e, hnn⟩
    · intro hsz
      obtain ⟨acc, c, eS, va⟩ := hist
      exact wpAny_pure (hE ys H s1 _ acc c hq ho hS0 (hk _ _ (hS1 _ eS)) va (by omega) ⟨rfl, allBare_setGen ho.2.1 rfl, hk⟩)
end
end
section
open PySem PySem.Spec PyProof.Rows L2 GenW
section
variable {P : Program} {w : World} {A : Around} {outer : List Env} {fp : List Addr} {H0 : Hp} {sc s : Shared} {a S : Addr} {g : Nat} {QY : Nat → Hp → Prop} {QE : Hp → Prop} {R : Result → Shared → Prop}
theorem sum_take {ns : List Int} {j : Nat} {n : Int} (h : ns[j]? = some n) : (ns.take (j + 1)).sum = (ns.take j).sum + n := by
  rw [List.take_add_one, h, List.sum_append]
  simp
theorem code_sum_gx {ns : List Int} (hh : A.handled = none) (hroom : A.depth < recursionLimit) (hSa : S ≠ a) (hSc : S ≠ cStatics)
    (fit : ∀ (j : Nat) n, ns[j]? = some n → (-(2 ^ 63) ≤ n ∧ n < 2 ^ 63) ∧ -(2 ^ 63) ≤ (ns.take (j + 1)).sum ∧ (ns.take (j + 1)).sum < 2 ^ 63)
    (hE : ∀ H s1 s' t, QE H → OutX P w outer fp H0 sc a g H s1 → Aft s1 s' → R (.ok (.ret (.int ns.sum t))) s') :
    ∀ (n j : Nat) (s : Shared) (tA : Tok) (c : Nat), n + j = sizeLine → s.heap.get? S = some { cls := .type "list", dict := none, data := .seq #[.int (ns.take j).sum tA] c, slots := #[] } →
      GxAt P w A.in1.in1 outer fp H0 sc a g [S] (ns.map V.int) QY QE n s → codeAny (model P w) A (.builtin "sum.loop" ⟨[.ref a, .ref S, rawInt 0, rawInt 0], []⟩) R s := by
  have fin : ∀ (j : Nat) (H : Hp) (s1 : Shared) (h' : Heap) (tA : Tok), j = (ns.map V.int).length → QE H → OutX P w outer fp H0 sc a g H s1 → (∀ b o, s1.heap.get? b = some o → h'.get? b = some o) →
      R (.ok (.ret (.int (ns.take j).sum tA))) { s1.setGen g .finished with heap := h' } := fun j H s1 h' tA hj hq ho hk => by
    rw [hj, List.length_map, List.take_length]
    exact hE H s1 _ tA hq ho ⟨rfl, allBare_setGen ho.2.1 rfl, hk⟩
  intro n
  induction n with
  | zero =>
    intro j s tA c hn hS hx
    refine codeAny_builtin F.entry_sum_loop ?_
    rw [Around.under_plainId F.plain_sum_loop _]
    show wpAny _ A.in1 (seqItems? (.ref S) >>= _) _ _ s
    refine wpAny_bind (wpAny_seqItems hS rfl ?_)
    show wpAny _ A.in1 (tryCatch (pyNext (.ref a)) _ >>= _) _ _ s
    refine wpAny_bind (wpAny_tryCatch (next_gx (A := A.in1) (fun b hb => by rw [List.mem_singleton.mp hb]; exact ⟨_, hS, fun v z => by cases z⟩) hh hroom hn hx (fun v y H s1 gs' _ _ _ _ _ h0 _ _ => absurd h0 (by omega)) fun H s1 h' hj hq ho _ hk => ?_))
    exact wpAny_pure (fin j H s1 h' tA hj hq ho hk)
  | succ n ih =>
    intro j s tA c hn hS hx
    have hgl : g < s.gens.size := let ⟨_, _, gs, hgs, _⟩ := hx; (Array.getElem?_eq_some_iff.mp hgs).1
    refine codeAny_builtin F.entry_sum_loop ?_
    rw [Around.under_plainId F.plain_sum_loop _]
    show wpAny _ A.in1 (seqItems? (.ref S) >>= _) _ _ s
    refine wpAny_bind (wpAny_seqItems hS rfl ?_)
    show wpAny _ A.in1 (tryCatch (pyNext (.ref a)) _ >>= _) _ _ s
    refine wpAny_bind (wpAny_tryCatch (wpAny_gsz (n := g + 1) hgl (next_gx (A := A.in1) (fun b hb => by rw [List.mem_singleton.mp hb]; exact ⟨_, hS, fun v z => by cases z⟩) hh hroom hn hx (fun v y H s1 gs' hvs rv hq ho hpr _ hbare hgo => ?_) fun H s1 h' hj hq ho _ hk => ?_)))
    · intro hsz
      have hsz1 : g < s1.gens.size := by
        have q : (s1.setGen g gs').gens.size = s1.gens.size := setGen_size _ _ _
        have hsz' : g + 1 ≤ (s1.setGen g gs').gens.size := hsz
        omega
      obtain ⟨b, hbj, rfl⟩ : ∃ b, ns[j]? = some b ∧ y = .int b := by
        rw [List.getElem?_map] at hvs
        cases e : ns[j]? with
        | none => rw [e] at hvs; cases hvs
        | some b => rw [e] at hvs; exact ⟨b, rfl, (Option.some.inj hvs).symm⟩
      obtain ⟨t, rfl⟩ : ∃ t, v = Value.int b t := rv
      have hS' : s1.heap.get? S = some { cls := .type "list", dict := none, data := .seq #[.int (ns.take j).sum tA] c, slots := #[] } := (hpr S (List.mem_singleton.mpr rfl)).2 _ hS
      obtain ⟨⟨f1, f2⟩, f3, f4⟩ := fit j b hbj
      rw [sum_take hbj] at f3 f4
      have hc : ((decide (-(2 ^ 63) ≤ b) && decide (b < 2 ^ 63)) && (decide (-(2 ^ 63) ≤ (ns.take j).sum + b) && decide ((ns.take j).sum + b < 2 ^ 63))) = true := by
        simp only [Bool.and_eq_true, decide_eq_true_eq]
        exact ⟨⟨f1, f2⟩, f3, f4⟩
      show wpAny _ A.in1 (if (_ : Bool) = true then (mkInt ((ns.take j).sum + b) >>= _) else _) _ _ _
      split
      · refine wpAny_bind (wpAny_mkInt ?_)
        refine wpAny_bind ?_
        refine wpAny_updateSeq (f := fun _ => #[.int ((ns.take j).sum + b) (s1.setGen g gs').toks]) (s := { s1.setGen g gs' with toks := (s1.setGen g gs').toks + 1 }) (show (s1.setGen g gs').heap.get? S = _ from hS') rfl (wpAny_pure ⟨plainId_quiet F.plain_sum_loop _, ?_⟩)
        have hupd := Heap.get?_update_self (h := s1.heap) (Obj.mapSeq (fun _ => #[.int ((ns.take j).sum + b) (s1.setGen g gs').toks])) hS' rfl
        have kp : ∀ b' o, b' ∉ [S] → s1.heap.get? b' = some o → (s1.heap.update S (Obj.mapSeq (fun _ => #[.int ((ns.take j).sum + b) (s1.setGen g gs').toks]))).get? b' = some o := fun b' o hb' e =>
          (Heap.get?_update_other _ _ (fun h : S = b' => hb' (by rw [h]; exact List.mem_singleton.mpr rfl))).trans e
        refine ih (j + 1) _ _ _ (by omega) (by rw [sum_take hbj]; exact hupd) (hgo _ ⟨rfl, allBare_setGen ho.2.1 hbare, kp, fun b' hb' => ?_⟩ (by have q : (s1.setGen g gs').gens.size = s1.gens.size := setGen_size _ _ _; show g < (s1.setGen g gs').gens.size; omega) ?_ ?_ (setGen_at hsz1))
        · rw [List.mem_singleton.mp hb']
          exact ⟨_, hupd, fun v z => by cases z⟩
        · obtain ⟨o, nm, qn, ho', r⟩ := ho.2.2.2.2.1
          exact ⟨o, nm, qn, kp a o (by simp [Ne.symm hSa]) ho', r⟩
        · obtain ⟨mc, hns, hnn⟩ := ho.2.2.2.2.2
          exact ⟨mc, hns.at' fun o e => kp _ o (by simp [Ne.symm hSc]) e, hnn⟩
      · rename_i hneg
        exact absurd hc hneg
    · intro hsz
      exact wpAny_pure (fin j H s1 h' tA hj hq ho hk)
end
end
section
open PySem PySem.Spec PyProof.Rows L2 GenW
/-- every number and every sum on the way fits 63 bits -/
def SumFits (ns : List Int) : Prop := ∀ (j : Nat) n, ns[j]? = some n → (-(2 ^ 63) ≤ n ∧ n < 2 ^ 63) ∧ -(2 ^ 63) ≤ (ns.take (j + 1)).sum ∧ (ns.take (j + 1)).sum < 2 ^ 63
theorem sum_bound {B : Int} : ∀ (ns : List Int), (∀ n ∈ ns, -B ≤ n ∧ n ≤ B) → -(B * ns.length) ≤ ns.sum ∧ ns.sum ≤ B * ns.length
  | [], _ => by simp
  | n :: ns, h => by
    have h1 := h n List.mem_cons_self
    have h2 := sum_bound ns fun m hm => h m (List.mem_cons_of_mem _ hm)
    have e : B * ((n :: ns).length : Int) = B * (ns.length : Int) + B := by
      rw [List.length_cons, Int.natCast_add, Int.mul_add]
      simp
    rw [e, List.sum_cons]
    omega
theorem sumFits_of {ns : List Int} (h : ∀ n ∈ ns, -1000000000 ≤ n ∧ n ≤ 1000000000) (hl : ns.length ≤ 1000000000) : SumFits ns := fun j n e => by
  have h1 := h n (List.mem_of_getElem? e)
  have h2 := sum_bound (B := 1000000000) (ns.take (j + 1)) fun m hm => h m (List.mem_of_mem_take hm)
  have h3 : ((ns.take (j + 1)).length : Int) ≤ 1000000000 := by
    have : (ns.take (j + 1)).length ≤ ns.length := List.length_take_le' _ _
    omega
  omega
section
variable {X : Cx} {own : List (Str × Nat)} {scope : Scope}
def tSumG (P : Addr) (wi : TI) (gt : TG) (tt : TT) (te : TE) (own : List Nat) : TE := fun σ H Q => ∃ ns : List Int, SumFits ns ∧ wi σ H fun J H1 => GxR.TabG H1 P ∧ ∀ H2, GxR.Tabbed P H1 H2 → GxR gt tt te own (ns.map V.int) (fun _ _ => True) (fun H' => Q (.int ns.sum) H') σ J H2
variable {c P : Addr} {elt tg iter : Expr} {ifs : List Expr} {gpos p pos : Pos} {wi : TI} {gt : TG} {tt : TT} {te : TE} {k : Nat}
theorem pe_sumG (hN : X.N.Nodup) (hr : Room (k + 3) X.A) (hgl : Gl X "sum") (hm : X.mg "sum" = none) (hbt : bootBuiltins "sum" = some (.builtin "sum")) (TB : GxR.TabB X.base X.mg c P) (hcode : X.env.code = .ref c) (L : GexS X.N X.env.scope scope own) (hi : PI X tg iter wi)
    (hg : ∀ (A : Around) (s : Shared) (H : Hp) (code : Value) (fp : List Addr) (pn : List (Addr × Obj)), PG (gexCx X A s H scope code fp pn) tg gt)
    (ht : ∀ (A : Around) (s : Shared) (H : Hp) (code : Value) (fp : List Addr) (pn : List (Addr × Obj)), Room k (A.deeper (gexEnv X scope s.heap.objs.size code)) → PTs (gexCx X A s H scope code fp pn) ifs tt)
    (he : ∀ (A : Around) (s : Shared) (H : Hp) (code : Value) (fp : List Addr) (pn : List (Addr × Obj)), Room k (A.deeper (gexEnv X scope s.heap.objs.size code)) → PE (gexCx X A s H scope code fp pn) elt te)
    (hs : ∀ v, genFold iter X.env v = pure v := by intro _; rfl)
    (hse : starEach [.GeneratorExp elt [⟨tg, iter, ifs, 0⟩] scope gpos] X.env = (false, eval (.GeneratorExp elt [⟨tg, iter, ifs, 0⟩] scope gpos) X.env) :: starEach [] X.env := by rfl) :
    PE X (.Call (.Name "sum" p) [.GeneratorExp elt [⟨tg, iter, ifs, 0⟩] scope gpos] [] pos) (tSumG P wi gt tt te (own.map (·.2))) := by
  refine ⟨fun pins s σ H Q I h => ?_⟩
  obtain ⟨ns, fit, h⟩ := h
  refine wpAny_Call_Name_kw (ld_blt I hgl hm hbt ?_)
  refine PyProof.Rows.callWith_builtin1 ?_ hse (by rfl)
  rw [hse]
  show wpAny _ _ (spliced ((false, eval (.GeneratorExp elt [⟨tg, iter, ifs, 0⟩] scope gpos) X.env) :: backTo pos (starEach [] X.env))) _ _ s
  refine Calls.spliced_cons (gx_made (QY := fun _ _ _ => True) (QE := fun _ H' => Q (.int ns.sum) H') hN (hr.mono (by omega)) TB hcode L hi hg ht he hs I h fun H2 u s5 m => ?_)
  refine Calls.spliced_nil ?_
  obtain ⟨s4, fp, a, g, rfl, hgen, ha5, hl, hos, ow, first⟩ := gx_first (B := X.A.in1.in1) (fun env => (Room.deeper (k := k) (hr.in1.in1) env)) rfl hr.hd m
  refine call_function_tree F.kind_sum F.plain_sum F.entry_sum (F.args_sum1 _) ?_
  unfold Builtin.«sum»
  simp only [List.length_cons, List.length_nil]
  rw [if_neg (by decide)]
  refine wpAny_bind (wpAny_of_eq (show Builtin.Builtins.bindParams "sum" ["start"] 0 { } = pure [none] from rfl) ?_)
  refine wpAny_bind (wpAny_pyIter_gen hgen ?_)
  refine wpAny_bind (wpAny_mkInt ?_)
  refine wpAny_bind (wpAny_pure ?_)
  simp only [List.forIn_cons, List.forIn_nil]
  refine wpAny_bind (wpAny_bind (wpAny_bind (wpAny_isInstance (T := "int") (b := false) (typeIs_int _ _ _) PySem.sub_int_str ?_)))
  simp only [Bool.false_eq_true, if_false]
  refine wpAny_pure (wpAny_bind (wpAny_bind (wpAny_isInstance (T := "int") (b := false) (typeIs_int _ _ _) PySem.sub_int_bytes ?_)))
  simp only [Bool.false_eq_true, if_false]
  refine wpAny_pure (wpAny_bind (wpAny_bind (wpAny_isInstance (T := "int") (b := false) (typeIs_int _ _ _) PySem.sub_int_bytearray ?_)))
  simp only [Bool.false_eq_true, if_false]
  refine wpAny_pure (wpAny_pure ?_)
  refine wpAny_bind (wpAny_newObj_type ?_)
  have hcl : cStatics < s5.heap.objs.size := let ⟨_, hn, _⟩ := hl; hn.lt
  have hS : (s5.heap.push { cls := .type "list", data := .seq #[.int 0 s5.toks] }).get? s5.heap.objs.size = some { cls := .type "list", data := .seq #[.int 0 s5.toks] } := Heap.get?_push_size _ rfl
  refine wpAny_pure ⟨plainId_quiet F.plain_sum_loop _, code_sum_gx (S := s5.heap.objs.size) (ns := ns) hr.hd (by have := hr.dp; omega) (Nat.ne_of_gt ha5) (Nat.ne_of_gt hcl) fit (fun H s1 s' t hq ho hz => ?_) sizeLine 0 _ s5.toks 0 (Nat.add_zero _) hS
    (first [s5.heap.objs.size] _ (fun b hb => by rw [List.mem_singleton.mp hb]; exact ⟨Nat.le_refl _, _, hS, fun v z => by cases z⟩) (fun _ _ e => Heap.get?_push_of_some _ e) rfl rfl)⟩
  exact ⟨.int ns.sum, H, ow H s1 s' ho hz, ⟨t, rfl⟩, hq⟩
end
end
section
open PySem PySem.Spec PyProof.Rows L2 GenW
section
variable {P : Program} {w : World} {A : Around} {E : Value → Shared → Prop} {outer : List Env} {fp : List Addr} {H0 : Hp} {sc s : Shared} {a : Addr} {g : Nat} {QE : List V → Hp → Prop}
/-- what a sleeping generator wants of the list that its values go to -/
abbrev Ready (P : Program) (w : World) (B : Around) (outer : List Env) (fp : List Addr) (H0 : Hp) (sc : Shared) (a : Addr) (g : Nat) (QE : List V → Hp → Prop) (s5 : Shared) : Prop :=
  ∀ (S : Addr) (s6 : Shared), s5.heap.objs.size ≤ S → HistAt S [] s6 → (∀ b o, s5.heap.get? b = some o → s6.heap.get? b = some o) → s6.os = s5.os → s6.gens = s5.gens → GxAtH P w B outer fp H0 sc a g S QE (sizeLine + 1) s6
theorem collect_gxH {Q : List Value → Shared → Prop} (hh : A.handled = none) (hroom : A.depth < recursionLimit) (hg : s.heap.IsGen a g) (ha : a < s.heap.objs.size) (hl : s.heap.NoLimit) (rd : Ready P w A.in1.in1 outer fp H0 sc a g QE s)
    (hQ : ∀ ys H s1 s' vs, QE ys H → OutX P w outer fp H0 sc a g H s1 → Vals ys vs → ys.length ≤ sizeLine → Aft s1 s' → Q vs s') : wpAny (model P w) A (collect (.ref a)) Q E s := by
  let n := s.heap.objs.size
  have na : n ≠ a := Nat.ne_of_gt ha
  have nc : n ≠ cStatics := Nat.ne_of_gt (let ⟨_, hn, _⟩ := hl; hn.lt)
  let l0 : Obj := { cls := .type "list", data := .seq ([] : List Value).toArray }
  let h1 := s.heap.push l0
  have at1 : h1.get? n = some l0 := Heap.get?_push_size _ rfl
  have keep1 : ∀ b o, s.heap.get? b = some o → h1.get? b = some o := fun b o e => Heap.get?_push_of_some _ e
  have g1 : h1.IsGen a g := hg.keeps keep1
  have ty : ∀ s' : Shared, s'.heap.IsGen a g → s'.TypeIs (.ref a) "generator" := fun s' z => z.typeIs
  unfold collect
  refine wpAny_bind (wpAny_runValue (codeAny_builtin F.entry_proto_collect ?_))
  rw [Around.under_plainId F.plain_proto_collect _]
  show wpAny _ A.in1 (newList [] >>= fun l => again (.builtin "list.__iadd__" ⟨[l, .ref a], []⟩)) _ _ s
  refine wpAny_bind (wpAny_newObj_type (wpAny_pure ⟨plainId_quiet F.plain_list_iadd _, codeAny_builtin F.entry_list_iadd ?_⟩))
  rw [Around.under_plainId F.plain_list_iadd _]
  show wpAny _ A.in1 (Builtin.List.listExtendWith (.ref n) (.ref a) (.ref n)) _ _ { s with heap := h1 }
  unfold Builtin.List.listExtendWith
  refine wpAny_bind (wpAny_typeOf (ty { s with heap := h1 } g1) ?_)
  have c1 : Builtin.List.listSameRef (.ref n) (.ref a) = false := by simp [Builtin.List.listSameRef, na]
  have c2 : (Value.type "generator" == Value.type "list") = false := by decide
  have c3 : (Value.type "generator" == Value.type "tuple") = false := by decide
  simp only [c1, c2, c3, Bool.or_false, Bool.false_eq_true, if_false]
  refine wpAny_bind (wpAny_pyIter_gen g1 (wpAny_bind (wpAny_holding ?_)))
  unfold Builtin.List.listLengthHint
  refine wpAny_bind (wpAny_specialOf (ty { s with heap := h1 } g1) F.gen_no_len ?_)
  show wpAny _ A.in1 (specialOf (Value.ref a) (Str.ofString "__length_hint__") >>= _) _ _ { s with heap := h1 }
  refine wpAny_bind (wpAny_specialOf (ty { s with heap := h1 } g1) F.gen_no_hint (wpAny_pure ?_))
  show wpAny _ A.in1 (rule "list.extend.makes-room" >>= fun _ => Builtin.List.listTouch (.ref n) >>= fun _ => again (.builtin "list.extend.loop" ⟨[.ref n, .ref a, .ref n], []⟩)) _ _ { s with heap := h1 }
  refine wpAny_bind (wpAny_rule (wpAny_bind ?_))
  show wpAny _ A.in1 (updateSeq n (·.push .none) >>= fun _ => updateSeq n (·.pop)) _ _ { s with heap := h1 }
  let h2 := h1.update n (Obj.mapSeq (·.push Value.none))
  have at2 := Heap.get?_update_self (Obj.mapSeq (·.push Value.none)) at1 rfl
  let h3 := h2.update n (Obj.mapSeq (·.pop))
  have at3 := Heap.get?_update_self (Obj.mapSeq (·.pop)) at2 rfl
  refine wpAny_bind (wpAny_updateSeq at1 rfl (wpAny_updateSeq at2 rfl (wpAny_pure ⟨plainId_quiet F.plain_extend_loop _, ?_⟩)))
  have keep3 : ∀ b o, s.heap.get? b = some o → h3.get? b = some o := fun b o e => by
    have nb : n ≠ b := Nat.ne_of_gt (Heap.lt_size e)
    exact (Heap.get?_update_other _ _ nb).trans ((Heap.get?_update_other _ _ nb).trans (keep1 b o e))
  refine extend_gxH hh hroom na nc _ (fun ys H s1 s' acc c hq ho hS0 eS va hlen aft => ?_) (sizeLine + 1) _ (Nat.succ_pos _) (rd n { s with heap := h3 } (Nat.le_refl _) ⟨_, _, at3, .nil⟩ keep3 rfl rfl)
  show wpAny _ A (load n >>= _) _ _ s'
  exact wpAny_bind (wpAny_load eS (wpAny_pure (hQ ys H s1 s' acc.toList hq ho va hlen aft)))
theorem new_tuple_gxH {Q : Value → Shared → Prop} (hh : A.handled = none) (hroom : A.in1.depth < recursionLimit) (hg : s.heap.IsGen a g) (ha : a < s.heap.objs.size) (hl : s.heap.NoLimit) (rd : Ready P w A.in1.in1.in1 outer fp H0 sc a g QE s)
    (hQ : ∀ ys H s1 s' vs, QE ys H → OutX P w outer fp H0 sc a g H s1 → Vals ys vs → ys.length ≤ sizeLine → Aft s1 s' → Q (.ref s'.heap.objs.size) { s' with heap := s'.heap.push { cls := .type "tuple", data := .seq vs.toArray } }) :
    codeAny (model P w) A (.call (.builtin "tuple.__new__") ⟨[.type "tuple", .ref a], []⟩) (wants Q E) s := by
  refine codeAny_of_tree ?_
  show wpAny _ A.in1 (checkBuiltinCall "tuple.__new__" ⟨[.type "tuple", .ref a], []⟩ >>= fun _ => again (.builtin "tuple.__new__" ⟨[.type "tuple", .ref a], []⟩)) _ _ s
  refine wpAny_bind (wpAny_of_eq (F.newCall_tuple_1 _) (wpAny_pure ⟨plainId_quiet F.plain_tuple_new _, codeAny_builtin F.entry_tuple_new ?_⟩))
  rw [Around.under_plainId F.plain_tuple_new _]
  have tT : s.TypeIs (.ref a) "generator" := hg.typeIs
  have e1 := sub_tuple_self
  have e2 := init_tuple_lookup
  have e3 := madeHere_tuple
  have col := fun (Q' : List Value → Shared → Prop) (E' : Value → Shared → Prop) => collect_gxH (Q := Q') (E := E') (A := A.in1) hh hroom hg ha hl rd
  wp_walk using wpAny_typeOf tT, col
  intro ys H s1 s' vs hq ho va hlen aft
  show wpAny _ _ (Builtin.Tuple.tupleExact vs.toArray >>= fun v => ret v) _ _ _
  unfold Builtin.Tuple.tupleExact
  refine wpAny_bind (wpAny_newObj_type (wpAny_pure ?_) (by show vs.toArray.size ≤ sizeLine; rw [List.size_toArray, ← va.length]; exact hlen))
  exact hQ ys H s1 s' vs hq ho va hlen aft
theorem call_tuple_gxH {Q : Value → Shared → Prop} (hh : A.handled = none) (hroom : A.in1.in1.depth < recursionLimit) (hg : s.heap.IsGen a g) (ha : a < s.heap.objs.size) (hl : s.heap.NoLimit) (rd : Ready P w A.in1.in1.in1.in1 outer fp H0 sc a g QE s)
    (hQ : ∀ ys H s1 s' vs, QE ys H → OutX P w outer fp H0 sc a g H s1 → Vals ys vs → ys.length ≤ sizeLine → Aft s1 s' → Q (.ref s'.heap.objs.size) { s' with heap := s'.heap.push { cls := .type "tuple", data := .seq vs.toArray } }) :
    wpAny (model P w) A (call (.type "tuple") [.ref a]) Q E s := by
  refine callType_codes (Q₁ := fun obj s₁ => s₁.TypeIs obj "tuple" ∧ Q obj s₁) F.called_tuple (F.typeCall_tuple_1 _) F.entry_object_init
    (new_tuple_gxH (A := A.in1) hh hroom hg ha hl rd fun ys H s1 s' vs hq ho va hlen aft => ⟨⟨_, Heap.get?_push_size _ rfl, rfl⟩, hQ ys H s1 s' vs hq ho va hlen aft⟩) fun obj s₁ h₁ => ?_
  exact ⟨h₁.1, F.args_object_init_2 obj _, object_init_meets F.called_tuple.init.lookup F.called_tuple.made (by decide) P w A.in1 _ s₁ ⟨h₁.1, rfl, h₁.2⟩⟩
end
section
variable {X : Cx} {own : List (Str × Nat)} {scope : Scope}
/-- tuple(.. for ..): a new tuple of all that is yielded -/
def tTupG (P : Addr) (wi : TI) (gt : TG) (tt : TT) (te : TE) (own : List Nat) : TE := fun σ H Q => wi σ H fun J H1 => GxR.TabG H1 P ∧ ∀ H2, GxR.Tabbed P H1 H2 → GxH gt tt te own (fun ys H' => ∀ q, H' q = none → Q (.ref q) (upd H' q (.tup ys))) σ J H2
variable {c P : Addr} {elt tg iter : Expr} {ifs : List Expr} {gpos p pos : Pos} {wi : TI} {gt : TG} {tt : TT} {te : TE} {k : Nat}
theorem pe_tupG (hN : X.N.Nodup) (hr : Room (k + 5) X.A) (hgl : Gl X "tuple") (hm : X.mg "tuple" = none) (TB : GxR.TabB X.base X.mg c P) (hcode : X.env.code = .ref c) (L : GexS X.N X.env.scope scope own) (hi : PI X tg iter wi)
    (hg : ∀ (A : Around) (s : Shared) (H : Hp) (code : Value) (fp : List Addr) (pn : List (Addr × Obj)), PG (gexCx X A s H scope code fp pn) tg gt)
    (ht : ∀ (A : Around) (s : Shared) (H : Hp) (code : Value) (fp : List Addr) (pn : List (Addr × Obj)), Room k (A.deeper (gexEnv X scope s.heap.objs.size code)) → PTs (gexCx X A s H scope code fp pn) ifs tt)
    (he : ∀ (A : Around) (s : Shared) (H : Hp) (code : Value) (fp : List Addr) (pn : List (Addr × Obj)), Room k (A.deeper (gexEnv X scope s.heap.objs.size code)) → PE (gexCx X A s H scope code fp pn) elt te)
    (hs : ∀ v, genFold iter X.env v = pure v := by intro _; rfl)
    (hse : starEach [.GeneratorExp elt [⟨tg, iter, ifs, 0⟩] scope gpos] X.env = (false, eval (.GeneratorExp elt [⟨tg, iter, ifs, 0⟩] scope gpos) X.env) :: starEach [] X.env := by rfl) :
    PE X (.Call (.Name "tuple" p) [.GeneratorExp elt [⟨tg, iter, ifs, 0⟩] scope gpos] [] pos) (tTupG P wi gt tt te (own.map (·.2))) := by
  refine ⟨fun pins s σ H Q I h => ?_⟩
  refine wpAny_Call_Name_kw (ld_blt I hgl hm boot_tuple ?_)
  refine PyProof.Rows.callWith_type1 ?_ hse (by rfl)
  rw [hse]
  show wpAny _ _ (spliced ((false, eval (.GeneratorExp elt [⟨tg, iter, ifs, 0⟩] scope gpos) X.env) :: backTo pos (starEach [] X.env))) _ _ s
  refine Calls.spliced_cons (gx_madeH (QE := fun _ ys H' => ∀ q, H' q = none → Q (.ref q) (upd H' q (.tup ys))) hN (hr.mono (by omega)) TB hcode L hi hg ht he hs I h fun H2 u s5 m => ?_)
  refine Calls.spliced_nil ?_
  obtain ⟨s4, fp, a, g, rfl, hgen, ha5, hl, hos, ow, first⟩ := gx_firstH (B := X.A.in1.in1.in1.in1) (fun env => (Room.deeper (k := k) (hr.in1.in1.in1.in1) env)) rfl hr.hd m
  refine call_tuple_gxH hr.hd (by have := hr.dp; exact (by omega : X.A.depth < recursionLimit)) hgen ha5 hl first fun ys H s1 s' vs hq ho va hlen aft => ?_
  have I1 := ow H s1 s' ho aft
  have I2 : Inv X pins σ (upd H s'.heap.objs.size (.tup ys)) { s' with heap := s'.heap.push { cls := .type "tuple", data := .seq vs.toArray } } :=
    I1.laid (t' := s'.toks) (fun b o e => Heap.get?_push_of_some _ e) (Nat.le_refl _) (show ObjOk X.prog X.w _ _ _ (.tup ys) from ⟨hlen, vs, va, IsTup.new _ _⟩)
  exact ⟨.ref s'.heap.objs.size, _, I2, rfl, hq _ (I1.hok.fresh (Nat.le_refl _))⟩
end
end
section
open PySem L2 LamX PySem.Spec PyProof.Rows
section
variable {X : Cx}
/-! ### {row} of a row of a word and, perhaps, a number -/
def rowCost (w : Str) : Nat := 10 * w.length + 1000
def tFmtRow (te : TE) : TE := fun σ H Q => te σ H fun x H1 => ∃ (a : Addr) (w : Str) (rest : List V), x = .ref a ∧ H1 a = some (.tup (.str w :: rest)) ∧ (rest = [] ∨ ∃ n : Int, rest = [.int n] ∧ n.natAbs < 2 ^ 64) ∧ PyData.strOk w = true ∧ w.length ≤ 20 ∧ ∀ m : Str, m.length ≤ 3000 → Q (.str m) H1
theorem str_small {w : Str} (h : PyData.strOk w = true) : ∀ c ∈ w.cps.toList, c < 16 ^ 8 := by
  intro c hc
  have h1 : w.cps.all (· < 0x110000) = true := h
  rw [Array.all_eq_true_iff_forall_mem] at h1
  have := h1 c (by simpa using hc)
  simp at this
  omega
theorem repr_small {w : Str} (h : PyData.strOk w = true) (hl : w.length ≤ 20) : (reprText w).length ≤ 202 := by
  have := StrLaws.reprText_len w (str_small h)
  omega
theorem log_small {n : Int} (h : n.natAbs < 2 ^ 64) : n.natAbs.log2 < 1920 := by
  by_cases h0 : n.natAbs = 0
  · rw [h0]; decide
  · have := (Nat.log2_lt h0).mpr h
    omega
theorem pe_fmtRow {e : Expr} {te : TE} {pos : Pos} {k : Nat} (hr : Room k X.A) (he : PE X e te) : PE X (.FormattedValue e (-1) none pos) (tFmtRow te) := by
  refine ⟨fun pins s σ H Q I h => ?_⟩
  refine wpAny_FormattedValue_plain (thn (he.run pins s σ H _ I h) fun v s1 hv => ?_)
  obtain ⟨x, H1, I1, r1, a, w, rest, rfl, ht, hrest, hw, hl, q⟩ := hv
  cases r1
  obtain ⟨its, rv, ⟨o, ho, hcl, n, hd⟩, _⟩ := I1.tuple (SqT.of ht)
  have hu := hr.units
  have hz : 4000 ≤ sizeLine := by decide
  have r0 := repr_small hw hl
  cases rv with
  | cons rw_ rr =>
    obtain ⟨tk, rfl⟩ := rw_
    have w1 : ReprIs X.prog X.w (.str w tk) (reprText w) := ReprIs.str w tk (by omega)
    rcases hrest with rfl | ⟨m, rfl, hm⟩
    · cases rr
      have tt := fmt_text [reprText w]
      have pl : piled [reprText w] ≤ 204 := by
        rw [piled_cons]
        have : piled ([] : List Str) = 0 := rfl
        omega
      exact fmt_tuple (ts := [reprText w]) (by omega) ho hcl hd (.cons w1 .nil) (by omega) fun m u tk hm => ⟨.str m, H1, I1.tok _, ⟨u, rfl⟩, q m (by omega)⟩
    · cases rr with
      | cons rm rn =>
        cases rn
        obtain ⟨tm, rfl⟩ := rm
        have lm : (Str.ofString (toString m)).length ≤ 1921 := int_text_len_1921 (log_small hm)
        have w2 : ReprIs X.prog X.w (.int m tm) (toString m) := ReprIs.int tm (log_small hm)
        have tt := fmt_text [reprText w, (toString m : String)]
        have pl : piled [reprText w, ((toString m : String) : Str)] ≤ 2130 := by
          rw [piled_cons, piled_cons]
          have e0 : piled ([] : List Str) = 0 := rfl
          have e1 : ((toString m : String) : Str).length ≤ 1921 := lm
          omega
        exact fmt_tuple (ts := [reprText w, (toString m : String)]) (by omega) ho hcl hd (.cons w1 (.cons w2 .nil)) (by omega) fun m u tk hm => ⟨.str m, H1, I1.tok _, ⟨u, rfl⟩, q m (by omega)⟩
/-! ### raise X(f'..'): what its parts ask -/
abbrev TxtP := L2.St → Hp → Prop
def tTxt (P : TxtP) : TE := fun σ H Q => P σ H ∧ ∀ m : Str, m.length ≤ 3000 → Q (.str m) H
inductive PT3 (X : Cx) : List Expr → List TxtP → Prop where
  | nil : PT3 X [] []
  | cons {e : Expr} {t : TxtP} {es : List Expr} {ts : List TxtP} (h : PE X e (tTxt t)) (r : PT3 X es ts) : PT3 X (e :: es) (t :: ts)
theorem PT3.pj {es : List Expr} {ts : List TxtP} (h : PT3 X es ts) : PJ X es (ts.map tTxt) := by
  induction h with
  | nil => exact .nil
  | cons h _ ih => exact .cons h ih
theorem js_by {σ : L2.St} {H : Hp} {Q : Str → Hp → Prop} (q : ∀ m, Q m H) : ∀ (ts : List TxtP) (acc : Str), (∀ P ∈ ts, P σ H) → acc.length + 3000 * ts.length ≤ sizeLine → tJs (ts.map tTxt) acc σ H Q
  | [], acc, _, _ => q acc
  | t :: ts, acc, h, hl => by
    rw [List.length_cons] at hl
    refine ⟨h t List.mem_cons_self, fun m hm => ⟨m, rfl, ?_, js_by q ts (acc ++ m) (fun P hP => h P (List.mem_cons_of_mem _ hP)) ?_⟩⟩
    · rw [strLen_append]
      omega
    · rw [strLen_append]
      omega
def allP : List TxtP → TxtP
  | [], _, _ => True
  | P :: ps, σ, H => P σ H ∧ allP ps σ H
theorem allP_mem : ∀ {ts : List TxtP} {σ : L2.St} {H : Hp}, allP ts σ H → ∀ P ∈ ts, P σ H
  | [], _, _, _, P, h => (by cases h)
  | Q :: ts, σ, H, h, P, hP => by
    rcases List.mem_cons.mp hP with e | e
    · rw [e]; exact h.1
    · exact allP_mem h.2 P e
theorem allP_0 {σ : L2.St} {H : Hp} : allP [] σ H = True := rfl
theorem allP_c {P : TxtP} {ps : List TxtP} {σ : L2.St} {H : Hp} : allP (P :: ps) σ H = (P σ H ∧ allP ps σ H) := rfl
def tRaiseF (C : Addr) (W : WX) (ts : List TxtP) : TS := fun _ σ H => allP ts σ H ∧ W (.ref C) none σ H
theorem ps_raiseF {C : Addr} {bmB : List Value} {B newId initId : String} {W : WX} {x : Str} {v1 v2 : Expr} {rest : List Expr} {ts : List TxtP} {p pos jp pos2 : Pos} (hc : X.calm = true) (tk : Takes X W) (F : ExcBaseFacts B newId initId bmB) (q : PySem.W.excIn X.K C bmB newId = true) (gC : X.mg x = some (.ref C)) (kC : PySem.W.keepIn X.K (.ref C) = true) (r : Raises X (.ref C)) (hg : Gl X x)
    (h : PT3 X (v1 :: v2 :: rest) ts) (hn : ts.length ≤ 20 := by decide) (hs : starEach [.JoinedStr (v1 :: v2 :: rest) jp] X.env = (false, eval (.JoinedStr (v1 :: v2 :: rest) jp) X.env) :: starEach [] X.env := by rfl) (hdb : (x == ("__debug__" : Str)) = false := by decide) :
    PS X (.Raise (some (.Call (.Name x p) [.JoinedStr (v1 :: v2 :: rest) jp] [] pos)) none pos2) (tRaiseF C W ts) := by
  refine PS.weaken (ps_raise hc tk (SkE.pmk_own1 F q gC kC r hg (pe_joined h.pj) hs hdb)) fun D σ H k => ?_
  refine js_by (fun m => k.2) ts Str.empty (allP_mem k.1) ?_
  have hz : 70000 ≤ sizeLine := by decide
  have e0 : Str.empty.length = 0 := rfl
  omega
theorem pt_str {m : Str} {j : Nat} {pos : Pos} (h : m.length ≤ 3000 := by decide) : PE X (.Constant (.str m) j pos) (tTxt fun _ _ => True) :=
  PE.weaken pe_str fun σ H Q k => k.2 m h
theorem pt_row {e : Expr} {te : TE} {pos : Pos} {k : Nat} (hr : Room k X.A) (he : PE X e te) : PE X (.FormattedValue e (-1) none pos) (tTxt fun σ H => te σ H fun x H1 => H1 = H ∧ ∃ (a : Addr) (w : Str) (rest : List V), x = .ref a ∧ H a = some (.tup (.str w :: rest)) ∧ (rest = [] ∨ ∃ n : Int, rest = [.int n] ∧ n.natAbs < 2 ^ 64) ∧ PyData.strOk w = true ∧ w.length ≤ 20) := by
  refine PE.weaken (pe_fmtRow hr (PE.clo he)) fun σ H Q h => ⟨_, h.1, fun v H' q => ?_⟩
  obtain ⟨rfl, a, w, rest, e1, e2, e3, e4, e5⟩ := q
  exact ⟨a, w, rest, e1, e2, e3, e4, e5, h.2⟩
theorem pt_int {e : Expr} {te : TE} {pos : Pos} (he : PE X e te) : PE X (.FormattedValue e (-1) none pos) (tTxt fun σ H => te σ H fun x H1 => H1 = H ∧ ∃ i : Int, x = .int i ∧ i.natAbs < 2 ^ 64) := by
  refine PE.weaken (pe_fmt (PE.clo he)) fun σ H Q h => ⟨_, h.1, fun v H' q => ?_⟩
  obtain ⟨rfl, i, e, hi⟩ := q
  exact .inr ⟨i, e, log_small hi, h.2 _ (by have := int_text_len_1921 (log_small hi); omega)⟩
theorem pt_word {e : Expr} {te : TE} {pos : Pos} (he : PE X e te) : PE X (.FormattedValue e (-1) none pos) (tTxt fun σ H => te σ H fun x H1 => H1 = H ∧ ∃ y : Str, x = .str y ∧ y.length ≤ 3000) := by
  have hz : 4000 ≤ sizeLine := by decide
  refine PE.weaken (pe_fmt (PE.clo he)) fun σ H Q h => ⟨_, h.1, fun v H' q => ?_⟩
  obtain ⟨rfl, y, e, hy⟩ := q
  exact .inl ⟨y, e, by omega, h.2 y hy⟩
/-- isinstance(x, int), x a whole number -/
theorem call_isiI : CallR X (.builtin "isinstance") (fun xs H Q => ∃ i, xs = [.int i, .ty "int"] ∧ Q (.bl true) H) := fun pins s σ H xs us Q I rs h => by
  obtain ⟨i, rfl, q⟩ := h
  exact call_isi pins s σ H _ us Q I rs ⟨.int i, .ty "int", Value.type "int", Value.type "int", true, rfl, .ty _, .base (.int _), kit_ty (by decide +kernel), q⟩
/-! ### in-place operators of fields -/
theorem in_and : InOp X .BitAnd (rI0 fun i j => .int (Builtin.bitAnd i j)) := by
  rintro pins s σ H x y u v Q I rx ry ⟨i, j, rfl, rfl, q⟩
  obtain ⟨t, rfl⟩ := (show ∃ t, u = Value.int i t from rx)
  obtain ⟨t', rfl⟩ := (show ∃ t', v = Value.int j t' from ry)
  exact PyProof.Rows.iand_int ⟨.int (Builtin.bitAnd i j), H, I.tok _, ⟨_, rfl⟩, q⟩
theorem in_xor : InOp X .BitXor (rI0 fun i j => .int (Builtin.bitXor i j)) := by
  rintro pins s σ H x y u v Q I rx ry ⟨i, j, rfl, rfl, q⟩
  obtain ⟨t, rfl⟩ := (show ∃ t, u = Value.int i t from rx)
  obtain ⟨t', rfl⟩ := (show ∃ t', v = Value.int j t' from ry)
  exact PyProof.Rows.ixor_int ⟨.int (Builtin.bitXor i j), H, I.tok _, ⟨_, rfl⟩, q⟩
theorem in_shr : InOp X .RShift (rI (fun _ j => 0 ≤ j) fun i j => .int (i.fdiv (2 ^ j.toNat))) := by
  rintro pins s σ H x y u v Q I rx ry ⟨i, j, rfl, rfl, hj, q⟩
  obtain ⟨t, rfl⟩ := (show ∃ t, u = Value.int i t from rx)
  obtain ⟨t', rfl⟩ := (show ∃ t', v = Value.int j t' from ry)
  exact PyProof.Rows.irshift_int hj ⟨.int (i.fdiv (2 ^ j.toNat)), H, I.tok _, ⟨_, rfl⟩, q⟩
/-! ### x in a tuple that is written on the spot -/
def rInT (neg : Bool) : R2 := fun x y H Q => ∃ p xs, y = .ref p ∧ H p = some (.tup xs) ∧ flatV x = true ∧ xs.all flatV = true ∧ Q (.bl (if neg then !inV x xs else inV x xs)) H
theorem op_inT : OpR X (compareOp .In) (rInT false) := OpR.weaken op_in_seq fun x y H Q ⟨p, xs, e, h, f, g, q⟩ => ⟨p, xs, e, .inr (SqT.of h), f, g, q⟩
theorem op_notInT : OpR X (compareOp .NotIn) (rInT true) := OpR.weaken op_notIn_seq fun x y H Q ⟨p, xs, e, h, f, g, q⟩ => ⟨p, xs, e, .inr (SqT.of h), f, g, q⟩
theorem e_rInT {neg : Bool} {x : V} {a : Addr} {H : Hp} {Q : VK} : rInT neg x (.ref a) H Q = onTup (H a) fun xs => flatV x = true ∧ xs.all flatV = true ∧ Q (.bl (if neg then !inV x xs else inV x xs)) H := by
  simp only [rInT, onTup]
  simp
end
theorem cx_K {CXx : CXT} {P : Program} {w : World} {K : PySem.W.Frag} {mg : Str → Option Value} {base : Heap} {N : List Str} {q : Str} {sc : Scope} {f : Addr} {cdv : Value} {A : Around} {outer : List Env} {s : Shared} {H : Hp} {E : XK} : (cxOf CXx P w K mg base N q sc f cdv A outer s H E).K = K := rfl
theorem tRaiseF_ {C : Addr} {W : WX} {ts : List TxtP} {D : Ends} {σ : L2.St} {H : Hp} : tRaiseF C W ts D σ H = (allP ts σ H ∧ W (.ref C) none σ H) := rfl
theorem put_0 {f : Str} {v : V} : putF f v [] = [(f, v)] := rfl
theorem put_c {f g : Str} {v u : V} {r : List (Str × V)} : putF f v ((g, u) :: r) = if g = f then (g, v) :: r else (g, u) :: putF f v r := rfl
theorem look_0 {f : Str} : List.lookup f ([] : List (Str × V)) = none := rfl
theorem look_c {f g : Str} {u : V} {r : List (Str × V)} : List.lookup f ((g, u) :: r) = if f = g then some u else List.lookup f r := by
  rw [List.lookup_cons]
  by_cases h : f = g
  · rw [if_pos h, h]
    simp
  · rw [if_neg h]
    have : (f == g) = false := by simpa using h
    rw [this]
theorem ex_int {i : Int} {p : Int → Prop} : (∃ j, V.int i = V.int j ∧ p j) = p i := by simp
theorem ex_str {i : Str} {p : Str → Prop} : (∃ j, V.str i = V.str j ∧ p j) = p i := by simp
theorem cast1 : ((1 : Nat) : Int) = 1 := rfl
theorem cast2 : ((2 : Nat) : Int) = 2 := rfl
theorem flat_strs : ∀ {ys : List Str}, (ys.map V.str).all flatV = true
  | [] => rfl
  | y :: ys => by
    rw [List.map_cons, List.all_cons, flat_strs]
    rfl
theorem inV_strs {w : Str} : ∀ {ys : List Str}, inV (.str w) (ys.map V.str) = decide (w ∈ ys)
  | [] => by simp
  | y :: ys => by
    rw [List.map_cons, inV_cons, inV_strs, eqV_ss]
    by_cases h : w = y
    · simp [h]
    · have : ¬ y = w := fun e => h e.symm
      simp [h, this]
theorem ex_isi {n : Int} {t : String} {p : Prop} : (∃ i, [V.int n, V.ty t] = [V.int i, V.ty t] ∧ p) = p := propext ⟨fun ⟨_, _, q⟩ => q, fun q => ⟨n, rfl, q⟩⟩
end
section
open PySem L2
def top (i : Nat) : Stmt := PySem.Challenge.pw_chipstack_k11_code_as_lines.main.body.getD i (.Pass ⟨0, 0, 0, 0⟩)


def cIs : List Str := List.map Str.ofString ["halt", "set", "load", "store", "add", "sub", "and", "xor", "jump", "zero", "less", "out", "in", "half", "from", "to"]
def cI : List V := cIs.map V.str
/-- the defs of the law, as the top has written them -/
structure TLaw (K : PySem.W.Frag) (mg : Str → Option Value) (a_INSTRUCTIONS fDice fRoll : Addr) (fdDice fdRoll : FuncData) : Prop where
  z_abs : mg "abs" = none
  z_int : mg "int" = none
  z_min : mg "min" = none
  z_range : mg "range" = none
  z_max : mg "max" = none
  z_tuple : mg "tuple" = none
  g_INSTRUCTIONS : mg "INSTRUCTIONS" = some (.ref a_INSTRUCTIONS)
  w_INSTRUCTIONS : Wr K a_INSTRUCTIONS cI
  m__law_dice : mg "_law_dice" = some (.ref fDice)
  f__law_dice : Fun K "_law_dice" "_law_dice" (top 22) fDice fdDice
  b__law_dice : L2.Binds K fdDice ["cell"] []
  m__law_roll : mg "_law_roll" = some (.ref fRoll)
  f__law_roll : Fun K "_law_roll" "_law_roll" (top 23) fRoll fdRoll
  b__law_roll : L2.Binds K fdRoll ["dice", "many"] []
def spDice : Sp := fun vs H Q _ => ∃ c : Int, vs = [.int c] ∧ ∀ p x y z, H p = none → Q (.ref p) (upd H p (.lst [.int x, .int y, .int z]))
def spRoll : Sp := fun vs H Q _ => ∃ (a : Addr) (many : Int) (x y z : Int), vs = [.ref a, .int many] ∧ H a = some (.lst [.int x, .int y, .int z]) ∧ 0 < many ∧ many ≤ 100000000 ∧
  ∀ (r x' y' z' : Int), 0 ≤ r → r < many → Q (.int r) (upd H a (.lst [.int x', .int y', .int z']))
section
variable {P : Program} {w : World} {K : PySem.W.Frag} {mg : Str → Option Value} {base : Heap} {a_INSTRUCTIONS fDice fRoll : Addr} {fdDice fdRoll : FuncData}

abbrev s__law_dice : Stmt := top 22
theorem sc__law_dice : FnScope ["cell"] ["cell"] (defScope s__law_dice) := ⟨rfl, rfl, rfl, by decide +kernel, rfl, by decide +kernel, by decide +kernel⟩
theorem ok__law_dice  (T : TLaw K mg a_INSTRUCTIONS fDice fRoll fdDice fdRoll) : FnOk P w K mg base CX0 1 fDice fdDice ["cell"] spDice := by
  refine T.f__law_dice.ok sc__law_dice (fun vs H Q E h => ?_) (fun cdv A outer s H vs Q E hr h => ?_)
  · obtain ⟨c, rfl, _⟩ := h
    rfl
  · obtain ⟨c, rfl, k⟩ := h
    refine ⟨_, (pss_cons (ps_if (pt_chain op_lt op_lt (pe_op op_sub pe_int pe_int) (pv 0) pe_int) (pss_one (ps_ret (pe_lst (pa_cons (pe_callB call_abs (by rfl) T.z_abs (by decide +kernel) (pa_cons (pv 0) pa_nil)) (pa_cons pe_int (pa_cons pe_int pa_nil)))))) pss_nil)
        (pss_one (ps_ret (pe_lst (pa_cons (pv 0) (pa_cons (pe_op op_add pe_int (pe_op op_mod (pe_callTy call_intI (by rfl) T.z_int (by decide +kernel) (pa_cons (pv 0) pa_nil)) pe_int)) (pa_cons (pe_callTy call_intB (by rfl) T.z_int (by decide +kernel) (pa_cons (pe_cmpR op_ge (pv 0) (pe_op op_pow pe_int pe_int) (nomark _)) pa_nil)) pa_nil))))))), ?_⟩
    have h3 : 3 ≤ sizeLine := by decide
    simp [*, CMul, -Bool.exists_bool]
    split
    · split
      · exact fun p hp => k p _ _ _ hp
      · exact fun p hp => k p _ _ _ hp
    · exact fun p hp => k p _ _ _ hp
abbrev s__law_roll : Stmt := top 23
theorem sc__law_roll : FnScope ["dice", "many", "found"] ["dice", "many"] (defScope s__law_roll) := ⟨rfl, rfl, rfl, by decide +kernel, rfl, by decide +kernel, by decide +kernel⟩
theorem ok__law_roll  (T : TLaw K mg a_INSTRUCTIONS fDice fRoll fdDice fdRoll) : FnOk P w K mg base CX0 1 fRoll fdRoll ["dice", "many"] spRoll := by
  refine T.f__law_roll.ok sc__law_roll (fun vs H Q E h => ?_) (fun cdv A outer s H vs Q E hr h => ?_)
  · obtain ⟨a, m, x, y, z, rfl, _⟩ := h
    rfl
  · obtain ⟨a, m, x, y, z, rfl, ha, h0, h1, k⟩ := h
    refine ⟨_, (pss_cons (ps_if (PW.pt (pw_or (pt_cmpR op_eq (pe_ix ix_l (pv 0) pe_int (fun _ _ => rfl)) pe_int (nomark _)) (pw_or1 (PW.pt (pw_and (pt_cmpR op_eq (pe_ix ix_l (pv 0) pe_int (fun _ _ => rfl)) pe_int (nomark _)) (pw_and1 (pt_cmpR op_gt (pe_ix ix_l (pv 0) pe_int (fun _ _ => rfl)) pe_int (nomark _)))))))) (pss_cons (ps_set (i := 2) sc__law_roll.nd rfl (Or.inl rfl) (pe_op op_mod (pe_callTy call_intI (by rfl) T.z_int (by decide +kernel) (pa_cons (pe_ix ix_l (pv 0) pe_int (fun _ _ => rfl)) pa_nil)) (pv 1)))
        (pss_cons (ps_asg (pe_op op_fdiv (pe_ix ix_l (pv 0) pe_int (fun _ _ => rfl)) (pv 1)) (pg_sub (pv 0) pe_int set_list))
        (pss_one (ps_ret (pv 2))))) pss_nil)
        (pss_cons (ps_asg pe_int (pg_sub (pv 0) pe_int set_list))
        (pss_cons (ps_if (pt_cmpR op_gt (pv 1) pe_int (nomark _)) (pss_one ps_never) pss_nil)
        (pss_cons (ps_asg (pe_op op_mod (pe_callTy call_intI (by rfl) T.z_int (by decide +kernel) (pa_cons (pe_op op_add (pe_op op_add (pe_op op_mul (pe_ix ix_l (pv 0) pe_int (fun _ _ => rfl)) pe_int) (pe_op op_mul (pe_ix ix_l (pv 0) pe_int (fun _ _ => rfl)) pe_int)) pe_int) pa_nil)) pe_int) (pg_sub (pv 0) pe_int set_list))
        (pss_cons (ps_asg (pe_op op_add (pe_ix ix_l (pv 0) pe_int (fun _ _ => rfl)) pe_int) (pg_sub (pv 0) pe_int set_list))
        (pss_one (ps_ret (pe_op op_mod (pe_callTy call_intI (by rfl) T.z_int (by decide +kernel) (pa_cons (pe_op op_fdiv (pe_ix ix_l (pv 0) pe_int (fun _ _ => rfl)) pe_int) pa_nil)) (pv 1))))))))), ?_⟩
    simp [*, CMul, -Bool.exists_bool]
    have r1 := Int.emod_nonneg x (show m ≠ 0 by omega)
    have r2 := Int.emod_lt_of_pos x h0
    have r3 : ∀ n : Int, 0 ≤ n % m ∧ n % m < m := fun n => ⟨Int.emod_nonneg n (by omega), Int.emod_lt_of_pos n h0⟩
    split
    · exact ⟨by omega, k _ _ _ _ r1 r2⟩
    · split
      · split
        · exact ⟨by omega, k _ _ _ _ r1 r2⟩
        · exact k _ _ _ _ (r3 _).1 (r3 _).2
      · exact k _ _ _ _ (r3 _).1 (r3 _).2
def spRounds (K : PySem.W.Frag) : Sp := fun vs H Q _ => ∃ (a : Addr) (ns : List Int), vs = [.ref a, .int 1] ∧ SqL K H a (ns.map V.int) ∧
  ∀ (p d : Addr) (H' : Hp) (x y z : Int), Same H H' → p ≠ d → H p = none → H d = none → H' p = some (.lst [.ref d]) → H' d = some (.lst [.int x, .int y, .int z]) → Q (.ref p) H'

abbrev s__law_rounds : Stmt := top 24
theorem sc__law_rounds : FnScope ["script", "most", "cells", "cell"] ["script", "most"] (defScope s__law_rounds) := ⟨rfl, rfl, rfl, by decide +kernel, rfl, by decide +kernel, by decide +kernel⟩
theorem ok__law_rounds {f : Addr} {fd : FuncData} (F : Fun K "_law_rounds" "_law_rounds" s__law_rounds f fd) (T : TLaw K mg a_INSTRUCTIONS fDice fRoll fdDice fdRoll) : FnOk P w K mg base CX0 2 f fd ["script", "most"] (spRounds K) := by
  refine F.ok sc__law_rounds (fun vs H Q E h => ?_) (fun cdv A outer s H vs Q E hr h => ?_)
  · obtain ⟨a, ns, rfl, _⟩ := h
    rfl
  · obtain ⟨a, ns, rfl, ha, k⟩ := h
    have hu64 := hr.units
    refine ⟨_, (pss_cons (ps_set (i := 2) sc__law_rounds.nd rfl (Or.inl rfl) (pe_slice sl_list (pv 0) po_none (po_some (pv 1))))
        (pss_cons (ps_if (pt_cmpR (op_eqFL hu64) (pv 2) (pe_lst pa_nil) (nomark _)) (pss_one (ps_set (i := 2) sc__law_rounds.nd rfl (Or.inl rfl) (pe_lst (pa_cons pe_int pa_nil)))) pss_nil)
        (pss_one (ps_ret (pe_lc (own := [("cell", 3)]) (g := gName 3) (tt := tYes) rfl sc__law_rounds.nd (pi_list (pv 2)) (blkOk_by (own := [("cell", 3)]) (N := ["script", "most", "cells", "cell"]) (sc := defScope s__law_rounds) (by decide +kernel)) (fun _ _ _ _ _ => (pg_name (i := 3) sc__law_rounds.nd rfl (Or.inl rfl))) (fun _ _ _ _ _ => pts_nil) (fun _ _ _ _ _ => (pe_call (ok__law_dice T) (hr.mono (by decide)) rfl T.m__law_dice T.f__law_dice.kp T.b__law_dice .nil pass0 (pa_cons (pv 3) pa_nil)))))))), ?_⟩
    simp only [o_tSeq, o_tAsg, o_tSl, o_tVar, o_tNoPart, o_tPart, o_start]
    refine ⟨_, rfl, _, rfl, _, rfl, a, _, rfl, ha, fun p np => ?_⟩
    rw [cut_first]
    have fin : ∀ (c : Addr) (n : Int) (H1 : Hp) (σ : L2.St), H1 c = some (.lst [.int n]) → Same H H1 → σ[2]? = some (some (.ref c)) → σ.length = 4 → tLc (iList K (tVar 2)) (gName 3) tYes (tCall spDice [] E0 (tCons (tVar 3) tNil)) [3] σ H1 Q := by
      intro c n H1 σ hc sm h2 hl
      refine ⟨.ref c, h2, c, rfl, ⟨_, SqL.of hc⟩, fun D nD => lc_list (xs := [.int n]) (fun i H' => (i = 0 ∧ H' = upd H1 D (.lst [])) ∨ (i = 1 ∧ ∃ (d : Addr) (x y z : Int), H1 d = none ∧ d ≠ D ∧ H' = upd (upd (upd H1 D (.lst [])) d (.lst [.int x, .int y, .int z])) D (.lst [.ref d]))) (.inl ⟨rfl, rfl⟩) ?_ ?_ ?_⟩
      · rintro i H' hi (⟨rfl, rfl⟩ | ⟨rfl, d, x, y, z, nd, hd, rfl⟩)
        · exact SqL.of (by rw [upd_ne (ne_of_none hc nD), hc])
        · exact SqL.of (by rw [upd_ne (ne_of_none hc nD), upd_ne (ne_of_none hc nd), upd_ne (ne_of_none hc nD), hc])
      · rintro i x H' hx (⟨rfl, rfl⟩ | ⟨rfl, _⟩)
        · obtain rfl : V.int n = x := by simpa using hx
          have l3 : (wipe σ [3]).length = 4 := by rw [wipe_length, hl]
          refine ⟨by simp [wipe], ?_⟩
          refine ⟨.int n, by simp [List.getElem?_set, l3], n, rfl, fun d x y z nd => ?_⟩
          have dD : d ≠ D := fun e => by
            rw [e] at nd
            simp at nd
          refine ⟨[], by rw [upd_ne dD.symm, upd_same], by decide, .inr ⟨rfl, d, x, y, z, ?_, dD, rfl⟩⟩
          rw [upd_ne dD] at nd
          exact nd
        · simp at hx
      · rintro H' (⟨h, _⟩ | ⟨_, d, x, y, z, nd, hd, rfl⟩)
        · simp at h
        · have nH : ∀ b, H1 b = none → H b = none := fun b e => sm.free e
          refine k D d _ x y z (fun b o e => ?_) hd.symm (nH _ nD) (nH _ nd) upd_same (by rw [upd_ne hd, upd_same])
          have e1 := sm b o e
          rw [upd_ne (ne_of_none e1 nD), upd_ne (ne_of_none e1 nd), upd_ne (ne_of_none e1 nD), e1]
    cases ns with
    | nil =>
      simp [-Bool.exists_bool]
      intro q nq
      obtain ⟨nqp, nq⟩ := upd_none.mp nq
      refine ⟨[], by rw [upd_ne (Ne.symm nqp), upd_same], by simp, ?_⟩
      rw [if_pos rfl]
      refine ⟨by decide, fun q2 n2 => fin q2 0 _ _ upd_same (same_new (same_new (same_new (fun b o e => e) np) nq) ?_) rfl rfl⟩
      simp only [upd_none] at n2
      exact n2.2.2
    | cons n r =>
      simp [-Bool.exists_bool]
      intro q nq
      obtain ⟨nqp, nq⟩ := upd_none.mp nq
      refine ⟨[.int n], by rw [upd_ne (Ne.symm nqp), upd_same], by simp, ?_⟩
      rw [if_neg (by simp)]
      exact fin p n _ _ (by rw [upd_ne (Ne.symm nqp), upd_same]) (same_new (same_new (fun b o e => e) np) nq) rfl rfl
end
end
section
open PySem L2 LamX

def wPlain : List Str := ["halt", "out", "in", "half"].map Str.ofString
def wJump : List Str := ["jump", "zero", "less"].map Str.ofString
def wData : List Str := ["set", "load", "store", "add", "sub", "and", "xor", "from", "to"].map Str.ofString
def OkRow (d c : Nat) (w : Str) (n : Int) : Prop := (w ∈ wPlain ∧ n = 0) ∨ (w ∈ wJump ∧ 0 ≤ n ∧ n < 2 ^ c) ∨ (w ∈ wData ∧ 0 ≤ n ∧ n < 2 ^ d)
theorem pow_small {c : Nat} (h : c ≤ 8) : (0 : Int) < 2 ^ c ∧ (2 : Int) ^ c ≤ 256 := by
  have h1 : 2 ^ c ≤ 2 ^ 8 := Nat.pow_le_pow_right (by decide) h
  have h2 : 0 < 2 ^ c := Nat.two_pow_pos c
  have e : ((2 ^ c : Nat) : Int) = (2 : Int) ^ c := by simp
  omega
def SizeAt (CS : Addr) (H : Hp) (p : Addr) (d c : Int) : Prop := ∃ dx fs, H p = some (.ins CS dx fs) ∧ fs.lookup ("data" : Str) = some (.int d) ∧ fs.lookup ("code" : Str) = some (.int c) ∧ fs.lookup ("argument" : Str) = none ∧ fs.lookup ("width" : Str) = none
def WordOk (w : Str) : Prop := PyData.strOk w = true ∧ w.length ≤ 20
def OkXs (d c : Nat) : List V → Prop
  | [.str w, .int n] => OkRow d c w n
  | _ => False
def spSizeInit (CS CE : Addr) : Sp := fun vs H Q E => ∃ (p dx : Addr) (d c : Int), vs = [.ref p, .int d, .int c] ∧ H p = some (.ins CS dx []) ∧ d.natAbs < 2 ^ 64 ∧ c.natAbs < 2 ^ 64 ∧
  if 2 ≤ d ∧ d ≤ 8 ∧ 2 ≤ c ∧ c ≤ 8 then ∀ H', SizeAt CS H' p d c → Keep [p] H H' → Q .non H' else ∀ H', Keep [p] H H' → E (.ref CE) none H'
open Classical in
def spCheck (CS CE : Addr) : Sp := fun vs H Q E => ∃ (r z : Addr) (d c : Nat) (w : Str) (rest : List V), vs = [.ref r, .ref z] ∧ H r = some (.tup (.str w :: rest)) ∧ (rest = [] ∨ ∃ n : Int, rest = [.int n] ∧ n.natAbs < 2 ^ 64) ∧ WordOk w ∧ SizeAt CS H z d c ∧ d ≤ 8 ∧ c ≤ 8 ∧
  if OkXs d c (.str w :: rest) then ∀ H', Keep [] H H' → Q .non H' else ∀ H', Keep [] H H' → E (.ref CE) none H'
theorem pow_nat {n : Nat} : ((n : Int)).toNat = n := Int.toNat_natCast n
theorem word_apart : ∀ w : Str, (w ∈ wPlain → w ∉ wJump ∧ w ∉ wData) ∧ (w ∈ wJump → w ∉ wData) := by
  intro w
  constructor
  · intro h
    simp only [wPlain, List.map_cons, List.map_nil, List.mem_cons, List.not_mem_nil, or_false] at h
    rcases h with rfl | rfl | rfl | rfl <;> simp [wJump, wData]
  · intro h
    simp only [wJump, List.map_cons, List.map_nil, List.mem_cons, List.not_mem_nil, or_false] at h
    rcases h with rfl | rfl | rfl <;> simp [wData]
theorem fits_plain {d c : Nat} {w : Str} {n : Int} (h : w ∈ wPlain) (n0 : 0 ≤ n) : OkRow d c w n ↔ ¬ 1 ≤ n := by
  obtain ⟨a, b⟩ := (word_apart w).1 h
  constructor
  · rintro (⟨_, rfl⟩ | ⟨z, _⟩ | ⟨z, _⟩)
    · decide
    · exact absurd z a
    · exact absurd z b
  · exact fun q => .inl ⟨h, by omega⟩
theorem fits_jump {d c : Nat} {w : Str} {n : Int} (h : w ∈ wJump) (n0 : 0 ≤ n) : OkRow d c w n ↔ ¬ 2 ^ c ≤ n := by
  constructor
  · rintro (⟨z, _⟩ | ⟨_, _, q⟩ | ⟨z, _⟩)
    · exact absurd h ((word_apart w).1 z).1
    · omega
    · exact absurd z ((word_apart w).2 h)
  · exact fun q => .inr (.inl ⟨h, n0, by omega⟩)
theorem fits_data {d c : Nat} {w : Str} {n : Int} (h : w ∈ wData) (n0 : 0 ≤ n) : OkRow d c w n ↔ ¬ 2 ^ d ≤ n := by
  constructor
  · rintro (⟨z, _⟩ | ⟨z, _⟩ | ⟨_, _, q⟩)
    · exact absurd h ((word_apart w).1 z).2
    · exact absurd h ((word_apart w).2 z)
    · omega
  · exact fun q => .inr (.inr ⟨h, n0, by omega⟩)
theorem no_neg {d c : Nat} {w : Str} {n : Int} (h : n < 0) : ¬ OkRow d c w n := by
  rintro (⟨_, q⟩ | ⟨_, q, _⟩ | ⟨_, q, _⟩) <;> omega
theorem cI_flat : cI.all flatV = true := flat_strs
theorem cI_in {w : Str} : inV (.str w) cI = decide (w ∈ cIs) := inV_strs
theorem mem_cIs {w : Str} : w ∈ cIs ↔ w ∈ wPlain ∨ w ∈ wJump ∨ w ∈ wData := by
  simp only [cIs, wPlain, wJump, wData, List.map_cons, List.map_nil, List.mem_cons, List.not_mem_nil, or_false]
  constructor
  · intro h
    rcases h with rfl | rfl | rfl | rfl | rfl | rfl | rfl | rfl | rfl | rfl | rfl | rfl | rfl | rfl | rfl | rfl <;> simp
  · intro h
    rcases h with (rfl | rfl | rfl | rfl) | (rfl | rfl | rfl) | (rfl | rfl | rfl | rfl | rfl | rfl | rfl | rfl | rfl) <;> simp
theorem word_cases (w : Str) : (w ∈ cIs ∧ w ∈ wPlain ∧ w ∉ wJump ∧ w ∉ wData) ∨ (w ∈ cIs ∧ w ∉ wPlain ∧ w ∈ wJump ∧ w ∉ wData) ∨ (w ∈ cIs ∧ w ∉ wPlain ∧ w ∉ wJump ∧ w ∈ wData) ∨ (w ∉ cIs ∧ ∀ d c n, ¬ OkRow d c w n) := by
  obtain ⟨a, b⟩ := word_apart w
  by_cases hp : w ∈ wPlain
  · exact .inl ⟨mem_cIs.mpr (.inl hp), hp, a hp⟩
  · by_cases hj : w ∈ wJump
    · exact .inr (.inl ⟨mem_cIs.mpr (.inr (.inl hj)), hp, hj, b hj⟩)
    · by_cases hd : w ∈ wData
      · exact .inr (.inr (.inl ⟨mem_cIs.mpr (.inr (.inr hd)), hp, hj, hd⟩))
      · refine .inr (.inr (.inr ⟨fun h => ?_, fun d c n h => ?_⟩))
        · rcases mem_cIs.mp h with h | h | h
          · exact hp h
          · exact hj h
          · exact hd h
        · rcases h with ⟨h, _⟩ | ⟨h, _⟩ | ⟨h, _⟩
          · exact hp h
          · exact hj h
          · exact hd h
structure FunC (K : PySem.W.Frag) (x qual : Str) (st : Stmt) (f : Addr) (fd : FuncData) (cdv : Value) : Prop where
  ex : ∃ (oc : Value) (od : Option Addr) (kV doc pm : Value) (an : Option Addr) (ct : Value) (osl : Array (Option Value)),
    fd = PySem.W.fnOf x qual (defArgs st) (defBody st) (defScope st) .none kV doc pm an cdv ct ∧ K.lookup f = some ⟨oc, od, .func fd, osl⟩ ∧ PySem.W.codeIn K cdv qual = true
/-- what the top has written of the code of the law's subject -/
structure TK (K : PySem.W.Frag) (mg : Str → Option Value) where
  (a_INSTRUCTIONS a_PLAIN a_JUMPS C_CodeError CS : Addr)
  (tL tD : Tok)
  (tB tC : Tok)
  z_len : mg "len" = none
  z_isinstance : mg "isinstance" = none
  z_int : mg "int" = none
  z_list : mg "list" = none
  z_tuple : mg "tuple" = none
  z_range : mg "range" = none
  z_any : mg "any" = none
  z_enumerate : mg "enumerate" = none
  g_INSTRUCTIONS : mg "INSTRUCTIONS" = some (.ref a_INSTRUCTIONS)
  w_INSTRUCTIONS : Wr K a_INSTRUCTIONS cI
  g_PLAIN : mg "PLAIN" = some (.ref a_PLAIN)
  w_PLAIN : Wr K a_PLAIN (wPlain.map V.str)
  g_JUMPS : mg "JUMPS" = some (.ref a_JUMPS)
  w_JUMPS : Wr K a_JUMPS (wJump.map V.str)
  c_LETTERS : mg "LETTERS" = some (.str "abcdefghijklmnopqrstuvwxyz" tL)
  c_DIGITS : mg "DIGITS" = some (.str "0123456789" tD)
  c_MOST_LETTERS : mg "MOST_LETTERS" = some (.int 20 tB)
  c_MOST_DIGITS_OF_CODE : mg "MOST_DIGITS_OF_CODE" = some (.int 3 tC)
  g_CodeError : mg "CodeError" = some (.ref C_CodeError)
  x_CodeError : PySem.W.excIn K C_CodeError [.type "ValueError", .type "Exception", .type "BaseException", .type "object"] "ValueError.__new__" = true
  kp_CodeError : PySem.W.keepIn K (.ref C_CodeError) = true
  b_CodeError : PySem.W.subIn K (.ref C_CodeError) (.type "BaseException") = some true
  t_CodeError : PySem.W.typeIn K (.ref C_CodeError) = some (.type "type")
  cS : Cls K CS
  nS_data : NoAttr K CS "data"
  nS_code : NoAttr K CS "code"
section
variable {P : Program} {w : World} {K : PySem.W.Frag} {mg : Str → Option Value} {base : Heap} {aC pI : Addr}
abbrev s_Size_init : Stmt := (inClass (top 8) 0)
theorem sc_Size_init : FnScope ["self", "data", "code"] ["self", "data", "code"] (defScope s_Size_init) := ⟨rfl, rfl, rfl, by decide +kernel, rfl, by decide +kernel, by decide +kernel⟩
theorem ok_Size_init {f : Addr} {fd : FuncData} (F : Fun K "__init__" "Size.__init__" s_Size_init f fd) (T : TK K mg) : FnOk P w K mg base (L2.CX P w) 1 f fd ["self", "data", "code"] (spSizeInit T.CS T.C_CodeError) := by
  refine F.okX sc_Size_init (fun vs H Q E h => ?_) (fun cdv A outer s H vs Q E hr h => ?_)
  · obtain ⟨p, dx, d, c, rfl, _⟩ := h
    rfl
  · obtain ⟨p, dx, d, c, rfl, hp, hd, hc, k⟩ := h
    refine ⟨_, (pss_cons (ps_if (PW.pt (pw_or (pt_not (pt_chain op_le op_le pe_int (pv 1) pe_int)) (pw_or1 (pt_not (pt_chain op_le op_le pe_int (pv 2) pe_int))))) (pss_one (ps_raiseF rfl (takes_of rfl rfl rfl rfl) PySem.F.excBase_ValueError T.x_CodeError T.g_CodeError T.kp_CodeError (raises_own T.b_CodeError T.t_CodeError) (by rfl) (.cons (pt_str (by decide)) (.cons (pt_int (pv 1)) (.cons (pt_str (by decide)) (.cons (pt_int (pv 2)) (.cons (pt_str (by decide)) .nil))))))) pss_nil)
        (pss_cons (ps_fld (pv 0) (pv 1) rfl)
        (pss_one (ps_fld (pv 0) (pv 2) rfl)))), ?_⟩
    simp_arith [cx_K, ↓tRaiseF_, ↓e_rInT, allP_0, allP_c, put_0, put_c, look_0, look_c, exists_eq_left', cast1, cast2, flat_strs, inV_strs, cI_flat, cI_in, ex_isi, hp, T.cS, T.nS_data, T.nS_code, hd, hc]
    have keepP : ∀ u, Keep [p] H (upd H p u) := fun u => Keep.refl.at (List.Mem.head _)
    have yes : Q .non (upd H p (.ins T.CS dx [("data", .int d), ("code", .int c)])) ∨ ¬ (2 ≤ d ∧ d ≤ 8 ∧ 2 ≤ c ∧ c ≤ 8) := by
      by_cases h : 2 ≤ d ∧ d ≤ 8 ∧ 2 ≤ c ∧ c ≤ 8
      · rw [if_pos h] at k
        exact .inl (k _ ⟨dx, _, upd_same, by simp [look_c], by simp [look_c], by simp [look_c, look_0], by simp [look_c, look_0]⟩ (keepP _))
      · exact .inr h
    have no : ¬ (2 ≤ d ∧ d ≤ 8 ∧ 2 ≤ c ∧ c ≤ 8) → E (.ref T.C_CodeError) none H := fun h => by
      rw [if_neg h] at k
      exact k H Keep.refl
    repeat' split
    all_goals first
      | exact no (by omega)
      | (rcases yes with h | h
         · exact h
         · exact absurd ⟨by omega, by omega, by omega, by omega⟩ h)
abbrev s_check_instruction : Stmt := (top 9)
theorem sc_check_instruction : FnScope ["row", "size", "bits"] ["row", "size"] (defScope s_check_instruction) := ⟨rfl, rfl, rfl, by decide +kernel, rfl, by decide +kernel, by decide +kernel⟩
theorem ok_check_instruction {f : Addr} {fd : FuncData} (F : Fun K "check_instruction" "check_instruction" s_check_instruction f fd) (T : TK K mg) : FnOk P w K mg base (L2.CX P w) 1 f fd ["row", "size"] (spCheck T.CS T.C_CodeError) := by
  refine F.okX sc_check_instruction (fun vs H Q E h => ?_) (fun cdv A outer s H vs Q E hr h => ?_)
  · obtain ⟨r, z, d, c, w, rest, rfl, _⟩ := h
    rfl
  · obtain ⟨r, z, d, c, w, rest, rfl, hr0, hrest, hw, SZ, hd, hc, k⟩ := h
    obtain ⟨dx, fs, hp, l1, l2, l3, l4⟩ := id SZ
    refine ⟨_, (pss_cons (ps_if (PW.pt (pw_or (pt_cmpR op_ne (pe_callB call_lenT (by rfl) T.z_len (by decide +kernel) (pa_cons (pv 0) pa_nil)) pe_int (nomark _)) (pw_or (pt_cmpR (op_notInC T.w_INSTRUCTIONS) (pe_ix ix_t (pv 0) pe_int (fun _ _ => rfl)) (pe_glob (v := .ref T.a_INSTRUCTIONS) (by rfl) T.g_INSTRUCTIONS rfl) (by rfl)) (pw_or1 (pt_not (pt_val (pe_callB call_isiI (by rfl) T.z_isinstance (by decide +kernel) (pa_cons (pe_ix ix_t (pv 0) pe_int (fun _ _ => rfl)) (pa_cons (pe_bltn (v := .ty "int") (by rfl) T.z_int (by decide +kernel) rfl) pa_nil))))))))) (pss_one (ps_raiseF rfl (takes_of rfl rfl rfl rfl) PySem.F.excBase_ValueError T.x_CodeError T.g_CodeError T.kp_CodeError (raises_own T.b_CodeError T.t_CodeError) (by rfl) (.cons (pt_row hr (pv 0)) (.cons (pt_str (by decide)) .nil)))) pss_nil)
        (pss_cons (ps_set (i := 2) sc_check_instruction.nd rfl (Or.inl rfl) (pe_ifExp (pt_cmpR (op_inC T.w_JUMPS) (pe_ix ix_t (pv 0) pe_int (fun _ _ => rfl)) (pe_glob (v := .ref T.a_JUMPS) (by rfl) T.g_JUMPS rfl) (by rfl)) (pe_fld (pv 1) rfl) (pe_fld (pv 1) rfl)))
        (pss_cons (ps_if (pt_cmpR (op_inC T.w_PLAIN) (pe_ix ix_t (pv 0) pe_int (fun _ _ => rfl)) (pe_glob (v := .ref T.a_PLAIN) (by rfl) T.g_PLAIN rfl) (by rfl)) (pss_one (ps_set (i := 2) sc_check_instruction.nd rfl (Or.inl rfl) pe_int)) pss_nil)
        (pss_one (ps_if (pt_not (pt_chain op_le op_lt pe_int (pe_ix ix_t (pv 0) pe_int (fun _ _ => rfl)) (pe_op op_shl pe_int (pv 2)))) (pss_one (ps_raiseF rfl (takes_of rfl rfl rfl rfl) PySem.F.excBase_ValueError T.x_CodeError T.g_CodeError T.kp_CodeError (raises_own T.b_CodeError T.t_CodeError) (by rfl) (.cons (pt_word (pe_ix ix_t (pv 0) pe_int (fun _ _ => rfl))) (.cons (pt_str (by decide)) (.cons (pt_int (pe_ix ix_t (pv 0) pe_int (fun _ _ => rfl))) .nil))))) pss_nil))))), ?_⟩
    rcases hrest with rfl | ⟨n, rfl, hn⟩
    · rw [if_neg (show ¬ OkXs d c [.str w] from fun h => h)] at k
      simp_arith [cx_K, ↓tRaiseF_, ↓e_rInT, allP_0, allP_c, put_0, put_c, look_0, look_c, exists_eq_left', cast1, cast2, flat_strs, inV_strs, cI_flat, cI_in, ex_isi, hr0]
      exact ⟨⟨r, w, [], rfl, hr0, .inl rfl, hw.1, hw.2⟩, k H Keep.refl⟩
    · have yes : OkRow d c w n → Q .non H := fun h => by
        rw [if_pos (show OkXs d c [.str w, .int n] from h)] at k
        exact k H Keep.refl
      have no : ¬ OkRow d c w n → E (.ref T.C_CodeError) none H := fun h => by
        rw [if_neg (show ¬ OkXs d c [.str w, .int n] from h)] at k
        exact k H Keep.refl
      have pd := pow_small hd
      have pc := pow_small hc
      have hw2 : w.length ≤ 3000 := by have := hw.2; omega
      rcases word_cases w with ⟨mI, mP, mJ, mD⟩ | ⟨mI, mP, mJ, mD⟩ | ⟨mI, mP, mJ, mD⟩ | ⟨mI, mN⟩
      · simp_arith [cx_K, ↓tRaiseF_, ↓e_rInT, allP_0, allP_c, put_0, put_c, look_0, look_c, exists_eq_left', cast1, cast2, flat_strs, inV_strs, cI_flat, cI_in, ex_isi, hr0, hp, l1, l2, T.cS, T.nS_data, T.nS_code, mI, mP, mJ, hn, hw2]
        by_cases n0 : 0 ≤ n
        · rw [if_pos n0]
          refine ⟨⟨by omega, by omega, by decide⟩, ?_⟩
          by_cases hb : n < 1 * 2 ^ Int.toNat 0
          · rw [if_neg (fun h => h hb)]
            exact yes (.inl ⟨mP, by simp at hb; omega⟩)
          · rw [if_pos hb]
            exact no fun h => by
              have := (fits_plain mP n0).mp h
              simp at hb
              omega
        · rw [if_neg n0]
          exact no (no_neg (by omega))
      · simp_arith [cx_K, ↓tRaiseF_, ↓e_rInT, allP_0, allP_c, put_0, put_c, look_0, look_c, exists_eq_left', cast1, cast2, flat_strs, inV_strs, cI_flat, cI_in, ex_isi, hr0, hp, l1, l2, T.cS, T.nS_data, T.nS_code, mI, mP, mJ, hn, hw2]
        by_cases n0 : 0 ≤ n
        · rw [if_pos n0]
          refine ⟨⟨by omega, by omega, by decide⟩, ?_⟩
          simp only [pow_nat, Int.one_mul]
          by_cases hb : n < 2 ^ c
          · rw [if_neg (fun h => h hb)]
            exact yes (.inr (.inl ⟨mJ, n0, hb⟩))
          · rw [if_pos hb]
            exact no fun h => by
              have := (fits_jump mJ n0).mp h
              omega
        · rw [if_neg n0]
          exact no (no_neg (by omega))
      · simp_arith [cx_K, ↓tRaiseF_, ↓e_rInT, allP_0, allP_c, put_0, put_c, look_0, look_c, exists_eq_left', cast1, cast2, flat_strs, inV_strs, cI_flat, cI_in, ex_isi, hr0, hp, l1, l2, T.cS, T.nS_data, T.nS_code, mI, mP, mJ, hn, hw2]
        by_cases n0 : 0 ≤ n
        · rw [if_pos n0]
          refine ⟨⟨by omega, by omega, by decide⟩, ?_⟩
          simp only [pow_nat, Int.one_mul]
          by_cases hb : n < 2 ^ d
          · rw [if_neg (fun h => h hb)]
            exact yes (.inr (.inr ⟨mD, n0, hb⟩))
          · rw [if_pos hb]
            exact no fun h => by
              have := (fits_data mD n0).mp h
              omega
        · rw [if_neg n0]
          exact no (no_neg (by omega))
      · simp_arith [cx_K, ↓tRaiseF_, ↓e_rInT, allP_0, allP_c, put_0, put_c, look_0, look_c, exists_eq_left', cast1, cast2, flat_strs, inV_strs, cI_flat, cI_in, ex_isi, hr0, mI]
        exact ⟨⟨r, w, [.int n], rfl, hr0, .inr ⟨n, rfl, hn⟩, hw.1, hw.2⟩, no (mN d c n)⟩
end
end
section
open PySem L2 LamX

open TL
def labSigns : List Nat := tl "abcdefghijklmnopqrstuvwxyz" ++ tl "0123456789"
def labelOk (y : Str) : Prop := y ≠ "" ∧ y.length ≤ 20 ∧ (∀ c ∈ tl y, c ∈ labSigns) ∧ ∀ c r, tl y = c :: r → c ∉ tl "0123456789"
open Classical in
def spLabel (CE pI : Addr) : Sp := fun vs H Q E => ∃ y : Str, vs = [.str y] ∧ y.length ≤ 100000 ∧ GxR.TabG H pI ∧ if labelOk y then ∀ H', GxR.Tabbed pI H H' → Q .non H' else ∀ H', GxR.Tabbed pI H H' → E (.ref CE) none H'
theorem atI_0 {α : Type} {x : α} {r : List α} : atI (x :: r) 0 = some x := by
  have h : atI (x :: r) ((0 : Nat) : Int) = some x := atI_nat rfl
  exact h
/-- a text's signs are walked, each one's answer yielded; the heap stays -/
theorem gxS_by {y : Str} {n : Nat} {te : TE} {own : List Nat} {σ : L2.St} {H1 : Hp} {QY : Nat → Hp → Prop} {QE : Hp → Prop} (pb : Nat → Bool) (hz : y.length ≤ 100000)
    (hs : ∀ c ∈ tl y, ∀ Q : VK, Q (.bl (pb c)) H1 → gName n (.str ⟨#[c]⟩) (wipe σ own) H1 fun σ2 H2 => wipe σ2 own = wipe σ own ∧ te σ2 H2 Q)
    (hy : ∀ j c, (tl y)[j]? = some c → QY j H1) (he : QE H1) : GxR (gName n) tYes te own (((tl y).map pb).map V.bl) QY QE σ (Its y) H1 := by
  have hn : y.cps.size = (tl y).length := by simp [tl]
  have hl : (tl y).length ≤ 100000 := by rw [← len_tl]; exact hz
  have big : 100000 < sizeLine := by decide
  refine ⟨fun i j m H => i = j ∧ j ≤ (tl y).length ∧ m = (tl y).length - j ∧ H = H1, ⟨_, rfl, Nat.zero_le _, rfl, rfl⟩, ?_⟩
  rintro i j m H ⟨rfl, hi, rfl, rfl⟩
  by_cases h : i < (tl y).length
  · refine .inr ⟨by show i < y.cps.size; omega, by omega, fun j' H' => i + 1 = j' ∧ j' ≤ (tl y).length ∧ H' = H, fun j' H' ⟨e1, e2, e3⟩ => ⟨_, by omega, e1, e2, rfl, e3⟩, fun x H' q => ?_⟩
    obtain ⟨rfl, c, ec, rfl⟩ := q
    have ec2 : (tl y)[i]? = some c := by
      rw [show (tl y) = y.cps.toList from rfl, Array.getElem?_toList]
      exact ec
    have z := hs c (List.mem_of_getElem? ec2) (fun v H4 => (((tl y).map pb).map V.bl)[i]? = some v ∧ QY i H4 ∧ (i + 1 = i + 1 ∧ i + 1 ≤ (tl y).length ∧ H4 = H')) ⟨by rw [List.getElem?_map, List.getElem?_map, ec2]; rfl, hy i c ec2, rfl, h, rfl⟩
    exact z
  · have e : i = (tl y).length := by omega
    exact .inl ⟨by show y.cps.size ≤ i; omega, by rw [List.length_map, List.length_map]; exact e, he⟩
section
variable {P : Program} {w : World} {K : PySem.W.Frag} {mg : Str → Option Value} {base : Heap} {aC pI : Addr}
/-- a def whose code object is known -/
theorem FunC.okX {P : Program} {w : World} {K : PySem.W.Frag} {mg : Str → Option Value} {base : Heap} {x qual : Str} {st : Stmt} {f : Addr} {fd : FuncData} {cdv : Value} {N ps : List Str} {k : Nat} {sp : Sp} (F : FunC K x qual st f fd cdv) (S : FnScope N ps (defScope st)) (len : ∀ vs H Q E, sp vs H Q E → vs.length = ps.length)
    (hbody : ∀ (A : Around) (outer : List Env) (s : Shared) (H : Hp) (vs : List V) (Q : VK) (E : XK), Room k (A.deeper (PyProof.Rows.envOfC qual (defScope st) s.heap.objs.size f cdv)) → sp vs H Q E →
      ∃ t, PSs (cxOf (L2.CX P w) P w K mg base N qual (defScope st) f cdv A outer s H E) (defBody st) t ∧ t { nx := fun _ H' => Q .non H', rt := Q } (L2.start N vs) H) : FnOk P w K mg base (L2.CX P w) (k + 1) f fd ps sp := by
  obtain ⟨oc, od, kV, doc, pm, an, ct, osl, rfl, lk, hcd⟩ := F.ex
  exact fn_of lk hcd S len fun A outer s H vs Q E hr hsp => hbody A outer s H vs Q E hr hsp
abbrev s_check_label : Stmt := (top 16)
theorem sc_check_label : FnScope ["name", "sign"] ["name"] (defScope s_check_label) := ⟨rfl, rfl, rfl, by decide +kernel, rfl, by decide +kernel, by decide +kernel⟩
theorem ok_check_label {f : Addr} {fd : FuncData} (F : FunC K "check_label" "check_label" s_check_label f fd (.ref aC)) (T : TK K mg) (TB : GxR.TabB base mg aC pI) : FnOk P w K mg base (L2.CX P w) 4 f fd ["name"] (spLabel T.C_CodeError pI) := by
  refine F.okX sc_check_label (fun vs H Q E h => ?_) (fun A outer s H vs Q E hr h => ?_)
  · obtain ⟨y, rfl, _⟩ := h
    rfl
  · obtain ⟨y, rfl, hz, hT, k⟩ := h
    refine ⟨_, (pss_one (ps_if (PW.pt (pw_or (pt_cmpR op_eq (pv 0) pe_str (nomark _)) (pw_or (pt_cmpR op_gt (pe_callB call_len_str (by rfl) T.z_len (by decide +kernel) (pa_cons (pv 0) pa_nil)) (pe_glob (v := .int 20) (by rfl) T.c_MOST_LETTERS ⟨_, rfl⟩) (nomark _)) (pw_or (pt_val (pe_anyG (k := 0) (tt := tYes) sc_check_label.nd (hr.mono (by decide)) (by rfl) T.z_any TB rfl (own := [("sign", 1)]) (show GexS ["name", "sign"] (defScope s_check_label) _ _ from gexS_by (by decide +kernel)) (pi_str (pv 0)) (fun _ _ _ _ _ _ => (pg_name (i := 1) sc_check_label.nd rfl (Or.inl rfl))) (fun _ _ _ _ _ _ _ => pts_nil) (fun _ _ _ _ _ _ _ => (pe_cmpR op_notIn_sign (pv 1) (pe_op op_add_str (pe_glob (v := .str "abcdefghijklmnopqrstuvwxyz") (by rfl) T.c_LETTERS ⟨_, rfl⟩) (pe_glob (v := .str "0123456789") (by rfl) T.c_DIGITS ⟨_, rfl⟩)) rfl)) (by intro _; rfl))) (pw_or1 (pt_cmpR op_in_sign (pe_ix ix_str (pv 0) pe_int (fun _ _ => rfl)) (pe_glob (v := .str "0123456789") (by rfl) T.c_DIGITS ⟨_, rfl⟩) rfl)))))) (pss_one (ps_raise rfl (takes_of rfl rfl rfl rfl) (pmk_own PySem.F.excBase_ValueError T.x_CodeError T.g_CodeError T.kp_CodeError (raises_own T.b_CodeError T.t_CodeError) (by exact rfl)))) pss_nil)), ?_⟩
    simp_arith [cx_K, ↓tRaiseF_, ↓e_rInT, allP_0, allP_c, put_0, put_c, look_0, look_c, exists_eq_left', cast1, cast2, flat_strs, inV_strs, cI_flat, cI_in, ex_isi]
    have tab0 : GxR.Tabbed pI H H := ⟨hT, fun b _ => rfl⟩
    have no : ¬ labelOk y → ∀ H', GxR.Tabbed pI H H' → E (.ref T.C_CodeError) none H' := fun h => by
      rw [if_neg h] at k
      exact k
    by_cases h1 : y = Str.ofString ""
    · rw [if_pos h1]
      exact no (fun h => h.1 h1) H tab0
    rw [if_neg h1]
    refine ⟨y, rfl, Nat.le_trans hz (by decide), ?_⟩
    by_cases h2 : (20 : Int) < y.length
    · rw [if_pos h2]
      exact no (fun h => by have := h.2.1; omega) H tab0
    rw [if_neg h2]
    refine ⟨(tl y).map (fun c => !decide (c ∈ labSigns)), .str y, rfl, y, rfl, hT, fun H2 tb => gxS_by (fun c => !decide (c ∈ labSigns)) hz (fun c hc Q' hq => ?_) (fun j c hj hb => ?_) (fun hall => ?_)⟩
    · simp_arith [cx_K, ↓tRaiseF_, ↓e_rInT, allP_0, allP_c, put_0, put_c, look_0, look_c, exists_eq_left', cast1, cast2, flat_strs, inV_strs, cI_flat, cI_in, ex_isi, wipe]
      refine ⟨_, _, rfl, rfl, by decide, c, _, rfl, rfl, ?_⟩
      have e : ((Str.ofString "abcdefghijklmnopqrstuvwxyz" ++ Str.ofString "0123456789").cps.toList) = labSigns := tl_append _ _
      rw [e]
      exact hq
    · simp_arith [cx_K, ↓tRaiseF_, ↓e_rInT, allP_0, allP_c, put_0, put_c, look_0, look_c, exists_eq_left', cast1, cast2, flat_strs, inV_strs, cI_flat, cI_in, ex_isi]
      refine no (fun h => ?_) H2 tb
      rw [List.getElem?_map, hj] at hb
      have := h.2.2.1 c (List.mem_of_getElem? hj)
      simp [this] at hb
    · simp_arith [cx_K, ↓tRaiseF_, ↓e_rInT, allP_0, allP_c, put_0, put_c, look_0, look_c, exists_eq_left', cast1, cast2, flat_strs, inV_strs, cI_flat, cI_in, ex_isi]
      have all : ∀ c ∈ tl y, c ∈ labSigns := fun c hc => by
        have z := hall _ (List.mem_map.mpr ⟨c, hc, rfl⟩)
        simpa using z
      cases et : tl y with
      | nil => exact absurd (ext_tl et) h1
      | cons c r =>
        refine ⟨y, 0, c, rfl, rfl, Nat.le_trans hz (by decide), by rw [show y.cps.toList = tl y from rfl, et]; exact atI_0, c, _, rfl, rfl, ?_⟩
        by_cases hd : c ∈ tl "0123456789"
        · rw [if_pos hd]
          exact no (fun h => h.2.2.2 c r et hd) H2 tb
        · rw [if_neg hd]
          have ok : labelOk y := ⟨h1, by omega, all, fun c2 r2 e2 => by
            rw [et] at e2
            cases e2
            exact hd⟩
          rw [if_pos ok] at k
          exact k H2 tb
end
end
section
open PySem L2 LamX
section
variable {σ : L2.St} {H : Hp} {Q : VK} {to te : TE} {r : V → List V → Hp → VK → Prop} {x y : Str} {xs : List V}
theorem e_tM1 : tM1 r to te σ H Q = to σ H fun x H1 => (∃ a, x = .str a) ∧ te σ H1 fun y H2 => r x [y] H2 Q := rfl
theorem e_tM0 : tM0 r to σ H Q = to σ H fun x H1 => (∃ a, x = .str a) ∧ r x [] H1 Q := rfl
theorem ex_s : (∃ a, V.str x = V.str a) = True := by simp
theorem ex_s2 {p : Str → Str → Prop} : (∃ a b, V.str x = V.str a ∧ [V.str y] = [V.str b] ∧ p a b) = p x y := by simp
theorem ex_s1 {p : Str → Prop} : (∃ a, V.str x = V.str a ∧ ([] : List V) = [] ∧ p a) = p x := by simp
theorem ex_l1 {p : Str → Prop} : (∃ a, [V.str x] = [V.str a] ∧ p a) = p x := by simp
theorem ex_ss {p : Str → Str → Prop} : (∃ a b, V.str x = V.str a ∧ V.str y = V.str b ∧ p a b) = p x y := by simp
theorem ex_c {c : Nat} {p : Nat → Str → Prop} : (∃ a b, V.str ⟨#[c]⟩ = V.str ⟨#[a]⟩ ∧ V.str y = V.str b ∧ p a b) = p c y := by simp
theorem e_tDIn {ty td : TE} : tDIn ty td σ H Q = ty σ H fun y H1 => td σ H1 fun x H2 => ∃ a o, x = .ref a ∧ DGet H2 a y o ∧ Q (.bl o.isSome) H2 := rfl
theorem e_iStr {R : It → Hp → Prop} : iStr te σ H R = te σ H fun v H1 => ∃ x, v = .str x ∧ R (Its x) H1 := rfl
theorem ex_v {p : Str → Prop} : (∃ a, V.str x = V.str a ∧ p a) = p x := by simp
def asS (f : Str → Hp → Prop) (x : V) (H : Hp) : Prop := ∃ y, x = .str y ∧ f y H
theorem e_asS {f : Str → Hp → Prop} : asS f (.str x) H = f x H := by simp [asS]
theorem e_tJs0 {acc : Str} {QS : Str → Hp → Prop} : tJs [] acc σ H QS = QS acc H := rfl
theorem e_tJs {t : TE} {ts : List TE} {acc : Str} {QS : Str → Hp → Prop} : tJs (t :: ts) acc σ H QS = t σ H (asS fun y H1 => (acc ++ y).length ≤ sizeLine ∧ tJs ts (acc ++ y) σ H1 QS) := rfl
def fmtV (x : V) (H1 : Hp) (Q : VK) : Prop := (∃ y : Str, x = .str y ∧ y.length ≤ sizeLine ∧ Q (.str y) H1) ∨ ∃ i : Int, x = .int i ∧ i.natAbs.log2 < 1920 ∧ Q (.str (toString i)) H1
theorem e_tFmt : tFmt te σ H Q = te σ H fun x H1 => fmtV x H1 Q := rfl
theorem fmt_s : fmtV (.str x) H Q = (x.length ≤ sizeLine ∧ Q (.str x) H) := by simp [fmtV]
theorem fmt_i {i : Int} : fmtV (.int i) H Q = (i.natAbs.log2 < 1920 ∧ Q (.str (toString i)) H) := by simp [fmtV]
theorem e_news {ys : List Str} : rNewStrs ys H Q = ∀ p, H p = none → Q (.ref p) (upd H p (.lst (ys.map V.str))) := rfl
end
theorem Keep.over {S : List Addr} {H G : Hp} {q : Addr} {u : HO} (a : Keep S H G) (n : H q = none) : Keep S H (upd G q u) := fun c o e m => by
  rw [upd_ne (ne_of_none e n), a c o e m]
/-! ### lengths -/
open TL
theorem spl_len {S : List Nat} : ∀ (l : List Nat) (k : Nat) (acc p : List Nat), p ∈ spl S k acc l → p.length ≤ acc.length + l.length
  | [], k, acc, p, h => by
    rw [spl_nil] at h
    rw [List.mem_singleton.mp h]
    exact Nat.le_add_right _ _
  | c :: r, 0, acc, p, h => by
    by_cases hp : pre S (c :: r) = true
    · rw [spl_hit hp] at h
      rcases List.mem_cons.mp h with h | h
      · rw [h]
        exact Nat.le_add_right _ _
      · have := spl_len r _ _ p h
        simp at this ⊢
        omega
    · have hp2 : pre S (c :: r) = false := by simpa using hp
      rw [spl_miss hp2] at h
      have := spl_len r _ _ p h
      simp at this ⊢
      omega
  | c :: r, k + 1, acc, p, h => by
    have := spl_len r k acc p h
    simp at this ⊢
    omega
theorem spl_many {S : List Nat} : ∀ (l : List Nat) (k : Nat) (acc : List Nat), (spl S k acc l).length ≤ l.length + 1
  | [], k, acc => by rw [spl_nil]; exact Nat.le_refl _
  | c :: r, 0, acc => by
    by_cases hp : pre S (c :: r) = true
    · rw [spl_hit hp]
      have := spl_many (S := S) r (S.length - 1) []
      simp
      omega
    · have hp2 : pre S (c :: r) = false := by simpa using hp
      rw [spl_miss hp2]
      have := spl_many (S := S) r 0 (acc ++ [c])
      simp
      omega
  | c :: r, k + 1, acc => by
    show (spl S k acc r).length ≤ _
    have := spl_many (S := S) r k acc
    simp
    omega
theorem par_len {S : List Nat} : ∀ (l acc a b : List Nat), par S acc l = some (a, b) → a.length ≤ acc.length + l.length
  | [], acc, a, b, h => by cases h
  | c :: r, acc, a, b, h => by
    by_cases hp : pre S (c :: r) = true
    · rw [par_hit hp] at h
      cases h
      exact Nat.le_add_right _ _
    · have hp2 : pre S (c :: r) = false := by simpa using hp
      rw [par_miss hp2] at h
      have := par_len r _ a b h
      simp at this ⊢
      omega
theorem part_len (x : Str) {y : Str} (hy : tl y ≠ []) : (Txt.partition x y).1.length ≤ x.length := by
  rw [partition_par x y hy]
  cases e : par (tl y) [] (tl x) with
  | none => exact Nat.le_refl _
  | some q =>
    obtain ⟨a, b⟩ := q
    have := par_len _ _ _ _ e
    show (⟨a.toArray⟩ : Str).length ≤ _
    rw [len_tl, len_tl, tl_mk]
    simpa using this
theorem strip_len (x : Str) : (Txt.strip x).length ≤ x.length := by
  unfold Txt.strip
  rw [PyProof.Rows.stripBy_eq, len_tl, tl_strSub, len_tl]
  simp
  omega
theorem spl_ne {S : List Nat} : ∀ (l : List Nat) (k : Nat) (acc : List Nat), spl S k acc l ≠ []
  | [], k, acc => by rw [spl_nil]; simp
  | c :: r, 0, acc => by
    by_cases hp : pre S (c :: r) = true
    · rw [spl_hit hp]
      simp
    · have hp2 : pre S (c :: r) = false := by simpa using hp
      rw [spl_miss hp2]
      exact spl_ne r 0 _
  | c :: r, k + 1, acc => spl_ne r k acc
theorem cut_init {xs : List V} : cutV xs none (some (-1)) = xs.dropLast := by
  unfold cutV HT.sIx
  simp [List.dropLast_eq_take]
  omega
theorem atI_last {α : Type} {xs : List α} {x : α} (h : xs.getLast? = some x) : atI xs (-1) = some x := by
  unfold atI ixN
  cases xs with
  | nil => cases h
  | cons a r =>
    rw [List.getLast?_eq_getElem?] at h
    have e : (if (0 : Int) ≤ -1 then (if (-1 : Int) < ((a :: r).length : Nat) then some (-1 : Int).toNat else none) else if -(((a :: r).length : Nat) : Int) ≤ -1 then some ((-1 : Int) + ((a :: r).length : Nat)).toNat else none) = some ((a :: r).length - 1) := by
      rw [if_neg (by decide), if_pos (by simp; omega)]
      congr 1
      simp
      omega
    rw [e]
    exact h
end
section
open PySem L2 LamX

open TL
def rowsOf (x : Str) : List Str := Txt.split (Txt.partition x "//").1 ":"
def namesOf (x : Str) : List Str := (rowsOf x).dropLast.map Txt.strip
def wordsOf (x : Str) : List Str := Txt.words ((rowsOf x).getLast?.getD "")
open Classical in
def spParts (CE pI : Addr) : Sp := fun vs H Q E => ∃ x : Str, vs = [.str x] ∧ x.length ≤ 40000 ∧ GxR.TabG H pI ∧ if ∀ y ∈ namesOf x, labelOk y then
    ∀ (H' : Hp) (p a b : Addr), Keep [pI] H H' → GxR.TabG H' pI → H p = none → H a = none → H b = none → a ≠ b → p ≠ a → p ≠ b → H' p = some (.tup [.ref a, .ref b]) → H' a = some (.lst ((namesOf x).map V.str)) → H' b = some (.lst ((wordsOf x).map V.str)) → Q (.ref p) H'
  else ∀ H', Keep [pI] H H' → GxR.TabG H' pI → E (.ref CE) none H'
section
variable {P : Program} {w : World} {K : PySem.W.Frag} {mg : Str → Option Value} {base : Heap} {aC pI : Addr}
abbrev s_line_parts : Stmt := (top 15)
theorem sc_line_parts : FnScope ["line", "rows", "names", "row", "name"] ["line"] (defScope s_line_parts) := ⟨rfl, rfl, rfl, by decide +kernel, rfl, by decide +kernel, by decide +kernel⟩
theorem ok_line_parts {f : Addr} {fd : FuncData} (F : Fun K "line_parts" "line_parts" s_line_parts f fd) (T : TK K mg) {fL : Addr} {fdL : FuncData} (FL : FunC K "check_label" "check_label" s_check_label fL fdL (.ref aC)) (TB : GxR.TabB base mg aC pI) (mL : mg "check_label" = some (.ref fL)) (kL : PySem.W.keepIn K (.ref fL) = true) (bL : L2.Binds K fdL ["name"] []) : FnOk P w K mg base (L2.CX P w) 5 f fd ["line"] (spParts T.C_CodeError pI) := by
  refine F.okX sc_line_parts (fun vs H Q E h => ?_) (fun cdv A outer s H vs Q E hr h => ?_)
  · obtain ⟨x, rfl, _⟩ := h
    rfl
  · obtain ⟨x, rfl, hz, hT, k⟩ := h
    refine ⟨_, (pss_cons (ps_set (i := 1) sc_line_parts.nd rfl (Or.inl rfl) (pe_split (pe_ix ix_t (pe_partition (pv 0) pe_str) pe_int (fun _ _ => rfl)) pe_str))
        (pss_cons (ps_setLc (i := 2) (own := [("row", 3)]) (g := gName 3) (tt := tYes) rfl sc_line_parts.nd rfl rfl (sw_true rfl rfl rfl (by decide +kernel)) (pi_list (pe_slice sl_listH (pv 1) po_none (po_some (pe_un un_neg pe_int)))) (blkOk_by (own := [("row", 3)]) (N := ["line", "rows", "names", "row", "name"]) (sc := defScope s_line_parts) (by decide +kernel)) (fun _ _ _ _ _ => (pg_name (i := 3) sc_line_parts.nd rfl (Or.inl rfl))) (fun _ _ _ _ _ => pts_nil) (fun _ _ _ _ _ => (pe_strip (pv 3))))
        (pss_cons (ps_for (passes_of rfl) rfl (pi_list (pv 2)) (pg_name (i := 4) sc_line_parts.nd rfl (Or.inl rfl)) (pss_one (ps_expr (pe_call (ok_check_label FL T TB) (hr.mono (by decide)) (by rfl) mL kL bL .nil (passes_call (takes_of rfl rfl rfl rfl) (fun _ _ _ _ h => h)) (pa_cons (pv 4) pa_nil)))))
        (pss_one (ps_ret (pe_tup (pa_cons (pv 2) (pa_cons (pe_words (pe_ix ix_l (pv 1) (pe_un un_neg pe_int) (fun _ _ => rfl))) pa_nil)))))))), ?_⟩
    simp_arith [cx_K, ↓e_tM1, ↓e_tM0, ex_s, ↓ex_s2, ↓ex_s1, ↓ex_l1, ↓ex_ss, ↓ex_c, ↓e_news, ↓e_tForL, ↓e_asL, ↓e_tLcL, ↓tRaiseF_, ↓e_rInT, allP_0, allP_c, put_0, put_c, look_0, look_c, exists_eq_left', exists_eq', cast1, cast2, flat_strs, inV_strs, cI_flat, cI_in, ex_isi]
    have nS : tl (Str.ofString "//") ≠ [] := by decide
    have l1 := part_len x nS
    refine ⟨by decide, Nat.le_trans hz (by decide), fun p np => ⟨by decide, Nat.le_trans (Nat.add_le_add_right l1 2) (Nat.le_trans (Nat.add_le_add_right hz 2) (by decide)), fun p1 n1 np1 p2 n21 n2 np2 => ?_⟩⟩
    rw [cut_init, ← List.map_dropLast]
    generalize eR : Txt.split (Txt.partition x (Str.ofString "//")).1 (Str.ofString ":") = R
    have big : 60000 ≤ sizeLine := by decide
    have eN : namesOf x = R.dropLast.map Txt.strip := by
      rw [← eR]
      rfl
    have eW : wordsOf x = Txt.words (R.getLast?.getD "") := by
      rw [← eR]
      rfl
    have lenR : ∀ y ∈ R, y.length ≤ 40000 := fun y hy => by
      rw [← eR] at hy
      have h1 : tl y ∈ spl (tl (Str.ofString ":")) 0 [] (tl (Txt.partition x (Str.ofString "//")).1) := by
        rw [← split_spl _ _ (by decide +kernel) (kind_ok (by decide +kernel))]
        exact List.mem_map.mpr ⟨y, hy, rfl⟩
      have h2 := spl_len _ _ _ _ h1
      rw [← len_tl, ← len_tl] at h2
      simp at h2
      omega
    have manyR : R.length ≤ 40001 := by
      have h1 : (R.map tl).length ≤ (tl (Txt.partition x (Str.ofString "//")).1).length + 1 := by
        rw [← eR, split_spl _ _ (by decide +kernel) (kind_ok (by decide +kernel))]
        exact spl_many _ _ _
      rw [List.length_map, ← len_tl] at h1
      omega
    have neR : R ≠ [] := fun e => by
      have h1 : (R.map tl) = spl (tl (Str.ofString ":")) 0 [] (tl (Txt.partition x (Str.ofString "//")).1) := by
        rw [← eR]
        exact split_spl _ _ (by decide +kernel) (kind_ok (by decide +kernel))
      rw [e] at h1
      exact spl_ne _ _ _ h1.symm
    obtain ⟨pt, eT, okT⟩ := id hT
    obtain ⟨Y, eY⟩ : ∃ Y : Hp, Y = upd (upd (upd H p (.tup [.str (Txt.partition x (Str.ofString "//")).1, .str (Txt.partition x (Str.ofString "//")).2.1, .str (Txt.partition x (Str.ofString "//")).2.2])) p1 (.lst (R.map V.str))) p2 (.lst (R.dropLast.map V.str)) := ⟨_, rfl⟩
    rw [← eY]
    have kY : Keep [] H Y := by
      rw [eY]
      exact ((Keep.refl.over np).over np1).over np2
    have hp1 : Y p1 = some (.lst (R.map V.str)) := by rw [eY, upd_ne (Ne.symm n21), upd_same]
    have hp2 : Y p2 = some (.lst (R.dropLast.map V.str)) := by rw [eY, upd_same]
    have tY : Y pI = some (.tbl pt) := kY _ _ eT (by simp)
    clear eY
    have lenD : R.dropLast.length ≤ 40001 := by rw [List.length_dropLast]; omega
    refine ⟨⟨_, SqL.of hp2⟩, lcL_by (xs := R.dropLast.map V.str) (fun D i G => G D = some (.lst ((R.dropLast.take i).map fun r => V.str (Txt.strip r))) ∧ Keep [] Y G) (fun D nD => ⟨upd_same, Keep.refl.new nD⟩) (fun D i G nD _ h => SqL.of (h.2 _ _ hp2 (by simp))) ?_ ?_⟩
    · rintro D i v G nD hv ⟨hD, kG⟩
      rw [List.getElem?_map] at hv
      cases er : R.dropLast[i]? with
      | none => rw [er] at hv; cases hv
      | some r =>
        rw [er] at hv
        cases hv
        have lr := lenR r (List.dropLast_subset _ (List.mem_of_getElem? er))
        simp_arith [cx_K, ↓e_tM1, ↓e_tM0, ex_s, ↓ex_s2, ↓ex_s1, ↓ex_l1, ↓ex_ss, ↓ex_c, ↓e_news, ↓e_tForL, ↓e_asL, ↓e_tLcL, ↓tRaiseF_, ↓e_rInT, allP_0, allP_c, put_0, put_c, look_0, look_c, exists_eq_left', exists_eq', cast1, cast2, flat_strs, inV_strs, cI_flat, cI_in, ex_isi, wipe]
        refine ⟨Nat.le_trans lr (by decide), _, hD, ?_, ?_, kG.over nD⟩
        · rw [List.length_map, List.length_take]
          omega
        · rw [List.take_add_one, er]
          simp
    · rintro D G nD ⟨hD, kG⟩
      rw [List.length_map, List.take_length] at hD
      have hD2 : G D = some (.lst ((namesOf x).map V.str)) := by
        rw [hD, eN, List.map_map]
        rfl
      have tG : GxR.TabG G pI := ⟨pt, kG _ _ tY (by simp), okT⟩
      simp_arith [cx_K, ↓e_tM1, ↓e_tM0, ex_s, ↓ex_s2, ↓ex_s1, ↓ex_l1, ↓ex_ss, ↓ex_c, ↓e_news, ↓e_tForL, ↓e_asL, ↓e_tLcL, ↓tRaiseF_, ↓e_rInT, allP_0, allP_c, put_0, put_c, look_0, look_c, exists_eq_left', exists_eq', cast1, cast2, flat_strs, inV_strs, cI_flat, cI_in, ex_isi]
      refine ⟨⟨_, SqL.of hD2⟩, forL_by (xs := (namesOf x).map V.str) (fun i σ G2 => ∃ v, σ = [some (.str x), some (.ref p1), some (.ref D), none, v] ∧ Keep [pI] G G2 ∧ GxR.TabG G2 pI ∧ ∀ j y, j < i → (namesOf x)[j]? = some y → labelOk y) ⟨_, rfl, Keep.refl, tG, fun j y hj => absurd hj (by omega)⟩ (fun i σ G2 _ h => ?_) ?_ ?_⟩
      · obtain ⟨v, _, k2, _⟩ := h
        refine SqL.of (k2 _ _ hD2 (fun hb => ?_))
        rw [List.mem_singleton.mp hb] at nD
        rw [nD] at tY
        cases tY
      · rintro i v σ G2 hv ⟨v0, rfl, k2, t2, ok2⟩
        rw [List.getElem?_map] at hv
        cases er : (namesOf x)[i]? with
        | none => rw [er] at hv; cases hv
        | some y =>
          rw [er] at hv
          cases hv
          have ly : y.length ≤ 100000 := by
            have h1 := List.mem_of_getElem? er
            rw [eN] at h1
            obtain ⟨r, hr1, rfl⟩ := List.mem_map.mp h1
            have h2 := strip_len r
            have h3 := lenR r (List.dropLast_subset _ hr1)
            omega
          simp_arith [cx_K, ↓e_tM1, ↓e_tM0, ex_s, ↓ex_s2, ↓ex_s1, ↓ex_l1, ↓ex_ss, ↓ex_c, ↓e_news, ↓e_tForL, ↓e_asL, ↓e_tLcL, ↓tRaiseF_, ↓e_rInT, allP_0, allP_c, put_0, put_c, look_0, look_c, exists_eq_left', exists_eq', cast1, cast2, flat_strs, inV_strs, cI_flat, cI_in, ex_isi]
          refine ⟨y, rfl, ly, t2, ?_⟩
          have kT : ∀ G3, GxR.Tabbed pI G2 G3 → Keep [pI] G2 G3 := fun G3 tb b o e nb => by
            rw [tb.2 b (by simpa using nb)]
            exact e
          by_cases ok : labelOk y
          · rw [if_pos ok]
            refine fun G3 tb => ⟨_, rfl, k2.trans (kT _ tb), tb.1, fun j z hj e => ?_⟩
            by_cases ej : j = i
            · rw [ej, er] at e
              cases e
              exact ok
            · exact ok2 j z (by omega) e
          · rw [if_neg ok]
            rw [if_neg (fun h => ok (h y (List.mem_of_getElem? er)))] at k
            exact fun G3 tb => k G3 (((kY.trans kG).more (by simp)).trans (k2.trans (kT _ tb))) tb.1
      · rintro σ G2 ⟨v0, rfl, k2, t2, ok2⟩
        have all : ∀ y ∈ namesOf x, labelOk y := fun y hy => by
          obtain ⟨j, hj⟩ := List.mem_iff_getElem?.mp hy
          refine ok2 j y ?_ hj
          rw [List.length_map]
          exact (List.getElem?_eq_some_iff.mp hj).1
        rw [if_pos all] at k
        have npI : p1 ≠ pI := fun e => by
          rw [e, tY] at hp1
          cases hp1
        have h1 := k2 _ _ (kG _ _ hp1 (by simp)) (by simpa using npI)
        obtain ⟨l, hl⟩ : ∃ l, R.getLast? = some l := by
          cases e : R.getLast? with
          | none => exact absurd (List.getLast?_eq_none_iff.mp e) neR
          | some l => exact ⟨l, rfl⟩
        have hat : atI (R.map V.str) (-1) = some (.str l) := atI_last (by rw [List.getLast?_map, hl]; rfl)
        simp_arith [cx_K, ↓e_tM1, ↓e_tM0, ex_s, ↓ex_s2, ↓ex_s1, ↓ex_l1, ↓ex_ss, ↓ex_c, ↓e_news, ↓e_tForL, ↓e_asL, ↓e_tLcL, ↓tRaiseF_, ↓e_rInT, allP_0, allP_c, put_0, put_c, look_0, look_c, exists_eq_left', exists_eq', cast1, cast2, flat_strs, inV_strs, cI_flat, cI_in, ex_isi, h1, hat]
        have ll : l.length ≤ 40000 := lenR l (List.mem_of_getLast? hl)
        refine ⟨Nat.le_trans (Nat.add_le_add_right ll 2) (by decide), fun b nb q qb nq => ?_⟩
        have K0 : Keep [pI] H G2 := ((kY.trans kG).more (by simp)).trans k2
        obtain ⟨pt2, e2, ok3⟩ := id t2
        have fr : ∀ a, G2 a = none → H a = none := fun a na => Keep.free K0 na (fun h => by
          rw [List.mem_singleton.mp h, e2] at na
          cases na)
        have nDp : D ≠ pI := fun h => by
          rw [h, tY] at nD
          cases nD
        have hD3 : G2 D = some (.lst ((namesOf x).map V.str)) := k2 _ _ hD2 (by simpa using nDp)
        have Db : D ≠ b := ne_of_none hD3 nb
        have Dq : D ≠ q := ne_of_none hD3 nq
        have nq2 : (upd G2 b (.lst ((Txt.words l).map V.str))) q = none := upd_none.mpr ⟨qb, nq⟩
        have ew : wordsOf x = Txt.words l := by rw [eW, hl]; rfl
        refine k _ q D b ((K0.new nb).new nq2) ⟨pt2, by rw [upd_ne (ne_of_none (by rw [upd_ne (ne_of_none e2 nb)]; exact e2) nq2), upd_ne (ne_of_none e2 nb)]; exact e2, ok3⟩ (fr q nq) ?_ (fr b nb) Db (Ne.symm Dq) qb upd_same (by rw [upd_ne Dq, upd_ne Db]; exact hD3) (by rw [upd_ne (Ne.symm qb), upd_same, ew])
        exact Keep.free (kY.trans (Keep.refl)) nD (by simp)
end
end
section
open PySem L2 LamX

open TL
def digitsOk (n : Str) : Prop := 0 < n.length ∧ n.length ≤ 3 ∧ ∀ c ∈ tl n, c ∈ tl "0123456789"
def numOf (n : Str) : Int := (PySem.NumText.digitsVal (tl n) : Nat)
open Classical in
noncomputable def insOf (ws : List Str) (pl : List (Str × Int)) : Option (Str × Int) := match ws with
  | [w] => if w ∈ wPlain then some (w, 0) else none
  | [w, n] => if w ∈ wJump ∨ w ∈ wData then (match (if w ∈ wJump then pl.lookup n else none) with
    | some k => some (w, k)
    | none => if digitsOk n then some (w, numOf n) else none) else none
  | _ => none
def plK (pl : List (Str × Int)) : List (Key × V) := pl.map fun q => (.inr q.1, .int q.2)
theorem valV_pl {n : Str} : ∀ {pl : List (Str × Int)}, valV (plK pl) (.inr n) = (pl.lookup n).map V.int
  | [] => rfl
  | (k, v) :: r => by
    have ih := valV_pl (n := n) (pl := r)
    rw [show plK ((k, v) :: r) = (.inr k, .int v) :: plK r from rfl, valV_c, ih, List.lookup_cons]
    by_cases h : n = k
    · subst h
      simp
    · have h2 : ¬ k = n := fun e => h e.symm
      have : (n == k) = false := by simpa using h
      simp [this, h2]
theorem digs {c : Nat} : c ∈ tl "0123456789" ↔ 48 ≤ c ∧ c ≤ 57 := by
  have e : tl "0123456789" = [48, 49, 50, 51, 52, 53, 54, 55, 56, 57] := by decide +kernel
  rw [e]
  simp only [List.mem_cons, List.not_mem_nil, or_false]
  omega
theorem int_of {n : Str} (h : digitsOk n) : PySem.intText? n = some (numOf n) := by
  refine intText_digits (fun c hc => digs.mp (h.2.2 c hc)) (fun e => ?_) (by have := h.2.1; omega)
  have := h.1
  rw [len_tl, show tl n = [] from e] at this
  simp at this
theorem okRow_word0 {w : Str} (h : w ∈ wPlain ∨ w ∈ wJump ∨ w ∈ wData) : WordOk w := by
  have e := mem_cIs.mpr h
  simp only [cIs, List.map_cons, List.map_nil, List.mem_cons, List.not_mem_nil, or_false] at e
  rcases e with rfl | rfl | rfl | rfl | rfl | rfl | rfl | rfl | rfl | rfl | rfl | rfl | rfl | rfl | rfl | rfl <;> exact ⟨by decide +kernel, by decide +kernel⟩
def spIns (CE pJ : Addr) : Sp := fun vs H Q E => ∃ (a pd : Addr) (ws : List Str) (pl : List (Str × Int)), vs = [.ref a, .ref pd] ∧ H a = some (.lst (ws.map V.str)) ∧ H pd = some (.dK (plK pl)) ∧ GxR.TabG H pJ ∧ (∀ y ∈ ws, y.length ≤ 40000) ∧ ws.length ≤ 40000 ∧ match insOf ws pl with
  | some (w, n) => ∀ (H' : Hp) (p : Addr), Keep [pJ] H H' → GxR.TabG H' pJ → H p = none → H' p = some (.tup [.str w, .int n]) → Q (.ref p) H'
  | none => ∀ H', Keep [pJ] H H' → GxR.TabG H' pJ → E (.ref CE) none H'
section
variable {P : Program} {w : World} {K : PySem.W.Frag} {mg : Str → Option Value} {base : Heap} {aJ pJ : Addr}
abbrev s_instruction_of : Stmt := (top 18)
theorem sc_instruction_of : FnScope ["words", "places", "word", "sign"] ["words", "places"] (defScope s_instruction_of) := ⟨rfl, rfl, rfl, by decide +kernel, rfl, by decide +kernel, by decide +kernel⟩
theorem ok_instruction_of {f : Addr} {fd : FuncData} (F : FunC K "instruction_of" "instruction_of" s_instruction_of f fd (.ref aJ)) (T : TK K mg) (TB : GxR.TabB base mg aJ pJ) : FnOk P w K mg base (L2.CX P w) 4 f fd ["words", "places"] (spIns T.C_CodeError pJ) := by
  refine F.okX sc_instruction_of (fun vs H Q E h => ?_) (fun A outer s H vs Q E hr h => ?_)
  · obtain ⟨a, pd, ws, pl, rfl, _⟩ := h
    rfl
  · obtain ⟨a, pd, ws, pl, rfl, ha, hp, hT, hl, hm, k⟩ := h
    have hu := hu_of hr
    refine ⟨_, (pss_cons (ps_set (i := 2) sc_instruction_of.nd rfl (Or.inl rfl) (pe_ifExp (pt_truth (pv 0) (by intro _; rfl)) (pe_ix ix_l (pv 0) pe_int (fun _ _ => rfl)) pe_str))
        (pss_cons (ps_if (PW.pt (pw_or (pt_cmpR (op_notInC T.w_INSTRUCTIONS) (pv 2) (pe_glob (v := .ref T.a_INSTRUCTIONS) (by rfl) T.g_INSTRUCTIONS rfl) (by rfl)) (pw_or1 (pt_cmpR op_ne (pe_callB call_lenL (by rfl) T.z_len (by decide +kernel) (pa_cons (pv 0) pa_nil)) (pe_ifExp (pt_cmpR (op_inC T.w_PLAIN) (pv 2) (pe_glob (v := .ref T.a_PLAIN) (by rfl) T.g_PLAIN rfl) (by rfl)) pe_int pe_int) (nomark _))))) (pss_one (ps_raise rfl (takes_of rfl rfl rfl rfl) (pmk_own PySem.F.excBase_ValueError T.x_CodeError T.g_CodeError T.kp_CodeError (raises_own T.b_CodeError T.t_CodeError) (by exact rfl)))) pss_nil)
        (pss_cons (ps_if (pt_cmpR (op_inC T.w_PLAIN) (pv 2) (pe_glob (v := .ref T.a_PLAIN) (by rfl) T.g_PLAIN rfl) (by rfl)) (pss_one (ps_ret (pe_tup (pa_cons (pv 2) (pa_cons pe_int pa_nil))))) pss_nil)
        (pss_cons (ps_if (PW.pt (pw_and (pt_cmpR (op_inC T.w_JUMPS) (pv 2) (pe_glob (v := .ref T.a_JUMPS) (by rfl) T.g_JUMPS rfl) (by rfl)) (pw_and1 (pt_cmp (pc_din hu (pe_ix ix_l (pv 0) pe_int (fun _ _ => rfl)) (pv 1)))))) (pss_one (ps_ret (pe_tup (pa_cons (pv 2) (pa_cons (pe_dgH hu (pv 1) (pe_ix ix_l (pv 0) pe_int (fun _ _ => rfl)) (fun _ _ => rfl)) pa_nil))))) pss_nil)
        (pss_cons (ps_if (PW.pt (pw_or (pt_not (pt_chain op_lt op_le pe_int (pe_callB call_len_str (by rfl) T.z_len (by decide +kernel) (pa_cons (pe_ix ix_l (pv 0) pe_int (fun _ _ => rfl)) pa_nil)) (pe_glob (v := .int 3) (by rfl) T.c_MOST_DIGITS_OF_CODE ⟨_, rfl⟩))) (pw_or1 (pt_val (pe_anyG (k := 0) (tt := tYes) sc_instruction_of.nd (hr.mono (by decide)) (by rfl) T.z_any TB rfl (own := [("sign", 3)]) (show GexS ["words", "places", "word", "sign"] (defScope s_instruction_of) _ _ from gexS_by (by decide +kernel)) (pi_str (pe_ix ix_l (pv 0) pe_int (fun _ _ => rfl))) (fun _ _ _ _ _ _ => (pg_name (i := 3) sc_instruction_of.nd rfl (Or.inl rfl))) (fun _ _ _ _ _ _ _ => pts_nil) (fun _ _ _ _ _ _ _ => (pe_cmpR op_notIn_sign (pv 3) (pe_glob (v := .str "0123456789") (by rfl) T.c_DIGITS ⟨_, rfl⟩) rfl)) (by intro _; rfl)))))) (pss_one (ps_raiseF rfl (takes_of rfl rfl rfl rfl) PySem.F.excBase_ValueError T.x_CodeError T.g_CodeError T.kp_CodeError (raises_own T.b_CodeError T.t_CodeError) (by rfl) (.cons (pt_word (pv 2)) (.cons (pt_str (by decide)) .nil)))) pss_nil)
        (pss_one (ps_ret (pe_tup (pa_cons (pv 2) (pa_cons (pe_callTy call_int_str (by rfl) T.z_int (by decide +kernel) (pa_cons (pe_ix ix_l (pv 0) pe_int (fun _ _ => rfl)) pa_nil)) pa_nil)))))))))), ?_⟩
    have tabN : ∀ {u : HO} (p : Addr), H p = none → GxR.TabG (upd H p u) pJ := fun {u} p np => by
      obtain ⟨pt, e, ok⟩ := hT
      exact ⟨pt, by rw [upd_ne (ne_of_none e np)]; exact e, ok⟩
    match ws, ha, hl, hm, k with
    | [], ha, hl, hm, k =>
      simp_arith [cx_K, ↓e_tM1, ↓e_tM0, ex_s, ↓ex_s2, ↓ex_s1, ↓ex_l1, ↓ex_ss, ↓ex_c, ↓e_news, ↓e_tForL, ↓e_asL, ↓e_tLcL, ↓tRaiseF_, ↓e_rInT, allP_0, allP_c, put_0, put_c, look_0, look_c, exists_eq_left', exists_eq', ↓e_tDIn, ↓e_iStr, ↓ex_v, cast1, cast2, flat_strs, inV_strs, cI_flat, cI_in, ex_isi, ha]
      refine ⟨false, .inl ⟨_, SqL.of ha, rfl⟩, ?_⟩
      simp_arith [cx_K, ↓e_tM1, ↓e_tM0, ex_s, ↓ex_s2, ↓ex_s1, ↓ex_l1, ↓ex_ss, ↓ex_c, ↓e_news, ↓e_tForL, ↓e_asL, ↓e_tLcL, ↓tRaiseF_, ↓e_rInT, allP_0, allP_c, put_0, put_c, look_0, look_c, exists_eq_left', exists_eq', ↓e_tDIn, ↓e_iStr, ↓ex_v, cast1, cast2, flat_strs, inV_strs, cI_flat, cI_in, ex_isi]
      exact k H Keep.refl hT
    | [w1], ha, hl, hm, k =>
      simp_arith [cx_K, ↓e_tM1, ↓e_tM0, ex_s, ↓ex_s2, ↓ex_s1, ↓ex_l1, ↓ex_ss, ↓ex_c, ↓e_news, ↓e_tForL, ↓e_asL, ↓e_tLcL, ↓tRaiseF_, ↓e_rInT, allP_0, allP_c, put_0, put_c, look_0, look_c, exists_eq_left', exists_eq', ↓e_tDIn, ↓e_iStr, ↓ex_v, cast1, cast2, flat_strs, inV_strs, cI_flat, cI_in, ex_isi, ha, at_0]
      refine ⟨true, .inl ⟨_, SqL.of ha, rfl⟩, ?_⟩
      by_cases mP : w1 ∈ wPlain
      · have mI := mem_cIs.mpr (.inl mP)
        have e : insOf [w1] pl = some (w1, 0) := if_pos mP
        rw [e] at k
        simp_arith [cx_K, ↓e_tM1, ↓e_tM0, ex_s, ↓ex_s2, ↓ex_s1, ↓ex_l1, ↓ex_ss, ↓ex_c, ↓e_news, ↓e_tForL, ↓e_asL, ↓e_tLcL, ↓tRaiseF_, ↓e_rInT, allP_0, allP_c, put_0, put_c, look_0, look_c, exists_eq_left', exists_eq', ↓e_tDIn, ↓e_iStr, ↓ex_v, cast1, cast2, flat_strs, inV_strs, cI_flat, cI_in, ex_isi, mI, mP]
        exact fun p np => k _ p (Keep.refl.new np) (tabN p np) np upd_same
      · have e : insOf [w1] pl = none := if_neg mP
        rw [e] at k
        simp_arith [cx_K, ↓e_tM1, ↓e_tM0, ex_s, ↓ex_s2, ↓ex_s1, ↓ex_l1, ↓ex_ss, ↓ex_c, ↓e_news, ↓e_tForL, ↓e_asL, ↓e_tLcL, ↓tRaiseF_, ↓e_rInT, allP_0, allP_c, put_0, put_c, look_0, look_c, exists_eq_left', exists_eq', ↓e_tDIn, ↓e_iStr, ↓ex_v, cast1, cast2, flat_strs, inV_strs, cI_flat, cI_in, ex_isi, mP]
        by_cases mI : w1 ∈ cIs
        · simp_arith [cx_K, ↓e_tM1, ↓e_tM0, ex_s, ↓ex_s2, ↓ex_s1, ↓ex_l1, ↓ex_ss, ↓ex_c, ↓e_news, ↓e_tForL, ↓e_asL, ↓e_tLcL, ↓tRaiseF_, ↓e_rInT, allP_0, allP_c, put_0, put_c, look_0, look_c, exists_eq_left', exists_eq', ↓e_tDIn, ↓e_iStr, ↓ex_v, cast1, cast2, flat_strs, inV_strs, cI_flat, cI_in, ex_isi, mI]
          exact k H Keep.refl hT
        · simp_arith [cx_K, ↓e_tM1, ↓e_tM0, ex_s, ↓ex_s2, ↓ex_s1, ↓ex_l1, ↓ex_ss, ↓ex_c, ↓e_news, ↓e_tForL, ↓e_asL, ↓e_tLcL, ↓tRaiseF_, ↓e_rInT, allP_0, allP_c, put_0, put_c, look_0, look_c, exists_eq_left', exists_eq', ↓e_tDIn, ↓e_iStr, ↓ex_v, cast1, cast2, flat_strs, inV_strs, cI_flat, cI_in, ex_isi, mI]
          exact k H Keep.refl hT
    | [w1, n1], ha, hl, hm, k =>
      have ln : n1.length ≤ 40000 := hl n1 (by simp)
      simp_arith [cx_K, ↓e_tM1, ↓e_tM0, ex_s, ↓ex_s2, ↓ex_s1, ↓ex_l1, ↓ex_ss, ↓ex_c, ↓e_news, ↓e_tForL, ↓e_asL, ↓e_tLcL, ↓tRaiseF_, ↓e_rInT, allP_0, allP_c, put_0, put_c, look_0, look_c, exists_eq_left', exists_eq', ↓e_tDIn, ↓e_iStr, ↓ex_v, cast1, cast2, flat_strs, inV_strs, cI_flat, cI_in, ex_isi, ha, at_0, at_1]
      refine ⟨true, .inl ⟨_, SqL.of ha, rfl⟩, ?_⟩
      have tab1 : GxR.Tabbed pJ H H := ⟨hT, fun b _ => rfl⟩
      have kT : ∀ {G}, GxR.Tabbed pJ H G → Keep [pJ] H G := fun {G} tb b o e nb => by
        rw [tb.2 b (by simpa using nb)]
        exact e
      rcases word_cases w1 with ⟨mI, mP, mJ, mD⟩ | ⟨mI, mP, mJ, mD⟩ | ⟨mI, mP, mJ, mD⟩ | ⟨mI, mN⟩
      · have e : insOf [w1, n1] pl = none := if_neg (fun h => h.elim mJ mD)
        rw [e] at k
        simp_arith [cx_K, ↓e_tM1, ↓e_tM0, ex_s, ↓ex_s2, ↓ex_s1, ↓ex_l1, ↓ex_ss, ↓ex_c, ↓e_news, ↓e_tForL, ↓e_asL, ↓e_tLcL, ↓tRaiseF_, ↓e_rInT, allP_0, allP_c, put_0, put_c, look_0, look_c, exists_eq_left', exists_eq', ↓e_tDIn, ↓e_iStr, ↓ex_v, cast1, cast2, flat_strs, inV_strs, cI_flat, cI_in, ex_isi, mI, mP]
        exact k H Keep.refl hT
      · have lw : w1.length ≤ 3000 := Nat.le_trans (okRow_word0 (.inr (.inl mJ))).2 (by decide)
        simp_arith [cx_K, ↓e_tM1, ↓e_tM0, ex_s, ↓ex_s2, ↓ex_s1, ↓ex_l1, ↓ex_ss, ↓ex_c, ↓e_news, ↓e_tForL, ↓e_asL, ↓e_tLcL, ↓tRaiseF_, ↓e_rInT, allP_0, allP_c, put_0, put_c, look_0, look_c, exists_eq_left', exists_eq', ↓e_tDIn, ↓e_iStr, ↓ex_v, cast1, cast2, flat_strs, inV_strs, cI_flat, cI_in, ex_isi, mI, mP, mJ]
        refine ⟨pd, _, rfl, DGet.k (k := .inr n1) hp, ?_⟩
        rw [valV_pl]
        cases el : pl.lookup n1 with
        | some kk =>
          have e : insOf [w1, n1] pl = some (w1, kk) := by
            show (if w1 ∈ wJump ∨ w1 ∈ wData then _ else none) = _
            rw [if_pos (.inl mJ), if_pos mJ, el]
          rw [e] at k
          simp_arith [cx_K, ↓e_tM1, ↓e_tM0, ex_s, ↓ex_s2, ↓ex_s1, ↓ex_l1, ↓ex_ss, ↓ex_c, ↓e_news, ↓e_tForL, ↓e_asL, ↓e_tLcL, ↓tRaiseF_, ↓e_rInT, allP_0, allP_c, put_0, put_c, look_0, look_c, exists_eq_left', exists_eq', ↓e_tDIn, ↓e_iStr, ↓ex_v, cast1, cast2, flat_strs, inV_strs, cI_flat, cI_in, ex_isi, ha, hp, at_1, valV_pl, el]
          exact fun p np => k _ p (Keep.refl.new np) (tabN p np) np upd_same
        | none =>
          have eY : digitsOk n1 → insOf [w1, n1] pl = some (w1, numOf n1) := fun h => by
            show (if w1 ∈ wJump ∨ w1 ∈ wData then _ else none) = _
            rw [if_pos (.inl mJ), if_pos mJ, el]
            exact if_pos h
          have eN : ¬ digitsOk n1 → insOf [w1, n1] pl = none := fun h => by
            show (if w1 ∈ wJump ∨ w1 ∈ wData then _ else none) = _
            rw [if_pos (.inl mJ), if_pos mJ, el]
            exact if_neg h
          have bad : ¬ digitsOk n1 → ∀ G, GxR.Tabbed pJ H G → E (.ref T.C_CodeError) none G := fun h G tb => by
            rw [eN h] at k
            exact k G (kT tb) tb.1
          simp_arith [cx_K, ↓e_tM1, ↓e_tM0, ex_s, ↓ex_s2, ↓ex_s1, ↓ex_l1, ↓ex_ss, ↓ex_c, ↓e_news, ↓e_tForL, ↓e_asL, ↓e_tLcL, ↓tRaiseF_, ↓e_rInT, allP_0, allP_c, put_0, put_c, look_0, look_c, exists_eq_left', exists_eq', ↓e_tDIn, ↓e_iStr, ↓ex_v, cast1, cast2, flat_strs, inV_strs, cI_flat, cI_in, ex_isi, ha, at_1]
          refine ⟨Nat.le_trans ln (by decide), ?_⟩
          by_cases c1 : (0 : Int) < n1.length
          · rw [if_pos c1]
            by_cases c2 : ¬ ((n1.length : Int) ≤ 3)
            · rw [if_pos c2]
              exact ⟨lw, bad (fun h => c2 (by have := h.2.1; omega)) H tab1⟩
            · rw [if_neg c2]
              refine ⟨(tl n1).map (fun c => !decide (c ∈ tl "0123456789")), ?_⟩
              simp_arith [cx_K, ↓e_tM1, ↓e_tM0, ex_s, ↓ex_s2, ↓ex_s1, ↓ex_l1, ↓ex_ss, ↓ex_c, ↓e_news, ↓e_tForL, ↓e_asL, ↓e_tLcL, ↓tRaiseF_, ↓e_rInT, allP_0, allP_c, put_0, put_c, look_0, look_c, exists_eq_left', exists_eq', ↓e_tDIn, ↓e_iStr, ↓ex_v, cast1, cast2, flat_strs, inV_strs, cI_flat, cI_in, ex_isi, ha, at_1]
              refine ⟨hT, fun H2 tb => gxS_by (fun c => !decide (c ∈ tl "0123456789")) (by omega) (fun c hc Q' hq => ?_) (fun j c hj hb => ?_) (fun hall => ?_)⟩
              · simp_arith [cx_K, ↓e_tM1, ↓e_tM0, ex_s, ↓ex_s2, ↓ex_s1, ↓ex_l1, ↓ex_ss, ↓ex_c, ↓e_news, ↓e_tForL, ↓e_asL, ↓e_tLcL, ↓tRaiseF_, ↓e_rInT, allP_0, allP_c, put_0, put_c, look_0, look_c, exists_eq_left', exists_eq', ↓e_tDIn, ↓e_iStr, ↓ex_v, cast1, cast2, flat_strs, inV_strs, cI_flat, cI_in, ex_isi, wipe]
                exact ⟨_, _, rfl, rfl, hq⟩
              · refine ⟨lw, bad (fun h => ?_) H2 tb⟩
                rw [List.getElem?_map, hj] at hb
                have hc := h.2.2 c (List.mem_of_getElem? hj)
                have hb2 : (!decide (c ∈ tl (Str.ofString "0123456789"))) = true := Option.some.inj hb
                rw [decide_eq_true hc] at hb2
                cases hb2
              · have ok : digitsOk n1 := ⟨by omega, by omega, fun c hc => by
                  have z := hall _ (List.mem_map.mpr ⟨c, hc, rfl⟩)
                  simpa using z⟩
                have ne : a ≠ pJ := fun e0 => by
                  obtain ⟨pt, e2, _⟩ := hT
                  rw [e0, e2] at ha
                  cases ha
                have ha2 : H2 a = some (.lst [.str w1, .str n1]) := by rw [tb.2 a ne]; exact ha
                rw [eY ok] at k
                simp_arith [cx_K, ↓e_tM1, ↓e_tM0, ex_s, ↓ex_s2, ↓ex_s1, ↓ex_l1, ↓ex_ss, ↓ex_c, ↓e_news, ↓e_tForL, ↓e_asL, ↓e_tLcL, ↓tRaiseF_, ↓e_rInT, allP_0, allP_c, put_0, put_c, look_0, look_c, exists_eq_left', exists_eq', ↓e_tDIn, ↓e_iStr, ↓ex_v, cast1, cast2, flat_strs, inV_strs, cI_flat, cI_in, ex_isi, ha2, at_1]
                refine ⟨n1, numOf n1, rfl, int_of ok, by have := ok.2.1; omega, fun p np => ?_⟩
                obtain ⟨pt, e2, ok2⟩ := id tb.1
                have np0 : H p = none := by
                  rw [← tb.2 p (fun e0 => by rw [e0, e2] at np; cases np)]
                  exact np
                exact k _ p ((kT tb).new np) ⟨pt, by rw [upd_ne (ne_of_none e2 np)]; exact e2, ok2⟩ np0 upd_same
          · rw [if_neg c1]
            exact ⟨lw, bad (fun h => c1 (by have := h.1; omega)) H tab1⟩
      · have lw : w1.length ≤ 3000 := Nat.le_trans (okRow_word0 (.inr (.inr mD))).2 (by decide)
        have eY : digitsOk n1 → insOf [w1, n1] pl = some (w1, numOf n1) := fun h => by
          show (if w1 ∈ wJump ∨ w1 ∈ wData then _ else none) = _
          rw [if_pos (.inr mD), if_neg mJ]
          exact if_pos h
        have eN : ¬ digitsOk n1 → insOf [w1, n1] pl = none := fun h => by
          show (if w1 ∈ wJump ∨ w1 ∈ wData then _ else none) = _
          rw [if_pos (.inr mD), if_neg mJ]
          exact if_neg h
        have bad : ¬ digitsOk n1 → ∀ G, GxR.Tabbed pJ H G → E (.ref T.C_CodeError) none G := fun h G tb => by
          rw [eN h] at k
          exact k G (kT tb) tb.1
        simp_arith [cx_K, ↓e_tM1, ↓e_tM0, ex_s, ↓ex_s2, ↓ex_s1, ↓ex_l1, ↓ex_ss, ↓ex_c, ↓e_news, ↓e_tForL, ↓e_asL, ↓e_tLcL, ↓tRaiseF_, ↓e_rInT, allP_0, allP_c, put_0, put_c, look_0, look_c, exists_eq_left', exists_eq', ↓e_tDIn, ↓e_iStr, ↓ex_v, cast1, cast2, flat_strs, inV_strs, cI_flat, cI_in, ex_isi, mI, mP, mJ, ha, at_1]
        refine ⟨Nat.le_trans ln (by decide), ?_⟩
        by_cases c1 : (0 : Int) < n1.length
        · rw [if_pos c1]
          by_cases c2 : ¬ ((n1.length : Int) ≤ 3)
          · rw [if_pos c2]
            exact ⟨lw, bad (fun h => c2 (by have := h.2.1; omega)) H tab1⟩
          · rw [if_neg c2]
            refine ⟨(tl n1).map (fun c => !decide (c ∈ tl "0123456789")), ?_⟩
            simp_arith [cx_K, ↓e_tM1, ↓e_tM0, ex_s, ↓ex_s2, ↓ex_s1, ↓ex_l1, ↓ex_ss, ↓ex_c, ↓e_news, ↓e_tForL, ↓e_asL, ↓e_tLcL, ↓tRaiseF_, ↓e_rInT, allP_0, allP_c, put_0, put_c, look_0, look_c, exists_eq_left', exists_eq', ↓e_tDIn, ↓e_iStr, ↓ex_v, cast1, cast2, flat_strs, inV_strs, cI_flat, cI_in, ex_isi, ha, at_1]
            refine ⟨hT, fun H2 tb => gxS_by (fun c => !decide (c ∈ tl "0123456789")) (by omega) (fun c hc Q' hq => ?_) (fun j c hj hb => ?_) (fun hall => ?_)⟩
            · simp_arith [cx_K, ↓e_tM1, ↓e_tM0, ex_s, ↓ex_s2, ↓ex_s1, ↓ex_l1, ↓ex_ss, ↓ex_c, ↓e_news, ↓e_tForL, ↓e_asL, ↓e_tLcL, ↓tRaiseF_, ↓e_rInT, allP_0, allP_c, put_0, put_c, look_0, look_c, exists_eq_left', exists_eq', ↓e_tDIn, ↓e_iStr, ↓ex_v, cast1, cast2, flat_strs, inV_strs, cI_flat, cI_in, ex_isi, wipe]
              exact ⟨_, _, rfl, rfl, hq⟩
            · refine ⟨lw, bad (fun h => ?_) H2 tb⟩
              rw [List.getElem?_map, hj] at hb
              have hc := h.2.2 c (List.mem_of_getElem? hj)
              have hb2 : (!decide (c ∈ tl (Str.ofString "0123456789"))) = true := Option.some.inj hb
              rw [decide_eq_true hc] at hb2
              cases hb2
            · have ok : digitsOk n1 := ⟨by omega, by omega, fun c hc => by
                have z := hall _ (List.mem_map.mpr ⟨c, hc, rfl⟩)
                simpa using z⟩
              have ne : a ≠ pJ := fun e0 => by
                obtain ⟨pt, e2, _⟩ := hT
                rw [e0, e2] at ha
                cases ha
              have ha2 : H2 a = some (.lst [.str w1, .str n1]) := by rw [tb.2 a ne]; exact ha
              rw [eY ok] at k
              simp_arith [cx_K, ↓e_tM1, ↓e_tM0, ex_s, ↓ex_s2, ↓ex_s1, ↓ex_l1, ↓ex_ss, ↓ex_c, ↓e_news, ↓e_tForL, ↓e_asL, ↓e_tLcL, ↓tRaiseF_, ↓e_rInT, allP_0, allP_c, put_0, put_c, look_0, look_c, exists_eq_left', exists_eq', ↓e_tDIn, ↓e_iStr, ↓ex_v, cast1, cast2, flat_strs, inV_strs, cI_flat, cI_in, ex_isi, ha2, at_1]
              refine ⟨n1, numOf n1, rfl, int_of ok, by have := ok.2.1; omega, fun p np => ?_⟩
              obtain ⟨pt, e2, ok2⟩ := id tb.1
              have np0 : H p = none := by
                rw [← tb.2 p (fun e0 => by rw [e0, e2] at np; cases np)]
                exact np
              exact k _ p ((kT tb).new np) ⟨pt, by rw [upd_ne (ne_of_none e2 np)]; exact e2, ok2⟩ np0 upd_same
        · rw [if_neg c1]
          exact ⟨lw, bad (fun h => c1 (by have := h.1; omega)) H tab1⟩
      · have e : insOf [w1, n1] pl = none := if_neg (fun h => mI (mem_cIs.mpr (.inr h)))
        rw [e] at k
        simp_arith [cx_K, ↓e_tM1, ↓e_tM0, ex_s, ↓ex_s2, ↓ex_s1, ↓ex_l1, ↓ex_ss, ↓ex_c, ↓e_news, ↓e_tForL, ↓e_asL, ↓e_tLcL, ↓tRaiseF_, ↓e_rInT, allP_0, allP_c, put_0, put_c, look_0, look_c, exists_eq_left', exists_eq', ↓e_tDIn, ↓e_iStr, ↓ex_v, cast1, cast2, flat_strs, inV_strs, cI_flat, cI_in, ex_isi, mI]
        exact k H Keep.refl hT
    | w1 :: n1 :: m1 :: r, ha, hl, hm, k =>
      have e : insOf (w1 :: n1 :: m1 :: r) pl = none := rfl
      rw [e] at k
      simp_arith [cx_K, ↓e_tM1, ↓e_tM0, ex_s, ↓ex_s2, ↓ex_s1, ↓ex_l1, ↓ex_ss, ↓ex_c, ↓e_news, ↓e_tForL, ↓e_asL, ↓e_tLcL, ↓tRaiseF_, ↓e_rInT, allP_0, allP_c, put_0, put_c, look_0, look_c, exists_eq_left', exists_eq', ↓e_tDIn, ↓e_iStr, ↓ex_v, cast1, cast2, flat_strs, inV_strs, cI_flat, cI_in, ex_isi, ha, at_0, at_1]
      refine ⟨true, .inl ⟨_, SqL.of ha, rfl⟩, ?_⟩
      have n1 : ¬ (((r.map V.str).length + 1 + 1 + 1 : Nat) : Int) = 1 := by omega
      have n2 : ¬ (((r.map V.str).length + 1 + 1 + 1 : Nat) : Int) = 2 := by omega
      by_cases mI : w1 ∈ cIs
      · by_cases mP : w1 ∈ wPlain
        · simp_arith [cx_K, ↓e_tM1, ↓e_tM0, ex_s, ↓ex_s2, ↓ex_s1, ↓ex_l1, ↓ex_ss, ↓ex_c, ↓e_news, ↓e_tForL, ↓e_asL, ↓e_tLcL, ↓tRaiseF_, ↓e_rInT, allP_0, allP_c, put_0, put_c, look_0, look_c, exists_eq_left', exists_eq', ↓e_tDIn, ↓e_iStr, ↓ex_v, cast1, cast2, flat_strs, inV_strs, cI_flat, cI_in, ex_isi, mI, mP, n1]
          exact k H Keep.refl hT
        · simp_arith [cx_K, ↓e_tM1, ↓e_tM0, ex_s, ↓ex_s2, ↓ex_s1, ↓ex_l1, ↓ex_ss, ↓ex_c, ↓e_news, ↓e_tForL, ↓e_asL, ↓e_tLcL, ↓tRaiseF_, ↓e_rInT, allP_0, allP_c, put_0, put_c, look_0, look_c, exists_eq_left', exists_eq', ↓e_tDIn, ↓e_iStr, ↓ex_v, cast1, cast2, flat_strs, inV_strs, cI_flat, cI_in, ex_isi, mI, mP, n2]
          exact k H Keep.refl hT
      · simp_arith [cx_K, ↓e_tM1, ↓e_tM0, ex_s, ↓ex_s2, ↓ex_s1, ↓ex_l1, ↓ex_ss, ↓ex_c, ↓e_news, ↓e_tForL, ↓e_asL, ↓e_tLcL, ↓tRaiseF_, ↓e_rInT, allP_0, allP_c, put_0, put_c, look_0, look_c, exists_eq_left', exists_eq', ↓e_tDIn, ↓e_iStr, ↓ex_v, cast1, cast2, flat_strs, inV_strs, cI_flat, cI_in, ex_isi, mI]
        exact k H Keep.refl hT
end
end
section
open PySem L2 LamX

open TL
open Classical in
noncomputable def lineL (w : Str) (n : Nat) (nm : List Nat) : List Nat := if w ∈ wPlain then tl w else if w ∈ wJump ∧ n ∈ nm then tl w ++ (tl " p" ++ numL n) else tl w ++ (tl " " ++ numL n)
def nmK (nm : List Nat) : List (Key × V) := nm.map fun (k : Nat) => ((Sum.inl (k : Int) : Key), V.bl true)
def spLine : Sp := fun vs H Q E => ∃ (r nd : Addr) (w : Str) (n : Nat) (nm : List Nat), vs = [.ref r, .ref nd] ∧ H r = some (.tup [.str w, .int (n : Int)]) ∧ H nd = some (.dK (nmK nm)) ∧ w.length ≤ 20 ∧ n < 2 ^ 60 ∧ ∀ z : Str, tl z = lineL w n nm → Q (.str z) H
theorem valV_nm {n : Nat} : ∀ {nm : List Nat}, (valV (nmK nm) (.inl (n : Int))).isSome = decide (n ∈ nm)
  | [] => by simp [nmK, valV]
  | k :: r => by
    have ih := valV_nm (n := n) (nm := r)
    rw [show nmK (k :: r) = (.inl (k : Int), .bl true) :: nmK r from rfl, valV_c]
    by_cases h : n = k
    · simp [h]
    · have h2 : ¬ ((k : Int) = n) := by omega
      rw [if_neg (by simpa using h2), ih]
      simp [h]
section
variable {P : Program} {w : World} {K : PySem.W.Frag} {mg : Str → Option Value} {base : Heap}
abbrev s_line_of : Stmt := (top 20)
theorem sc_line_of : FnScope ["row", "named", "word", "number"] ["row", "named"] (defScope s_line_of) := ⟨rfl, rfl, rfl, by decide +kernel, rfl, by decide +kernel, by decide +kernel⟩
theorem ok_line_of {f : Addr} {fd : FuncData} (F : Fun K "line_of" "line_of" s_line_of f fd) (T : TK K mg) : FnOk P w K mg base CX0 1 f fd ["row", "named"] spLine := by
  refine F.ok sc_line_of (fun vs H Q E h => ?_) (fun cdv A outer s H vs Q E hr h => ?_)
  · obtain ⟨r, nd, w1, n, nm, rfl, _⟩ := h
    rfl
  · obtain ⟨r, nd, w1, n, nm, rfl, hr0, hn, hw, hb, k⟩ := h
    have hu := hu_of hr
    refine ⟨_, (pss_cons (ps_asg (pv 0) (pg_tupH (n := 2) rfl (pgs_cons (pg_name (i := 2) sc_line_of.nd rfl (Or.inl rfl)) (pgs_cons (pg_name (i := 3) sc_line_of.nd rfl (Or.inl rfl)) pgs_nil))))
        (pss_cons (ps_if (pt_cmpR (op_inC T.w_PLAIN) (pv 2) (pe_glob (v := .ref T.a_PLAIN) (by rfl) T.g_PLAIN rfl) (by rfl)) (pss_one (ps_ret (pv 2))) pss_nil)
        (pss_one (ps_ret (pe_ifExp (PW.pt (pw_and (pt_cmpR (op_inC T.w_JUMPS) (pv 2) (pe_glob (v := .ref T.a_JUMPS) (by rfl) T.g_JUMPS rfl) (by rfl)) (pw_and1 (pt_cmp (pc_din hu (pv 3) (pv 1)))))) (pe_joined (.cons (pe_fmt (pv 2)) (.cons pe_str (.cons (pe_fmt (pv 3)) .nil)))) (pe_joined (.cons (pe_fmt (pv 2)) (.cons pe_str (.cons (pe_fmt (pv 3)) .nil))))))))), ?_⟩
    have big : 4000 ≤ sizeLine := by decide
    have num : (Str.ofString (toString ((n : Nat) : Int))).length ≤ 19 := by
      rw [len_tl, tl_num]
      exact numL_len (by decide) (by omega)
    have lg : ((n : Int)).natAbs.log2 < 1920 := by
      rw [Int.natAbs_natCast]
      by_cases h0 : n = 0
      · rw [h0]; decide
      · have := (Nat.log2_lt h0).mpr (show n < 2 ^ 60 from hb)
        omega
    have e0 : Str.empty.length = 0 := rfl
    have l2 : (Str.ofString " p").length = 2 := by decide +kernel
    have l1 : (Str.ofString " ").length = 1 := by decide +kernel
    have fin : ∀ S : Str, S.length ≤ 2 → lineL w1 n nm = tl w1 ++ (tl S ++ numL n) → w1.length ≤ sizeLine ∧ (Str.empty ++ w1).length ≤ sizeLine ∧ (Str.empty ++ w1 ++ S).length ≤ sizeLine ∧ ((n : Int)).natAbs.log2 < 1920 ∧ (Str.empty ++ w1 ++ S ++ Str.ofString (toString ((n : Nat) : Int))).length ≤ sizeLine ∧ Q (.str (Str.empty ++ w1 ++ S ++ Str.ofString (toString ((n : Nat) : Int)))) H := fun S hS e => by
      simp only [strLen_append]
      refine ⟨by omega, by omega, by omega, lg, by omega, k _ ?_⟩
      rw [e, tl_append, tl_append, tl_append, tl_num]
      simp [Str.empty]
    simp_arith [cx_K, ↓e_tJs0, ↓e_tJs, ↓e_tFmt, ↓fmt_s, ↓fmt_i, ↓e_asS, ↓e_tM1, ↓e_tM0, ex_s, ↓ex_s2, ↓ex_s1, ↓ex_l1, ↓ex_ss, ↓ex_c, ↓e_news, ↓e_tForL, ↓e_asL, ↓e_tLcL, ↓tRaiseF_, ↓e_rInT, allP_0, allP_c, put_0, put_c, look_0, look_c, exists_eq_left', exists_eq', ↓e_tDIn, ↓e_iStr, ↓ex_v, cast1, cast2, flat_strs, inV_strs, cI_flat, cI_in, ex_isi, hr0]
    by_cases mP : w1 ∈ wPlain
    · rw [if_pos mP]
      exact k _ (if_pos mP).symm
    rw [if_neg mP]
    by_cases mJ : w1 ∈ wJump
    · rw [if_pos mJ]
      refine ⟨nd, _, rfl, DGet.k (k := .inl (n : Int)) hn, ?_⟩
      rw [valV_nm]
      by_cases hm : n ∈ nm
      · rw [if_pos (decide_eq_true hm)]
        refine fin _ (by omega) ?_
        unfold lineL
        rw [if_neg mP, if_pos ⟨mJ, hm⟩]
      · rw [if_neg (by simpa using hm)]
        refine fin _ (by omega) ?_
        unfold lineL
        rw [if_neg mP, if_neg (fun h => hm h.2)]
    · rw [if_neg mJ]
      refine fin _ (by omega) ?_
      unfold lineL
      rw [if_neg mP, if_neg (fun h => mJ h.1)]
end
end
section
open PySem L2 LamX PySem.Spec PyProof.Rows
section
variable {M : Model} {A : Around} {E : Value → Shared → Prop} {s : Shared} {env : Env}
/-- how a comprehension's block ends: its names are let go, then the value, or the exception, goes on -/
def blockEnd (M : Model) (A : Around) (E : Value → Shared → Prop) (use : Option (Value → Sem Unit)) (Q : Value → Shared → Prop) (acc : Value) (cenv : Env) (r : Result) (s' : Shared) : Prop :=
  match r with
  | .ok f => compPost M A E use Q acc cenv.locals (.ok f) s'
  | .error x => ∃ m, s'.heap.Ns cenv.locals m ∧ ∀ h', Heap.SameBut cenv.locals s'.heap h' → wpAny M A (PySem.passOn "comprehension.variables-let-go" x cenv : Sem Value) (fun _ _ => False) E { s' with heap := h' }
theorem comp_block {e : Expr} {scope : Scope} {pos : Pos} {newAcc first : Sem Value} {g : Comprehension} {gs : List Comprehension} {cl : List (Str × Addr)} {use : Option (Value → Sem Unit)} {Q : Value → Shared → Prop}
    (hcl : clausesOf e = g :: gs) (hs : ∀ x, foldedSetIterable g.iter env x = pure x) (hclos : closureFor scope env = pure cl) (hkind : scope.kind = .function) (hnames : ∀ x ∈ scope.names, x.2 = .local → scope.names.lookup x.1 = some .local)
    (h : wpAny M A first (fun x s₁ => wpAny M A (pyIter x) (fun it s₂ => wpAny M A newAcc (fun acc s₃ =>
      wpAny M A (newFunctionEnv scope env.globals cl [] env.qual none .none (some env)) (fun cenv s₄ =>
        codeAny M A (.compStart e 0 it acc { cenv with scope := relabel scope env }) (blockEnd M A E use Q acc { cenv with scope := relabel scope env }) s₄) E s₃) E s₂) E s₁) E s) :
    wpAny M A (comprehension e scope env pos newAcc false first use) Q E s := by
  unfold comprehension
  rw [hclos, hcl]
  refine wpAny_bind (wpAny_mono h (fun x s₁ h₁ => wpAny_bind (wpAny_standAt (wpAny_bind (wpAny_of_eq (hs x) (wpAny_bind (wpAny_holding (wpAny_mono h₁ (fun it s₂ h₂ =>
    wpAny_standIf (wpAny_bind (wpAny_mono h₂ (fun acc s₃ h₃ => wpAny_bind (wpAny_pure (wpAny_bind (wpAny_mono h₃ (fun cenv s₄ h₄ => ?_) fun _ _ z => z)))) fun _ _ z => z)))
      fun _ _ z => z))))))) fun _ _ z => z)
  dsimp only
  have hv : ∀ x ∈ (scope.names.filter fun x => (x.2 == .local || x.2 == .cell) && x.1 != (".0" : Str)).reverse, x.2 = .local →
      Env.kindOf { cenv with scope := relabel scope env } x.1 = some .local := fun x hx hl => lookup_relabel_local (hnames x (List.mem_filter.mp (List.mem_reverse.mp hx)).1 hl)
  have hv' : ∀ x ∈ (scope.names.filter fun x => (x.2 == .local || x.2 == .cell) && x.1 != (".0" : Str)).reverse.drop 1 ++ (scope.names.filter fun x => (x.2 == .local || x.2 == .cell) && x.1 != (".0" : Str)).reverse.take 1,
      x.2 = .local → Env.kindOf { cenv with scope := relabel scope env } x.1 = some .local := fun x hx hl => (List.mem_append.mp hx).elim (fun z => hv x (List.mem_of_mem_drop z) hl) fun z => hv x (List.mem_of_mem_take z) hl
  refine wpAny_holding (wpAny_bind (wpAny_attempt (wpAny_holding (wpAny_run (codeAny_mono h₄ fun r s' hr => ?_)))))
  cases r with
  | ok f =>
    cases use with
    | none =>
      obtain ⟨m, hn, hr⟩ := hr
      exact wpAny_bind (wpAny_holding (wpAny_comp_letGo (cenv := { cenv with scope := relabel scope env }) hkind _ s' m hv hn fun h' m' _ hs' => wpAny_pure (hr h' hs')))
    | some u =>
      refine wpAny_bind (wpAny_rule (wpAny_bind (wpAny_holding (wpAny_mono hr (fun _ s'' hr2 => ?_) fun _ _ z => z))))
      obtain ⟨m, hn, hr2⟩ := hr2
      exact wpAny_bind (wpAny_comp_letGo (cenv := { cenv with scope := relabel scope env }) hkind _ s'' m hv' hn fun h' m' _ hs' => wpAny_pure (hr2 h' hs'))
  | error x =>
    obtain ⟨m, hn, hr⟩ := hr
    exact wpAny_bind (wpAny_holding (wpAny_comp_letGo (cenv := { cenv with scope := relabel scope env }) hkind _ s' m hv hn fun h' m' _ hs' => wpAny_mono (hr h' hs') (fun _ _ f => f.elim) fun _ _ y => y))
end
theorem ff_but {h h' base base' : Heap} : ∀ {l : List Env}, h.FunFrames base l → (∀ L ∈ frs l, h'.get? L = h.get? L ∧ base'.get? L = none) → h'.FunFrames base' l
  | [], _, _ => trivial
  | env :: l, ⟨hk, ⟨L, o, hf, hb, ho, hd⟩, hr⟩, k => by
    have kL := k L (List.mem_filterMap.mpr ⟨env, List.mem_cons_self, hf⟩)
    exact ⟨hk, ⟨L, o, hf, kL.2, by rw [kL.1]; exact ho, hd⟩, ff_but hr fun b hb => by
      obtain ⟨e, he, q⟩ := List.mem_filterMap.mp hb
      exact k b (List.mem_filterMap.mpr ⟨e, List.mem_cons_of_mem _ he, q⟩)⟩
section
variable {X : Cx} {W : WX}
/-- what a call lets out leaves the block, and is then in the def's air -/
theorem esc {pins : List (Addr × Obj)} {σ : L2.St} {H : Hp} {s s' : Shared} {E : XK} {e acc : Value} {C : Addr} {cenv : Env} {use : Option (Value → Sem Unit)} {Q : Value → Shared → Prop} (tk : Takes X W) (hW : ∀ cls d σ H, E cls d H → W cls d σ H) (hst : X.stack = X.env :: X.outer) (hloc : X.env.frame = some X.env.locals) (ec : cenv.frame = X.env.frame) (el : cenv.locals = C)
    (I : Inv X pins σ H s) (fC : FpOk X pins H C) (nsC : ∃ m, s.heap.Ns C m) (hCf : C ∉ frs X.stack) (c : L2.CX X.prog X.w X.stack H s E e s') :
    notedBy (model X.prog X.w) X.A cenv (fun e s'' => blockEnd (model X.prog X.w) X.A X.xe use Q acc cenv (.error e) s'') e s' := by
  obtain ⟨a, B, H', cls, d, rfl, fl, hok, ub, na, os, ag, hE⟩ := c
  obtain ⟨hC0, hCL, _, hC1, hC2, hC3⟩ := fC
  obtain ⟨mC, oC, es, ep, hoC, hdat, kC, rC⟩ := nsC
  have hfrm : X.A.frames = some (X.env :: X.outer) := by rw [I.ok.frames, hst]
  have eN : ∀ x, noteFrame x cenv = noteFrame x X.env := fun x => by simp only [noteFrame, PySem.frameOf, ec]
  unfold notedBy
  rw [eN]
  rw [hst] at fl
  refine HandSPX.looks_onZ Zc.steady hfrm hloc fl fun h1 hh up1 => ?_
  have hCB : B.get? C = some oC := ub.keep C oC hoC hC0 hCf
  have hCh : h1.get? C = some oC := hh.1 C oC hCB
  obtain ⟨oe, vs, T, oT, ts, he, hz, hd, h1v, hnT, hTe, hT, hdT, h3⟩ := hh.2.2.2
  have aC : a ≠ C := fun z => by
    rw [z, hCh] at he
    cases he
    rw [hdat] at hd
    cases hd
  have TC : T ≠ C := fun z => by
    rw [z, hCh] at hT
    cases hT
    rw [hdat] at hdT
    cases hdT
  refine ⟨mC, by rw [el]; exact ⟨oC, es, ep, hCh, hdat, kC, rC⟩, fun h' sb => ?_⟩
  rw [el] at sb
  have bo : ∀ b o, (PySem.W.hideAll B [C]).get? b = some o → B.get? b = some o ∧ b ≠ C := fun b o q => ⟨PySem.W.of_hideAll _ q, fun z => by
    rw [z, PySem.W.hideAll_none _ (List.mem_singleton.mpr rfl)] at q
    cases q⟩
  have bn : ∀ b, B.get? b = none → (PySem.W.hideAll B [C]).get? b = none := fun b q => by
    cases z : (PySem.W.hideAll B [C]).get? b with
    | none => rfl
    | some o => rw [(bo b o z).1] at q; cases q
  have st' : (PySem.W.hideAll B [C]).StaysIn h' := fun b o q => by
    obtain ⟨q1, q2⟩ := bo b o q
    rw [sb.2 b q2]
    exact hh.1 b o q1
  have tr : HandSPX.TracedZ h' (PySem.W.hideAll B [C]) a (Zc cls d) (rawInt X.env.locals) := ⟨oe, vs, T, oT, ts, by rw [sb.2 a aC]; exact he, hz, hd, h1v, bn T hnT, hTe, by rw [sb.2 T TC]; exact hT, hdT, h3⟩
  have ffl : ∀ L ∈ frs (X.env :: X.outer), L ≠ C := fun L hL z => hCf (by rw [hst, ← z]; exact hL)
  have ff0 : ∀ {l : List Env}, h1.FunFrames B l → ∀ L ∈ frs l, B.get? L = none := fun {l} hf L hL => by
    obtain ⟨env, he2, hq⟩ := List.mem_filterMap.mp hL
    clear hL
    induction l with
    | nil => cases he2
    | cons e0 l ih =>
      obtain ⟨_, ⟨L0, o0, q1, q2, _, _⟩, hr⟩ := hf
      rcases List.mem_cons.mp he2 with z | z
      · rw [z, q1] at hq
        cases hq
        exact q2
      · exact ih hr z
  have ff : h'.FunFrames (PySem.W.hideAll B [C]) (X.env :: X.outer) := ff_but hh.2.2.1 fun L hL => ⟨sb.2 L (ffl L hL), bn L (ff0 hh.2.2.1 L hL)⟩
  unfold PySem.passOn
  refine wpAny_bind (wpAny_field (by show h'.get? a = some oe; rw [sb.2 a aC]; exact he) hd h1v ?_)
  rw [if_neg (show ¬ ((Value.ref T == Value.none) = true) from by simp)]
  refine wpAny_bind (HandSPX.setFlight_anyZ (l := X.env :: X.outer) st' ff tr (fun h2 k1 k2 k3 k4 => wpAny_throw ?_))
  rw [ec, hloc] at k3
  obtain ⟨G, g1, g2⟩ := restrict h2 fun b => ((PySem.W.hideAll B [C]).get? b).isSome || decide (b ∈ frs X.stack)
  have gB : ∀ b o, (PySem.W.hideAll B [C]).get? b = some o → G.get? b = some o := fun b o q => by
    rw [g1 b (by simp [q])]
    exact k1 b o q
  have gF : ∀ b, b ∈ frs X.stack → G.get? b = h2.get? b := fun b hb => g1 b (by simp [hb])
  have og : ∀ b o, G.get? b = some o → h2.get? b = some o ∧ (((PySem.W.hideAll B [C]).get? b).isSome = true ∨ b ∈ frs X.stack) := fun b o q => by
    cases z : (((PySem.W.hideAll B [C]).get? b).isSome || decide (b ∈ frs X.stack)) with
    | false => rw [g2 b z] at q; cases q
    | true =>
      rw [g1 b z] at q
      exact ⟨q, by simpa [Bool.or_eq_true] using z⟩
  have slots : ∀ b o, s.heap.get? b = some o → b ∈ frs X.stack → ∃ sl, G.get? b = some { o with slots := sl } := fun b o q hb => by
    obtain ⟨_, o', e', hnf⟩ := I.stack.mem hb
    rw [q] at e'
    cases e'
    obtain ⟨sl, q1⟩ := ub.slot b o q hb
    obtain ⟨sl2, q2⟩ := up1 b _ q1 hnf
    have q3 : h'.get? b = some { o with slots := sl2 } := by rw [sb.2 b (ffl b (by rw [← hst]; exact hb))]; exact q2
    obtain ⟨sl3, q4⟩ := k4 b _ q3 hnf
    exact ⟨sl3, by rw [gF b hb]; exact q4⟩
  have hokC : HOk X.prog X.w H' (PySem.W.hideAll B [C]) := fun b u q => by
    have hC' : H' C = none := ub.free C oC hoC hC0
    refine (hok b u q).stay (fun c v hc r => PySem.W.hideAll_get _ r (fun hm => ?_)) (fun _ r => r) fun _ _ r => r
    rw [List.mem_singleton.mp hm] at hc
    rcases hc with z | z
    · rw [← z, hC'] at q
      cases q
    · rw [hC'] at z
      cases z
  refine tk _ _ ⟨a, PySem.W.hideAll B [C], { s with heap := G, gens := s'.gens, drawn := s'.drawn, toks := s'.toks }, pins, σ, H', cls, d, rfl, ?_, fun b o q hb => ?_, Heap.UpToSlots.of_keeps fun b o q => (og b o q).1, .inr (.inr ⟨k1, bn a fl.2.1, by rw [hst]; exact k2, k3⟩), na, os, ag, hW _ _ _ _ hE⟩
  · refine I.call (ch := [C]) ⟨fun b o q n hb hc => gB b o (PySem.W.hideAll_get _ (ub.keep b o q n hb) hc), fun b o q n hb _ => slots b o q hb, fun b o q n _ => ub.free b o q n, fun b o q hc => ?_, ub.tups, ub.frzs, ub.tbls⟩ (hokC.kept gB) ag (fun b hb => by
      rw [List.mem_singleton.mp hb]
      exact ⟨hC1, hCL, hC2, hC3⟩)
    by_cases hb : b ∈ frs X.stack
    · obtain ⟨sl, z⟩ := slots b o q hb
      exact ⟨_, z⟩
    · obtain ⟨o', z⟩ := ub.there b o q hb
      exact ⟨o', gB b o' (PySem.W.hideAll_get _ z hc)⟩
  · obtain ⟨q1, h0⟩ := og b o q
    rcases h0 with h0 | h0
    · obtain ⟨o', z⟩ := Option.isSome_iff_exists.mp h0
      have w2 := k1 b o' z
      rw [q1] at w2
      cases w2
      exact z
    · exact absurd h0 hb
/-- the block's context, with a wish of its own about exceptions -/
abbrev blkX (X : Cx) (s : Shared) (H : Hp) (scope : Scope) (cenv : Env) (fp : List Addr) (xe : Value → Shared → Prop) : Cx := (X.blk s H scope cenv fp).wish xe
/-- what is let out in a block is taken by the def around it -/
def Lets (X : Cx) (W : WX) (B : Cx) : Prop := ∀ E : XK, (∀ cls d σ H, E cls d H → W cls d σ H) → Passes (L2.CX X.prog X.w) B E
theorem lc_coreX {elt tg iter : Expr} {ifs : List Expr} {scope : Scope} {own : List (Str × Nat)} {pos pos' : Pos} {wi : TI} {g : TG} {tt : TT} {te : TE} {pins : List (Addr × Obj)} {σ : L2.St} {H : Hp} {s : Shared} {Q : VK} {use : Option (Value → Sem Unit)} {Qf : Value → Shared → Prop}
    {Wx : WX} (tk : Takes X Wx) (hst : X.stack = X.env :: X.outer) (hloc : X.env.frame = some X.env.locals) (calm : X.calm = true) (hN : X.N.Nodup) (I : Inv X pins σ H s) (hi : PI X tg iter wi) (ok : BlkOk X.N X.env.scope scope own)
    (hg : ∀ s H C cl fp xe, PG (blkX X s H scope (compEnvC scope cl C X.env) fp xe) tg g)
    (ht : ∀ s H C cl fp xe, PTs (blkX X s H scope (compEnvC scope cl C X.env) fp xe) ifs tt)
    (he : ∀ s H C cl fp xe, Lets X Wx (blkX X s H scope (compEnvC scope cl C X.env) fp xe) → PE (blkX X s H scope (compEnvC scope cl C X.env) fp xe) elt te) (hs : ∀ x, foldedSetIterable iter X.env x = pure x)
    (h : tLc wi g tt te (own.map (·.2)) σ H Q)
    (hRR : ∀ D C s' m H', Inv X pins σ H' s' → Q (.ref D) H' → s'.heap.Ns C m → FpOk X pins H' C → compPost (model X.prog X.w) X.A X.xe use Qf (.ref D) C (.ok .next) s') :
    wpAny (model X.prog X.w) X.A (comprehension (.ListComp elt [⟨tg, iter, ifs, 0⟩] scope pos) scope X.env pos' (newList []) false (eval iter X.env) use) Qf X.xe s := by
  have free : ∀ y ∈ scope.names, y.2 = .free → ∃ c, X.env.cells.lookup y.1 = some c := fun y hy e => I.ok.has _ (ok.free y hy e)
  refine comp_block rfl hs (closure_ok free) ok.kind (fun y hy e => e ▸ ok.uniq y hy) (thn (hi.run pins s σ H _ I h) fun xv s1 hx => thn hx ?_)
  rintro itv s2 ⟨it, fp, tn, J, H2, rfl, I2, T, here, apart, next⟩
  refine wpAny_newObj_type (newEnv_comp ?_) (Nat.zero_le _)
  -- the list that grows
  let D := s2.heap.objs.size
  let s3 : Shared := { s2 with heap := s2.heap.push { cls := .type "list", data := .seq ([] : List Value).toArray } }
  have kept3 : ∀ b o, s2.heap.get? b = some o → s3.heap.get? b = some o := fun b o e => Heap.get?_push_of_some _ e
  have I3 : Inv X pins σ (upd H2 D (.lst [])) s3 := I2.laid (t' := s2.toks) kept3 (Nat.le_refl _) ⟨Nat.zero_le _, [], 0, .nil, Heap.get?_push_size _ rfl⟩
  obtain ⟨W, ⟨m0, start⟩, turn⟩ := next D (I2.hok.fresh (Nat.le_refl _))
  have below : ∀ b ∈ fp, b < D := fun b hb => let ⟨_, e, _⟩ := T.obj _ _ here b hb; Heap.lt_size e
  have apart3 : ∀ b ∈ fp, FpOk X pins (upd H2 D (.lst [])) b ∧ b < s3.heap.objs.size := fun b hb => by
    have lt := below b hb
    have more : s3.heap.objs.size = D + 1 := Heap.size_push _ _
    exact ⟨⟨(upd_ne (Nat.ne_of_lt lt)).trans (apart b hb).1, (apart b hb).2⟩, more ▸ Nat.lt_succ_of_lt lt⟩
  have here3 : tn 0 s3.heap := T.keep _ _ _ here fun b _ o e => kept3 b o e
  have I4' := block_start I3 ok hN apart3
  let cl := cellsFrom (s3.heap.objs.size + 1) scope.names (cloFrom X.env.cells scope.names [])
  let cenv := compEnvC scope cl s3.heap.objs.size X.env
  let H3 := upd H2 D (.lst [])
  let xe : Value → Shared → Prop := notedBy (model X.prog X.w) X.A cenv (fun e s'' => blockEnd (model X.prog X.w) X.A X.xe use Qf (.ref D) cenv (.error e) s'')
  let B := blkX X s3 H3 scope cenv fp xe
  have back : Back X B σ := fun pins' σ' H' s' J' => ⟨pins, I3.call' (ch := fp) J'.os J'.base J'.hok J'.bare fun b hb => ⟨(apart3 b hb).1.2.2.2.1, (apart3 b hb).1.2.1, (apart3 b hb).1.2.2.2.2.1, (apart3 b hb).1.2.2.2.2.2⟩⟩
  have nofr : s3.heap.objs.size ∉ frs X.stack := fun hm => by
    rcases List.mem_cons.mp (I3.stkSub _ hm) with e | e
    · have h1 := I3.lt
      rw [← e] at h1
      exact Nat.lt_irrefl _ h1
    · exact I3.nofs (Nat.le_refl _) e
  have lets : Lets X Wx B := fun E hW pins' σ' H' s' e s'' J c => by
    have J2 : Inv X pins σ H' s' := I3.call' (ch := fp) J.os J.base J.hok J.bare fun b hb => ⟨(apart3 b hb).1.2.2.2.1, (apart3 b hb).1.2.1, (apart3 b hb).1.2.2.2.2.1, (apart3 b hb).1.2.2.2.2.2⟩
    obtain ⟨mN, names, _⟩ := J.loc
    exact esc tk hW hst hloc rfl rfl J2 (I3.fpOk (Nat.le_refl _) J.free) ⟨_, names⟩ nofr c
  have pg : PG B tg g := hg s3 H3 s3.heap.objs.size cl fp xe
  have pt : PTs B ifs tt := ht s3 H3 s3.heap.objs.size cl fp xe
  have pe : PE B elt te := he s3 H3 s3.heap.objs.size cl fp xe lets
  let s4 : Shared := { s3 with heap := pushCells (s3.heap.push { cls := .type "dict", data := .dict #[] }) scope.names }
  have here4 : tn 0 s4.heap := T.keep _ _ _ here3 fun b _ o e => pushCells_keeps _ _ _ _ (Heap.get?_push_of_some _ e)
  have away : ∀ {σ' : L2.St} {H' : Hp} {s' : Shared}, Inv B [] σ' H' s' → (∀ b ∈ fp, H' b = none) → ∀ b ∈ fp, FpOk B [] H' b := fun J' none b hb =>
    ⟨none b hb, (J'.ok.exf b hb).1, J'.ok.exfs b hb, .inl hb, (J'.ok.exf b hb).2, fun p hp => nomatch (show p ∈ ([] : List (Addr × Obj)) ++ [] from hp)⟩
  let V := own.map (·.2)
  have I4 : Inv B [] (wipe σ (own.map (·.2))) H3 _ := (I4').wish xe
  let At : Nat → Shared → Prop := fun n s' => ∃ i H', Inv B [] (wipe σ V) H' s' ∧ tn i s'.heap ∧ (∀ b ∈ fp, H' b = none) ∧ W i n H'
  have goes : codeAny (model X.prog X.w) X.A (.compLoop (.ListComp elt [⟨tg, iter, ifs, 0⟩] scope pos) 0 (.ref it) (.ref D) cenv) (blockEnd (model X.prog X.w) X.A X.xe use Qf (.ref D) cenv) s4 := by
    refine compLoop_any At ?_ m0 ⟨0, H3, I4, here4, fun b hb => (apart3 b hb).1.1, start⟩
    rintro n s5 ⟨i, H5, I5, here5, none5, w5⟩
    cases turn i n H5 w5 with
    | inl fin =>
      refine thnF (T.done B rfl rfl rfl calm i [] s5 _ H5 (fun _ _ => False) I5 (away I5 none5) here5 fin.1) ?_
      rintro r s6 ⟨rfl, I6⟩
      obtain ⟨_, names, _⟩ := I6.loc
      have freeC : H5 s3.heap.objs.size = none := I6.free
      obtain ⟨_, f1, f2, f3, f4, f5⟩ := I3.fpOk (Nat.le_refl _) freeC
      have I7 : Inv X pins σ H5 s6 := I3.call' (ch := fp) I6.os I6.base I6.hok I6.bare fun b hb => ⟨(apart3 b hb).1.2.2.2.1, (apart3 b hb).1.2.1, (apart3 b hb).1.2.2.2.2.1, (apart3 b hb).1.2.2.2.2.2⟩
      exact hRR D _ _ _ H5 I7 fin.2 names (I3.fpOk (Nat.le_refl _) freeC)
    | inr more =>
      obtain ⟨go, Nx, again, body⟩ := more
      refine thnF (T.item B rfl rfl rfl calm i [] s5 _ H5 (fun _ _ => False) I5 (away I5 none5) here5 go) ?_
      rintro r s6 ⟨u, rfl, got⟩
      refine thnF got ?_
      rintro _ s7 ⟨x, H7, I7, rx, y7, here7, none7⟩
      refine thn (pg.run _ s7 _ H7 x u _ (I7.pinned (away I7 none7) (T.obj _ _ here7)) rx (body x H7 y7)) ?_
      rintro _ s8 ⟨σ8, H8, I8, same, q8⟩
      -- the end of a turn
      have ends : ∀ {s' : Shared} {H' : Hp}, Inv B ([] ++ pinsAt fp s7.heap) σ8 H' s' → Nx H' → ∃ m, m < n ∧ At m s' := by
        intro s' H' J' nx
        obtain ⟨m', less, w'⟩ := again H' nx
        have stays : ∀ b ∈ fp, ∀ o, s7.heap.get? b = some o → s'.heap.get? b = some o ∧ H' b = none := fun b hb o e => by
          have z := J'.pin (b, o) (List.mem_append_right _ (List.mem_append_right _ (mem_pinsAt hb e)))
          exact ⟨z.1, z.2.1⟩
        refine ⟨m', less, i + 1, H', (J'.unpinned (pins := [])).weak ?_ fun j v e => (wipe_some (same ▸ e : (wipe σ8 V)[j]? = some (some v))).1, T.keep _ _ _ here7 fun b hb o e => (stays b hb o e).1, fun b hb => ?_, w'⟩
        · rw [← same]
          exact wipe_length ..
        · obtain ⟨o, e, _⟩ := T.obj _ _ here7 b hb
          exact (stays b hb o e).2
      refine thn (pt.run _ s8 σ8 H8 _ I8 q8) ?_
      rintro yes s9 ⟨H9, I9, q9⟩
      cases yes with
      | false => exact ends I9 q9
      | true =>
        refine thn (pe.run _ s9 σ8 H9 _ I9 q9) ?_
        rintro z s10 ⟨yv, H10, I10, r10, acc, hD, room, nx⟩
        exact app_ok (X := B) I10 hD room r10 fun s11 I11 => ends I11 nx
  exact codeAny_compStart_list goes (T.self X.A 0 _ _ _ here4 goes)
theorem pe_lcX {elt tg iter : Expr} {ifs : List Expr} {scope : Scope} {own : List (Str × Nat)} {pos : Pos} {wi : TI} {g : TG} {tt : TT} {te : TE}
    {Wx : WX} (tk : Takes X Wx) (hst : X.stack = X.env :: X.outer) (hloc : X.env.frame = some X.env.locals) (calm : X.calm = true) (hN : X.N.Nodup) (hi : PI X tg iter wi) (ok : BlkOk X.N X.env.scope scope own)
    (hg : ∀ s H C cl fp xe, PG (blkX X s H scope (compEnvC scope cl C X.env) fp xe) tg g)
    (ht : ∀ s H C cl fp xe, PTs (blkX X s H scope (compEnvC scope cl C X.env) fp xe) ifs tt)
    (he : ∀ s H C cl fp xe, Lets X Wx (blkX X s H scope (compEnvC scope cl C X.env) fp xe) → PE (blkX X s H scope (compEnvC scope cl C X.env) fp xe) elt te) (hs : ∀ x, foldedSetIterable iter X.env x = pure x := by intro _; rfl) :
    PE X (.ListComp elt [⟨tg, iter, ifs, 0⟩] scope pos) (tLc wi g tt te (own.map (·.2))) := by
  refine ⟨fun pins s σ H Q I h => ?_⟩
  rw [eval_ListComp]
  refine lc_coreX tk hst hloc calm hN I hi ok hg ht he hs h fun D C s' m H' I' q hn f => ⟨m, hn, fun h'' sb => ?_⟩
  obtain ⟨f0, f1, f2, f3, f4, f5⟩ := f
  exact ⟨.ref D, H', I'.turned (t' := s'.toks) (fun b o hb e => (sb.2 b hb).trans e) f0 f1 f3 f4 f5, rfl, q⟩
/-- y = [.. for ..], where the block's names are the def's too -/
theorem ps_setLcX {i : Nat} {y : Str} {py : Pos} {elt tg iter : Expr} {ifs : List Expr} {scope : Scope} {own : List (Str × Nat)} {pos spos : Pos} {wi : TI} {g : TG} {tt : TT} {te : TE}
    {Wx : WX} (tk : Takes X Wx) (hst : X.stack = X.env :: X.outer) (hloc : X.env.frame = some X.env.locals) (hc : X.calm = true) (hN : X.N.Nodup) (hy : X.N[i]? = some y) (hyl : X.env.scope.names.lookup y = some .local)
    (hsw : swapsWith (.ListComp elt [⟨tg, iter, ifs, 0⟩] scope pos) (some (.Name y py)) spos.line X.env = pure true) (hi : PI X tg iter wi) (ok : BlkOk X.N X.env.scope scope own)
    (hg : ∀ s H C cl fp xe, PG (blkX X s H scope (compEnvC scope cl C X.env) fp xe) tg g)
    (ht : ∀ s H C cl fp xe, PTs (blkX X s H scope (compEnvC scope cl C X.env) fp xe) ifs tt)
    (he : ∀ s H C cl fp xe, Lets X Wx (blkX X s H scope (compEnvC scope cl C X.env) fp xe) → PE (blkX X s H scope (compEnvC scope cl C X.env) fp xe) elt te) (hs : ∀ x, foldedSetIterable iter X.env x = pure x := by intro _; rfl) :
    PS X (.Assign [.Name y py] (.ListComp elt [⟨tg, iter, ifs, 0⟩] scope pos) spos) (tAsg (tLc wi g tt te (own.map (·.2))) (gName i)) := by
  refine ⟨fun pins s σ H D I h => ?_⟩
  rw [exec_Assign_Name_used _ _ _ _ hsw]
  refine wpAny_bind (wpAny_standAt (wpAny_bind ?_))
  show wpAny _ X.A (do let _ ← comprehension (.ListComp elt [⟨tg, iter, ifs, 0⟩] scope pos) scope X.env (firstIterPos [⟨tg, iter, ifs, 0⟩] pos) (newList []) false (eval iter X.env) (some (assign (.Name y py) X.env))) _ _ s
  have h : tLc wi g tt te (own.map (·.2)) σ H (fun x H1 => gName i x σ H1 D.nx) := h
  refine wpAny_bind (thn (lc_coreX (Qf := fun _ s' => SP X pins D .next s') tk hst hloc hc hN I hi ok hg ht he hs h fun L C s' m H' I' q hn f => ?_) fun _ s' hq => wpAny_pure (wpAny_pure hq))
  show wpAny _ _ (assign (.Name y py) X.env (.ref L)) _ _ _
  refine wpAny_assign_Name (store_ok2 (v := V.ref L) I' hN hy (.inl hyl) rfl (fun s2 I2 ⟨a, sb, ha⟩ => ?_) (.inr hyl))
  obtain ⟨f0, f1, f2, f3, f4, f5⟩ := f
  have haC : C ≠ a := by
    rcases ha with z | z
    · rw [z]; exact f1
    · exact fun e => f4 y a z e.symm
  refine ⟨m, hn.sameBut sb haC, fun h3 sb3 => ?_⟩
  exact ⟨_, H', I2.turned (t' := s2.toks) (fun b o hb e => (sb3.2 b hb).trans e) f0 f1 f3 f4 f5, q⟩
end
end
section
open PySem L2 LamX

open TL
def addNames (k : Nat) : List (Str × Int) → List Str → Option (List (Str × Int))
  | pl, [] => some pl
  | pl, n :: r => if (pl.lookup n).isNone = true then addNames k (pl ++ [(n, (k : Int))]) r else none
open Classical in
noncomputable def asmGo : List (Str × Int) → List (List Str) → List Str → Option (List (Str × Int) × List (List Str))
  | pl, fd, [] => some (pl, fd)
  | pl, fd, x :: r => if ∀ y ∈ namesOf x, labelOk y then (match addNames fd.length pl (namesOf x) with
    | none => none
    | some pl' => asmGo pl' (if wordsOf x = [] then fd else fd ++ [wordsOf x]) r) else none
noncomputable def insAll (pl : List (Str × Int)) : List (List Str) → Option (List (Str × Int))
  | [] => some []
  | w :: r => match insOf w pl with
    | none => none
    | some q => (insAll pl r).map (q :: ·)
open Classical in
noncomputable def asm (x : Str) (d c : Nat) : Option (List (Str × Int)) := match asmGo [] [] (Txt.split x "\n") with
  | none => none
  | some (pl, fd) => if fd.length ≤ 2 ^ c then (match insAll pl fd with
    | none => none
    | some code => if ∀ q ∈ code, OkRow d c q.1 q.2 then some code else none) else none

def RowsAt (H : Hp) (rs : List Addr) (ws : List (Str × Int)) : Prop := PySem.Paired (fun r w => H r = some (.tup [.str w.1, .int w.2])) rs ws
def noTup (H : Hp) (b : Addr) : Prop := ∀ xs, H b ≠ some (.tup xs)
theorem RowsAt.keep {S : List Addr} {H G : Hp} {rs : List Addr} {ws : List (Str × Int)} (h : RowsAt H rs ws) (k : Keep S H G) (n : ∀ b ∈ S, noTup H b) : RowsAt G rs ws := by
  unfold RowsAt at h ⊢
  induction h with
  | nil => exact .nil
  | cons a _ ih => exact .cons (k _ _ a fun m => n _ m _ a) ih
theorem paired_len {α β : Type} {R : α → β → Prop} {xs : List α} {ys : List β} (h : PySem.Paired R xs ys) : xs.length = ys.length := by
  induction h with
  | nil => rfl
  | cons _ _ ih => simp [ih]
theorem paired_get {α β : Type} {R : α → β → Prop} {xs : List α} {ys : List β} (h : PySem.Paired R xs ys) : ∀ {i : Nat} {x : α}, xs[i]? = some x → ∃ y, ys[i]? = some y ∧ R x y := by
  induction h with
  | nil => intro i x e; simp at e
  | cons a _ ih =>
    intro i x e
    cases i with
    | zero => simp at e; exact ⟨_, rfl, e ▸ a⟩
    | succ i => exact ih (by simpa using e)
theorem e_tBM {K : PySem.W.Frag} {T : String} {r : V → List V → Hp → VK → Prop} {to : TE} {t : TA} {σ : L2.St} {H : Hp} {Q : VK} : tBM K T r to t σ H Q = to σ H fun x H1 => tyV K T x H1 ∧ t σ H1 fun xs H2 => r x xs H2 Q := rfl
theorem e_tDNewK {σ : L2.St} {H : Hp} {Q : VK} : tDNewK σ H Q = ∀ p, H p = none → Q (.ref p) (upd H p (.dK [])) := rfl
theorem upd_self {H : Hp} {a : Addr} {u : HO} (e : H a = some u) : upd H a u = H := by
  funext b
  rw [upd_if]
  by_cases h : b = a
  · rw [if_pos h, h, e]
  · rw [if_neg h]
theorem putK_new {pl : List (Str × Int)} {n : Str} {v : Int} (h : pl.lookup n = none) : putK (plK pl) (.inr n) (.int v) = plK (pl ++ [(n, v)]) := by
  have e : valV (plK pl) (.inr n) = none := by rw [valV_pl, h]; rfl
  have a : (plK pl).any (fun kv => decide (kv.1 = Sum.inr n)) = false := by
    unfold valV at e
    rw [Option.map_eq_none_iff, List.find?_eq_none] at e
    rw [List.any_eq_false]
    exact e
  unfold putK
  rw [if_neg (by rw [a]; decide)]
  simp [plK]
/-- the words of the lines so far, where they stand -/
def FdAt (G : Hp) (fas : List Addr) (fd : List (List Str)) : Prop := PySem.Paired (fun a ws => G a = some (.lst (ws.map V.str))) fas fd
theorem FdAt.keep {S : List Addr} {G G2 : Hp} {fas : List Addr} {fd : List (List Str)} (h : FdAt G fas fd) (k : Keep S G G2) (n : ∀ a ∈ fas, a ∉ S) : FdAt G2 fas fd := by
  unfold FdAt at h ⊢
  induction h with
  | nil => exact .nil
  | cons a _ ih => exact .cons (k _ _ a (n _ List.mem_cons_self)) (ih fun b hb => n b (List.mem_cons_of_mem _ hb))
theorem FdAt.at_ {G : Hp} {fas : List Addr} {fd : List (List Str)} (h : FdAt G fas fd) : ∀ a ∈ fas, ∃ ws : List Str, G a = some (.lst (ws.map V.str)) := by
  unfold FdAt at h
  induction h with
  | nil => exact nofun
  | cons a _ ih =>
    intro b hb
    rcases List.mem_cons.mp hb with rfl | hb
    · exact ⟨_, a⟩
    · exact ih b hb
theorem words_len (y : Str) (h : y.length ≤ 4000) : (wordsOf y).length ≤ 40000 ∧ ∀ w ∈ wordsOf y, w.length ≤ 40000 := by
  have h1 : ((rowsOf y).getLast?.getD "").length ≤ 4000 := by
    cases e : (rowsOf y).getLast? with
    | none => exact Nat.zero_le _
    | some l =>
      have m := List.mem_of_getLast? e
      have h2 : tl l ∈ spl (tl (Str.ofString ":")) 0 [] (tl (Txt.partition y (Str.ofString "//")).1) := by
        rw [← split_spl _ _ (by decide +kernel) (kind_ok (by decide +kernel))]
        exact List.mem_map.mpr ⟨l, m, rfl⟩
      have h3 := spl_len _ _ _ _ h2
      have h4 := part_len y (y := Str.ofString "//") (by decide)
      rw [← len_tl, ← len_tl] at h3
      simp at h3
      show l.length ≤ _
      omega
  unfold wordsOf
  generalize (rowsOf y).getLast?.getD "" = u at h1
  have hf : ∀ (l : List Nat) (ws : List (List Nat)) (v : List Nat) (N : Nat), ws.length + l.length + (if v = [] then 0 else 1) ≤ N → v.length + l.length ≤ N → (∀ p ∈ ws, p.length ≤ N) → (wfin (l.foldl wstep (ws, v))).length ≤ N ∧ ∀ p ∈ wfin (l.foldl wstep (ws, v)), p.length ≤ N := by
    intro l
    induction l with
    | nil =>
      intro ws v N h1 h2 h3
      show (if v = [] then ws else ws ++ [v]).length ≤ N ∧ ∀ p ∈ (if v = [] then ws else ws ++ [v]), p.length ≤ N
      by_cases hv : v = []
      · rw [if_pos hv]
        exact ⟨by simp at h1; omega, h3⟩
      · rw [if_neg hv] at h1 ⊢
        refine ⟨by simp at h1 ⊢; omega, fun p hp => ?_⟩
        rcases List.mem_append.mp hp with hp | hp
        · exact h3 p hp
        · rw [List.mem_singleton.mp hp]
          simpa using h2
    | cons c l ih =>
      intro ws v N h1 h2 h3
      rw [List.foldl_cons]
      by_cases hc : Unicode.isSpace c = true
      · by_cases hv : v = []
        · have e : wstep (ws, v) c = (ws, v) := (if_pos hc).trans (if_pos hv)
          rw [e]
          refine ih ws v N ?_ ?_ h3
          · rw [if_pos hv] at h1 ⊢
            simp at h1
            omega
          · simp at h2
            omega
        · have e : wstep (ws, v) c = (ws ++ [v], []) := (if_pos hc).trans (if_neg hv)
          rw [e]
          rw [if_neg hv] at h1
          refine ih _ _ N ?_ ?_ (fun p hp => ?_)
          · rw [if_pos rfl]
            simp at h1 ⊢
            omega
          · simp at h2 ⊢
            omega
          · rcases List.mem_append.mp hp with hp | hp
            · exact h3 p hp
            · rw [List.mem_singleton.mp hp]
              simp at h2
              omega
      · have e : wstep (ws, v) c = (ws, v ++ [c]) := if_neg hc
        rw [e]
        refine ih _ _ N ?_ ?_ h3
        · rw [if_neg (by simp)]
          simp at h1
          split at h1 <;> omega
        · simp at h2 ⊢
          omega
  have z := hf (tl u) [] [] 40000 (by rw [← len_tl]; simp; omega) (by rw [← len_tl]; simp; omega) nofun
  rw [← words_tl] at z
  refine ⟨by simpa using z.1, fun w hw => ?_⟩
  rw [len_tl]
  exact z.2 _ (List.mem_map.mpr ⟨w, hw, rfl⟩)
theorem addNames_bound {m : Nat} : ∀ {ns : List Str} {pl pl2 : List (Str × Int)}, addNames m pl ns = some pl2 → (∀ q ∈ pl, 0 ≤ q.2 ∧ q.2 ≤ m) → ∀ q ∈ pl2, 0 ≤ q.2 ∧ q.2 ≤ m
  | [], pl, pl2, e, h => by
    cases e
    exact h
  | n :: r, pl, pl2, e, h => by
    unfold addNames at e
    split at e
    · refine addNames_bound e (fun q hq => ?_)
      rcases List.mem_append.mp hq with hq | hq
      · exact h q hq
      · rw [List.mem_singleton.mp hq]
        show (0:Int) ≤ m ∧ (m:Int) ≤ m
        omega
    · cases e
theorem asmGo_bound : ∀ {L : List Str} {pl pl2 : List (Str × Int)} {fd fd2 : List (List Str)}, asmGo pl fd L = some (pl2, fd2) → (∀ q ∈ pl, 0 ≤ q.2 ∧ q.2 ≤ fd.length) → ∀ q ∈ pl2, 0 ≤ q.2 ∧ q.2 ≤ fd2.length
  | [], pl, pl2, fd, fd2, e, h => by
    cases e
    exact h
  | x :: r, pl, pl2, fd, fd2, e, h => by
    unfold asmGo at e
    split at e
    · cases ea : addNames fd.length pl (namesOf x) with
      | none => rw [ea] at e; cases e
      | some pl' =>
        rw [ea] at e
        have b := addNames_bound ea h
        refine asmGo_bound e (fun q hq => ?_)
        have := b q hq
        split
        · exact this
        · rw [List.length_append]
          simp
          omega
    · cases e
theorem insAll_none {pl : List (Str × Int)} {w : List Str} (h : insOf w pl = none) : ∀ {fd : List (List Str)}, w ∈ fd → insAll pl fd = none
  | [], m => nomatch m
  | v :: r, m => by
    unfold insAll
    rcases List.mem_cons.mp m with m | m
    · rw [← m, h]
    · cases insOf v pl with
      | none => rfl
      | some q => show (insAll pl r).map _ = none; rw [insAll_none h m]; rfl
theorem insAll_snoc {pl : List (Str × Int)} {w : List Str} {q : Str × Int} (h : insOf w pl = some q) : ∀ {fd : List (List Str)} {code}, insAll pl fd = some code → insAll pl (fd ++ [w]) = some (code ++ [q])
  | [], code, e => by
    cases e
    show (match insOf w pl with | none => none | some q => (insAll pl []).map (q :: ·)) = _
    rw [h]
    rfl
  | v :: r, code, e => by
    unfold insAll at e
    show (match insOf v pl with | none => none | some q => (insAll pl (r ++ [w])).map (q :: ·)) = _
    cases ev : insOf v pl with
    | none => rw [ev] at e; cases e
    | some q2 =>
      rw [ev] at e
      cases er : insAll pl r with
      | none => rw [er] at e; cases e
      | some c2 =>
        rw [er] at e
        cases e
        show (insAll pl (r ++ [w])).map (q2 :: ·) = _
        rw [insAll_snoc h er]
        rfl
theorem numOf_le {n : Str} (h : digitsOk n) : 0 ≤ numOf n ∧ numOf n ≤ 999 := by
  unfold numOf
  obtain ⟨h1, h2, h3⟩ := h
  rw [len_tl] at h1 h2
  have h4 : ∀ c ∈ tl n, 48 ≤ c ∧ c ≤ 57 := fun c hc => digs.mp (h3 c hc)
  clear h3
  generalize tl n = l at h1 h2 h4
  rcases l with _ | ⟨a, _ | ⟨b, _ | ⟨e, _ | ⟨f, l⟩⟩⟩⟩
  · simp at h1
  · have ha := h4 a (by simp)
    unfold PySem.NumText.digitsVal
    simp only [List.foldl_cons, List.foldl_nil]
    omega
  · have ha := h4 a (by simp)
    have hb := h4 b (by simp)
    unfold PySem.NumText.digitsVal
    simp only [List.foldl_cons, List.foldl_nil]
    omega
  · have ha := h4 a (by simp)
    have hb := h4 b (by simp)
    have he := h4 e (by simp)
    unfold PySem.NumText.digitsVal
    simp only [List.foldl_cons, List.foldl_nil]
    omega
  · simp at h2
theorem lookup_mem {n : Str} {k : Int} : ∀ {pl : List (Str × Int)}, pl.lookup n = some k → ∃ q ∈ pl, q.2 = k
  | [], e => nomatch e
  | (a, v) :: r, e => by
    rw [List.lookup_cons] at e
    by_cases h : (n == a) = true
    · rw [h] at e
      cases e
      exact ⟨_, List.mem_cons_self, rfl⟩
    · have h : (n == a) = false := by simpa using h
      rw [h] at e
      obtain ⟨q, m, e2⟩ := lookup_mem (pl := r) e
      exact ⟨q, List.mem_cons_of_mem _ m, e2⟩
theorem insOf_ok {ws : List Str} {pl : List (Str × Int)} {w : Str} {n N : Int} (h : insOf ws pl = some (w, n)) (hp : ∀ q ∈ pl, 0 ≤ q.2 ∧ q.2 ≤ N) (hN : (1000 : Int) ≤ N) : WordOk w ∧ 0 ≤ n ∧ n ≤ N := by
  unfold insOf at h
  split at h
  · split at h
    · cases h
      exact ⟨okRow_word0 (.inl ‹_›), by omega, by omega⟩
    · cases h
  · rename_i w1 n1
    by_cases hw : w1 ∈ wJump ∨ w1 ∈ wData
    · rw [if_pos hw] at h
      have ok := okRow_word0 (.inr hw)
      split at h
      · rename_i k e
        cases h
        by_cases hj : w ∈ wJump
        · rw [if_pos hj] at e
          obtain ⟨q, m, rfl⟩ := lookup_mem e
          exact ⟨ok, hp q m⟩
        · rw [if_neg hj] at e
          cases e
      · by_cases hdg : digitsOk n1
        · rw [if_pos hdg] at h
          cases h
          have := numOf_le hdg
          exact ⟨ok, by omega, by omega⟩
        · rw [if_neg hdg] at h
          cases h
    · rw [if_neg hw] at h
      cases h
  · cases h
theorem insAll_ok {pl : List (Str × Int)} {N : Int} : ∀ {fd : List (List Str)} {code}, insAll pl fd = some code → (∀ q ∈ pl, 0 ≤ q.2 ∧ q.2 ≤ N) → (1000 : Int) ≤ N → ∀ q ∈ code, WordOk q.1 ∧ 0 ≤ q.2 ∧ q.2 ≤ N
  | [], code, e, hp, hN => by
    cases e
    nofun
  | v :: r, code, e, hp, hN => by
    unfold insAll at e
    cases ev : insOf v pl with
    | none => rw [ev] at e; cases e
    | some q2 =>
      rw [ev] at e
      cases er : insAll pl r with
      | none => rw [er] at e; cases e
      | some c2 =>
        rw [er] at e
        cases e
        intro q hq
        rcases List.mem_cons.mp hq with hq | hq
        · rw [hq]
          exact insOf_ok (w := q2.1) (n := q2.2) ev hp hN
        · exact insAll_ok er hp hN q hq
def spAsm (CS CE pL pJ : Addr) : Sp := fun vs H Q E => ∃ (x : Str) (z : Addr) (d c : Nat), vs = [.str x, .ref z] ∧ SizeAt CS H z d c ∧ d ≤ 8 ∧ c ≤ 8 ∧ x.length ≤ 4000 ∧ GxR.TabG H pL ∧ GxR.TabG H pJ ∧ pL ≠ pJ ∧ match asm x d c with
  | some code => ∀ (H' : Hp) (p : Addr) (rs : List Addr), Keep [pL, pJ] H H' → GxR.TabG H' pL → GxR.TabG H' pJ → H p = none → (∀ r ∈ rs, H r = none) → H' p = some (.tup (rs.map V.ref)) → RowsAt H' rs code → Q (.ref p) H'
  | none => ∀ H', Keep [pL, pJ] H H' → GxR.TabG H' pL → GxR.TabG H' pJ → E (.ref CE) none H'
section
variable {P : Program} {w : World} {K : PySem.W.Frag} {mg : Str → Option Value} {base : Heap} {aL pL aJ pJ : Addr}
abbrev s_assemble : Stmt := (top 17)
theorem sc_assemble : FnScope ["text", "size", "places", "found", "line", "names", "words", "name", "code", "row"] ["text", "size"] (defScope s_assemble) := ⟨rfl, rfl, rfl, by decide +kernel, rfl, by decide +kernel, by decide +kernel⟩
theorem ok_assemble {f : Addr} {fd : FuncData} (F : Fun K "assemble" "assemble" s_assemble f fd) (T : TK K mg) {fL : Addr} {fdL : FuncData} (FL : FunC K "check_label" "check_label" s_check_label fL fdL (.ref aL)) (TL : GxR.TabB base mg aL pL) (mL : mg "check_label" = some (.ref fL)) (kL : PySem.W.keepIn K (.ref fL) = true) (bL : L2.Binds K fdL ["name"] []) {fP : Addr} {fdP : FuncData} (FP : Fun K "line_parts" "line_parts" s_line_parts fP fdP) (mP : mg "line_parts" = some (.ref fP)) (bP : L2.Binds K fdP ["line"] []) {fI : Addr} {fdI : FuncData} (FI : FunC K "instruction_of" "instruction_of" s_instruction_of fI fdI (.ref aJ)) (TJ : GxR.TabB base mg aJ pJ) (mI : mg "instruction_of" = some (.ref fI)) (kI : PySem.W.keepIn K (.ref fI) = true) (bI : L2.Binds K fdI ["words", "places"] []) {fC : Addr} {fdC : FuncData} (FC : Fun K "check_instruction" "check_instruction" s_check_instruction fC fdC) (mC : mg "check_instruction" = some (.ref fC)) (bC : L2.Binds K fdC ["row", "size"] []) : FnOk P w K mg base (L2.CX P w) 7 f fd ["text", "size"] (spAsm T.CS T.C_CodeError pL pJ) := by
  refine F.okX sc_assemble (fun vs H Q E h => ?_) (fun cdv A outer s H vs Q E hr h => ?_)
  · obtain ⟨x, z, d, c, rfl, _⟩ := h
    rfl
  · obtain ⟨x, z, d, c, rfl, SZ, hd, hc, hx, hL, hJ, nLJ, k⟩ := h
    have hu := hu_of hr
    refine ⟨_, (pss_cons (ps_set (i := 2) sc_assemble.nd rfl (Or.inr rfl) pe_dnewK)
        (pss_cons (ps_set (i := 3) sc_assemble.nd rfl (Or.inl rfl) (pe_lst pa_nil))
        (pss_cons (ps_for (passes_of rfl) rfl (pi_list (pe_split (pv 0) pe_str)) (pg_name (i := 4) sc_assemble.nd rfl (Or.inl rfl)) (pss_cons (ps_asg (pe_call (ok_line_parts FP T FL TL mL kL bL) (hr.mono (by decide)) (by rfl) mP FP.kp bP .nil (passes_call (takes_of rfl rfl rfl rfl) (fun _ _ _ _ h => h)) (pa_cons (pv 4) pa_nil)) (pg_tupH (n := 2) rfl (pgs_cons (pg_name (i := 5) sc_assemble.nd rfl (Or.inl rfl)) (pgs_cons (pg_name (i := 6) sc_assemble.nd rfl (Or.inl rfl)) pgs_nil))))
        (pss_cons (ps_for (passes_of rfl) rfl (pi_list (pv 5)) (pg_name (i := 7) sc_assemble.nd rfl (Or.inl rfl)) (pss_cons (ps_if (pt_cmp (pc_din hu (pv 7) (pv 2))) (pss_one (ps_raiseF rfl (takes_of rfl rfl rfl rfl) PySem.F.excBase_ValueError T.x_CodeError T.g_CodeError T.kp_CodeError (raises_own T.b_CodeError T.t_CodeError) (by rfl) (.cons (pt_word (pv 7)) (.cons (pt_str (by decide)) .nil)))) pss_nil)
        (pss_one (ps_dpH hu (pv 2) (pv 7) (pe_callB call_lenL (by rfl) T.z_len (by decide +kernel) (pa_cons (pv 3) pa_nil)) rfl))))
        (pss_one (ps_if (pt_truth (pv 6) (by intro _; rfl)) (pss_one (ps_expr (pe_bm PySem.F.plainAttrs_list PySem.F.slot_list_append PySem.F.type_list_append mt_append (pv 3) (pa_cons (pv 6) pa_nil)))) pss_nil)))))
        (pss_cons (ps_if (pt_cmpR op_gt (pe_callB call_lenL (by rfl) T.z_len (by decide +kernel) (pa_cons (pv 3) pa_nil)) (pe_op op_shl pe_int (pe_fld (pv 1) rfl)) (nomark _)) (pss_one (ps_raiseF rfl (takes_of rfl rfl rfl rfl) PySem.F.excBase_ValueError T.x_CodeError T.g_CodeError T.kp_CodeError (raises_own T.b_CodeError T.t_CodeError) (by rfl) (.cons (pt_int (pe_callB call_lenL (by rfl) T.z_len (by decide +kernel) (pa_cons (pv 3) pa_nil))) (.cons (pt_str (by decide)) .nil)))) pss_nil)
        (pss_cons (ps_setLcX (i := 8) (own := [("words", 6)]) (tt := tYes) (takes_of rfl rfl rfl rfl) rfl rfl rfl sc_assemble.nd rfl rfl (sw_true rfl rfl rfl (by decide +kernel)) (pi_list (pv 3)) (blkOk_by (own := [("words", 6)]) (N := ["text", "size", "places", "found", "line", "names", "words", "name", "code", "row"]) (sc := defScope s_assemble) (by decide +kernel)) (fun _ _ _ _ _ _ => (pg_name (i := 6) sc_assemble.nd rfl (Or.inl rfl))) (fun _ _ _ _ _ _ => pts_nil) (fun _ _ _ _ _ _ lets => (pe_call (ok_instruction_of FI T TJ) (hr.mono (by decide)) (by rfl) mI kI bI .nil (lets _ (fun _ _ _ _ h => h)) (pa_cons (pv 6) (pa_cons (pv 2) pa_nil)))))
        (pss_cons (ps_for (passes_of rfl) rfl (pi_list (pv 8)) (pg_name (i := 9) sc_assemble.nd rfl (Or.inl rfl)) (pss_one (ps_expr (pe_call (ok_check_instruction FC T) (hr.mono (by decide)) (by rfl) mC FC.kp bC .nil (passes_call (takes_of rfl rfl rfl rfl) (fun _ _ _ _ h => h)) (pa_cons (pv 9) (pa_cons (pv 1) pa_nil))))))
        (pss_one (ps_ret (pe_tupleOf (by rfl) T.z_tuple (pv 8)))))))))), ?_⟩
    simp_arith [cx_K, ↓e_tJs0, ↓e_tJs, ↓e_tFmt, ↓fmt_s, ↓fmt_i, ↓e_asS, ↓e_tM1, ↓e_tM0, ex_s, ↓ex_s2, ↓ex_s1, ↓ex_l1, ↓ex_ss, ↓ex_c, ↓e_news, ↓e_tForL, ↓e_asL, ↓e_tLcL, ↓tRaiseF_, ↓e_rInT, allP_0, allP_c, put_0, put_c, look_0, look_c, exists_eq_left', exists_eq', ↓e_tDIn, ↓e_iStr, ↓ex_v, cast1, cast2, flat_strs, inV_strs, cI_flat, cI_in, ex_isi, ↓e_tDNewK]
    intro pd npd fo n1 nfo
    have nl : tl (Str.ofString "\n") ≠ [] := by decide +kernel
    refine ⟨by decide, Nat.le_trans (Nat.add_le_add_right hx 2) (by decide), fun ls n2 n3 nls => ?_⟩
    generalize eL : Txt.split x (Str.ofString "\n") = L
    have lenL : ∀ y ∈ L, y.length ≤ 4000 := fun y hy => by
      rw [← eL] at hy
      have h1 : tl y ∈ spl (tl (Str.ofString "\n")) 0 [] (tl x) := by
        rw [← split_spl _ _ nl (kind_ok (by decide +kernel))]
        exact List.mem_map.mpr ⟨y, hy, rfl⟩
      have h2 := spl_len _ _ _ _ h1
      rw [← len_tl, ← len_tl] at h2
      simp at h2
      omega
    have manyL : L.length ≤ 4001 := by
      have h1 : (L.map tl).length ≤ (tl x).length + 1 := by
        rw [← eL, split_spl _ _ nl (kind_ok (by decide +kernel))]
        exact spl_many _ _ _
      rw [List.length_map, ← len_tl] at h1
      omega
    obtain ⟨ptL, eTL, okL⟩ := id hL
    obtain ⟨ptJ, eTJ, okJ⟩ := id hJ
    obtain ⟨Y, eY⟩ : ∃ Y : Hp, Y = upd (upd (upd H pd (.dK [])) fo (.lst [])) ls (.lst (L.map V.str)) := ⟨_, rfl⟩
    rw [← eY]
    have kY : Keep [] H Y := by
      rw [eY]
      exact ((Keep.refl.over npd).over nfo).over nls
    have hpd : Y pd = some (.dK (plK [])) := by rw [eY, upd_ne (Ne.symm n3), upd_ne (Ne.symm n1), upd_same]; rfl
    have hfo : Y fo = some (.lst (([] : List Addr).map V.ref)) := by rw [eY, upd_ne (Ne.symm n2), upd_same]; rfl
    have hls : Y ls = some (.lst (L.map V.str)) := by rw [eY, upd_same]
    clear eY
    have big : 60000 ≤ sizeLine := by decide
    have fin : ∀ G, asmGo [] [] L = none → Keep [pL, pJ] H G → GxR.TabG G pL → GxR.TabG G pJ → E (.ref T.C_CodeError) none G := fun G e kG t1 t2 => by
      have e2 : asm x d c = none := by
        unfold asm
        rw [show Txt.split x (Str.ofString "\n") = L from eL, e]
      rw [e2] at k
      exact k G kG t1 t2
    have hH : ∀ {a u}, H a = some u → a ≠ pd ∧ a ≠ fo ∧ a ≠ ls := fun e => ⟨ne_of_none e npd, ne_of_none e nfo, ne_of_none e nls⟩
    refine ⟨⟨_, SqL.of hls⟩, forL_by (xs := L.map V.str) (fun i σ G => ∃ (pl : List (Str × Int)) (fd : List (List Str)) (fas : List Addr) (v4 v5 v6 v7 : Option V), σ = [some (.str x), some (.ref z), some (.ref pd), some (.ref fo), v4, v5, v6, v7, none, none] ∧
      asmGo [] [] L = asmGo pl fd (L.drop i) ∧ G pd = some (.dK (plK pl)) ∧ G fo = some (.lst (fas.map V.ref)) ∧ G ls = some (.lst (L.map V.str)) ∧ FdAt G fas fd ∧ Keep [pL, pJ] H G ∧ GxR.TabG G pL ∧ GxR.TabG G pJ ∧
      (∀ a ∈ fas, H a = none ∧ a ≠ pd ∧ a ≠ fo ∧ a ≠ ls) ∧ fd.length ≤ i ∧ (∀ ws ∈ fd, ws.length ≤ 40000 ∧ ∀ y ∈ ws, y.length ≤ 40000) ∧ pl.length ≤ 4002 * i)
      ⟨[], [], [], none, none, none, none, rfl, rfl, hpd, hfo, hls, .nil, kY.more (by simp), ⟨ptL, kY _ _ eTL (by simp), okL⟩, ⟨ptJ, kY _ _ eTJ (by simp), okJ⟩, nofun, Nat.le_refl _, nofun, Nat.le_refl _⟩ (fun i σ G _ h => ?_) ?_ ?_⟩
    · obtain ⟨pl, fd, fas, v4, v5, v6, v7, _, _, _, _, h, _⟩ := h
      exact SqL.of h
    · rintro i v σ G hv ⟨pl, fd, fas, v4, v5, v6, v7, rfl, ego, gpd, gfo, gls, gfd, kG, tL, tJ, nfas, lfd, bfd, lpl⟩
      rw [List.getElem?_map] at hv
      cases er : L[i]? with
      | none => rw [er] at hv; cases hv
      | some y =>
        rw [er] at hv
        cases hv
        have ly := lenL y (List.mem_of_getElem? er)
        have edr : L.drop i = y :: L.drop (i + 1) := by
          have hi := (List.getElem?_eq_some_iff.mp er)
          obtain ⟨hi1, hi2⟩ := hi
          rw [List.drop_eq_getElem_cons hi1, hi2]
        rw [edr] at ego
        simp_arith [cx_K, ↓e_tJs0, ↓e_tJs, ↓e_tFmt, ↓fmt_s, ↓fmt_i, ↓e_asS, ↓e_tM1, ↓e_tM0, ex_s, ↓ex_s2, ↓ex_s1, ↓ex_l1, ↓ex_ss, ↓ex_c, ↓e_news, ↓e_tForL, ↓e_asL, ↓e_tLcL, ↓tRaiseF_, ↓e_rInT, allP_0, allP_c, put_0, put_c, look_0, look_c, exists_eq_left', exists_eq', ↓e_tDIn, ↓e_iStr, ↓ex_v, cast1, cast2, flat_strs, inV_strs, cI_flat, cI_in, ex_isi]
        refine ⟨y, rfl, by omega, tL, ?_⟩
        by_cases okN : ∀ n ∈ namesOf y, labelOk n
        · rw [if_pos okN]
          refine fun G1 p a b k1 t1 np na nb ab pa pb hp ha hb => ?_
          have e1 : asmGo [] [] L = match addNames fd.length pl (namesOf y) with
            | none => none
            | some pl' => asmGo pl' (if wordsOf y = [] then fd else fd ++ [wordsOf y]) (L.drop (i + 1)) := by
            rw [ego]
            exact if_pos okN
          have ne : ∀ {q : Addr} {u : HO}, G q = some u → (∀ ps, u ≠ .tbl ps) → q ≠ pL ∧ q ≠ pJ := fun {q u} e0 f0 => by
            obtain ⟨p1, t2, _⟩ := id tL
            obtain ⟨p3, t4, _⟩ := id tJ
            refine ⟨fun h0 => ?_, fun h0 => ?_⟩
            · rw [h0, t2] at e0
              cases e0
              exact f0 _ rfl
            · rw [h0, t4] at e0
              cases e0
              exact f0 _ rfl
          have g1pd := k1 _ _ gpd (by simpa using (ne gpd nofun).1)
          have g1fo := k1 _ _ gfo (by simpa using (ne gfo nofun).1)
          have g1ls := k1 _ _ gls (by simpa using (ne gls nofun).1)
          have tJ1 : GxR.TabG G1 pJ := by
            obtain ⟨pt, e2, o2⟩ := tJ
            exact ⟨pt, k1 _ _ e2 (by simpa using Ne.symm nLJ), o2⟩
          have kG1 : Keep [pL, pJ] H G1 := kG.trans (k1.more (by simp))
          have apd : a ≠ pd := fun h0 => by rw [h0, g1pd] at ha; cases ha
          have bpd : b ≠ pd := fun h0 => by rw [h0, g1pd] at hb; cases hb
          have fopd : fo ≠ pd := fun h0 => by rw [h0, g1pd] at g1fo; cases g1fo
          have lspd : ls ≠ pd := fun h0 => by rw [h0, g1pd] at g1ls; cases g1ls
          have pdH : H pd = none := npd
          have fdl := paired_len gfd
          have kU : ∀ u, Keep [pL, pJ] H (upd G1 pd u) := fun u => kG1.over pdH
          have tU : ∀ {q u}, GxR.TabG G1 q → GxR.TabG (upd G1 pd u) q := fun {q u} t0 => by
            obtain ⟨pt, e2, o2⟩ := t0
            refine ⟨pt, ?_, o2⟩
            rw [upd_ne (fun h0 => by rw [h0, g1pd] at e2; cases e2)]
            exact e2
          have nN : (namesOf y).length ≤ 4001 := by
            have z1 : (rowsOf y).length ≤ 4001 := by
              have h1 : ((rowsOf y).map tl).length ≤ (tl (Txt.partition y (Str.ofString "//")).1).length + 1 := by
                unfold rowsOf
                rw [split_spl _ _ (by decide +kernel) (kind_ok (by decide +kernel))]
                exact spl_many _ _ _
              have h2 := part_len y (y := Str.ofString "//") (by decide)
              rw [List.length_map, ← len_tl] at h1
              omega
            unfold namesOf
            rw [List.length_map, List.length_dropLast]
            omega
          simp_arith [cx_K, ↓e_tJs0, ↓e_tJs, ↓e_tFmt, ↓fmt_s, ↓fmt_i, ↓e_asS, ↓e_tM1, ↓e_tM0, ex_s, ↓ex_s2, ↓ex_s1, ↓ex_l1, ↓ex_ss, ↓ex_c, ↓e_news, ↓e_tForL, ↓e_asL, ↓e_tLcL, ↓tRaiseF_, ↓e_rInT, allP_0, allP_c, put_0, put_c, look_0, look_c, exists_eq_left', exists_eq', ↓e_tDIn, ↓e_iStr, ↓ex_v, cast1, cast2, flat_strs, inV_strs, cI_flat, cI_in, ex_isi, hp]
          refine ⟨⟨_, SqL.of ha⟩, forL_by (xs := (namesOf y).map V.str) (fun j σ G2 => ∃ (pl2 : List (Str × Int)) (v7 : Option V), σ = [some (.str x), some (.ref z), some (.ref pd), some (.ref fo), some (.str y), some (.ref a), some (.ref b), v7, none, none] ∧
            addNames fd.length pl (namesOf y) = addNames fd.length pl2 ((namesOf y).drop j) ∧ G2 = upd G1 pd (.dK (plK pl2)) ∧ pl2.length ≤ pl.length + j) ⟨pl, _, rfl, rfl, (upd_self g1pd).symm, Nat.le_refl _⟩ (fun j σ G2 _ h => ?_) ?_ ?_⟩
          · obtain ⟨pl2, v7, _, _, rfl, _⟩ := h
            exact SqL.of (by rw [upd_ne apd]; exact ha)
          · rintro j v σ G2 hv ⟨pl2, v7, rfl, ead, rfl, lp2⟩
            rw [List.getElem?_map] at hv
            cases en : (namesOf y)[j]? with
            | none => rw [en] at hv; cases hv
            | some n =>
              rw [en] at hv
              cases hv
              obtain ⟨hj1, hj2⟩ := List.getElem?_eq_some_iff.mp en
              have edn : (namesOf y).drop j = n :: (namesOf y).drop (j + 1) := by rw [List.drop_eq_getElem_cons hj1, hj2]
              rw [edn] at ead
              have ln : n.length ≤ 3000 := by
                have := (okN n (List.mem_of_getElem? en)).2.1
                omega
              simp_arith [cx_K, ↓e_tJs0, ↓e_tJs, ↓e_tFmt, ↓fmt_s, ↓fmt_i, ↓e_asS, ↓e_tM1, ↓e_tM0, ex_s, ↓ex_s2, ↓ex_s1, ↓ex_l1, ↓ex_ss, ↓ex_c, ↓e_news, ↓e_tForL, ↓e_asL, ↓e_tLcL, ↓tRaiseF_, ↓e_rInT, allP_0, allP_c, put_0, put_c, look_0, look_c, exists_eq_left', exists_eq', ↓e_tDIn, ↓e_iStr, ↓ex_v, cast1, cast2, flat_strs, inV_strs, cI_flat, cI_in, ex_isi, upd_ne fopd, g1fo]
              refine ⟨pd, _, rfl, DGet.k (k := .inr n) upd_same, ?_⟩
              rw [valV_pl]
              cases el : pl2.lookup n with
              | some kk =>
                have e2 : addNames fd.length pl (namesOf y) = none := by
                  rw [ead]
                  show (if (pl2.lookup n).isNone = true then _ else none) = none
                  rw [el]
                  rfl
                rw [e2] at e1
                simp_arith [cx_K, ↓e_tJs0, ↓e_tJs, ↓e_tFmt, ↓fmt_s, ↓fmt_i, ↓e_asS, ↓e_tM1, ↓e_tM0, ex_s, ↓ex_s2, ↓ex_s1, ↓ex_l1, ↓ex_ss, ↓ex_c, ↓e_news, ↓e_tForL, ↓e_asL, ↓e_tLcL, ↓tRaiseF_, ↓e_rInT, allP_0, allP_c, put_0, put_c, look_0, look_c, exists_eq_left', exists_eq', ↓e_tDIn, ↓e_iStr, ↓ex_v, cast1, cast2, flat_strs, inV_strs, cI_flat, cI_in, ex_isi]
                exact ⟨ln, fin _ e1 (kU _) (tU t1) (tU tJ1)⟩
              | none =>
                have e2 : addNames fd.length pl (namesOf y) = addNames fd.length (pl2 ++ [(n, (fd.length : Int))]) ((namesOf y).drop (j + 1)) := by
                  rw [ead]
                  show (if (pl2.lookup n).isNone = true then _ else none) = _
                  rw [el]
                  rfl
                have iL : i < 4001 := by
                  have := (List.getElem?_eq_some_iff.mp er).1
                  omega
                have lp3 : (plK pl2).length < sizeLine := by
                  have : 16700000 < sizeLine := by decide
                  have e3 : (plK pl2).length = pl2.length := by simp [plK]
                  have : 4002 * i ≤ 4002 * 4000 := Nat.mul_le_mul_left _ (by omega)
                  omega
                rw [if_neg (by simp)]
                refine ⟨lp3, pl2 ++ [(n, (fd.length : Int))], _, rfl, e2, ?_, by rw [List.length_append]; simp; omega⟩
                have e4 : ((fas.map V.ref).length : Int) = (fd.length : Int) := by rw [List.length_map, fdl]
                rw [e4, putK_new el]
          · rintro σ G2 ⟨pl2, v7, rfl, ead, rfl, lp2⟩
            rw [List.length_map, List.drop_length] at ead
            have ead2 : addNames fd.length pl (namesOf y) = some pl2 := ead
            rw [ead2] at e1
            have hb2 : (upd G1 pd (.dK (plK pl2))) b = some (.lst ((wordsOf y).map V.str)) := by rw [upd_ne bpd]; exact hb
            have fo2 : (upd G1 pd (.dK (plK pl2))) fo = some (.lst (fas.map V.ref)) := by rw [upd_ne fopd]; exact g1fo
            have ls2 : (upd G1 pd (.dK (plK pl2))) ls = some (.lst (L.map V.str)) := by rw [upd_ne lspd]; exact g1ls
            have fd2 : FdAt (upd G1 pd (.dK (plK pl2))) fas fd := (gfd.keep k1 (fun a0 h0 => by
              obtain ⟨ws, hws⟩ := gfd.at_ a0 h0
              simpa using (ne hws nofun).1)).keep (S := [pd]) (Keep.refl.at (List.mem_singleton.mpr rfl)) (fun a0 h0 => by simpa using (nfas a0 h0).2.1)
            have bnd : pl2.length ≤ 4002 * (i + 1) := by
              rw [List.length_map] at lp2
              omega
            have bfo : b ≠ fo := Ne.symm (ne_of_none gfo nb)
            have bls : b ≠ ls := Ne.symm (ne_of_none gls nb)
            have bH : H b = none := by
              refine Keep.free kG nb (fun h0 => ?_)
              obtain ⟨q1, q2, _⟩ := id tL
              obtain ⟨q3, q4, _⟩ := id tJ
              simp only [List.mem_cons, List.not_mem_nil, or_false] at h0
              rcases h0 with h0 | h0
              · rw [h0, q2] at nb
                cases nb
              · rw [h0, q4] at nb
                cases nb
            have lenW := words_len y ly
            have foH : H fo = none := nfo
            simp_arith [cx_K, ↓e_tJs0, ↓e_tJs, ↓e_tFmt, ↓fmt_s, ↓fmt_i, ↓e_asS, ↓e_tM1, ↓e_tM0, ex_s, ↓ex_s2, ↓ex_s1, ↓ex_l1, ↓ex_ss, ↓ex_c, ↓e_news, ↓e_tForL, ↓e_asL, ↓e_tLcL, ↓tRaiseF_, ↓e_rInT, allP_0, allP_c, put_0, put_c, look_0, look_c, exists_eq_left', exists_eq', ↓e_tDIn, ↓e_iStr, ↓ex_v, cast1, cast2, flat_strs, inV_strs, cI_flat, cI_in, ex_isi]
            cases hw : wordsOf y with
            | nil =>
              rw [hw] at e1 hb2
              refine ⟨false, .inl ⟨_, SqL.of hb2, rfl⟩, ?_⟩
              simp_arith [cx_K, ↓e_tJs0, ↓e_tJs, ↓e_tFmt, ↓fmt_s, ↓fmt_i, ↓e_asS, ↓e_tM1, ↓e_tM0, ex_s, ↓ex_s2, ↓ex_s1, ↓ex_l1, ↓ex_ss, ↓ex_c, ↓e_news, ↓e_tForL, ↓e_asL, ↓e_tLcL, ↓tRaiseF_, ↓e_rInT, allP_0, allP_c, put_0, put_c, look_0, look_c, exists_eq_left', exists_eq', ↓e_tDIn, ↓e_iStr, ↓ex_v, cast1, cast2, flat_strs, inV_strs, cI_flat, cI_in, ex_isi]
              exact ⟨pl2, fd, fas, _, _, _, _, rfl, e1, rfl, fo2, ls2, fd2, kU _, tU t1, tU tJ1, nfas, by omega, bfd, bnd⟩
            | cons w1 r1 =>
              have ewd : wordsOf y ≠ [] := by rw [hw]; simp
              have e2 : asmGo [] [] L = asmGo pl2 (fd ++ [wordsOf y]) (L.drop (i + 1)) := by
                rw [e1]
                show asmGo pl2 (if wordsOf y = [] then fd else fd ++ [wordsOf y]) _ = _
                rw [if_neg ewd]
              refine ⟨true, .inl ⟨_, SqL.of hb2, by rw [hw]; rfl⟩, ?_⟩
              simp_arith [cx_K, ↓e_tJs0, ↓e_tJs, ↓e_tFmt, ↓fmt_s, ↓fmt_i, ↓e_asS, ↓e_tM1, ↓e_tM0, ex_s, ↓ex_s2, ↓ex_s1, ↓ex_l1, ↓ex_ss, ↓ex_c, ↓e_news, ↓e_tForL, ↓e_asL, ↓e_tLcL, ↓tRaiseF_, ↓e_rInT, allP_0, allP_c, put_0, put_c, look_0, look_c, exists_eq_left', exists_eq', ↓e_tDIn, ↓e_iStr, ↓ex_v, cast1, cast2, flat_strs, inV_strs, cI_flat, cI_in, ex_isi, ↓e_tBM]
              refine ⟨.inl ⟨rfl, _, SqL.of fo2⟩, ?_⟩
              simp_arith [cx_K, ↓e_tJs0, ↓e_tJs, ↓e_tFmt, ↓fmt_s, ↓fmt_i, ↓e_asS, ↓e_tM1, ↓e_tM0, ex_s, ↓ex_s2, ↓ex_s1, ↓ex_l1, ↓ex_ss, ↓ex_c, ↓e_news, ↓e_tForL, ↓e_asL, ↓e_tLcL, ↓tRaiseF_, ↓e_rInT, allP_0, allP_c, put_0, put_c, look_0, look_c, exists_eq_left', exists_eq', ↓e_tDIn, ↓e_iStr, ↓ex_v, cast1, cast2, flat_strs, inV_strs, cI_flat, cI_in, ex_isi, fo2]
              have iL2 : i < 4001 := by
                have := (List.getElem?_eq_some_iff.mp er).1
                omega
              have b2 : 4001 < sizeLine := by decide
              have tF : ∀ {q u}, GxR.TabG (upd G1 pd (.dK (plK pl2))) q → GxR.TabG (upd (upd G1 pd (.dK (plK pl2))) fo u) q := fun {q u} t0 => by
                obtain ⟨pt, e5, o2⟩ := t0
                refine ⟨pt, ?_, o2⟩
                rw [upd_ne (fun h0 => by rw [h0, fo2] at e5; cases e5)]
                exact e5
              refine ⟨by rw [List.length_map]; omega, pl2, fd ++ [wordsOf y], fas ++ [b], _, _, _, _, rfl, e2, by rw [upd_ne (Ne.symm fopd), upd_same], by simp, by rw [upd_ne n2]; exact ls2, ?_, (kU _).over foH, tF (tU t1), tF (tU tJ1), fun a0 h0 => ?_, by simp; omega, fun ws h0 => ?_, bnd⟩
              · exact PySem.Paired.snoc (fd2.keep (S := [fo]) (Keep.refl.at (List.mem_singleton.mpr rfl)) (fun a0 h0 => by simpa using (nfas a0 h0).2.2.1)) (by rw [upd_ne bfo]; exact hb2)
              · rcases List.mem_append.mp h0 with h0 | h0
                · exact nfas a0 h0
                · rw [List.mem_singleton.mp h0]
                  exact ⟨bH, bpd, bfo, bls⟩
              · rcases List.mem_append.mp h0 with h0 | h0
                · exact bfd ws h0
                · rw [List.mem_singleton.mp h0]
                  exact lenW
        · rw [if_neg okN]
          have e1 : asmGo [] [] L = none := by
            rw [ego]
            exact if_neg okN
          intro G1 k1 t1
          refine fin G1 e1 (kG.trans (k1.more (by simp))) t1 ?_
          obtain ⟨pt, e2, o2⟩ := tJ
          exact ⟨pt, k1 _ _ e2 (by simpa using Ne.symm nLJ), o2⟩
    · rintro σ G ⟨pl, fd, fas, v4, v5, v6, v7, rfl, ego, gpd, gfo, gls, gfd, kG, tL, tJ, nfas, lfd, bfd, lpl⟩
      rw [List.length_map, List.drop_length] at ego
      have ego2 : asmGo [] [] L = some (pl, fd) := ego
      have eS : asm x d c = (match asmGo [] [] L with
          | none => none
          | some (pl, fd) => @ite _ (fd.length ≤ 2 ^ c) (Nat.decLe _ _) (match insAll pl fd with
            | none => none
            | some code => @ite _ (∀ q ∈ code, OkRow d c q.1 q.2) (Classical.propDecidable _) (some code) none) none) := by
        rw [← eL]
        unfold asm
        first
          | rfl
          | (congr 1
             funext pl fd
             have e3 : ∀ (code : List (Str × Int)) (i1 i2 : Decidable (∀ q ∈ code, OkRow d c q.1 q.2)), (@ite (Option (List (Str × Int))) _ i1 (some code) none) = @ite (Option (List (Str × Int))) _ i2 (some code) none := fun code i1 i2 => by
               by_cases h : ∀ q ∈ code, OkRow d c q.1 q.2
               · rw [if_pos h, if_pos h]
               · rw [if_neg h, if_neg h]
             by_cases h : fd.length ≤ 2 ^ c
             · rw [if_pos h, if_pos h]
               cases insAll pl fd with
               | none => rfl
               | some code => exact e3 code _ _
             · rw [if_neg h, if_neg h]
             done)
      rw [ego2] at eS
      have aBig : ¬ fd.length ≤ 2 ^ c → asm x d c = none := fun h0 => eS.trans (if_neg h0)
      have aNo : fd.length ≤ 2 ^ c → insAll pl fd = none → asm x d c = none := fun h0 h1 => eS.trans ((if_pos h0).trans (by rw [h1]))
      have aBad : fd.length ≤ 2 ^ c → ∀ code, insAll pl fd = some code → (¬ ∀ q ∈ code, OkRow d c q.1 q.2) → asm x d c = none := fun h0 code h1 h2 => eS.trans ((if_pos h0).trans (by rw [h1]; exact if_neg h2))
      have aOk : fd.length ≤ 2 ^ c → ∀ code, insAll pl fd = some code → (∀ q ∈ code, OkRow d c q.1 q.2) → asm x d c = some code := fun h0 code h1 h2 => eS.trans ((if_pos h0).trans (by rw [h1]; exact if_pos h2))
      obtain ⟨ptG, eG2, okG⟩ := id tL
      obtain ⟨ptK, eK2, okK⟩ := id tJ
      have szG : SizeAt T.CS G z d c := by
        obtain ⟨dz, fz, hz, l1, l2, l3, l4⟩ := id SZ
        refine ⟨dz, fz, kG _ _ hz (fun h0 => ?_), l1, l2, l3, l4⟩
        rcases List.mem_cons.mp h0 with h0 | h0
        · rw [h0, eTL] at hz; cases hz
        · rw [List.mem_singleton.mp h0, eTJ] at hz; cases hz
      obtain ⟨dz, fz, hz, l1, l2, l3, l4⟩ := id szG
      have fdl := paired_len gfd
      simp_arith [cx_K, ↓e_tJs0, ↓e_tJs, ↓e_tFmt, ↓fmt_s, ↓fmt_i, ↓e_asS, ↓e_tM1, ↓e_tM0, ex_s, ↓ex_s2, ↓ex_s1, ↓ex_l1, ↓ex_ss, ↓ex_c, ↓e_news, ↓e_tForL, ↓e_asL, ↓e_tLcL, ↓tRaiseF_, ↓e_rInT, allP_0, allP_c, put_0, put_c, look_0, look_c, exists_eq_left', exists_eq', ↓e_tDIn, ↓e_iStr, ↓ex_v, cast1, cast2, flat_strs, inV_strs, cI_flat, cI_in, ex_isi, gfo, hz, l2, T.cS, T.nS_code]
      have bigN : (1 * 2 ^ ((c : Int).toNat) < (((fas.map V.ref).length : Nat) : Int)) ↔ ¬ fd.length ≤ 2 ^ c := by
        rw [pow_nat, Int.one_mul, List.length_map, fdl]
        have e2 : ((2 : Int) ^ c) = ((2 ^ c : Nat) : Int) := by simp
        rw [e2]
        omega
      have many : fd.length ≤ 4001 := by
        rw [List.length_map] at lfd
        omega
      refine ⟨by first | decide | (unfold CPow; omega) | (unfold CPow; constructor <;> omega), ?_⟩
      by_cases big2 : fd.length ≤ 2 ^ c
      · rw [if_neg (fun h => bigN.mp h big2)]
        have plB := asmGo_bound ego2 nofun
        have npJ : ∀ {q : Addr} {u : HO}, G q = some u → (∀ ps, u ≠ .tbl ps) → q ∉ [pJ] := fun {q u} e0 f0 h0 => by
          rw [List.mem_singleton.mp h0, eK2] at e0
          cases e0
          exact f0 _ rfl
        refine ⟨⟨_, SqL.of gfo⟩, lcL_by (xs := fas.map V.ref) (fun D i G2 => ∃ (rs : List Addr) (code : List (Str × Int)), G2 D = some (.lst (rs.map V.ref)) ∧ rs.length = i ∧ insAll pl (fd.take i) = some code ∧ RowsAt G2 rs code ∧ Keep [pJ] G G2 ∧ GxR.TabG G2 pJ ∧ ∀ r ∈ rs, G r = none) (fun D nD => ?_) (fun D i G2 nD _ h => ?_) ?_ ?_⟩
        · exact ⟨[], [], upd_same, rfl, rfl, .nil, (Keep.refl.new (S := []) nD).more (by simp), ⟨ptK, by rw [upd_ne (fun h0 => by rw [h0, nD] at eK2; cases eK2)]; exact eK2, okK⟩, nofun⟩
        · obtain ⟨rs, code, _, _, _, _, k2, _⟩ := h
          exact SqL.of (k2 _ _ gfo (npJ gfo nofun))
        · rintro D i v G2 nD hv ⟨rs, code, hD, lr, eI, R, k2, tJ2, nrs⟩
          rw [List.getElem?_map] at hv
          cases er : fas[i]? with
          | none => rw [er] at hv; cases hv
          | some a =>
            rw [er] at hv
            cases hv
            obtain ⟨ws, ews, ha⟩ := paired_get gfd er
            have bw := bfd ws (List.mem_of_getElem? ews)
            obtain ⟨ptM, eM, okM⟩ := id tJ2
            have DJ : D ∉ [pJ] := fun h0 => by rw [List.mem_singleton.mp h0, eM] at hD; cases hD
            simp_arith [cx_K, ↓e_tJs0, ↓e_tJs, ↓e_tFmt, ↓fmt_s, ↓fmt_i, ↓e_asS, ↓e_tM1, ↓e_tM0, ex_s, ↓ex_s2, ↓ex_s1, ↓ex_l1, ↓ex_ss, ↓ex_c, ↓e_news, ↓e_tForL, ↓e_asL, ↓e_tLcL, ↓tRaiseF_, ↓e_rInT, allP_0, allP_c, put_0, put_c, look_0, look_c, exists_eq_left', exists_eq', ↓e_tDIn, ↓e_iStr, ↓ex_v, cast1, cast2, flat_strs, inV_strs, cI_flat, cI_in, ex_isi, wipe]
            refine ⟨a, pd, ws, pl, rfl, k2 _ _ ha (npJ ha nofun), k2 _ _ gpd (npJ gpd nofun), tJ2, bw.2, bw.1, ?_⟩
            cases ei : insOf ws pl with
            | none =>
              have e0 := aNo big2 (insAll_none ei (List.mem_of_getElem? ews))
              rw [e0] at k
              refine fun H' k3 t3 => k H' (kG.trans ((k2.trans k3).more (by simp))) ⟨ptG, (k2.trans k3) _ _ eG2 (by simpa using nLJ), okG⟩ t3
            | some q =>
              obtain ⟨wd, n⟩ := q
              intro H' p k3 t3 np hp
              have hD3 := k3 _ _ hD DJ
              obtain ⟨ptO, eO, okO⟩ := id t3
              refine ⟨_, hD3, ?_, rs ++ [p], code ++ [(wd, n)], by simp, by simp [lr], by rw [List.take_add_one, ews]; exact insAll_snoc ei eI, ?_, (k2.trans k3).over nD, ⟨ptO, by rw [upd_ne (fun h0 => by rw [h0, hD3] at eO; cases eO)]; exact eO, okO⟩, fun r hr => ?_⟩
              · have hi := (List.getElem?_eq_some_iff.mp er).1
                rw [List.length_map, lr]
                omega
              · have R3 : RowsAt H' rs code := R.keep k3 (fun b hb => by
                  rw [List.mem_singleton.mp hb]
                  intro xs e9
                  rw [eM] at e9
                  cases e9)
                have R4 : RowsAt H' (rs ++ [p]) (code ++ [(wd, n)]) := PySem.Paired.snoc R3 hp
                exact R4.keep (S := [D]) (Keep.refl.at (List.mem_singleton.mpr rfl)) (fun b hb => by
                  rw [List.mem_singleton.mp hb]
                  intro xs e9
                  rw [hD3] at e9
                  cases e9)
              · rcases List.mem_append.mp hr with hr | hr
                · exact nrs r hr
                · rw [List.mem_singleton.mp hr]
                  cases eGp : G p with
                  | none => rfl
                  | some u =>
                    by_cases hJp : p = pJ
                    · rw [hJp, eM] at np; cases np
                    · rw [k2 _ _ eGp (by simpa using hJp)] at np; cases np
        · rintro D G2 nD ⟨rs, code, hD, lr, eI, R, k2, tJ2, nrs⟩
          rw [List.length_map] at lr eI
          rw [fdl, List.take_length] at eI
          have szG2 : ∀ G3, Keep [] G2 G3 → SizeAt T.CS G3 z d c := fun G3 k3 => ⟨dz, fz, k3 _ _ (k2 _ _ hz (npJ hz nofun)) (by simp), l1, l2, l3, l4⟩
          have codeB := insAll_ok eI (N := 4001) (fun q hq => by have := plB q hq; omega) (by decide)
          have lrc := paired_len R
          simp_arith [cx_K, ↓e_tJs0, ↓e_tJs, ↓e_tFmt, ↓fmt_s, ↓fmt_i, ↓e_asS, ↓e_tM1, ↓e_tM0, ex_s, ↓ex_s2, ↓ex_s1, ↓ex_l1, ↓ex_ss, ↓ex_c, ↓e_news, ↓e_tForL, ↓e_asL, ↓e_tLcL, ↓tRaiseF_, ↓e_rInT, allP_0, allP_c, put_0, put_c, look_0, look_c, exists_eq_left', exists_eq', ↓e_tDIn, ↓e_iStr, ↓ex_v, cast1, cast2, flat_strs, inV_strs, cI_flat, cI_in, ex_isi]
          refine ⟨⟨_, SqL.of hD⟩, forL_by (xs := rs.map V.ref) (fun i σ G3 => ∃ v : Option V, σ = [some (.str x), some (.ref z), some (.ref pd), some (.ref fo), v4, v5, v6, v7, some (.ref D), v] ∧ Keep [] G2 G3 ∧ ∀ j q, j < i → code[j]? = some q → OkRow d c q.1 q.2) ⟨_, rfl, Keep.refl, fun j q hj => absurd hj (by omega)⟩ (fun i σ G3 _ h => ?_) ?_ ?_⟩
          · obtain ⟨_, _, k3, _⟩ := h
            exact SqL.of (k3 _ _ hD (by simp))
          · rintro i v σ G3 hv ⟨v9, rfl, k3, okC⟩
            rw [List.getElem?_map] at hv
            cases er : rs[i]? with
            | none => rw [er] at hv; cases hv
            | some r =>
              rw [er] at hv
              cases hv
              obtain ⟨q, eq, hr1⟩ := paired_get R er
              obtain ⟨wd, n⟩ := q
              have okq := codeB _ (List.mem_of_getElem? eq)
              simp_arith [cx_K, ↓e_tJs0, ↓e_tJs, ↓e_tFmt, ↓fmt_s, ↓fmt_i, ↓e_asS, ↓e_tM1, ↓e_tM0, ex_s, ↓ex_s2, ↓ex_s1, ↓ex_l1, ↓ex_ss, ↓ex_c, ↓e_news, ↓e_tForL, ↓e_asL, ↓e_tLcL, ↓tRaiseF_, ↓e_rInT, allP_0, allP_c, put_0, put_c, look_0, look_c, exists_eq_left', exists_eq', ↓e_tDIn, ↓e_iStr, ↓ex_v, cast1, cast2, flat_strs, inV_strs, cI_flat, cI_in, ex_isi]
              refine ⟨r, z, d, c, wd, [.int n], rfl, k3 _ _ hr1 (by simp), .inr ⟨n, rfl, by have := okq.2; simp only [] at this; omega⟩, okq.1, szG2 _ k3, hd, hc, ?_⟩
              by_cases ok : OkXs d c [.str wd, .int n]
              · rw [if_pos ok]
                refine fun G4 k4 => ⟨_, rfl, k3.trans k4, fun j q2 hj e => ?_⟩
                by_cases ej : j = i
                · rw [ej, eq] at e
                  cases e
                  exact ok
                · exact okC j q2 (by omega) e
              · rw [if_neg ok]
                have e0 := aBad big2 code eI (fun h => ok (h _ (List.mem_of_getElem? eq)))
                rw [e0] at k
                obtain ⟨ptM, eM, okM⟩ := id tJ2
                exact fun G4 k4 => k G4 (kG.trans ((k2.trans ((k3.trans k4).more (by simp))).more (by simp))) ⟨ptG, (k3.trans k4) _ _ (k2 _ _ eG2 (by simpa using nLJ)) (by simp), okG⟩ ⟨ptM, (k3.trans k4) _ _ eM (by simp), okM⟩
          · rintro σ G3 ⟨v9, rfl, k3, okC⟩
            have e0 := aOk big2 code eI (fun q hq => by
              obtain ⟨j, hj⟩ := List.mem_iff_getElem?.mp hq
              refine okC j q ?_ hj
              have := (List.getElem?_eq_some_iff.mp hj).1
              rw [List.length_map]
              omega)
            rw [e0] at k
            have hD3 := k3 _ _ hD (by simp)
            suffices hs : kTup K (.ref D) G3 Q by
              first
                | exact hs
                | exact ⟨_, rfl, hs⟩
                | (simp_arith [cx_K, ↓e_tJs0, ↓e_tJs, ↓e_tFmt, ↓fmt_s, ↓fmt_i, ↓e_asS, ↓e_tM1, ↓e_tM0, ex_s, ↓ex_s2, ↓ex_s1, ↓ex_l1, ↓ex_ss, ↓ex_c, ↓e_news, ↓e_tForL, ↓e_asL, ↓e_tLcL, ↓tRaiseF_, ↓e_rInT, allP_0, allP_c, put_0, put_c, look_0, look_c, exists_eq_left', exists_eq', ↓e_tDIn, ↓e_iStr, ↓ex_v, cast1, cast2, flat_strs, inV_strs, cI_flat, cI_in, ex_isi]; exact hs)
            refine Or.inl ⟨D, rs.map V.ref, rfl, SqL.of hD3, fun q nq => ?_⟩
            obtain ⟨ptM, eM, okM⟩ := id tJ2
            have kH : Keep [pL, pJ] H G3 := kG.trans ((k2.trans (k3.more (by simp))).more (by simp))
            have tP : ∀ {a : Addr} {pt}, G3 a = some (.tbl pt) → upd G3 q (.tup (rs.map V.ref)) a = some (.tbl pt) := fun {a pt} e9 => by
              rw [upd_ne (fun h0 => by rw [h0, nq] at e9; cases e9)]
              exact e9
            have gL3 : G3 pL = some (.tbl ptG) := k3 _ _ (k2 _ _ eG2 (by simpa using nLJ)) (by simp)
            have gJ3 : G3 pJ = some (.tbl ptM) := k3 _ _ eM (by simp)
            have notT : ∀ {F : Hp} {a : Addr} {p1 p2}, F pL = some (.tbl p1) → F pJ = some (.tbl p2) → F a = none → a ∉ [pL, pJ] := fun {F a p1 p2} e7 e8 e9 h0 => by
              rcases List.mem_cons.mp h0 with h0 | h0
              · rw [h0, e7] at e9; cases e9
              · rw [List.mem_singleton.mp h0, e8] at e9; cases e9
            refine k (upd G3 q (.tup (rs.map V.ref))) q rs ?_ ⟨ptG, tP (k3 _ _ (k2 _ _ eG2 (by simpa using nLJ)) (by simp)), okG⟩ ⟨ptM, tP (k3 _ _ eM (by simp)), okM⟩ ?_ (fun r hr => ?_) upd_same ?_
            · exact kH.trans (Keep.refl.new nq)
            · exact kH.free nq (notT gL3 gJ3 nq)
            · exact kG.free (nrs r hr) (notT eG2 eK2 (nrs r hr))
            · exact (R.keep k3 (by simp)).keep (Keep.refl.new (S := []) nq) (by simp)
      · rw [if_pos (bigN.mpr big2)]
        rw [aBig big2] at k
        exact ⟨by rw [List.length_map]; omega, k G kG tL tJ⟩
end
end
section
open PySem L2 LamX PySem.Spec PyProof.Rows
section
variable {X : Cx}
theorem sw_dict {kx vx : Expr} {gs : List Comprehension} {scope : Scope} {pos py : Pos} {y : Str} {l : Nat} {env : Env} (hk : env.scope.kind = .function) (hy : env.scope.names.lookup y = some .local) (hl : (py.line == pos.line) = true)
    (ha : (scope.names.any fun (n, k) => n == y && (k == .local || k == .cell)) = false) : swapsWith (.DictComp kx vx gs scope pos) (some (.Name y py)) l env = pure true := by
  have k1 : env.kindOf y = some .local := hy
  have k2 : env.blockKind = .function := by unfold Env.blockKind; rw [hk]; rfl
  unfold swapsWith
  simp only [k2, k1, ha, Expr.pos, hl]
  rfl
theorem ps_setDc {i : Nat} {y : Str} {py : Pos} {kx vx tg iter : Expr} {ifs : List Expr} {scope : Scope} {own : List (Str × Nat)} {pos spos : Pos} {wi : TI} {g : TG} {tt : TT} {tk tv : TE}
    (hc : X.calm = true) (hN : X.N.Nodup) (hy : X.N[i]? = some y) (hyl : X.env.scope.names.lookup y = some .local)
    (hsw : swapsWith (.DictComp kx vx [⟨tg, iter, ifs, 0⟩] scope pos) (some (.Name y py)) spos.line X.env = pure true) (hi : PI X tg iter wi) (ok : BlkOk X.N X.env.scope scope own)
    (hg : ∀ s H C cl fp, PG (X.blk s H scope (compEnvC scope cl C X.env) fp) tg g)
    (ht : ∀ s H C cl fp, PTs (X.blk s H scope (compEnvC scope cl C X.env) fp) ifs tt)
    (hkx : ∀ s H C cl fp, PE (X.blk s H scope (compEnvC scope cl C X.env) fp) kx tk)
    (hvx : ∀ s H C cl fp, PE (X.blk s H scope (compEnvC scope cl C X.env) fp) vx tv) (hs : ∀ x, foldedSetIterable iter X.env x = pure x := by intro _; rfl) :
    PS X (.Assign [.Name y py] (.DictComp kx vx [⟨tg, iter, ifs, 0⟩] scope pos) spos) (tAsg (tDc wi g tt tk tv (own.map (·.2))) (gName i)) := by
  refine ⟨fun pins s σ H D I h => ?_⟩
  rw [exec_Assign_Name_used _ _ _ _ hsw]
  refine wpAny_bind (wpAny_standAt (wpAny_bind ?_))
  show wpAny _ X.A (do let _ ← comprehension (.DictComp kx vx [⟨tg, iter, ifs, 0⟩] scope pos) scope X.env (firstIterPos [⟨tg, iter, ifs, 0⟩] pos) newDict false (eval iter X.env) (some (assign (.Name y py) X.env))) _ _ s
  have h : tDc wi g tt tk tv (own.map (·.2)) σ H (fun x H1 => gName i x σ H1 D.nx) := h
  refine wpAny_bind (thn (dc_core (Qf := fun _ s' => SP X pins D .next s') hc hN I hi ok hg ht hkx hvx hs h fun L C s' m H' I' q hn f => ?_) fun _ s' hq => wpAny_pure (wpAny_pure hq))
  show wpAny _ _ (assign (.Name y py) X.env (.ref L)) _ _ _
  refine wpAny_assign_Name (store_ok2 (v := V.ref L) I' hN hy (.inl hyl) rfl (fun s2 I2 ⟨a, sb, ha⟩ => ?_) (.inr hyl))
  obtain ⟨f0, f1, f2, f3, f4, f5⟩ := f
  have apart : C ≠ a := by
    rcases ha with z | z
    · rw [z]; exact f1
    · exact fun e => f4 y a z e.symm
  refine ⟨m, hn.sameBut sb apart, fun h3 sb3 => ?_⟩
  exact ⟨_, H', I2.turned (t' := s2.toks) (fun b o hb e => (sb3.2 b hb).trans e) f0 f1 f3 f4 f5, q⟩
end
end
section
open PySem L2 PySem.Spec PyProof.Rows
section
variable {prog : Program} {w : World} {A : Around} {E : Value → Shared → Prop} {s : Shared}
set_option maxHeartbeats 1000000 in
theorem meets_enumB1 {v : Value} {o : Obj} {HH : Heap → Prop} (B : Begins v o HH) :
    Meets (Builtin.«enumerate.__new__» ⟨[.type "enumerate", v], []⟩) (fun _ R s => HH s.heap ∧
      R (.ok (.ret (.ref (s.heap.push o).objs.size))) { s with heap := (s.heap.push o).push ⟨.type "enumerate", none, .fields #[.none, .bool false, .ref s.heap.objs.size, rawInt 0, .none, .none], #[]⟩ }) :=
  .of_wp fun prog w A R s hh => by
    obtain ⟨hp, gl, dd, tks, ous⟩ := s; obtain ⟨h1, hh⟩ := hh
    have sube := sub_enumerate
    have go1 : ∀ {A1 : Around} {E1 : Value → Shared → Prop} {Q1 : Value → Shared → Prop}, Q1 (.ref hp.objs.size) ⟨hp.push o, gl, dd, tks, ous⟩ → wpAny (model prog w) A1 (pyIter v) Q1 E1 ⟨hp, gl, dd, tks, ous⟩ := fun q => B.iter prog w _ _ ⟨hp, gl, dd, tks, ous⟩ _ h1 q
    wp_walk using go1
    refine wpAny_stack_any fun stk => wpAny_pure ?_
    split
    · rename_i cc _ _ _ _ _
      by_cases ec : (cc == Value.type "enumerate") = true
      · rw [ec]; wp_walk using go1; exact ⟨_, rfl, hh⟩
      · have ec2 : (cc == Value.type "enumerate") = false := by simpa using ec
        rw [ec2]; wp_walk using go1; exact ⟨_, rfl, hh⟩
    · wp_walk using go1; exact ⟨_, rfl, hh⟩
theorem call_enumB1 {v : Value} {o : Obj} {HH : Heap → Prop} {Q : Value → Shared → Prop} (B : Begins v o HH) (h1 : HH s.heap)
    (k : ∀ h', IsEnum h' (s.heap.objs.size + 1) s.heap.objs.size 0 .none → h'.get? s.heap.objs.size = some o → h'.objs.size = s.heap.objs.size + 2 → (∀ b ob, s.heap.get? b = some ob → h'.get? b = some ob) → Q (.ref (s.heap.objs.size + 1)) { s with heap := h' }) :
    wpAny (model prog w) A (call (.type "enumerate") [v]) Q E s := by
  refine callType_new F.called_enumerate (by decide) (F.typeCall_enumerate_1 _) (F.newCall_enumerate_1 _) (fun ob => F.args_object_init_2 ob _) F.entry_enumerate_new (meets_enumB1 B) ⟨h1, ?_⟩
  have sz : (s.heap.push o).objs.size = s.heap.objs.size + 1 := Heap.size_push ..
  show _ ∧ _
  rw [sz]
  have e1 : IsEnum ((s.heap.push o).push ⟨.type "enumerate", none, .fields #[.none, .bool false, .ref s.heap.objs.size, rawInt 0, .none, .none], #[]⟩) (s.heap.objs.size + 1) s.heap.objs.size 0 .none := by
    have z := Heap.get?_push_size (s.heap.push o) (o := ⟨.type "enumerate", none, .fields #[.none, .bool false, .ref s.heap.objs.size, rawInt 0, .none, .none], #[]⟩) rfl
    rw [sz] at z; exact z
  exact ⟨⟨_, e1, rfl⟩, k _ e1 (Heap.get?_push_of_some _ (Heap.get?_push_size _ B.free)) (by rw [Heap.size_push, sz]) fun b ob x => Heap.get?_push_of_some _ (Heap.get?_push_of_some _ x)⟩
end
/-- the tuple at a, each item in a new pair -/
def Iet (K : PySem.W.Frag) (a : Addr) (n : Nat) : It where
  go := fun i H => ∃ (xs : List V) (x : V), SqT K H a xs ∧ xs.length = n ∧ xs[i]? = some x
  yld := fun i H v H' => ∃ T x, v = .ref T ∧ H T = none ∧ H' = upd H T (.tup [.int (i : Nat), x]) ∧ ∀ xs, SqT K H a xs → xs[i]? = some x
  stop := fun i H => ∃ xs : List V, SqT K H a xs ∧ xs.length = n ∧ n ≤ i
theorem turn_enumT {P : Program} {w : World} {K : PySem.W.Frag} {elts : List Expr} {kk : Nat} {tpos : Pos} (a e it : Addr) (n : Nat) :
    Turn P w K (.Tuple elts kk tpos) (Iet K a n) [e, it] e (fun i h => (∃ old, IsEnum h e it ((i : Nat) : Int) old) ∧ h.IsTupleIter it a i ∧ (e ≠ it ∧ a ≠ it ∧ e ≠ a ∧ i ≤ n)) where
  mem := List.mem_cons_self
  obj := fun i h st b hb => by
    obtain ⟨⟨ol, he⟩, ⟨ob, hob, _, dob⟩, _⟩ := st
    rcases (show b = e ∨ b = it by simpa using hb) with rfl | rfl
    · exact ⟨_, he, fun v q => nomatch q⟩
    · exact ⟨ob, hob, fun v q => by rw [dob] at q; cases q⟩
  keep := fun i h h' st k => ⟨st.1.elim fun ol he => ⟨ol, k e (by simp) _ he⟩, st.2.1.at fun ob q => k it (by simp) ob q, st.2.2⟩
  item := by
    intro X hP hw hK hc i pins s σ H E I hf st hg
    subst hP; subst hw; subst hK
    obtain ⟨⟨ol, he⟩, hit, hne, hai, hea, hin⟩ := st
    obtain ⟨xs, x, hq, hn, hx⟩ := hg
    obtain ⟨vs, rvs, tup, zs⟩ := I.tuple hq
    have tup2 : s.heap.IsTuple a vs.toArray := tup
    obtain ⟨u, hu, ru⟩ := rvs.get hx
    have el : e < s.heap.objs.size := Heap.lt_size he
    have il : it < s.heap.objs.size := by obtain ⟨_, q, _⟩ := hit; exact Heap.lt_size q
    have dr := Draws.tuple (prog := X.prog) (w := X.w) (A := X.A.in1) (I.ok.hd hc) it a hai vs.toArray
    have ilt : i < vs.toArray.size := by
      have := (List.getElem?_eq_some_iff.mp hu).1
      simpa using this
    refine wpAny_pyNext_enum_itemD dr he ⟨hit, tup2⟩ ilt hne (by simp [hne, hea]) fun x1 h1 tk hp ho st1 hT hsz hk => ?_
    have ex : x1 = u := by
      have z : vs.toArray[i]? = some x1 := hp
      rw [List.getElem?_toArray, hu] at z
      cases z; rfl
    subst ex
    refine ⟨_, rfl, wpAny_letOwnedTupleGo_enum (s := { s with heap := h1, toks := tk + 1 }) ho fun h2 he2 sb => ?_⟩
    have hT2 : h2.get? s.heap.objs.size = some { cls := .type "tuple", data := .seq #[.int i tk, x1] } := (sb.2 _ (Nat.ne_of_gt el)).trans hT
    have new : ObjOk X.prog X.w (upd H s.heap.objs.size (.tup [.int (i : Nat), x])) h2 s.heap.objs.size (.tup [.int (i : Nat), x]) :=
      ⟨show 2 ≤ sizeLine by decide, [.int i tk, x1], .cons ⟨_, rfl⟩ (.cons ru .nil), ⟨_, hT2, rfl, _, rfl⟩⟩
    have I1 : Inv X pins σ (upd H s.heap.objs.size (.tup [.int (i : Nat), x])) { s with heap := h2, toks := tk + 1 } := I.turnedNew (ch := [e, it]) (fun b ob hb q => (sb.2 b (fun z => hb (by simp [z]))).trans (hk b ob (fun z => hb (by simp [z])) (fun z => hb (by simp [z])) q)) hf (Nat.le_refl _) new
    have lx := (List.getElem?_eq_some_iff.mp hx).1
    refine ⟨.ref s.heap.objs.size, _, I1, rfl, ⟨_, x, rfl, I.hok.fresh (Nat.le_refl _), rfl, fun ys hy => by rw [I.tuple_inj hy hq]; exact hx⟩, ⟨⟨x1, ?_⟩, st1.1.at fun ob q => (sb.2 it (Ne.symm hne)).trans q, hne, hai, hea, ?_⟩, fun b hb => ?_⟩
    · rw [show ((i + 1 : Nat) : Int) = (i : Int) + 1 by omega]; exact he2
    · omega
    · have lb : b < s.heap.objs.size := by
        rcases (show b = e ∨ b = it by simpa using hb) with rfl | rfl
        · exact el
        · exact il
      rw [upd_ne (Nat.ne_of_lt lb)]
      exact (hf b hb).1
  done := by
    intro X hP hw hK hc i pins s σ H E I hf st hg
    subst hP; subst hw; subst hK
    obtain ⟨⟨ol, he⟩, hit, hne, hai, hea, hin⟩ := st
    obtain ⟨xs, hq, hn, hx⟩ := hg
    obtain ⟨vs, rvs, tup, zs⟩ := I.tuple hq
    have tup2 : s.heap.IsTuple a vs.toArray := tup
    obtain ⟨f0, f1, f2, f3, f4, f5⟩ := hf it (by simp)
    have ll := rvs.length
    have dr := Draws.tuple (prog := X.prog) (w := X.w) (A := X.A.in1) (I.ok.hd hc) it a hai vs.toArray
    have ei : i = vs.toArray.size := by rw [List.size_toArray]; omega
    rw [ei] at hit
    exact wpAny_pyNext_enum_endD dr he ⟨hit, tup2⟩ fun h1 eb => ⟨rfl, I.turned (t' := s.toks) (fun b ob hb q => eb b ob hb q) f0 f1 f3 f4 f5⟩
  self := fun A i s Q E st h => st.1.elim fun _ he => wpAny_pyIter_enum he h
/-- enumerate of a list or of a tuple -/
def iEnA (K : PySem.W.Frag) (ta : TA) : TI := fun σ H R => ta σ H fun vs H1 => ∃ a, vs = [.ref a] ∧ ((∃ xs, SqL K H1 a xs ∧ R (Ite K a) H1) ∨ ∃ xs, SqT K H1 a xs ∧ R (Iet K a xs.length) H1)
theorem pi_enA {X : Cx} {e : Expr} {ta : TA} {p pos tpos : Pos} {elts : List Expr} {kk : Nat} (hg : Gl X "enumerate") (hm : X.mg "enumerate" = none) (ha : PA X [e] ta) (hs : starEach [e] X.env = [(false, eval e X.env)] := by rfl) : PI X (.Tuple elts kk tpos) (.Call (.Name "enumerate" p) [e] [] pos) (iEnA X.K ta) := by
  refine ⟨fun pins s σ H R I h => Call_ (ld_blt I hg hm boot_enumerate (PyProof.Rows.callWith_type1 (thn (ha.run pos pins s σ H _ I h) fun us s1 ⟨vs, H1, I1, r1, q1⟩ => ?_) hs rfl))⟩
  obtain ⟨a, rfl, q1⟩ := q1
  have low : ∀ b, b ∈ [s1.heap.objs.size + 1, s1.heap.objs.size] → s1.heap.objs.size ≤ b := fun b hb => by
    rcases (show b = s1.heap.objs.size + 1 ∨ b = s1.heap.objs.size by simpa using hb) with rfl | rfl
    · exact Nat.le_add_right _ _
    · exact Nat.le_refl _
  cases r1 with
  | cons r rr =>
    cases rr; cases r
    rcases q1 with ⟨xs, hq, q⟩ | ⟨xs, hq, q⟩
    · obtain ⟨vs, rvs, lis, zs⟩ := I1.list hq
      refine call_enumB1 (begins_list a vs.toArray) lis.isList fun h' he ho hsz hk => wpAny_pyIter_enum he ?_
      have I2 : Inv X pins σ H1 { s1 with heap := h' } := I1.kept (t' := s1.toks) hk
      exact ⟨s1.heap.objs.size + 1, [s1.heap.objs.size + 1, s1.heap.objs.size], _, _, H1, rfl, I2, turn_enum a (s1.heap.objs.size + 1) s1.heap.objs.size, ⟨⟨.none, he⟩, ⟨_, ho, rfl, rfl⟩, Nat.succ_ne_self _⟩, fun b hb => I1.fpOk (low b hb) (I1.hok.fresh (low b hb)), q⟩
    · obtain ⟨vs, rvs, tup, zs⟩ := I1.tuple hq
      have tup2 : s1.heap.IsTuple a vs.toArray := tup
      refine call_enumB1 (begins_tuple a vs.toArray) tup2 fun h' he ho hsz hk => wpAny_pyIter_enum he ?_
      have I2 : Inv X pins σ H1 { s1 with heap := h' } := I1.kept (t' := s1.toks) hk
      have al : a < s1.heap.objs.size := by obtain ⟨_, e2, _⟩ := tup2; exact Heap.lt_size e2
      exact ⟨s1.heap.objs.size + 1, [s1.heap.objs.size + 1, s1.heap.objs.size], _, _, H1, rfl, I2, turn_enumT a (s1.heap.objs.size + 1) s1.heap.objs.size xs.length, ⟨⟨.none, he⟩, ⟨_, ho, rfl, rfl⟩, Nat.succ_ne_self _, Nat.ne_of_lt al, Ne.symm (Nat.ne_of_lt (Nat.lt_succ_of_lt al)), Nat.zero_le _⟩, fun b hb => I1.fpOk (low b hb) (I1.hok.fresh (low b hb)), q⟩
/-- what is walked is a list or a tuple -/
def iAny (K : PySem.W.Frag) (tl : TE) : TI := fun σ H R => tl σ H fun x H1 => ∃ a, x = .ref a ∧ (((∃ xs, SqL K H1 a xs) ∧ R (Itl K a) H1) ∨ ((∃ xs, SqT K H1 a xs) ∧ R (Itt K a) H1))
theorem pi_any {X : Cx} {tg l : Expr} {tl : TE} (hl : PE X l tl) : PI X tg l (iAny X.K tl) := by
  refine ⟨fun pins s σ H R I h => thn (hl.run pins s σ H _ I h) fun v s1 ⟨x, H1, I1, r1, q1⟩ => ?_⟩
  obtain ⟨a, rfl, q1⟩ := q1
  cases r1
  have low : ∀ b, b ∈ [s1.heap.objs.size] → s1.heap.objs.size ≤ b := fun b hb => by rw [show b = s1.heap.objs.size by simpa using hb]; exact Nat.le_refl _
  rcases q1 with ⟨⟨xs, hq⟩, q⟩ | ⟨⟨xs, hq⟩, q⟩
  · obtain ⟨vs, rvs, lis, zs⟩ := I1.list hq
    exact wpAny_pyIter_list lis.isList ⟨s1.heap.objs.size, [s1.heap.objs.size], _, _, H1, rfl, I1.kept (t' := s1.toks) fun b o e => Heap.get?_push_of_some _ e, turn_list a _, ⟨_, Heap.get?_push_size _ rfl, rfl, rfl⟩, fun b hb => I1.fpOk (low b hb) (I1.hok.fresh (low b hb)), q⟩
  · obtain ⟨vs, rvs, tup, zs⟩ := I1.tuple hq
    exact wpAny_pyIter_tuple (show s1.heap.IsTuple a vs.toArray from tup) ⟨s1.heap.objs.size, [s1.heap.objs.size], _, _, H1, rfl, I1.kept (t' := s1.toks) fun b o e => Heap.get?_push_of_some _ e, turn_tuple a _, ⟨_, Heap.get?_push_size _ rfl, rfl, rfl⟩, fun b hb => I1.fpOk (low b hb) (I1.hok.fresh (low b hb)), q⟩
end
section
open PySem L2
/-- a walk of n turns while ok holds; what comes in turn i is told by Y -/
structure Walk (J : It) (n : Nat) (ok : Hp → Prop) (Y : Nat → Hp → V → Hp → Prop) : Prop where
  go : ∀ i H, i < n → ok H → J.go i H
  yld : ∀ i H x H', i < n → ok H → J.yld i H x H' → Y i H x H'
  stop : ∀ i H, n ≤ i → ok H → J.stop i H
section
variable {K : PySem.W.Frag} {a b : Addr} {xs ys : List V}
theorem walk_l : Walk (Itl K a) xs.length (fun H => SqL K H a xs) (fun i H x H' => H' = H ∧ xs[i]? = some x) where
  go := fun i H hi h => ⟨xs, xs[i], h, List.getElem?_eq_getElem hi⟩
  yld := fun i H x H' _ h y => ⟨y.1, y.2 xs h⟩
  stop := fun i H hi h => ⟨xs, h, hi⟩
theorem walk_t : Walk (Itt K a) xs.length (fun H => SqT K H a xs) (fun i H x H' => H' = H ∧ xs[i]? = some x) where
  go := fun i H hi h => ⟨xs, xs[i], h, List.getElem?_eq_getElem hi⟩
  yld := fun i H x H' _ h y => ⟨y.1, y.2 xs h⟩
  stop := fun i H hi h => ⟨xs, h, hi⟩
def YE (xs : List V) (i : Nat) (H : Hp) (v : V) (H' : Hp) : Prop := ∃ T x, v = .ref T ∧ H T = none ∧ H' = upd H T (.tup [.int (i : Nat), x]) ∧ xs[i]? = some x
theorem walk_el : Walk (Ite K a) xs.length (fun H => SqL K H a xs) (YE xs) where
  go := fun i H hi h => ⟨xs, xs[i], h, List.getElem?_eq_getElem hi⟩
  yld := fun i H v H' _ h y => by
    obtain ⟨T, x, e, n, e2, z⟩ := y
    exact ⟨T, x, e, n, e2, z xs h⟩
  stop := fun i H hi h => ⟨xs, h, hi⟩
theorem walk_et : Walk (Iet K a xs.length) xs.length (fun H => SqT K H a xs) (YE xs) where
  go := fun i H hi h => ⟨xs, xs[i], h, rfl, List.getElem?_eq_getElem hi⟩
  yld := fun i H v H' _ h y => by
    obtain ⟨T, x, e, n, e2, z⟩ := y
    exact ⟨T, x, e, n, e2, z xs h⟩
  stop := fun i H hi h => ⟨xs, h, rfl, hi⟩
theorem walk_z : Walk (Itz K a b) (min xs.length ys.length) (fun H => SqL K H a xs ∧ SqL K H b ys) (fun i H v H' => ∃ T x y, v = .ref T ∧ H T = none ∧ H' = upd H T (.tup [x, y]) ∧ xs[i]? = some x ∧ ys[i]? = some y) where
  go := fun i H hi h => ⟨xs, ys, xs[i]'(by omega), ys[i]'(by omega), h.1, h.2, List.getElem?_eq_getElem (by omega), List.getElem?_eq_getElem (by omega)⟩
  yld := fun i H v H' _ h y => by
    obtain ⟨T, x, y1, e, n, e2, z1, z2⟩ := y
    exact ⟨T, x, y1, e, n, e2, z1 xs h.1, z2 ys h.2⟩
  stop := fun i H hi h => ⟨xs, ys, h.1, h.2, by omega⟩
theorem walk_r {lo : Int} {n : Nat} : Walk (Itr lo n) n (fun _ => True) (fun i H x H' => H' = H ∧ x = .int (lo + i)) where
  go := fun i H hi _ => hi
  yld := fun i H x H' _ _ y => y
  stop := fun i H hi _ => hi
end
section
variable {J : It} {n : Nat} {ok : Hp → Prop} {Y : Nat → Hp → V → Hp → Prop} {σ : L2.St} {H : Hp} {D : Ends} {Q : VK} {g : TG} {tb : TS} {tt : TT} {te tk tv : TE} {vs : List Nat} {wi : TI}
def loopJ (J : It) (g : TG) (tb : TS) (D : Ends) (σ : L2.St) (H : Hp) : Prop := ∃ W : Nat → Nat → L2.St → Hp → Prop, (∃ m, W 0 m σ H) ∧ ∀ i m σ H, W i m σ H →
  (J.stop i H ∧ D.nx σ H) ∨ (J.go i H ∧ ∃ N : L2.St → Hp → Prop, (∀ σ' H', N σ' H' → ∃ m', m' < m ∧ W (i + 1) m' σ' H') ∧ ∀ x H', J.yld i H x H' → g x σ H' fun σ2 H2 => tb { D with nx := N, ct := N, bk := D.nx } σ2 H2)
theorem e_tForJ : tFor wi g tb D σ H = wi σ H fun J H1 => loopJ J g tb D σ H1 := rfl
theorem loop_by (Wk : Walk J n ok Y) (Pv : Nat → L2.St → Hp → Prop) (h0 : Pv 0 σ H) (ho : ∀ i σ H, i ≤ n → Pv i σ H → ok H)
    (hs : ∀ i σ H x H', i < n → Pv i σ H → Y i H x H' → g x σ H' fun σ2 H2 => tb { D with nx := Pv (i + 1), ct := Pv (i + 1), bk := D.nx } σ2 H2) (hd : ∀ σ H, Pv n σ H → D.nx σ H) : loopJ J g tb D σ H := by
  refine ⟨fun i m σ H => m + i = n ∧ Pv i σ H, ⟨n, rfl, h0⟩, fun i m σ H h => ?_⟩
  obtain ⟨hm, p⟩ := h
  have o := ho i σ H (by omega) p
  rcases Nat.lt_or_ge i n with lt | ge
  · exact .inr ⟨Wk.go i H lt o, Pv (i + 1), fun σ' H' p' => ⟨m - 1, by omega, by omega, p'⟩, fun x H' y => hs i σ H x H' lt p (Wk.yld i H x H' lt o y)⟩
  · have e : i = n := by omega
    subst e
    exact .inl ⟨Wk.stop _ H (Nat.le_refl _) o, hd σ H p⟩
/-- the comprehension's list at its end -/
def lcJ (J : It) (g : TG) (tt : TT) (te : TE) (vs : List Nat) (σ : L2.St) (H1 : Hp) (Q : VK) : Prop := ∀ D, H1 D = none → ∃ W : Nat → Nat → Hp → Prop, (∃ m, W 0 m (upd H1 D (.lst []))) ∧ ∀ i m H, W i m H →
  (J.stop i H ∧ Q (.ref D) H) ∨ (J.go i H ∧ ∃ Nx : Hp → Prop, (∀ H', Nx H' → ∃ m', m' < m ∧ W (i + 1) m' H') ∧ ∀ x H', J.yld i H x H' → g x (wipe σ vs) H' fun σ2 H2 => wipe σ2 vs = wipe σ vs ∧ tt σ2 H2 fun b H3 =>
    if b = true then te σ2 H3 fun y H4 => ∃ acc, H4 D = some (.lst acc) ∧ acc.length < sizeLine ∧ Nx (upd H4 D (.lst (acc ++ [y]))) else Nx H3)
theorem e_tLcJ : tLc wi g tt te vs σ H Q = wi σ H fun J H1 => lcJ J g tt te vs σ H1 Q := rfl
theorem lc_by (Wk : Walk J n ok Y) (Pv : Addr → Nat → Hp → Prop) (h0 : ∀ p, H p = none → Pv p 0 (upd H p (.lst []))) (ho : ∀ p i H1, H p = none → i ≤ n → Pv p i H1 → ok H1)
    (hs : ∀ p i H1 x H2, H p = none → i < n → Pv p i H1 → Y i H1 x H2 → g x (wipe σ vs) H2 fun σ2 H2 => wipe σ2 vs = wipe σ vs ∧ tt σ2 H2 fun b H3 =>
      if b = true then te σ2 H3 fun y H4 => ∃ acc, H4 p = some (.lst acc) ∧ acc.length < sizeLine ∧ Pv p (i + 1) (upd H4 p (.lst (acc ++ [y]))) else Pv p (i + 1) H3) (hd : ∀ p H1, H p = none → Pv p n H1 → Q (.ref p) H1) : lcJ J g tt te vs σ H Q := by
  refine fun p np => ⟨fun i m H => m + i = n ∧ Pv p i H, ⟨n, rfl, h0 p np⟩, fun i m H1 h => ?_⟩
  obtain ⟨hm, q⟩ := h
  have o := ho p i H1 np (by omega) q
  rcases Nat.lt_or_ge i n with lt | ge
  · exact .inr ⟨Wk.go i H1 lt o, Pv p (i + 1), fun H' p' => ⟨m - 1, by omega, by omega, p'⟩, fun x H' y => hs p i H1 x H' np lt q (Wk.yld i H1 x H' lt o y)⟩
  · have e : i = n := by omega
    subst e
    exact .inl ⟨Wk.stop _ H1 (Nat.le_refl _) o, hd p H1 np q⟩
/-- the comprehension's dict at its end -/
def dcJ (J : It) (g : TG) (tt : TT) (tk tv : TE) (vs : List Nat) (σ : L2.St) (H1 : Hp) (Q : VK) : Prop := ∀ D, H1 D = none → ∃ W : Nat → Nat → Hp → Prop, (∃ m, W 0 m (upd H1 D (.dK []))) ∧ ∀ i m H, W i m H →
  (J.stop i H ∧ Q (.ref D) H) ∨ (J.go i H ∧ ∃ Nx : Hp → Prop, (∀ H', Nx H' → ∃ m', m' < m ∧ W (i + 1) m' H') ∧ ∀ x H', J.yld i H x H' → g x (wipe σ vs) H' fun σ2 H2 => wipe σ2 vs = wipe σ vs ∧ tt σ2 H2 fun b H3 =>
    if b = true then tk σ2 H3 fun y H4 => tv σ2 H4 fun z H5 => ∃ kvs k, y = kV k ∧ H5 D = some (.dK kvs) ∧ kvs.length < sizeLine ∧ Nx (upd H5 D (.dK (putK kvs k z))) else Nx H3)
theorem e_tDcJ : tDc wi g tt tk tv vs σ H Q = wi σ H fun J H1 => dcJ J g tt tk tv vs σ H1 Q := rfl
theorem dc_by (Wk : Walk J n ok Y) (Pv : Addr → Nat → Hp → Prop) (h0 : ∀ p, H p = none → Pv p 0 (upd H p (.dK []))) (ho : ∀ p i H1, H p = none → i ≤ n → Pv p i H1 → ok H1)
    (hs : ∀ p i H1 x H2, H p = none → i < n → Pv p i H1 → Y i H1 x H2 → g x (wipe σ vs) H2 fun σ2 H2 => wipe σ2 vs = wipe σ vs ∧ tt σ2 H2 fun b H3 =>
      if b = true then tk σ2 H3 fun y H4 => tv σ2 H4 fun z H5 => ∃ kvs k, y = kV k ∧ H5 p = some (.dK kvs) ∧ kvs.length < sizeLine ∧ Pv p (i + 1) (upd H5 p (.dK (putK kvs k z))) else Pv p (i + 1) H3) (hd : ∀ p H1, H p = none → Pv p n H1 → Q (.ref p) H1) : dcJ J g tt tk tv vs σ H Q := by
  refine fun p np => ⟨fun i m H => m + i = n ∧ Pv p i H, ⟨n, rfl, h0 p np⟩, fun i m H1 h => ?_⟩
  obtain ⟨hm, q⟩ := h
  have o := ho p i H1 np (by omega) q
  rcases Nat.lt_or_ge i n with lt | ge
  · exact .inr ⟨Wk.go i H1 lt o, Pv p (i + 1), fun H' p' => ⟨m - 1, by omega, by omega, p'⟩, fun x H' y => hs p i H1 x H' np lt q (Wk.yld i H1 x H' lt o y)⟩
  · have e : i = n := by omega
    subst e
    exact .inl ⟨Wk.stop _ H1 (Nat.le_refl _) o, hd p H1 np q⟩
end
/-- a list or a tuple -/
def SqA (K : PySem.W.Frag) (t : Bool) (H : Hp) (a : Addr) (xs : List V) : Prop := if t then SqT K H a xs else SqL K H a xs
section
variable {K : PySem.W.Frag} {a : Addr} {xs : List V} {σ : L2.St} {H : Hp} {Q : VK} {tl : TE} {ta : TA} {R : It → Hp → Prop}
def itA (K : PySem.W.Frag) (t : Bool) (a : Addr) : It := if t then Itt K a else Itl K a
def itEA (K : PySem.W.Frag) (t : Bool) (a : Addr) (n : Nat) : It := if t then Iet K a n else Ite K a
theorem walk_a {t : Bool} : Walk (itA K t a) xs.length (fun H => SqA K t H a xs) (fun i H x H' => H' = H ∧ xs[i]? = some x) := by cases t; exact walk_l; exact walk_t
theorem walk_ea {t : Bool} : Walk (itEA K t a xs.length) xs.length (fun H => SqA K t H a xs) (YE xs) := by cases t; exact walk_el; exact walk_et
def asA (K : PySem.W.Frag) (f : It → Hp → Prop) : VK := fun x H => ∃ a t, x = .ref a ∧ (∃ xs, SqA K t H a xs) ∧ f (itA K t a) H
def asEA (K : PySem.W.Frag) (f : It → Hp → Prop) : List V → Hp → Prop := fun vs H => ∃ a t xs, vs = [.ref a] ∧ SqA K t H a xs ∧ f (itEA K t a xs.length) H
theorem o_iAny : (tl σ H (asA K R)) = iAny K tl σ H R := by
  unfold iAny
  congr 1
  funext x H1
  refine propext ⟨?_, ?_⟩
  · rintro ⟨a, t, rfl, h, q⟩
    cases t
    · exact ⟨a, rfl, .inl ⟨h, q⟩⟩
    · exact ⟨a, rfl, .inr ⟨h, q⟩⟩
  · rintro ⟨a, rfl, ⟨h, q⟩ | ⟨h, q⟩⟩
    · exact ⟨a, false, rfl, h, q⟩
    · exact ⟨a, true, rfl, h, q⟩
theorem o_iEnA : (ta σ H (asEA K R)) = iEnA K ta σ H R := by
  unfold iEnA
  congr 1
  funext x H1
  refine propext ⟨?_, ?_⟩
  · rintro ⟨a, t, xs, rfl, h, q⟩
    cases t
    · exact ⟨a, rfl, .inl ⟨xs, h, q⟩⟩
    · exact ⟨a, rfl, .inr ⟨xs, h, q⟩⟩
  · rintro ⟨a, rfl, ⟨xs, h, q⟩ | ⟨xs, h, q⟩⟩
    · exact ⟨a, false, xs, rfl, h, q⟩
    · exact ⟨a, true, xs, rfl, h, q⟩
theorem e_iAny : iAny K tl σ H R = tl σ H (asA K R) := o_iAny.symm
theorem e_iEnA : iEnA K ta σ H R = ta σ H (asEA K R) := o_iEnA.symm
theorem SqA.len {t : Bool} (h : SqA K t H a xs) : xs.length ≤ xs.length := Nat.le_refl _
end
def rLenA (K : PySem.W.Frag) : List V → Hp → VK → Prop := fun xs H Q => ∃ p t ys, xs = [.ref p] ∧ SqA K t H p ys ∧ Q (.int ys.length) H
theorem call_lenA {X : Cx} {K : PySem.W.Frag} (e : X.K = K) : CallR X (.builtin "len") (rLenA K) := fun pins s σ H xs us Q I rs h => by
  subst e
  refine call_len_seq pins s σ H xs us Q I rs ?_
  obtain ⟨p, t, ys, e, h, q⟩ := h
  cases t
  · exact ⟨p, ys, e, .inl h, q⟩
  · exact ⟨p, ys, e, .inr h, q⟩
theorem e_rLenA {K : PySem.W.Frag} {a : Addr} {H : Hp} {Q : VK} : rLenA K [.ref a] H Q = ∃ t ys, SqA K t H a ys ∧ Q (.int ys.length) H := by simp [rLenA]
theorem e_asA {K : PySem.W.Frag} {a : Addr} {H : Hp} {f : It → Hp → Prop} : asA K f (.ref a) H = ∃ t, (∃ xs, SqA K t H a xs) ∧ f (itA K t a) H := by simp [asA]
theorem e_asEA {K : PySem.W.Frag} {a : Addr} {H : Hp} {f : It → Hp → Prop} : asEA K f [.ref a] H = ∃ t xs, SqA K t H a xs ∧ f (itEA K t a xs.length) H := by simp [asEA]
section
variable {K : PySem.W.Frag} {a b : Addr} {n m : Int} {σ : L2.St} {H : Hp} {tl : TE} {ta : TA} {R : It → Hp → Prop}
def asRg (R : It → Hp → Prop) : List V → Hp → Prop := fun vs H => ∃ j : Int, vs = [.int j] ∧ -(2 ^ 62) ≤ j ∧ j < 2 ^ 62 ∧ R (Itr 0 j.toNat) H
def asRg2 (R : It → Hp → Prop) : List V → Hp → Prop := fun vs H => ∃ i j : Int, vs = [.int i, .int j] ∧ (-(2 ^ 62) ≤ i ∧ i < 2 ^ 62 ∧ -(2 ^ 62) ≤ j ∧ j < 2 ^ 62) ∧ R (Itr i (j - i).toNat) H
def asLs (K : PySem.W.Frag) (R : It → Hp → Prop) : VK := fun x H => ∃ a, x = .ref a ∧ (∃ xs, SqL K H a xs) ∧ R (Itl K a) H
def asTp (K : PySem.W.Frag) (R : It → Hp → Prop) : VK := fun x H => ∃ a, x = .ref a ∧ (∃ xs, SqT K H a xs) ∧ R (Itt K a) H
theorem e_iRng1 : iRng1 ta σ H R = ta σ H (asRg R) := rfl
theorem e_iRng2 : iRng2 ta σ H R = ta σ H (asRg2 R) := rfl
theorem e_iList : iList K tl σ H R = tl σ H (asLs K R) := rfl
theorem e_iTup : iTup K tl σ H R = tl σ H (asTp K R) := rfl
theorem e_asRg : asRg R [.int n] H = (-(2 ^ 62) ≤ n ∧ n < 2 ^ 62 ∧ R (Itr 0 n.toNat) H) := by simp [asRg]
theorem e_asRg2 : asRg2 R [.int n, .int m] H = ((-(2 ^ 62) ≤ n ∧ n < 2 ^ 62 ∧ -(2 ^ 62) ≤ m ∧ m < 2 ^ 62) ∧ R (Itr n (m - n).toNat) H) := by
  unfold asRg2
  refine propext ⟨?_, fun h => ⟨n, m, rfl, h⟩⟩
  rintro ⟨i, j, e, h⟩
  cases e
  exact h
theorem e_asLs : asLs K R (.ref a) H = ((∃ xs, SqL K H a xs) ∧ R (Itl K a) H) := by simp [asLs]
theorem e_asTp : asTp K R (.ref a) H = ((∃ xs, SqT K H a xs) ∧ R (Itt K a) H) := by simp [asTp]
end
/-! ### comprehensions that only read -/
theorem wipe_set {σ : L2.St} {s : Nat} {x : Option V} : wipe ((wipe σ [s]).set s x) [s] = wipe σ [s] := by
  simp [wipe]
section
variable {J : It} {xs : List V} {ok : Hp → Prop} {s : Nat} {tt : TT} {te : TE} {σ : L2.St} {H : Hp} {Q : VK}
theorem lcP (Wk : Walk J xs.length ok (fun i H x H' => H' = H ∧ xs[i]? = some x)) (hok : ∀ G, Keep [] H G → ok G) (b : V → Bool) (v : V → V)
    (ht : ∀ x ∈ xs, ∀ G (Q' : Bool → Hp → Prop), Keep [] H G → Q' (b x) G → tt ((wipe σ [s]).set s (some x)) G Q') (he : ∀ x ∈ xs, b x = true → ∀ G Q', Keep [] H G → Q' (v x) G → te ((wipe σ [s]).set s (some x)) G Q')
    (hlen : xs.length < sizeLine) (k : ∀ D, H D = none → Q (.ref D) (upd H D (.lst ((xs.filter b).map v)))) : lcJ J (gName s) tt te [s] σ H Q := by
  refine lc_by Wk (fun D i G => G = upd H D (.lst (((xs.take i).filter b).map v))) (fun D nD => rfl) (fun D i G nD _ e => hok G (by rw [e]; exact Keep.refl.new nD)) ?_ fun D G nD e => ?_
  · rintro D i G x G2 nD hi rfl ⟨rfl, hx⟩
    have mem := List.mem_of_getElem? hx
    have kG : Keep [] H (upd H D (.lst (((xs.take i).filter b).map v))) := Keep.refl.new nD
    refine ⟨wipe_set, ht x mem _ _ kG ?_⟩
    have et : xs.take (i + 1) = xs.take i ++ [x] := by rw [List.take_add_one, hx]; rfl
    cases hb : b x with
    | false =>
      show (if false = true then _ else _)
      rw [if_neg (by decide), et, List.filter_append]
      simp [hb]
    | true =>
      show (if true = true then _ else _)
      rw [if_pos rfl]
      refine he x mem hb _ _ kG ⟨_, upd_same, ?_, ?_⟩
      · rw [List.length_map]
        have := List.length_filter_le b (xs.take i)
        have := List.length_take_le i xs
        rw [List.length_take] at *
        omega
      · rw [et, List.filter_append]
        funext a
        rw [upd_if, upd_if, upd_if]
        by_cases e : a = D
        · rw [if_pos e, if_pos e]
          simp [hb]
        · rw [if_neg e, if_neg e, if_neg e]
  · rw [e, List.take_length]
    exact k D nD
theorem walk_rng {lo : Int} {n : Nat} : Walk (Itr lo n) ((List.range n).map fun i => V.int (lo + (i : Nat))).length (fun _ => True) (fun i H x H' => H' = H ∧ ((List.range n).map fun i => V.int (lo + (i : Nat)))[i]? = some x) where
  go := fun i H hi _ => show i < n by simpa using hi
  yld := fun i H x H' hi _ y => ⟨y.1, by
    have : i < n := by simpa using hi
    rw [y.2]
    simp [this]⟩
  stop := fun i H hi _ => show n ≤ i by simpa using hi
end
end
section
open PySem L2 LamX

open TL
def RowsN (H : Hp) (rs : List Addr) (ws : List (Str × Nat)) : Prop := PySem.Paired (fun r w => H r = some (.tup [.str w.1, .int (w.2 : Int)])) rs ws
theorem RowsN.keep {S : List Addr} {H G : Hp} {rs : List Addr} {ws : List (Str × Nat)} (h : RowsN H rs ws) (k : Keep S H G) (n : ∀ b ∈ S, noTup H b) : RowsN G rs ws := by
  unfold RowsN at h ⊢
  induction h with
  | nil => exact .nil
  | cons a _ ih => exact .cons (k _ _ a fun m => n _ m _ a) ih
theorem SqA.keep {K : PySem.W.Frag} {t : Bool} {H G : Hp} {a : Addr} {xs : List V} (h : SqA K t H a xs) (k : Keep [] H G) : SqA K t G a xs := by
  have e : ∀ b o, H b = some o → G b = some o := fun b o e => k b o e (by simp)
  cases t
  · exact Or.elim (show SqL K H a xs from h) (fun z => .inl (z.elim (fun z => .inl (e _ _ z)) fun ⟨o, z⟩ => .inr ⟨o, e _ _ z⟩)) fun z => .inr z
  · exact Or.elim (show SqT K H a xs from h) (fun z => .inl (z.elim (fun z => .inl (e _ _ z)) fun ⟨o, z⟩ => .inr ⟨o, e _ _ z⟩)) fun z => .inr z
open Classical in
noncomputable def nmAdd (nm : List Nat) (n : Nat) : List Nat := if n ∈ nm then nm else nm ++ [n]
open Classical in
/-- the places in the code that jumps go to -/
noncomputable def nmOf (N : Nat) (nm : List Nat) : List (Str × Nat) → List Nat
  | [] => nm
  | (w, n) :: r => nmOf N (if w ∈ wJump ∧ n < N then nmAdd nm n else nm) r
open Classical in
noncomputable def aheadL (nm : List Nat) (k : Nat) : List Nat := if k ∈ nm then tl "p" ++ (numL k ++ tl ": ") else []
noncomputable def listGo (nm : List Nat) : Nat → List (Str × Nat) → List Nat
  | _, [] => []
  | k, (w, n) :: r => (aheadL nm k ++ lineL w n nm ++ tl "\n") ++ listGo nm (k + 1) r
noncomputable def listL (rows : List (Str × Nat)) : List Nat := listGo (nmOf rows.length [] rows) 0 rows
theorem putK_nm {nm : List Nat} {n : Nat} : putK (nmK nm) (.inl (n : Int)) (.bl true) = nmK (nmAdd nm n) := by
  have e := valV_nm (n := n) (nm := nm)
  by_cases h : n ∈ nm
  · have a : (nmK nm).any (fun kv => decide (kv.1 = Sum.inl (n : Int))) = true := by
      rw [List.any_eq_true]
      exact ⟨(.inl (n : Int), .bl true), List.mem_map.mpr ⟨n, h, rfl⟩, by simp⟩
    have e2 : nmAdd nm n = nm := if_pos h
    unfold putK
    rw [if_pos a, e2]
    refine (List.map_congr_left fun kv hk => ?_).trans (List.map_id _)
    obtain ⟨k, _, rfl⟩ := List.mem_map.mp hk
    split
    · rename_i hh
      have hh2 : (Sum.inl (k : Int) : Key) = Sum.inl (n : Int) := by simpa using hh
      simp only [Sum.inl.injEq] at hh2
      have hh3 : k = n := by omega
      subst hh3
      rfl
    · rfl
  · have a : (nmK nm).any (fun kv => decide (kv.1 = Sum.inl (n : Int))) = false := by
      rw [List.any_eq_false]
      intro kv hk
      obtain ⟨k, hk2, rfl⟩ := List.mem_map.mp hk
      simp only [decide_eq_true_eq, Sum.inl.injEq]
      intro hh
      have hh3 : k = n := by omega
      exact h (hh3 ▸ hk2)
    have e2 : nmAdd nm n = nm ++ [n] := if_neg h
    unfold putK
    rw [if_neg (by rw [a]; decide), e2]
    simp [nmK]
theorem sum_le {N : Nat} : ∀ {zs : List Str}, (∀ z ∈ zs, z.length ≤ N) → (zs.map fun x => x.length).sum ≤ N * zs.length
  | [], _ => Nat.zero_le _
  | z :: r, h => by
    have a := h z List.mem_cons_self
    have b := sum_le fun y hy => h y (List.mem_cons_of_mem z hy)
    rw [List.map_cons, List.sum_cons, List.length_cons, Nat.mul_succ]
    omega
theorem joinL_nil : ∀ ps : List (List Nat), joinL [] ps = ps.flatten
  | [] => rfl
  | [p] => by simp [joinL]
  | p :: q :: r => by
    have h := joinL_nil (q :: r)
    simp [joinL] at h ⊢
    rw [h]
def spList (K : PySem.W.Frag) : Sp := fun vs H Q E => ∃ (pc : Addr) (t : Bool) (rs : List Addr) (rows : List (Str × Nat)), vs = [.ref pc] ∧ SqA K t H pc (rs.map V.ref) ∧ RowsN H rs rows ∧ rows.length ≤ 300 ∧ (∀ q ∈ rows, q.1.length ≤ 20 ∧ q.2 < 2 ^ 60) ∧ ∀ (z : Str) H', Keep [] H H' → tl z = listL rows → Q (.str z) H'
section
variable {P : Program} {w : World} {K : PySem.W.Frag} {mg : Str → Option Value} {base : Heap}
abbrev s_listing : Stmt := (top 19)
theorem sc_listing : FnScope ["code", "named", "row", "found", "place", "ahead"] ["code"] (defScope s_listing) := ⟨rfl, rfl, rfl, by decide +kernel, rfl, by decide +kernel, by decide +kernel⟩
theorem ok_listing {f : Addr} {fd : FuncData} (F : Fun K "listing" "listing" s_listing f fd) (T : TK K mg) {fN : Addr} {fdN : FuncData} (FN : Fun K "line_of" "line_of" s_line_of fN fdN) (mN : mg "line_of" = some (.ref fN)) (bN : L2.Binds K fdN ["row", "named"] []) : FnOk P w K mg base CX0 3 f fd ["code"] (spList K) := by
  refine F.ok sc_listing (fun vs H Q E h => ?_) (fun cdv A outer s H vs Q E hr h => ?_)
  · obtain ⟨pc, t, rs, rows, rfl, _⟩ := h
    rfl
  · obtain ⟨pc, t, rs, rows, rfl, hpc, R, hm, hb, k⟩ := h
    have hu := hu_of hr
    refine ⟨_, (pss_cons (ps_setDc (i := 1) (own := [("row", 2)]) (g := gName 2) rfl sc_listing.nd rfl rfl (sw_dict rfl rfl rfl (by decide +kernel)) (pi_any (pv 0)) (blkOk_by (own := [("row", 2)]) (N := ["code", "named", "row", "found", "place", "ahead"]) (sc := defScope s_listing) (by decide +kernel)) (fun _ _ _ _ _ => (pg_name (i := 2) sc_listing.nd rfl (Or.inl rfl))) (fun _ _ _ _ _ => (pts_one (PW.pt (pw_and (pt_cmpR (op_inC T.w_JUMPS) (pe_ix ix_t (pv 2) pe_int (fun _ _ => rfl)) (pe_glob (v := .ref T.a_JUMPS) (by rfl) T.g_JUMPS rfl) (by rfl)) (pw_and1 (pt_cmpR op_lt (pe_ix ix_t (pv 2) pe_int (fun _ _ => rfl)) (pe_callB (call_lenA (K := K) rfl) (by rfl) T.z_len (by decide +kernel) (pa_cons (pv 0) pa_nil)) (nomark _))))))) (fun _ _ _ _ _ => (pe_ix ix_t (pv 2) pe_int (fun _ _ => rfl))) (fun _ _ _ _ _ => pe_bl))
        (pss_cons (ps_set (i := 3) sc_listing.nd rfl (Or.inl rfl) (pe_lst pa_nil))
        (pss_cons (ps_for PassesOwn.never rfl (pi_enA (by rfl) T.z_enumerate (pa_cons (pv 0) pa_nil)) (pg_tupH (n := 2) rfl (pgs_cons (pg_name (i := 4) sc_listing.nd rfl (Or.inl rfl)) (pgs_cons (pg_name (i := 2) sc_listing.nd rfl (Or.inl rfl)) pgs_nil))) (pss_cons (ps_set (i := 5) sc_listing.nd rfl (Or.inl rfl) (pe_ifExp (pt_cmp (pc_din hu (pv 4) (pv 1))) (pe_joined (.cons pe_str (.cons (pe_fmt (pv 4)) (.cons pe_str .nil)))) pe_str))
        (pss_one (ps_expr (pe_bm PySem.F.plainAttrs_list PySem.F.slot_list_append PySem.F.type_list_append mt_append (pv 3) (pa_cons (pe_op op_add_str (pe_op op_add_str (pv 5) (pe_call (ok_line_of FN T) (hr.mono (by decide)) (by rfl) mN FN.kp bN .nil pass0 (pa_cons (pv 2) (pa_cons (pv 1) pa_nil)))) pe_str) pa_nil))))))
        (pss_one (ps_ret (pe_join pe_str (pv 3))))))), ?_⟩
    have kp0 : ∀ {G : Hp} {q : Addr}, Keep [] H G → G q = none → H q = none := fun k n => k.free n (by simp)
    have lenR := paired_len R
    have small : 400 < sizeLine := by decide
    simp_arith [cx_K, ↓e_tJs0, ↓e_tJs, ↓e_tFmt, ↓fmt_s, ↓fmt_i, ↓e_asS, ↓e_tM1, ↓e_tM0, ex_s, ↓ex_s2, ↓ex_s1, ↓ex_l1, ↓ex_ss, ↓ex_c, ↓e_news, ↓e_tForL, ↓e_asL, ↓e_tLcL, ↓tRaiseF_, ↓e_rInT, allP_0, allP_c, put_0, put_c, look_0, look_c, exists_eq_left', exists_eq', ↓e_tDIn, ↓e_iStr, ↓ex_v, cast1, cast2, flat_strs, inV_strs, cI_flat, cI_in, ex_isi, ↓e_tDcJ, ↓e_iAny, ↓e_asA, ↓e_tForJ, ↓e_iEnA, ↓e_asEA]
    refine ⟨t, ⟨_, hpc⟩, dc_by (walk_a (xs := rs.map V.ref)) (fun D i G => ∃ nm : List Nat, G D = some (.dK (nmK nm)) ∧ Keep [] H G ∧ nmOf rows.length [] rows = nmOf rows.length nm (rows.drop i) ∧ nm.length ≤ i) ?_ ?_ ?_ ?_⟩
    · exact fun D nD => ⟨[], upd_same, Keep.refl.new nD, rfl, Nat.le_refl _⟩
    · rintro D i G nD _ ⟨nm, _, kG, _⟩
      exact hpc.keep kG
    · rintro D i G v G2 nD hi ⟨nm, hD, kG, eG, ln⟩ ⟨rfl, hv⟩
      rw [List.getElem?_map] at hv
      cases er : rs[i]? with
      | none => rw [er] at hv; cases hv
      | some r =>
        rw [er] at hv
        cases hv
        obtain ⟨⟨wd, n⟩, ew, hr1⟩ := paired_get R er
        have hr2 := kG _ _ hr1 (by simp)
        obtain ⟨hi1, hi2⟩ := List.getElem?_eq_some_iff.mp ew
        have edr : rows.drop i = (wd, n) :: rows.drop (i + 1) := by rw [List.drop_eq_getElem_cons hi1, hi2]
        rw [edr] at eG
        simp only [] at hr2
        simp_arith [cx_K, ↓e_tJs0, ↓e_tJs, ↓e_tFmt, ↓fmt_s, ↓fmt_i, ↓e_asS, ↓e_tM1, ↓e_tM0, ex_s, ↓ex_s2, ↓ex_s1, ↓ex_l1, ↓ex_ss, ↓ex_c, ↓e_news, ↓e_tForL, ↓e_asL, ↓e_tLcL, ↓tRaiseF_, ↓e_rInT, allP_0, allP_c, put_0, put_c, look_0, look_c, exists_eq_left', exists_eq', ↓e_tDIn, ↓e_iStr, ↓ex_v, cast1, cast2, flat_strs, inV_strs, cI_flat, cI_in, ex_isi, wipe, hr2, ↓e_rLenA]
        have next : ∀ nm2 : List Nat, (if wd ∈ wJump ∧ n < rows.length then nmAdd nm n else nm) = nm2 → nmOf rows.length [] rows = nmOf rows.length nm2 (rows.drop (i + 1)) := fun nm2 e => by
          rw [eG, ← e]
          first | rfl | (unfold nmOf; rfl)
        have noth : ¬ (wd ∈ wJump ∧ n < rows.length) → ∃ nm, G2 D = some (HO.dK (nmK nm)) ∧ Keep [] H G2 ∧ nmOf rows.length [] rows = nmOf rows.length nm (List.drop (i + 1) rows) ∧ nm.length ≤ i + 1 := fun h => ⟨nm, hD, kG, next nm (if_neg h), by omega⟩
        by_cases mJ : wd ∈ wJump
        · rw [if_pos mJ]
          refine ⟨t, _, hpc.keep kG, ?_⟩
          rw [List.length_map, lenR]
          by_cases hn : n < rows.length
          · rw [if_pos (by omega)]
            refine ⟨nmK nm, .inl (n : Int), rfl, hD, by simp [nmK]; omega, nmAdd nm n, by rw [putK_nm], kG.over nD, next _ (if_pos ⟨mJ, hn⟩), ?_⟩
            unfold nmAdd
            split
            · omega
            · simp; omega
          · rw [if_neg (by omega)]
            exact noth fun h => hn h.2
        · rw [if_neg mJ]
          exact noth fun h => mJ h.1
    · rintro D G nD ⟨nm, hD, kG, eG, ln⟩
      have eN : nmOf rows.length [] rows = nm := by
        rw [List.length_map, lenR, List.drop_length] at eG
        exact eG
      rw [List.length_map] at ln
      simp_arith [cx_K, ↓e_tJs0, ↓e_tJs, ↓e_tFmt, ↓fmt_s, ↓fmt_i, ↓e_asS, ↓e_tM1, ↓e_tM0, ex_s, ↓ex_s2, ↓ex_s1, ↓ex_l1, ↓ex_ss, ↓ex_c, ↓e_news, ↓e_tForL, ↓e_asL, ↓e_tLcL, ↓tRaiseF_, ↓e_rInT, allP_0, allP_c, put_0, put_c, look_0, look_c, exists_eq_left', exists_eq', ↓e_tDIn, ↓e_iStr, ↓ex_v, cast1, cast2, flat_strs, inV_strs, cI_flat, cI_in, ex_isi]
      intro p np
      have kG2 : Keep [] H (upd G p (.lst [])) := kG.new np
      obtain ⟨Y, eY⟩ : ∃ Y : Hp, Y = upd G p (.lst []) := ⟨_, rfl⟩
      have hpY : Y p = some (.lst (([] : List Str).map V.str)) := by rw [eY, upd_same]; rfl
      have hDY : Y D = some (.dK (nmK nm)) := by rw [eY, upd_ne (ne_of_none hD np)]; exact hD
      have Dp : D ≠ p := ne_of_none hD np
      rw [← eY]
      rw [← eY] at kG2
      clear eY
      have pH : H p = none := kp0 kG np
      refine ⟨t, rs.map V.ref, hpc.keep kG2, loop_by walk_ea (fun i σ G2 => ∃ (zs : List Str) (v2 v4 v5 : Option V), σ = [some (.ref pc), some (.ref D), v2, some (.ref p), v4, v5] ∧ G2 p = some (.lst (zs.map V.str)) ∧ G2 D = some (.dK (nmK nm)) ∧ Keep [] H G2 ∧ (zs.map tl).flatten ++ listGo nm i (rows.drop i) = listL rows ∧ zs.length = i ∧ ∀ z ∈ zs, z.length ≤ 100) ⟨[], _, _, _, rfl, hpY, hDY, kG2, ?_, rfl, nofun⟩ ?_ ?_ ?_⟩
      · unfold listL
        rw [eN]
        rfl
      · rintro i σ G2 _ ⟨zs, v2, v4, v5, _, _, _, k2, _⟩
        exact hpc.keep k2
      · rintro i σ G2 v G3 hi ⟨zs, v2, v4, v5, rfl, hp2, hD2, k2, eZ, lz, bz⟩ ⟨U, y, rfl, nU, rfl, hy⟩
        rw [List.getElem?_map] at hy
        cases er : rs[i]? with
        | none => rw [er] at hy; cases hy
        | some r =>
          rw [er] at hy
          cases hy
          obtain ⟨⟨wd, n⟩, ew, hr1⟩ := paired_get R er
          have hr2 := k2 _ _ hr1 (by simp)
          obtain ⟨hi1, hi2⟩ := List.getElem?_eq_some_iff.mp ew
          have edr : rows.drop i = (wd, n) :: rows.drop (i + 1) := by rw [List.drop_eq_getElem_cons hi1, hi2]
          rw [edr] at eZ
          have bw := hb _ (List.mem_of_getElem? ew)
          simp only [] at hr2 bw
          simp_arith [cx_K, ↓e_tJs0, ↓e_tJs, ↓e_tFmt, ↓fmt_s, ↓fmt_i, ↓e_asS, ↓e_tM1, ↓e_tM0, ex_s, ↓ex_s2, ↓ex_s1, ↓ex_l1, ↓ex_ss, ↓ex_c, ↓e_news, ↓e_tForL, ↓e_asL, ↓e_tLcL, ↓tRaiseF_, ↓e_rInT, allP_0, allP_c, put_0, put_c, look_0, look_c, exists_eq_left', exists_eq', ↓e_tDIn, ↓e_iStr, ↓ex_v, cast1, cast2, flat_strs, inV_strs, cI_flat, cI_in, ex_isi, hr2]
          have hD3 : (upd G2 U (.tup [.int (i : Int), .ref r])) D = some (.dK (nmK nm)) := by rw [upd_ne (ne_of_none hD2 nU)]; exact hD2
          have hp3 : (upd G2 U (.tup [.int (i : Int), .ref r])) p = some (.lst (zs.map V.str)) := by rw [upd_ne (ne_of_none hp2 nU)]; exact hp2
          have hr3 : (upd G2 U (.tup [.int (i : Int), .ref r])) r = some (.tup [.str wd, .int (n : Int)]) := by rw [upd_ne (ne_of_none hr2 nU)]; exact hr2
          have k3 : Keep [] H (upd G2 U (.tup [.int (i : Int), .ref r])) := k2.new nU
          obtain ⟨G3, eG3⟩ : ∃ G3 : Hp, G3 = upd G2 U (.tup [.int (i : Int), .ref r]) := ⟨_, rfl⟩
          rw [← eG3] at hD3 hp3 hr3 k3 ⊢
          clear eG3
          have i300 : i < 300 := by omega
          have numI : (Str.ofString (toString ((i : Nat) : Int))).length ≤ 3 := by
            rw [len_tl, tl_num]
            exact numL_len (by decide) (by omega)
          have lgI : ((i : Int)).natAbs.log2 < 1920 := by
            rw [Int.natAbs_natCast]
            by_cases h0 : i = 0
            · rw [h0]; decide
            · have := (Nat.log2_lt h0).mpr (show i < 2 ^ 60 by omega)
              omega
          have e0 : Str.empty.length = 0 := rfl
          have lp1 : (Str.ofString "p").length = 1 := by decide +kernel
          have lp2 : (Str.ofString ": ").length = 2 := by decide +kernel
          have ln1 : (Str.ofString "\n").length = 1 := by decide +kernel
          refine ⟨D, _, rfl, DGet.k (k := .inl (i : Int)) hD3, ?_⟩
          rw [valV_nm]
          have fin : ∀ z5 y : Str, z5.length ≤ 30 → tl z5 = aheadL nm i → tl y = lineL wd n nm → z5.length + y.length ≤ sizeLine ∧ (z5 ++ y).length + (Str.ofString "\n").length ≤ sizeLine ∧ (zs.map V.str).length < sizeLine ∧ ∃ (zs2 : List Str) (v2 v4 v5 : Option V), [some (.ref pc), some (.ref D), some (.ref r), some (.ref p), some (.int (i : Int)), some (.str z5)] = [some (.ref pc), some (.ref D), v2, some (.ref p), v4, v5] ∧ HO.lst (zs.map V.str ++ [V.str (z5 ++ y ++ Str.ofString "\n")]) = HO.lst (zs2.map V.str) ∧ (upd G3 p (.lst (zs.map V.str ++ [V.str (z5 ++ y ++ Str.ofString "\n")]))) D = some (.dK (nmK nm)) ∧ Keep [] H (upd G3 p (.lst (zs.map V.str ++ [V.str (z5 ++ y ++ Str.ofString "\n")]))) ∧ (zs2.map tl).flatten ++ listGo nm (i + 1) (rows.drop (i + 1)) = listL rows ∧ zs2.length = i + 1 ∧ ∀ z ∈ zs2, z.length ≤ 100 := fun z5 y h1 h2 h3 => by
            have ly : y.length ≤ 50 := by
              rw [len_tl, h3]
              unfold lineL
              have nn : (numL n).length ≤ 19 := numL_len (by decide) (by omega)
              have lw : (tl wd).length ≤ 20 := by rw [← len_tl]; exact bw.1
              have s2 : (tl (Str.ofString " p")).length = 2 := by decide +kernel
              have s1 : (tl (Str.ofString " ")).length = 1 := by decide +kernel
              split
              · omega
              · split <;> simp only [List.length_append] <;> omega
            refine ⟨by omega, by rw [strLen_append]; omega, by rw [List.length_map]; omega, zs ++ [z5 ++ y ++ Str.ofString "\n"], _, _, _, rfl, by simp, by rw [upd_ne Dp]; exact hD3, k3.over pH, ?_, by simp [lz], fun z hz => ?_⟩
            · rw [← eZ, List.map_append, List.flatten_append]
              show ((zs.map tl).flatten ++ (tl (z5 ++ y ++ Str.ofString "\n") ++ [])) ++ _ = (zs.map tl).flatten ++ ((aheadL nm i ++ lineL wd n nm ++ tl "\n") ++ listGo nm (i + 1) (rows.drop (i + 1)))
              rw [tl_append, tl_append, h2, h3]
              simp only [List.append_assoc, List.append_nil]
            · rcases List.mem_append.mp hz with hz | hz
              · exact bz z hz
              · rw [List.mem_singleton.mp hz, strLen_append, strLen_append]
                omega
          by_cases hm2 : i ∈ nm
          · rw [if_pos (decide_eq_true hm2)]
            refine ⟨by rw [strLen_append]; omega, lgI, by rw [strLen_append, strLen_append]; omega, by rw [strLen_append, strLen_append, strLen_append]; omega, ?_⟩
            simp_arith [cx_K, ↓e_tJs0, ↓e_tJs, ↓e_tFmt, ↓fmt_s, ↓fmt_i, ↓e_asS, ↓e_tM1, ↓e_tM0, ex_s, ↓ex_s2, ↓ex_s1, ↓ex_l1, ↓ex_ss, ↓ex_c, ↓e_news, ↓e_tForL, ↓e_asL, ↓e_tLcL, ↓tRaiseF_, ↓e_rInT, allP_0, allP_c, put_0, put_c, look_0, look_c, exists_eq_left', exists_eq', ↓e_tDIn, ↓e_iStr, ↓ex_v, cast1, cast2, flat_strs, inV_strs, cI_flat, cI_in, ex_isi, ↓e_tBM]
            refine ⟨.inl ⟨rfl, _, SqL.of hp3⟩, ?_⟩
            simp_arith [cx_K, ↓e_tJs0, ↓e_tJs, ↓e_tFmt, ↓fmt_s, ↓fmt_i, ↓e_asS, ↓e_tM1, ↓e_tM0, ex_s, ↓ex_s2, ↓ex_s1, ↓ex_l1, ↓ex_ss, ↓ex_c, ↓e_news, ↓e_tForL, ↓e_asL, ↓e_tLcL, ↓tRaiseF_, ↓e_rInT, allP_0, allP_c, put_0, put_c, look_0, look_c, exists_eq_left', exists_eq', ↓e_tDIn, ↓e_iStr, ↓ex_v, cast1, cast2, flat_strs, inV_strs, cI_flat, cI_in, ex_isi]
            refine ⟨r, D, wd, n, nm, rfl, hr3, hD3, bw.1, bw.2, fun y hy => ?_⟩
            obtain ⟨f1, f2, f3, f4⟩ := fin (Str.empty ++ Str.ofString "p" ++ Str.ofString (toString ((i : Nat) : Int)) ++ Str.ofString ": ") y (by rw [strLen_append, strLen_append, strLen_append]; omega) (by rw [tl_append, tl_append, tl_append, tl_num]; unfold aheadL; rw [if_pos hm2]; simp [Str.empty, tl]) hy
            exact ⟨_, y, rfl, rfl, f1, f2, ⟨_, hp3, f3, f4⟩⟩
          · rw [if_neg (by simpa using hm2)]
            simp_arith [cx_K, ↓e_tJs0, ↓e_tJs, ↓e_tFmt, ↓fmt_s, ↓fmt_i, ↓e_asS, ↓e_tM1, ↓e_tM0, ex_s, ↓ex_s2, ↓ex_s1, ↓ex_l1, ↓ex_ss, ↓ex_c, ↓e_news, ↓e_tForL, ↓e_asL, ↓e_tLcL, ↓tRaiseF_, ↓e_rInT, allP_0, allP_c, put_0, put_c, look_0, look_c, exists_eq_left', exists_eq', ↓e_tDIn, ↓e_iStr, ↓ex_v, cast1, cast2, flat_strs, inV_strs, cI_flat, cI_in, ex_isi, ↓e_tBM]
            refine ⟨.inl ⟨rfl, _, SqL.of hp3⟩, ?_⟩
            simp_arith [cx_K, ↓e_tJs0, ↓e_tJs, ↓e_tFmt, ↓fmt_s, ↓fmt_i, ↓e_asS, ↓e_tM1, ↓e_tM0, ex_s, ↓ex_s2, ↓ex_s1, ↓ex_l1, ↓ex_ss, ↓ex_c, ↓e_news, ↓e_tForL, ↓e_asL, ↓e_tLcL, ↓tRaiseF_, ↓e_rInT, allP_0, allP_c, put_0, put_c, look_0, look_c, exists_eq_left', exists_eq', ↓e_tDIn, ↓e_iStr, ↓ex_v, cast1, cast2, flat_strs, inV_strs, cI_flat, cI_in, ex_isi]
            refine ⟨r, D, wd, n, nm, rfl, hr3, hD3, bw.1, bw.2, fun y hy => ?_⟩
            obtain ⟨f1, f2, f3, f4⟩ := fin (Str.ofString "") y (by decide +kernel) (by unfold aheadL; rw [if_neg hm2]; rfl) hy
            exact ⟨_, y, rfl, rfl, f1, f2, ⟨_, hp3, f3, f4⟩⟩
      · rintro σ G2 ⟨zs, v2, v4, v5, rfl, hp2, hD2, k2, eZ, lz, bz⟩
        simp_arith [cx_K, ↓e_tJs0, ↓e_tJs, ↓e_tFmt, ↓fmt_s, ↓fmt_i, ↓e_asS, ↓e_tM1, ↓e_tM0, ex_s, ↓ex_s2, ↓ex_s1, ↓ex_l1, ↓ex_ss, ↓ex_c, ↓e_news, ↓e_tForL, ↓e_asL, ↓e_tLcL, ↓tRaiseF_, ↓e_rInT, allP_0, allP_c, put_0, put_c, look_0, look_c, exists_eq_left', exists_eq', ↓e_tDIn, ↓e_iStr, ↓ex_v, cast1, cast2, flat_strs, inV_strs, cI_flat, cI_in, ex_isi]
        rw [List.length_map, lenR] at lz
        have sm := sum_le bz
        refine ⟨_, p, zs, rfl, rfl, .inl (SqL.of hp2), ?_, k _ G2 k2 ?_⟩
        · have e0 : (Str.ofString "").length = 0 := by decide +kernel
          rw [e0]
          omega
        · rw [join_eq, tl_join, show tl (Str.ofString "") = [] from by decide +kernel, joinL_nil, ← eZ, List.length_map, lenR, List.drop_length]
          exact (List.append_nil _).symm

end
end
section
open PySem L2 TL
def isW (p : List Nat) : Prop := p ≠ [] ∧ ∀ c ∈ p, 33 ≤ c ∧ c ≤ 126 ∧ c ≠ 58 ∧ c ≠ 47
def sp (b : Nat) : List Nat := List.replicate b 32
theorem no_sp : ∀ c, c < 127 → 33 ≤ c → Unicode.isSpace c = false := by decide +kernel
theorem isW.nosp {p : List Nat} (h : isW p) : ∀ c ∈ p, Unicode.isSpace c = false := fun c hc => no_sp c (by have := (h.2 c hc).2.1; omega) (h.2 c hc).1
theorem sp_mem {b c : Nat} (h : c ∈ sp b) : c = 32 := List.eq_of_mem_replicate h
theorem space32 : Unicode.isSpace 32 = true := by decide +kernel
theorem fold_sp0 {ws : List (List Nat)} : ∀ b : Nat, (sp b).foldl wstep (ws, []) = (ws, [])
  | 0 => rfl
  | b + 1 => by
    show (sp b).foldl wstep (wstep (ws, []) 32) = _
    have e : wstep (ws, []) 32 = (ws, []) := (if_pos space32).trans (if_pos rfl)
    rw [e]
    exact fold_sp0 b
theorem fold_sp1 {ws : List (List Nat)} {u : List Nat} (hu : u ≠ []) (b : Nat) : (sp (b + 1)).foldl wstep (ws, u) = (ws ++ [u], []) := by
  show (sp b).foldl wstep (wstep (ws, u) 32) = _
  have e : wstep (ws, u) 32 = (ws ++ [u], []) := (if_pos space32).trans (if_neg hu)
  rw [e]
  exact fold_sp0 b
theorem words1 {p : List Nat} (h : isW p) (e : Nat) : wfin ((p ++ sp e).foldl wstep ([], [])) = [p] := by
  rw [List.foldl_append, wfold_word p [] [] h.nosp, List.nil_append]
  cases e with
  | zero => exact if_neg h.1
  | succ e =>
    rw [fold_sp1 h.1]
    rfl
theorem words2 {p q : List Nat} (hp : isW p) (hq : isW q) (m e : Nat) : wfin ((p ++ (sp (m + 1) ++ (q ++ sp e))).foldl wstep ([], [])) = [p, q] := by
  rw [List.foldl_append, wfold_word p [] [] hp.nosp, List.nil_append, List.foldl_append, fold_sp1 hp.1, List.foldl_append, wfold_word q _ [] hq.nosp]
  simp only [List.nil_append]
  cases e with
  | zero => exact if_neg hq.1
  | succ e =>
    rw [fold_sp1 hq.1]
    rfl
theorem strip_pad {x : Str} {b : Nat} {p : List Nat} (h : isW p) (e : tl x = sp b ++ p) : tl (Txt.strip x) = p := by
  have len : x.length = b + p.length := by
    rw [len_tl, e, List.length_append]
    simp [sp]
  have pl : 0 < p.length := List.length_pos_iff.mpr h.1
  have at_ : ∀ k, x.cps.getD k 0 = (sp b ++ p).getD k 0 := fun k => by
    rw [← PyProof.Rows.getD_list, show x.cps.toList = tl x from rfl, e]
  have inSp : ∀ k, k < b → (sp b ++ p).getD k 0 = 32 := fun k hk => by
    have : k < (sp b).length := by simpa [sp] using hk
    rw [List.getD_eq_getElem?_getD, List.getElem?_append_left this]
    simp [sp, hk]
  have inP : ∀ k, b ≤ k → k < b + p.length → Unicode.isSpace ((sp b ++ p).getD k 0) = false := fun k h1 h2 => by
    have hb : (sp b).length ≤ k := by simpa [sp] using h1
    have hk : k - b < p.length := by omega
    have : (sp b ++ p).getD k 0 = p[k - b] := by
      rw [List.getD_eq_getElem?_getD, List.getElem?_append_right hb]
      simp [sp, hk]
    rw [this]
    exact h.nosp _ (List.getElem_mem hk)
  unfold Txt.strip
  rw [PyProof.Rows.stripBy_eq, tl_strSub, e]
  obtain ⟨l1, l2, l3⟩ := PyProof.Rows.lo_facts Unicode.isSpace x
  have lo : PySem.stripLo Unicode.isSpace true x = b := by
    rcases Nat.lt_trichotomy (PySem.stripLo Unicode.isSpace true x) b with z | z | z
    · rcases l3 with w | w
      · omega
      · rw [at_, inSp _ z, space32] at w
        cases w
    · exact z
    · have w := l2 b z
      rw [at_, inP b (Nat.le_refl _) (by omega)] at w
      cases w
  rw [lo]
  obtain ⟨h1, h2, h3, h4⟩ := PyProof.Rows.hi_facts Unicode.isSpace x b (by omega)
  have hi : PySem.stripHi Unicode.isSpace true x b = b + p.length := by
    rcases Nat.lt_or_ge (PySem.stripHi Unicode.isSpace true x b) (b + p.length) with z | z
    · have w := h3 (b + p.length - 1) (by omega) (by omega)
      rw [at_, inP _ (by omega) (by omega)] at w
      cases w
    · omega
  rw [hi]
  have e1 : (sp b ++ p).drop b = p := by
    have z : (sp b).length = b := by simp [sp]
    have w : (sp b ++ p).drop (sp b).length = p := List.drop_left
    rwa [z] at w
  rw [e1]
  exact List.take_of_length_le (by omega)
/-! ### a line -/
/-- blanks, names with colons, then what is told -/
def lineB (b : Nat) : List (List Nat) → List Nat → List Nat
  | [], t => sp b ++ t
  | n :: r, t => (sp b ++ n) ++ ([58] ++ lineB 1 r t)
def rowsB (b : Nat) : List (List Nat) → List Nat → List (List Nat)
  | [], t => [sp b ++ t]
  | n :: r, t => (sp b ++ n) :: rowsB 1 r t
theorem sp_free {b s : Nat} (h : s ≠ 32) : s ∉ sp b := fun m => h (sp_mem m)
theorem spl_lineB : ∀ (ns : List (List Nat)) (b : Nat) (t : List Nat), (∀ n ∈ ns, isW n) → 58 ∉ t → spl [58] 0 [] (lineB b ns t) = rowsB b ns t
  | [], b, t, _, ht => by
    show spl [58] 0 [] (sp b ++ t) = [sp b ++ t]
    rw [spl_last1 (fun m => (List.mem_append.mp m).elim (sp_free (by decide)) ht), List.nil_append]
  | n :: r, b, t, h, ht => by
    show spl [58] 0 [] ((sp b ++ n) ++ ([58] ++ lineB 1 r t)) = (sp b ++ n) :: rowsB 1 r t
    have hn := h n List.mem_cons_self
    rw [spl_part1 (fun m => (List.mem_append.mp m).elim (sp_free (by decide)) (fun m2 => (hn.2 58 m2).2.2.1 rfl)), List.nil_append, spl_lineB r 1 t (fun z hz => h z (List.mem_cons_of_mem _ hz)) ht]
theorem lineB_free : ∀ (ns : List (List Nat)) (b : Nat) (t : List Nat), (∀ n ∈ ns, isW n) → 47 ∉ t → 47 ∉ lineB b ns t
  | [], b, t, _, ht => fun m => (List.mem_append.mp m).elim (sp_free (by decide)) ht
  | n :: r, b, t, h, ht => fun m => by
    have hn := h n List.mem_cons_self
    rcases List.mem_append.mp m with m | m
    · rcases List.mem_append.mp m with m | m
      · exact sp_free (by decide) m
      · exact (hn.2 47 m).2.2.2 rfl
    · rcases List.mem_append.mp m with m | m
      · simp at m
      · exact lineB_free r 1 t (fun z hz => h z (List.mem_cons_of_mem _ hz)) ht m
theorem rowsB_last : ∀ (ns : List (List Nat)) (b : Nat) (t : List Nat), ∃ b', (rowsB b ns t).getLast? = some (sp b' ++ t)
  | [], b, t => ⟨b, rfl⟩
  | n :: r, b, t => by
    obtain ⟨b', e⟩ := rowsB_last r 1 t
    refine ⟨b', ?_⟩
    show ((sp b ++ n) :: rowsB 1 r t).getLast? = _
    cases h : rowsB 1 r t with
    | nil => rw [h] at e; cases e
    | cons z zs =>
      rw [h] at e
      rw [List.getLast?_cons_cons]
      exact e
theorem rowsB_names : ∀ (ns : List (List Nat)) (b : Nat) (t : List Nat) (R : List Str), R.map tl = rowsB b ns t → (∀ n ∈ ns, isW n) → (R.dropLast.map Txt.strip).map tl = ns
  | [], b, t, R, e, _ => by
    match R, e with
    | [x], _ => rfl
    | x :: y :: r, e => exact absurd (congrArg List.length e) (by simp [rowsB])
  | n :: r, b, t, x :: R, e, h => by
    have e1 : tl x = sp b ++ n ∧ R.map tl = rowsB 1 r t := List.cons.inj e
    have ih := rowsB_names r 1 t R e1.2 (fun z hz => h z (List.mem_cons_of_mem _ hz))
    have ne : R ≠ [] := fun z => by
      rw [z] at e1
      cases r <;> cases e1.2
    rw [List.dropLast_cons_of_ne_nil ne, List.map_cons, List.map_cons, ih, strip_pad (h n List.mem_cons_self) e1.1]
/-- what a line's names and words are -/
theorem line_ok {x : Str} {b : Nat} {ns : List Str} {t rem : List Nat} (e : tl x = lineB b (ns.map tl) t ++ rem) (hr : rem = [] ∨ ∃ r, rem = [47, 47] ++ r) (hn : ∀ n ∈ ns, isW (tl n)) (h58 : 58 ∉ t) (h47 : 47 ∉ t) :
    namesOf x = ns ∧ (wordsOf x).map tl = wfin (t.foldl wstep ([], [])) := by
  have hn2 : ∀ n ∈ ns.map tl, isW n := fun n m => by
    obtain ⟨y, hy, rfl⟩ := List.mem_map.mp m
    exact hn y hy
  have fr := lineB_free (ns.map tl) b t hn2 h47
  have s2 : tl (Str.ofString "//") = [47, 47] := by decide +kernel
  have s1 : tl (Str.ofString ":") = [58] := by decide +kernel
  have e1 : tl (Txt.partition x (Str.ofString "//")).1 = lineB b (ns.map tl) t := by
    rw [partition_par x _ (by rw [s2]; simp), s2, e]
    rcases hr with rfl | ⟨r, rfl⟩
    · rw [List.append_nil, par_none1 fr]
      show tl x = _
      rw [e, List.append_nil]
    · have z := par_part1 (s := 47) (S := [47]) (acc := []) (rest := r) fr
      rw [show lineB b (ns.map tl) t ++ ([47, 47] ++ r) = lineB b (ns.map tl) t ++ ((47 :: [47]) ++ r) from rfl, z]
      rfl
  have e2 : (rowsOf x).map tl = rowsB b (ns.map tl) t := by
    unfold rowsOf
    rw [split_spl _ _ (by rw [s1]; simp) (kind_ok (by decide +kernel)), e1, s1]
    exact spl_lineB _ _ _ hn2 h58
  refine ⟨map_tl_inj ?_, ?_⟩
  · exact rowsB_names _ _ _ _ e2 hn2
  · obtain ⟨b', hl⟩ := rowsB_last (ns.map tl) b t
    rw [← e2, List.getLast?_map] at hl
    unfold wordsOf
    cases hx : (rowsOf x).getLast? with
    | none => rw [hx] at hl; cases hl
    | some l =>
      rw [hx] at hl
      have hl2 : tl l = sp b' ++ t := Option.some.inj hl
      show (Txt.words l).map tl = _
      rw [words_tl, hl2, List.foldl_append, fold_sp0]
end
section
open PySem L2 TL
/-- a line of a text: its names and words -/
structure LineP (x : List Nat) (s : List Str × List Str) : Prop where
  nl : 10 ∉ x
  sem : ∀ y : Str, tl y = x → namesOf y = s.1 ∧ wordsOf y = s.2
def txtL (ps : List (List Nat)) : List Nat := (ps.map (· ++ [10])).flatten
theorem tl_nl : tl (Str.ofString "\n") = [10] := by decide +kernel
theorem spl_txt : ∀ (ps : List (List Nat)), (∀ p ∈ ps, 10 ∉ p) → spl [10] 0 [] (txtL ps) = ps ++ [[]]
  | [], _ => rfl
  | p :: r, h => by
    have e : txtL (p :: r) = p ++ ([10] ++ txtL r) := by simp [txtL]
    rw [e, spl_part1 (h p List.mem_cons_self), spl_txt r fun q hq => h q (List.mem_cons_of_mem p hq)]
    rfl
theorem split_txt {x : Str} {ps : List (List Nat)} (e : tl x = txtL ps) (h : ∀ p ∈ ps, 10 ∉ p) : (Txt.split x (Str.ofString "\n")).map tl = ps ++ [[]] := by
  rw [split_spl _ _ (by rw [tl_nl]; simp) (kind_ok (by decide +kernel)), tl_nl, e, spl_txt ps h]
open Classical in
noncomputable def goS : List (Str × Int) → List (List Str) → List (List Str × List Str) → Option (List (Str × Int) × List (List Str))
  | pl, fd, [] => some (pl, fd)
  | pl, fd, s :: r => if ∀ y ∈ s.1, labelOk y then (match addNames fd.length pl s.1 with
    | none => none
    | some pl' => goS pl' (if s.2 = [] then fd else fd ++ [s.2]) r) else none
theorem asmGo_goS : ∀ {L : List Str} {xs : List (List Nat)} {S : List (List Str × List Str)} {pl : List (Str × Int)} {fd : List (List Str)}, L.map tl = xs → PySem.Paired LineP xs S → asmGo pl fd L = goS pl fd S
  | [], _, _, pl, fd, rfl, h => by
    cases h
    rfl
  | y :: L, _, _, pl, fd, rfl, h => by
    cases h with
    | @cons _ s _ S a h =>
      obtain ⟨e1, e2⟩ := a.sem y rfl
      have ih := fun pl fd => asmGo_goS (pl := pl) (fd := fd) (rfl : L.map tl = L.map tl) h
      unfold asmGo goS
      rw [e1, e2]
      by_cases ok : ∀ y ∈ s.1, labelOk y
      · rw [if_pos ok, if_pos ok]
        cases addNames fd.length pl s.1 with
        | none => rfl
        | some pl' => exact ih _ _
      · rw [if_neg ok, if_neg ok]
open Classical in
theorem goS_cons {pl : List (Str × Int)} {fd : List (List Str)} {s : List Str × List Str} {r : List (List Str × List Str)} : goS pl fd (s :: r) = if ∀ y ∈ s.1, labelOk y then (match addNames fd.length pl s.1 with
    | none => none
    | some pl' => goS pl' (if s.2 = [] then fd else fd ++ [s.2]) r) else none := by rw [goS]
theorem goS_append : ∀ {S T : List (List Str × List Str)} {pl : List (Str × Int)} {fd : List (List Str)}, goS pl fd (S ++ T) = match goS pl fd S with
    | none => none
    | some q => goS q.1 q.2 T
  | [], T, pl, fd => rfl
  | s :: S, T, pl, fd => by
    show goS pl fd (s :: (S ++ T)) = _
    rw [goS_cons, goS_cons]
    by_cases ok : ∀ y ∈ s.1, labelOk y
    · rw [if_pos ok, if_pos ok]
      cases addNames fd.length pl s.1 with
      | none => rfl
      | some pl' => exact goS_append
    · rw [if_neg ok, if_neg ok]
theorem lookup_app {pl pm : List (Str × Int)} {n : Str} : (pl ++ pm).lookup n = match pl.lookup n with
    | some k => some k
    | none => pm.lookup n := by
  induction pl with
  | nil => rfl
  | cons q r ih =>
    obtain ⟨a, v⟩ := q
    rw [List.cons_append, List.lookup_cons, List.lookup_cons]
    by_cases h : (n == a) = true
    · rw [h]
    · have h : (n == a) = false := by simpa using h
      rw [h]
      exact ih
theorem addNames_spec {k : Nat} : ∀ {ns : List Str} {pl : List (Str × Int)}, ns.Nodup → (∀ n ∈ ns, pl.lookup n = none) → ∃ pl', addNames k pl ns = some pl' ∧ ∀ n, pl'.lookup n = if n ∈ ns then some (k : Int) else pl.lookup n
  | [], pl, _, _ => ⟨pl, rfl, fun n => by simp⟩
  | m :: r, pl, nd, h => by
    have hm := h m List.mem_cons_self
    have nd2 := List.nodup_cons.mp nd
    have lk : ∀ n, (pl ++ [(m, (k : Int))]).lookup n = if n = m then some (k : Int) else pl.lookup n := fun n => by
      rw [lookup_app]
      by_cases e : n = m
      · rw [if_pos e, e, hm]
        simp
      · rw [if_neg e]
        cases pl.lookup n with
        | some k2 => rfl
        | none => simp [List.lookup_cons, (by simpa using e : (n == m) = false)]
    obtain ⟨pl', e1, e2⟩ := addNames_spec (k := k) (ns := r) (pl := pl ++ [(m, (k : Int))]) nd2.2 fun n hn => by
      rw [lk, if_neg (fun e : n = m => nd2.1 (e ▸ hn))]
      exact h n (List.mem_cons_of_mem m hn)
    refine ⟨pl', ?_, fun n => ?_⟩
    · unfold addNames
      rw [hm]
      exact e1
    · rw [e2, lk]
      by_cases e : n = m
      · subst e
        simp [nd2.1]
      · by_cases f : n ∈ r
        · simp [f]
        · simp [e, f]
theorem addNames_twice {k : Nat} {ns : List Str} {pl : List (Str × Int)} {n : Str} {v : Int} (h : pl.lookup n = some v) : addNames k pl (n :: ns) = none := by
  unfold addNames
  rw [h]
  rfl
/-- names told, each with its place -/
def NamesOk (D : List (Str × Nat)) : Prop := (D.map (·.1)).Nodup ∧ ∀ q ∈ D, labelOk q.1
def namesAt (D : List (Str × Nat)) (k : Nat) : List Str := (D.filter fun q => q.2 = k).map (·.1)
theorem lookup_iff : ∀ {D : List (Str × Nat)} {n : Str} {k : Nat}, (D.map (·.1)).Nodup → (D.lookup n = some k ↔ (n, k) ∈ D)
  | [], n, k, _ => by simp
  | (a, v) :: r, n, k, nd => by
    have nd2 : a ∉ r.map (·.1) ∧ (r.map (·.1)).Nodup := by simpa using nd
    rw [List.lookup_cons, List.mem_cons]
    by_cases h : n = a
    · subst h
      simp only [beq_self_eq_true, Option.some.injEq, Prod.mk.injEq, true_and]
      refine ⟨fun e => .inl e.symm, fun e => ?_⟩
      rcases e with e | e
      · exact e.symm
      · exact absurd (List.mem_map.mpr ⟨_, e, rfl⟩) nd2.1
    · have hb : (n == a) = false := by simpa using h
      rw [hb, lookup_iff nd2.2]
      simp [h]
theorem mem_namesAt {D : List (Str × Nat)} {n : Str} {k : Nat} : n ∈ namesAt D k ↔ (n, k) ∈ D := by
  unfold namesAt
  rw [List.mem_map]
  refine ⟨?_, fun h => ⟨(n, k), List.mem_filter.mpr ⟨h, by simp⟩, rfl⟩⟩
  rintro ⟨⟨a, v⟩, h, rfl⟩
  obtain ⟨h1, h2⟩ := List.mem_filter.mp h
  have h3 : v = k := by simpa using h2
  exact h3 ▸ h1
theorem nodup_namesAt {D : List (Str × Nat)} {k : Nat} (h : (D.map (·.1)).Nodup) : (namesAt D k).Nodup := by
  unfold namesAt
  exact h.sublist (List.filter_sublist.map _)
/-- what has been told before line k -/
def Upto (D : List (Str × Nat)) (k : Nat) (pl : List (Str × Int)) : Prop := ∀ n, pl.lookup n = (D.lookup n).bind fun p => if p < k then some (p : Int) else none
theorem upto_none {D : List (Str × Nat)} {k : Nat} {pl : List (Str × Int)} (ok : NamesOk D) (u : Upto D k pl) : ∀ n ∈ namesAt D k, pl.lookup n = none := fun n hn => by
  rw [u n, (lookup_iff ok.1).mpr (mem_namesAt.mp hn)]
  simp
theorem upto_next {D : List (Str × Nat)} {k : Nat} {pl pl' : List (Str × Int)} (ok : NamesOk D) (u : Upto D k pl) (h : ∀ n, pl'.lookup n = if n ∈ namesAt D k then some (k : Int) else pl.lookup n) : Upto D (k + 1) pl' := fun n => by
  rw [h n]
  by_cases hn : n ∈ namesAt D k
  · rw [if_pos hn, (lookup_iff ok.1).mpr (mem_namesAt.mp hn)]
    simp
  · rw [if_neg hn, u n]
    cases e : D.lookup n with
    | none => rfl
    | some p =>
      have : p ≠ k := fun z => hn (mem_namesAt.mpr (z ▸ (lookup_iff ok.1).mp e))
      simp only [Option.bind_some]
      by_cases z : p < k
      · rw [if_pos z, if_pos (by omega)]
      · rw [if_neg z, if_neg (by omega)]
/-- a line with instruction k; ahead of it perhaps one with nothing -/
def lineS (D : List (Str × Nat)) (k : Nat) (b : Bool) (W : List Str) : List (List Str × List Str) := (if b then [([], [])] else []) ++ [(namesAt D k, W)]
def linesS (D : List (Str × Nat)) : Nat → List (Bool × List Str) → List (List Str × List Str)
  | _, [] => []
  | k, (b, W) :: r => lineS D k b W ++ linesS D (k + 1) r
theorem goS_line {D : List (Str × Nat)} {k : Nat} {b : Bool} {W : List Str} {pl : List (Str × Int)} {fd : List (List Str)} (ok : NamesOk D) (u : Upto D k pl) (hf : fd.length = k) (hW : W ≠ []) : ∃ pl', goS pl fd (lineS D k b W) = some (pl', fd ++ [W]) ∧ Upto D (k + 1) pl' := by
  obtain ⟨pl', e1, e2⟩ := addNames_spec (k := k) (nodup_namesAt ok.1) (upto_none ok u)
  have lab : ∀ y ∈ namesAt D k, labelOk y := fun y hy => ok.2 _ (mem_namesAt.mp hy)
  refine ⟨pl', ?_, upto_next ok u e2⟩
  have one : goS pl fd [(namesAt D k, W)] = some (pl', fd ++ [W]) := by
    unfold goS
    rw [if_pos lab, hf]
    simp only [e1]
    rw [if_neg hW]
    rfl
  cases b
  · exact one
  · show goS pl fd (([], []) :: [(namesAt D k, W)]) = _
    rw [goS_cons, if_pos (by simp)]
    exact one
theorem goS_lines {D : List (Str × Nat)} (ok : NamesOk D) : ∀ {r : List (Bool × List Str)} {k : Nat} {pl : List (Str × Int)} {fd : List (List Str)}, Upto D k pl → fd.length = k → (∀ q ∈ r, q.2 ≠ []) → ∃ pl', goS pl fd (linesS D k r) = some (pl', fd ++ r.map (·.2)) ∧ Upto D (k + r.length) pl'
  | [], k, pl, fd, u, hf, _ => ⟨pl, by simp [linesS, goS], u⟩
  | (b, W) :: r, k, pl, fd, u, hf, h => by
    obtain ⟨p1, e1, u1⟩ := goS_line (b := b) ok u hf (h _ List.mem_cons_self)
    obtain ⟨p2, e2, u2⟩ := goS_lines ok (r := r) (k := k + 1) (pl := p1) (fd := fd ++ [W]) u1 (by simp [hf]) fun q hq => h q (List.mem_cons_of_mem _ hq)
    refine ⟨p2, ?_, ?_⟩
    · show goS pl fd (lineS D k b W ++ linesS D (k + 1) r) = _
      rw [goS_append, e1]
      simp only []
      rw [e2]
      simp
    · rw [show k + ((b, W) :: r).length = k + 1 + r.length by simp; omega]
      exact u2
/-- names behind the last line, each on a line of its own -/
def tailS (D : List (Str × Nat)) (k : Nat) : List (List Str × List Str) := (namesAt D k).map fun n => ([n], [])
theorem goS_tail {k : Nat} {fd : List (List Str)} (hf : fd.length = k) : ∀ {ns : List Str} {pl : List (Str × Int)}, ns.Nodup → (∀ n ∈ ns, pl.lookup n = none) → (∀ n ∈ ns, labelOk n) → ∃ pl', goS pl fd (ns.map fun n => ([n], [])) = some (pl', fd) ∧ ∀ n, pl'.lookup n = if n ∈ ns then some (k : Int) else pl.lookup n
  | [], pl, _, _, _ => ⟨pl, rfl, fun n => by simp⟩
  | m :: r, pl, nd, h, lab => by
    have nd2 := List.nodup_cons.mp nd
    obtain ⟨p1, e1, e2⟩ := addNames_spec (k := k) (ns := [m]) (pl := pl) (by simp) fun n hn => by
      rw [List.mem_singleton.mp hn]
      exact h m List.mem_cons_self
    obtain ⟨p2, e3, e4⟩ := goS_tail hf (ns := r) (pl := p1) nd2.2 (fun n hn => by
      rw [e2, if_neg (by simpa using fun e : n = m => nd2.1 (e ▸ hn))]
      exact h n (List.mem_cons_of_mem m hn)) fun n hn => lab n (List.mem_cons_of_mem m hn)
    refine ⟨p2, ?_, fun n => ?_⟩
    · show goS pl fd (([m], []) :: r.map fun n => ([n], [])) = _
      unfold goS
      rw [if_pos (by simpa using lab m List.mem_cons_self), hf]
      simp only [e1, if_true]
      exact e3
    · rw [e4, e2]
      by_cases e : n = m
      · subst e
        simp [nd2.1]
      · by_cases f : n ∈ r
        · simp [f]
        · simp [e, f]
/-- the whole text: lines, then names, then the empty line at the end -/
theorem goS_all {D : List (Str × Nat)} {r : List (Bool × List Str)} (ok : NamesOk D) (le : ∀ q ∈ D, q.2 ≤ r.length) (h : ∀ q ∈ r, q.2 ≠ []) : ∃ pl, goS [] [] (linesS D 0 r ++ tailS D r.length) = some (pl, r.map (·.2)) ∧ ∀ n, pl.lookup n = (D.lookup n).map fun p : Nat => (p : Int) := by
  obtain ⟨p1, e1, u1⟩ := goS_lines ok (r := r) (k := 0) (pl := []) (fd := []) (fun n => by
    cases D.lookup n <;> simp) rfl h
  rw [Nat.zero_add] at u1
  rw [List.nil_append] at e1
  obtain ⟨p2, e2, u2⟩ := goS_tail (k := r.length) (fd := r.map (·.2)) (by simp) (nodup_namesAt ok.1) (upto_none ok u1) fun n hn => ok.2 _ (mem_namesAt.mp hn)
  refine ⟨p2, ?_, fun n => ?_⟩
  · rw [goS_append, e1]
    exact e2
  · have u3 := upto_next ok u1 u2 n
    rw [u3]
    cases e : D.lookup n with
    | none => rfl
    | some p =>
      have z := le _ ((lookup_iff ok.1).mp e)
      have z2 : p < r.length + 1 := Nat.lt_succ_of_le z
      simp only [Option.bind_some, Option.map_some]
      rw [if_pos z2]
/-! ### the instructions of known words -/
theorem ins_plain {w : Str} {pl : List (Str × Int)} (h : w ∈ wPlain) : insOf [w] pl = some (w, 0) := if_pos h
theorem jump_data {w : Str} (h : w ∈ wData) : w ∉ wJump := fun g => by
  simp only [wData, List.map_cons, List.map_nil, List.mem_cons, List.not_mem_nil, or_false] at h
  simp only [wJump, List.map_cons, List.map_nil, List.mem_cons, List.not_mem_nil, or_false] at g
  rcases h with rfl | rfl | rfl | rfl | rfl | rfl | rfl | rfl | rfl <;> (rcases g with g | g | g <;> exact absurd g (by decide +kernel))
theorem ins_name {w n : Str} {pl : List (Str × Int)} {k : Int} (h : w ∈ wJump) (e : pl.lookup n = some k) : insOf [w, n] pl = some (w, k) := by
  unfold insOf
  simp only []
  rw [if_pos (.inl h), if_pos h, e]
theorem dig_num {q : Str} {n : Nat} (e : tl q = numL n) (h : n < 1000) : digitsOk q ∧ numOf q = n := by
  refine ⟨⟨?_, ?_, fun c hc => ?_⟩, ?_⟩
  · rw [len_tl, e]
    exact List.length_pos_iff.mpr (numL_ne n)
  · rw [len_tl, e]
    exact numL_len (by decide) (by omega)
  · rw [e] at hc
    exact digs.mpr (numL_digits n c hc)
  · unfold numOf
    rw [e, numL_val]
theorem ins_num {w q : Str} {pl : List (Str × Int)} {n : Nat} (h : (w ∈ wJump ∧ pl.lookup q = none) ∨ w ∈ wData) (e : tl q = numL n) (hn : n < 1000) : insOf [w, q] pl = some (w, (n : Int)) := by
  obtain ⟨d1, d2⟩ := dig_num e hn
  unfold insOf
  simp only []
  rcases h with ⟨h1, h2⟩ | h1
  · rw [if_pos (.inl h1), if_pos h1, h2]
    simp only []
    rw [if_pos d1, d2]
  · rw [if_pos (.inr h1), if_neg (jump_data h1)]
    simp only []
    rw [if_pos d1, d2]
theorem insAll_ok2 {pl : List (Str × Int)} : ∀ {fd : List (List Str)} {code : List (Str × Int)}, PySem.Paired (fun W q => insOf W pl = some q) fd code → insAll pl fd = some code
  | [], _, h => by cases h; rfl
  | W :: r, _, h => by
    cases h with
    | @cons _ q _ c a h =>
      have ih := insAll_ok2 h
      unfold insAll
      rw [a]
      simp only []
      rw [ih]
      rfl
theorem asm_some {x : Str} {d c : Nat} {pl : List (Str × Int)} {fd : List (List Str)} {code : List (Str × Int)} (e : asmGo [] [] (Txt.split x (Str.ofString "\n")) = some (pl, fd)) (hl : fd.length ≤ 2 ^ c) (hi : insAll pl fd = some code) (ho : ∀ q ∈ code, OkRow d c q.1 q.2) : asm x d c = some code := by
  unfold asm
  rw [show Txt.split x (Str.ofString "\n") = Txt.split x ("\n" : Str) from rfl] at e
  rw [e]
  simp only []
  rw [if_pos hl, hi]
  simp only []
  rw [if_pos ho]
theorem asm_none {x : Str} {d c : Nat} (h : ∀ pl fd, asmGo [] [] (Txt.split x (Str.ofString "\n")) = some (pl, fd) → 2 ^ c < fd.length ∨ insAll pl fd = none ∨ ∃ code, insAll pl fd = some code ∧ ∃ q ∈ code, ¬ OkRow d c q.1 q.2) : asm x d c = none := by
  unfold asm
  rw [show Txt.split x (Str.ofString "\n") = Txt.split x ("\n" : Str) from rfl] at h
  cases e : asmGo [] [] (Txt.split x "\n") with
  | none => rfl
  | some q =>
    obtain ⟨pl, fd⟩ := q
    simp only []
    rcases h pl fd e with a | a | ⟨code, a, q, hq, b⟩
    · rw [if_neg (by omega)]
    · rw [a]
      split <;> rfl
    · rw [a]
      simp only []
      by_cases hl : fd.length ≤ 2 ^ c
      · rw [if_pos hl, if_neg (fun z => b (z q hq))]
      · rw [if_neg hl]
end
section
open PySem L2 TL
theorem isW_no {p : List Nat} (h : isW p) {c : Nat} (hc : c < 33 ∨ c = 58 ∨ c = 47) : c ∉ p := fun m => by
  have := h.2 c m
  omega
theorem lineB_no10 : ∀ (ns : List (List Nat)) (b : Nat) (t : List Nat), (∀ n ∈ ns, isW n) → 10 ∉ t → 10 ∉ lineB b ns t
  | [], b, t, _, ht => fun m => (List.mem_append.mp m).elim (sp_free (by decide)) ht
  | n :: r, b, t, h, ht => fun m => by
    have hn := h n List.mem_cons_self
    rcases List.mem_append.mp m with m | m
    · rcases List.mem_append.mp m with m | m
      · exact sp_free (by decide) m
      · exact isW_no hn (.inl (by decide)) m
    · rcases List.mem_append.mp m with m | m
      · simp at m
      · exact lineB_no10 r 1 t (fun z hz => h z (List.mem_cons_of_mem _ hz)) ht m
theorem lineP {b : Nat} {ns ws : List Str} {t rem : List Nat} (hr : rem = [] ∨ ∃ r, rem = [47, 47] ++ r) (r10 : 10 ∉ rem) (hn : ∀ n ∈ ns, isW (tl n)) (h58 : 58 ∉ t) (h47 : 47 ∉ t) (h10 : 10 ∉ t) (hw : wfin (t.foldl wstep ([], [])) = ws.map tl) : LineP (lineB b (ns.map tl) t ++ rem) (ns, ws) where
  nl := fun m => (List.mem_append.mp m).elim (lineB_no10 _ _ _ (fun n m => by
    obtain ⟨y, hy, rfl⟩ := List.mem_map.mp m
    exact hn y hy) h10) r10
  sem := fun y e => by
    obtain ⟨e1, e2⟩ := line_ok e hr hn h58 h47
    exact ⟨e1, map_tl_inj (e2.trans hw)⟩
theorem no_app {c : Nat} {a b : List Nat} (h1 : c ∉ a) (h2 : c ∉ b) : c ∉ a ++ b := fun m => (List.mem_append.mp m).elim h1 h2
/-- a word, perhaps a remark -/
theorem lineP1 {b e : Nat} {ns : List Str} {w : Str} {rem : List Nat} (hr : rem = [] ∨ ∃ r, rem = [47, 47] ++ r) (r10 : 10 ∉ rem) (hn : ∀ n ∈ ns, isW (tl n)) (hw : isW (tl w)) : LineP (lineB b (ns.map tl) (tl w ++ sp e) ++ rem) (ns, [w]) :=
  lineP hr r10 hn (no_app (isW_no hw (.inr (.inl rfl))) (sp_free (by decide))) (no_app (isW_no hw (.inr (.inr rfl))) (sp_free (by decide))) (no_app (isW_no hw (.inl (by decide))) (sp_free (by decide))) (words1 hw e)
/-- a word and what stands behind it -/
theorem lineP2 {b m : Nat} {ns : List Str} {w q : Str} (hn : ∀ n ∈ ns, isW (tl n)) (hw : isW (tl w)) (hq : isW (tl q)) : LineP (lineB b (ns.map tl) (tl w ++ (sp (m + 1) ++ tl q))) (ns, [w, q]) := by
  have z := lineP (b := b) (rem := []) (ns := ns) (t := tl w ++ (sp (m + 1) ++ (tl q ++ sp 0))) (ws := [w, q]) (.inl rfl) (by simp) hn
    (no_app (isW_no hw (.inr (.inl rfl))) (no_app (sp_free (by decide)) (no_app (isW_no hq (.inr (.inl rfl))) (sp_free (by decide)))))
    (no_app (isW_no hw (.inr (.inr rfl))) (no_app (sp_free (by decide)) (no_app (isW_no hq (.inr (.inr rfl))) (sp_free (by decide)))))
    (no_app (isW_no hw (.inl (by decide))) (no_app (sp_free (by decide)) (no_app (isW_no hq (.inl (by decide))) (sp_free (by decide))))) (words2 hw hq m 0)
  rw [List.append_nil, show sp 0 = [] from rfl, List.append_nil] at z
  exact z
/-- a remark alone -/
theorem lineP0 {rem : List Nat} (hr : rem = [] ∨ ∃ r, rem = [47, 47] ++ r) (r10 : 10 ∉ rem) : LineP rem ([], []) := lineP (b := 0) (ns := []) (ws := []) (t := []) hr r10 (by simp) (by simp) (by simp) (by simp) rfl
/-- a name alone -/
theorem lineN {n : Str} (h : isW (tl n)) : LineP (tl n ++ [58]) ([n], []) where
  nl := no_app (isW_no h (.inl (by decide))) (by simp)
  sem := fun y e => by
    have s2 : tl (Str.ofString "//") = [47, 47] := by decide +kernel
    have s1 : tl (Str.ofString ":") = [58] := by decide +kernel
    have e1 : tl (Txt.partition y (Str.ofString "//")).1 = tl n ++ [58] := by
      rw [partition_par y _ (by rw [s2]; simp), s2, e, par_none1 (no_app (isW_no h (.inr (.inr rfl))) (by simp))]
      exact e
    have e2 : (rowsOf y).map tl = [tl n, []] := by
      unfold rowsOf
      rw [split_spl _ _ (by rw [s1]; simp) (kind_ok (by decide +kernel)), e1, s1]
      have z := spl_part1 (s := 58) (S := []) (p := tl n) (rest := []) (acc := []) (isW_no h (.inr (.inl rfl)))
      rw [show ((58 : Nat) :: [] ++ []) = [58] from rfl] at z
      rw [z]
      rfl
    rcases hR : rowsOf y with _ | ⟨u, _ | ⟨v, _ | ⟨v2, r2⟩⟩⟩
    · rw [hR] at e2
      exact absurd (congrArg List.length e2) (by simp)
    · rw [hR] at e2
      exact absurd (congrArg List.length e2) (by simp)
    · rw [hR] at e2
      have eu : tl u = tl n := (List.cons.inj e2).1
      have ev : tl v = [] := (List.cons.inj (List.cons.inj e2).2).1
      refine ⟨?_, ?_⟩
      · unfold namesOf
        rw [hR]
        refine map_tl_inj ?_
        show [tl (Txt.strip u)] = [tl n]
        rw [strip_pad (b := 0) h (by rw [eu]; rfl)]
      · unfold wordsOf
        rw [hR]
        refine map_tl_inj ?_
        show (Txt.words v).map tl = []
        rw [words_tl, ev]
        rfl
    · rw [hR] at e2
      have := congrArg List.length e2
      simp at this
theorem lineB_names : ∀ (ns : List (List Nat)) (b : Nat) (t : List Nat), (sp b ++ (ns.map fun n => n ++ [58, 32]).flatten) ++ t = lineB b ns t
  | [], b, t => by simp [lineB]
  | n :: r, b, t => by
    have h := lineB_names r 1 t
    show _ = (sp b ++ n) ++ ([58] ++ lineB 1 r t)
    rw [← h]
    simp [sp]
theorem isW_word {w : Str} (h : w ∈ cIs) : isW (tl w) := by
  have : ∀ w ∈ cIs, tl w ≠ [] ∧ ∀ c ∈ tl w, 33 ≤ c ∧ c ≤ 126 ∧ c ≠ 58 ∧ c ≠ 47 := by decide +kernel
  exact this w h
theorem isW_num (n : Nat) : isW (numL n) := ⟨numL_ne n, fun c hc => by
  have := numL_digits n c hc
  omega⟩
/-- names of a letter and a number -/
def nameS (l : Nat) (k : Nat) : Str := ⟨(l :: numL k).toArray⟩
theorem tl_nameS {l k : Nat} : tl (nameS l k) = l :: numL k := rfl
theorem isW_name {l k : Nat} (h : 97 ≤ l ∧ l ≤ 122) : isW (tl (nameS l k)) := ⟨by simp [tl_nameS], fun c hc => by
  rw [tl_nameS] at hc
  rcases List.mem_cons.mp hc with rfl | hc
  · omega
  · exact (isW_num k).2 c hc⟩
theorem nameS_inj {l k k2 : Nat} (h : nameS l k = nameS l k2) : k = k2 := by
  have e := congrArg tl h
  rw [tl_nameS, tl_nameS] at e
  exact numL_inj (List.cons.inj e).2
theorem label_name {l k : Nat} (h : 97 ≤ l ∧ l ≤ 122) (hk : k < 1000) : labelOk (nameS l k) := by
  have letters : ∀ c : Nat, 97 ≤ c → c ≤ 122 → c ∈ labSigns := by
    intro c h1 h2
    have z : ∀ c, c < 123 → 97 ≤ c → c ∈ labSigns := by decide +kernel
    exact z c (by omega) h1
  have digits : ∀ c : Nat, 48 ≤ c → c ≤ 57 → c ∈ labSigns := by
    intro c h1 h2
    have z : ∀ c, c < 58 → 48 ≤ c → c ∈ labSigns := by decide +kernel
    exact z c (by omega) h1
  refine ⟨fun e => ?_, ?_, fun c hc => ?_, fun c r e => ?_⟩
  · have e2 := congrArg tl e
    rw [tl_nameS] at e2
    exact absurd e2 (by rw [show tl ("" : Str) = [] from rfl]; simp)
  · rw [len_tl, tl_nameS]
    have := numL_len (n := k) (k := 3) (by decide) (by omega)
    simp
    omega
  · rw [tl_nameS] at hc
    rcases List.mem_cons.mp hc with rfl | hc
    · exact letters _ h.1 h.2
    · have := numL_digits k c hc
      exact digits _ this.1 this.2
  · rw [tl_nameS] at e
    have e2 := (List.cons.inj e).1
    intro m
    have := digs.mp m
    omega
end
section
open PySem L2 TL
def LkOk (D : List (Str × Nat)) (pl : List (Str × Int)) : Prop := ∀ n, pl.lookup n = (D.lookup n).map fun p : Nat => (p : Int)
def rowI (q : Str × Nat) : Str × Int := (q.1, (q.2 : Int))
/-- what line k is, as lines of the text -/
structure LinesAt (D : List (Str × Nat)) (d c k : Nat) (q : Str × Nat) (x : List Nat) (b : Bool) (W : List Str) (ps : List (List Nat)) : Prop where
  txt : x = txtL ps
  lines : PySem.Paired LineP ps (lineS D k b W)
  ne : W ≠ []
  ins : ∀ pl, LkOk D pl → insOf W pl = some (rowI q)
  row : OkRow d c q.1 (q.2 : Int)
  okW : ∀ w ∈ W, isW (tl w)
def namesL (D : List (Str × Nat)) (k : Nat) : List Nat := ((namesAt D k).map fun n => tl n ++ [58, 32]).flatten
def noteL : List Nat := [47, 47, 32, 110, 111, 116, 101]
/-- the three forms of a line -/
inductive Built (D : List (Str × Nat)) (d c k : Nat) : (Str × Nat) → List Nat → Prop
  | plain {w : Str} {bl rem : List Nat} (hw : w ∈ wPlain) (hb : bl = [] ∨ bl = sp 2 ∨ bl = noteL ++ [10]) (hr : rem = [] ∨ rem = sp 1 ++ [47, 47, 32, 120]) : Built D d c k (w, 0) (bl ++ (namesL D k ++ (tl w ++ rem)))
  | jump {w q : Str} {n m : Nat} {bl : List Nat} (hw : w ∈ wJump) (hb : bl = [] ∨ bl = sp 2 ∨ bl = noteL ++ [10]) (iq : isW (tl q)) (hq : D.lookup q = some n ∨ (tl q = numL n ∧ D.lookup q = none)) (hn : n < 2 ^ c) (h3 : n < 1000) : Built D d c k (w, n) (bl ++ (namesL D k ++ (tl w ++ (sp (m + 1) ++ tl q))))
  | data {w q : Str} {n : Nat} (hw : w ∈ wData) (hq : tl q = numL n) (hn : n < 2 ^ d) (h3 : n < 1000) : Built D d c k (w, n) (namesL D k ++ (tl w ++ (sp 1 ++ tl q)))
theorem namesL_line {D : List (Str × Nat)} {k b : Nat} {t : List Nat} : sp b ++ (namesL D k ++ t) = lineB b ((namesAt D k).map tl) t := by
  rw [← lineB_names]
  simp [namesL, List.map_map, Function.comp_def]
theorem isW_names {D : List (Str × Nat)} (h : ∀ q ∈ D, isW (tl q.1)) {k : Nat} : ∀ n ∈ namesAt D k, isW (tl n) := fun n hn => h _ (mem_namesAt.mp hn)
theorem in_cIs {w : Str} (h : w ∈ wPlain ∨ w ∈ wJump ∨ w ∈ wData) : w ∈ cIs := mem_cIs.mpr h
theorem note_lineP : LineP noteL ([], []) := lineP0 (.inr ⟨[32, 110, 111, 116, 101], rfl⟩) (by decide)
/-- blanks ahead of a line, or a remark on a line of its own -/
theorem blanks {D : List (Str × Nat)} {d c k : Nat} {q : Str × Nat} {bl t : List Nat} {W : List Str} (hb : bl = [] ∨ bl = sp 2 ∨ bl = noteL ++ [10]) (h : ∀ b, LineP (lineB b ((namesAt D k).map tl) t) (namesAt D k, W)) (ne : W ≠ []) (ins : ∀ pl, LkOk D pl → insOf W pl = some (rowI q)) (row : OkRow d c q.1 (q.2 : Int)) (okW : ∀ w ∈ W, isW (tl w)) :
    ∃ b ps, LinesAt D d c k q (bl ++ (namesL D k ++ t) ++ [10]) b W ps := by
  rcases hb with rfl | rfl | rfl
  · refine ⟨false, [lineB 0 ((namesAt D k).map tl) t], ?_, .cons (h 0) .nil, ne, ins, row, okW⟩
    rw [← namesL_line]
    simp [txtL, sp]
  · refine ⟨false, [lineB 2 ((namesAt D k).map tl) t], ?_, .cons (h 2) .nil, ne, ins, row, okW⟩
    rw [← namesL_line]
    simp [txtL]
  · refine ⟨true, [noteL, lineB 0 ((namesAt D k).map tl) t], ?_, .cons note_lineP (.cons (h 0) .nil), ne, ins, row, okW⟩
    rw [← namesL_line]
    simp [txtL, sp]
theorem two_isW {w q : Str} (h1 : isW (tl w)) (h2 : isW (tl q)) : ∀ v ∈ [w, q], isW (tl v) := fun v hv => by
  simp only [List.mem_cons, List.not_mem_nil, or_false] at hv
  rcases hv with rfl | rfl
  · exact h1
  · exact h2
theorem isW.str {x : Str} (h : isW (tl x)) : PyData.strOk x = true := by
  unfold PyData.strOk
  rw [Array.all_eq_true_iff_forall_mem]
  intro c hc
  have := h.2 c (Array.mem_toList_iff.mpr hc)
  exact decide_eq_true (by omega)
theorem built_lines {D : List (Str × Nat)} {d c k : Nat} {q : Str × Nat} {x : List Nat} (iD : ∀ q ∈ D, isW (tl q.1)) (B : Built D d c k q x) : ∃ b W ps, LinesAt D d c k q (x ++ [10]) b W ps := by
  have iN := isW_names iD (k := k)
  cases B with
  | @plain w bl rem hw hb hr =>
    have iw := isW_word (in_cIs (.inl hw))
    obtain ⟨b, ps, z⟩ := blanks (D := D) (d := d) (c := c) (k := k) (q := (w, 0)) (t := tl w ++ rem) (W := [w]) hb (fun b => by
      rcases hr with rfl | rfl
      · have z := lineP1 (b := b) (e := 0) (rem := []) (.inl rfl) (by simp) iN iw
        rw [List.append_nil] at z
        exact z
      · have z := lineP1 (b := b) (e := 1) (rem := [47, 47, 32, 120]) (.inr ⟨[32, 120], rfl⟩) (by simp) iN iw
        have e : ∀ (ns : List (List Nat)) (b : Nat) (t r : List Nat), lineB b ns t ++ r = lineB b ns (t ++ r) := by
          intro ns
          induction ns with
          | nil => intro b t r; simp [lineB]
          | cons n ns ih => intro b t r; show ((sp b ++ n) ++ ([58] ++ lineB 1 ns t)) ++ r = (sp b ++ n) ++ ([58] ++ lineB 1 ns (t ++ r)); rw [← ih]; simp
        rw [e] at z
        rw [List.append_assoc] at z
        exact z) (by simp) (fun pl _ => ins_plain hw) (.inl ⟨hw, rfl⟩) (fun v hv => by rw [List.mem_singleton.mp hv]; exact iw)
    exact ⟨b, [w], ps, z⟩
  | @jump w q n m bl hw hb iq hq hn h3 =>
    have iw := isW_word (in_cIs (.inr (.inl hw)))
    obtain ⟨b, ps, z⟩ := blanks (D := D) (d := d) (c := c) (k := k) (q := (w, n)) (t := tl w ++ (sp (m + 1) ++ tl q)) (W := [w, q]) hb (fun b => lineP2 (m := m) iN iw iq) (by simp) (fun pl u => by
      rcases hq with e | ⟨e1, e2⟩
      · exact ins_name hw (by rw [u q, e]; rfl)
      · exact ins_num (.inl ⟨hw, by rw [u q, e2]; rfl⟩) e1 h3) (.inr (.inl ⟨hw, Int.natCast_nonneg n, by exact_mod_cast hn⟩)) (two_isW iw iq)
    exact ⟨b, [w, q], ps, z⟩
  | @data w q n hw hq hn h3 =>
    have iw := isW_word (in_cIs (.inr (.inr hw)))
    obtain ⟨b, ps, z⟩ := blanks (D := D) (d := d) (c := c) (k := k) (q := (w, n)) (bl := []) (t := tl w ++ (sp 1 ++ tl q)) (W := [w, q]) (.inl rfl) (fun b => lineP2 (m := 0) iN iw (by rw [hq]; exact isW_num n)) (by simp) (fun pl u => ins_num (.inr hw) hq h3) (.inr (.inr ⟨hw, Int.natCast_nonneg n, by exact_mod_cast hn⟩)) (two_isW iw (by rw [hq]; exact isW_num n))
    exact ⟨b, [w, q], ps, z⟩
theorem paired_app {α β : Type} {R : α → β → Prop} {xs xs2 : List α} {ys ys2 : List β} (h : PySem.Paired R xs ys) (h2 : PySem.Paired R xs2 ys2) : PySem.Paired R (xs ++ xs2) (ys ++ ys2) := by
  induction h with
  | nil => exact h2
  | cons a _ ih => exact .cons a ih
theorem txtL_app {a b : List (List Nat)} : txtL (a ++ b) = txtL a ++ txtL b := by simp [txtL]
/-- all lines of a text -/
structure Lines (D : List (Str × Nat)) (d c k : Nat) (rows : List (Str × Nat)) (x : List Nat) (r : List (Bool × List Str)) (ps : List (List Nat)) : Prop where
  txt : x = txtL ps
  lines : PySem.Paired LineP ps (linesS D k r)
  ne : ∀ q ∈ r, q.2 ≠ []
  len : r.length = rows.length
  ins : ∀ pl, LkOk D pl → PySem.Paired (fun W q => insOf W pl = some q) (r.map (·.2)) (rows.map rowI)
  row : ∀ q ∈ rows, OkRow d c q.1 (q.2 : Int)
theorem lines_all {D : List (Str × Nat)} {d c : Nat} (iD : ∀ q ∈ D, isW (tl q.1)) : ∀ {rows : List (Str × Nat)} {xs : List (List Nat)} {k : Nat}, rows.length = xs.length → (∀ i q x, rows[i]? = some q → xs[i]? = some x → ∃ b W ps, LinesAt D d c (k + i) q (x ++ [10]) b W ps) → ∃ r ps, Lines D d c k rows (xs.map (· ++ [10])).flatten r ps
  | [], [], k, _, _ => ⟨[], [], rfl, .nil, nofun, rfl, fun _ _ => .nil, nofun⟩
  | q :: rows, x :: xs, k, hl, h => by
    obtain ⟨b, W, ps, z⟩ := h 0 q x rfl rfl
    obtain ⟨r, ps2, y⟩ := lines_all iD (rows := rows) (xs := xs) (k := k + 1) (by simpa using hl) fun i q2 x2 e1 e2 => by
      have z2 := h (i + 1) q2 x2 e1 e2
      rw [show k + (i + 1) = k + 1 + i by omega] at z2
      exact z2
    refine ⟨(b, W) :: r, ps ++ ps2, ?_, paired_app z.lines y.lines, fun p hp => ?_, by simp [y.len], fun pl u => .cons (z.ins pl u) (y.ins pl u), fun p hp => ?_⟩
    · rw [txtL_app, ← z.txt, ← y.txt]
      simp
    · rcases List.mem_cons.mp hp with rfl | hp
      · exact z.ne
      · exact y.ne p hp
    · rcases List.mem_cons.mp hp with rfl | hp
      · exact z.row
      · exact y.row p hp
/-- a text whose lines are known -/
structure TxtOk (x : Str) (D : List (Str × Nat)) (d c : Nat) (rows : List (Str × Nat)) (ps : List (List Nat)) (S : List (List Str × List Str)) (pl : List (Str × Int)) (fd : List (List Str)) : Prop where
  txt : tl x = txtL ps
  lines : PySem.Paired LineP ps S
  goes : goS [] [] S = some (pl, fd)
  look : LkOk D pl
  len : fd.length = rows.length
  ins : insAll pl fd = some (rows.map rowI)
  row : ∀ q ∈ rows, OkRow d c q.1 (q.2 : Int)
theorem paired_nl {ps : List (List Nat)} {S : List (List Str × List Str)} (h : PySem.Paired LineP ps S) : ∀ p ∈ ps, 10 ∉ p := by
  induction h with
  | nil => nofun
  | cons a _ ih =>
    intro p hp
    rcases List.mem_cons.mp hp with rfl | hp
    · exact a.nl
    · exact ih p hp
theorem empty_lineP : LineP [] ([], []) := lineP0 (.inl rfl) (by simp)
theorem asmGo_txt {y : Str} {ps : List (List Nat)} {S : List (List Str × List Str)} (e : tl y = txtL ps) (h : PySem.Paired LineP ps S) : asmGo [] [] (Txt.split y (Str.ofString "\n")) = goS [] [] (S ++ [([], [])]) :=
  asmGo_goS (split_txt e (paired_nl h)) (paired_app h (.cons empty_lineP .nil))
theorem goS_end {pl : List (Str × Int)} {fd : List (List Str)} : goS pl fd [([], [])] = some (pl, fd) := by
  rw [goS_cons, if_pos (by simp)]
  rfl
theorem TxtOk.asm {x : Str} {D : List (Str × Nat)} {d c : Nat} {rows : List (Str × Nat)} {ps : List (List Nat)} {S : List (List Str × List Str)} {pl : List (Str × Int)} {fd : List (List Str)} (h : TxtOk x D d c rows ps S pl fd) (hc : rows.length ≤ 2 ^ c) : asm x d c = some (rows.map rowI) := by
  refine asm_some (pl := pl) (fd := fd) ?_ (by rw [h.len]; exact hc) h.ins fun q hq => ?_
  · rw [asmGo_txt h.txt h.lines, goS_append, h.goes]
    exact goS_end
  · obtain ⟨p, hp, rfl⟩ := List.mem_map.mp hq
    exact h.row p hp
/-- the law's text -/
theorem text_ok {D : List (Str × Nat)} {d c : Nat} {rows : List (Str × Nat)} {xs : List (List Nat)} {y : Str} (ok : NamesOk D) (iD : ∀ q ∈ D, isW (tl q.1)) (le : ∀ q ∈ D, q.2 ≤ rows.length) (hl : rows.length = xs.length)
    (h : ∀ i q x, rows[i]? = some q → xs[i]? = some x → Built D d c i q x) (e : tl y = (xs.map (· ++ [10])).flatten ++ ((namesAt D rows.length).map fun n => tl n ++ [58, 10]).flatten) : ∃ ps S pl fd, TxtOk y D d c rows ps S pl fd := by
  obtain ⟨r, ps, z⟩ := lines_all (k := 0) iD hl fun i q x e1 e2 => by
    rw [Nat.zero_add]
    exact built_lines iD (h i q x e1 e2)
  obtain ⟨pl, e1, e2⟩ := goS_all ok (r := r) (by rw [z.len]; exact le) z.ne
  rw [z.len] at e1
  refine ⟨ps ++ (namesAt D rows.length).map (fun n => tl n ++ [58]), linesS D 0 r ++ tailS D rows.length, pl, r.map (·.2), ?_, paired_app z.lines ?_, e1, e2, by simp [z.len], insAll_ok2 (z.ins pl e2), z.row⟩
  · rw [e, z.txt, txtL_app]
    congr 1
    simp [txtL, List.map_map, Function.comp_def]
  · unfold tailS
    have : ∀ ns : List Str, (∀ n ∈ ns, isW (tl n)) → PySem.Paired LineP (ns.map fun n => tl n ++ [58]) (ns.map fun n => ([n], [])) := by
      intro ns
      induction ns with
      | nil => exact fun _ => .nil
      | cons n ns ih => exact fun h => .cons (lineN (h n List.mem_cons_self)) (ih fun m hm => h m (List.mem_cons_of_mem n hm))
    exact this _ (isW_names iD)
/-! ### the listing -/
theorem mem_nmAdd {nm : List Nat} {n k : Nat} : k ∈ nmAdd nm n ↔ k ∈ nm ∨ k = n := by
  unfold nmAdd
  split
  · refine ⟨.inl, fun h => h.elim id fun e => ?_⟩
    rw [e]
    assumption
  · simp
theorem nodup_nmAdd {nm : List Nat} {n : Nat} (h : nm.Nodup) : (nmAdd nm n).Nodup := by
  unfold nmAdd
  split
  · exact h
  · rename_i hn
    rw [List.nodup_append]
    refine ⟨h, by simp, fun a ha b hb => ?_⟩
    rw [List.mem_singleton.mp hb]
    exact fun e => hn (e ▸ ha)
theorem mem_nmOf {N k : Nat} : ∀ {rows : List (Str × Nat)} {nm : List Nat}, k ∈ nmOf N nm rows ↔ k ∈ nm ∨ ∃ q ∈ rows, q.1 ∈ wJump ∧ q.2 < N ∧ q.2 = k
  | [], nm => by simp [nmOf]
  | (w, n) :: r, nm => by
    unfold nmOf
    rw [mem_nmOf]
    by_cases h : w ∈ wJump ∧ n < N
    · rw [if_pos h, mem_nmAdd]
      constructor
      · rintro ((a | a) | ⟨q, hq, a⟩)
        · exact .inl a
        · exact .inr ⟨(w, n), List.mem_cons_self, h.1, h.2, a.symm⟩
        · exact .inr ⟨q, List.mem_cons_of_mem _ hq, a⟩
      · rintro (a | ⟨q, hq, a1, a2, a3⟩)
        · exact .inl (.inl a)
        · rcases List.mem_cons.mp hq with rfl | hq
          · exact .inl (.inr a3.symm)
          · exact .inr ⟨q, hq, a1, a2, a3⟩
    · rw [if_neg h]
      constructor
      · rintro (a | ⟨q, hq, a⟩)
        · exact .inl a
        · exact .inr ⟨q, List.mem_cons_of_mem _ hq, a⟩
      · rintro (a | ⟨q, hq, a1, a2, a3⟩)
        · exact .inl a
        · rcases List.mem_cons.mp hq with rfl | hq
          · exact absurd ⟨a1, a2⟩ h
          · exact .inr ⟨q, hq, a1, a2, a3⟩
theorem nodup_nmOf {N : Nat} : ∀ {rows : List (Str × Nat)} {nm : List Nat}, nm.Nodup → (nmOf N nm rows).Nodup
  | [], nm, h => h
  | (w, n) :: r, nm, h => by
    unfold nmOf
    refine nodup_nmOf ?_
    split
    · exact nodup_nmAdd h
    · exact h
theorem nodup_map {α β : Type} {f : α → β} (inj : ∀ a b, f a = f b → a = b) : ∀ {l : List α}, l.Nodup → (l.map f).Nodup
  | [], _ => by simp
  | a :: r, h => by
    have nd := List.nodup_cons.mp h
    rw [List.map_cons, List.nodup_cons]
    refine ⟨fun m => ?_, nodup_map inj nd.2⟩
    obtain ⟨b, hb, e⟩ := List.mem_map.mp m
    exact nd.1 (inj b a e ▸ hb)
def goalD (nm : List Nat) : List (Str × Nat) := nm.map fun k => (nameS 112 k, k)
theorem goalD_ok {nm : List Nat} (h : nm.Nodup) (h3 : ∀ k ∈ nm, k < 1000) : NamesOk (goalD nm) := by
  refine ⟨?_, fun q hq => ?_⟩
  · unfold goalD
    rw [List.map_map]
    exact nodup_map (fun a b e => nameS_inj e) h
  · obtain ⟨k, hk, rfl⟩ := List.mem_map.mp hq
    exact label_name (by decide) (h3 k hk)
theorem goalD_at {nm : List Nat} (h : nm.Nodup) {k : Nat} : namesAt (goalD nm) k = if k ∈ nm then [nameS 112 k] else [] := by
  unfold namesAt goalD
  induction nm with
  | nil => rfl
  | cons a r ih =>
    have nd := List.nodup_cons.mp h
    have ih := ih nd.2
    rw [List.map_cons, List.filter_cons]
    by_cases e : a = k
    · subst e
      rw [if_pos (by simp), if_pos List.mem_cons_self, List.map_cons]
      rw [if_neg nd.1] at ih
      rw [ih]
    · rw [if_neg (by simpa using e), ih]
      have : (k ∈ a :: r) ↔ k ∈ r := by simp [Ne.symm e]
      by_cases hk : k ∈ r
      · rw [if_pos hk, if_pos (this.mpr hk)]
      · rw [if_neg hk, if_neg (fun z => hk (this.mp z))]
theorem goalD_look {nm : List Nat} (h : nm.Nodup) {k : Nat} (hk : k ∈ nm) : (goalD nm).lookup (nameS 112 k) = some k := by
  refine (lookup_iff ?_).mpr (List.mem_map.mpr ⟨k, hk, rfl⟩)
  unfold goalD
  rw [List.map_map]
  exact nodup_map (fun a b e => nameS_inj e) h
theorem goalD_none {nm : List Nat} {q : Str} {n : Nat} (e : tl q = numL n) : (goalD nm).lookup q = none := by
  unfold goalD
  induction nm with
  | nil => rfl
  | cons a r ih =>
    rw [List.map_cons, List.lookup_cons]
    have : (q == nameS 112 a) = false := by
      simp only [beq_eq_false_iff_ne, ne_eq]
      intro z
      rw [z, tl_nameS] at e
      have m : (112 : Nat) ∈ numL n := by rw [← e]; exact List.mem_cons_self
      exact numL_free (.inr (by decide)) m
    rw [this]
    exact ih
theorem p_tl : tl (Str.ofString "p") = [112] := by decide +kernel
theorem ahead_names {nm : List Nat} (h : nm.Nodup) {k : Nat} : aheadL nm k = namesL (goalD nm) k := by
  unfold aheadL namesL
  rw [goalD_at h]
  have e2 : tl (Str.ofString ": ") = [58, 32] := by decide +kernel
  by_cases hk : k ∈ nm
  · rw [if_pos hk, if_pos hk]
    show tl (Str.ofString "p") ++ (numL k ++ tl (Str.ofString ": ")) = _
    rw [p_tl, e2]
    simp [tl_nameS]
  · rw [if_neg hk, if_neg hk]
    rfl
theorem list_line {nm : List Nat} (hn : nm.Nodup) {d c k : Nat} {w : Str} {n : Nat} (ok : OkRow d c w (n : Int)) (h3 : n < 1000) : Built (goalD nm) d c k (w, n) (aheadL nm k ++ lineL w n nm) := by
  rw [ahead_names hn]
  have s1 : tl (Str.ofString " ") = sp 1 := by decide +kernel
  have s2 : tl (Str.ofString " p") = sp 1 ++ [112] := by decide +kernel
  have num : ∀ n : Nat, tl (⟨(numL n).toArray⟩ : Str) = numL n := fun _ => rfl
  rcases ok with ⟨hw, e⟩ | ⟨hw, _, lt⟩ | ⟨hw, _, lt⟩
  · obtain rfl : n = 0 := by omega
    have e2 : lineL w 0 nm = tl w := if_pos hw
    rw [e2]
    have z := Built.plain (D := goalD nm) (d := d) (c := c) (k := k) hw (bl := []) (rem := []) (.inl rfl) (.inl rfl)
    simpa using z
  · have np : w ∉ wPlain := fun z => by
      simp only [wPlain, List.map_cons, List.map_nil, List.mem_cons, List.not_mem_nil, or_false] at z
      simp only [wJump, List.map_cons, List.map_nil, List.mem_cons, List.not_mem_nil, or_false] at hw
      rcases hw with rfl | rfl | rfl <;> (rcases z with g | g | g | g <;> exact absurd g (by decide +kernel))
    have lt2 : n < 2 ^ c := by exact_mod_cast lt
    by_cases hk : n ∈ nm
    · have e2 : lineL w n nm = tl w ++ (sp 1 ++ tl (nameS 112 n)) := by
        unfold lineL
        rw [if_neg np, if_pos ⟨hw, hk⟩]
        show tl w ++ (tl (Str.ofString " p") ++ numL n) = _
        rw [s2, tl_nameS]
        simp
      rw [e2]
      exact Built.jump (m := 0) (bl := []) hw (.inl rfl) (isW_name (by decide)) (.inl (goalD_look hn hk)) lt2 h3
    · have e2 : lineL w n nm = tl w ++ (sp 1 ++ tl (⟨(numL n).toArray⟩ : Str)) := by
        unfold lineL
        rw [if_neg np, if_neg (fun z => hk z.2)]
        show tl w ++ (tl (Str.ofString " ") ++ numL n) = _
        rw [s1]
      rw [e2]
      exact Built.jump (m := 0) (bl := []) hw (.inl rfl) (isW_num n) (.inr ⟨rfl, goalD_none rfl⟩) lt2 h3
  · have np : w ∉ wPlain := fun z => by
      simp only [wPlain, List.map_cons, List.map_nil, List.mem_cons, List.not_mem_nil, or_false] at z
      simp only [wData, List.map_cons, List.map_nil, List.mem_cons, List.not_mem_nil, or_false] at hw
      rcases hw with rfl | rfl | rfl | rfl | rfl | rfl | rfl | rfl | rfl <;> (rcases z with g | g | g | g <;> exact absurd g (by decide +kernel))
    have e2 : lineL w n nm = tl w ++ (sp 1 ++ tl (⟨(numL n).toArray⟩ : Str)) := by
      unfold lineL
      rw [if_neg np, if_neg (fun z => jump_data hw z.1)]
      show tl w ++ (tl (Str.ofString " ") ++ numL n) = _
      rw [s1]
    rw [e2]
    exact Built.data hw rfl (by exact_mod_cast lt) h3
/-- each line of the listing -/
theorem list_lines {nm : List Nat} (hn : nm.Nodup) {d c : Nat} : ∀ {rows : List (Str × Nat)} {k : Nat}, (∀ q ∈ rows, OkRow d c q.1 (q.2 : Int) ∧ q.2 < 1000) → ∃ r ps, Lines (goalD nm) d c k rows (listGo nm k rows) r ps ∧ ps.length = rows.length ∧ ∀ i x, ps[i]? = some x → ∃ W, LineP x (namesAt (goalD nm) (k + i), W) ∧ W ≠ [] ∧ ∀ w ∈ W, isW (tl w)
  | [], k, _ => ⟨[], [], ⟨rfl, .nil, nofun, rfl, fun _ _ => .nil, nofun⟩, rfl, fun i x e => by simp at e⟩
  | (w, n) :: rows, k, h => by
    obtain ⟨ok, h3⟩ := h _ List.mem_cons_self
    have iD : ∀ q ∈ goalD nm, isW (tl q.1) := fun q hq => by
      obtain ⟨k, hk, rfl⟩ := List.mem_map.mp hq
      exact isW_name (by decide)
    obtain ⟨r, ps2, y, l2, f2⟩ := list_lines hn (rows := rows) (k := k + 1) fun q hq => h q (List.mem_cons_of_mem _ hq)
    obtain ⟨W, lp, ne, ins, okW⟩ : ∃ W : List Str, LineP (aheadL nm k ++ lineL w n nm) (namesAt (goalD nm) k, W) ∧ W ≠ [] ∧ (∀ pl, LkOk (goalD nm) pl → insOf W pl = some (rowI (w, n))) ∧ ∀ w ∈ W, isW (tl w) := by
      obtain ⟨b, W, ps, z⟩ := built_lines iD (list_line hn (k := k) ok h3)
      have one : ∀ p ∈ ps, 10 ∉ p := paired_nl z.lines
      have no10 : 10 ∉ aheadL nm k ++ lineL w n nm := by
        have L2 : Built (goalD nm) d c k (w, n) (aheadL nm k ++ lineL w n nm) := list_line hn ok h3
        rw [ahead_names hn]
        have np := isW_names iD (k := k)
        refine no_app (fun m => ?_) ?_
        · obtain ⟨a, ha, hm⟩ := List.mem_flatten.mp m
          obtain ⟨y, hy, rfl⟩ := List.mem_map.mp ha
          rcases List.mem_append.mp hm with hm | hm
          · exact isW_no (np y hy) (.inl (by decide)) hm
          · simp at hm
        · have iw : isW (tl w) := isW_word (in_cIs (by rcases ok with ⟨a, _⟩ | ⟨a, _⟩ | ⟨a, _⟩; exact .inl a; exact .inr (.inl a); exact .inr (.inr a)))
          have w10 := isW_no iw (c := 10) (.inl (by decide))
          have n10 : 10 ∉ numL n := numL_free (.inl (by decide))
          unfold lineL
          split
          · exact w10
          · split
            · exact no_app w10 (no_app (by decide +kernel) n10)
            · exact no_app w10 (no_app (by decide +kernel) n10)
      have sp1 := spl_txt ps one
      rw [← z.txt] at sp1
      have sp2 := spl_txt [aheadL nm k ++ lineL w n nm] (by simpa using no10)
      rw [show txtL [aheadL nm k ++ lineL w n nm] = aheadL nm k ++ lineL w n nm ++ [10] by simp [txtL], sp1] at sp2
      have eps : ps = [aheadL nm k ++ lineL w n nm] := List.append_cancel_right sp2
      have lns := z.lines
      rw [eps] at lns
      cases b
      · cases lns with
        | cons a _ => exact ⟨W, a, z.ne, z.ins, z.okW⟩
      · have := paired_len lns
        simp [lineS] at this
    refine ⟨(false, W) :: r, (aheadL nm k ++ lineL w n nm) :: ps2, ⟨?_, .cons lp y.lines, fun p hp => ?_, by simp [y.len], fun pl u => .cons (ins pl u) (y.ins pl u), fun p hp => ?_⟩, by simp [l2], fun i x e => ?_⟩
    · show (aheadL nm k ++ lineL w n nm ++ tl "\n") ++ listGo nm (k + 1) rows = _
      rw [y.txt, show tl ("\n" : Str) = [10] from by decide +kernel]
      simp [txtL]
    · rcases List.mem_cons.mp hp with rfl | hp
      · exact ne
      · exact y.ne p hp
    · rcases List.mem_cons.mp hp with rfl | hp
      · exact ok
      · exact y.row p hp
    · cases i with
      | zero =>
        cases e
        exact ⟨W, lp, ne, okW⟩
      | succ i =>
        obtain ⟨W2, a, b⟩ := f2 i x (by simpa using e)
        rw [show k + 1 + i = k + (i + 1) by omega] at a
        exact ⟨W2, a, b⟩
/-- the listing's text -/
theorem listing_ok {z : Str} {d c : Nat} {rows : List (Str × Nat)} (h : ∀ q ∈ rows, OkRow d c q.1 (q.2 : Int) ∧ q.2 < 1000) (hl : rows.length < 1000) (e : tl z = listL rows) : ∃ ps S pl fd, TxtOk z (goalD (nmOf rows.length [] rows)) d c rows ps S pl fd ∧ ps.length = rows.length ∧ ∀ i x, ps[i]? = some x → ∃ W, LineP x (namesAt (goalD (nmOf rows.length [] rows)) i, W) ∧ W ≠ [] ∧ ∀ w ∈ W, isW (tl w) := by
  have hn := nodup_nmOf (N := rows.length) (rows := rows) (nm := []) List.nodup_nil
  have lt : ∀ k ∈ nmOf rows.length [] rows, k < rows.length := fun k hk => by
    rcases mem_nmOf.mp hk with a | ⟨q, _, _, a, rfl⟩
    · simp at a
    · exact a
  obtain ⟨r, ps, y, l, f⟩ := list_lines hn (k := 0) h
  have ok := goalD_ok hn fun k hk => by have := lt k hk; omega
  obtain ⟨p1, e1, u1⟩ := goS_lines ok (r := r) (k := 0) (pl := []) (fd := []) (fun n => by
    cases (goalD (nmOf rows.length [] rows)).lookup n <;> simp) rfl y.ne
  rw [List.nil_append] at e1
  have look : LkOk (goalD (nmOf rows.length [] rows)) p1 := fun n => by
    rw [u1 n]
    cases e : (goalD (nmOf rows.length [] rows)).lookup n with
    | none => rfl
    | some p =>
      have m := (lookup_iff ok.1).mp e
      obtain ⟨k, hk, e2⟩ := List.mem_map.mp m
      cases e2
      have := lt p hk
      rw [← y.len] at this
      simp only [Option.bind_some, Option.map_some]
      rw [if_pos (by omega)]
  refine ⟨ps, linesS _ 0 r, p1, r.map (·.2), ⟨by rw [e]; exact y.txt, y.lines, e1, look, by simp [y.len], insAll_ok2 (y.ins p1 look), y.row⟩, l, fun i x e => ?_⟩
  have := f i x e
  rwa [Nat.zero_add] at this
/-! ### wrong lines -/
/-- text and lines behind it that are not taken -/
theorem bad_asm {x y : Str} {D : List (Str × Nat)} {d c : Nat} {rows : List (Str × Nat)} {ps bs : List (List Nat)} {S SB : List (List Str × List Str)} {pl : List (Str × Int)} {fd : List (List Str)} (h : TxtOk x D d c rows ps S pl fd) (e : tl y = tl x ++ txtL bs) (hb : PySem.Paired LineP bs SB)
    (bad : ∀ pl' fd', goS pl fd (SB ++ [([], [])]) = some (pl', fd') → insAll pl' fd' = none ∨ ∃ code, insAll pl' fd' = some code ∧ ∃ q ∈ code, ¬ OkRow d c q.1 q.2) : asm y d c = none := by
  refine asm_none fun pl' fd' g => ?_
  rw [asmGo_txt (ps := ps ++ bs) (by rw [e, h.txt, txtL_app]) (paired_app h.lines hb), List.append_assoc, goS_append, h.goes] at g
  exact .inr (bad pl' fd' g)
theorem bad_label {pl : List (Str × Int)} {fd : List (List Str)} {s : List Str × List Str} {r : List (List Str × List Str)} {n : Str} (hn : n ∈ s.1) (h : ¬ labelOk n) : goS pl fd (s :: r) = none := by
  rw [goS_cons, if_neg (fun z => h (z n hn))]
theorem goS_word {pl : List (Str × Int)} {fd : List (List Str)} {W : List Str} (ne : W ≠ []) : goS pl fd ([([], W)] ++ [([], [])]) = some (pl, fd ++ [W]) := by
  show goS pl fd (([], W) :: [([], [])]) = _
  rw [goS_cons, if_pos (by simp)]
  show goS pl (if W = [] then fd else fd ++ [W]) [([], [])] = _
  rw [if_neg ne]
  exact goS_end
theorem bad_word {x y : Str} {D : List (Str × Nat)} {d c : Nat} {rows : List (Str × Nat)} {ps : List (List Nat)} {b : List Nat} {S : List (List Str × List Str)} {W : List Str} {pl : List (Str × Int)} {fd : List (List Str)} (h : TxtOk x D d c rows ps S pl fd) (e : tl y = tl x ++ (b ++ [10])) (hb : LineP b ([], W)) (ne : W ≠ [])
    (bad : insOf W pl = none ∨ ∃ q, insOf W pl = some q ∧ ¬ OkRow d c q.1 q.2) : asm y d c = none := by
  refine bad_asm (bs := [b]) h (by rw [e]; simp [txtL]) (.cons hb .nil) fun pl' fd' g => ?_
  rw [goS_word ne] at g
  cases g
  rcases bad with a | ⟨q, a, b⟩
  · exact .inl (insAll_none a (by simp))
  · refine .inr ⟨_, insAll_snoc a h.ins, q, by simp, b⟩
theorem bad_name {x y : Str} {D : List (Str × Nat)} {d c : Nat} {rows : List (Str × Nat)} {ps : List (List Nat)} {b : List Nat} {S : List (List Str × List Str)} {s : List Str × List Str} {n : Str} {bs : List (List Nat)} {SB : List (List Str × List Str)} {pl : List (Str × Int)} {fd : List (List Str)} (h : TxtOk x D d c rows ps S pl fd) (e : tl y = tl x ++ txtL (b :: bs)) (hb : LineP b s) (hbs : PySem.Paired LineP bs SB)
    (bad : (∃ n ∈ s.1, ¬ labelOk n) ∨ ∃ n r v, s.1 = n :: r ∧ D.lookup n = some v) : asm y d c = none := by
  refine bad_asm (bs := b :: bs) h e (.cons hb hbs) fun pl' fd' g => ?_
  exfalso
  rcases bad with ⟨n, hn, no⟩ | ⟨n, r, v, es, ev⟩
  · rw [List.cons_append, bad_label hn no] at g
    cases g
  · have tw : addNames fd.length pl s.1 = none := by
      rw [es]
      exact addNames_twice (v := (v : Int)) (by rw [h.look n, ev]; rfl)
    rw [List.cons_append, goS_cons, tw] at g
    by_cases ok : ∀ y ∈ s.1, labelOk y
    · rw [if_pos ok] at g
      cases g
    · rw [if_neg ok] at g
      cases g
/-- a line that is known as it stands -/
theorem lineC {x : Str} {s : List Str × List Str} (nl : 10 ∉ tl x) (e : namesOf x = s.1 ∧ wordsOf x = s.2) : LineP (tl x) s where
  nl := nl
  sem := fun y ey => by
    have : y = x := map_tl_inj (l := [y]) (m := [x]) (by simp [ey]) |> List.cons.inj |>.1
    rw [this]
    exact e
theorem test1 : namesOf (Str.ofString "fly") = [] ∧ wordsOf (Str.ofString "fly") = [Str.ofString "fly"] := by decide +kernel
theorem test2 : namesOf (Str.ofString ": out") = [Str.ofString ""] ∧ wordsOf (Str.ofString ": out") = [Str.ofString "out"] := by decide +kernel
end
section
open PySem L2 LamX PySem.Spec PyProof.Rows
section
variable {X : Cx}
/-- the def that tells: XO is how what is raised comes back -/
structure ToldX (X : Cx) (x : Str) (g : Addr) (q : Str) (XO : VK → XK) : Prop where
  mg : X.mg x = some (.ref g)
  keep : PySem.W.keepIn X.K (.ref g) = true
  run : ∃ (oc : Value) (od : Option Addr) (pg : Arguments) (bg : List Stmt) (sg : Scope) (dV kV doc pm : Value) (an : Option Addr) (cdv ct : Value) (osl : Array (Option Value)) (Ng : List Str) (a : Str),
    X.K.lookup g = some ⟨oc, od, .func (PySem.W.fnOf x x pg bg sg dV kV doc pm an cdv ct), osl⟩ ∧ PySem.W.codeIn X.K cdv x = true ∧ L2.Binds X.K (PySem.W.fnOf x x pg bg sg dV kV doc pm an cdv ct) [a] [] ∧ FnScope Ng [a] sg ∧ Ng[0]? = some a ∧ Vis sg a ∧
    (a == ("__debug__" : Str)) = false ∧ (a == ("__classdict__" : Str)) = false ∧ GivesTo X Ng x sg g cdv bg a q (fun tl H Q => tl (XO Q) H Q)
def XOne (K : PySem.W.Frag) (CS : Addr) (ret : Str) (Q : VK) : XK := fun cls _ H' => ∃ b, PySem.W.exmOne K cls (.ref CS) = some b ∧ (b = true → Q (.str ret) H') ∧ (b = false → False)
def tLamX (T : List (Addr × Str)) (P : Addr) (XO : VK → XK) (t : XK → TE) : TE := fun σ H Q => Tabs T H ∧ ∀ H1, ExtN H H1 → ExtP P H H1 → Tabs T H1 → t (XO Q) σ H1 Q
theorem e_tLamX {T : List (Addr × Str)} {P : Addr} {XO : VK → XK} {t : XK → TE} {σ : L2.St} {H : Hp} {Q : VK} : tLamX T P XO t σ H Q = (Tabs T H ∧ ∀ H1, ExtN H H1 → ExtP P H H1 → Tabs T H1 → t (XO Q) σ H1 Q) := rfl
theorem pe_toldX {T : List (Addr × Str)} {c P g : Addr} {k : Nat} {x : Str} {XO : VK → XK} {params : Arguments} {body : Expr} {scope : Scope} {t : XK → TE} {p lpos pos : Pos}
    (hg : Gl X x) (D : ToldX X x g (X.env.qual ++ "<lambda>") XO) (TB : LamTab X T c P) (hr : Room (k + 2) X.A) (L : LamS X.env.scope scope) (hdef : defaultsOf params X.env = ([], []))
    (hbind : ∀ (q : Str) (cl : List (Str × Addr)) (pm cv ctv : Value), bindArgs (PySem.W.kla_fn "<lambda>" q params body scope cl pm cv ctv) ⟨[], []⟩ = pure [])
    (hbody : ∀ (A : Around) (outer : List Env) (s : Shared) (H : Hp) (E : XK) (f c' : Addr), Room k (A.deeper (lamEnv X scope s.heap.objs.size f c')) → PE (lamCx X A outer s H E scope f c') body (t E))
    (hdb : (x == ("__debug__" : Str)) = false := by decide) (hs : starEach [.Lambda params body scope lpos] X.env = (false, eval (.Lambda params body scope lpos) X.env) :: starEach [] X.env := by rfl) :
    PE X (.Call (.Name x p) [.Lambda params body scope lpos] [] pos) (tLamX T P XO t) := by
  obtain ⟨mg, keep, oc, od, pg, bg, sg, dV, kV, doc, pm, an, cdv, ct, osl, Ng, a, lk, hcg, hb, Sg, hNg, hva, hd, hcd, gives⟩ := D
  refine ⟨fun pins s σ H Q I h => ?_⟩
  refine wpAny_Call_Name_kw (ld_glob I hg mg (PySem.W.callWith_K (h₀ := X.base) I.ok.mod.kin keep ?_ hs (by rfl)) hdb)
  have lam := pe_lam1 (b := ⟨params, body, scope⟩) (pos := lpos) TB L hdef
  have args := (pa_cons lam pa_nil hs).run pos pins s σ H (fun vs H3 => ∃ f c', vs = [.ref f] ∧ H3 c' = some (CodeO c' (X.env.qual ++ "<lambda>")) ∧ H3 f = some (LamO f (X.env.qual ++ "<lambda>") ⟨params, body, scope⟩ (cloFrom X.env.cells scope.names []) c') ∧ t (XO Q) σ H3 Q) I (by
    refine ⟨h.1, fun f c' H1 n e ep t1 kc => ⟨f, c', rfl, ?_, upd_same, h.2 _ (e.trans (extN_new n)) (ep.trans (extP_new n)) (tab_new n t1)⟩⟩
    rw [upd_ne (ne_of_none kc n), kc])
  refine thn args ?_
  rintro us s1 ⟨vs, H1, I1, rv, f, c', rfl, hc, hf, hq⟩
  refine ⟨I1.kIn, ?_⟩
  obtain rfl : us = [.ref f] := by
    cases rv with
    | cons r z => cases z; cases r; rfl
  have runs : codeAny (model X.prog X.w) X.A (.call (.ref g) ⟨[.ref f], []⟩) (CR C8.CX0 X.stack X.prog X.w H1 s1 Q C8.E0) s1 := by
    refine run_ofS (N := Ng) (ps := [a]) (us := [.ref f]) (vs := [.ref f]) lk hcg Sg hr I1.env0 (hb s1 [.ref f] I1.kIn rfl) (.cons rfl .nil) rfl fun hr' => ?_
    obtain ⟨t', ht', hq'⟩ := gives f c' s1 H1 Q (fun E HZ Q' => HZ f = some (LamO f (X.env.qual ++ "<lambda>") ⟨params, body, scope⟩ (cloFrom X.env.cells scope.names []) c') ∧ t E σ HZ Q')
      (fun W pn xe E p1 p2 tk hW => pe_actT (i := 0) I1 L hbind tk hW hr' (fun A outer s H hr2 => hbody A outer s H E f c' hr2) hNg hva hd hcd) hc ⟨hf, hq⟩
    exact ⟨t', ht'.nox, hq'⟩
  refine wpAny_call (codeAny_mono runs fun r s2 hq => ?_)
  match r, hq with
  | .ok (.ret u), hq => exact I1.after hq
/-- in a block of the def: its table is the def's -/
theorem LamTab.blk {T : List (Addr × Str)} {c P : Addr} {s : Shared} {H : Hp} {scope : Scope} {cl : List (Str × Addr)} {C : Addr} {fp : List Addr} (TB : LamTab X T c P) : LamTab (X.blk s H scope (compEnvC scope cl C X.env) fp) T c P := ⟨TB.tb, TB.code, TB.mem, TB.uni⟩
theorem ToldX.blk {x : Str} {g : Addr} {q : Str} {XO : VK → XK} {s : Shared} {H : Hp} {scope : Scope} {cl : List (Str × Addr)} {C : Addr} {fp : List Addr} (D0 : ∀ Y : Cx, Y.K = X.K → Y.mg = X.mg → ToldX Y x g q XO) : ToldX (X.blk s H scope (compEnvC scope cl C X.env) fp) x g q XO := D0 _ rfl rfl
end
end
section
open PySem L2 PySem.Spec PyProof.Rows TL
def rRepS : R2 := fun x y H Q => ∃ (z : Str) (k : Int), x = .str z ∧ y = .int k ∧ 0 ≤ k ∧ k ≤ 100000 ∧ z.length * k.toNat ≤ 100000 ∧ ∀ r : Str, tl r = (List.replicate k.toNat (tl z)).flatten → Q (.str r) H
theorem fold_cat : ∀ (l : List (Array Nat)) (acc : Array Nat), (l.foldl (· ++ ·) acc).toList = acc.toList ++ (l.map Array.toList).flatten
  | [], acc => by simp
  | a :: r, acc => by rw [List.foldl_cons, fold_cat r]; simp
theorem rep_tl {x : Str} {n : Nat} : tl ⟨(List.replicate n x.cps).foldl (· ++ ·) #[]⟩ = (List.replicate n (tl x)).flatten := by
  show ((List.replicate n x.cps).foldl (· ++ ·) #[]).toList = _
  rw [fold_cat]
  simp [tl]
theorem len_rep {l : List Nat} : ∀ n : Nat, (List.replicate n l).flatten.length = n * l.length
  | 0 => by simp
  | n + 1 => by
    rw [List.replicate_succ, List.flatten_cons, List.length_append, len_rep n, Nat.add_mul]
    omega
theorem op_repS {X : Cx} : OpR X (binaryOp .Mult) rRepS := by
  intro pins s σ H x y v u Q I rx ry h
  obtain ⟨z, k, rfl, rfl, h0, h1, hz, q⟩ := h
  obtain ⟨t1, rfl⟩ := rx
  obtain ⟨t2, rfl⟩ := ry
  refine PySem.P.mul_str ?_ ?_ ?_ ?_
  · rw [decide_eq_false (by omega), decide_eq_false (by omega)]; rfl
  · intro a b c
    have e1 : (100000 : Int) ≤ (2 ^ 63 - 1) / k := by
      rw [Int.le_ediv_iff_mul_le (by omega)]
      have : (100000 : Int) * k ≤ 100000 * 100000 := by omega
      omega
    have e2 : z.length ≤ 100000 := by
      have : z.length * 1 ≤ z.length * k.toNat := Nat.mul_le_mul_left _ (by omega)
      omega
    omega
  · intro a b
    have : 100000 < sizeLine := by decide
    unfold Builtin.Str.tooLong
    rw [decide_eq_false (by omega)]
  · have big : 100000 < sizeLine := by decide
    have made : ∀ r : Str, tl r = (List.replicate k.toNat (tl z)).flatten → ∀ (w : Value) (s1 : Shared), Inv X pins σ H s1 → RelV (.str r) w → EP X pins σ Q w s1 := fun r e w s1 I1 rw1 => ⟨.str r, H, I1, rw1, q r e⟩
    by_cases a : k < 1
    · rw [if_pos a]
      refine ⟨by decide, made Str.empty ?_ _ _ (I.tok _) ⟨_, rfl⟩⟩
      have e : k.toNat = 0 := by omega
      rw [e]
      rfl
    · rw [if_neg a]
      by_cases b : (k == 1 || z.length == 0) = true
      · rw [if_pos b]
        refine made z ?_ _ _ I ⟨_, rfl⟩
        rcases (by simpa using b : k = 1 ∨ z.length = 0) with c | c
        · subst c
          simp
        · rw [len_tl] at c
          have e : tl z = [] := List.length_eq_zero_iff.mp c
          rw [e]
          simp
      · rw [if_neg b]
        have e := rep_tl (x := z) (n := k.toNat)
        refine ⟨?_, made _ e _ _ (I.tok _) ⟨_, rfl⟩⟩
        have l := congrArg List.length e
        rw [← len_tl, len_rep, ← len_tl] at l
        rw [l, Nat.mul_comm]
        omega
end
section
open PySem L2 LamX

open TL
/-- the code of the law's subject, by what it promises -/
structure Sub (P : Program) (w : World) (K : PySem.W.Frag) (mg : Str → Option Value) (base : Heap) where
  (CS CE pL pJ aI : Addr)
  nLJ : pL ≠ pJ
  cS : Cls K CS
  nS_data : NoAttr K CS "data"
  nS_code : NoAttr K CS "code"
  g_INSTRUCTIONS : mg "INSTRUCTIONS" = some (.ref aI)
  w_INSTRUCTIONS : Wr K aI cI
  (f_Size : Addr)
  (d_Size : FuncData)
  m_Size : mg "Size" = some (.ref CS)
  M_Size : Mk K CS f_Size
  ok_Size : FnOk P w K mg base (L2.CX P w) 7 f_Size d_Size ["self", "data", "code"] (spSizeInit CS CE)
  b_Size : L2.Binds K d_Size ["self", "data", "code"] []
  (f_assemble : Addr)
  (d_assemble : FuncData)
  m_assemble : mg "assemble" = some (.ref f_assemble)
  k_assemble : PySem.W.keepIn K (.ref f_assemble) = true
  ok_assemble : FnOk P w K mg base (L2.CX P w) 7 f_assemble d_assemble ["text", "size"] (spAsm CS CE pL pJ)
  b_assemble : L2.Binds K d_assemble ["text", "size"] []
  (f_listing : Addr)
  (d_listing : FuncData)
  m_listing : mg "listing" = some (.ref f_listing)
  k_listing : PySem.W.keepIn K (.ref f_listing) = true
  ok_listing : FnOk P w K mg base CX0 7 f_listing d_listing ["code"] (spList K)
  b_listing : L2.Binds K d_listing ["code"] []
  (f_line_parts : Addr)
  (d_line_parts : FuncData)
  m_line_parts : mg "line_parts" = some (.ref f_line_parts)
  k_line_parts : PySem.W.keepIn K (.ref f_line_parts) = true
  ok_line_parts : FnOk P w K mg base (L2.CX P w) 7 f_line_parts d_line_parts ["line"] (spParts CE pL)
  b_line_parts : L2.Binds K d_line_parts ["line"] []
  (f_instruction_of : Addr)
  (d_instruction_of : FuncData)
  m_instruction_of : mg "instruction_of" = some (.ref f_instruction_of)
  k_instruction_of : PySem.W.keepIn K (.ref f_instruction_of) = true
  ok_instruction_of : FnOk P w K mg base (L2.CX P w) 7 f_instruction_of d_instruction_of ["words", "places"] (spIns CE pJ)
  b_instruction_of : L2.Binds K d_instruction_of ["words", "places"] []
  (f_check_label : Addr)
  (d_check_label : FuncData)
  m_check_label : mg "check_label" = some (.ref f_check_label)
  k_check_label : PySem.W.keepIn K (.ref f_check_label) = true
  ok_check_label : FnOk P w K mg base (L2.CX P w) 7 f_check_label d_check_label ["name"] (spLabel CE pL)
  b_check_label : L2.Binds K d_check_label ["name"] []
/-- the names of the law itself -/
structure Lw (K : PySem.W.Frag) (mg : Str → Option Value) (base : Heap) (P : Program) (w : World) where
  z_int : mg "int" = none
  z_str : mg "str" = none
  z_list : mg "list" = none
  z_sorted : mg "sorted" = none
  z_dict : mg "dict" = none
  z_len : mg "len" = none
  z_range : mg "range" = none
  z_enumerate : mg "enumerate" = none
  (f__law_roll : Addr)
  (d__law_roll : FuncData)
  m__law_roll : mg "_law_roll" = some (.ref f__law_roll)
  k__law_roll : PySem.W.keepIn K (.ref f__law_roll) = true
  ok__law_roll : FnOk P w K mg base CX0 1 f__law_roll d__law_roll ["dice", "many"] spRoll
  b__law_roll : L2.Binds K d__law_roll ["dice", "many"] []
  (f__law_rounds : Addr)
  (d__law_rounds : FuncData)
  m__law_rounds : mg "_law_rounds" = some (.ref f__law_rounds)
  k__law_rounds : PySem.W.keepIn K (.ref f__law_rounds) = true
  ok__law_rounds : FnOk P w K mg base CX0 2 f__law_rounds d__law_rounds ["script", "most"] (spRounds K)
  b__law_rounds : L2.Binds K d__law_rounds ["script", "most"] []
def isTbl (u : HO) : Prop := ∃ ps, u = .tbl ps
theorem TabG.keepTbl {H G : Hp} {g : Addr} {S : List Addr} (t : GxR.TabG H g) (k : Keep S H G) (n : g ∉ S) : GxR.TabG G g := by
  obtain ⟨ps, e, o⟩ := t
  exact ⟨ps, k _ _ e n, o⟩
/-- what stands while the law draws a text -/
structure St (CS pT pL pJ : Addr) (q : Str) (d p z pl rl ll : Addr) (dn cn a b c : Nat) (G : Hp) (rs : List Addr) (rws : List (Str × Nat)) (lns : List Str) : Prop where
  D : ∃ x y z : Int, G d = some (.lst [.int x, .int y, .int z])
  P : G p = some (.lst [.ref d])
  Z : SizeAt CS G z dn cn
  L : G pl = some (.lst [.int (a : Nat), .int (b : Nat), .int (c : Nat)])
  R : G rl = some (.lst (rs.map V.ref))
  RW : RowsN G rs rws
  LN : G ll = some (.lst (lns.map V.str))
  TT : LamX.Tabs [(pT, q)] G
  TL : GxR.TabG G pL
  TJ : GxR.TabG G pJ
  ap : d ≠ p ∧ d ≠ pl ∧ d ≠ rl ∧ d ≠ ll ∧ rl ≠ p ∧ rl ≠ pl ∧ rl ≠ ll ∧ ll ≠ p ∧ ll ≠ pl
section
variable {CS pT pL pJ : Addr} {q : Str} {d p z pl rl ll : Addr} {dn cn a b c : Nat} {G G2 : Hp} {rs : List Addr} {rws : List (Str × Nat)} {lns : List Str}
theorem St.tab (s : St CS pT pL pJ q d p z pl rl ll dn cn a b c G rs rws lns) : (∃ ps, G pT = some (.tbl ps)) ∧ (∃ ps, G pL = some (.tbl ps)) ∧ ∃ ps, G pJ = some (.tbl ps) := by
  obtain ⟨p1, e1, _⟩ := s.TT _ (List.mem_singleton.mpr rfl)
  obtain ⟨p2, e2, _⟩ := s.TL
  obtain ⟨p3, e3, _⟩ := s.TJ
  exact ⟨⟨p1, e1⟩, ⟨p2, e2⟩, p3, e3⟩
/-- what is no table is none of the tables -/
theorem St.nt (s : St CS pT pL pJ q d p z pl rl ll dn cn a b c G rs rws lns) {x : Addr} {u : HO} (e : G x = some u) (n : ∀ ps, u ≠ .tbl ps) : x ∉ [pT, pL, pJ] := fun h => by
  obtain ⟨⟨p1, e1⟩, ⟨p2, e2⟩, p3, e3⟩ := s.tab
  simp only [List.mem_cons, List.not_mem_nil, or_false] at h
  rcases h with rfl | rfl | rfl
  · rw [e1] at e; cases e; exact n _ rfl
  · rw [e2] at e; cases e; exact n _ rfl
  · rw [e3] at e; cases e; exact n _ rfl
theorem RowsN.keep2 {S : List Addr} {H G : Hp} {rs : List Addr} {ws : List (Str × Nat)} (h : RowsN H rs ws) (k : Keep S H G) (n : ∀ r ∈ rs, ∀ xs, H r = some (.tup xs) → r ∉ S) : RowsN G rs ws := by
  unfold RowsN at h ⊢
  induction h with
  | nil => exact .nil
  | cons a _ ih => exact .cons (k _ _ a (n _ List.mem_cons_self _ a)) (ih fun r hr => n r (List.mem_cons_of_mem _ hr))
theorem St.tabs (s : St CS pT pL pJ q d p z pl rl ll dn cn a b c G rs rws lns) (k : Keep [pT, pL, pJ] G G2) (t1 : LamX.Tabs [(pT, q)] G2) (t2 : GxR.TabG G2 pL) (t3 : GxR.TabG G2 pJ) : St CS pT pL pJ q d p z pl rl ll dn cn a b c G2 rs rws lns where
  D := let ⟨x, y, z, e⟩ := s.D; ⟨x, y, z, k _ _ e (s.nt e nofun)⟩
  P := k _ _ s.P (s.nt s.P nofun)
  Z := by
    obtain ⟨dx, fs, e, r⟩ := s.Z
    exact ⟨dx, fs, k _ _ e (s.nt e nofun), r⟩
  L := k _ _ s.L (s.nt s.L nofun)
  R := k _ _ s.R (s.nt s.R nofun)
  RW := s.RW.keep2 k fun r _ xs e => s.nt e nofun
  LN := k _ _ s.LN (s.nt s.LN nofun)
  TT := t1
  TL := t2
  TJ := t3
  ap := s.ap
theorem tabs_keep {T : List (Addr × Str)} {H H' : Hp} (t : LamX.Tabs T H) (k : Keep [] H H') : LamX.Tabs T H' := t.ext fun b o e => k b o e (by simp)
theorem St.keep (s : St CS pT pL pJ q d p z pl rl ll dn cn a b c G rs rws lns) (k : Keep [] G G2) : St CS pT pL pJ q d p z pl rl ll dn cn a b c G2 rs rws lns :=
  s.tabs (k.more (by simp)) (tabs_keep s.TT k) (TabG.keepTbl s.TL k (by simp)) (TabG.keepTbl s.TJ k (by simp))
/-- a drawn number -/
theorem St.roll (s : St CS pT pL pJ q d p z pl rl ll dn cn a b c G rs rws lns) {m : Int} {Q : VK} (h0 : 0 < m) (h1 : m ≤ 100000000) (k : ∀ (r : Nat) (G2 : Hp), (r : Int) < m → St CS pT pL pJ q d p z pl rl ll dn cn a b c G2 rs rws lns → Keep [d] G G2 → Q (.int (r : Int)) G2) : spRoll [.ref d, .int m] G Q E0 := by
  obtain ⟨x, y, z0, e⟩ := s.D
  refine ⟨d, m, x, y, z0, rfl, e, h0, h1, fun r x' y' z' r0 r1 => ?_⟩
  obtain ⟨n, rfl⟩ := Int.eq_ofNat_of_zero_le r0
  have kd : Keep [d] G (upd G d (.lst [.int x', .int y', .int z'])) := Keep.refl.at (List.mem_singleton.mpr rfl)
  have ne : ∀ {a u}, G a = some u → (∀ xs, u ≠ .lst xs) → a ∉ [d] := fun {a u} e2 n h => by
    rw [List.mem_singleton.mp h, e] at e2
    cases e2
    exact n _ rfl
  have tb : ∀ {g ps}, G g = some (.tbl ps) → upd G d (.lst [.int x', .int y', .int z']) g = some (.tbl ps) := fun {g ps} e2 => kd _ _ e2 (ne e2 nofun)
  have t1 : LamX.Tabs [(pT, q)] (upd G d (.lst [.int x', .int y', .int z'])) := fun pr hp => by
    obtain ⟨ps, e2, o⟩ := s.TT pr hp
    refine ⟨ps, tb e2, o.1, fun pos cv hc => ?_⟩
    obtain ⟨c, ec, o2⟩ := o.2 pos cv hc
    refine ⟨c, ec, ?_⟩
    exact kd _ _ o2 (ne o2 (fun xs => by unfold LamX.CodeO; nofun))
  have t2 : GxR.TabG (upd G d (.lst [.int x', .int y', .int z'])) pL := by
    obtain ⟨ps, e2, o⟩ := s.TL
    exact ⟨ps, tb e2, o⟩
  have t3 : GxR.TabG (upd G d (.lst [.int x', .int y', .int z'])) pJ := by
    obtain ⟨ps, e2, o⟩ := s.TJ
    exact ⟨ps, tb e2, o⟩
  obtain ⟨a1, a2, a3, a4, a5, a6, a7, a8, a9⟩ := s.ap
  exact k n _ r1 { D := ⟨_, _, _, upd_same⟩, P := kd _ _ s.P (by simpa using Ne.symm a1), Z := by
                     obtain ⟨dx, fs, e, r⟩ := s.Z
                     exact ⟨dx, fs, kd _ _ e (ne e nofun), r⟩
                   L := kd _ _ s.L (by simpa using Ne.symm a2), R := kd _ _ s.R (by simpa using Ne.symm a3), RW := s.RW.keep2 kd fun r _ xs e => ne e nofun, LN := kd _ _ s.LN (by simpa using Ne.symm a4), TT := t1, TL := t2, TJ := t3, ap := s.ap } kd
/-- another row -/
theorem St.row (s : St CS pT pL pJ q d p z pl rl ll dn cn a b c G rs rws lns) {r : Addr} {w : Str} {n : Nat} (e : G r = some (.tup [.str w, .int (n : Int)])) : St CS pT pL pJ q d p z pl rl ll dn cn a b c (upd G rl (.lst (rs.map V.ref ++ [.ref r]))) (rs ++ [r]) (rws ++ [(w, n)]) lns := by
  have kd : Keep [rl] G (upd G rl (.lst (rs.map V.ref ++ [.ref r]))) := Keep.refl.at (List.mem_singleton.mpr rfl)
  have ne : ∀ {a u}, G a = some u → (∀ xs, u ≠ .lst xs) → a ∉ [rl] := fun {a u} e2 n h => by
    rw [List.mem_singleton.mp h, s.R] at e2
    cases e2
    exact n _ rfl
  have tb : ∀ {g ps}, G g = some (.tbl ps) → upd G rl (.lst (rs.map V.ref ++ [.ref r])) g = some (.tbl ps) := fun {g ps} e2 => kd _ _ e2 (ne e2 nofun)
  obtain ⟨a1, a2, a3, a4, a5, a6, a7, a8, a9⟩ := s.ap
  exact { D := let ⟨x, y, z, e⟩ := s.D; ⟨x, y, z, kd _ _ e (by simpa using a3)⟩, P := kd _ _ s.P (by simpa using Ne.symm a5), Z := by
            obtain ⟨dx, fs, e, r⟩ := s.Z
            exact ⟨dx, fs, kd _ _ e (ne e nofun), r⟩
          L := kd _ _ s.L (by simpa using Ne.symm a6), R := by rw [upd_same]; simp, RW := paired_app (s.RW.keep2 kd fun r _ xs e => ne e nofun) (.cons (kd _ _ e (ne e nofun)) .nil), LN := kd _ _ s.LN (by simpa using Ne.symm a7)
          TT := fun pr hp => by
            obtain ⟨ps, e2, o⟩ := s.TT pr hp
            refine ⟨ps, tb e2, o.1, fun pos cv hc => ?_⟩
            obtain ⟨c, ec, o2⟩ := o.2 pos cv hc
            exact ⟨c, ec, kd _ _ o2 (ne o2 (fun xs => by unfold LamX.CodeO; nofun))⟩
          TL := let ⟨ps, e2, o⟩ := s.TL; ⟨ps, tb e2, o⟩
          TJ := let ⟨ps, e2, o⟩ := s.TJ; ⟨ps, tb e2, o⟩
          ap := s.ap }
/-- another line -/
theorem St.line (s : St CS pT pL pJ q d p z pl rl ll dn cn a b c G rs rws lns) (y : Str) : St CS pT pL pJ q d p z pl rl ll dn cn a b c (upd G ll (.lst (lns.map V.str ++ [.str y]))) rs rws (lns ++ [y]) := by
  have kd : Keep [ll] G (upd G ll (.lst (lns.map V.str ++ [.str y]))) := Keep.refl.at (List.mem_singleton.mpr rfl)
  have ne : ∀ {a u}, G a = some u → (∀ xs, u ≠ .lst xs) → a ∉ [ll] := fun {a u} e2 n h => by
    rw [List.mem_singleton.mp h, s.LN] at e2
    cases e2
    exact n _ rfl
  have tb : ∀ {g ps}, G g = some (.tbl ps) → upd G ll (.lst (lns.map V.str ++ [.str y])) g = some (.tbl ps) := fun {g ps} e2 => kd _ _ e2 (ne e2 nofun)
  obtain ⟨a1, a2, a3, a4, a5, a6, a7, a8, a9⟩ := s.ap
  exact { D := let ⟨x, y, z, e⟩ := s.D; ⟨x, y, z, kd _ _ e (by simpa using a4)⟩, P := kd _ _ s.P (by simpa using Ne.symm a8), Z := by
            obtain ⟨dx, fs, e, r⟩ := s.Z
            exact ⟨dx, fs, kd _ _ e (ne e nofun), r⟩
          L := kd _ _ s.L (by simpa using Ne.symm a9), R := kd _ _ s.R (by simpa using a7), RW := s.RW.keep2 kd fun r _ xs e => ne e nofun, LN := by rw [upd_same]; simp
          TT := fun pr hp => by
            obtain ⟨ps, e2, o⟩ := s.TT pr hp
            refine ⟨ps, tb e2, o.1, fun pos cv hc => ?_⟩
            obtain ⟨c, ec, o2⟩ := o.2 pos cv hc
            exact ⟨c, ec, kd _ _ o2 (ne o2 (fun xs => by unfold LamX.CodeO; nofun))⟩
          TL := let ⟨ps, e2, o⟩ := s.TL; ⟨ps, tb e2, o⟩
          TJ := let ⟨ps, e2, o⟩ := s.TJ; ⟨ps, tb e2, o⟩
          ap := s.ap }
end
/-! ### the names of a line -/
def rCatS : R2 := fun x y H Q => ∃ i j, x = V.str i ∧ y = V.str j ∧ i.length + j.length ≤ sizeLine ∧ Q (V.str (i ++ j)) H
def rStrI : List V → Hp → VK → Prop := fun xs H Q => ∃ i : Int, xs = [V.int i] ∧ i.natAbs.log2 < 1920 ∧ Q (V.str (Str.ofString (toString i))) H
def xN (suf : Str) : TE := tOp rCatS (tOp rCatS (tC (.str (Str.ofString "x"))) (tCB rStrI (tCons (tVar 12) tNil))) (tC (.str suf))
theorem e_rCatS {x y : Str} {H : Hp} {Q : VK} : rCatS (.str x) (.str y) H Q = (x.length + y.length ≤ sizeLine ∧ Q (.str (x ++ y)) H) := by simp [rCatS]
theorem e_rStrI {i : Int} {H : Hp} {Q : VK} : rStrI [.int i] H Q = (i.natAbs.log2 < 1920 ∧ Q (.str (Str.ofString (toString i))) H) := by simp [rStrI]
def D3 (a b c : Nat) : List (Str × Nat) := [(nameS 120 0, a), (nameS 120 1, b), (nameS 120 2, c)]
def xS (suf : Str) (j : Nat) : Str := Str.ofString "x" ++ Str.ofString (toString ((j : Nat) : Int)) ++ suf
theorem tl_xS {suf : Str} {j : Nat} : tl (xS suf j) = tl (nameS 120 j) ++ tl suf := by
  unfold xS
  rw [tl_append, tl_append, tl_num, tl_nameS, show tl (Str.ofString "x") = [120] from by decide +kernel]
  rfl
theorem names_by {CS pT pL pJ : Addr} {q : Str} {d p z pl rl ll : Addr} {dn cn a b c : Nat} {G : Hp} {rs : List Addr} {rws : List (Str × Nat)} {lns : List Str} {σ : L2.St} {X k : Nat} {suf : Str} {Q : VK}
    (s : St CS pT pL pJ q d p z pl rl ll dn cn a b c G rs rws lns) (h8 : σ[8]? = some (some (.ref pl))) (hX : σ[X]? = some (some (.int (k : Nat)))) (X12 : X ≠ 12) (l : σ.length = 22) (sl : suf.length ≤ 10)
    (kk : ∀ (D : Addr) (G2 : Hp) (zs : List Str), Keep [] G G2 → G D = none → G2 D = some (.lst (zs.map V.str)) → zs.map tl = (namesAt (D3 a b c) k).map (fun n => tl n ++ tl suf) → zs.length ≤ 3 → (∀ y ∈ zs, y.length ≤ 20) → Q (.ref D) G2) :
    lcJ (Itr 0 3) (gName 12) (tTest (tOp rEq (tOp rIL (tVar 8) (tVar 12)) (tVar X))) (xN suf) [12] σ G Q := by
  have big : 1000 < sizeLine := by decide
  have get : ∀ (x : V) (i : Nat) (w : Option V), i ≠ 12 → σ[i]? = some w → ((wipe σ [12]).set 12 (some x))[i]? = some w := fun x i w hi e => by
    rw [List.getElem?_set_ne (Ne.symm hi), wipe_out (by simpa using hi)]
    exact e
  have at12 : ∀ x : V, ((wipe σ [12]).set 12 (some x))[12]? = some (some x) := fun x => by
    rw [List.getElem?_set_self]
    rw [wipe_length, l]
    decide
  let pick : V → Nat := fun x => if x = .int 0 then a else if x = .int 1 then b else c
  have three : ∀ x ∈ (List.range 3).map (fun i => V.int (0 + ((i : Nat) : Int))), x = .int 0 ∨ x = .int 1 ∨ x = .int 2 := by
    intro x hx
    simpa [List.range_succ] using hx
  have lx : (Str.ofString "x").length = 1 := by decide +kernel
  have dig : ∀ j : Nat, j < 3 → (Str.ofString (toString ((j : Nat) : Int))).length = 1 := fun j hj => by
    rw [len_tl, tl_num, numL_lt (by omega)]
    rfl
  have lg : ∀ j : Nat, j < 3 → ((j : Nat) : Int).natAbs.log2 < 1920 := fun j hj => by
    have : ∀ j : Nat, j < 3 → ((j : Nat) : Int).natAbs.log2 < 1920 := by decide
    exact this j hj
  refine lcP (walk_rng (lo := 0) (n := 3)) (fun _ _ => trivial) (fun x => decide (pick x = k)) (fun x => match x with
    | .int j => .str (xS suf j.toNat)
    | x => x) (fun x hx G1 Q' kG h => ?_) (fun x hx hb G1 Q' kG h => ?_) (by rw [List.length_map, List.length_range]; omega) fun D nD => ?_
  · have hpl := kG _ _ s.L (by simp)
    have e8 := get x 8 _ (by decide) h8
    have eX := get x X _ X12 hX
    have e12 := at12 x
    rcases three x hx with rfl | rfl | rfl <;> (
      simp_arith [e8, eX, e12, hpl]
      have : ∀ i : Nat, (decide (i = k)) = decide ((i : Int) = (k : Int)) := fun i => by
        by_cases e : i = k
        · simp [e]
        · simp [e]; omega
      simp only [pick, reduceIte, V.int.injEq, Int.reduceEq] at h
      rw [this] at h
      first | exact h | simpa using h)
  · have e12 := at12 x
    unfold xN
    rcases three x hx with rfl | rfl | rfl
    · simp_arith [e12, e_rCatS, e_rStrI]
      refine ⟨lg 0 (by decide), ?_, ?_, h⟩
      · have := dig 0 (by decide); simp only [Int.natCast_zero] at this ⊢; omega
      · rw [strLen_append]; have := dig 0 (by decide); simp only [Int.natCast_zero] at this ⊢; omega
    · simp_arith [e12, e_rCatS, e_rStrI]
      refine ⟨lg 1 (by decide), ?_, ?_, h⟩
      · have := dig 1 (by decide); simp only [Int.natCast_one] at this ⊢; omega
      · rw [strLen_append]; have := dig 1 (by decide); simp only [Int.natCast_one] at this ⊢; omega
    · simp_arith [e12, e_rCatS, e_rStrI]
      refine ⟨lg 2 (by decide), ?_, ?_, h⟩
      · have := dig 2 (by decide); simp only [Int.cast_ofNat_Int] at this ⊢; omega
      · rw [strLen_append]; have := dig 2 (by decide); simp only [Int.cast_ofNat_Int] at this ⊢; omega
  · let js : List Nat := [0, 1, 2].filter fun j => decide ((if j = 0 then a else if j = 1 then b else c) = k)
    refine kk D _ (js.map (xS suf)) (Keep.refl.new nD) nD ?_ ?_ ?_ ?_
    · rw [upd_same]
      congr 2
      simp only [js, List.range_succ, List.range_zero, List.nil_append, List.map_append, List.map_cons, List.map_nil, List.cons_append, pick]
      by_cases ha : a = k <;> by_cases hb : b = k <;> by_cases hc : c = k <;> simp [ha, hb, hc, List.filter_cons]
    · unfold namesAt D3
      simp only [js]
      by_cases ha : a = k <;> by_cases hb : b = k <;> by_cases hc : c = k <;> simp [ha, hb, hc, List.filter_cons, tl_xS]
    · rw [List.length_map]
      exact List.length_filter_le _ _
    · intro y hy
      obtain ⟨j, hj, rfl⟩ := List.mem_map.mp hy
      have hj2 : j < 3 := by
        have := (List.mem_filter.mp hj).1
        simp at this
        omega
      rw [len_tl, tl_xS, List.length_append, tl_nameS, numL_lt (by omega), ← len_tl suf]
      simp
      omega
theorem ex_22 {α β : Type} {a : α} {b : β} {p : α → β → Prop} : (∃ i j, a = i ∧ b = j ∧ p i j) = p a b := propext ⟨fun ⟨_, _, e1, e2, h⟩ => by subst e1; subst e2; exact h, fun h => ⟨_, _, rfl, rfl, h⟩⟩
theorem jump_plain {w : Str} (h : w ∈ wJump) : w ∉ wPlain := fun z => by
  simp only [wPlain, List.map_cons, List.map_nil, List.mem_cons, List.not_mem_nil, or_false] at z
  simp only [wJump, List.map_cons, List.map_nil, List.mem_cons, List.not_mem_nil, or_false] at h
  rcases h with rfl | rfl | rfl <;> (rcases z with g | g | g | g <;> exact absurd g (by decide +kernel))
theorem data_plain {w : Str} (h : w ∈ wData) : w ∉ wPlain := fun z => by
  simp only [wPlain, List.map_cons, List.map_nil, List.mem_cons, List.not_mem_nil, or_false] at z
  simp only [wData, List.map_cons, List.map_nil, List.mem_cons, List.not_mem_nil, or_false] at h
  rcases h with rfl | rfl | rfl | rfl | rfl | rfl | rfl | rfl | rfl <;> (rcases z with g | g | g | g <;> exact absurd g (by decide +kernel))
theorem ite_yes {c : Prop} {inst : Decidable c} {a b : Prop} (h : c) (k : a) : @ite Prop c inst a b := by rw [if_pos h]; exact k
theorem ite_no {c : Prop} {inst : Decidable c} {a b : Prop} (h : ¬ c) (k : b) : @ite Prop c inst a b := by rw [if_neg h]; exact k
theorem D3_none {a b c : Nat} {q : Str} {n : Nat} (e : tl q = numL n) : (D3 a b c).lookup q = none := by
  have ne : ∀ k, (q == nameS 120 k) = false := fun k => by
    simp only [beq_eq_false_iff_ne, ne_eq]
    intro z
    rw [z, tl_nameS] at e
    exact numL_free (n := n) (.inr (by decide : 57 < 120)) (by rw [← e]; exact List.mem_cons_self)
  unfold D3
  rw [List.lookup_cons, ne, List.lookup_cons, ne, List.lookup_cons, ne]
  rfl
theorem D3_at {a b c j : Nat} (hj : j < 3) : ∃ v, atI [V.int ((a : Nat) : Int), V.int ((b : Nat) : Int), V.int ((c : Nat) : Int)] ((j : Nat) : Int) = some (.int ((v : Nat) : Int)) ∧ (D3 a b c).lookup (nameS 120 j) = some v ∧ (v = a ∨ v = b ∨ v = c) := by
  have ne : ∀ i j, i ≠ j → (nameS 120 i == nameS 120 j) = false := fun i j h => by
    simp only [beq_eq_false_iff_ne, ne_eq]
    exact fun z => h (nameS_inj z)
  unfold D3
  rcases (show j = 0 ∨ j = 1 ∨ j = 2 by omega) with rfl | rfl | rfl
  · exact ⟨a, rfl, by rw [List.lookup_cons]; simp, .inl rfl⟩
  · exact ⟨b, rfl, by rw [List.lookup_cons, ne 1 0 (by decide), List.lookup_cons]; simp, .inr (.inl rfl)⟩
  · exact ⟨c, rfl, by rw [List.lookup_cons, ne 2 0 (by decide), List.lookup_cons, ne 2 1 (by decide), List.lookup_cons]; simp, .inr (.inr rfl)⟩
theorem D3_ok {a b c : Nat} : NamesOk (D3 a b c) := by
  refine ⟨?_, fun q hq => ?_⟩
  · have ne : ∀ i j, i ≠ j → nameS 120 i ≠ nameS 120 j := fun i j h z => h (nameS_inj z)
    unfold D3
    simp only [List.map_cons, List.map_nil, List.nodup_cons, List.mem_cons, List.not_mem_nil, or_false, not_or, not_false_eq_true, List.nodup_nil, and_true]
    exact ⟨⟨ne 0 1 (by decide), ne 0 2 (by decide)⟩, ne 1 2 (by decide)⟩
  · unfold D3 at hq
    simp only [List.mem_cons, List.not_mem_nil, or_false] at hq
    rcases hq with rfl | rfl | rfl <;> exact label_name (by decide) (by decide)
theorem D3_isW {a b c : Nat} : ∀ q ∈ D3 a b c, isW (tl q.1) := fun q hq => by
  unfold D3 at hq
  simp only [List.mem_cons, List.not_mem_nil, or_false] at hq
  rcases hq with rfl | rfl | rfl <;> exact isW_name (by decide)
def numT (n : Nat) : Str := Str.ofString (toString ((n : Nat) : Int))
theorem numT_tl {n : Nat} : tl (numT n) = numL n := tl_num n
theorem numT_len {n : Nat} (h : n < 1000) : (numT n).length ≤ 3 := by
  rw [len_tl, numT_tl]
  exact numL_len (by decide) (by omega)
theorem numT_log {n : Nat} (h : n < 1000) : ((n : Nat) : Int).natAbs.log2 < 1920 := by
  rw [Int.natAbs_natCast]
  by_cases h0 : n = 0
  · rw [h0]; decide
  · have := (Nat.log2_lt h0).mpr (show n < 2 ^ 60 by omega)
    omega
theorem xT_eq {j : Nat} : Str.ofString "x" ++ numT j = nameS 120 j := by
  refine List.cons.inj (map_tl_inj (l := [_]) (m := [_]) ?_) |>.1
  rw [List.map_singleton, List.map_singleton, tl_append, numT_tl, tl_nameS, show tl (Str.ofString "x") = [120] from by decide +kernel]
  rfl
/-! ### behind the drawing -/
def dataL (rws : List (Str × Nat)) : List PyData := rws.map fun q => .tuple [.str q.1, .int (q.2 : Int)]
theorem shaped_rows {rws : List (Str × Nat)} (h : ∀ q ∈ rws, PyData.strOk q.1 = true) : SeqAt.shaped (.list (dataL rws)) = true := by
  have a : PyData.canLayAll0 (dataL rws) = true ∧ PyData.depthAll (dataL rws) ≤ 1 := by
    induction rws with
    | nil => exact ⟨rfl, by simp [dataL, PyData.depthAll]⟩
    | cons q r ih =>
      obtain ⟨i1, i2⟩ := ih fun p hp => h p (List.mem_cons_of_mem q hp)
      have hq := h q List.mem_cons_self
      unfold dataL at i1 i2 ⊢
      simp only [List.map_cons, PyData.canLayAll0, PyData.canLay0, PyData.depthAll, PyData.depth, hq, i1, Bool.and_self, true_and]
      omega
  unfold SeqAt.shaped
  rw [Bool.and_eq_true]
  refine ⟨?_, decide_eq_true ?_⟩
  · unfold PyData.canLay0
    exact a.1
  · unfold PyData.depth
    exact Nat.le_trans (Nat.succ_le_succ a.2) (by decide)
theorem dp_rows {K : PySem.W.Frag} {H : Hp} {rs : List Addr} {rws : List (Str × Nat)} (h : RowsN H rs rws) : DpAll K H (rs.map V.ref) (dataL rws) := by
  unfold RowsN at h
  induction h with
  | nil => exact .nil
  | cons a _ ih => exact .cons (.tup (SqT.of a) (.cons (.str _) (.cons (.int _) .nil))) ih
theorem rowsN_of {H : Hp} : ∀ {rs : List Addr} {rws : List (Str × Nat)}, RowsAt H rs (rws.map rowI) → RowsN H rs rws
  | [], [], _ => .nil
  | r :: rs, q :: rws, h => by
    cases h with
    | cons a h => exact .cons a (rowsN_of h)
  | [], q :: rws, h => nomatch h
  | r :: rs, [], h => nomatch h
theorem St.two {CS pT pL pJ : Addr} {q : Str} {d p z pl rl ll : Addr} {dn cn a b c : Nat} {G G2 : Hp} {rs : List Addr} {rws : List (Str × Nat)} {lns : List Str} (s : St CS pT pL pJ q d p z pl rl ll dn cn a b c G rs rws lns) (n1 : pT ≠ pL) (n2 : pT ≠ pJ) (k : Keep [pL, pJ] G G2) (t2 : GxR.TabG G2 pL) (t3 : GxR.TabG G2 pJ) : St CS pT pL pJ q d p z pl rl ll dn cn a b c G2 rs rws lns := by
  refine s.tabs (k.more (by simp)) (fun pr hp => ?_) t2 t3
  obtain ⟨ps, e2, o⟩ := s.TT pr hp
  have hpr : pr.1 = pT := by rw [List.mem_singleton.mp hp]
  refine ⟨ps, k _ _ e2 (by rw [hpr]; simp [n1, n2]), o.1, fun pos cv hc => ?_⟩
  obtain ⟨c, ec, o2⟩ := o.2 pos cv hc
  refine ⟨c, ec, k _ _ o2 fun h => ?_⟩
  exact s.nt o2 (LamX.codeO_ne) (by
    simp only [List.mem_cons, List.not_mem_nil, or_false] at h ⊢
    exact .inr h)
theorem join_nl : ∀ {ps : List (List Nat)}, ps ≠ [] → joinL [10] ps ++ [10] = (ps.map (· ++ [10])).flatten
  | [p], _ => by simp [joinL]
  | p :: q :: r, _ => by
    have h := join_nl (ps := q :: r) (by simp)
    show (p ++ ([10] ++ joinL [10] (q :: r))) ++ [10] = (p ++ [10]) ++ (((q :: r).map (· ++ [10])).flatten)
    rw [← h]
    simp
theorem tl_joined {lns : List Str} (h : lns ≠ []) : tl (Txt.join (Str.ofString "\n") lns ++ Str.ofString "\n") = ((lns.map tl).map (· ++ [10])).flatten := by
  rw [tl_append, join_eq, tl_join, tl_nl, join_nl (by simpa using h)]
theorem joined_len {lns : List Str} {N : Nat} (h : ∀ y ∈ lns, y.length ≤ N) (ne : lns ≠ []) : (Txt.join (Str.ofString "\n") lns ++ Str.ofString "\n").length ≤ lns.length * (N + 1) := by
  rw [len_tl, tl_joined ne]
  clear ne
  induction lns with
  | nil => simp
  | cons y r ih =>
    have h1 := h y List.mem_cons_self
    have h2 := ih fun z hz => h z (List.mem_cons_of_mem y hz)
    rw [len_tl] at h1
    simp only [List.map_cons, List.flatten_cons, List.length_append, List.length_cons, List.length_nil] at h2 ⊢
    rw [Nat.add_mul]
    omega
theorem join0_tl {zs : List Str} : tl (Txt.join (Str.ofString "") zs) = (zs.map tl).flatten := by
  rw [join_eq, tl_join, show tl (Str.ofString "") = [] from by decide +kernel, joinL_nil]
theorem join0_len {zs : List Str} {N : Nat} (h : ∀ y ∈ zs, y.length ≤ N) : (Txt.join (Str.ofString "") zs).length ≤ zs.length * N := by
  rw [len_tl, join0_tl]
  induction zs with
  | nil => simp
  | cons y r ih =>
    have h1 := h y List.mem_cons_self
    have h2 := ih fun z hz => h z (List.mem_cons_of_mem y hz)
    rw [len_tl] at h1
    simp only [List.map_cons, List.flatten_cons, List.length_append, List.length_cons] at h2 ⊢
    rw [Nat.add_mul]
    omega
theorem okRow_str {d c : Nat} {w : Str} {n : Int} (h : OkRow d c w n) : WordOk w := okRow_word0 (by rcases h with ⟨a, _⟩ | ⟨a, _⟩ | ⟨a, _⟩; exact .inl a; exact .inr (.inl a); exact .inr (.inr a))
theorem rowSmall {d c : Nat} {w : Str} {n : Nat} (hd : d ≤ 8) (hc : c ≤ 8) (h : OkRow d c w (n : Int)) : n < 1000 := by
  have p1 := pow_small hd
  have p2 := pow_small hc
  rcases h with ⟨_, e⟩ | ⟨_, _, e⟩ | ⟨_, _, e⟩ <;> omega
theorem line_len {nm : List Nat} {w : Str} {n k : Nat} (hw : w.length ≤ 20) (hn : n < 1000) (hk : k < 1000) : (aheadL nm k ++ lineL w n nm ++ tl "\n").length ≤ 40 := by
  have a1 := numL_len (n := n) (k := 3) (by decide) (by omega)
  have a2 := numL_len (n := k) (k := 3) (by decide) (by omega)
  have lw : (tl w).length ≤ 20 := by rw [← len_tl]; exact hw
  have s2 : (tl (Str.ofString " p")).length = 2 := by decide +kernel
  have s1 : (tl (Str.ofString " ")).length = 1 := by decide +kernel
  have p1 : (tl (Str.ofString "p")).length = 1 := by decide +kernel
  have p2 : (tl (Str.ofString ": ")).length = 2 := by decide +kernel
  have n1 : (tl (Str.ofString "\n")).length = 1 := by decide +kernel
  have h1 : (aheadL nm k).length ≤ 6 := by
    unfold aheadL
    split
    · show (tl (Str.ofString "p") ++ (numL k ++ tl (Str.ofString ": "))).length ≤ 6
      simp only [List.length_append]
      omega
    · simp
  have h2 : (lineL w n nm).length ≤ 25 := by
    unfold lineL
    split
    · omega
    · split
      · show (tl w ++ (tl (Str.ofString " p") ++ numL n)).length ≤ 25
        simp only [List.length_append]
        omega
      · show (tl w ++ (tl (Str.ofString " ") ++ numL n)).length ≤ 25
        simp only [List.length_append]
        omega
  show (aheadL nm k ++ lineL w n nm ++ tl (Str.ofString "\n")).length ≤ 40
  simp only [List.length_append]
  omega
theorem listGo_len {nm : List Nat} : ∀ {rows : List (Str × Nat)} {k : Nat}, (∀ q ∈ rows, q.1.length ≤ 20 ∧ q.2 < 1000) → k + rows.length < 1000 → (listGo nm k rows).length ≤ rows.length * 40
  | [], _, _, _ => by simp [listGo]
  | (w, n) :: r, k, h, hk => by
    have a := h _ List.mem_cons_self
    have hl : ((w, n) :: r).length = r.length + 1 := rfl
    rw [hl] at hk ⊢
    have b : (aheadL nm k ++ lineL w n nm ++ tl "\n").length ≤ 40 := line_len (nm := nm) a.1 a.2 (show k < 1000 by omega)
    have c := listGo_len (nm := nm) (rows := r) (k := k + 1) (fun q hq => h q (List.mem_cons_of_mem _ hq)) (by omega)
    unfold listGo
    rw [List.length_append, Nat.add_mul]
    omega
theorem str_ext {x y : Str} (h : tl x = tl y) : x = y := (List.cons.inj (map_tl_inj (l := [x]) (m := [y]) (by simp [h]))).1
def nmV (nm : List Nat) : List (Key × V) := nm.map fun (k : Nat) => ((Sum.inl (k : Int) : Key), V.int 1)
theorem putK_nmV {nm : List Nat} {n : Nat} : putK (nmV nm) (.inl (n : Int)) (.int 1) = nmV (nmAdd nm n) := by
  by_cases h : n ∈ nm
  · have a : (nmV nm).any (fun kv => decide (kv.1 = Sum.inl (n : Int))) = true := by
      rw [List.any_eq_true]
      exact ⟨(.inl (n : Int), .int 1), List.mem_map.mpr ⟨n, h, rfl⟩, by simp⟩
    have e2 : nmAdd nm n = nm := if_pos h
    unfold putK
    rw [if_pos a, e2]
    refine (List.map_congr_left fun kv hk => ?_).trans (List.map_id _)
    obtain ⟨k, _, rfl⟩ := List.mem_map.mp hk
    split
    · rename_i hh
      have hh2 : (Sum.inl (k : Int) : Key) = Sum.inl (n : Int) := by simpa using hh
      simp only [Sum.inl.injEq] at hh2
      have hh3 : k = n := by omega
      subst hh3
      rfl
    · rfl
  · have a : (nmV nm).any (fun kv => decide (kv.1 = Sum.inl (n : Int))) = false := by
      rw [List.any_eq_false]
      intro kv hk
      obtain ⟨k, hk2, rfl⟩ := List.mem_map.mp hk
      simp only [decide_eq_true_eq, Sum.inl.injEq]
      intro hh
      have hh3 : k = n := by omega
      exact h (hh3 ▸ hk2)
    have e2 : nmAdd nm n = nm ++ [n] := if_neg h
    unfold putK
    rw [if_neg (by rw [a]; decide), e2]
    simp [nmV]
theorem merge_nmV : ∀ {ns nm : List Nat}, mergeK (nmV nm) (nmV ns) = nmV (ns.foldl nmAdd nm)
  | [], nm => rfl
  | n :: r, nm => by
    have h := merge_nmV (ns := r) (nm := nmAdd nm n)
    unfold mergeK at h ⊢
    rw [show nmV (n :: r) = (.inl (n : Int), .int 1) :: nmV r from rfl, List.foldl_cons, List.foldl_cons, putK_nmV, h]
theorem mem_fold {k : Nat} : ∀ {ns nm : List Nat}, k ∈ ns.foldl nmAdd nm ↔ k ∈ nm ∨ k ∈ ns
  | [], nm => by simp
  | n :: r, nm => by
    rw [List.foldl_cons, mem_fold, mem_nmAdd, List.mem_cons]
    constructor
    · rintro ((a | a) | a)
      · exact .inl a
      · exact .inr (.inl a)
      · exact .inr (.inr a)
    · rintro (a | a | a)
      · exact .inl (.inl a)
      · exact .inl (.inr a)
      · exact .inr a
theorem len_fold : ∀ {ns nm : List Nat}, (ns.foldl nmAdd nm).length ≤ nm.length + ns.length
  | [], nm => by simp
  | n :: r, nm => by
    rw [List.foldl_cons]
    have h := len_fold (ns := r) (nm := nmAdd nm n)
    have h2 : (nmAdd nm n).length ≤ nm.length + 1 := by
      unfold nmAdd
      split
      · omega
      · simp
    simp only [List.length_cons]
    omega
open Classical in
/-- the places in the code that jumps of some rows go to -/
noncomputable def jumpsTo (N : Nat) (rws : List (Str × Nat)) : List Nat := (rws.filter fun q => decide (q.1 ∈ wJump ∧ q.2 < N)).map (·.2)
theorem mem_jumpsTo {N k : Nat} {rws : List (Str × Nat)} : k ∈ jumpsTo N rws ↔ k ∈ nmOf N [] rws := by
  rw [mem_nmOf]
  unfold jumpsTo
  rw [List.mem_map]
  constructor
  · rintro ⟨q, hq, e⟩
    obtain ⟨h1, h2⟩ := List.mem_filter.mp hq
    have h3 := of_decide_eq_true h2
    exact .inr ⟨q, h1, h3.1, h3.2, e⟩
  · rintro (h | ⟨q, hq, h1, h2, e⟩)
    · simp at h
    · exact ⟨q, List.mem_filter.mpr ⟨hq, decide_eq_true ⟨h1, h2⟩⟩, e⟩
theorem jumpsTo_snoc {N : Nat} {rws : List (Str × Nat)} {q : Str × Nat} : jumpsTo N (rws ++ [q]) = jumpsTo N rws ++ (if q.1 ∈ wJump ∧ q.2 < N then [q.2] else []) := by
  unfold jumpsTo
  rw [List.filter_append, List.map_append]
  by_cases h : q.1 ∈ wJump ∧ q.2 < N
  · rw [if_pos h]
    simp [h]
  · rw [if_neg h]
    simp [List.filter_cons, h]
theorem paired_keep {H G : Hp} {ps : List Addr} {kvs : List (Key × V)} (h : PySem.Paired (fun p kv => H p = some (.tup [kV kv.1, kv.2])) ps kvs) {S : List Addr} (k : Keep S H G) (n : ∀ p ∈ ps, p ∉ S) : PySem.Paired (fun p kv => G p = some (.tup [kV kv.1, kv.2])) ps kvs := by
  induction h with
  | nil => exact .nil
  | cons a _ ih => exact .cons (k _ _ a (n _ List.mem_cons_self)) (ih fun p hp => n p (List.mem_cons_of_mem _ hp))
theorem all_strs {xs : List Str} (h : ∀ x ∈ xs, isW (tl x)) : (xs.map V.str).all isIS = true := by
  rw [List.all_map, List.all_eq_true]
  intro x hx
  exact (h x hx).str
theorem jumpC {wd : Str} : ((Str.ofString "jump" == wd) = true ∨ (Str.ofString "zero" == wd) = true ∨ (Str.ofString "less" == wd) = true) ↔ wd ∈ wJump := by
  simp only [wJump, List.map_cons, List.map_nil, List.mem_cons, List.not_mem_nil, or_false, beq_iff_eq]
  exact ⟨fun h => h.imp Eq.symm (Or.imp Eq.symm Eq.symm), fun h => h.imp Eq.symm (Or.imp Eq.symm Eq.symm)⟩
theorem paired_sqt {K : PySem.W.Frag} {H : Hp} {ps : List Addr} {kvs : List (Key × V)} (h : PySem.Paired (fun p kv => H p = some (.tup [kV kv.1, kv.2])) ps kvs) : PySem.Paired (fun p kv => SqT K H p [kV kv.1, kv.2]) ps kvs := by
  induction h with
  | nil => exact .nil
  | cons a _ ih => exact .cons (SqT.of a) ih
theorem pT_eq {j : Nat} : Str.ofString "p" ++ numT j = nameS 112 j := by
  refine str_ext ?_
  rw [tl_append, numT_tl, tl_nameS, p_tl]
  rfl
theorem inV_ints {n : Int} : ∀ {ys : List Int}, (inV (.int n) (ys.map V.int) = true) ↔ n ∈ ys
  | [] => by simp
  | y :: r => by
    rw [List.map_cons, inV_cons, Bool.or_eq_true, inV_ints, List.mem_cons, eqV_ii, beq_iff_eq, eq_comm]
theorem flat_ints {ys : List Int} : (ys.map V.int).all flatV = true := by simp [flatV]
end
section
open PySem L2 TL
abbrev outLine (y : Str) : Prop := y = Str.ofString "x0: out"
def badS (sd sc sa : Str) : List Str := [Str.ofString "fly", Str.ofString "set", Str.ofString "set x0", Str.ofString "out 1", Str.ofString "jump zz", Str.ofString "set 1 2", Str.ofString "x0: out", Str.ofString "set 1000", Str.ofString "set -1", Str.ofString "X: out", sd, Str.ofString ": out", Str.ofString "9a: out", sc, sa]
theorem D3_head {a b c : Nat} {q : Str} {x : Nat} {r : List Nat} (e : tl q = x :: r) (h : x ≠ 120) : (D3 a b c).lookup q = none := by
  have ne : ∀ k, (q == nameS 120 k) = false := fun k => by
    simp only [beq_eq_false_iff_ne, ne_eq]
    intro z
    rw [z, tl_nameS] at e
    exact h (List.cons.inj e).1.symm
  unfold D3
  rw [List.lookup_cons, ne, List.lookup_cons, ne, List.lookup_cons, ne]
  rfl
theorem ins_one {w : Str} {pl : List (Str × Int)} (h : w ∉ wPlain) : insOf [w] pl = none := if_neg h
theorem ins_bad {w n : Str} {pl : List (Str × Int)} (h : w ∉ wJump ∧ w ∉ wData) : insOf [w, n] pl = none := by
  unfold insOf
  simp only []
  rw [if_neg (fun z => z.elim h.1 h.2)]
theorem ins_nodig {w n : Str} {pl : List (Str × Int)} (h : w ∈ wJump → pl.lookup n = none) (hw : w ∈ wJump ∨ w ∈ wData) (hd : ¬ digitsOk n) : insOf [w, n] pl = none := by
  unfold insOf
  simp only []
  rw [if_pos hw]
  by_cases j : w ∈ wJump
  · rw [if_pos j, h j]
    simp only []
    rw [if_neg hd]
  · rw [if_neg j]
    simp only []
    rw [if_neg hd]
theorem set_data : Str.ofString "set" ∈ wData := by decide +kernel
theorem jump_jump : Str.ofString "jump" ∈ wJump := by decide +kernel
theorem nodig {n : Str} {c : Nat} (h : c ∈ tl n) (hc : c < 48 ∨ 57 < c) : ¬ digitsOk n := fun z => by
  have := digs.mp (z.2.2 c h)
  omega
theorem no_label {n : Str} {c : Nat} (h : c ∈ tl n) (hc : c ∉ labSigns) : ¬ labelOk n := fun z => hc (z.2.2.1 c h)
theorem bad_all {T : Str} {a b c dn cn : Nat} {rows : List (Str × Nat)} {ps : List (List Nat)} {S : List (List Str × List Str)} {pl : List (Str × Int)} {fd : List (List Str)} (h : TxtOk T (D3 a b c) dn cn rows ps S pl fd) (hd : dn ≤ 8) (hc : cn ≤ 8) {sa : Str} (hsa : tl sa = (List.replicate 21 [97]).flatten ++ tl (Str.ofString ": out"))
    {y rep z : Str} (hy : y ∈ badS (Str.ofString "set " ++ numT (2 ^ dn)) (Str.ofString "jump " ++ numT (2 ^ cn)) sa) (hr : tl rep = if outLine y then tl (Str.ofString "\nx0:\n") else []) (hz : tl z = tl T ++ (tl y ++ (tl rep ++ [10]))) : asm z dn cn = none := by
  have d2 : 2 ^ dn ≤ 2 ^ 8 := Nat.pow_le_pow_right (by decide) hd
  have c2 : 2 ^ cn ≤ 2 ^ 8 := Nat.pow_le_pow_right (by decide) hc
  have iset : isW (tl (Str.ofString "set")) := isW_word (in_cIs (.inr (.inr set_data)))
  have ijump : isW (tl (Str.ofString "jump")) := isW_word (in_cIs (.inr (.inl jump_jump)))
  have one : ¬ outLine y → tl z = tl T ++ (tl y ++ [10]) := fun n => by
    rw [if_neg n] at hr
    rw [hz, hr]
    rfl
  unfold badS at hy
  simp only [List.mem_cons, List.not_mem_nil, or_false] at hy
  rcases hy with rfl | rfl | rfl | rfl | rfl | rfl | rfl | rfl | rfl | rfl | rfl | rfl | rfl | rfl | rfl
  · exact bad_word h (one (by unfold outLine; decide +kernel)) (lineC (s := ([], [Str.ofString "fly"])) (by decide +kernel) (by decide +kernel)) (by simp) (.inl (ins_one (by decide +kernel)))
  · exact bad_word h (one (by unfold outLine; decide +kernel)) (lineC (s := ([], [Str.ofString "set"])) (by decide +kernel) (by decide +kernel)) (by simp) (.inl (ins_one (by decide +kernel)))
  · exact bad_word h (one (by unfold outLine; decide +kernel)) (lineC (s := ([], [Str.ofString "set", Str.ofString "x0"])) (by decide +kernel) (by decide +kernel)) (by simp) (.inl (ins_nodig (fun j => absurd j (jump_data set_data)) (.inr set_data) (nodig (c := 120) (by decide +kernel) (.inr (by decide)))))
  · exact bad_word h (one (by unfold outLine; decide +kernel)) (lineC (s := ([], [Str.ofString "out", Str.ofString "1"])) (by decide +kernel) (by decide +kernel)) (by simp) (.inl (ins_bad (by decide +kernel)))
  · exact bad_word h (one (by unfold outLine; decide +kernel)) (lineC (s := ([], [Str.ofString "jump", Str.ofString "zz"])) (by decide +kernel) (by decide +kernel)) (by simp) (.inl (ins_nodig (fun _ => by rw [h.look, D3_head (x := 122) (r := [122]) (by decide +kernel) (by decide)]; rfl) (.inl jump_jump) (nodig (c := 122) (by decide +kernel) (.inr (by decide)))))
  · exact bad_word h (one (by unfold outLine; decide +kernel)) (lineC (s := ([], [Str.ofString "set", Str.ofString "1", Str.ofString "2"])) (by decide +kernel) (by decide +kernel)) (by simp) (.inl rfl)
  · rw [if_pos rfl] at hr
    refine bad_name (n := nameS 120 0) (b := tl (Str.ofString "x0: out")) (bs := [tl (Str.ofString "x0:"), []]) h ?_ (lineC (s := ([Str.ofString "x0"], [Str.ofString "out"])) (by decide +kernel) (by decide +kernel)) (.cons (lineC (s := ([Str.ofString "x0"], [])) (by decide +kernel) (by decide +kernel)) (.cons empty_lineP .nil)) (.inr ⟨Str.ofString "x0", [], a, rfl, ?_⟩)
    · rw [hz, hr]
      congr 1
    · rw [show Str.ofString "x0" = nameS 120 0 from str_ext (by decide +kernel)]
      unfold D3
      rw [List.lookup_cons]
      simp
  · exact bad_word h (one (by unfold outLine; decide +kernel)) (lineC (s := ([], [Str.ofString "set", Str.ofString "1000"])) (by decide +kernel) (by decide +kernel)) (by simp) (.inl (ins_nodig (fun j => absurd j (jump_data set_data)) (.inr set_data) (fun z => absurd z.2.1 (by decide +kernel))))
  · exact bad_word h (one (by unfold outLine; decide +kernel)) (lineC (s := ([], [Str.ofString "set", Str.ofString "-1"])) (by decide +kernel) (by decide +kernel)) (by simp) (.inl (ins_nodig (fun j => absurd j (jump_data set_data)) (.inr set_data) (nodig (c := 45) (by decide +kernel) (.inl (by decide)))))
  · refine bad_name (n := nameS 120 0) (b := tl (Str.ofString "X: out")) (bs := []) h ?_ (lineC (s := ([Str.ofString "X"], [Str.ofString "out"])) (by decide +kernel) (by decide +kernel)) .nil (.inl ⟨Str.ofString "X", by simp, no_label (c := 88) (by decide +kernel) (by decide +kernel)⟩)
    rw [one (by unfold outLine; decide +kernel)]
    simp [txtL]
  · have no : ¬ outLine (Str.ofString "set " ++ numT (2 ^ dn)) := fun z => by
      have e := congrArg tl z
      rw [tl_append, show tl (Str.ofString "set ") = [115, 101, 116, 32] from by decide +kernel, show tl (Str.ofString "x0: out") = [120, 48, 58, 32, 111, 117, 116] from by decide +kernel] at e
      have := (List.cons.inj e).1
      omega
    refine bad_word (W := [Str.ofString "set", numT (2 ^ dn)]) h (one no) ?_ (by simp) (.inr ⟨_, ins_num (n := 2 ^ dn) (.inr set_data) numT_tl (by omega), fun z => ?_⟩)
    · have lp := lineP2 (b := 0) (m := 0) (ns := []) (w := Str.ofString "set") (q := numT (2 ^ dn)) (by simp) iset (by rw [numT_tl]; exact isW_num _)
      have e : tl (Str.ofString "set " ++ numT (2 ^ dn)) = lineB 0 (([] : List Str).map tl) (tl (Str.ofString "set") ++ (sp (0 + 1) ++ tl (numT (2 ^ dn)))) := by
        rw [tl_append, show tl (Str.ofString "set ") = tl (Str.ofString "set") ++ sp 1 from by decide +kernel]
        simp [lineB, sp]
      rw [e]
      exact lp
    · rcases z with ⟨hw, _⟩ | ⟨hw, _, _⟩ | ⟨_, _, lt⟩
      · exact data_plain set_data hw
      · exact jump_data set_data hw
      · have : ((2 ^ dn : Nat) : Int) = (2 : Int) ^ dn := by simp
        simp only [] at lt
        omega
  · refine bad_name (n := nameS 120 0) (b := tl (Str.ofString ": out")) (bs := []) h ?_ (lineC (s := ([Str.ofString ""], [Str.ofString "out"])) (by decide +kernel) (by decide +kernel)) .nil (.inl ⟨Str.ofString "", by simp, fun z => z.1 rfl⟩)
    rw [one (by unfold outLine; decide +kernel)]
    simp [txtL]
  · refine bad_name (n := nameS 120 0) (b := tl (Str.ofString "9a: out")) (bs := []) h ?_ (lineC (s := ([Str.ofString "9a"], [Str.ofString "out"])) (by decide +kernel) (by decide +kernel)) .nil (.inl ⟨Str.ofString "9a", by simp, fun z => z.2.2.2 57 [97] (by decide +kernel) (by decide +kernel)⟩)
    rw [one (by unfold outLine; decide +kernel)]
    simp [txtL]
  · have no : ¬ outLine (Str.ofString "jump " ++ numT (2 ^ cn)) := fun z => by
      have e := congrArg tl z
      rw [tl_append, show tl (Str.ofString "jump ") = [106, 117, 109, 112, 32] from by decide +kernel, show tl (Str.ofString "x0: out") = [120, 48, 58, 32, 111, 117, 116] from by decide +kernel] at e
      have := (List.cons.inj e).1
      omega
    refine bad_word (W := [Str.ofString "jump", numT (2 ^ cn)]) h (one no) ?_ (by simp) (.inr ⟨_, ins_num (n := 2 ^ cn) (.inl ⟨jump_jump, by rw [h.look, D3_none numT_tl]; rfl⟩) numT_tl (by omega), fun z => ?_⟩)
    · have lp := lineP2 (b := 0) (m := 0) (ns := []) (w := Str.ofString "jump") (q := numT (2 ^ cn)) (by simp) ijump (by rw [numT_tl]; exact isW_num _)
      have e : tl (Str.ofString "jump " ++ numT (2 ^ cn)) = lineB 0 (([] : List Str).map tl) (tl (Str.ofString "jump") ++ (sp (0 + 1) ++ tl (numT (2 ^ cn)))) := by
        rw [tl_append, show tl (Str.ofString "jump ") = tl (Str.ofString "jump") ++ sp 1 from by decide +kernel]
        simp [lineB, sp]
      rw [e]
      exact lp
    · rcases z with ⟨hw, _⟩ | ⟨hw, _, lt⟩ | ⟨hw, _, _⟩
      · exact jump_plain jump_jump hw
      · have : ((2 ^ cn : Nat) : Int) = (2 : Int) ^ cn := by simp
        simp only [] at lt
        omega
      · exact jump_data hw jump_jump
  · have e : y = Str.ofString "aaaaaaaaaaaaaaaaaaaaa: out" := str_ext (by rw [hsa]; decide +kernel)
    subst e
    refine bad_name (n := nameS 120 0) (b := tl (Str.ofString "aaaaaaaaaaaaaaaaaaaaa: out")) (bs := []) h ?_ (lineC (s := ([Str.ofString "aaaaaaaaaaaaaaaaaaaaa"], [Str.ofString "out"])) (by decide +kernel) (by decide +kernel)) .nil (.inl ⟨Str.ofString "aaaaaaaaaaaaaaaaaaaaa", by simp, fun z => absurd z.2.1 (by decide +kernel)⟩)
    rw [one (by unfold outLine; decide +kernel)]
    simp [txtL]
/-! ### as many lines as there is code for -/
theorem full_ok {z : Str} {n dn cn : Nat} (hz : tl z = (List.replicate n (tl (Str.ofString "out\n"))).flatten) : (n ≤ 2 ^ cn → asm z dn cn = some (List.replicate n (Str.ofString "out", 0))) ∧ (2 ^ cn < n → asm z dn cn = none) := by
  have mo : Str.ofString "out" ∈ wPlain := by decide +kernel
  have lo : LineP (tl (Str.ofString "out")) ([], [Str.ofString "out"]) := lineC (by decide +kernel) (by decide +kernel)
  have eo : tl (Str.ofString "out\n") = tl (Str.ofString "out") ++ [10] := by decide +kernel
  have e1 : tl z = txtL (List.replicate n (tl (Str.ofString "out"))) := by
    rw [hz, eo]
    simp [txtL]
  have pr : ∀ n, PySem.Paired LineP (List.replicate n (tl (Str.ofString "out"))) (List.replicate n ([], [Str.ofString "out"])) := by
    intro n
    induction n with
    | zero => exact .nil
    | succ n ih => exact .cons lo ih
  have go : ∀ n fd, goS [] fd (List.replicate n ([], [Str.ofString "out"])) = some ([], fd ++ List.replicate n [Str.ofString "out"]) := by
    intro n
    induction n with
    | zero => intro fd; simp [goS]
    | succ n ih =>
      intro fd
      rw [List.replicate_succ, goS_cons, if_pos (by simp)]
      show goS [] (if [Str.ofString "out"] = [] then fd else fd ++ [[Str.ofString "out"]]) _ = _
      rw [if_neg (by simp), ih]
      simp [List.replicate_succ]
  have g : asmGo [] [] (Txt.split z (Str.ofString "\n")) = some ([], List.replicate n [Str.ofString "out"]) := by
    rw [asmGo_txt e1 (pr n), goS_append, go]
    exact goS_end
  refine ⟨fun h => asm_some g (by simpa using h) ?_ ?_, fun h => asm_none fun pl fd e => ?_⟩
  · refine insAll_ok2 ?_
    clear h g hz e1
    induction n with
    | zero => exact .nil
    | succ n ih => exact .cons (ins_plain mo) ih
  · intro q hq
    rw [List.eq_of_mem_replicate hq]
    exact .inl ⟨mo, rfl⟩
  · rw [g] at e
    cases e
    exact .inl (by simpa using h)
theorem badS_len {dn cn : Nat} {sa : Str} (hd : dn ≤ 8) (hc : cn ≤ 8) (hsa : tl sa = (List.replicate 21 [97]).flatten ++ tl (Str.ofString ": out")) : ∀ y ∈ badS (Str.ofString "set " ++ numT (2 ^ dn)) (Str.ofString "jump " ++ numT (2 ^ cn)) sa, y.length ≤ 30 := by
  have d2 : 2 ^ dn ≤ 2 ^ 8 := Nat.pow_le_pow_right (by decide) hd
  have c2 : 2 ^ cn ≤ 2 ^ 8 := Nat.pow_le_pow_right (by decide) hc
  have l1 := numT_len (n := 2 ^ dn) (by omega)
  have l2 := numT_len (n := 2 ^ cn) (by omega)
  have ls4 : (Str.ofString "set ").length = 4 := by decide +kernel
  have ls5 : (Str.ofString "jump ").length = 5 := by decide +kernel
  intro y hy
  unfold badS at hy
  simp only [List.mem_cons, List.not_mem_nil, or_false] at hy
  rcases hy with rfl | rfl | rfl | rfl | rfl | rfl | rfl | rfl | rfl | rfl | rfl | rfl | rfl | rfl | rfl
  all_goals first
    | decide +kernel
    | (rw [strLen_append]; omega)
    | (rw [len_tl, hsa]; decide +kernel)
/-! ### the last lines -/
theorem label1 {y : Str} {c : Nat} (e : tl y = [c]) (h : 97 ≤ c ∧ c ≤ 122) : labelOk y := by
  have letters : c ∈ labSigns := by
    have z : ∀ c, c < 123 → 97 ≤ c → c ∈ labSigns := by decide +kernel
    exact z c (by omega) h.1
  refine ⟨fun z => ?_, by rw [len_tl, e]; simp, fun x hx => ?_, fun x r z => ?_⟩
  · rw [z] at e
    cases e
  · rw [e] at hx
    rw [List.mem_singleton.mp hx]
    exact letters
  · rw [e] at z
    cases z
    intro m
    have := digs.mp m
    omega
theorem parts_const : namesOf (Str.ofString "a: b:  set 3 // x") = [Str.ofString "a", Str.ofString "b"] ∧ wordsOf (Str.ofString "a: b:  set 3 // x") = [Str.ofString "set", Str.ofString "3"] := by decide +kernel
theorem labels_const : ∀ y ∈ namesOf (Str.ofString "a: b:  set 3 // x"), labelOk y := by
  rw [parts_const.1]
  intro y hy
  simp only [List.mem_cons, List.not_mem_nil, or_false] at hy
  rcases hy with rfl | rfl
  · exact label1 (c := 97) (by decide +kernel) (by decide)
  · exact label1 (c := 98) (by decide +kernel) (by decide)
theorem label_a1 : labelOk (Str.ofString "a1") := by
  have : Str.ofString "a1" = nameS 97 1 := str_ext (by decide +kernel)
  rw [this]
  exact label_name (by decide) (by decide)
theorem ins_const : insOf [Str.ofString "jump", Str.ofString "a"] [(Str.ofString "a", 4)] = some (Str.ofString "jump", 4) := ins_name jump_jump (by decide +kernel)
theorem asm_empty {d c : Nat} : asm (Str.ofString "") d c = some [] := by
  have h := asmGo_txt (y := Str.ofString "") (ps := []) (S := []) (by decide +kernel) .nil
  exact asm_some (code := []) (h.trans goS_end) (by simp) rfl nofun
theorem list_const : listL [(Str.ofString "jump", 1), (Str.ofString "out", 0), (Str.ofString "zero", 9)] = tl (Str.ofString "jump p1\np1: out\nzero 9\n") := by
  have mz : Str.ofString "zero" ∈ wJump := by decide +kernel
  have no : Str.ofString "out" ∉ wJump := by decide +kernel
  have mo : Str.ofString "out" ∈ wPlain := by decide +kernel
  have e : nmOf 3 [] [(Str.ofString "jump", 1), (Str.ofString "out", 0), (Str.ofString "zero", 9)] = [1] := by
    unfold nmOf
    rw [if_pos ⟨jump_jump, by decide⟩]
    unfold nmOf
    rw [if_neg (fun h => no h.1)]
    unfold nmOf
    rw [if_neg (fun h => absurd h.2 (by decide))]
    unfold nmOf nmAdd
    rw [if_neg (by simp)]
    rfl
  unfold listL
  rw [show [(Str.ofString "jump", 1), (Str.ofString "out", 0), (Str.ofString "zero", 9)].length = 3 from rfl, e]
  unfold listGo listGo listGo listGo
  have a0 : aheadL [1] 0 = [] := if_neg (by simp)
  have a1 : aheadL [1] (0 + 1) = tl (Str.ofString "p") ++ (numL 1 ++ tl (Str.ofString ": ")) := if_pos (by simp)
  have a2 : aheadL [1] (0 + 1 + 1) = [] := if_neg (by simp)
  have l0 : lineL (Str.ofString "jump") 1 [1] = tl (Str.ofString "jump") ++ (tl (Str.ofString " p") ++ numL 1) := by
    unfold lineL
    rw [if_neg (jump_plain jump_jump), if_pos ⟨jump_jump, by simp⟩]
  have l1 : lineL (Str.ofString "out") 0 [1] = tl (Str.ofString "out") := if_pos mo
  have l2 : lineL (Str.ofString "zero") 9 [1] = tl (Str.ofString "zero") ++ (tl (Str.ofString " ") ++ numL 9) := by
    unfold lineL
    rw [if_neg (jump_plain mz), if_neg (fun h => absurd h.2 (by simp))]
  rw [a0, a1, a2, l0, l1, l2, numL_lt (by decide), numL_lt (by decide)]
  decide +kernel
end
section
open PySem L2 LamX

open TL
theorem FunC.ok {P : Program} {w : World} {K : PySem.W.Frag} {mg : Str → Option Value} {base : Heap} {x qual : Str} {st : Stmt} {f : Addr} {fd : FuncData} {cdv : Value} {N ps : List Str} {k : Nat} {sp : Sp} (F : FunC K x qual st f fd cdv) (S : FnScope N ps (defScope st)) (len : ∀ vs H Q E, sp vs H Q E → vs.length = ps.length)
    (hbody : ∀ (A : Around) (outer : List Env) (s : Shared) (H : Hp) (vs : List V) (Q : VK) (E : XK), Room k (A.deeper (PyProof.Rows.envOfC qual (defScope st) s.heap.objs.size f cdv)) → sp vs H Q E →
      ∃ t, PSs (cxOf CX0 P w K mg base N qual (defScope st) f cdv A outer s H E).nox (defBody st) t ∧ t { nx := fun _ H' => Q .non H', rt := Q } (L2.start N vs) H) : FnOk P w K mg base CX0 (k + 1) f fd ps sp := by
  obtain ⟨oc, od, kV, doc, pm, an, ct, osl, rfl, lk, hcd⟩ := F.ex
  refine fn_of lk hcd S len fun A outer s H vs Q E hr hsp => ?_
  obtain ⟨t, h, q⟩ := hbody A outer s H vs Q E hr hsp
  exact ⟨t, h.nox, q⟩
section
variable {P : Program} {w : World} {K : PySem.W.Frag} {mg : Str → Option Value} {base : Heap} {gT cL pT : Addr}
abbrev s_law : Stmt := top 26
theorem sc_law : FnScope ["script", "dice", "data", "code", "size", "many", "rows", "lines", "places", "k", "word", "names", "j", "blank", "number", "named", "text", "line", "goals", "row", "bad", "full"] ["script"] (defScope s_law) := ⟨rfl, rfl, rfl, by decide +kernel, rfl, by decide +kernel, by decide +kernel⟩
def spLaw (K : PySem.W.Frag) (pT pL pJ : Addr) : Sp := fun vs H Q _ => ∃ (a : Addr) (ns : List Int), vs = [.ref a] ∧ SqL K H a (ns.map V.int) ∧ H pT = some (.tbl #[]) ∧ H pL = some (.tbl #[]) ∧ H pJ = some (.tbl #[]) ∧ ∀ H', Q (.bl true) H'
theorem ok_law {f : Addr} {fd : FuncData} (F : FunC K "law" "law" s_law f fd (.ref cL)) (S : Sub P w K mg base) (Z : Lw K mg base P w)
    (TD0 : ∀ (Y : Cx), Y.K = K → Y.mg = mg → ToldX Y "_law_told" gT "law.<locals>.<lambda>" (XOne K S.CE "CodeError")) (TB0 : TabB base mg cL pT) (xC : PySem.W.exmOne K (.ref S.CE) (.ref S.CE) = some true) (n1 : pT ≠ S.pL) (n2 : pT ≠ S.pJ) : FnOk P w K mg base CX0 11 f fd ["script"] (spLaw K pT S.pL S.pJ) := by
  refine F.ok sc_law (fun vs H Q E h => ?_) (fun A outer s H vs Q E hr h => ?_)
  · obtain ⟨a, ns, rfl, _⟩ := h
    rfl
  · obtain ⟨a0, ns, rfl, ha, hT, hL, hJ, k⟩ := h
    have hu := hu_of hr
    have hu64 := hr.units
    have TB : LamTab (cxOf CX0 P w K mg base ["script", "dice", "data", "code", "size", "many", "rows", "lines", "places", "k", "word", "names", "j", "blank", "number", "named", "text", "line", "goals", "row", "bad", "full"] "law" (defScope s_law) f (.ref cL) A outer s H E).nox [(pT, (cxOf CX0 P w K mg base ["script", "dice", "data", "code", "size", "many", "rows", "lines", "places", "k", "word", "names", "j", "blank", "number", "named", "text", "line", "goals", "row", "bad", "full"] "law" (defScope s_law) f (.ref cL) A outer s H E).nox.env.qual ++ ("<lambda>" : Str))] cL pT := ⟨TB0, rfl, List.mem_singleton.mpr rfl, fun p hp _ => by rw [List.mem_singleton.mp hp]⟩
    refine ⟨_, (pss_cons (ps_for PassesOwn.never rfl (pi_list (pe_call Z.ok__law_rounds (hr.mono (by decide)) (by rfl) Z.m__law_rounds Z.k__law_rounds Z.b__law_rounds .nil pass0 (pa_cons (pv 0) (pa_cons pe_int pa_nil)))) (pg_name (i := 1) sc_law.nd rfl (Or.inr rfl)) (pss_cons (ps_par (i := 2) (j := 3) (by rfl) sc_law.nd rfl rfl (by decide) rfl rfl (pa_cons (pe_op op_add pe_int (pe_call Z.ok__law_roll (hr.mono (by decide)) (by rfl) Z.m__law_roll Z.k__law_roll Z.b__law_roll .nil pass0 (pa_cons (pv 1) (pa_cons pe_int pa_nil)))) (pa_cons (pe_op op_add pe_int (pe_call Z.ok__law_roll (hr.mono (by decide)) (by rfl) Z.m__law_roll Z.k__law_roll Z.b__law_roll .nil pass0 (pa_cons (pv 1) (pa_cons pe_int pa_nil)))) pa_nil)) (by rfl))
        (pss_cons (ps_asg (pe_tup (pa_cons (pe_make S.M_Size S.ok_Size (hr.mono (by decide)) (by rfl) S.m_Size S.b_Size .nil pass_no (pa_cons (pv 2) (pa_cons (pv 3) pa_nil))) (pa_cons (pe_op op_add pe_int (pe_call Z.ok__law_roll (hr.mono (by decide)) (by rfl) Z.m__law_roll Z.k__law_roll Z.b__law_roll .nil pass0 (pa_cons (pv 1) (pa_cons pe_int pa_nil)))) pa_nil))) (pg_tupH (n := 2) rfl (pgs_cons (pg_name (i := 4) sc_law.nd rfl (Or.inr rfl)) (pgs_cons (pg_name (i := 5) sc_law.nd rfl (Or.inr rfl)) pgs_nil))))
        (pss_cons (ps_asg (pe_tup (pa_cons (pe_lst pa_nil) (pa_cons (pe_lst pa_nil) (pa_cons (pe_lc (own := [("k", 9)]) (g := gName 9) (tt := tYes) rfl sc_law.nd (pi_range1 rfl Z.z_range (pa_cons pe_int pa_nil)) (blkOk_by (own := [("k", 9)]) (N := ["script", "dice", "data", "code", "size", "many", "rows", "lines", "places", "k", "word", "names", "j", "blank", "number", "named", "text", "line", "goals", "row", "bad", "full"]) (sc := defScope s_law) (by decide +kernel)) (fun _ _ _ _ _ => (pg_name (i := 9) sc_law.nd rfl (Or.inl rfl))) (fun _ _ _ _ _ => pts_nil) (fun _ _ _ _ _ => (pe_call Z.ok__law_roll (hr.mono (by decide)) (by rfl) Z.m__law_roll Z.k__law_roll Z.b__law_roll .nil pass0 (pa_cons (pv 1) (pa_cons (pe_op op_add (pv 5) pe_int) pa_nil))))) pa_nil)))) (pg_tupH (n := 3) rfl (pgs_cons (pg_name (i := 6) sc_law.nd rfl (Or.inl rfl)) (pgs_cons (pg_name (i := 7) sc_law.nd rfl (Or.inl rfl)) (pgs_cons (pg_name (i := 8) sc_law.nd rfl (Or.inr rfl)) pgs_nil)))))
        (pss_cons (ps_for PassesOwn.never rfl (pi_range1 rfl Z.z_range (pa_cons (pv 5) pa_nil)) (pg_name (i := 9) sc_law.nd rfl (Or.inr rfl)) (pss_cons (ps_set (i := 10) sc_law.nd rfl (Or.inl rfl) (pe_ix (ix_c S.w_INSTRUCTIONS) (pe_glob (v := .ref S.aI) (by rfl) S.g_INSTRUCTIONS rfl) (pe_call Z.ok__law_roll (hr.mono (by decide)) (by rfl) Z.m__law_roll Z.k__law_roll Z.b__law_roll .nil pass0 (pa_cons (pv 1) (pa_cons pe_int pa_nil))) (fun _ _ => rfl)))
        (pss_cons (ps_set (i := 11) sc_law.nd rfl (Or.inl rfl) (pe_join pe_str (pe_lc (own := [("j", 12)]) (g := gName 12) rfl sc_law.nd (pi_range1 rfl Z.z_range (pa_cons pe_int pa_nil)) (blkOk_by (own := [("j", 12)]) (N := ["script", "dice", "data", "code", "size", "many", "rows", "lines", "places", "k", "word", "names", "j", "blank", "number", "named", "text", "line", "goals", "row", "bad", "full"]) (sc := defScope s_law) (by decide +kernel)) (fun _ _ _ _ _ => (pg_name (i := 12) sc_law.nd rfl (Or.inl rfl))) (fun _ _ _ _ _ => (pts_one (pt_cmpR op_eq (pe_ix ix_l (pv 8) (pv 12) (fun _ _ => rfl)) (pv 9) (nomark _)))) (fun _ _ _ _ _ => (pe_op op_add_str (pe_op op_add_str pe_str (pe_callTy call_str_int (by rfl) Z.z_str (by decide +kernel) (pa_cons (pv 12) pa_nil))) pe_str)))))
        (pss_cons (ps_set (i := 13) sc_law.nd rfl (Or.inl rfl) (pe_ix ix_l (pe_lst (pa_cons pe_str (pa_cons pe_str (pa_cons pe_str pa_nil)))) (pe_call Z.ok__law_roll (hr.mono (by decide)) (by rfl) Z.m__law_roll Z.k__law_roll Z.b__law_roll .nil pass0 (pa_cons (pv 1) (pa_cons pe_int pa_nil))) (fun _ _ => rfl)))
        (pss_one (ps_if (pt_cmpR op_inH (pv 10) (pe_lst (pa_cons pe_str (pa_cons pe_str (pa_cons pe_str (pa_cons pe_str pa_nil))))) (by rfl)) (pss_cons (ps_expr (pe_bm PySem.F.plainAttrs_list PySem.F.slot_list_append PySem.F.type_list_append mt_append (pv 6) (pa_cons (pe_tup (pa_cons (pv 10) (pa_cons pe_int pa_nil))) pa_nil)))
        (pss_one (ps_expr (pe_bm PySem.F.plainAttrs_list PySem.F.slot_list_append PySem.F.type_list_append mt_append (pv 7) (pa_cons (pe_op op_add_str (pe_op op_add_str (pe_op op_add_str (pv 13) (pv 11)) (pv 10)) (pe_ix ix_l (pe_lst (pa_cons pe_str (pa_cons pe_str pa_nil))) (pe_call Z.ok__law_roll (hr.mono (by decide)) (by rfl) Z.m__law_roll Z.k__law_roll Z.b__law_roll .nil pass0 (pa_cons (pv 1) (pa_cons pe_int pa_nil))) (fun _ _ => rfl))) pa_nil))))) (pss_one (ps_if (pt_cmpR op_inH (pv 10) (pe_lst (pa_cons pe_str (pa_cons pe_str (pa_cons pe_str pa_nil)))) (by rfl)) (pss_cons (ps_par (i := 12) (j := 14) (by rfl) sc_law.nd rfl rfl (by decide) rfl rfl (pa_cons (pe_call Z.ok__law_roll (hr.mono (by decide)) (by rfl) Z.m__law_roll Z.k__law_roll Z.b__law_roll .nil pass0 (pa_cons (pv 1) (pa_cons pe_int pa_nil))) (pa_cons (pe_call Z.ok__law_roll (hr.mono (by decide)) (by rfl) Z.m__law_roll Z.k__law_roll Z.b__law_roll .nil pass0 (pa_cons (pv 1) (pa_cons (pe_op op_add (pv 5) pe_int) pa_nil))) pa_nil)) (by rfl))
        (pss_cons (ps_set (i := 15) sc_law.nd rfl (Or.inl rfl) (pe_cmpR op_eq (pe_call Z.ok__law_roll (hr.mono (by decide)) (by rfl) Z.m__law_roll Z.k__law_roll Z.b__law_roll .nil pass0 (pa_cons (pv 1) (pa_cons pe_int pa_nil))) pe_int (nomark _)))
        (pss_cons (ps_expr (pe_bm PySem.F.plainAttrs_list PySem.F.slot_list_append PySem.F.type_list_append mt_append (pv 6) (pa_cons (pe_tup (pa_cons (pv 10) (pa_cons (pe_ifExp (pt_val (pv 15)) (pe_ix ix_l (pv 8) (pv 12) (fun _ _ => rfl)) (pv 14)) pa_nil))) pa_nil)))
        (pss_one (ps_expr (pe_bm PySem.F.plainAttrs_list PySem.F.slot_list_append PySem.F.type_list_append mt_append (pv 7) (pa_cons (pe_op op_add_str (pe_op op_add_str (pe_op op_add_str (pe_op op_add_str (pv 13) (pv 11)) (pv 10)) pe_str) (pe_ifExp (pt_val (pv 15)) (pe_op op_add_str pe_str (pe_callTy call_str_int (by rfl) Z.z_str (by decide +kernel) (pa_cons (pv 12) pa_nil))) (pe_callTy call_str_int (by rfl) Z.z_str (by decide +kernel) (pa_cons (pv 14) pa_nil)))) pa_nil))))))) (pss_cons (ps_set (i := 14) sc_law.nd rfl (Or.inl rfl) (pe_call Z.ok__law_roll (hr.mono (by decide)) (by rfl) Z.m__law_roll Z.k__law_roll Z.b__law_roll .nil pass0 (pa_cons (pv 1) (pa_cons (pe_op op_shl pe_int (pv 2)) pa_nil))))
        (pss_cons (ps_expr (pe_bm PySem.F.plainAttrs_list PySem.F.slot_list_append PySem.F.type_list_append mt_append (pv 6) (pa_cons (pe_tup (pa_cons (pv 10) (pa_cons (pv 14) pa_nil))) pa_nil)))
        (pss_one (ps_expr (pe_bm PySem.F.plainAttrs_list PySem.F.slot_list_append PySem.F.type_list_append mt_append (pv 7) (pa_cons (pe_op op_add_str (pe_op op_add_str (pe_op op_add_str (pv 11) (pv 10)) pe_str) (pe_callTy call_str_int (by rfl) Z.z_str (by decide +kernel) (pa_cons (pv 14) pa_nil))) pa_nil))))))))))))))
        (pss_cons (ps_set (i := 16) sc_law.nd rfl (Or.inr rfl) (pe_op op_add_str (pe_op op_add_str (pe_join pe_str (pv 7)) pe_str) (pe_join pe_str (pe_lc (own := [("j", 12)]) (g := gName 12) rfl sc_law.nd (pi_range1 rfl Z.z_range (pa_cons pe_int pa_nil)) (blkOk_by (own := [("j", 12)]) (N := ["script", "dice", "data", "code", "size", "many", "rows", "lines", "places", "k", "word", "names", "j", "blank", "number", "named", "text", "line", "goals", "row", "bad", "full"]) (sc := defScope s_law) (by decide +kernel)) (fun _ _ _ _ _ => (pg_name (i := 12) sc_law.nd rfl (Or.inl rfl))) (fun _ _ _ _ _ => (pts_one (pt_cmpR op_eq (pe_ix ix_l (pv 8) (pv 12) (fun _ _ => rfl)) (pv 5) (nomark _)))) (fun _ _ _ _ _ => (pe_op op_add_str (pe_op op_add_str pe_str (pe_callTy call_str_int (by rfl) Z.z_str (by decide +kernel) (pa_cons (pv 12) pa_nil))) pe_str))))))
        (pss_cons (ps_if (PW.pt (pw_or (pt_cmpR (op_neSame hu64) (pe_callTy call_list_of (by rfl) Z.z_list (by decide +kernel) (pa_cons (pe_call S.ok_assemble (hr.mono (by decide)) (by rfl) S.m_assemble S.k_assemble S.b_assemble .nil pass_no (pa_cons (pv 16) (pa_cons (pv 4) pa_nil))) pa_nil)) (pv 6) (nomark _)) (pw_or (pt_cmpR (op_neSame hu64) (pe_callTy call_list_of (by rfl) Z.z_list (by decide +kernel) (pa_cons (pe_call S.ok_assemble (hr.mono (by decide)) (by rfl) S.m_assemble S.k_assemble S.b_assemble .nil pass_no (pa_cons (pe_call S.ok_listing (hr.mono (by decide)) (by rfl) S.m_listing S.k_listing S.b_listing .nil pass0 (pa_cons (pv 6) pa_nil)) (pa_cons (pv 4) pa_nil))) pa_nil)) (pv 6) (nomark _)) (pw_or1 (pt_cmpR (op_neFL hu64) (pe_lc (own := [("line", 17)]) (g := gName 17) rfl sc_law.nd (pi_list (pe_slice sl_listH (pe_split (pe_call S.ok_listing (hr.mono (by decide)) (by rfl) S.m_listing S.k_listing S.b_listing .nil pass0 (pa_cons (pv 6) pa_nil)) pe_str) po_none (po_some (pe_un un_neg pe_int)))) (blkOk_by (own := [("line", 17)]) (N := ["script", "dice", "data", "code", "size", "many", "rows", "lines", "places", "k", "word", "names", "j", "blank", "number", "named", "text", "line", "goals", "row", "bad", "full"]) (sc := defScope s_law) (by decide +kernel)) (fun _ _ _ _ _ => (pg_name (i := 17) sc_law.nd rfl (Or.inl rfl))) (fun _ _ _ _ _ => (pts_one (pt_cmpR (op_eqFL hu64) (pe_ix ix_t (pe_call S.ok_line_parts (hr.mono (by decide)) (by rfl) S.m_line_parts S.k_line_parts S.b_line_parts .nil pass_no (pa_cons (pv 17) pa_nil)) pe_int (fun _ _ => rfl)) (pe_lst pa_nil) (nomark _)))) (fun _ _ _ _ _ => (pv 17))) (pe_lst pa_nil) (nomark _)))))) (pss_one (ps_ret pe_bl)) pss_nil)
        (pss_cons (ps_set (i := 18) sc_law.nd rfl (Or.inr rfl) (pe_callB (call_sortedDI (by rfl)) (by rfl) Z.z_sorted (by decide +kernel) (pa_cons (pe_callTy (call_dictP (by rfl)) (by rfl) Z.z_dict (by decide +kernel) (pa_cons (pe_lc (own := [("row", 19)]) (g := gName 19) rfl sc_law.nd (pi_list (pv 6)) (blkOk_by (own := [("row", 19)]) (N := ["script", "dice", "data", "code", "size", "many", "rows", "lines", "places", "k", "word", "names", "j", "blank", "number", "named", "text", "line", "goals", "row", "bad", "full"]) (sc := defScope s_law) (by decide +kernel)) (fun _ _ _ _ _ => (pg_name (i := 19) sc_law.nd rfl (Or.inl rfl))) (fun _ _ _ _ _ => (pts_one (PW.pt (pw_and (pt_cmpR op_inH (pe_ix ix_t (pv 19) pe_int (fun _ _ => rfl)) (pe_lst (pa_cons pe_str (pa_cons pe_str (pa_cons pe_str pa_nil)))) (by rfl)) (pw_and1 (pt_cmpR op_lt (pe_ix ix_t (pv 19) pe_int (fun _ _ => rfl)) (pv 5) (nomark _))))))) (fun _ _ _ _ _ => (pe_tup (pa_cons (pe_ix ix_t (pv 19) pe_int (fun _ _ => rfl)) (pa_cons pe_int pa_nil))))) pa_nil)) pa_nil)))
        (pss_cons (ps_if (pt_cmpR (op_neFL hu64) (pe_lc (own := [("k", 9), ("line", 17)]) rfl sc_law.nd (pi_enA (by rfl) Z.z_enumerate (pa_cons (pe_slice sl_listH (pe_split (pe_call S.ok_listing (hr.mono (by decide)) (by rfl) S.m_listing S.k_listing S.b_listing .nil pass0 (pa_cons (pv 6) pa_nil)) pe_str) po_none (po_some (pe_un un_neg pe_int))) pa_nil)) (blkOk_by (own := [("k", 9), ("line", 17)]) (N := ["script", "dice", "data", "code", "size", "many", "rows", "lines", "places", "k", "word", "names", "j", "blank", "number", "named", "text", "line", "goals", "row", "bad", "full"]) (sc := defScope s_law) (by decide +kernel)) (fun _ _ _ _ _ => (pg_tupH (n := 2) rfl (pgs_cons (pg_name (i := 9) sc_law.nd rfl (Or.inl rfl)) (pgs_cons (pg_name (i := 17) sc_law.nd rfl (Or.inl rfl)) pgs_nil)))) (fun _ _ _ _ _ => (pts_one (pt_cmpR (op_neFL hu64) (pe_ix ix_t (pe_call S.ok_line_parts (hr.mono (by decide)) (by rfl) S.m_line_parts S.k_line_parts S.b_line_parts .nil pass_no (pa_cons (pv 17) pa_nil)) pe_int (fun _ _ => rfl)) (pe_ifExp (pt_cmpR op_inH (pv 9) (pv 18) (by rfl)) (pe_lst (pa_cons (pe_op op_add_str pe_str (pe_callTy call_str_int (by rfl) Z.z_str (by decide +kernel) (pa_cons (pv 9) pa_nil))) pa_nil)) (pe_lst pa_nil)) (nomark _)))) (fun _ _ _ _ _ => (pv 9))) (pe_lst pa_nil) (nomark _)) (pss_one (ps_ret pe_bl)) pss_nil)
        (pss_cons (ps_set (i := 20) sc_law.nd rfl (Or.inl rfl) (pe_lst (pa_cons pe_str (pa_cons pe_str (pa_cons pe_str (pa_cons pe_str (pa_cons pe_str (pa_cons pe_str (pa_cons pe_str (pa_cons pe_str (pa_cons pe_str (pa_cons pe_str (pa_cons (pe_op op_add_str pe_str (pe_callTy call_str_int (by rfl) Z.z_str (by decide +kernel) (pa_cons (pe_op op_shl pe_int (pv 2)) pa_nil))) (pa_cons pe_str (pa_cons pe_str (pa_cons (pe_op op_add_str pe_str (pe_callTy call_str_int (by rfl) Z.z_str (by decide +kernel) (pa_cons (pe_op op_shl pe_int (pv 3)) pa_nil))) (pa_cons (pe_op op_add_str (pe_op op_repS pe_str pe_int) pe_str) pa_nil)))))))))))))))))
        (pss_cons (ps_if (pt_cmpR (op_neFL hu64) (pe_lc (own := [("line", 17)]) (g := gName 17) rfl sc_law.nd (pi_list (pv 20)) (blkOk_by (own := [("line", 17)]) (N := ["script", "dice", "data", "code", "size", "many", "rows", "lines", "places", "k", "word", "names", "j", "blank", "number", "named", "text", "line", "goals", "row", "bad", "full"]) (sc := defScope s_law) (by decide +kernel)) (fun _ _ _ _ _ => (pg_name (i := 17) sc_law.nd rfl (Or.inr rfl))) (fun _ _ _ _ _ => (pts_one (pt_cmpR op_ne (pe_toldX (k := 8) (by rfl) (TD0 _ rfl rfl) (TB.blk) (hr.mono (by decide)) (lamS_by (by rfl)) rfl (fun _ _ _ _ _ => rfl) (fun A outer s H E f c2 hr => (pe_call S.ok_assemble (hr.mono (by decide)) (by rfl) S.m_assemble S.k_assemble S.b_assemble .nil (passes_call (takes_of rfl rfl rfl rfl) (fun _ _ _ _ h => h)) (pa_cons (pe_op op_add_str (pe_op op_add_str (pe_op op_add_str (pv 16) (pv 17)) (pe_op op_repS pe_str (pe_callTy call_intB (by rfl) Z.z_int (by decide +kernel) (pa_cons (pe_cmpR op_eq (pv 17) pe_str (nomark _)) pa_nil)))) pe_str) (pa_cons (pv 4) pa_nil))))) pe_str (nomark _)))) (fun _ _ _ _ _ => (pv 17))) (pe_lst pa_nil) (nomark _)) (pss_one (ps_ret pe_bl)) pss_nil)
        (pss_cons (ps_set (i := 21) sc_law.nd rfl (Or.inr rfl) (pe_op op_repS pe_str (pe_op op_shl pe_int (pv 3))))
        (pss_one (ps_if (PW.pt (pw_or (pt_cmpR op_ne (pe_callB call_lenT (by rfl) Z.z_len (by decide +kernel) (pa_cons (pe_call S.ok_assemble (hr.mono (by decide)) (by rfl) S.m_assemble S.k_assemble S.b_assemble .nil pass_no (pa_cons (pv 21) (pa_cons (pv 4) pa_nil))) pa_nil)) (pe_op op_shl pe_int (pv 3)) (nomark _)) (pw_or1 (pt_cmpR op_ne (pe_toldX (k := 8) (by rfl) (TD0 _ rfl rfl) TB (hr.mono (by decide)) (lamS_by (by rfl)) rfl (fun _ _ _ _ _ => rfl) (fun A outer s H E f c2 hr => (pe_call S.ok_assemble (hr.mono (by decide)) (by rfl) S.m_assemble S.k_assemble S.b_assemble .nil (passes_call (takes_of rfl rfl rfl rfl) (fun _ _ _ _ h => h)) (pa_cons (pe_op op_add_str (pv 21) pe_str) (pa_cons (pv 4) pa_nil))))) pe_str (nomark _))))) (pss_one (ps_ret pe_bl)) pss_nil))))))))))))))
        (pss_cons (ps_if (PW.pt (pw_or (pt_cmpR (op_neSame hu64) (pe_call S.ok_line_parts (hr.mono (by decide)) (by rfl) S.m_line_parts S.k_line_parts S.b_line_parts .nil pass_no (pa_cons pe_str pa_nil)) (pe_tup (pa_cons (pe_lst (pa_cons pe_str (pa_cons pe_str pa_nil))) (pa_cons (pe_lst (pa_cons pe_str (pa_cons pe_str pa_nil))) pa_nil))) (nomark _)) (pw_or (pt_cmpR (op_neFT hu64) (pe_call S.ok_instruction_of (hr.mono (by decide)) (by rfl) S.m_instruction_of S.k_instruction_of S.b_instruction_of .nil pass_no (pa_cons (pe_lst (pa_cons pe_str (pa_cons pe_str pa_nil))) (pa_cons (pe_disp (pps_cons pe_str pe_int pps_nil) rfl rfl (by simp) (by decide)) pa_nil))) (pe_tup (pa_cons pe_str (pa_cons pe_int pa_nil))) (nomark _)) (pw_or (pt_cmpR op_notN (pe_call S.ok_check_label (hr.mono (by decide)) (by rfl) S.m_check_label S.k_check_label S.b_check_label .nil pass_no (pa_cons pe_str pa_nil)) pe_non (nomark _)) (pw_or1 (pt_cmpR (op_neFT hu64) (pe_call S.ok_assemble (hr.mono (by decide)) (by rfl) S.m_assemble S.k_assemble S.b_assemble .nil pass_no (pa_cons pe_str (pa_cons (pe_make S.M_Size S.ok_Size (hr.mono (by decide)) (by rfl) S.m_Size S.b_Size .nil pass_no (pa_cons pe_int (pa_cons pe_int pa_nil))) pa_nil))) (pe_tup pa_nil) (nomark _))))))) (pss_one (ps_ret pe_bl)) pss_nil)
        (pss_one (ps_ret (pe_cmpR op_eq (pe_call S.ok_listing (hr.mono (by decide)) (by rfl) S.m_listing S.k_listing S.b_listing .nil pass0 (pa_cons (pe_tup (pa_cons (pe_tup (pa_cons pe_str (pa_cons pe_int pa_nil))) (pa_cons (pe_tup (pa_cons pe_str (pa_cons pe_int pa_nil))) (pa_cons (pe_tup (pa_cons pe_str (pa_cons pe_int pa_nil))) pa_nil)))) pa_nil)) pe_str (nomark _)))))), ?_⟩
    obtain ⟨q0, eq0⟩ : ∃ q0 : Str, q0 = (cxOf CX0 P w K mg base ["script", "dice", "data", "code", "size", "many", "rows", "lines", "places", "k", "word", "names", "j", "blank", "number", "named", "text", "line", "goals", "row", "bad", "full"] "law" (defScope s_law) f (.ref cL) A outer s H E).nox.env.qual ++ ("<lambda>" : Str) := ⟨_, rfl⟩
    rw [← eq0] at TB ⊢
    clear eq0
    simp_arith [cx_K, ↓e_tJs0, ↓e_tJs, ↓e_tFmt, ↓fmt_s, ↓fmt_i, ↓e_asS, ↓e_tM1, ↓e_tM0, ex_s, ↓ex_s2, ↓ex_s1, ↓ex_l1, ↓ex_ss, ↓ex_c, ↓e_news, ↓e_tForL, ↓e_asL, ↓e_tLcL, ↓tRaiseF_, ↓e_rInT, allP_0, allP_c, put_0, put_c, look_0, look_c, exists_eq_left', exists_eq', ↓e_tDIn, ↓e_iStr, ↓ex_v, cast1, cast2, flat_strs, inV_strs, cI_flat, cI_in, ex_isi, ↓e_tForJ, ↓e_tLcJ, ↓e_tDcJ, ↓e_iRng1, ↓e_asRg, ↓e_iList, ↓e_asLs, ↓e_iTup, ↓e_asTp, ↓e_iEnA, ↓e_asEA, ↓e_iAny, ↓e_asA, ↓e_tLamX, ex_22]
    refine ⟨a0, ns, rfl, ha, fun p d H1 x y z sm npd np nd hp hd => ?_⟩
    simp_arith [cx_K, ↓e_tJs0, ↓e_tJs, ↓e_tFmt, ↓fmt_s, ↓fmt_i, ↓e_asS, ↓e_tM1, ↓e_tM0, ex_s, ↓ex_s2, ↓ex_s1, ↓ex_l1, ↓ex_ss, ↓ex_c, ↓e_news, ↓e_tForL, ↓e_asL, ↓e_tLcL, ↓tRaiseF_, ↓e_rInT, allP_0, allP_c, put_0, put_c, look_0, look_c, exists_eq_left', exists_eq', ↓e_tDIn, ↓e_iStr, ↓ex_v, cast1, cast2, flat_strs, inV_strs, cI_flat, cI_in, ex_isi, ↓e_tForJ, ↓e_tLcJ, ↓e_tDcJ, ↓e_iRng1, ↓e_asRg, ↓e_iList, ↓e_asLs, ↓e_iTup, ↓e_asTp, ↓e_iEnA, ↓e_asEA, ↓e_iAny, ↓e_asA, ↓e_tLamX, ex_22]
    have big : 60000 ≤ sizeLine := by decide
    refine ⟨⟨_, SqL.of hp⟩, loop_by (walk_l (xs := [.ref d])) (fun i σ' H' => ((i = 0 ∧ σ' = L2.start ["script", "dice", "data", "code", "size", "many", "rows", "lines", "places", "k", "word", "names", "j", "blank", "number", "named", "text", "line", "goals", "row", "bad", "full"] [.ref a0] ∧ H' = H1) ∨ (i = 1 ∧ GxR.TabG H' S.pL ∧ GxR.TabG H' S.pJ)) ∧ H' p = some (.lst [.ref d])) ⟨.inl ⟨rfl, rfl, rfl⟩, hp⟩ (fun i σ' H' _ h => SqL.of h.2) ?_ ?_⟩
    · rintro i σ' H' v H2 hi ⟨⟨rfl, rfl, rfl⟩ | ⟨rfl, _⟩, hpp⟩ ⟨rfl, hv⟩
      · obtain rfl : V.ref d = v := by simpa using hv
        have t1 : LamX.Tabs [(pT, q0)] H2 := fun pr hpr => by
          rw [List.mem_singleton.mp hpr]
          exact TabS.nil (sm _ _ hT)
        have t2 : GxR.TabG H2 S.pL := ⟨#[], sm _ _ hL, trivial⟩
        have t3 : GxR.TabG H2 S.pJ := ⟨#[], sm _ _ hJ, trivial⟩
        simp_arith [cx_K, ↓e_tJs0, ↓e_tJs, ↓e_tFmt, ↓fmt_s, ↓fmt_i, ↓e_asS, ↓e_tM1, ↓e_tM0, ex_s, ↓ex_s2, ↓ex_s1, ↓ex_l1, ↓ex_ss, ↓ex_c, ↓e_news, ↓e_tForL, ↓e_asL, ↓e_tLcL, ↓tRaiseF_, ↓e_rInT, allP_0, allP_c, put_0, put_c, look_0, look_c, exists_eq_left', exists_eq', ↓e_tDIn, ↓e_iStr, ↓ex_v, cast1, cast2, flat_strs, inV_strs, cI_flat, cI_in, ex_isi, ↓e_tForJ, ↓e_tLcJ, ↓e_tDcJ, ↓e_iRng1, ↓e_asRg, ↓e_iList, ↓e_asLs, ↓e_iTup, ↓e_asTp, ↓e_iEnA, ↓e_asEA, ↓e_iAny, ↓e_asA, ↓e_tLamX, ex_22]
        refine ⟨d, 7, x, y, z, rfl, hd, by decide, by decide, fun d1 x1 y1 z1 d10 d11 => ?_⟩
        simp_arith [cx_K, ↓e_tJs0, ↓e_tJs, ↓e_tFmt, ↓fmt_s, ↓fmt_i, ↓e_asS, ↓e_tM1, ↓e_tM0, ex_s, ↓ex_s2, ↓ex_s1, ↓ex_l1, ↓ex_ss, ↓ex_c, ↓e_news, ↓e_tForL, ↓e_asL, ↓e_tLcL, ↓tRaiseF_, ↓e_rInT, allP_0, allP_c, put_0, put_c, look_0, look_c, exists_eq_left', exists_eq', ↓e_tDIn, ↓e_iStr, ↓ex_v, cast1, cast2, flat_strs, inV_strs, cI_flat, cI_in, ex_isi, ↓e_tForJ, ↓e_tLcJ, ↓e_tDcJ, ↓e_iRng1, ↓e_asRg, ↓e_iList, ↓e_asLs, ↓e_iTup, ↓e_asTp, ↓e_iEnA, ↓e_asEA, ↓e_iAny, ↓e_asA, ↓e_tLamX, ex_22]
        refine ⟨d, 4, x1, y1, z1, rfl, upd_same, by decide, by decide, fun c1 x2 y2 z2 c10 c11 => ?_⟩
        simp_arith [cx_K, ↓e_tJs0, ↓e_tJs, ↓e_tFmt, ↓fmt_s, ↓fmt_i, ↓e_asS, ↓e_tM1, ↓e_tM0, ex_s, ↓ex_s2, ↓ex_s1, ↓ex_l1, ↓ex_ss, ↓ex_c, ↓e_news, ↓e_tForL, ↓e_asL, ↓e_tLcL, ↓tRaiseF_, ↓e_rInT, allP_0, allP_c, put_0, put_c, look_0, look_c, exists_eq_left', exists_eq', ↓e_tDIn, ↓e_iStr, ↓ex_v, cast1, cast2, flat_strs, inV_strs, cI_flat, cI_in, ex_isi, ↓e_tForJ, ↓e_tLcJ, ↓e_tDcJ, ↓e_iRng1, ↓e_asRg, ↓e_iList, ↓e_asLs, ↓e_iTup, ↓e_asTp, ↓e_iEnA, ↓e_asEA, ↓e_iAny, ↓e_asA, ↓e_tLamX, ex_22]
        obtain ⟨dn, ed, hd2, hd8⟩ : ∃ n : Nat, 2 + d1 = n ∧ 2 ≤ n ∧ n ≤ 8 := ⟨(2 + d1).toNat, by omega, by omega, by omega⟩
        obtain ⟨cn, ec, hc2, hc8⟩ : ∃ n : Nat, 5 + c1 = n ∧ 5 ≤ n ∧ n ≤ 8 := ⟨(5 + c1).toNat, by omega, by omega, by omega⟩
        rw [ed, ec]
        intro zz dz nzz1 nzz2 ndz1 ndz2 ndd
        refine ⟨zz, dz, dn, cn, rfl, upd_same, by omega, by omega, ?_⟩
        rw [if_pos ⟨by omega, by omega, by omega, by omega⟩]
        intro H5 SZ k5
        refine ⟨rfl, ?_⟩
        have k25 : Keep [d] H2 (upd (upd (upd H2 d (.lst [.int x2, .int y2, .int z2])) dz (.own zz)) zz (.ins S.CS dz [])) := ((Keep.refl.at (List.mem_singleton.mpr rfl)).new (upd_none.mpr ⟨ndz1, ndz2⟩)).new (upd_none.mpr ⟨Ne.symm ndd, upd_none.mpr ⟨nzz1, nzz2⟩⟩)
        have ndzz : ∀ {q : Addr} {u : HO}, H2 q = some u → q ≠ zz ∧ q ≠ dz := fun e => ⟨ne_of_none e nzz2, ne_of_none e ndz2⟩
        have hd5 : H5 d = some (.lst [.int x2, .int y2, .int z2]) := k5 _ _ (by rw [upd_ne (ndzz hd).1, upd_ne (ndzz hd).2, upd_same]) (by simpa using (ndzz hd).1)
        have kB : ∀ {q : Addr} {u : HO}, H2 q = some u → q ≠ d → H5 q = some u := fun e n => k5 _ _ (k25 _ _ e (by simpa using n)) (by simpa using (ndzz e).1)
        refine ⟨d, 20, x2, y2, z2, rfl, hd5, by decide, by decide, fun m1 x3 y3 z3 m10 m11 => ?_⟩
        simp_arith [cx_K, ↓e_tJs0, ↓e_tJs, ↓e_tFmt, ↓fmt_s, ↓fmt_i, ↓e_asS, ↓e_tM1, ↓e_tM0, ex_s, ↓ex_s2, ↓ex_s1, ↓ex_l1, ↓ex_ss, ↓ex_c, ↓e_news, ↓e_tForL, ↓e_asL, ↓e_tLcL, ↓tRaiseF_, ↓e_rInT, allP_0, allP_c, put_0, put_c, look_0, look_c, exists_eq_left', exists_eq', ↓e_tDIn, ↓e_iStr, ↓ex_v, cast1, cast2, flat_strs, inV_strs, cI_flat, cI_in, ex_isi, ↓e_tForJ, ↓e_tLcJ, ↓e_tDcJ, ↓e_iRng1, ↓e_asRg, ↓e_iList, ↓e_asLs, ↓e_iTup, ↓e_asTp, ↓e_iEnA, ↓e_asEA, ↓e_iAny, ↓e_asA, ↓e_tLamX, ex_22]
        obtain ⟨many, em, hm1, hm2⟩ : ∃ n : Nat, 1 + m1 = n ∧ 1 ≤ n ∧ n ≤ 20 := ⟨(1 + m1).toNat, by omega, by omega, by omega⟩
        rw [em]
        intro p1 np1d np15 rl n21 nrld nrl5 ll n32 n31 nlld nll5
        obtain ⟨Y, eY⟩ : ∃ Y : Hp, Y = upd (upd (upd (upd H5 d (.lst [.int x3, .int y3, .int z3])) p1 (.tup [.ref zz, .int many])) rl (.lst [])) ll (.lst []) := ⟨_, rfl⟩
        rw [← eY]
        have kY : Keep [d] H5 Y := by
          rw [eY]
          exact (((Keep.refl.at (List.mem_singleton.mpr rfl)).over np15).over nrl5).over nll5
        have hdY : Y d = some (.lst [.int x3, .int y3, .int z3]) := by rw [eY, upd_ne (Ne.symm nlld), upd_ne (Ne.symm nrld), upd_ne (Ne.symm np1d), upd_same]
        have hrY : Y rl = some (.lst []) := by rw [eY, upd_ne (Ne.symm n32), upd_same]
        have hlY : Y ll = some (.lst []) := by rw [eY, upd_same]
        clear eY
        refine ⟨by decide, by decide, lc_by walk_r (fun D i G => ∃ vs : List Nat, vs.length = i ∧ (∀ v ∈ vs, v ≤ many) ∧ G D = some (.lst (vs.map fun v => V.int ((v : Nat) : Int))) ∧ (∃ x y z : Int, G d = some (.lst [.int x, .int y, .int z])) ∧ Keep [d] Y G) (fun D nD => ⟨[], rfl, nofun, upd_same, ⟨_, _, _, by rw [upd_ne (ne_of_none hdY nD)]; exact hdY⟩, Keep.refl.new nD⟩) (fun _ _ _ _ _ _ => trivial) ?_ ?_⟩
        · rintro D i G x G2 nD hi ⟨vs, lv, bv, hD, ⟨x4, y4, z4, hdG⟩, kG⟩ ⟨rfl, rfl⟩
          simp_arith [cx_K, ↓e_tJs0, ↓e_tJs, ↓e_tFmt, ↓fmt_s, ↓fmt_i, ↓e_asS, ↓e_tM1, ↓e_tM0, ex_s, ↓ex_s2, ↓ex_s1, ↓ex_l1, ↓ex_ss, ↓ex_c, ↓e_news, ↓e_tForL, ↓e_asL, ↓e_tLcL, ↓tRaiseF_, ↓e_rInT, allP_0, allP_c, put_0, put_c, look_0, look_c, exists_eq_left', exists_eq', ↓e_tDIn, ↓e_iStr, ↓ex_v, cast1, cast2, flat_strs, inV_strs, cI_flat, cI_in, ex_isi, ↓e_tForJ, ↓e_tLcJ, ↓e_tDcJ, ↓e_iRng1, ↓e_asRg, ↓e_iList, ↓e_asLs, ↓e_iTup, ↓e_asTp, ↓e_iEnA, ↓e_asEA, ↓e_iAny, ↓e_asA, ↓e_tLamX, ex_22, wipe]
          have Dd : D ≠ d := fun e => by rw [e, hdY] at nD; cases nD
          refine ⟨d, _, x4, y4, z4, rfl, hdG, by omega, by omega, fun v x5 y5 z5 v0 v1 => ?_⟩
          obtain ⟨v, rfl⟩ := Int.eq_ofNat_of_zero_le v0
          have hD2 : (upd G2 d (.lst [.int x5, .int y5, .int z5])) D = some (.lst (vs.map fun v => V.int ((v : Nat) : Int))) := by rw [upd_ne Dd]; exact hD
          refine ⟨_, hD2, by rw [List.length_map]; omega, vs ++ [v], by simp [lv], fun u hu => ?_, by simp, ⟨x5, y5, z5, by rw [upd_ne (Ne.symm Dd), upd_same]⟩, (kG.at (List.mem_singleton.mpr rfl)).over nD⟩
          rcases List.mem_append.mp hu with hu | hu
          · exact bv u hu
          · rw [List.mem_singleton.mp hu]
            omega
        · rintro pl G npl ⟨vs, lv, bv, hD, ⟨x4, y4, z4, hdG⟩, kG⟩
          obtain ⟨a, b, c, rfl⟩ : ∃ a b c, vs = [a, b, c] := by
            match vs, lv with
            | [a, b, c], _ => exact ⟨a, b, c, rfl⟩
          have ha := bv a (by simp)
          have hb := bv b (by simp)
          have hc := bv c (by simp)
          simp_arith [cx_K, ↓e_tJs0, ↓e_tJs, ↓e_tFmt, ↓fmt_s, ↓fmt_i, ↓e_asS, ↓e_tM1, ↓e_tM0, ex_s, ↓ex_s2, ↓ex_s1, ↓ex_l1, ↓ex_ss, ↓ex_c, ↓e_news, ↓e_tForL, ↓e_asL, ↓e_tLcL, ↓tRaiseF_, ↓e_rInT, allP_0, allP_c, put_0, put_c, look_0, look_c, exists_eq_left', exists_eq', ↓e_tDIn, ↓e_iStr, ↓ex_v, cast1, cast2, flat_strs, inV_strs, cI_flat, cI_in, ex_isi, ↓e_tForJ, ↓e_tLcJ, ↓e_tDcJ, ↓e_iRng1, ↓e_asRg, ↓e_iList, ↓e_asLs, ↓e_iTup, ↓e_asTp, ↓e_iEnA, ↓e_asEA, ↓e_iAny, ↓e_asA, ↓e_tLamX, ex_22]
          intro p4 np4
          obtain ⟨G0, eG0⟩ : ∃ G0 : Hp, G0 = upd G p4 (.tup [.ref rl, .ref ll, .ref pl]) := ⟨_, rfl⟩
          rw [← eG0]
          have kG0 : Keep [] G G0 := by rw [eG0]; exact Keep.refl.new np4
          clear eG0
          have ndG : ∀ {q u}, Y q = some u → q ≠ d → G0 q = some u := fun e n => kG0 _ _ (kG _ _ e (by simpa using n)) (by simp)
          have old : ∀ {q u}, H2 q = some u → q ≠ d → G0 q = some u := fun e n => ndG (kY _ _ (kB e n) (by simpa using n)) n
          have tdn : ∀ {q ps}, H2 q = some (.tbl ps) → q ≠ d := fun e h => by rw [h, hd] at e; cases e
          have a1 : d ≠ pl := fun e => by rw [← e, hdY] at npl; cases npl
          have a2 : rl ≠ p := fun e => by
            have z1 := old hpp npd
            rw [← e, ndG hrY nrld] at z1
            cases z1
          have a3 : rl ≠ pl := fun e => by rw [← e, hrY] at npl; cases npl
          have a4 : ll ≠ p := fun e => by
            have z1 := old hpp npd
            rw [← e, ndG hlY nlld] at z1
            cases z1
          have a5 : ll ≠ pl := fun e => by rw [← e, hlY] at npl; cases npl
          have s0 : St S.CS pT S.pL S.pJ q0 d p zz pl rl ll dn cn a b c G0 [] [] [] := {
            D := ⟨x4, y4, z4, kG0 _ _ hdG (by simp)⟩
            P := old hpp npd
            Z := by
              obtain ⟨dx, fs, e, r⟩ := SZ
              have zd : zz ≠ d := Ne.symm (ndzz hd).1
              exact ⟨dx, fs, ndG (kY _ _ e (by simpa using zd)) zd, r⟩
            L := kG0 _ _ hD (by simp)
            R := ndG hrY nrld
            RW := .nil
            LN := ndG hlY nlld
            TT := fun pr hp => by
              obtain ⟨ps, e2, o⟩ := t1 pr hp
              refine ⟨ps, old e2 (tdn e2), o.1, fun pos cv hc => ?_⟩
              obtain ⟨c, ec, o2⟩ := o.2 pos cv hc
              exact ⟨c, ec, old o2 (fun h => by rw [h, hd] at o2; unfold LamX.CodeO at o2; cases o2)⟩
            TL := let ⟨ps, e2, o⟩ := t2; ⟨ps, old e2 (tdn e2), o⟩
            TJ := let ⟨ps, e2, o⟩ := t3; ⟨ps, old e2 (tdn e2), o⟩
            ap := ⟨Ne.symm npd, a1, Ne.symm nrld, Ne.symm nlld, a2, a3, Ne.symm n32, a4, a5⟩ }
          simp_arith [cx_K, ↓e_tJs0, ↓e_tJs, ↓e_tFmt, ↓fmt_s, ↓fmt_i, ↓e_asS, ↓e_tM1, ↓e_tM0, ex_s, ↓ex_s2, ↓ex_s1, ↓ex_l1, ↓ex_ss, ↓ex_c, ↓e_news, ↓e_tForL, ↓e_asL, ↓e_tLcL, ↓tRaiseF_, ↓e_rInT, allP_0, allP_c, put_0, put_c, look_0, look_c, exists_eq_left', exists_eq', ↓e_tDIn, ↓e_iStr, ↓ex_v, cast1, cast2, flat_strs, inV_strs, cI_flat, cI_in, ex_isi, ↓e_tForJ, ↓e_tLcJ, ↓e_tDcJ, ↓e_iRng1, ↓e_asRg, ↓e_iList, ↓e_asLs, ↓e_iTup, ↓e_asTp, ↓e_iEnA, ↓e_asEA, ↓e_iAny, ↓e_asA, ↓e_tLamX, ex_22]
          have qs : ∀ {G : Hp} {rs rws lns}, St S.CS pT S.pL S.pJ q0 d p zz pl rl ll dn cn a b c G rs rws lns → G p = some (.lst [.ref d]) := fun s => s.P
          obtain ⟨Inv, eInv⟩ : ∃ Inv : Nat → L2.St → Hp → Prop, ∀ k σ G, Inv k σ G ↔ ∃ (v9 v10 v11 v12 v13 v14 v15 : Option V) (rs : List Addr) (rws : List (Str × Nat)) (lns : List Str), σ = [some (.ref a0), some (.ref d), some (.int dn), some (.int cn), some (.ref zz), some (.int many), some (.ref rl), some (.ref ll), some (.ref pl), v9, v10, v11, v12, v13, v14, v15, none, none, none, none, none, none] ∧
            St S.CS pT S.pL S.pJ q0 d p zz pl rl ll dn cn a b c G rs rws lns ∧ rws.length = k ∧ lns.length = k ∧ (∀ i q y, rws[i]? = some q → lns[i]? = some y → Built (D3 a b c) dn cn i q (tl y)) ∧ ∀ y ∈ lns, y.length ≤ 100 := ⟨_, fun _ _ _ => Iff.rfl⟩
          refine ⟨by omega, by omega, loop_by walk_r Inv ((eInv _ _ _).mpr ⟨none, none, none, none, none, none, none, [], [], [], rfl, s0, rfl, rfl, fun i q y e => by simp at e, nofun⟩) (fun _ _ _ _ _ => trivial) ?_ ?_⟩
          · rintro k σ G v G2 hk hI ⟨rfl, rfl⟩
            obtain ⟨v9, v10, v11, v12, v13, v14, v15, rs, rws, lns, rfl, s1, lr, ll1, B, bL⟩ := (eInv _ _ _).mp hI
            clear hI
            have fin : ∀ (G' : Hp) (rs' : List Addr) (q : Str × Nat) (y : Str) (v9 v10 v11 v12 v13 v14 v15 : Option V), St S.CS pT S.pL S.pJ q0 d p zz pl rl ll dn cn a b c G' rs' (rws ++ [q]) lns → Built (D3 a b c) dn cn k q (tl y) → y.length ≤ 100 →
                Inv (k + 1) [some (.ref a0), some (.ref d), some (.int dn), some (.int cn), some (.ref zz), some (.int many), some (.ref rl), some (.ref ll), some (.ref pl), v9, v10, v11, v12, v13, v14, v15, none, none, none, none, none, none] (upd G' ll (.lst (lns.map V.str ++ [.str y]))) := fun G' rs' q y v9 v10 v11 v12 v13 v14 v15 s' b' l' => by
              refine (eInv _ _ _).mpr ⟨v9, v10, v11, v12, v13, v14, v15, rs', rws ++ [q], lns ++ [y], rfl, s'.line y, by simp [lr], by simp [ll1], fun i q2 y2 e1 e2 => ?_, fun y2 hy => ?_⟩
              · by_cases hik : i < k
                · rw [List.getElem?_append_left (by omega)] at e1 e2
                  exact B i q2 y2 e1 e2
                · rw [List.getElem?_append_right (by omega)] at e1 e2
                  have hik2 : i = k := by
                    have := (List.getElem?_eq_some_iff.mp e1).1
                    simp at this
                    omega
                  subst hik2
                  rw [lr, Nat.sub_self] at e1
                  rw [ll1, Nat.sub_self] at e2
                  cases e1
                  cases e2
                  exact b'
              · rcases List.mem_append.mp hy with hy | hy
                · exact bL y2 hy
                · rw [List.mem_singleton.mp hy]
                  exact l'
            have k20 : k < 20 := by omega
            simp_arith [cx_K, ↓e_tJs0, ↓e_tJs, ↓e_tFmt, ↓fmt_s, ↓fmt_i, ↓e_asS, ↓e_tM1, ↓e_tM0, ex_s, ↓ex_s2, ↓ex_s1, ↓ex_l1, ↓ex_ss, ↓ex_c, ↓e_news, ↓e_tForL, ↓e_asL, ↓e_tLcL, ↓tRaiseF_, ↓e_rInT, allP_0, allP_c, put_0, put_c, look_0, look_c, exists_eq_left', exists_eq', ↓e_tDIn, ↓e_iStr, ↓ex_v, cast1, cast2, flat_strs, inV_strs, cI_flat, cI_in, ex_isi, ↓e_tForJ, ↓e_tLcJ, ↓e_tDcJ, ↓e_iRng1, ↓e_asRg, ↓e_iList, ↓e_asLs, ↓e_iTup, ↓e_asTp, ↓e_iEnA, ↓e_asEA, ↓e_iAny, ↓e_asA, ↓e_tLamX, ex_22, Int.zero_add]
            refine s1.roll (by decide) (by decide) fun wi G3 wlt s2 k3 => ?_
            obtain ⟨wd, ew, hwd⟩ : ∃ wd, atI cI ((wi : Nat) : Int) = some (.str wd) ∧ wd ∈ cIs := by
              have l16 : cIs.length = 16 := by decide
              have lt : wi < cIs.length := by omega
              refine ⟨cIs[wi], ?_, List.getElem_mem lt⟩
              unfold cI
              exact atI_nat (by simp [lt])
            simp_arith [cx_K, ↓e_tJs0, ↓e_tJs, ↓e_tFmt, ↓fmt_s, ↓fmt_i, ↓e_asS, ↓e_tM1, ↓e_tM0, ex_s, ↓ex_s2, ↓ex_s1, ↓ex_l1, ↓ex_ss, ↓ex_c, ↓e_news, ↓e_tForL, ↓e_asL, ↓e_tLcL, ↓tRaiseF_, ↓e_rInT, allP_0, allP_c, put_0, put_c, look_0, look_c, exists_eq_left', exists_eq', ↓e_tDIn, ↓e_iStr, ↓ex_v, cast1, cast2, flat_strs, inV_strs, cI_flat, cI_in, ex_isi, ↓e_tForJ, ↓e_tLcJ, ↓e_tDcJ, ↓e_iRng1, ↓e_asRg, ↓e_iList, ↓e_asLs, ↓e_iTup, ↓e_asTp, ↓e_iEnA, ↓e_asEA, ↓e_iAny, ↓e_asA, ↓e_tLamX, ex_22, ew]
            refine ⟨by decide, by decide, names_by (X := 9) (k := k) (suf := Str.ofString ": ") s2 rfl rfl (by decide) rfl (by decide +kernel) fun Dn G4 zs kn nDn hDn ez lz bz => ?_⟩
            refine ⟨_, Dn, zs, rfl, rfl, .inl (SqL.of hDn), ?_, fun p5 np5 => ?_⟩
            · have := sum_le bz
              have e0 : (Str.ofString "").length = 0 := by decide +kernel
              rw [e0]
              omega
            obtain ⟨nm, enm⟩ : ∃ nm : Str, nm = Txt.join (Str.ofString "") zs := ⟨_, rfl⟩
            have tnm : tl nm = namesL (D3 a b c) k := by
              rw [enm, join_eq, tl_join, show tl (Str.ofString "") = [] from by decide +kernel, joinL_nil, ez]
              rfl
            have lnm : nm.length ≤ 60 := by
              have h1 : (tl nm).length = (zs.map fun x => x.length).sum := by
                rw [enm, join_eq, tl_join, show tl (Str.ofString "") = [] from by decide +kernel, joinL_nil, List.length_flatten, List.map_map]
                rfl
              have := sum_le bz
              rw [len_tl, h1]
              omega
            rw [← enm]
            clear enm
            have k4 : Keep [] G3 (upd G4 p5 (.lst [.str (Str.ofString ""), .str (Str.ofString "  "), .str (Str.ofString "// note\n")])) := kn.new np5
            have s4 := s2.keep k4
            refine s4.roll (by decide) (by decide) fun bi G5 blt s5 k5 => ?_
            obtain ⟨bl, ebl, hbl, lbl⟩ : ∃ bl : Str, atI [V.str (Str.ofString ""), V.str (Str.ofString "  "), V.str (Str.ofString "// note\n")] ((bi : Nat) : Int) = some (.str bl) ∧ (tl bl = [] ∨ tl bl = sp 2 ∨ tl bl = noteL ++ [10]) ∧ bl.length ≤ 8 := by
              rcases (show bi = 0 ∨ bi = 1 ∨ bi = 2 by omega) with rfl | rfl | rfl
              · exact ⟨_, rfl, .inl (by decide +kernel), by decide +kernel⟩
              · exact ⟨_, rfl, .inr (.inl (by decide +kernel)), by decide +kernel⟩
              · exact ⟨_, rfl, .inr (.inr (by decide +kernel)), by decide +kernel⟩
            have p5d : p5 ≠ d := fun e => by
              obtain ⟨x, y, z, e2⟩ := (s2.keep kn).D
              rw [← e, np5] at e2
              cases e2
            have hp5 := k5 _ _ (upd_same (H := G4) (a := p5)) (by simpa using p5d)
            simp_arith [cx_K, ↓e_tJs0, ↓e_tJs, ↓e_tFmt, ↓fmt_s, ↓fmt_i, ↓e_asS, ↓e_tM1, ↓e_tM0, ex_s, ↓ex_s2, ↓ex_s1, ↓ex_l1, ↓ex_ss, ↓ex_c, ↓e_news, ↓e_tForL, ↓e_asL, ↓e_tLcL, ↓tRaiseF_, ↓e_rInT, allP_0, allP_c, put_0, put_c, look_0, look_c, exists_eq_left', exists_eq', ↓e_tDIn, ↓e_iStr, ↓ex_v, cast1, cast2, flat_strs, inV_strs, cI_flat, cI_in, ex_isi, ↓e_tForJ, ↓e_tLcJ, ↓e_tDcJ, ↓e_iRng1, ↓e_asRg, ↓e_iList, ↓e_asLs, ↓e_iTup, ↓e_asTp, ↓e_iEnA, ↓e_asEA, ↓e_iAny, ↓e_asA, ↓e_tLamX, ex_22, hp5, ebl]
            intro p6 np6
            have k6 : Keep [] G5 (upd G5 p6 (.lst [.str (Str.ofString "halt"), .str (Str.ofString "out"), .str (Str.ofString "in"), .str (Str.ofString "half")])) := Keep.refl.new np6
            have s6 := s5.keep k6
            have lwd : wd.length ≤ 8 := by
              have : ∀ w ∈ cIs, w.length ≤ 8 := by decide +kernel
              exact this wd hwd
            have cP : ((Str.ofString "halt" == wd) = true ∨ (Str.ofString "out" == wd) = true ∨ (Str.ofString "in" == wd) = true ∨ (Str.ofString "half" == wd) = true) ↔ wd ∈ wPlain := by
              simp only [wPlain, List.map_cons, List.map_nil, List.mem_cons, List.not_mem_nil, or_false, beq_iff_eq]
              exact ⟨fun h => h.imp Eq.symm (Or.imp Eq.symm (Or.imp Eq.symm Eq.symm)), fun h => h.imp Eq.symm (Or.imp Eq.symm (Or.imp Eq.symm Eq.symm))⟩
            obtain ⟨Y, eY⟩ : ∃ Y : Hp, Y = upd G5 p6 (.lst [.str (Str.ofString "halt"), .str (Str.ofString "out"), .str (Str.ofString "in"), .str (Str.ofString "half")]) := ⟨_, rfl⟩
            rw [← eY]
            rw [← eY] at s6
            have nY : ∀ q, q ≠ p6 → G5 q = none → Y q = none := fun q n e => by rw [eY, upd_ne n]; exact e
            clear eY
            rcases mem_cIs.mp hwd with mP | mR
            · rw [if_pos (cP.mpr mP)]
              simp_arith [cx_K, ↓e_tJs0, ↓e_tJs, ↓e_tFmt, ↓fmt_s, ↓fmt_i, ↓e_asS, ↓e_tM1, ↓e_tM0, ex_s, ↓ex_s2, ↓ex_s1, ↓ex_l1, ↓ex_ss, ↓ex_c, ↓e_news, ↓e_tForL, ↓e_asL, ↓e_tLcL, ↓tRaiseF_, ↓e_rInT, allP_0, allP_c, put_0, put_c, look_0, look_c, exists_eq_left', exists_eq', ↓e_tDIn, ↓e_iStr, ↓ex_v, cast1, cast2, flat_strs, inV_strs, cI_flat, cI_in, ex_isi, ↓e_tForJ, ↓e_tLcJ, ↓e_tDcJ, ↓e_iRng1, ↓e_asRg, ↓e_iList, ↓e_asLs, ↓e_iTup, ↓e_asTp, ↓e_iEnA, ↓e_asEA, ↓e_iAny, ↓e_asA, ↓e_tLamX, ex_22, ↓e_tBM]
              refine ⟨.inl ⟨rfl, _, SqL.of s6.R⟩, fun p7 np7 => ?_⟩
              have s7 := (s6.keep (Keep.refl.new np7)).row (w := wd) (n := 0) upd_same
              have hR7 := (s6.keep (Keep.refl.new (u := .tup [.str wd, .int 0]) np7)).R
              refine ⟨_, hR7, by rw [List.length_map, paired_len s6.RW]; omega, .inl ⟨rfl, _, SqL.of s7.LN⟩, by omega, by rw [strLen_append]; omega, fun p8 n8a n8b n8 => ?_⟩
              have s8 := s7.keep (Keep.refl.new (u := .lst [.str (Str.ofString ""), .str (Str.ofString " // x")]) (upd_none.mpr ⟨n8a, upd_none.mpr ⟨n8b, n8⟩⟩))
              refine s8.roll (by decide) (by decide) fun ri G9 rlt s9 k9 => ?_
              obtain ⟨rm, erm, hrm, lrm⟩ : ∃ rm : Str, atI [V.str (Str.ofString ""), V.str (Str.ofString " // x")] ((ri : Nat) : Int) = some (.str rm) ∧ (tl rm = [] ∨ tl rm = sp 1 ++ [47, 47, 32, 120]) ∧ rm.length ≤ 8 := by
                rcases (show ri = 0 ∨ ri = 1 by omega) with rfl | rfl
                · exact ⟨_, rfl, .inl (by decide +kernel), by decide +kernel⟩
                · exact ⟨_, rfl, .inr (by decide +kernel), by decide +kernel⟩
              have p8d : p8 ≠ d := fun e => by
                obtain ⟨x, y, z, e2⟩ := s6.D
                rw [← e, n8] at e2
                cases e2
              have hp8 := k9 _ _ upd_same (by simpa using p8d)
              simp_arith [cx_K, ↓e_tJs0, ↓e_tJs, ↓e_tFmt, ↓fmt_s, ↓fmt_i, ↓e_asS, ↓e_tM1, ↓e_tM0, ex_s, ↓ex_s2, ↓ex_s1, ↓ex_l1, ↓ex_ss, ↓ex_c, ↓e_news, ↓e_tForL, ↓e_asL, ↓e_tLcL, ↓tRaiseF_, ↓e_rInT, allP_0, allP_c, put_0, put_c, look_0, look_c, exists_eq_left', exists_eq', ↓e_tDIn, ↓e_iStr, ↓ex_v, cast1, cast2, flat_strs, inV_strs, cI_flat, cI_in, ex_isi, ↓e_tForJ, ↓e_tLcJ, ↓e_tDcJ, ↓e_iRng1, ↓e_asRg, ↓e_iList, ↓e_asLs, ↓e_iTup, ↓e_asTp, ↓e_iEnA, ↓e_asEA, ↓e_iAny, ↓e_asA, ↓e_tLamX, ex_22, hp8, erm]
              refine ⟨by simp only [strLen_append]; omega, ⟨_, s9.LN, by rw [List.length_map, ll1]; omega, fin _ _ (wd, 0) _ _ _ _ _ _ _ _ s9 ?_ (by simp only [strLen_append]; omega)⟩⟩
              rw [tl_append, tl_append, tl_append, tnm, List.append_assoc, List.append_assoc]
              exact Built.plain mP hbl hrm
            · have cJ : ((Str.ofString "jump" == wd) = true ∨ (Str.ofString "zero" == wd) = true ∨ (Str.ofString "less" == wd) = true) ↔ wd ∈ wJump := by
                simp only [wJump, List.map_cons, List.map_nil, List.mem_cons, List.not_mem_nil, or_false, beq_iff_eq]
                exact ⟨fun h => h.imp Eq.symm (Or.imp Eq.symm Eq.symm), fun h => h.imp Eq.symm (Or.imp Eq.symm Eq.symm)⟩
              have nP : wd ∉ wPlain := fun h => by
                rcases mR with h2 | h2
                · exact jump_plain h2 h
                · exact data_plain h2 h
              rw [if_neg (fun h => nP (cP.mp h))]
              simp_arith [cx_K, ↓e_tJs0, ↓e_tJs, ↓e_tFmt, ↓fmt_s, ↓fmt_i, ↓e_asS, ↓e_tM1, ↓e_tM0, ex_s, ↓ex_s2, ↓ex_s1, ↓ex_l1, ↓ex_ss, ↓ex_c, ↓e_news, ↓e_tForL, ↓e_asL, ↓e_tLcL, ↓tRaiseF_, ↓e_rInT, allP_0, allP_c, put_0, put_c, look_0, look_c, exists_eq_left', exists_eq', ↓e_tDIn, ↓e_iStr, ↓ex_v, cast1, cast2, flat_strs, inV_strs, cI_flat, cI_in, ex_isi, ↓e_tForJ, ↓e_tLcJ, ↓e_tDcJ, ↓e_iRng1, ↓e_asRg, ↓e_iList, ↓e_asLs, ↓e_iTup, ↓e_asTp, ↓e_iEnA, ↓e_asEA, ↓e_iAny, ↓e_asA, ↓e_tLamX, ex_22]
              intro p7 np76 np7
              have s7 := s6.keep (Keep.refl.new (u := .lst [.str (Str.ofString "jump"), .str (Str.ofString "zero"), .str (Str.ofString "less")]) (nY p7 np76 np7))
              by_cases mJ : wd ∈ wJump
              · refine ite_yes (cJ.mpr mJ) ?_
                refine s7.roll (by decide) (by decide) fun j G8 jlt s8 _ => s8.roll (by omega) (by omega) fun num G9 nlt s9 _ => s9.roll (by decide) (by decide) fun nn G10 nnlt s10 _ => ?_
                refine ⟨rfl, ?_⟩
                obtain ⟨nmd, enmd⟩ : ∃ nmd : Bool, decide (V.int ((nn : Nat) : Int) = V.int 0) = nmd := ⟨_, rfl⟩
                rw [enmd]
                simp_arith [cx_K, ↓e_tJs0, ↓e_tJs, ↓e_tFmt, ↓fmt_s, ↓fmt_i, ↓e_asS, ↓e_tM1, ↓e_tM0, ex_s, ↓ex_s2, ↓ex_s1, ↓ex_l1, ↓ex_ss, ↓ex_c, ↓e_news, ↓e_tForL, ↓e_asL, ↓e_tLcL, ↓tRaiseF_, ↓e_rInT, allP_0, allP_c, put_0, put_c, look_0, look_c, exists_eq_left', exists_eq', ↓e_tDIn, ↓e_iStr, ↓ex_v, cast1, cast2, flat_strs, inV_strs, cI_flat, cI_in, ex_isi, ↓e_tForJ, ↓e_tLcJ, ↓e_tDcJ, ↓e_iRng1, ↓e_asRg, ↓e_iList, ↓e_asLs, ↓e_iTup, ↓e_asTp, ↓e_iEnA, ↓e_asEA, ↓e_iAny, ↓e_asA, ↓e_tLamX, ex_22, ↓e_tBM]
                refine ⟨.inl ⟨rfl, _, SqL.of s10.R⟩, ?_⟩
                have sp2 : tl (Str.ofString "  ") = sp 2 := by decide +kernel
                have ls2 : (Str.ofString "  ").length = 2 := by decide +kernel
                have lx1 : (Str.ofString "x").length = 1 := by decide +kernel
                have c32 : 32 ≤ 2 ^ cn := Nat.pow_le_pow_right (n := 2) (by decide) hc2
                cases nmd
                · have e3 := numT_len (n := num) (by omega)
                  unfold numT at e3
                  simp_arith [cx_K, ↓e_tJs0, ↓e_tJs, ↓e_tFmt, ↓fmt_s, ↓fmt_i, ↓e_asS, ↓e_tM1, ↓e_tM0, ex_s, ↓ex_s2, ↓ex_s1, ↓ex_l1, ↓ex_ss, ↓ex_c, ↓e_news, ↓e_tForL, ↓e_asL, ↓e_tLcL, ↓tRaiseF_, ↓e_rInT, allP_0, allP_c, put_0, put_c, look_0, look_c, exists_eq_left', exists_eq', ↓e_tDIn, ↓e_iStr, ↓ex_v, cast1, cast2, flat_strs, inV_strs, cI_flat, cI_in, ex_isi, ↓e_tForJ, ↓e_tLcJ, ↓e_tDcJ, ↓e_iRng1, ↓e_asRg, ↓e_iList, ↓e_asLs, ↓e_iTup, ↓e_asTp, ↓e_iEnA, ↓e_asEA, ↓e_iAny, ↓e_asA, ↓e_tLamX, ex_22]
                  refine fun p8 n8 => ⟨_, (s10.keep (Keep.refl.new n8)).R, by rw [List.length_map, paired_len s10.RW]; omega, .inl ⟨rfl, _, SqL.of ((s10.keep (Keep.refl.new n8)).row (w := wd) (n := num) upd_same).LN⟩, by omega, by rw [strLen_append]; omega, by rw [strLen_append, strLen_append]; omega, num, rfl, numT_log (by omega), by rw [strLen_append, strLen_append, strLen_append]; omega,
                    ⟨_, ((s10.keep (Keep.refl.new n8)).row (w := wd) (n := num) upd_same).LN, by rw [List.length_map, ll1]; omega, fin _ _ (wd, num) _ _ _ _ _ _ _ _ ((s10.keep (Keep.refl.new n8)).row (w := wd) (n := num) upd_same) ?_ (by simp only [strLen_append]; omega)⟩⟩
                  rw [tl_append, tl_append, tl_append, tl_append, tnm, sp2, List.append_assoc, List.append_assoc, List.append_assoc]
                  exact Built.jump (m := 1) mJ hbl (by rw [tl_num]; exact isW_num num) (.inr ⟨tl_num num, D3_none (tl_num num)⟩) (by omega) (by omega)
                · obtain ⟨v, ev, lv, vv⟩ := D3_at (a := a) (b := b) (c := c) (j := j) (by omega)
                  have e3 := numT_len (n := j) (by omega)
                  unfold numT at e3
                  have ex := xT_eq (j := j)
                  unfold numT at ex
                  have vm : v ≤ many := by rcases vv with rfl | rfl | rfl <;> assumption
                  simp_arith [cx_K, ↓e_tJs0, ↓e_tJs, ↓e_tFmt, ↓fmt_s, ↓fmt_i, ↓e_asS, ↓e_tM1, ↓e_tM0, ex_s, ↓ex_s2, ↓ex_s1, ↓ex_l1, ↓ex_ss, ↓ex_c, ↓e_news, ↓e_tForL, ↓e_asL, ↓e_tLcL, ↓tRaiseF_, ↓e_rInT, allP_0, allP_c, put_0, put_c, look_0, look_c, exists_eq_left', exists_eq', ↓e_tDIn, ↓e_iStr, ↓ex_v, cast1, cast2, flat_strs, inV_strs, cI_flat, cI_in, ex_isi, ↓e_tForJ, ↓e_tLcJ, ↓e_tDcJ, ↓e_iRng1, ↓e_asRg, ↓e_iList, ↓e_asLs, ↓e_iTup, ↓e_asTp, ↓e_iEnA, ↓e_asEA, ↓e_iAny, ↓e_asA, ↓e_tLamX, ex_22, s10.L, ev]
                  refine fun p8 n8 => ⟨_, (s10.keep (Keep.refl.new n8)).R, by rw [List.length_map, paired_len s10.RW]; omega, .inl ⟨rfl, _, SqL.of ((s10.keep (Keep.refl.new n8)).row (w := wd) (n := v) upd_same).LN⟩, by omega, by rw [strLen_append]; omega, by rw [strLen_append, strLen_append]; omega, j, rfl, numT_log (by omega), by omega, by rw [strLen_append, strLen_append, strLen_append, strLen_append]; omega,
                    ⟨_, ((s10.keep (Keep.refl.new n8)).row (w := wd) (n := v) upd_same).LN, by rw [List.length_map, ll1]; omega, fin _ _ (wd, v) _ _ _ _ _ _ _ _ ((s10.keep (Keep.refl.new n8)).row (w := wd) (n := v) upd_same) ?_ (by simp only [strLen_append]; omega)⟩⟩
                  rw [ex, tl_append, tl_append, tl_append, tl_append, tnm, sp2, List.append_assoc, List.append_assoc, List.append_assoc]
                  exact Built.jump (m := 1) mJ hbl (isW_name (by decide)) (.inl lv) (by omega) (by omega)
              · have mD : wd ∈ wData := mR.resolve_left mJ
                refine ite_no (fun h => mJ (cJ.mp h)) ?_
                have d256 : (1 * 2 ^ ((dn : Int)).toNat : Int) = ((2 ^ dn : Nat) : Int) := by
                  rw [Int.toNat_natCast, Int.one_mul]
                  simp
                have d1 : 0 < 2 ^ dn := Nat.two_pow_pos dn
                have d2 : 2 ^ dn ≤ 2 ^ 8 := Nat.pow_le_pow_right (by decide) hd8
                have ls1 : (Str.ofString " ").length = 1 := by decide +kernel
                have sp1 : tl (Str.ofString " ") = sp 1 := by decide +kernel
                simp_arith [cx_K, ↓e_tJs0, ↓e_tJs, ↓e_tFmt, ↓fmt_s, ↓fmt_i, ↓e_asS, ↓e_tM1, ↓e_tM0, ex_s, ↓ex_s2, ↓ex_s1, ↓ex_l1, ↓ex_ss, ↓ex_c, ↓e_news, ↓e_tForL, ↓e_asL, ↓e_tLcL, ↓tRaiseF_, ↓e_rInT, allP_0, allP_c, put_0, put_c, look_0, look_c, exists_eq_left', exists_eq', ↓e_tDIn, ↓e_iStr, ↓ex_v, cast1, cast2, flat_strs, inV_strs, cI_flat, cI_in, ex_isi, ↓e_tForJ, ↓e_tLcJ, ↓e_tDcJ, ↓e_iRng1, ↓e_asRg, ↓e_iList, ↓e_asLs, ↓e_iTup, ↓e_asTp, ↓e_iEnA, ↓e_asEA, ↓e_iAny, ↓e_asA, ↓e_tLamX, ex_22, d256]
                refine ⟨by first | decide | (unfold CPow; omega) | (unfold CPow; constructor <;> omega), s7.roll (by omega) (by omega) fun num G8 nlt s8 _ => ?_⟩
                simp_arith [cx_K, ↓e_tJs0, ↓e_tJs, ↓e_tFmt, ↓fmt_s, ↓fmt_i, ↓e_asS, ↓e_tM1, ↓e_tM0, ex_s, ↓ex_s2, ↓ex_s1, ↓ex_l1, ↓ex_ss, ↓ex_c, ↓e_news, ↓e_tForL, ↓e_asL, ↓e_tLcL, ↓tRaiseF_, ↓e_rInT, allP_0, allP_c, put_0, put_c, look_0, look_c, exists_eq_left', exists_eq', ↓e_tDIn, ↓e_iStr, ↓ex_v, cast1, cast2, flat_strs, inV_strs, cI_flat, cI_in, ex_isi, ↓e_tForJ, ↓e_tLcJ, ↓e_tDcJ, ↓e_iRng1, ↓e_asRg, ↓e_iList, ↓e_asLs, ↓e_iTup, ↓e_asTp, ↓e_iEnA, ↓e_asEA, ↓e_iAny, ↓e_asA, ↓e_tLamX, ex_22, ↓e_tBM]
                have n2 : num < 2 ^ dn := by omega
                have e3 := numT_len (n := num) (by omega)
                unfold numT at e3
                refine ⟨.inl ⟨rfl, _, SqL.of s8.R⟩, fun p8 n8 => ⟨_, (s8.keep (Keep.refl.new n8)).R, by rw [List.length_map, paired_len s8.RW]; omega, .inl ⟨rfl, _, SqL.of ((s8.keep (Keep.refl.new n8)).row (w := wd) (n := num) upd_same).LN⟩, by omega, by rw [strLen_append]; omega, num, rfl, numT_log (by omega), by rw [strLen_append, strLen_append]; omega,
                    ⟨_, ((s8.keep (Keep.refl.new n8)).row (w := wd) (n := num) upd_same).LN, by rw [List.length_map, ll1]; omega, fin _ _ (wd, num) _ _ _ _ _ _ _ _ ((s8.keep (Keep.refl.new n8)).row (w := wd) (n := num) upd_same) ?_ (by simp only [strLen_append]; omega)⟩⟩⟩
                rw [tl_append, tl_append, tl_append, tnm, sp1, List.append_assoc, List.append_assoc]
                exact Built.data mD (tl_num num) n2 (by omega)
          · rintro σ G hI
            obtain ⟨v9, v10, v11, v12, v13, v14, v15, rs, rws, lns, rfl, s1, lr, ll1, B, bL⟩ := (eInv _ _ _).mp hI
            clear hI eInv
            simp_arith [cx_K, ↓e_tJs0, ↓e_tJs, ↓e_tFmt, ↓fmt_s, ↓fmt_i, ↓e_asS, ↓e_tM1, ↓e_tM0, ex_s, ↓ex_s2, ↓ex_s1, ↓ex_l1, ↓ex_ss, ↓ex_c, ↓e_news, ↓e_tForL, ↓e_asL, ↓e_tLcL, ↓tRaiseF_, ↓e_rInT, allP_0, allP_c, put_0, put_c, look_0, look_c, exists_eq_left', exists_eq', ↓e_tDIn, ↓e_iStr, ↓ex_v, cast1, cast2, flat_strs, inV_strs, cI_flat, cI_in, ex_isi, ↓e_tForJ, ↓e_tLcJ, ↓e_tDcJ, ↓e_iRng1, ↓e_asRg, ↓e_iList, ↓e_asLs, ↓e_iTup, ↓e_asTp, ↓e_iEnA, ↓e_asEA, ↓e_iAny, ↓e_asA, ↓e_tLamX, ex_22]
            have lne : lns ≠ [] := fun e => by rw [e] at ll1; simp at ll1; omega
            have l10 : (Str.ofString "\n").length = 1 := by decide +kernel
            have lnL := joined_len bL lne
            have lnL2 : lns.length * (100 + 1) ≤ 2020 := by rw [ll1]; omega
            have lnS := lnL
            rw [strLen_append, l10] at lnS
            refine ⟨_, ll, lns, rfl, rfl, .inl (SqL.of s1.LN), ?_, by rw [l10]; omega, by decide, by decide, names_by (X := 5) (k := many) (suf := Str.ofString ":\n") s1 rfl rfl (by decide) rfl (by decide +kernel) fun Dn G1 zs kn nDn hDn ez lz bz => ?_⟩
            · have := sum_le bL
              rw [l10]
              omega
            have zL := join0_len bz
            refine ⟨_, Dn, zs, rfl, rfl, .inl (SqL.of hDn), ?_, by omega, ?_⟩
            · have := sum_le bz
              have e0 : (Str.ofString "").length = 0 := by decide +kernel
              rw [e0]
              omega
            obtain ⟨T, eT⟩ : ∃ T : Str, T = Txt.join (Str.ofString "\n") lns ++ Str.ofString "\n" ++ Txt.join (Str.ofString "") zs := ⟨_, rfl⟩
            have tT : tl T = ((lns.map tl).map (· ++ [10])).flatten ++ ((namesAt (D3 a b c) rws.length).map fun n => tl n ++ [58, 10]).flatten := by
              rw [eT, tl_append, tl_joined lne, join0_tl, ez, lr]
              congr 3
            have lT : T.length ≤ 2100 := by
              rw [eT, strLen_append]
              omega
            rw [← eT]
            clear eT
            have manyE : (many : Int).toNat = many := Int.toNat_natCast many
            rw [manyE] at lr ll1
            obtain ⟨ps, SS, plx, fdx, TX⟩ := text_ok (y := T) (d := dn) (c := cn) (rows := rws) (xs := lns.map tl) D3_ok D3_isW (by
              intro q hq
              unfold D3 at hq
              simp only [List.mem_cons, List.not_mem_nil, or_false] at hq
              rw [lr]
              rcases hq with rfl | rfl | rfl <;> assumption) (by rw [List.length_map, lr, ll1]) (fun i q x e1 e2 => by
              rw [List.getElem?_map] at e2
              cases e3 : lns[i]? with
              | none => rw [e3] at e2; cases e2
              | some y =>
                rw [e3] at e2
                cases e2
                exact B i q y e1 e3) tT
            have s2 := s1.keep kn
            have c32 : 32 ≤ 2 ^ cn := Nat.pow_le_pow_right (n := 2) (by decide) hc2
            have wOk : ∀ q ∈ rws, WordOk q.1 := fun q hq => okRow_str (TX.row q hq)
            have shp := shaped_rows fun q hq => (wOk q hq).1
            have asT := TX.asm (by omega)
            refine ⟨T, zz, dn, cn, rfl, s2.Z, hd8, hc8, by omega, s2.TL, s2.TJ, S.nLJ, ?_⟩
            rw [asT]
            intro G2 pt rs2 k2 tL2 tJ2 npt nrs2 hpt R2
            have s3 := s2.two n1 n2 k2 tL2 tJ2
            refine ⟨pt, _, rfl, .inr (SqT.of hpt), fun l3 nl3 => ?_⟩
            have s4 := s3.keep (Keep.refl.new (u := .lst (rs2.map V.ref)) nl3)
            refine ⟨_, .lst (SqL.of upd_same) (dp_rows ((rowsN_of R2).keep (S := []) (Keep.refl.new nl3) nofun)), .lst (SqL.of s4.R) (dp_rows s4.RW), shp, ?_⟩
            simp_arith [cx_K, ↓e_tJs0, ↓e_tJs, ↓e_tFmt, ↓fmt_s, ↓fmt_i, ↓e_asS, ↓e_tM1, ↓e_tM0, ex_s, ↓ex_s2, ↓ex_s1, ↓ex_l1, ↓ex_ss, ↓ex_c, ↓e_news, ↓e_tForL, ↓e_asL, ↓e_tLcL, ↓tRaiseF_, ↓e_rInT, allP_0, allP_c, put_0, put_c, look_0, look_c, exists_eq_left', exists_eq', ↓e_tDIn, ↓e_iStr, ↓ex_v, cast1, cast2, flat_strs, inV_strs, cI_flat, cI_in, ex_isi, ↓e_tForJ, ↓e_tLcJ, ↓e_tDcJ, ↓e_iRng1, ↓e_asRg, ↓e_iList, ↓e_asLs, ↓e_iTup, ↓e_asTp, ↓e_iEnA, ↓e_asEA, ↓e_iAny, ↓e_asA, ↓e_tLamX, ex_22]
            have lOk : ∀ q ∈ rws, q.1.length ≤ 20 ∧ q.2 < 2 ^ 60 := fun q hq => by
              refine ⟨(wOk q hq).2, ?_⟩
              have := rowSmall hd8 hc8 (TX.row q hq)
              omega
            refine ⟨rl, false, rs, rws, rfl, SqL.of s4.R, s4.RW, by omega, lOk, fun zt G3 k3 etz => ?_⟩
            have okq : ∀ q ∈ rws, OkRow dn cn q.1 (q.2 : Int) ∧ q.2 < 1000 := fun q hq => ⟨TX.row q hq, rowSmall hd8 hc8 (TX.row q hq)⟩
            obtain ⟨ps2, SS2, pl2, fd2, TZ, lz2, fz2⟩ := listing_ok okq (by omega) etz
            have lzt : zt.length ≤ 1000 := by
              have h1 := listGo_len (nm := nmOf rws.length [] rws) (rows := rws) (k := 0) (fun q hq => ⟨(wOk q hq).2, (okq q hq).2⟩) (by omega)
              rw [len_tl, etz]
              have h2 : rws.length * 40 ≤ 800 := by rw [lr]; omega
              exact Nat.le_trans h1 (by omega)
            have s5 := s4.keep k3
            refine ⟨zt, zz, dn, cn, rfl, s5.Z, hd8, hc8, by omega, s5.TL, s5.TJ, S.nLJ, ?_⟩
            rw [TZ.asm (by omega)]
            intro G4 pt2 rs3 k4 tL4 tJ4 npt2 nrs3 hpt2 R3
            have s6 := s5.two n1 n2 k4 tL4 tJ4
            refine ⟨pt2, _, rfl, .inr (SqT.of hpt2), fun l4 nl4 => ?_⟩
            have s7 := s6.keep (Keep.refl.new (u := .lst (rs3.map V.ref)) nl4)
            refine ⟨_, .lst (SqL.of upd_same) (dp_rows ((rowsN_of R3).keep (S := []) (Keep.refl.new nl4) nofun)), .lst (SqL.of s7.R) (dp_rows s7.RW), shp, ?_⟩
            simp_arith [cx_K, ↓e_tJs0, ↓e_tJs, ↓e_tFmt, ↓fmt_s, ↓fmt_i, ↓e_asS, ↓e_tM1, ↓e_tM0, ex_s, ↓ex_s2, ↓ex_s1, ↓ex_l1, ↓ex_ss, ↓ex_c, ↓e_news, ↓e_tForL, ↓e_asL, ↓e_tLcL, ↓tRaiseF_, ↓e_rInT, allP_0, allP_c, put_0, put_c, look_0, look_c, exists_eq_left', exists_eq', ↓e_tDIn, ↓e_iStr, ↓ex_v, cast1, cast2, flat_strs, inV_strs, cI_flat, cI_in, ex_isi, ↓e_tForJ, ↓e_tLcJ, ↓e_tDcJ, ↓e_iRng1, ↓e_asRg, ↓e_iList, ↓e_asLs, ↓e_iTup, ↓e_asTp, ↓e_iEnA, ↓e_asEA, ↓e_iAny, ↓e_asA, ↓e_tLamX, ex_22]
            refine ⟨rl, false, rs, rws, rfl, SqL.of s7.R, s7.RW, by omega, lOk, fun zt2 G5 k5 etz2 => ?_⟩
            obtain rfl : zt2 = zt := str_ext (etz2.trans etz.symm)
            have s8 := s7.keep k5
            have eL : (Txt.split zt2 (Str.ofString "\n")).map tl = ps2 ++ [[]] := split_txt TZ.txt (paired_nl TZ.lines)
            have eL2 : (Txt.split zt2 (Str.ofString "\n")).dropLast.map tl = ps2 := by
              rw [List.map_dropLast, eL]
              simp
            obtain ⟨LL, eLL⟩ : ∃ LL : List Str, LL = (Txt.split zt2 (Str.ofString "\n")).dropLast := ⟨_, rfl⟩
            have lLL : LL.length = many := by
              have h1 := congrArg List.length eL2
              rw [List.length_map, ← eLL, lz2, lr] at h1
              exact h1
            have lLs : (Txt.split zt2 (Str.ofString "\n")).length = many + 1 := by
              have h1 := congrArg List.length eL
              rw [List.length_map, List.length_append, lz2, lr] at h1
              exact h1
            have LLy : ∀ (i : Nat) (y : Str), LL[i]? = some y → y.length ≤ 1000 ∧ (∀ n ∈ namesOf y, labelOk n) ∧ namesOf y = namesAt (goalD (nmOf rws.length [] rws)) i ∧ wordsOf y ≠ [] ∧ ∀ w ∈ wordsOf y, isW (tl w) := fun i y e => by
              have e2 : ps2[i]? = some (tl y) := by
                rw [← eL2, ← eLL, List.getElem?_map, e]
                rfl
              obtain ⟨W, lp, ne, okW⟩ := fz2 i _ e2
              obtain ⟨e3, e4⟩ := lp.sem y rfl
              refine ⟨?_, fun n hn => ?_, e3, by rw [e4]; exact ne, by rw [e4]; exact okW⟩
              · have m : tl y ∈ spl (tl (Str.ofString "\n")) 0 [] (tl zt2) := by
                  rw [← split_spl _ _ (by rw [tl_nl]; simp) (kind_ok (by decide +kernel)), eL]
                  exact List.mem_append_left _ (List.mem_of_getElem? e2)
                have := spl_len _ _ _ _ m
                rw [← len_tl, ← len_tl] at this
                simp at this
                omega
              · rw [e3] at hn
                have hk := mem_namesAt.mp hn
                obtain ⟨k1, hk1, e5⟩ := List.mem_map.mp hk
                cases e5
                refine label_name (by decide) ?_
                rcases mem_nmOf.mp hk1 with h | ⟨q, hq, _, h, _⟩
                · simp at h
                · omega
            have fst : (∃ a, V.str zt2 = V.str a) := ⟨_, rfl⟩
            have stepA : ∀ (H3 : Hp) (p2 p3 : Addr), H3 p2 = none → p3 ≠ p2 → H3 p3 = none → St S.CS pT S.pL S.pJ q0 d p zz pl rl ll dn cn a b c H3 rs rws lns →
                St S.CS pT S.pL S.pJ q0 d p zz pl rl ll dn cn a b c (upd (upd H3 p2 (.lst ((Txt.split zt2 (Str.ofString "\n")).map V.str))) p3 (.lst (LL.map V.str))) rs rws lns := fun H3 p2 p3 n2 n32 n3 s => s.keep ((Keep.refl.new n2).new (upd_none.mpr ⟨n32, n3⟩))
            refine ⟨fst, _, _, rfl, rfl, by decide +kernel, by omega, fun p2 np2 p3 n32 np3 => ?_⟩
            rw [cut_init, ← List.map_dropLast, ← eLL]
            have s9 := stepA G5 p2 p3 np2 n32 np3 s8
            have h9 : (upd (upd G5 p2 (.lst ((Txt.split zt2 (Str.ofString "\n")).map V.str))) p3 (.lst (LL.map V.str))) p3 = some (.lst (LL.map V.str)) := upd_same
            obtain ⟨G9, eG9⟩ : ∃ G9 : Hp, G9 = upd (upd G5 p2 (.lst ((Txt.split zt2 (Str.ofString "\n")).map V.str))) p3 (.lst (LL.map V.str)) := ⟨_, rfl⟩
            rw [← eG9] at s9 h9 ⊢
            clear eG9
            refine ⟨⟨_, SqL.of h9⟩, lc_by (walk_l (xs := LL.map V.str)) (fun D i G => St S.CS pT S.pL S.pJ q0 d p zz pl rl ll dn cn a b c G rs rws lns ∧ G D = some (.lst []) ∧ G p3 = some (.lst (LL.map V.str))) (fun D nD => ⟨s9.keep (Keep.refl.new nD), upd_same, by rw [upd_ne (ne_of_none h9 nD)]; exact h9⟩) (fun D i G nD _ h => SqL.of h.2.2) ?_ ?_⟩
            · rintro D i G x G2 nD hi ⟨sG, hD, hp3⟩ ⟨rfl, hx⟩
              rw [List.getElem?_map] at hx
              cases ey : LL[i]? with
              | none => rw [ey] at hx; cases hx
              | some y =>
                rw [ey] at hx
                cases hx
                obtain ⟨y1, y2, y3, y4, y5⟩ := LLy i y ey
                simp_arith [cx_K, ↓e_tJs0, ↓e_tJs, ↓e_tFmt, ↓fmt_s, ↓fmt_i, ↓e_asS, ↓e_tM1, ↓e_tM0, ex_s, ↓ex_s2, ↓ex_s1, ↓ex_l1, ↓ex_ss, ↓ex_c, ↓e_news, ↓e_tForL, ↓e_asL, ↓e_tLcL, ↓tRaiseF_, ↓e_rInT, allP_0, allP_c, put_0, put_c, look_0, look_c, exists_eq_left', exists_eq', ↓e_tDIn, ↓e_iStr, ↓ex_v, cast1, cast2, flat_strs, inV_strs, cI_flat, cI_in, ex_isi, ↓e_tForJ, ↓e_tLcJ, ↓e_tDcJ, ↓e_iRng1, ↓e_asRg, ↓e_iList, ↓e_asLs, ↓e_iTup, ↓e_asTp, ↓e_iEnA, ↓e_asEA, ↓e_iAny, ↓e_asA, ↓e_tLamX, ex_22, wipe]
                refine ⟨y, rfl, by omega, sG.TL, ?_⟩
                rw [if_pos y2]
                intro G3 pp ap bp k3 tL3 npp nap nbp ab pa pb hpp3 hap hbp
                have sG3 := sG.two n1 n2 (k3.more (by simp)) tL3 (TabG.keepTbl sG.TJ k3 (by simpa using Ne.symm S.nLJ))
                have nt : ∀ {q : Addr} {xs : List V}, G2 q = some (.lst xs) → q ∉ [S.pL] := fun e h => sG.nt e nofun (by rw [List.mem_singleton.mp h]; simp)
                have hD3 := k3 _ _ hD (nt hD)
                have hp33 := k3 _ _ hp3 (nt hp3)
                simp_arith [cx_K, ↓e_tJs0, ↓e_tJs, ↓e_tFmt, ↓fmt_s, ↓fmt_i, ↓e_asS, ↓e_tM1, ↓e_tM0, ex_s, ↓ex_s2, ↓ex_s1, ↓ex_l1, ↓ex_ss, ↓ex_c, ↓e_news, ↓e_tForL, ↓e_asL, ↓e_tLcL, ↓tRaiseF_, ↓e_rInT, allP_0, allP_c, put_0, put_c, look_0, look_c, exists_eq_left', exists_eq', ↓e_tDIn, ↓e_iStr, ↓ex_v, cast1, cast2, flat_strs, inV_strs, cI_flat, cI_in, ex_isi, ↓e_tForJ, ↓e_tLcJ, ↓e_tDcJ, ↓e_iRng1, ↓e_asRg, ↓e_iList, ↓e_asLs, ↓e_iTup, ↓e_asTp, ↓e_iEnA, ↓e_asEA, ↓e_iAny, ↓e_asA, ↓e_tLamX, ex_22, hpp3, hbp]
                intro p7 np7
                have nw : ¬ (wordsOf y).map V.str = [] := fun e => y4 (by simpa using e)
                simp_arith [cx_K, ↓e_tJs0, ↓e_tJs, ↓e_tFmt, ↓fmt_s, ↓fmt_i, ↓e_asS, ↓e_tM1, ↓e_tM0, ex_s, ↓ex_s2, ↓ex_s1, ↓ex_l1, ↓ex_ss, ↓ex_c, ↓e_news, ↓e_tForL, ↓e_asL, ↓e_tLcL, ↓tRaiseF_, ↓e_rInT, allP_0, allP_c, put_0, put_c, look_0, look_c, exists_eq_left', exists_eq', ↓e_tDIn, ↓e_iStr, ↓ex_v, cast1, cast2, flat_strs, inV_strs, cI_flat, cI_in, ex_isi, ↓e_tForJ, ↓e_tLcJ, ↓e_tDcJ, ↓e_iRng1, ↓e_asRg, ↓e_iList, ↓e_asLs, ↓e_iTup, ↓e_asTp, ↓e_iEnA, ↓e_asEA, ↓e_iAny, ↓e_asA, ↓e_tLamX, ex_22, hbp, np7, flat_strs, nw]
                exact ⟨all_strs y5, sG3.keep (Keep.refl.new np7), by rw [upd_ne (ne_of_none hD3 np7)]; exact hD3, by rw [upd_ne (ne_of_none hp33 np7)]; exact hp33⟩
            · rintro D G nD ⟨sG, hD, hp3⟩
              simp_arith [cx_K, ↓e_tJs0, ↓e_tJs, ↓e_tFmt, ↓fmt_s, ↓fmt_i, ↓e_asS, ↓e_tM1, ↓e_tM0, ex_s, ↓ex_s2, ↓ex_s1, ↓ex_l1, ↓ex_ss, ↓ex_c, ↓e_news, ↓e_tForL, ↓e_asL, ↓e_tLcL, ↓tRaiseF_, ↓e_rInT, allP_0, allP_c, put_0, put_c, look_0, look_c, exists_eq_left', exists_eq', ↓e_tDIn, ↓e_iStr, ↓ex_v, cast1, cast2, flat_strs, inV_strs, cI_flat, cI_in, ex_isi, ↓e_tForJ, ↓e_tLcJ, ↓e_tDcJ, ↓e_iRng1, ↓e_asRg, ↓e_iList, ↓e_asLs, ↓e_iTup, ↓e_asTp, ↓e_iEnA, ↓e_asEA, ↓e_iAny, ↓e_asA, ↓e_tLamX, ex_22, hD]
              intro p7 np7
              have sG7 := sG.keep (Keep.refl.new (u := .lst []) np7)
              have hD8 : (upd G p7 (.lst [])) D = some (.lst []) := by rw [upd_ne (ne_of_none hD np7)]; exact hD
              obtain ⟨G8, eG8⟩ : ∃ G8 : Hp, G8 = upd G p7 (.lst []) := ⟨_, rfl⟩
              rw [← eG8] at sG7 hD8 ⊢
              clear eG8
              simp_arith [cx_K, ↓e_tJs0, ↓e_tJs, ↓e_tFmt, ↓fmt_s, ↓fmt_i, ↓e_asS, ↓e_tM1, ↓e_tM0, ex_s, ↓ex_s2, ↓ex_s1, ↓ex_l1, ↓ex_ss, ↓ex_c, ↓e_news, ↓e_tForL, ↓e_asL, ↓e_tLcL, ↓tRaiseF_, ↓e_rInT, allP_0, allP_c, put_0, put_c, look_0, look_c, exists_eq_left', exists_eq', ↓e_tDIn, ↓e_iStr, ↓ex_v, cast1, cast2, flat_strs, inV_strs, cI_flat, cI_in, ex_isi, ↓e_tForJ, ↓e_tLcJ, ↓e_tDcJ, ↓e_iRng1, ↓e_asRg, ↓e_iList, ↓e_asLs, ↓e_iTup, ↓e_asTp, ↓e_iEnA, ↓e_asEA, ↓e_iAny, ↓e_asA, ↓e_tLamX, ex_22, hD8]
              refine ⟨⟨_, SqL.of sG7.R⟩, lc_by (walk_l (xs := rs.map V.ref)) (fun D i G => ∃ ps : List Addr, Keep [] G8 G ∧ G D = some (.lst (ps.map V.ref)) ∧ PySem.Paired (fun p kv => G p = some (.tup [kV kv.1, kv.2])) ps (nmV (jumpsTo many (rws.take i))) ∧ D ∉ ps ∧ ps.length ≤ i) (fun D nD => ⟨[], Keep.refl.new nD, upd_same, .nil, by simp, by simp⟩) (fun D i G nD _ h => by obtain ⟨_, s, _⟩ := h; exact SqL.of (sG7.keep s).R) ?_ ?_⟩
              · rintro D i G x G2 nD hi ⟨ps, kG2, hD2, P2, nDps, lps⟩ ⟨rfl, hx⟩
                rw [List.getElem?_map] at hx
                cases er : rs[i]? with
                | none => rw [er] at hx; cases hx
                | some r =>
                  rw [er] at hx
                  cases hx
                  have sG2 := sG7.keep kG2
                  obtain ⟨⟨wd, n⟩, ew, hr1⟩ := paired_get sG2.RW er
                  simp only [] at hr1
                  have hi2 := (List.getElem?_eq_some_iff.mp ew).1
                  have et : rws.take (i + 1) = rws.take i ++ [(wd, n)] := by rw [List.take_add_one, ew]; rfl
                  have psI : ∀ q ∈ ps, ∃ u, G2 q = some u := by
                    intro q hq
                    clear hD2 nDps lps
                    generalize nmV (jumpsTo many (rws.take i)) = kvs at P2
                    induction P2 with
                    | nil => cases hq
                    | cons a _ ih =>
                      rcases List.mem_cons.mp hq with rfl | hq
                      · exact ⟨_, a⟩
                      · exact ih hq
                  have same : ∀ G3 : Hp, Keep [] G2 G3 → ¬ (wd ∈ wJump ∧ n < many) → ∃ ps : List Addr, Keep [] G8 G3 ∧ G3 D = some (.lst (ps.map V.ref)) ∧ PySem.Paired (fun p kv => G3 p = some (.tup [kV kv.1, kv.2])) ps (nmV (jumpsTo many (rws.take (i + 1)))) ∧ ¬ D ∈ ps ∧ ps.length ≤ i + 1 := fun G3 k3 h => by
                    refine ⟨ps, kG2.trans k3, k3 _ _ hD2 (by simp), ?_, nDps, by omega⟩
                    rw [et, jumpsTo_snoc, if_neg h, List.append_nil]
                    exact paired_keep P2 k3 (by simp)
                  simp_arith [cx_K, ↓e_tJs0, ↓e_tJs, ↓e_tFmt, ↓fmt_s, ↓fmt_i, ↓e_asS, ↓e_tM1, ↓e_tM0, ex_s, ↓ex_s2, ↓ex_s1, ↓ex_l1, ↓ex_ss, ↓ex_c, ↓e_news, ↓e_tForL, ↓e_asL, ↓e_tLcL, ↓tRaiseF_, ↓e_rInT, allP_0, allP_c, put_0, put_c, look_0, look_c, exists_eq_left', exists_eq', ↓e_tDIn, ↓e_iStr, ↓ex_v, cast1, cast2, flat_strs, inV_strs, cI_flat, cI_in, ex_isi, ↓e_tForJ, ↓e_tLcJ, ↓e_tDcJ, ↓e_iRng1, ↓e_asRg, ↓e_iList, ↓e_asLs, ↓e_iTup, ↓e_asTp, ↓e_iEnA, ↓e_asEA, ↓e_iAny, ↓e_asA, ↓e_tLamX, ex_22, wipe, hr1]
                  intro p1 np1
                  by_cases mJ : wd ∈ wJump
                  · refine ite_yes (jumpC.mpr mJ) ?_
                    simp_arith [cx_K, ↓e_tJs0, ↓e_tJs, ↓e_tFmt, ↓fmt_s, ↓fmt_i, ↓e_asS, ↓e_tM1, ↓e_tM0, ex_s, ↓ex_s2, ↓ex_s1, ↓ex_l1, ↓ex_ss, ↓ex_c, ↓e_news, ↓e_tForL, ↓e_asL, ↓e_tLcL, ↓tRaiseF_, ↓e_rInT, allP_0, allP_c, put_0, put_c, look_0, look_c, exists_eq_left', exists_eq', ↓e_tDIn, ↓e_iStr, ↓ex_v, cast1, cast2, flat_strs, inV_strs, cI_flat, cI_in, ex_isi, ↓e_tForJ, ↓e_tLcJ, ↓e_tDcJ, ↓e_iRng1, ↓e_asRg, ↓e_iList, ↓e_asLs, ↓e_iTup, ↓e_asTp, ↓e_iEnA, ↓e_asEA, ↓e_iAny, ↓e_asA, ↓e_tLamX, ex_22, hr1, np1]
                    by_cases hn : n < many
                    · rw [if_pos (by omega)]
                      intro p4 n41 np4
                      have hD4 : ∀ u v, (upd (upd G2 p1 u) p4 v) D = some (.lst (ps.map V.ref)) := fun u v => by rw [upd_ne (ne_of_none hD2 np4), upd_ne (ne_of_none hD2 np1)]; exact hD2
                      refine ⟨_, hD4 _ _, by rw [List.length_map]; omega, ps ++ [p4], ?_, by simp, ?_, ?_, by simp; omega⟩
                      · exact ((kG2.new np1).new (upd_none.mpr ⟨n41, np4⟩)).over nD
                      · rw [et, jumpsTo_snoc, if_pos ⟨mJ, hn⟩]
                        have e9 : nmV (jumpsTo many (rws.take i) ++ [n]) = nmV (jumpsTo many (rws.take i)) ++ [(.inl (n : Int), .int 1)] := by simp [nmV]
                        show PySem.Paired _ _ (nmV (jumpsTo many (rws.take i) ++ [n]))
                        rw [e9]
                        refine paired_app (paired_keep (S := [D]) P2 ?_ (fun q hq h => nDps (List.mem_singleton.mp h ▸ hq))) (.cons ?_ .nil)
                        · exact (((Keep.refl.new np1).new (upd_none.mpr ⟨n41, np4⟩)).at (List.mem_singleton.mpr rfl))
                        · have Dp4 : p4 ≠ D := fun e => by rw [e, hD2] at np4; cases np4
                          show (upd (upd (upd G2 p1 _) p4 _) D _) p4 = _
                          rw [upd_ne Dp4, upd_same]
                          rfl
                      · intro h
                        rcases List.mem_append.mp h with h | h
                        · exact nDps h
                        · rw [← List.mem_singleton.mp h, hD2] at np4
                          cases np4
                    · rw [if_neg (by omega)]
                      exact same _ (Keep.refl.new np1) fun h => hn h.2
                  · refine ite_no (fun h => mJ (jumpC.mp h)) ?_
                    exact same _ (Keep.refl.new np1) fun h => mJ h.1
              · rintro D G nD ⟨ps, kG, hD2, P2, nDps, lps⟩
                have sG2 := sG7.keep kG
                rw [List.length_map, paired_len sG2.RW, List.take_length] at P2
                rw [List.length_map, paired_len sG2.RW] at lps
                simp_arith [cx_K, ↓e_tJs0, ↓e_tJs, ↓e_tFmt, ↓fmt_s, ↓fmt_i, ↓e_asS, ↓e_tM1, ↓e_tM0, ex_s, ↓ex_s2, ↓ex_s1, ↓ex_l1, ↓ex_ss, ↓ex_c, ↓e_news, ↓e_tForL, ↓e_asL, ↓e_tLcL, ↓tRaiseF_, ↓e_rInT, allP_0, allP_c, put_0, put_c, look_0, look_c, exists_eq_left', exists_eq', ↓e_tDIn, ↓e_iStr, ↓ex_v, cast1, cast2, flat_strs, inV_strs, cI_flat, cI_in, ex_isi, ↓e_tForJ, ↓e_tLcJ, ↓e_tDcJ, ↓e_iRng1, ↓e_asRg, ↓e_iList, ↓e_asLs, ↓e_iTup, ↓e_asTp, ↓e_iEnA, ↓e_asEA, ↓e_iAny, ↓e_asA, ↓e_tLamX, ex_22]
                refine ⟨D, ps, nmV (jumpsTo many rws), rfl, SqL.of hD2, paired_sqt P2, fun p9 np9 => ?_⟩
                rw [show mergeK [] (nmV (jumpsTo many rws)) = nmV ((jumpsTo many rws).foldl nmAdd []) from merge_nmV (nm := [])]
                have lGL : ((jumpsTo many rws).foldl nmAdd []).length ≤ 20 := by
                  have h1 := len_fold (ns := jumpsTo many rws) (nm := [])
                  have h2 : (jumpsTo many rws).length ≤ rws.length := by
                    unfold jumpsTo
                    rw [List.length_map]
                    exact List.length_filter_le _ _
                  simp at h1
                  omega
                have mGL : ∀ k : Nat, k ∈ (jumpsTo many rws).foldl nmAdd [] ↔ k ∈ nmOf rws.length [] rws := fun k => by
                  rw [mem_fold, lr, ← mem_jumpsTo]
                  simp
                generalize (jumpsTo many rws).foldl nmAdd [] = GL at lGL mGL
                refine ⟨p9, nmV GL, GL.map (fun k : Nat => (k : Int)), rfl, .inl upd_same, by simp [nmV], by rw [List.length_map]; omega, fun ys p10 perm sorted n109 np10 => ?_⟩
                have mYs : ∀ k : Nat, (k : Int) ∈ ys ↔ k ∈ nmOf rws.length [] rws := fun k => by
                  rw [perm.mem_iff, List.mem_map, ← mGL]
                  constructor
                  · rintro ⟨j, hj, e⟩
                    have : j = k := by omega
                    exact this ▸ hj
                  · exact fun h => ⟨k, h, rfl⟩
                have k10 : Keep [] G (upd (upd G p9 (.dK (nmV GL))) p10 (.lst (ys.map V.int))) := (Keep.refl.new np9).new (upd_none.mpr ⟨n109, np10⟩)
                have s10 := sG2.keep k10
                have h10 : (upd (upd G p9 (.dK (nmV GL))) p10 (.lst (ys.map V.int))) p10 = some (.lst (ys.map V.int)) := upd_same
                obtain ⟨G10, eG10⟩ : ∃ G10 : Hp, G10 = upd (upd G p9 (.dK (nmV GL))) p10 (.lst (ys.map V.int)) := ⟨_, rfl⟩
                rw [← eG10] at s10 h10 ⊢
                clear eG10
                refine ⟨rl, false, rs, rws, rfl, SqL.of s10.R, s10.RW, by omega, lOk, fun zt3 G11 k11 etz3 => ?_⟩
                obtain rfl : zt3 = zt2 := str_ext (etz3.trans etz2.symm)
                have s11 := s10.keep k11
                have h11 := k11 _ _ h10 (by simp)
                refine ⟨fst, _, _, rfl, rfl, by decide +kernel, by omega, fun p12 np12 p13 n132 np13 => ?_⟩
                rw [cut_init, ← List.map_dropLast, ← eLL]
                have s13 := stepA G11 p12 p13 np12 n132 np13 s11
                have h13 : (upd (upd G11 p12 (.lst ((Txt.split zt3 (Str.ofString "\n")).map V.str))) p13 (.lst (LL.map V.str))) p13 = some (.lst (LL.map V.str)) := upd_same
                have h13y : (upd (upd G11 p12 (.lst ((Txt.split zt3 (Str.ofString "\n")).map V.str))) p13 (.lst (LL.map V.str))) p10 = some (.lst (ys.map V.int)) := by rw [upd_ne (ne_of_none h11 np13), upd_ne (ne_of_none h11 np12)]; exact h11
                obtain ⟨G13, eG13⟩ : ∃ G13 : Hp, G13 = upd (upd G11 p12 (.lst ((Txt.split zt3 (Str.ofString "\n")).map V.str))) p13 (.lst (LL.map V.str)) := ⟨_, rfl⟩
                rw [← eG13] at s13 h13 h13y ⊢
                clear eG13
                refine ⟨false, LL.map V.str, SqL.of h13, lc_by (walk_ea (t := false)) (fun D i G => St S.CS pT S.pL S.pJ q0 d p zz pl rl ll dn cn a b c G rs rws lns ∧ G D = some (.lst []) ∧ G p13 = some (.lst (LL.map V.str)) ∧ G p10 = some (.lst (ys.map V.int))) (fun D nD => ⟨s13.keep (Keep.refl.new nD), upd_same, by rw [upd_ne (ne_of_none h13 nD)]; exact h13, by rw [upd_ne (ne_of_none h13y nD)]; exact h13y⟩) (fun D i G nD _ h => SqL.of h.2.2.1) ?_ ?_⟩
                · rintro D i G v G2 nD hi ⟨sG, hD, hp13, hp10⟩ ⟨U, y1, rfl, nU, rfl, hy⟩
                  rw [List.getElem?_map] at hy
                  cases ey : LL[i]? with
                  | none => rw [ey] at hy; cases hy
                  | some y =>
                    rw [ey] at hy
                    cases hy
                    obtain ⟨y1, y2, y3, y4, y5⟩ := LLy i y ey
                    simp_arith [cx_K, ↓e_tJs0, ↓e_tJs, ↓e_tFmt, ↓fmt_s, ↓fmt_i, ↓e_asS, ↓e_tM1, ↓e_tM0, ex_s, ↓ex_s2, ↓ex_s1, ↓ex_l1, ↓ex_ss, ↓ex_c, ↓e_news, ↓e_tForL, ↓e_asL, ↓e_tLcL, ↓tRaiseF_, ↓e_rInT, allP_0, allP_c, put_0, put_c, look_0, look_c, exists_eq_left', exists_eq', ↓e_tDIn, ↓e_iStr, ↓ex_v, cast1, cast2, flat_strs, inV_strs, cI_flat, cI_in, ex_isi, ↓e_tForJ, ↓e_tLcJ, ↓e_tDcJ, ↓e_iRng1, ↓e_asRg, ↓e_iList, ↓e_asLs, ↓e_iTup, ↓e_asTp, ↓e_iEnA, ↓e_asEA, ↓e_iAny, ↓e_asA, ↓e_tLamX, ex_22, wipe]
                    have sU := sG.keep (Keep.refl.new (u := .tup [.int (i : Nat), .str y]) nU)
                    have hDU : (upd G U (.tup [.int (i : Nat), .str y])) D = some (.lst []) := by rw [upd_ne (ne_of_none hD nU)]; exact hD
                    have h13U : (upd G U (.tup [.int (i : Nat), .str y])) p13 = some (.lst (LL.map V.str)) := by rw [upd_ne (ne_of_none hp13 nU)]; exact hp13
                    have h10U : (upd G U (.tup [.int (i : Nat), .str y])) p10 = some (.lst (ys.map V.int)) := by rw [upd_ne (ne_of_none hp10 nU)]; exact hp10
                    refine ⟨y, rfl, by omega, sU.TL, ?_⟩
                    rw [if_pos y2]
                    intro G3 pp ap bp k3 tL3 npp nap nbp ab pa pb hpp3 hap hbp
                    have sG3 := sU.two n1 n2 (k3.more (by simp)) tL3 (TabG.keepTbl sU.TJ k3 (by simpa using Ne.symm S.nLJ))
                    have nt : ∀ {q : Addr} {xs : List V}, (upd G U (.tup [.int (i : Nat), .str y])) q = some (.lst xs) → q ∉ [S.pL] := fun e h => sU.nt e nofun (by rw [List.mem_singleton.mp h]; simp)
                    have hD3 := k3 _ _ hDU (nt hDU)
                    have hp133 := k3 _ _ h13U (nt h13U)
                    have hp103 := k3 _ _ h10U (nt h10U)
                    simp_arith [cx_K, ↓e_tJs0, ↓e_tJs, ↓e_tFmt, ↓fmt_s, ↓fmt_i, ↓e_asS, ↓e_tM1, ↓e_tM0, ex_s, ↓ex_s2, ↓ex_s1, ↓ex_l1, ↓ex_ss, ↓ex_c, ↓e_news, ↓e_tForL, ↓e_asL, ↓e_tLcL, ↓tRaiseF_, ↓e_rInT, allP_0, allP_c, put_0, put_c, look_0, look_c, exists_eq_left', exists_eq', ↓e_tDIn, ↓e_iStr, ↓ex_v, cast1, cast2, flat_strs, inV_strs, cI_flat, cI_in, ex_isi, ↓e_tForJ, ↓e_tLcJ, ↓e_tDcJ, ↓e_iRng1, ↓e_asRg, ↓e_iList, ↓e_asLs, ↓e_iTup, ↓e_asTp, ↓e_iEnA, ↓e_asEA, ↓e_iAny, ↓e_asA, ↓e_tLamX, ex_22, hpp3, hp103]
                    refine ⟨flat_ints, ?_⟩
                    have nmY : namesOf y = if i ∈ nmOf rws.length [] rws then [nameS 112 i] else [] := by rw [y3, goalD_at (nodup_nmOf List.nodup_nil)]
                    have i1000 : i < 1000 := by
                      have := (List.getElem?_eq_some_iff.mp ey).1
                      omega
                    have lp1 : (Str.ofString "p").length = 1 := by decide +kernel
                    have pe : Str.ofString "p" ++ Str.ofString (toString ((i : Nat) : Int)) = nameS 112 i := pT_eq
                    have e3 := numT_len i1000
                    unfold numT at e3
                    have rest : ∀ (p7 : Addr) (u : HO), G3 p7 = none → St S.CS pT S.pL S.pJ q0 d p zz pl rl ll dn cn a b c (upd G3 p7 u) rs rws lns ∧ (upd G3 p7 u) D = some (.lst []) ∧ (upd G3 p7 u) p13 = some (.lst (LL.map V.str)) ∧ (upd G3 p7 u) p10 = some (.lst (ys.map V.int)) := fun p7 u n => ⟨sG3.keep (Keep.refl.new n), by rw [upd_ne (ne_of_none hD3 n)]; exact hD3, by rw [upd_ne (ne_of_none hp133 n)]; exact hp133, by rw [upd_ne (ne_of_none hp103 n)]; exact hp103⟩
                    by_cases hk : i ∈ nmOf rws.length [] rws
                    · refine ite_yes (inV_ints.mpr ((mYs i).mpr hk)) ?_
                      rw [if_pos hk] at nmY
                      refine ⟨i, rfl, numT_log i1000, by omega, fun p7 np7 => ?_⟩
                      refine ⟨(namesOf y).map V.str, by rw [upd_ne (ne_of_none hap np7)]; exact hap, by rw [nmY]; exact all_strs (by intro x hx; rw [List.mem_singleton.mp hx]; exact isW_name (by decide)), by rw [pe]; exact (isW_name (l := 112) (by decide)).str, ?_⟩
                      refine ite_no (fun h => h (by rw [nmY, pe]; rfl)) (rest p7 _ np7)
                    · refine ite_no (fun h => hk ((mYs i).mp (inV_ints.mp h))) ?_
                      rw [if_neg hk] at nmY
                      intro p7 np7
                      refine ⟨(namesOf y).map V.str, by rw [upd_ne (ne_of_none hap np7)]; exact hap, by rw [nmY]; rfl, ?_⟩
                      exact ite_no (fun h => h (by rw [nmY]; rfl)) (rest p7 _ np7)
                · rintro D G nD ⟨sG, hD, hp13, hp10⟩
                  simp_arith [cx_K, ↓e_tJs0, ↓e_tJs, ↓e_tFmt, ↓fmt_s, ↓fmt_i, ↓e_asS, ↓e_tM1, ↓e_tM0, ex_s, ↓ex_s2, ↓ex_s1, ↓ex_l1, ↓ex_ss, ↓ex_c, ↓e_news, ↓e_tForL, ↓e_asL, ↓e_tLcL, ↓tRaiseF_, ↓e_rInT, allP_0, allP_c, put_0, put_c, look_0, look_c, exists_eq_left', exists_eq', ↓e_tDIn, ↓e_iStr, ↓ex_v, cast1, cast2, flat_strs, inV_strs, cI_flat, cI_in, ex_isi, ↓e_tForJ, ↓e_tLcJ, ↓e_tDcJ, ↓e_iRng1, ↓e_asRg, ↓e_iList, ↓e_asLs, ↓e_iTup, ↓e_asTp, ↓e_iEnA, ↓e_asEA, ↓e_iAny, ↓e_asA, ↓e_tLamX, ex_22, hD]
                  intro p7 np7
                  have sG7 := sG.keep (Keep.refl.new (u := .lst []) np7)
                  have hD8 : (upd G p7 (.lst [])) D = some (.lst []) := by rw [upd_ne (ne_of_none hD np7)]; exact hD
                  obtain ⟨G8, eG8⟩ : ∃ G8 : Hp, G8 = upd G p7 (.lst []) := ⟨_, rfl⟩
                  rw [← eG8] at sG7 hD8 ⊢
                  clear eG8
                  have d256 : (1 * 2 ^ ((dn : Int)).toNat : Int) = ((2 ^ dn : Nat) : Int) := by
                    rw [Int.toNat_natCast, Int.one_mul]
                    simp
                  have c256 : (1 * 2 ^ ((cn : Int)).toNat : Int) = ((2 ^ cn : Nat) : Int) := by
                    rw [Int.toNat_natCast, Int.one_mul]
                    simp
                  have d2 : 2 ^ dn ≤ 2 ^ 8 := Nat.pow_le_pow_right (by decide) hd8
                  have c2 : 2 ^ cn ≤ 2 ^ 8 := Nat.pow_le_pow_right (by decide) hc8
                  have dl := numT_len (n := 2 ^ dn) (by omega)
                  have cl := numT_len (n := 2 ^ cn) (by omega)
                  unfold numT at dl cl
                  have ls4 : (Str.ofString "set ").length = 4 := by decide +kernel
                  have ls5 : (Str.ofString "jump ").length = 5 := by decide +kernel
                  have ls6 : (Str.ofString ": out").length = 5 := by decide +kernel
                  simp_arith [cx_K, ↓e_tJs0, ↓e_tJs, ↓e_tFmt, ↓fmt_s, ↓fmt_i, ↓e_asS, ↓e_tM1, ↓e_tM0, ex_s, ↓ex_s2, ↓ex_s1, ↓ex_l1, ↓ex_ss, ↓ex_c, ↓e_news, ↓e_tForL, ↓e_asL, ↓e_tLcL, ↓tRaiseF_, ↓e_rInT, allP_0, allP_c, put_0, put_c, look_0, look_c, exists_eq_left', exists_eq', ↓e_tDIn, ↓e_iStr, ↓ex_v, cast1, cast2, flat_strs, inV_strs, cI_flat, cI_in, ex_isi, ↓e_tForJ, ↓e_tLcJ, ↓e_tDcJ, ↓e_iRng1, ↓e_asRg, ↓e_iList, ↓e_asLs, ↓e_iTup, ↓e_asTp, ↓e_iEnA, ↓e_asEA, ↓e_iAny, ↓e_asA, ↓e_tLamX, ex_22, hD8, d256, c256]
                  refine ⟨by first | decide | (unfold CPow; omega) | (unfold CPow; constructor <;> omega), ((2 ^ dn : Nat) : Int), rfl, numT_log (n := 2 ^ dn) (by omega), by omega, by first | decide | (unfold CPow; omega) | (unfold CPow; constructor <;> omega), ((2 ^ cn : Nat) : Int), rfl, numT_log (n := 2 ^ cn) (by omega), by omega, ?_⟩
                  refine ⟨_, 21, rfl, rfl, by decide, by decide, by decide +kernel, fun r21 hr21 => ⟨r21, _, rfl, rfl, ?_, fun p8 np8 => ?_⟩⟩
                  · have : r21.length = 21 := by
                      rw [len_tl, hr21]
                      decide +kernel
                    omega
                  simp_arith [cx_K, ↓e_tJs0, ↓e_tJs, ↓e_tFmt, ↓fmt_s, ↓fmt_i, ↓e_asS, ↓e_tM1, ↓e_tM0, ex_s, ↓ex_s2, ↓ex_s1, ↓ex_l1, ↓ex_ss, ↓ex_c, ↓e_news, ↓e_tForL, ↓e_asL, ↓e_tLcL, ↓tRaiseF_, ↓e_rInT, allP_0, allP_c, put_0, put_c, look_0, look_c, exists_eq_left', exists_eq', ↓e_tDIn, ↓e_iStr, ↓ex_v, cast1, cast2, flat_strs, inV_strs, cI_flat, cI_in, ex_isi, ↓e_tForJ, ↓e_tLcJ, ↓e_tDcJ, ↓e_iRng1, ↓e_asRg, ↓e_iList, ↓e_asLs, ↓e_iTup, ↓e_asTp, ↓e_iEnA, ↓e_asEA, ↓e_iAny, ↓e_asA, ↓e_tLamX, ex_22]
                  have r21e : tl (r21 ++ Str.ofString ": out") = (List.replicate 21 [97]).flatten ++ tl (Str.ofString ": out") := by
                    rw [tl_append, hr21]
                    congr 1
                  obtain ⟨BS, eBS⟩ : ∃ BS : List Str, BS = badS (Str.ofString "set " ++ numT (2 ^ dn)) (Str.ofString "jump " ++ numT (2 ^ cn)) (r21 ++ Str.ofString ": out") := ⟨_, rfl⟩
                  obtain ⟨G9, eG9⟩ : ∃ G9 : Hp, G9 = upd G8 p8 (.lst (BS.map V.str)) := ⟨_, rfl⟩
                  have s9 := sG7.keep (Keep.refl.new (u := .lst (BS.map V.str)) np8)
                  have h9 : (upd G8 p8 (.lst (BS.map V.str))) p8 = some (.lst (BS.map V.str)) := upd_same
                  have lBS : ∀ y ∈ BS, y.length ≤ 30 := by
                    rw [eBS]
                    exact badS_len hd8 hc8 r21e
                  have goB : ∀ {P0 : Hp → Prop}, P0 (upd G8 p8 (.lst (BS.map V.str))) → P0 (upd G8 p8 (.lst (BS.map V.str))) := fun h => h
                  suffices hs : (∃ xs, SqL K (upd G8 p8 (.lst (BS.map V.str))) p8 xs) ∧ lcJ (Itl K p8) (gName 17) _ (tVar 17) [17] [some (V.ref a0), some (V.ref d), some (V.int dn), some (V.int cn), some (V.ref zz), some (V.int many), some (V.ref rl), some (V.ref ll), some (V.ref pl), v9, v10, v11, v12, v13, v14, v15, some (V.str T), none, some (V.ref p10), none, some (V.ref p8), none] (upd G8 p8 (.lst (BS.map V.str))) _ by
                    rw [eBS] at hs
                    exact hs
                  rw [← eG9] at s9 h9 ⊢
                  clear eG9
                  refine ⟨⟨_, SqL.of h9⟩, lc_by (walk_l (xs := BS.map V.str)) (fun D i G => St S.CS pT S.pL S.pJ q0 d p zz pl rl ll dn cn a b c G rs rws lns ∧ G D = some (.lst []) ∧ G p8 = some (.lst (BS.map V.str))) (fun D nD => ⟨s9.keep (Keep.refl.new nD), upd_same, by rw [upd_ne (ne_of_none h9 nD)]; exact h9⟩) (fun D i G nD _ h => SqL.of h.2.2) ?_ ?_⟩
                  · rintro D i G x G2 nD hi ⟨sG, hD, hp8⟩ ⟨rfl, hx⟩
                    rw [List.getElem?_map] at hx
                    cases ey : BS[i]? with
                    | none => rw [ey] at hx; cases hx
                    | some y =>
                      rw [ey] at hx
                      cases hx
                      have my := List.mem_of_getElem? ey
                      have ly := lBS y my
                      rw [eBS] at my
                      simp_arith [cx_K, ↓e_tJs0, ↓e_tJs, ↓e_tFmt, ↓fmt_s, ↓fmt_i, ↓e_asS, ↓e_tM1, ↓e_tM0, ex_s, ↓ex_s2, ↓ex_s1, ↓ex_l1, ↓ex_ss, ↓ex_c, ↓e_news, ↓e_tForL, ↓e_asL, ↓e_tLcL, ↓tRaiseF_, ↓e_rInT, allP_0, allP_c, put_0, put_c, look_0, look_c, exists_eq_left', exists_eq', ↓e_tDIn, ↓e_iStr, ↓ex_v, cast1, cast2, flat_strs, inV_strs, cI_flat, cI_in, ex_isi, ↓e_tForJ, ↓e_tLcJ, ↓e_tDcJ, ↓e_iRng1, ↓e_asRg, ↓e_iList, ↓e_asLs, ↓e_iTup, ↓e_asTp, ↓e_iEnA, ↓e_asEA, ↓e_iAny, ↓e_asA, ↓e_tLamX, ex_22, wipe]
                      refine ⟨sG.TT, fun H6 xn xp tt6 => ⟨by omega, ?_⟩⟩
                      have k6 : Keep [pT] G2 H6 := fun b o e n => xp b o e (by simpa using n)
                      have s6 : St S.CS pT S.pL S.pJ q0 d p zz pl rl ll dn cn a b c H6 rs rws lns := sG.tabs (k6.more (by simp)) tt6 (TabG.keepTbl sG.TL k6 (by simpa using Ne.symm n1)) (TabG.keepTbl sG.TJ k6 (by simpa using Ne.symm n2))
                      have nt6 : ∀ {q : Addr} {xs : List V}, G2 q = some (.lst xs) → q ∉ [pT] := fun e h => sG.nt e nofun (by rw [List.mem_singleton.mp h]; simp)
                      have hD6 := k6 _ _ hD (nt6 hD)
                      have hp86 := k6 _ _ hp8 (nt6 hp8)
                      have l5 : (Str.ofString "\nx0:\n").length = 5 := by decide +kernel
                      refine ⟨_, _, rfl, rfl, by split <;> decide, by split <;> decide, by split <;> decide +kernel, fun rep hrep => ?_⟩
                      have hr : tl rep = if outLine y then tl (Str.ofString "\nx0:\n") else [] := by
                        rw [hrep]
                        by_cases ho : y = Str.ofString "x0: out"
                        · rw [if_pos ho, if_pos ho]
                          simp
                        · rw [if_neg ho, if_neg ho]
                          simp
                      have lrep : rep.length ≤ 5 := by
                        rw [len_tl, hr]
                        split
                        · rw [← len_tl]; omega
                        · simp
                      have an := bad_all (z := T ++ y ++ rep ++ Str.ofString "\n") TX hd8 hc8 r21e my hr (by rw [tl_append, tl_append, tl_append, tl_nl]; simp)
                      refine ⟨_, rep, rfl, rfl, by rw [strLen_append]; omega, by rw [strLen_append, strLen_append]; omega, _, zz, dn, cn, rfl, s6.Z, hd8, hc8, by rw [strLen_append, strLen_append, strLen_append]; omega, s6.TL, s6.TJ, S.nLJ, ?_⟩
                      rw [an]
                      intro H7 k7 tL7 tJ7
                      have nt7 : ∀ {q : Addr} {xs : List V}, H6 q = some (.lst xs) → q ∉ [S.pL, S.pJ] := fun e h => s6.nt e nofun (List.mem_cons_of_mem _ h)
                      exact ⟨true, xC, fun _ => ⟨rfl, ite_no (fun h => h rfl) ⟨s6.two n1 n2 k7 tL7 tJ7, k7 _ _ hD6 (nt7 hD6), k7 _ _ hp86 (nt7 hp86)⟩⟩, nofun⟩
                  · rintro D G nD ⟨sG, hD, hp8⟩
                    simp_arith [cx_K, ↓e_tJs0, ↓e_tJs, ↓e_tFmt, ↓fmt_s, ↓fmt_i, ↓e_asS, ↓e_tM1, ↓e_tM0, ex_s, ↓ex_s2, ↓ex_s1, ↓ex_l1, ↓ex_ss, ↓ex_c, ↓e_news, ↓e_tForL, ↓e_asL, ↓e_tLcL, ↓tRaiseF_, ↓e_rInT, allP_0, allP_c, put_0, put_c, look_0, look_c, exists_eq_left', exists_eq', ↓e_tDIn, ↓e_iStr, ↓ex_v, cast1, cast2, flat_strs, inV_strs, cI_flat, cI_in, ex_isi, ↓e_tForJ, ↓e_tLcJ, ↓e_tDcJ, ↓e_iRng1, ↓e_asRg, ↓e_iList, ↓e_asLs, ↓e_iTup, ↓e_asTp, ↓e_iEnA, ↓e_asEA, ↓e_iAny, ↓e_asA, ↓e_tLamX, ex_22, hD]
                    intro p9 np9
                    have sG9 := sG.keep (Keep.refl.new (u := .lst []) np9)
                    have hD9 : (upd G p9 (.lst [])) D = some (.lst []) := by rw [upd_ne (ne_of_none hD np9)]; exact hD
                    obtain ⟨G20, eG20⟩ : ∃ G20 : Hp, G20 = upd G p9 (.lst []) := ⟨_, rfl⟩
                    rw [← eG20] at sG9 hD9 ⊢
                    clear eG20
                    simp_arith [cx_K, ↓e_tJs0, ↓e_tJs, ↓e_tFmt, ↓fmt_s, ↓fmt_i, ↓e_asS, ↓e_tM1, ↓e_tM0, ex_s, ↓ex_s2, ↓ex_s1, ↓ex_l1, ↓ex_ss, ↓ex_c, ↓e_news, ↓e_tForL, ↓e_asL, ↓e_tLcL, ↓tRaiseF_, ↓e_rInT, allP_0, allP_c, put_0, put_c, look_0, look_c, exists_eq_left', exists_eq', ↓e_tDIn, ↓e_iStr, ↓ex_v, cast1, cast2, flat_strs, inV_strs, cI_flat, cI_in, ex_isi, ↓e_tForJ, ↓e_tLcJ, ↓e_tDcJ, ↓e_iRng1, ↓e_asRg, ↓e_iList, ↓e_asLs, ↓e_iTup, ↓e_asTp, ↓e_iEnA, ↓e_asEA, ↓e_iAny, ↓e_asA, ↓e_tLamX, ex_22, hD9, c256]
                    have lo4 : (Str.ofString "out\n").length = 4 := by decide +kernel
                    refine ⟨by first | decide | (unfold CPow; omega) | (unfold CPow; constructor <;> omega), _, _, rfl, rfl, by omega, by omega, by rw [lo4, Int.toNat_natCast]; omega, fun fu hfu => ?_⟩
                    rw [Int.toNat_natCast] at hfu
                    have lfu : fu.length = 2 ^ cn * 4 := by
                      rw [len_tl, hfu, len_rep, ← len_tl, lo4]
                    refine ⟨fu, zz, dn, cn, rfl, sG9.Z, hd8, hc8, by omega, sG9.TL, sG9.TJ, S.nLJ, ?_⟩
                    rw [(full_ok hfu).1 (Nat.le_refl _)]
                    intro H7 pf rf k7 tL7 tJ7 npf nrf hpf Rf
                    have s7 := sG9.two n1 n2 k7 tL7 tJ7
                    have lrf := paired_len Rf
                    rw [List.length_replicate] at lrf
                    refine ⟨pf, _, rfl, hpf, ?_⟩
                    rw [List.length_map, lrf]
                    refine ⟨by first | decide | (unfold CPow; omega) | (unfold CPow; constructor <;> omega), by simp [scal], ite_no (fun h => h rfl) ⟨s7.TT, fun H8 xn xp tt8 => ?_⟩⟩
                    have k8 : Keep [pT] H7 H8 := fun b o e n => xp b o e (by simpa using n)
                    have s8b : St S.CS pT S.pL S.pJ q0 d p zz pl rl ll dn cn a b c H8 rs rws lns := s7.tabs (k8.more (by simp)) tt8 (TabG.keepTbl s7.TL k8 (by simpa using Ne.symm n1)) (TabG.keepTbl s7.TJ k8 (by simpa using Ne.symm n2))
                    refine ⟨fu, _, rfl, rfl, by omega, _, zz, dn, cn, rfl, s8b.Z, hd8, hc8, by rw [strLen_append]; omega, s8b.TL, s8b.TJ, S.nLJ, ?_⟩
                    have hfu2 : tl (fu ++ Str.ofString "out\n") = (List.replicate (2 ^ cn + 1) (tl (Str.ofString "out\n"))).flatten := by
                      rw [tl_append, hfu, List.replicate_succ']
                      simp
                    rw [(full_ok hfu2).2 (Nat.lt_succ_self _)]
                    intro H9 k9 tL9 tJ9
                    exact ⟨true, xC, fun _ => ⟨rfl, ite_no (fun h => h rfl) ⟨.inr ⟨tL9, tJ9⟩, (s8b.two n1 n2 k9 tL9 tJ9).P⟩⟩, nofun⟩
      · exact absurd hi (by simp)
    · rintro σ' H' ⟨⟨h1, _⟩ | ⟨_, t2, t3⟩, _⟩
      · exact absurd h1 (by simp)
      · simp_arith [cx_K, ↓e_tJs0, ↓e_tJs, ↓e_tFmt, ↓fmt_s, ↓fmt_i, ↓e_asS, ↓e_tM1, ↓e_tM0, ex_s, ↓ex_s2, ↓ex_s1, ↓ex_l1, ↓ex_ss, ↓ex_c, ↓e_news, ↓e_tForL, ↓e_asL, ↓e_tLcL, ↓tRaiseF_, ↓e_rInT, allP_0, allP_c, put_0, put_c, look_0, look_c, exists_eq_left', exists_eq', ↓e_tDIn, ↓e_iStr, ↓ex_v, cast1, cast2, flat_strs, inV_strs, cI_flat, cI_in, ex_isi, ↓e_tForJ, ↓e_tLcJ, ↓e_tDcJ, ↓e_iRng1, ↓e_asRg, ↓e_iList, ↓e_asLs, ↓e_iTup, ↓e_asTp, ↓e_iEnA, ↓e_asEA, ↓e_iAny, ↓e_asA, ↓e_tLamX, ex_22]
        refine ⟨_, rfl, by decide +kernel, t2, ?_⟩
        rw [if_pos labels_const]
        intro H3 pp ap bp k3 t2b npp nap nbp ab pa pb hpp hap hbp
        have t3b := TabG.keepTbl t3 k3 (by simpa using Ne.symm S.nLJ)
        rw [parts_const.1] at hap
        rw [parts_const.2] at hbp
        intro q1 nq1 q2 n21 nq2 q3 n32 n31 nq3
        have kq : ∀ u1 u2 u3, Keep [] H3 (upd (upd (upd H3 q1 u1) q2 u2) q3 u3) := fun u1 u2 u3 => ((Keep.refl.new nq1).new (upd_none.mpr ⟨n21, nq2⟩)).new (upd_none.mpr ⟨n32, upd_none.mpr ⟨n31, nq3⟩⟩)
        refine ⟨.tuple [.list [.str (Str.ofString "a"), .str (Str.ofString "b")], .list [.str (Str.ofString "set"), .str (Str.ofString "3")]], .tup (SqT.of (kq _ _ _ _ _ hpp (by simp))) (.cons (.lst (SqL.of (kq _ _ _ _ _ hap (by simp))) (.cons (.str _) (.cons (.str _) .nil))) (.cons (.lst (SqL.of (kq _ _ _ _ _ hbp (by simp))) (.cons (.str _) (.cons (.str _) .nil))) .nil)),
          .tup (SqT.of upd_same) (.cons (.lst (SqL.of (by rw [upd_ne (Ne.symm n31), upd_ne (Ne.symm n21), upd_same])) (.cons (.str _) (.cons (.str _) .nil))) (.cons (.lst (SqL.of (by rw [upd_ne (Ne.symm n32), upd_same])) (.cons (.str _) (.cons (.str _) .nil))) .nil)), by decide +kernel, ?_⟩
        have t2c := TabG.keepTbl t2b (kq (.lst [.str (Str.ofString "a"), .str (Str.ofString "b")]) (.lst [.str (Str.ofString "set"), .str (Str.ofString "3")]) (.tup [.ref q1, .ref q2])) (by simp)
        have t3c := TabG.keepTbl t3b (kq (.lst [.str (Str.ofString "a"), .str (Str.ofString "b")]) (.lst [.str (Str.ofString "set"), .str (Str.ofString "3")]) (.tup [.ref q1, .ref q2])) (by simp)
        obtain ⟨H4, eH4⟩ : ∃ H4 : Hp, H4 = upd (upd (upd H3 q1 (.lst [.str (Str.ofString "a"), .str (Str.ofString "b")])) q2 (.lst [.str (Str.ofString "set"), .str (Str.ofString "3")])) q3 (.tup [.ref q1, .ref q2]) := ⟨_, rfl⟩
        rw [← eH4] at t2c t3c ⊢
        clear eH4
        simp_arith [cx_K, ↓e_tJs0, ↓e_tJs, ↓e_tFmt, ↓fmt_s, ↓fmt_i, ↓e_asS, ↓e_tM1, ↓e_tM0, ex_s, ↓ex_s2, ↓ex_s1, ↓ex_l1, ↓ex_ss, ↓ex_c, ↓e_news, ↓e_tForL, ↓e_asL, ↓e_tLcL, ↓tRaiseF_, ↓e_rInT, allP_0, allP_c, put_0, put_c, look_0, look_c, exists_eq_left', exists_eq', ↓e_tDIn, ↓e_iStr, ↓ex_v, cast1, cast2, flat_strs, inV_strs, cI_flat, cI_in, ex_isi, ↓e_tForJ, ↓e_tLcJ, ↓e_tDcJ, ↓e_iRng1, ↓e_asRg, ↓e_iList, ↓e_asLs, ↓e_iTup, ↓e_asTp, ↓e_iEnA, ↓e_asEA, ↓e_iAny, ↓e_asA, ↓e_tLamX, ex_22]
        intro r1 nr1 r2 nr21 nr2
        have kr : ∀ u1 u2, Keep [] H4 (upd (upd H4 r1 u1) r2 u2) := fun u1 u2 => (Keep.refl.new nr1).new (upd_none.mpr ⟨nr21, nr2⟩)
        refine ⟨r1, r2, [Str.ofString "jump", Str.ofString "a"], [(Str.ofString "a", 4)], rfl, by rw [upd_ne (Ne.symm nr21), upd_same]; rfl, by rw [upd_same]; rfl, TabG.keepTbl t3c (kr _ _) (by simp), by decide +kernel, by decide, ?_⟩
        rw [ins_const]
        intro H5 p5 k5 t3d np5 hp5
        have t2d : GxR.TabG H5 S.pL := TabG.keepTbl (TabG.keepTbl t2c (kr (.lst [.str (Str.ofString "jump"), .str (Str.ofString "a")]) (.dK [(Sum.inr (Str.ofString "a"), .int 4)])) (by simp)) k5 (by simpa using S.nLJ)
        simp_arith [cx_K, ↓e_tJs0, ↓e_tJs, ↓e_tFmt, ↓fmt_s, ↓fmt_i, ↓e_asS, ↓e_tM1, ↓e_tM0, ex_s, ↓ex_s2, ↓ex_s1, ↓ex_l1, ↓ex_ss, ↓ex_c, ↓e_news, ↓e_tForL, ↓e_asL, ↓e_tLcL, ↓tRaiseF_, ↓e_rInT, allP_0, allP_c, put_0, put_c, look_0, look_c, exists_eq_left', exists_eq', ↓e_tDIn, ↓e_iStr, ↓ex_v, cast1, cast2, flat_strs, inV_strs, cI_flat, cI_in, ex_isi, ↓e_tForJ, ↓e_tLcJ, ↓e_tDcJ, ↓e_iRng1, ↓e_asRg, ↓e_iList, ↓e_asLs, ↓e_iTup, ↓e_asTp, ↓e_iEnA, ↓e_asEA, ↓e_iAny, ↓e_asA, ↓e_tLamX, ex_22, hp5]
        intro p6 np6
        simp_arith [cx_K, ↓e_tJs0, ↓e_tJs, ↓e_tFmt, ↓fmt_s, ↓fmt_i, ↓e_asS, ↓e_tM1, ↓e_tM0, ex_s, ↓ex_s2, ↓ex_s1, ↓ex_l1, ↓ex_ss, ↓ex_c, ↓e_news, ↓e_tForL, ↓e_asL, ↓e_tLcL, ↓tRaiseF_, ↓e_rInT, allP_0, allP_c, put_0, put_c, look_0, look_c, exists_eq_left', exists_eq', ↓e_tDIn, ↓e_iStr, ↓ex_v, cast1, cast2, flat_strs, inV_strs, cI_flat, cI_in, ex_isi, ↓e_tForJ, ↓e_tLcJ, ↓e_tDcJ, ↓e_iRng1, ↓e_asRg, ↓e_iList, ↓e_asLs, ↓e_iTup, ↓e_asTp, ↓e_iEnA, ↓e_asEA, ↓e_iAny, ↓e_asA, ↓e_tLamX, ex_22, hp5, np6]
        have k56 : Keep [] H5 (upd H5 p6 (.tup [.str (Str.ofString "jump"), .int 4])) := Keep.refl.new np6
        have t2e := TabG.keepTbl t2d k56 (by simp)
        have t3e := TabG.keepTbl t3d k56 (by simp)
        obtain ⟨H6, eH6⟩ : ∃ H6 : Hp, H6 = upd H5 p6 (.tup [.str (Str.ofString "jump"), .int 4]) := ⟨_, rfl⟩
        rw [← eH6] at t2e t3e ⊢
        clear eH6
        refine ⟨by decide +kernel, by decide +kernel, _, rfl, by decide +kernel, t2e, ?_⟩
        rw [if_pos label_a1]
        intro H7 tb7
        have t3f : GxR.TabG H7 S.pJ := by
          obtain ⟨ps, e, o⟩ := t3e
          exact ⟨ps, by rw [tb7.2 _ (Ne.symm S.nLJ)]; exact e, o⟩
        refine ite_no (fun h => h rfl) ?_
        intro z1 dz1 nz1 ndz1 ndd
        have kz : ∀ u v, Keep [] H7 (upd (upd H7 dz1 u) z1 v) := fun u v => (Keep.refl.new ndz1).new (upd_none.mpr ⟨Ne.symm ndd, nz1⟩)
        refine ⟨z1, dz1, 2, 2, rfl, upd_same, by decide, by decide, ?_⟩
        rw [if_pos ⟨by decide, by decide, by decide, by decide⟩]
        intro H8 SZ8 k8
        have zt : ∀ {g ps}, H7 g = some (.tbl ps) → g ∉ [z1] := fun {g ps} e h => by
          rw [List.mem_singleton.mp h, nz1] at e
          cases e
        have t2g : GxR.TabG H8 S.pL := by
          obtain ⟨ps, e, o⟩ := tb7.1
          exact ⟨ps, k8 _ _ (kz _ _ _ _ e (by simp)) (zt e), o⟩
        have t3g : GxR.TabG H8 S.pJ := by
          obtain ⟨ps, e, o⟩ := t3f
          exact ⟨ps, k8 _ _ (kz _ _ _ _ e (by simp)) (zt e), o⟩
        refine ⟨rfl, _, z1, 2, 2, rfl, SZ8, by decide, by decide, by decide +kernel, t2g, t3g, S.nLJ, ?_⟩
        rw [asm_empty]
        intro H9 p9 rs9 k9 t2h t3h np9 nrs9 hp9 R9
        have e9 : rs9 = [] := List.length_eq_zero_iff.mp (paired_len R9)
        subst e9
        rw [List.map_nil] at hp9
        simp_arith [cx_K, ↓e_tJs0, ↓e_tJs, ↓e_tFmt, ↓fmt_s, ↓fmt_i, ↓e_asS, ↓e_tM1, ↓e_tM0, ex_s, ↓ex_s2, ↓ex_s1, ↓ex_l1, ↓ex_ss, ↓ex_c, ↓e_news, ↓e_tForL, ↓e_asL, ↓e_tLcL, ↓tRaiseF_, ↓e_rInT, allP_0, allP_c, put_0, put_c, look_0, look_c, exists_eq_left', exists_eq', ↓e_tDIn, ↓e_iStr, ↓ex_v, cast1, cast2, flat_strs, inV_strs, cI_flat, cI_in, ex_isi, ↓e_tForJ, ↓e_tLcJ, ↓e_tDcJ, ↓e_iRng1, ↓e_asRg, ↓e_iList, ↓e_asLs, ↓e_iTup, ↓e_asTp, ↓e_iEnA, ↓e_asEA, ↓e_iAny, ↓e_asA, ↓e_tLamX, ex_22, hp9]
        intro p10 np10
        simp_arith [cx_K, ↓e_tJs0, ↓e_tJs, ↓e_tFmt, ↓fmt_s, ↓fmt_i, ↓e_asS, ↓e_tM1, ↓e_tM0, ex_s, ↓ex_s2, ↓ex_s1, ↓ex_l1, ↓ex_ss, ↓ex_c, ↓e_news, ↓e_tForL, ↓e_asL, ↓e_tLcL, ↓tRaiseF_, ↓e_rInT, allP_0, allP_c, put_0, put_c, look_0, look_c, exists_eq_left', exists_eq', ↓e_tDIn, ↓e_iStr, ↓ex_v, cast1, cast2, flat_strs, inV_strs, cI_flat, cI_in, ex_isi, ↓e_tForJ, ↓e_tLcJ, ↓e_tDcJ, ↓e_iRng1, ↓e_asRg, ↓e_iList, ↓e_asLs, ↓e_iTup, ↓e_asTp, ↓e_iEnA, ↓e_asEA, ↓e_iAny, ↓e_asA, ↓e_tLamX, ex_22, hp9, np10]
        obtain ⟨H10, eH10⟩ : ∃ H10 : Hp, H10 = upd H9 p10 (.tup []) := ⟨_, rfl⟩
        rw [← eH10]
        clear eH10
        intro u1 _ nu1 u2 u21 _ nu2 u3 u32 u31 _ nu3 u4 u43 u42 u41 _ nu4
        have m1 : ∀ a b c d, (upd (upd (upd (upd H10 u1 a) u2 b) u3 c) u4 d) u1 = some a := fun a b c d => by rw [upd_ne (Ne.symm u41), upd_ne (Ne.symm u31), upd_ne (Ne.symm u21), upd_same]
        have m2 : ∀ a b c d, (upd (upd (upd (upd H10 u1 a) u2 b) u3 c) u4 d) u2 = some b := fun a b c d => by rw [upd_ne (Ne.symm u42), upd_ne (Ne.symm u32), upd_same]
        have m3 : ∀ a b c d, (upd (upd (upd (upd H10 u1 a) u2 b) u3 c) u4 d) u3 = some c := fun a b c d => by rw [upd_ne (Ne.symm u43), upd_same]
        refine ⟨u4, true, [u1, u2, u3], [(Str.ofString "jump", 1), (Str.ofString "out", 0), (Str.ofString "zero", 9)], rfl, SqT.of upd_same, .cons (m1 _ _ _ _) (.cons (m2 _ _ _ _) (.cons (m3 _ _ _ _) .nil)), by decide, by decide +kernel, fun zz H11 k11 ez => ?_⟩
        obtain rfl : zz = Str.ofString "jump p1\np1: out\nzero 9\n" := str_ext (ez.trans list_const)
        refine ⟨by simp [scal], ?_⟩
        first
          | exact k _
          | (simp only [decide_true]; exact k _)

end
end
section
open PySem PySem.Spec PyProof.Rows L2
def d_Size_init : He.DefD := ⟨("Size", some "__init__"), "__init__", "Size.__init__", defArgs (inClass (top 8) 0), defBody (inClass (top 8) 0), defScope (inClass (top 8) 0), [], []⟩
def d_check_instruction : He.DefD := ⟨("check_instruction", none), "check_instruction", "check_instruction", defArgs (top 9), defBody (top 9), defScope (top 9), [], []⟩
def d_line_parts : He.DefD := ⟨("line_parts", none), "line_parts", "line_parts", defArgs (top 15), defBody (top 15), defScope (top 15), [], []⟩
def d_check_label : He.DefD := ⟨("check_label", none), "check_label", "check_label", defArgs (top 16), defBody (top 16), defScope (top 16), [], []⟩
def d_assemble : He.DefD := ⟨("assemble", none), "assemble", "assemble", defArgs (top 17), defBody (top 17), defScope (top 17), [], []⟩
def d_instruction_of : He.DefD := ⟨("instruction_of", none), "instruction_of", "instruction_of", defArgs (top 18), defBody (top 18), defScope (top 18), [], []⟩
def d_listing : He.DefD := ⟨("listing", none), "listing", "listing", defArgs (top 19), defBody (top 19), defScope (top 19), [], []⟩
def d_line_of : He.DefD := ⟨("line_of", none), "line_of", "line_of", defArgs (top 20), defBody (top 20), defScope (top 20), [], []⟩
def d__law_dice : He.DefD := ⟨("_law_dice", none), "_law_dice", "_law_dice", defArgs (top 22), defBody (top 22), defScope (top 22), [], []⟩
def d__law_roll : He.DefD := ⟨("_law_roll", none), "_law_roll", "_law_roll", defArgs (top 23), defBody (top 23), defScope (top 23), [], []⟩
def d__law_rounds : He.DefD := ⟨("_law_rounds", none), "_law_rounds", "_law_rounds", defArgs (top 24), defBody (top 24), defScope (top 24), [], []⟩
def d__law_told : He.DefD := ⟨("_law_told", none), "_law_told", "_law_told", defArgs (top 25), defBody (top 25), defScope (top 25), [], []⟩
def d_law : He.DefD := ⟨("law", none), "law", "law", defArgs (top 26), defBody (top 26), defScope (top 26), [], []⟩
def fnL0 : List He.DefD := [d_Size_init, d_check_instruction, d_line_parts, d_check_label, d_assemble, d_instruction_of, d_listing, d_line_of, d__law_dice, d__law_roll, d__law_rounds, d__law_told, d_law]
def fnL : List He.DefD := fnL0
def faL0 : List He.Fa := [.glo "INSTRUCTIONS", .glo "PLAIN", .glo "JUMPS", .glo "CodeError", .glo "Size", .glo "check_instruction", .glo "line_parts", .glo "check_label", .glo "assemble", .glo "instruction_of", .glo "listing", .glo "line_of", .glo "_law_dice", .glo "_law_roll", .glo "_law_rounds", .glo "_law_told", .glo "law", .free "abs", .free "int", .free "min", .free "range", .free "max", .free "tuple", .free "len", .free "isinstance", .free "list", .free "any", .free "enumerate", .free "str", .free "sorted"]
def faL1 : List He.Fa := [.free "dict", .int "MOST_LETTERS" 20, .int "MOST_DIGITS_OF_CODE" 3, .str "LETTERS" "abcdefghijklmnopqrstuvwxyz", .str "DIGITS" "0123456789", .cls "Size", .mkr "Size", .noat "Size" "data", .noat "Size" "code", .exc "CodeError", .exm "CodeError" "CodeError" true]
def faL : List He.Fa := faL0 ++ faL1
def exL (K : PySem.W.Frag) : Bool := He.tupB K "INSTRUCTIONS" [.str "halt", .str "set", .str "load", .str "store", .str "add", .str "sub", .str "and", .str "xor", .str "jump", .str "zero", .str "less", .str "out", .str "in", .str "half", .str "from", .str "to"] && (He.tupB K "PLAIN" [.str "halt", .str "out", .str "in", .str "half"] && (He.tupB K "JUMPS" [.str "jump", .str "zero", .str "less"] && (decide ((He.cT K ("law", none)).2 ≠ (He.cT K ("check_label", none)).2) && (decide ((He.cT K ("law", none)).2 ≠ (He.cT K ("instruction_of", none)).2) && decide ((He.cT K ("check_label", none)).2 ≠ (He.cT K ("instruction_of", none)).2)))))
def tfL : List He.Defn := [("law", none), ("check_label", none), ("instruction_of", none)]
abbrev rowL : PySem.W.OpenRow := PySem.W.OpenLaw.row PySem.Challenge.rw_chipstack_k11_code_as_lines
abbrev hookL : PySem.W.Hook := He.hookX 6 faL fnL [] tfL exL
def obL (s : PySem.W.SharedT) : He.AlX := He.obsX 6 faL fnL [] tfL exL (HandSHeadRun.getT s)
theorem obL_eq (s : PySem.W.SharedT) : obL s = hookL.obs s.abs := He.obsX_eq (HandSHeadRun.getT_eq s)
def looseL : List Str := ["_wall", "ChipError", "CodeError", "INSTRUCTIONS", "PLAIN", "JUMPS", "Size", "check_instruction", "LETTERS", "DIGITS", "MOST_LETTERS", "MOST_DIGITS_OF_CODE", "line_parts", "check_label", "assemble", "instruction_of", "listing", "line_of", "_law_dice", "_law_roll", "_law_rounds", "_law_told"]
theorem runL (w : World) : HandSHeadRun.RunEq rowL (PySem.W.view rowL.prog [26]) hookL obL 3000 looseL w := by
  intro os
  kernel_rfl
end
section
open PySem PySem.Spec PyProof.Rows L2
theorem fun_of {K : PySem.W.Frag} {x qual : Str} {st : Stmt} {f : Addr} {fd : FuncData} (F : FunD K x qual (defArgs st) (defBody st) (defScope st) [] [] f fd) : Fun K x qual st f fd := by
  refine ⟨?_, F.kp⟩
  obtain ⟨oc, od, dV, kV, doc, pm, an, cdv, ct, osl, e, lk, hcd, hD, _⟩ := F.ex
  rcases hD with ⟨_, rfl⟩ | ⟨n, _⟩
  · exact ⟨oc, od, kV, doc, pm, an, cdv, ct, osl, e, lk, hcd⟩
  · exact absurd rfl n
theorem func_of {K : PySem.W.Frag} {x qual : Str} {st : Stmt} {fd : FuncData} {p : Str × Option Str} (F : Fun K x qual st (He.fAd K p) fd) : FunC K x qual st (He.fAd K p) fd (.ref (He.codeOf K p)) := by
  obtain ⟨oc, od, kV, doc, pm, an, cdv, ct, osl, rfl, lk, hcd⟩ := F.ex
  obtain ⟨c, rfl⟩ := He.codeIn_ref hcd
  rw [He.codeOf_eq lk rfl]
  exact ⟨⟨oc, od, kV, doc, pm, an, ct, osl, rfl, lk, hcd⟩⟩
section
variable {K : PySem.W.Frag} {h : Heap} {mg : Str → Option Value} {w : World}
theorem law_at {l : PySem.W.OpenLaw} {fa : Addr} (X : K.In h) (G : h.Ns mainGlobals mg) (hfa : mg ("law" : Str) = some (.ref fa)) (c : He.SaysX faL fnL [] tfL exL w h K) : LamX.LawAtS l w K CX0 11 63 "script" mg fa h := by
  obtain ⟨fd_Size_init, D_Size_init⟩ := c.t.d.def_ 0 (d := d_Size_init) rfl
  have F_Size_init : Fun K "__init__" "Size.__init__" (inClass (top 8) 0) (He.fAd K ("Size", some "__init__")) fd_Size_init := fun_of D_Size_init
  have b_Size_init : L2.Binds K fd_Size_init ["self", "data", "code"] [] := F_Size_init.binds (ps := ["self", "data", "code"]) fun _ _ _ _ _ _ us hl => match us, hl with | [_, _, _], _ => rfl
  obtain ⟨fd_check_instruction, D_check_instruction⟩ := c.t.d.def_ 1 (d := d_check_instruction) rfl
  have F_check_instruction : Fun K "check_instruction" "check_instruction" (top 9) (He.fAd K ("check_instruction", none)) fd_check_instruction := fun_of D_check_instruction
  have b_check_instruction : L2.Binds K fd_check_instruction ["row", "size"] [] := F_check_instruction.binds (ps := ["row", "size"]) fun _ _ _ _ _ _ us hl => match us, hl with | [_, _], _ => rfl
  obtain ⟨fd_line_parts, D_line_parts⟩ := c.t.d.def_ 2 (d := d_line_parts) rfl
  have F_line_parts : Fun K "line_parts" "line_parts" (top 15) (He.fAd K ("line_parts", none)) fd_line_parts := fun_of D_line_parts
  have b_line_parts : L2.Binds K fd_line_parts ["line"] [] := F_line_parts.binds (ps := ["line"]) fun _ _ _ _ _ _ us hl => match us, hl with | [_], _ => rfl
  obtain ⟨fd_check_label, D_check_label⟩ := c.t.d.def_ 3 (d := d_check_label) rfl
  have F_check_label : Fun K "check_label" "check_label" (top 16) (He.fAd K ("check_label", none)) fd_check_label := fun_of D_check_label
  have b_check_label : L2.Binds K fd_check_label ["name"] [] := F_check_label.binds (ps := ["name"]) fun _ _ _ _ _ _ us hl => match us, hl with | [_], _ => rfl
  obtain ⟨fd_assemble, D_assemble⟩ := c.t.d.def_ 4 (d := d_assemble) rfl
  have F_assemble : Fun K "assemble" "assemble" (top 17) (He.fAd K ("assemble", none)) fd_assemble := fun_of D_assemble
  have b_assemble : L2.Binds K fd_assemble ["text", "size"] [] := F_assemble.binds (ps := ["text", "size"]) fun _ _ _ _ _ _ us hl => match us, hl with | [_, _], _ => rfl
  obtain ⟨fd_instruction_of, D_instruction_of⟩ := c.t.d.def_ 5 (d := d_instruction_of) rfl
  have F_instruction_of : Fun K "instruction_of" "instruction_of" (top 18) (He.fAd K ("instruction_of", none)) fd_instruction_of := fun_of D_instruction_of
  have b_instruction_of : L2.Binds K fd_instruction_of ["words", "places"] [] := F_instruction_of.binds (ps := ["words", "places"]) fun _ _ _ _ _ _ us hl => match us, hl with | [_, _], _ => rfl
  obtain ⟨fd_listing, D_listing⟩ := c.t.d.def_ 6 (d := d_listing) rfl
  have F_listing : Fun K "listing" "listing" (top 19) (He.fAd K ("listing", none)) fd_listing := fun_of D_listing
  have b_listing : L2.Binds K fd_listing ["code"] [] := F_listing.binds (ps := ["code"]) fun _ _ _ _ _ _ us hl => match us, hl with | [_], _ => rfl
  obtain ⟨fd_line_of, D_line_of⟩ := c.t.d.def_ 7 (d := d_line_of) rfl
  have F_line_of : Fun K "line_of" "line_of" (top 20) (He.fAd K ("line_of", none)) fd_line_of := fun_of D_line_of
  have b_line_of : L2.Binds K fd_line_of ["row", "named"] [] := F_line_of.binds (ps := ["row", "named"]) fun _ _ _ _ _ _ us hl => match us, hl with | [_, _], _ => rfl
  obtain ⟨fd__law_dice, D__law_dice⟩ := c.t.d.def_ 8 (d := d__law_dice) rfl
  have F__law_dice : Fun K "_law_dice" "_law_dice" (top 22) (He.fAd K ("_law_dice", none)) fd__law_dice := fun_of D__law_dice
  have b__law_dice : L2.Binds K fd__law_dice ["cell"] [] := F__law_dice.binds (ps := ["cell"]) fun _ _ _ _ _ _ us hl => match us, hl with | [_], _ => rfl
  obtain ⟨fd__law_roll, D__law_roll⟩ := c.t.d.def_ 9 (d := d__law_roll) rfl
  have F__law_roll : Fun K "_law_roll" "_law_roll" (top 23) (He.fAd K ("_law_roll", none)) fd__law_roll := fun_of D__law_roll
  have b__law_roll : L2.Binds K fd__law_roll ["dice", "many"] [] := F__law_roll.binds (ps := ["dice", "many"]) fun _ _ _ _ _ _ us hl => match us, hl with | [_, _], _ => rfl
  obtain ⟨fd__law_rounds, D__law_rounds⟩ := c.t.d.def_ 10 (d := d__law_rounds) rfl
  have F__law_rounds : Fun K "_law_rounds" "_law_rounds" (top 24) (He.fAd K ("_law_rounds", none)) fd__law_rounds := fun_of D__law_rounds
  have b__law_rounds : L2.Binds K fd__law_rounds ["script", "most"] [] := F__law_rounds.binds (ps := ["script", "most"]) fun _ _ _ _ _ _ us hl => match us, hl with | [_, _], _ => rfl
  obtain ⟨fd__law_told, D__law_told⟩ := c.t.d.def_ 11 (d := d__law_told) rfl
  have F__law_told : Fun K "_law_told" "_law_told" (top 25) (He.fAd K ("_law_told", none)) fd__law_told := fun_of D__law_told
  have b__law_told : L2.Binds K fd__law_told ["what"] [] := F__law_told.binds (ps := ["what"]) fun _ _ _ _ _ _ us hl => match us, hl with | [_], _ => rfl
  obtain ⟨fd_law, D_law⟩ := c.t.d.def_ 12 (d := d_law) rfl
  have F_law : Fun K "law" "law" (top 26) (He.fAd K ("law", none)) fd_law := fun_of D_law
  have b_law : L2.Binds K fd_law ["script"] [] := F_law.binds (ps := ["script"]) fun _ _ _ _ _ _ us hl => match us, hl with | [_], _ => rfl
  obtain ⟨tB, eB⟩ := He.int_ok X G (c.t.d.fact 31 (f := .int "MOST_LETTERS" 20) rfl)
  obtain ⟨tC, eC⟩ := He.int_ok X G (c.t.d.fact 32 (f := .int "MOST_DIGITS_OF_CODE" 3) rfl)
  obtain ⟨tL, eL⟩ := He.str_ok X G (c.t.d.fact 33 (f := .str "LETTERS" "abcdefghijklmnopqrstuvwxyz") rfl)
  obtain ⟨tD, eD⟩ := He.str_ok X G (c.t.d.fact 34 (f := .str "DIGITS" "0123456789") rfl)
  have ex := c.more
  obtain ⟨w_I, ex⟩ := He.ba ex
  obtain ⟨w_P, ex⟩ := He.ba ex
  obtain ⟨w_J, ex⟩ := He.ba ex
  obtain ⟨g1, ex⟩ := He.ba ex
  obtain ⟨g2, g3⟩ := He.ba ex
  have g1 := of_decide_eq_true g1
  have g2 := of_decide_eq_true g2
  have g3 := of_decide_eq_true g3
  obtain ⟨x1, x2, x3, x4⟩ := He.exc_ok (c.t.d.fact 39 (f := .exc "CodeError") rfl)
  have e := hfa.symm.trans (He.glo_ok X G (c.t.d.fact 16 (f := .glo "law") rfl))
  cases e
  let T : TK K mg := { a_INSTRUCTIONS := He.ga K "INSTRUCTIONS", a_PLAIN := He.ga K "PLAIN", a_JUMPS := He.ga K "JUMPS", C_CodeError := He.ga K "CodeError", CS := He.ga K "Size", tL := tL, tD := tD, tB := tB, tC := tC, z_len := (He.free_ok X G (c.t.d.fact 23 (f := .free "len") rfl)), z_isinstance := (He.free_ok X G (c.t.d.fact 24 (f := .free "isinstance") rfl)), z_int := (He.free_ok X G (c.t.d.fact 18 (f := .free "int") rfl)), z_list := (He.free_ok X G (c.t.d.fact 25 (f := .free "list") rfl)), z_tuple := (He.free_ok X G (c.t.d.fact 22 (f := .free "tuple") rfl)), z_range := (He.free_ok X G (c.t.d.fact 20 (f := .free "range") rfl)), z_any := (He.free_ok X G (c.t.d.fact 26 (f := .free "any") rfl)), z_enumerate := (He.free_ok X G (c.t.d.fact 27 (f := .free "enumerate") rfl)), g_INSTRUCTIONS := (He.glo_ok X G (c.t.d.fact 0 (f := .glo "INSTRUCTIONS") rfl)), w_INSTRUCTIONS := fun H => He.tupB_ok w_I H, g_PLAIN := (He.glo_ok X G (c.t.d.fact 1 (f := .glo "PLAIN") rfl)), w_PLAIN := fun H => He.tupB_ok w_P H, g_JUMPS := (He.glo_ok X G (c.t.d.fact 2 (f := .glo "JUMPS") rfl)), w_JUMPS := fun H => He.tupB_ok w_J H, c_LETTERS := eL, c_DIGITS := eD, c_MOST_LETTERS := eB, c_MOST_DIGITS_OF_CODE := eC, g_CodeError := (He.glo_ok X G (c.t.d.fact 3 (f := .glo "CodeError") rfl)), x_CodeError := x1, kp_CodeError := x2, b_CodeError := x3, t_CodeError := x4, cS := He.cls_ok (c.t.d.fact 35 (f := .cls "Size") rfl), nS_data := (He.noat_ok (c.t.d.fact 37 (f := .noat "Size" "data") rfl)), nS_code := (He.noat_ok (c.t.d.fact 38 (f := .noat "Size" "code") rfl)) }
  have TL : TLaw K mg (He.ga K "INSTRUCTIONS") (He.fAd K ("_law_dice", none)) (He.fAd K ("_law_roll", none)) fd__law_dice fd__law_roll := ⟨(He.free_ok X G (c.t.d.fact 17 (f := .free "abs") rfl)), (He.free_ok X G (c.t.d.fact 18 (f := .free "int") rfl)), (He.free_ok X G (c.t.d.fact 19 (f := .free "min") rfl)), (He.free_ok X G (c.t.d.fact 20 (f := .free "range") rfl)), (He.free_ok X G (c.t.d.fact 21 (f := .free "max") rfl)), (He.free_ok X G (c.t.d.fact 22 (f := .free "tuple") rfl)), (He.glo_ok X G (c.t.d.fact 0 (f := .glo "INSTRUCTIONS") rfl)), fun H => He.tupB_ok w_I H, (He.glo_ok X G (c.t.d.fact 12 (f := .glo "_law_dice") rfl)), F__law_dice, b__law_dice, (He.glo_ok X G (c.t.d.fact 13 (f := .glo "_law_roll") rfl)), F__law_roll, b__law_roll⟩
  refine ⟨fd_law, tfL.map (He.cT K), spLaw K (He.cT K ("law", none)).2 (He.cT K ("check_label", none)).2 (He.cT K ("instruction_of", none)).2, fun p hp => ?_, fun p hp => ?_, fun p hp => ?_, fun s u => FunD.bindsA (ps := ["script"]) D_law (fun _ _ _ _ _ _ us hl => match us, hl with | [_], _ => rfl) s [u] rfl, fun H a ns _ _ hT hS => ⟨a, ns, rfl, hS, hT _ (List.Mem.head _), hT _ (.tail _ (.head _)), hT _ (.tail _ (.tail _ (.head _))), fun _ => rfl⟩, fun base hK hG hTB => ?_⟩
  · obtain ⟨q, hq, rfl⟩ := List.mem_map.mp hp
    exact c.empty q hq
  · obtain ⟨q, hq, rfl⟩ := List.mem_map.mp hp
    exact c.out q hq
  · obtain ⟨q, hq, rfl⟩ := List.mem_map.mp hp
    exact PySem.W.codeHd_of_K X (c.hd q hq)
  · have TB1 := hTB _ (List.Mem.head _)
    have TB2 := hTB _ (List.Mem.tail _ (List.Mem.head _))
    have TB3 := hTB _ (List.Mem.tail _ (List.Mem.tail _ (List.Mem.head _)))
    have FL := func_of (p := ("check_label", none)) F_check_label
    have FI := func_of (p := ("instruction_of", none)) F_instruction_of
    have TBL : GxR.TabB base mg _ (He.cT K ("check_label", none)).2 := ⟨TB2.code, TB2.bm, TB2.gP⟩
    have TBJ : GxR.TabB base mg _ (He.cT K ("instruction_of", none)).2 := ⟨TB3.code, TB3.bm, TB3.gP⟩
    let S : Sub l.prog w K mg base := { CS := T.CS, CE := T.C_CodeError, pL := (He.cT K ("check_label", none)).2, pJ := (He.cT K ("instruction_of", none)).2, aI := T.a_INSTRUCTIONS, nLJ := g3, cS := T.cS, nS_data := T.nS_data, nS_code := T.nS_code, g_INSTRUCTIONS := T.g_INSTRUCTIONS, w_INSTRUCTIONS := T.w_INSTRUCTIONS, f_Size := _, d_Size := _, m_Size := (He.glo_ok X G (c.t.d.fact 4 (f := .glo "Size") rfl)), M_Size := He.mkr_ok (c.t.d.fact 36 (f := .mkr "Size") rfl), ok_Size := (ok_Size_init F_Size_init T).mono (by decide), b_Size := b_Size_init, f_assemble := _, d_assemble := _, m_assemble := (He.glo_ok X G (c.t.d.fact 8 (f := .glo "assemble") rfl)), k_assemble := F_assemble.kp, ok_assemble := (ok_assemble F_assemble T FL TBL (He.glo_ok X G (c.t.d.fact 7 (f := .glo "check_label") rfl)) F_check_label.kp b_check_label F_line_parts (He.glo_ok X G (c.t.d.fact 6 (f := .glo "line_parts") rfl)) b_line_parts FI TBJ (He.glo_ok X G (c.t.d.fact 9 (f := .glo "instruction_of") rfl)) F_instruction_of.kp b_instruction_of F_check_instruction (He.glo_ok X G (c.t.d.fact 5 (f := .glo "check_instruction") rfl)) b_check_instruction).mono (by decide), b_assemble := b_assemble, f_listing := _, d_listing := _, m_listing := (He.glo_ok X G (c.t.d.fact 10 (f := .glo "listing") rfl)), k_listing := F_listing.kp, ok_listing := (ok_listing F_listing T F_line_of (He.glo_ok X G (c.t.d.fact 11 (f := .glo "line_of") rfl)) b_line_of).mono (by decide), b_listing := b_listing, f_line_parts := _, d_line_parts := _, m_line_parts := (He.glo_ok X G (c.t.d.fact 6 (f := .glo "line_parts") rfl)), k_line_parts := F_line_parts.kp, ok_line_parts := (ok_line_parts F_line_parts T FL TBL (He.glo_ok X G (c.t.d.fact 7 (f := .glo "check_label") rfl)) F_check_label.kp b_check_label).mono (by decide), b_line_parts := b_line_parts, f_instruction_of := _, d_instruction_of := _, m_instruction_of := (He.glo_ok X G (c.t.d.fact 9 (f := .glo "instruction_of") rfl)), k_instruction_of := F_instruction_of.kp, ok_instruction_of := (ok_instruction_of FI T TBJ).mono (by decide), b_instruction_of := b_instruction_of, f_check_label := _, d_check_label := _, m_check_label := (He.glo_ok X G (c.t.d.fact 7 (f := .glo "check_label") rfl)), k_check_label := F_check_label.kp, ok_check_label := (ok_check_label FL T TBL).mono (by decide), b_check_label := b_check_label }
    let Z : Lw K mg base l.prog w := { z_int := (He.free_ok X G (c.t.d.fact 18 (f := .free "int") rfl)), z_str := (He.free_ok X G (c.t.d.fact 28 (f := .free "str") rfl)), z_list := (He.free_ok X G (c.t.d.fact 25 (f := .free "list") rfl)), z_sorted := (He.free_ok X G (c.t.d.fact 29 (f := .free "sorted") rfl)), z_dict := (He.free_ok X G (c.t.d.fact 30 (f := .free "dict") rfl)), z_len := (He.free_ok X G (c.t.d.fact 23 (f := .free "len") rfl)), z_range := (He.free_ok X G (c.t.d.fact 20 (f := .free "range") rfl)), z_enumerate := (He.free_ok X G (c.t.d.fact 27 (f := .free "enumerate") rfl)), f__law_roll := _, d__law_roll := _, m__law_roll := (He.glo_ok X G (c.t.d.fact 13 (f := .glo "_law_roll") rfl)), k__law_roll := F__law_roll.kp, ok__law_roll := ok__law_roll TL, b__law_roll := b__law_roll, f__law_rounds := _, d__law_rounds := _, m__law_rounds := (He.glo_ok X G (c.t.d.fact 14 (f := .glo "_law_rounds") rfl)), k__law_rounds := F__law_rounds.kp, ok__law_rounds := ok__law_rounds F__law_rounds TL, b__law_rounds := b__law_rounds }
    refine ok_law (gT := He.fAd K ("_law_told", none)) (func_of (p := ("law", none)) F_law) S Z (fun Y eK em => ?_) TB1 (He.exm_ok (c.t.d.fact 40 (f := .exm "CodeError" "CodeError" true) rfl)) g1 g2
    obtain ⟨oc, od, kV, doc, pm, an, cdv, ct, osl, e1, lk, hcd⟩ := F__law_told.ex
    subst e1
    refine ⟨by rw [em]; exact (He.glo_ok X G (c.t.d.fact 15 (f := .glo "_law_told") rfl)), by rw [eK]; exact F__law_told.kp, oc, od, defArgs (top 25), defBody (top 25), defScope (top 25), .none, kV, doc, pm, an, cdv, ct, osl, ["what"], "what", by rw [eK]; exact lk, by rw [eK]; exact hcd, by rw [eK]; exact b__law_told, ⟨rfl, rfl, rfl, by decide +kernel, rfl, by decide +kernel, by decide +kernel⟩, rfl, Or.inl rfl, by decide, by decide, ?_⟩
    have tg : LamX.GivesTo Y ["what"] "_law_told" (defScope (top 25)) (He.fAd K ("_law_told", none)) cdv (defBody (top 25)) "what" "law.<locals>.<lambda>" (fun tl H Q => tl (XOne Y.K (He.ga K "CodeError") "CodeError" Q) H Q) := LamX.told_gives (by rfl) (by rw [em]; exact (He.glo_ok X G (c.t.d.fact 3 (f := .glo "CodeError") rfl))) (by decide) (fun f => rfl)
    rw [eK] at tg
    exact tg
end
end
end Own
open PySem PySem.W PySem.Calls PyProof.Rows
theorem PySem.Challenge.cw_chipstack_k11_code_as_lines_holds : PySem.Challenge.rw_chipstack_k11_code_as_lines.Holds := by
  w_on; o_law
  refine HandSHeadRun.head_any (r := OpenLaw.row PySem.Challenge.rw_chipstack_k11_code_as_lines) (q := view (OpenLaw.row PySem.Challenge.rw_chipstack_k11_code_as_lines).prog [26]) (H := Own.hookL) (ob := Own.obL) (M := 3000) (loose := Own.looseL) (d := HandSHeadRun.topDef (OpenLaw.row PySem.Challenge.rw_chipstack_k11_code_as_lines).prog 26) (kwd := []) Own.obL_eq
    (by kernel_rfl) (fun s => by kernel_rfl) Own.runL (by kernel_rfl) (by kernel_rfl) (by kernel_rfl) (by rfl) (by first | assumption | decide +kernel) (by decide +kernel) ⟨rfl, rfl, rfl, rfl, rfl, by decide +kernel⟩ ?hw ?hc
  case hw => w_witness2
  case hc =>
    refine LamX.walk_ofTsE (l := PySem.Challenge.rw_chipstack_k11_code_as_lines) (n := 63) (k := 11) (x := "script") (CX := fun _ => L2.CX0) rfl (by decide) (by kernel_rfl) ⟨rfl, by decide, by decide⟩ ?F (fun _ _ _ _ _ z => z)
    intro w mg fa h Y G hmg0
    obtain ⟨K, KX, c⟩ := Y
    have hmg : mg ("law" : PySem.Str) = some (.ref fa) := by
      have e : (HandSHeadRun.topDef (OpenLaw.row PySem.Challenge.rw_chipstack_k11_code_as_lines).prog 26).name = ("law" : PySem.Str) := by kernel_rfl
      rw [← e]
      exact hmg0
    exact ⟨K, KX, Own.law_at KX G hmg c⟩
