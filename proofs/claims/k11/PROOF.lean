import PyProof.Rows.All
import Wide.All
import OpenK.AllK
import Wide.FinOn
import HandS.Head0
import HandS.Head1
import HandS.Head2
import HandS.HeadHook1
import HandS.Head3
import HandS.ForMost
import HandS.WordsExc
import HandS.Defaults
import HandS.IsInst
import HandS.WideBits
import HandS.Wide
import HandS.TupMul
import HandS.TupAny
import HandS.Zip
import HandS.Flow
import HandS.Gcd
import HandS.HeadEnd
import HandS.HeadHook2
import HandS.Style
import HandS.More
import HandS.NoneIn
import KE.GoesEnumKw
import KE.GoesZip
import PyProof.CallType
import PyProof.Walk
import PyProof.RulesTry
import PyProof.Rows.SortShell
import HandS.TupLe
import PyProof.CallFns
import HandS.Deep
import KE.DataMinMax
import PyProof.ReprBulk
import PyProof.Rows.RegStrFacts
import PySem.Challenge.RW_steermeans_k11_whole_fields_within_field
set_option Elab.async false
set_option linter.all false
set_option maxRecDepth 100000
set_option maxHeartbeats 0
namespace Mi
open PySem PySem.Spec PyProof.Rows L2

/-! ### the head's looks: defs by names, free names, and names that stand for built-in functions -/
abbrev AlI : Type := Bool × He.AlD
def impB (im : List (Str × Value)) (K : PySem.W.Frag) : Bool := im.all fun q => He.eqO (PySem.W.nsIn K mainGlobals q.1) (some (some q.2))
def obsI (im : List (Str × Value)) (fa : List He.Fa) (fn : List He.DefD) (K : PySem.W.Frag) : AlI := (impB im K, He.obsD fa fn K)
def valI (fn : List He.DefD) : AlI := (true, He.valD fn)
def SaysI (im : List (Str × Value)) (fa : List He.Fa) (fn : List He.DefD) (K : PySem.W.Frag) : Prop := obsI im fa fn K = valI fn
def obsGI (n : Nat) (im : List (Str × Value)) (fa : List He.Fa) (fn : List He.DefD) (g : Addr → Option Obj) : AlI := obsI im fa fn (He.frG g (He.asD g n))
def hookI (n : Nat) (im : List (Str × Value)) (fa : List He.Fa) (fn : List He.DefD) : PySem.W.Hook where
  α := AlI
  obs := fun s => obsGI n im fa fn s.heap.get?
  val := fun _ => valI fn
  says := fun _ h => ∃ K : PySem.W.Frag, K.In h ∧ SaysI im fa fn K
  of := fun _ _ e => ⟨_, He.frG_in, e⟩
  keeps := fun _ _ _ ⟨K, hK, c⟩ k => ⟨K, PySem.W.Frag.In.keeps hK k, c⟩
theorem obsGI_eq {n : Nat} {im : List (Str × Value)} {fa : List He.Fa} {fn : List He.DefD} {g : Addr → Option Obj} {s : Shared} (h : ∀ a, g a = s.heap.get? a) : obsGI n im fa fn g = (hookI n im fa fn).obs s := by
  obtain rfl : g = s.heap.get? := funext h
  rfl
section
variable {im : List (Str × Value)} {fa : List He.Fa} {fn : List He.DefD} {K : PySem.W.Frag} {h : Heap} {mg : Str → Option Value}
theorem SaysI.d (c : SaysI im fa fn K) : He.SaysD fa fn K := congrArg (fun z : AlI => z.2) c
theorem SaysI.imp (c : SaysI im fa fn K) (X : K.In h) (G : h.Ns mainGlobals mg) (i : Nat) {x : Str} {b : Value} (e : im[i]? = some (x, b)) : mg x = some b := by
  have c1 : impB im K = true := congrArg (fun z : AlI => z.1) c
  exact PySem.W.mg_of X G (He.eqO_ok (List.all_eq_true.mp c1 _ (List.mem_of_getElem? e)))
theorem SaysI.glo (c : SaysI im fa fn K) (X : K.In h) (G : h.Ns mainGlobals mg) (i : Nat) {x : Str} (e : fa[i]? = some (.glo x)) : mg x = some (.ref (He.ga K x)) := He.glo_ok X G (c.d.fact i e)
theorem SaysI.free (c : SaysI im fa fn K) (X : K.In h) (G : h.Ns mainGlobals mg) (i : Nat) {x : Str} (e : fa[i]? = some (.free x)) : mg x = none := He.free_ok X G (c.d.fact i e)
end
end Mi
namespace My
open PySem PySem.Spec PyProof.Rows L2 Mi
def top (i : Nat) : Stmt := PySem.Challenge.pw_steermeans_k11_whole_fields_within_field.main.body.getD i (.Pass ⟨0, 0, 0, 0⟩)
abbrev st_ratio : Stmt := top 7
abbrev st_at_most : Stmt := top 8
abbrev st_common_scale : Stmt := top 9
abbrev st_scaled : Stmt := top 10
abbrev st_is_whole : Stmt := top 12
abbrev st_is_tuple_of : Stmt := top 13
abbrev st_is_fraction : Stmt := top 14
abbrev st_are_fractions : Stmt := top 15
abbrev st_is_side : Stmt := top 16
abbrev st_is_field : Stmt := top 18
abbrev st_check_field : Stmt := top 19
abbrev st_holds : Stmt := top 22
abbrev st_foot : Stmt := top 25
abbrev st_foot_spots : Stmt := top 26
abbrev st_crossing : Stmt := top 23
abbrev st_corner_spots : Stmt := top 24
abbrev st_square_between : Stmt := top 27
abbrev st_nearest_spot : Stmt := top 28
abbrev st_holds_nothing : Stmt := top 29
abbrev st_whole_sides : Stmt := top 21
abbrev st_check_not_empty : Stmt := top 20
abbrev st_is_told_by_one : Stmt := top 30
abbrev st_is_told_by_two : Stmt := top 31
abbrev st_is_told : Stmt := top 32
abbrev st_lies_within : Stmt := top 33
abbrev st__law_take : Stmt := top 36
abbrev st__law_one_of : Stmt := top 37
abbrev st__law_gcd : Stmt := top 38
abbrev st__law_ratio : Stmt := top 39
abbrev st__law_plus : Stmt := top 40
abbrev st__law_times : Stmt := top 41
abbrev st__law_number : Stmt := top 42
abbrev st__law_line : Stmt := top 43
abbrev st__law_point : Stmt := top 44
abbrev st__law_holds : Stmt := top 45
abbrev st__law_edge : Stmt := top 46
abbrev st__law_land : Stmt := top 47
abbrev st__law_in : Stmt := top 48
abbrev st__law_spot : Stmt := top 49
abbrev st__law_follows : Stmt := top 50
abbrev st__law_inside : Stmt := top 51
abbrev st__law_around : Stmt := top 52
abbrev st__law_right : Stmt := top 53
abbrev st__law_well : Stmt := top 35
abbrev st_law : Stmt := top 54
end My
namespace My
open PySem PySem.Spec PyProof.Rows L2 Mi
/-! the head -/
def Dratio : He.DefD := ⟨("ratio", none), "ratio", "ratio", defArgs st_ratio, defBody st_ratio, defScope st_ratio, [], []⟩
def Dat_most : He.DefD := ⟨("at_most", none), "at_most", "at_most", defArgs st_at_most, defBody st_at_most, defScope st_at_most, [], []⟩
def Dcommon_scale : He.DefD := ⟨("common_scale", none), "common_scale", "common_scale", defArgs st_common_scale, defBody st_common_scale, defScope st_common_scale, [], []⟩
def Dscaled : He.DefD := ⟨("scaled", none), "scaled", "scaled", defArgs st_scaled, defBody st_scaled, defScope st_scaled, [], []⟩
def Dis_whole : He.DefD := ⟨("is_whole", none), "is_whole", "is_whole", defArgs st_is_whole, defBody st_is_whole, defScope st_is_whole, [], []⟩
def Dis_tuple_of : He.DefD := ⟨("is_tuple_of", none), "is_tuple_of", "is_tuple_of", defArgs st_is_tuple_of, defBody st_is_tuple_of, defScope st_is_tuple_of, [], []⟩
def Dis_fraction : He.DefD := ⟨("is_fraction", none), "is_fraction", "is_fraction", defArgs st_is_fraction, defBody st_is_fraction, defScope st_is_fraction, [], []⟩
def Dare_fractions : He.DefD := ⟨("are_fractions", none), "are_fractions", "are_fractions", defArgs st_are_fractions, defBody st_are_fractions, defScope st_are_fractions, [], []⟩
def Dis_side : He.DefD := ⟨("is_side", none), "is_side", "is_side", defArgs st_is_side, defBody st_is_side, defScope st_is_side, [], []⟩
def Dis_field : He.DefD := ⟨("is_field", none), "is_field", "is_field", defArgs st_is_field, defBody st_is_field, defScope st_is_field, [], []⟩
def Dcheck_field : He.DefD := ⟨("check_field", none), "check_field", "check_field", defArgs st_check_field, defBody st_check_field, defScope st_check_field, [], []⟩
def Dholds : He.DefD := ⟨("holds", none), "holds", "holds", defArgs st_holds, defBody st_holds, defScope st_holds, [], []⟩
def Dfoot : He.DefD := ⟨("foot", none), "foot", "foot", defArgs st_foot, defBody st_foot, defScope st_foot, [], []⟩
def Dfoot_spots : He.DefD := ⟨("foot_spots", none), "foot_spots", "foot_spots", defArgs st_foot_spots, defBody st_foot_spots, defScope st_foot_spots, [], []⟩
def Dcrossing : He.DefD := ⟨("crossing", none), "crossing", "crossing", defArgs st_crossing, defBody st_crossing, defScope st_crossing, [], []⟩
def Dcorner_spots : He.DefD := ⟨("corner_spots", none), "corner_spots", "corner_spots", defArgs st_corner_spots, defBody st_corner_spots, defScope st_corner_spots, [], []⟩
def Dsquare_between : He.DefD := ⟨("square_between", none), "square_between", "square_between", defArgs st_square_between, defBody st_square_between, defScope st_square_between, [], []⟩
def Dnearest_spot : He.DefD := ⟨("nearest_spot", none), "nearest_spot", "nearest_spot", defArgs st_nearest_spot, defBody st_nearest_spot, defScope st_nearest_spot, [], []⟩
def Dholds_nothing : He.DefD := ⟨("holds_nothing", none), "holds_nothing", "holds_nothing", defArgs st_holds_nothing, defBody st_holds_nothing, defScope st_holds_nothing, [], []⟩
def Dwhole_sides : He.DefD := ⟨("whole_sides", none), "whole_sides", "whole_sides", defArgs st_whole_sides, defBody st_whole_sides, defScope st_whole_sides, [], []⟩
def Dcheck_not_empty : He.DefD := ⟨("check_not_empty", none), "check_not_empty", "check_not_empty", defArgs st_check_not_empty, defBody st_check_not_empty, defScope st_check_not_empty, [], []⟩
def Dis_told_by_one : He.DefD := ⟨("is_told_by_one", none), "is_told_by_one", "is_told_by_one", defArgs st_is_told_by_one, defBody st_is_told_by_one, defScope st_is_told_by_one, [], []⟩
def Dis_told_by_two : He.DefD := ⟨("is_told_by_two", none), "is_told_by_two", "is_told_by_two", defArgs st_is_told_by_two, defBody st_is_told_by_two, defScope st_is_told_by_two, [], []⟩
def Dis_told : He.DefD := ⟨("is_told", none), "is_told", "is_told", defArgs st_is_told, defBody st_is_told, defScope st_is_told, [], []⟩
def Dlies_within : He.DefD := ⟨("lies_within", none), "lies_within", "lies_within", defArgs st_lies_within, defBody st_lies_within, defScope st_lies_within, [], []⟩
def D_law_take : He.DefD := ⟨("_law_take", none), "_law_take", "_law_take", defArgs st__law_take, defBody st__law_take, defScope st__law_take, [], []⟩
def D_law_one_of : He.DefD := ⟨("_law_one_of", none), "_law_one_of", "_law_one_of", defArgs st__law_one_of, defBody st__law_one_of, defScope st__law_one_of, [], []⟩
def D_law_gcd : He.DefD := ⟨("_law_gcd", none), "_law_gcd", "_law_gcd", defArgs st__law_gcd, defBody st__law_gcd, defScope st__law_gcd, [], []⟩
def D_law_ratio : He.DefD := ⟨("_law_ratio", none), "_law_ratio", "_law_ratio", defArgs st__law_ratio, defBody st__law_ratio, defScope st__law_ratio, [], []⟩
def D_law_plus : He.DefD := ⟨("_law_plus", none), "_law_plus", "_law_plus", defArgs st__law_plus, defBody st__law_plus, defScope st__law_plus, [], []⟩
def D_law_times : He.DefD := ⟨("_law_times", none), "_law_times", "_law_times", defArgs st__law_times, defBody st__law_times, defScope st__law_times, [], []⟩
def D_law_number : He.DefD := ⟨("_law_number", none), "_law_number", "_law_number", defArgs st__law_number, defBody st__law_number, defScope st__law_number, [], []⟩
def D_law_line : He.DefD := ⟨("_law_line", none), "_law_line", "_law_line", defArgs st__law_line, defBody st__law_line, defScope st__law_line, [], []⟩
def D_law_point : He.DefD := ⟨("_law_point", none), "_law_point", "_law_point", defArgs st__law_point, defBody st__law_point, defScope st__law_point, [], []⟩
def D_law_holds : He.DefD := ⟨("_law_holds", none), "_law_holds", "_law_holds", defArgs st__law_holds, defBody st__law_holds, defScope st__law_holds, [], []⟩
def D_law_edge : He.DefD := ⟨("_law_edge", none), "_law_edge", "_law_edge", defArgs st__law_edge, defBody st__law_edge, defScope st__law_edge, [], []⟩
def D_law_land : He.DefD := ⟨("_law_land", none), "_law_land", "_law_land", defArgs st__law_land, defBody st__law_land, defScope st__law_land, [], []⟩
def D_law_in : He.DefD := ⟨("_law_in", none), "_law_in", "_law_in", defArgs st__law_in, defBody st__law_in, defScope st__law_in, [], []⟩
def D_law_spot : He.DefD := ⟨("_law_spot", none), "_law_spot", "_law_spot", defArgs st__law_spot, defBody st__law_spot, defScope st__law_spot, [], []⟩
def D_law_follows : He.DefD := ⟨("_law_follows", none), "_law_follows", "_law_follows", defArgs st__law_follows, defBody st__law_follows, defScope st__law_follows, [], []⟩
def D_law_inside : He.DefD := ⟨("_law_inside", none), "_law_inside", "_law_inside", defArgs st__law_inside, defBody st__law_inside, defScope st__law_inside, [], []⟩
def D_law_around : He.DefD := ⟨("_law_around", none), "_law_around", "_law_around", defArgs st__law_around, defBody st__law_around, defScope st__law_around, [], []⟩
def D_law_right : He.DefD := ⟨("_law_right", none), "_law_right", "_law_right", defArgs st__law_right, defBody st__law_right, defScope st__law_right, [], []⟩
def D_law_well : He.DefD := ⟨("_law_well", none), "_law_well", "_law_well", defArgs st__law_well, defBody st__law_well, defScope st__law_well, [], []⟩
def Dlaw : He.DefD := ⟨("law", none), "law", "law", defArgs st_law, defBody st_law, defScope st_law, [], []⟩
def fn0 : List He.DefD := [Dratio, Dat_most, Dcommon_scale, Dscaled, Dis_whole, Dis_tuple_of, Dis_fraction, Dare_fractions, Dis_side, Dis_field, Dcheck_field, Dholds, Dfoot, Dfoot_spots, Dcrossing, Dcorner_spots, Dsquare_between, Dnearest_spot, Dholds_nothing, Dwhole_sides, Dcheck_not_empty, Dis_told_by_one, Dis_told_by_two, Dis_told, Dlies_within, D_law_take, D_law_one_of, D_law_gcd, D_law_ratio, D_law_plus]
def fn1 : List He.DefD := [D_law_times, D_law_number, D_law_line, D_law_point, D_law_holds, D_law_edge, D_law_land, D_law_in, D_law_spot, D_law_follows, D_law_inside, D_law_around, D_law_right, D_law_well, Dlaw]
def fn : List He.DefD := fn0 ++ fn1
def fa0 : List He.Fa := [.glo "ratio", .glo "at_most", .glo "common_scale", .glo "scaled", .glo "is_whole", .glo "is_tuple_of", .glo "is_fraction", .glo "are_fractions", .glo "is_side", .glo "is_field", .glo "check_field", .glo "holds", .glo "foot", .glo "foot_spots", .glo "crossing", .glo "corner_spots", .glo "square_between", .glo "nearest_spot", .glo "holds_nothing", .glo "whole_sides", .glo "check_not_empty", .glo "is_told_by_one", .glo "is_told_by_two", .glo "is_told", .glo "lies_within", .glo "_law_take", .glo "_law_one_of", .glo "_law_gcd", .glo "_law_ratio", .glo "_law_plus"]
def fa1 : List He.Fa := [.glo "_law_times", .glo "_law_number", .glo "_law_line", .glo "_law_point", .glo "_law_holds", .glo "_law_edge", .glo "_law_land", .glo "_law_in", .glo "_law_spot", .glo "_law_follows", .glo "_law_inside", .glo "_law_around", .glo "_law_right", .glo "_law_well", .glo "law", .free "abs", .free "all", .free "any", .free "divmod", .free "int", .free "len", .free "list", .free "max", .free "min", .free "range", .free "repr", .free "tuple", .free "type"]
def fa : List He.Fa := fa0 ++ fa1
def im0 : List (Str × Value) := [("combinations", .type "itertools.combinations"), ("gcd", .builtin "math.gcd"), ("lcm", .builtin "math.lcm")]
def im : List (Str × Value) := im0
def loose0 : List Str := ["__name__", "MeanError", "InvalidField", "EmptyField", "ratio", "at_most", "common_scale", "scaled", "is_whole", "is_tuple_of", "is_fraction", "are_fractions", "is_side", "is_field", "check_field", "check_not_empty", "whole_sides", "holds", "crossing", "corner_spots", "foot", "foot_spots", "square_between", "nearest_spot", "holds_nothing", "is_told_by_one", "is_told_by_two", "is_told", "lies_within", "_law_well"]
def loose1 : List Str := ["_law_take", "_law_one_of", "_law_gcd", "_law_ratio", "_law_plus", "_law_times", "_law_number", "_law_line", "_law_point", "_law_holds", "_law_edge", "_law_land", "_law_in", "_law_spot", "_law_follows", "_law_inside", "_law_around", "_law_right"]
def loose : List Str := loose0 ++ loose1
abbrev RR : PySem.W.OpenRow := PySem.W.OpenLaw.row PySem.Challenge.rw_steermeans_k11_whole_fields_within_field
abbrev hk : PySem.W.Hook := hookI 5 im fa fn
def ob (s : PySem.W.SharedT) : AlI := obsGI 5 im fa fn (HandSHeadRun.getT s)
theorem ob_eq (s : PySem.W.SharedT) : ob s = hk.obs s.abs := obsGI_eq (HandSHeadRun.getT_eq s)
theorem run (w : World) : HandSHeadRun.RunEqI RR (PySem.W.view RR.prog [0, 1, 54]) hk ob 6000 loose w := by
  unfold HandSHeadRun.RunEqI
  kernel_rfl

end My
namespace Mi
open PySem PySem.Spec PyProof.Rows L2

/-! ### a def's promise where no text is being shown (guards empty) -/
structure FnG (P : Program) (w : World) (K : PySem.W.Frag) (mg : Str → Option Value) (base : Heap)
    (CX : CXT) (k : Nat) (f : Addr) (fd : FuncData) (ps : List Str) (sp : Sp) : Prop where
  len : ∀ vs H Q E, sp vs H Q E → vs.length = ps.length
  run : ∀ (A : Around) (outer : List PySem.Env) (s : Shared) (H : Hp) (args : Args) (us : List Value)
    (vs : List V) (Q : VK) (E : XK), Room k A → A.guards = some [] →
    Env0 P w K mg base A outer s H → BindsTo s fd args (ps.zip us) → Vals vs us → sp vs H Q E →
    codeAny (model P w) A (.call (.ref f) args) (CR CX outer P w H s Q E) s

section
variable {P : Program} {w : World} {K : PySem.W.Frag} {mg : Str → Option Value} {base : Heap} {CX : CXT}
variable {x qual : Str} {params : Arguments} {body : List Stmt} {scope : Scope} {dvs : List V}
variable {kws : List (Str × V)} {f : Addr} {fd : FuncData} {N ps : List Str} {k : Nat} {sp : Sp}

theorem FnG.mono {j : Nat} (F : FnG P w K mg base CX j f fd ps sp) (h : j ≤ k) :
    FnG P w K mg base CX k f fd ps sp :=
  ⟨F.len, fun A o s H a us vs Q E hr => F.run A o s H a us vs Q E (hr.mono h)⟩

/-- a def by its body -/
theorem okG (F : FunD K x qual params body scope dvs kws f fd) (S : FnScope N ps scope)
    (len : ∀ vs H Q E, sp vs H Q E → vs.length = ps.length)
    (hbody : ∀ (cdv : Value) (A : Around) (outer : List PySem.Env) (s : Shared) (H : Hp) (vs : List V)
      (Q : VK) (E : XK), Room k (A.deeper (envOfC qual scope s.heap.objs.size f cdv)) →
      A.guards = some [] → sp vs H Q E →
      ∃ t, PSs (cxOf CX P w K mg base N qual scope f cdv A outer s H E) body t ∧
        t { nx := fun _ H' => Q .non H', rt := Q } (start N vs) H) :
    FnG P w K mg base CX (k + 1) f fd ps sp := by
  obtain ⟨oc, od, dV, kV, doc, pm, an, cdv, ct, osl, rfl, lk, hcd, _, _⟩ := F.ex
  constructor
  · exact len
  intro A outer s H args us vs Q E hr hg e0 hb r hsp
  have lenv : vs.length = ps.length := len vs H Q E hsp
  have inh : K.In s.heap := e0.mod.kin.keeps (fun b o z => (e0.bs b o z).1)
  have nol : s.heap.NoLimit := e0.mod.nolimit.keeps (fun b o z => (e0.bs b o z).1)
  have kinds : ∀ y ∈ ps.zip us, scope.names.lookup y.1 = some .local ∨
      (scope.names.lookup y.1 = some .cell ∧
        ((cellsFrom (s.heap.objs.size + 1) scope.names []).lookup y.1).isSome = true) := by
    rintro ⟨n, v⟩ hy
    have hin := (List.of_mem_zip hy).1
    cases S.par n hin with
    | inl q => exact Or.inl q
    | inr q => exact Or.inr ⟨q, PySem.W.cellsFrom_some _ _ _ (Or.inl q)⟩
  refine codeAny_call_function hr.depth (inh _ _ lk) rfl S.co S.gen rfl
    (PySem.W.codeRec_of inh hcd) (hb _ _ _ _ ?_)
  refine wpAny_newFunctionEnv_cells S.kind kinds ?_
  rintro env rfl s1 y
  refine ⟨nol.keeps y.toInCall.keep, ?_⟩
  apply codeAny_func
  obtain ⟨t, ht, hq⟩ := hbody cdv A outer s H vs Q E (hr.deeper _) hg hsp
  have I := inv_start (CX := CX) (E := E) (H := H) S hr.hd e0 lenv r y
  refine wpAny_mono (ht.run [] s1 (start N vs) H _ I hq) ?_ (fun e s' z => z)
  intro fl s' hs
  cases fl with
  | ret u =>
    obtain ⟨v, σ', H', J, rv, q⟩ := hs
    exact ⟨v, H', J.os, J.bare, J.base, J.hok, rv, q⟩
  | next =>
    obtain ⟨σ', H', J, q⟩ := hs
    exact ⟨V.non, H', J.os, J.bare, J.base, J.hok, rfl, q⟩
  | brk =>
    obtain ⟨_, _, _, q⟩ := hs
    exact q.elim
  | cont =>
    obtain ⟨_, _, _, q⟩ := hs
    exact q.elim
end

section
variable {X : Cx} {CX : CXT} {k : Nat} {f : Addr} {fd : FuncData} {ps ks : List Str} {sp : Sp} {E : XK} {x : Str}
variable {p pos : Pos} {e : Expr} {es : List Expr} {kws : List Keyword} {t tk : TA}
variable {g : List Value → List Value → List Value} {gV : List V → List V → List V}

theorem runG {pins : List (Addr × Obj)} {σ : L2.St} {H : Hp} {s : Shared} {Q : VK} {us : List Value} {vs : List V}
    (F : FnG X.prog X.w X.K X.mg X.base CX k f fd ps sp) (hr : Room k X.A) (hg : X.A.guards = some [])
    (hb : Binds X.K fd ps []) (hx : Passes CX X E) (I : Inv X pins σ H s) (r : Vals vs us) (h : sp vs H Q E) :
    wpAny (model X.prog X.w) X.A (call (.ref f) us) (EP X pins σ Q) X.xe s := by
  have l1 : us.length = ps.length := by rw [← r.length]; exact F.len vs H Q E h
  have bt := hb s us I.kIn (by simpa using l1)
  rw [List.append_nil] at bt
  apply wpAny_call
  refine codeAny_mono (F.run X.A X.stack s H ⟨us, []⟩ us vs Q E hr hg I.env0 bt r h) ?_
  intro r' s' hq
  cases r' with
  | error e => exact hx pins σ H s e s' I hq
  | ok fl =>
    cases fl with
    | ret u => exact I.after hq
    | next => exact hq.elim
    | brk => exact hq.elim
    | cont => exact hq.elim

theorem runGK {pins : List (Addr × Obj)} {σ : L2.St} {H : Hp} {s : Shared} {Q : VK} {us ws : List Value} {vs zs : List V}
    (F : FnG X.prog X.w X.K X.mg X.base CX k f fd ps sp) (hr : Room k X.A) (hg : X.A.guards = some [])
    (hb : KBinds X.K fd ps ks g gV) (hx : Passes CX X E) (I : Inv X pins σ H s) (r : Vals vs us) (rz : Vals zs ws)
    (h : sp (gV vs zs) H Q E) :
    wpAny (model X.prog X.w) X.A (call (.ref f) us (ks.zip ws)) (EP X pins σ Q) X.xe s := by
  have r2 := hb.rel r rz
  have l1 : (g us ws).length = ps.length := by rw [← r2.length]; exact F.len _ _ _ _ h
  apply wpAny_call
  refine codeAny_mono (F.run X.A X.stack s H ⟨us, ks.zip ws⟩ (g us ws) (gV vs zs) Q E hr hg I.env0
    (hb.to s us ws I.kIn l1) r2 h) ?_
  intro r' s' hq
  cases r' with
  | error e => exact hx pins σ H s e s' I hq
  | ok fl =>
    cases fl with
    | ret u => exact I.after hq
    | next => exact hq.elim
    | brk => exact hq.elim
    | cont => exact hq.elim

/-- f(e, ..) -/
theorem callG (F : FnG X.prog X.w X.K X.mg X.base CX k f fd ps sp) (hr : Room k X.A) (hgd : X.A.guards = some [])
    (hg : Gl X x) (hm : X.mg x = some (.ref f)) (hk : PySem.W.keepIn X.K (.ref f) = true) (hb : Binds X.K fd ps [])
    (hx : Passes CX X E) (ha : PA X (e :: es) t) (hdb : (x == ("__debug__" : Str)) = false := by decide)
    (he : starEach (e :: es) X.env = (false, eval e X.env) :: starEach es X.env := by rfl)
    (hpl : (backTo pos (starEach es X.env)).any (·.1) = false := by rfl) :
    PE X (.Call (.Name x p) (e :: es) [] pos) (tCall sp [] E t) := by
  constructor
  intro pins s σ H Q I h
  apply wpAny_Call_Name_kw
  apply ld_glob I hg hm _ hdb
  refine PySem.W.callWith_K (h₀ := X.base) I.ok.mod.kin hk ?_ he hpl
  refine thn (ha.run pos pins s σ H _ I h) ?_
  rintro us s1 ⟨vs, H1, I1, r, q⟩
  rw [List.append_nil] at q
  exact ⟨I1.kIn, runG F hr hgd hb hx I1 r q⟩

/-- f() -/
theorem callG0 (F : FnG X.prog X.w X.K X.mg X.base CX k f fd ps sp) (hr : Room k X.A) (hgd : X.A.guards = some [])
    (hg : Gl X x) (hm : X.mg x = some (.ref f)) (hk : PySem.W.keepIn X.K (.ref f) = true) (hb : Binds X.K fd ps [])
    (hx : Passes CX X E) (hdb : (x == ("__debug__" : Str)) = false := by decide) :
    PE X (.Call (.Name x p) [] [] pos) (tCall sp [] E tNil) := by
  constructor
  intro pins s σ H Q I h
  apply wpAny_Call_Name_kw
  apply ld_glob I hg hm _ hdb
  exact PySem.W.callWith_K0 I.kIn hk (runG (us := []) F hr hgd hb hx I .nil h)

/-- f(e, .., k = v, ..) -/
theorem callGK (F : FnG X.prog X.w X.K X.mg X.base CX k f fd ps sp) (hr : Room k X.A) (hgd : X.A.guards = some [])
    (hg : Gl X x) (hm : X.mg x = some (.ref f)) (hk : PySem.W.keepIn X.K (.ref f) = true) (hb : KBinds X.K fd ps ks g gV)
    (hx : Passes CX X E) (ha : PA X (e :: es) t) (hkw : PK X kws tk)
    (hall : (backToKw pos (keywordEach kws X.env)).all (·.1.isSome) = true := by rfl)
    (hks : (backToKw pos (keywordEach kws X.env)).filterMap (·.1) = ks := by rfl)
    (hdb : (x == ("__debug__" : Str)) = false := by decide)
    (he : starEach (e :: es) X.env = (false, eval e X.env) :: starEach es X.env := by rfl)
    (hpl : ((backTo pos (starEach (e :: es) X.env)).any (·.1) ||
      (backToKw pos (keywordEach kws X.env)).any (·.1.isNone)) = false := by rfl) :
    PE X (.Call (.Name x p) (e :: es) kws pos) (tCallK sp gV E t tk) := by
  constructor
  intro pins s σ H Q I h
  apply wpAny_Call_Name_kw
  apply ld_glob I hg hm _ hdb
  refine PySem.W.callWith_KW (h₀ := X.base) I.ok.mod.kin hk hall ?_ hpl he
  refine thn (ha.run pos pins s σ H _ I h) ?_
  rintro us s1 ⟨vs, H1, I1, r, q⟩
  refine thn (hkw.run pos pins s1 σ H1 _ I1 q) ?_
  rintro ws s2 ⟨zs, H2, I2, rz, q2⟩
  refine ⟨I2.kIn, ?_⟩
  rw [hks]
  exact runGK F hr hgd hb hx I2 r rz q2
end
end Mi
namespace Mi
open PySem PySem.Spec PyProof.Rows L2

/-! ### plain data held by the abstract heap -/
abbrev D := PyData
abbrev Ws := List Int
/-- what a name holds: data; a list of the def's own that may still grow; the well -/
inductive Cl where
  | val (t : D)
  | own (ts : List D)
  | well
abbrev Rho := List (Option Cl)

def keyR : D → Key → Prop
  | .int i, k => k = .inl i
  | .str s, k => k = .inr s
  | _, _ => False
mutual
/-- v is t; none of its objects is one of B, those that may change -/
def Rp (H : Hp) (B : Addr → Prop) : D → V → Prop
  | .none, v => v = .non
  | .bool b, v => v = .bl b
  | .int i, v => v = .int i
  | .str s, v => v = .str s
  | .list ts, v => ∃ a vs, v = .ref a ∧ ¬ B a ∧ H a = some (.lst vs) ∧ RpL H B ts vs
  | .tuple ts, v => ∃ a vs, v = .ref a ∧ ¬ B a ∧ H a = some (.tup vs) ∧ RpL H B ts vs
  | .dict kvs, v => ∃ a ks, v = .ref a ∧ ¬ B a ∧ H a = some (.dK ks) ∧ RpD H B kvs ks
def RpL (H : Hp) (B : Addr → Prop) : List D → List V → Prop
  | [], vs => vs = []
  | t :: ts, vs => ∃ v r, vs = v :: r ∧ Rp H B t v ∧ RpL H B ts r
def RpD (H : Hp) (B : Addr → Prop) : List (D × D) → List (Key × V) → Prop
  | [], ks => ks = []
  | e :: r, ks => ∃ k v q, ks = (k, v) :: q ∧ keyR e.1 k ∧ Rp H B e.2 v ∧ RpD H B r q
end

/-- what is known and not to change stays, and is not to change -/
def Mv (H : Hp) (B : Addr → Prop) (H' : Hp) (B' : Addr → Prop) : Prop := ∀ a o, H a = some o → ¬ B a → H' a = some o ∧ ¬ B' a
mutual
theorem Rp.mv {H H' : Hp} {B B' : Addr → Prop} (m : Mv H B H' B') : ∀ {t : D} {v : V}, Rp H B t v → Rp H' B' t v
  | .none, _, h => by simpa [Rp] using h
  | .bool _, _, h => by simpa [Rp] using h
  | .int _, _, h => by simpa [Rp] using h
  | .str _, _, h => by simpa [Rp] using h
  | .list ts, _, h => by
    simp only [Rp] at h ⊢
    obtain ⟨a, vs, e, nb, ha, r⟩ := h
    exact ⟨a, vs, e, (m a _ ha nb).2, (m a _ ha nb).1, RpL.mv m r⟩
  | .tuple ts, _, h => by
    simp only [Rp] at h ⊢
    obtain ⟨a, vs, e, nb, ha, r⟩ := h
    exact ⟨a, vs, e, (m a _ ha nb).2, (m a _ ha nb).1, RpL.mv m r⟩
  | .dict ts, _, h => by
    simp only [Rp] at h ⊢
    obtain ⟨a, vs, e, nb, ha, r⟩ := h
    exact ⟨a, vs, e, (m a _ ha nb).2, (m a _ ha nb).1, RpD.mv m r⟩
theorem RpL.mv {H H' : Hp} {B B' : Addr → Prop} (m : Mv H B H' B') : ∀ {t : List D} {v : List V}, RpL H B t v → RpL H' B' t v
  | [], _, h => by simpa [RpL] using h
  | t :: ts, _, h => by
    simp only [RpL] at h ⊢
    obtain ⟨v, r, e, h1, h2⟩ := h
    exact ⟨v, r, e, Rp.mv m h1, RpL.mv m h2⟩
theorem RpD.mv {H H' : Hp} {B B' : Addr → Prop} (m : Mv H B H' B') : ∀ {t : List (D × D)} {v : List (Key × V)}, RpD H B t v → RpD H' B' t v
  | [], _, h => by simpa [RpD] using h
  | (k, t) :: ts, _, h => by
    simp only [RpD] at h ⊢
    obtain ⟨k', v, r, e, h0, h1, h2⟩ := h
    exact ⟨k', v, r, e, h0, Rp.mv m h1, RpD.mv m h2⟩
end

section
variable {H H' : Hp} {B B' : Addr → Prop} {ts us : List D} {vs ws : List V} {t : D} {v : V}
theorem rpl_nil : RpL H B [] [] := by simp [RpL]
theorem rpl_cons (h : Rp H B t v) (hr : RpL H B ts vs) : RpL H B (t :: ts) (v :: vs) := by
  simp only [RpL]; exact ⟨v, vs, rfl, h, hr⟩
theorem RpL.nil_inv (h : RpL H B [] vs) : vs = [] := by simpa [RpL] using h
theorem RpL.cons_inv (h : RpL H B (t :: ts) vs) : ∃ v r, vs = v :: r ∧ Rp H B t v ∧ RpL H B ts r := by simpa [RpL] using h
theorem RpL.len : ∀ {ts : List D} {vs : List V}, RpL H B ts vs → ts.length = vs.length
  | [], _, h => by simp [h.nil_inv]
  | _ :: _, _, h => by
    obtain ⟨v, r, rfl, _, h2⟩ := h.cons_inv
    simp [h2.len]
theorem RpL.get : ∀ {ts : List D} {vs : List V} {i : Nat} {t : D}, RpL H B ts vs → ts[i]? = some t → ∃ v, vs[i]? = some v ∧ Rp H B t v
  | [], _, _, _, _, e => by simp at e
  | _ :: _, _, 0, _, h, e => by
    obtain ⟨v, r, rfl, h1, h2⟩ := h.cons_inv
    simp at e
    subst e
    exact ⟨v, rfl, h1⟩
  | _ :: _, _, i + 1, _, h, e => by
    obtain ⟨v, r, rfl, h1, h2⟩ := h.cons_inv
    simpa using h2.get (by simpa using e)
theorem RpL.getV : ∀ {ts : List D} {vs : List V} {i : Nat} {v : V}, RpL H B ts vs → vs[i]? = some v → ∃ t, ts[i]? = some t ∧ Rp H B t v
  | [], _, _, _, h, e => by rw [h.nil_inv] at e; simp at e
  | t :: _, _, 0, _, h, e => by
    obtain ⟨v, r, rfl, h1, h2⟩ := h.cons_inv
    simp at e
    subst e
    exact ⟨t, rfl, h1⟩
  | _ :: _, _, i + 1, _, h, e => by
    obtain ⟨v, r, rfl, h1, h2⟩ := h.cons_inv
    simpa using h2.getV (by simpa using e)
theorem RpL.app : ∀ {ts us : List D} {vs ws : List V}, RpL H B ts vs → RpL H B us ws → RpL H B (ts ++ us) (vs ++ ws)
  | [], _, _, _, h, g => by rw [h.nil_inv]; exact g
  | _ :: _, _, _, _, h, g => by
    obtain ⟨v, r, rfl, h1, h2⟩ := h.cons_inv
    exact rpl_cons h1 (h2.app g)
theorem RpL.take : ∀ {ts : List D} {vs : List V} (n : Nat), RpL H B ts vs → RpL H B (ts.take n) (vs.take n)
  | [], _, n, h => by rw [h.nil_inv]; simp [RpL]
  | _ :: _, _, 0, _ => by simp [RpL]
  | _ :: _, _, n + 1, h => by
    obtain ⟨v, r, rfl, h1, h2⟩ := h.cons_inv
    exact rpl_cons h1 (h2.take n)
theorem RpL.drop : ∀ {ts : List D} {vs : List V} (n : Nat), RpL H B ts vs → RpL H B (ts.drop n) (vs.drop n)
  | [], _, n, h => by rw [h.nil_inv]; simp [RpL]
  | _ :: _, _, 0, h => h
  | _ :: _, _, n + 1, h => by
    obtain ⟨v, r, rfl, h1, h2⟩ := h.cons_inv
    simpa using h2.drop n
theorem RpL.rep (h : RpL H B ts vs) : ∀ n : Nat, RpL H B (List.replicate n ts).flatten (List.replicate n vs).flatten
  | 0 => by simp [RpL]
  | n + 1 => by
    rw [List.replicate_succ, List.replicate_succ, List.flatten_cons, List.flatten_cons]
    exact h.app (h.rep n)
theorem RpL.rev : ∀ {ts : List D} {vs : List V}, RpL H B ts vs → RpL H B ts.reverse vs.reverse
  | [], _, h => by rw [h.nil_inv]; simp [RpL]
  | _ :: _, _, h => by
    obtain ⟨v, r, rfl, h1, h2⟩ := h.cons_inv
    rw [List.reverse_cons, List.reverse_cons]
    exact h2.rev.app (rpl_cons h1 rpl_nil)
theorem RpL.set : ∀ {ts : List D} {vs : List V} (n : Nat), RpL H B ts vs → Rp H B t v → RpL H B (ts.set n t) (vs.set n v)
  | [], _, n, h, _ => by rw [h.nil_inv]; simp [RpL]
  | _ :: _, _, 0, h, g => by
    obtain ⟨v, r, rfl, h1, h2⟩ := h.cons_inv
    exact rpl_cons g h2
  | _ :: _, _, n + 1, h, g => by
    obtain ⟨v, r, rfl, h1, h2⟩ := h.cons_inv
    exact rpl_cons h1 (h2.set n g)
theorem rpl_ints : ∀ {ns : List Int} {vs : List V}, RpL H B (ns.map PyData.int) vs → vs = ns.map V.int
  | [], _, h => h.nil_inv
  | _ :: _, _, h => by
    obtain ⟨v, r, rfl, h1, h2⟩ := h.cons_inv
    rw [rpl_ints h2, show v = V.int _ from by simpa [Rp] using h1]
    rfl
theorem rpl_of_ints : ∀ {ns : List Int}, RpL H B (ns.map PyData.int) (ns.map V.int)
  | [] => rpl_nil
  | _ :: _ => rpl_cons (by simp [Rp]) rpl_of_ints
theorem rpl_bools : ∀ {ns : List Bool} {vs : List V}, RpL H B (ns.map PyData.bool) vs → vs = ns.map V.bl
  | [], _, h => h.nil_inv
  | _ :: _, _, h => by
    obtain ⟨v, r, rfl, h1, h2⟩ := h.cons_inv
    rw [rpl_bools h2, show v = V.bl _ from by simpa [Rp] using h1]
    rfl
end

/-! ### the state of a frame -/
def CellR (aw : Option Addr) (B : Addr → Prop) (H : Hp) : Cl → Option (Option V) → Prop
  | .val t, o => ∃ v, o = some (some v) ∧ Rp H B t v
  | .own ts, o => ∃ a vs, o = some (some (.ref a)) ∧ B a ∧ aw ≠ some a ∧ H a = some (.lst vs) ∧ RpL H B ts vs
  | .well, o => ∃ a, o = some (some (.ref a)) ∧ aw = some a
/-- the heap's own part: what may change is there; the well holds w -/
structure Ok (aw : Option Addr) (B : Addr → Prop) (w : Ws) (H : Hp) : Prop where
  dom : ∀ a, B a → H a ≠ none
  wl : ∀ a, aw = some a → B a ∧ H a = some (.lst (w.map .int))
structure R (aw : Option Addr) (B : Addr → Prop) (ρ : Rho) (w : Ws) (σ : L2.St) (H : Hp) : Prop extends Ok aw B w H where
  len : ρ.length ≤ σ.length
  cell : ∀ (i : Nat) (c : Cl), ρ[i]? = some (some c) → CellR aw B H c σ[i]?
/-- nothing changes but the well -/
def Stp (aw : Option Addr) (H H' : Hp) (w' : Ws) : Prop :=
  (∀ a o, H a = some o → aw ≠ some a → H' a = some o) ∧ ∀ a, aw = some a → H' a = some (.lst (w'.map .int))

section
variable {aw : Option Addr} {B : Addr → Prop} {ρ : Rho} {w w1 w2 : Ws} {σ : L2.St} {H H1 H2 : Hp} {t : D} {v : V}
theorem Ok.stp (o : Ok aw B w H) : Stp aw H H w := ⟨fun _ _ h _ => h, fun a e => (o.wl a e).2⟩
theorem Stp.trans (a : Stp aw H H1 w1) (b : Stp aw H1 H2 w2) : Stp aw H H2 w2 := ⟨fun x o h n => b.1 x o (a.1 x o h n) n, b.2⟩
theorem Ok.ne (o : Ok aw B w H) {a : Addr} (h : ¬ B a) : aw ≠ some a := fun e => h (o.wl a e).1
theorem Ok.mv (o : Ok aw B w H) (s : Stp aw H H1 w1) : Mv H B H1 B := fun a u h n => ⟨s.1 a u h (o.ne n), n⟩
theorem Ok.step (o : Ok aw B w H) (s : Stp aw H H1 w1) : Ok aw B w1 H1 where
  dom := fun a h => by
    cases q : H a with
    | none => exact absurd q (o.dom a h)
    | some u =>
      by_cases e : aw = some a
      · rw [s.2 a e]; exact fun z => nomatch z
      · rw [s.1 a u q e]; exact fun z => nomatch z
  wl := fun a e => ⟨(o.wl a e).1, s.2 a e⟩
theorem CellR.step {c : Cl} {x : Option (Option V)} (o : Ok aw B w H) (s : Stp aw H H1 w1) (h : CellR aw B H c x) : CellR aw B H1 c x := by
  cases c with
  | val t =>
    obtain ⟨v, e, r⟩ := h
    exact ⟨v, e, r.mv (o.mv s)⟩
  | own ts =>
    obtain ⟨a, vs, e, b, n, ha, r⟩ := h
    exact ⟨a, vs, e, b, n, s.1 a _ ha n, r.mv (o.mv s)⟩
  | well => exact h
theorem R.step (r : R aw B ρ w σ H) (s : Stp aw H H1 w1) : R aw B ρ w1 σ H1 :=
  { r.toOk.step s with len := r.len, cell := fun i c e => (r.cell i c e).step r.toOk s }
theorem Ok.fresh (o : Ok aw B w H) {p : Addr} (h : H p = none) : ¬ B p := fun b => o.dom p b h
theorem Ok.new (o : Ok aw B w H) {p : Addr} {u : HO} (h : H p = none) : Stp aw H (upd H p u) w := by
  refine ⟨fun a x e _ => ?_, fun a e => ?_⟩
  · rw [upd_ne (ne_of_none e h)]; exact e
  · have q := (o.wl a e).2
    rw [upd_ne (ne_of_none q h)]; exact q
/-- what is read at the top may be a list of the def's own -/
def Rq (aw : Option Addr) (H : Hp) (B : Addr → Prop) (t : D) (v : V) : Prop :=
  Rp H B t v ∨ ∃ ts a vs, t = .list ts ∧ v = .ref a ∧ aw ≠ some a ∧ H a = some (.lst vs) ∧ RpL H B ts vs
theorem Rq.step (o : Ok aw B w H) (s : Stp aw H H1 w1) (h : Rq aw H B t v) : Rq aw H1 B t v := by
  rcases h with h | ⟨ts, a, vs, e1, e2, n, ha, r⟩
  · exact .inl (h.mv (o.mv s))
  · exact .inr ⟨ts, a, vs, e1, e2, n, s.1 a _ ha n, r.mv (o.mv s)⟩
def RqL (aw : Option Addr) (H : Hp) (B : Addr → Prop) : List D → List V → Prop
  | [], vs => vs = []
  | t :: ts, vs => ∃ v r, vs = v :: r ∧ Rq aw H B t v ∧ RqL aw H B ts r
theorem RqL.step (o : Ok aw B w H) (s : Stp aw H H1 w1) : ∀ {ts : List D} {vs : List V}, RqL aw H B ts vs → RqL aw H1 B ts vs
  | [], _, h => h
  | _ :: _, _, ⟨v, r, e, h1, h2⟩ => ⟨v, r, e, h1.step o s, h2.step o s⟩
/-- at the top: a list's or a tuple's items -/
theorem Rq.lst {ts : List D} (o : Ok aw B w H) (h : Rq aw H B (.list ts) v) : ∃ a vs, v = .ref a ∧ aw ≠ some a ∧ H a = some (.lst vs) ∧ RpL H B ts vs := by
  rcases h with h | ⟨us, a, vs, e1, e2, n, ha, r⟩
  · simp only [Rp] at h
    obtain ⟨a, vs, e, nb, ha, r⟩ := h
    exact ⟨a, vs, e, o.ne nb, ha, r⟩
  · cases e1
    exact ⟨a, vs, e2, n, ha, r⟩
theorem Rq.tup {ts : List D} (o : Ok aw B w H) (h : Rq aw H B (.tuple ts) v) : ∃ a vs, v = .ref a ∧ ¬ B a ∧ H a = some (.tup vs) ∧ RpL H B ts vs := by
  rcases h with h | ⟨us, a, vs, e1, e2, n, ha, r⟩
  · simpa only [Rp] using h
  · cases e1
theorem Rq.int {i : Int} (h : Rq aw H B (.int i) v) : v = .int i := by
  rcases h with h | ⟨us, a, vs, e1, _⟩
  · simpa only [Rp] using h
  · cases e1
theorem Rq.bl {i : Bool} (h : Rq aw H B (.bool i) v) : v = .bl i := by
  rcases h with h | ⟨us, a, vs, e1, _⟩
  · simpa only [Rp] using h
  · cases e1
theorem Rq.str {i : Str} (h : Rq aw H B (.str i) v) : v = .str i := by
  rcases h with h | ⟨us, a, vs, e1, _⟩
  · simpa only [Rp] using h
  · cases e1
theorem Rq.non (h : Rq aw H B .none v) : v = .non := by
  rcases h with h | ⟨us, a, vs, e1, _⟩
  · simpa only [Rp] using h
  · cases e1
end

/-! ### meanings, and the readings that they make -/
abbrev De := Rho → Ws → Option (D × Ws)
abbrev Dt := Rho → Ws → Option (Bool × Ws)
abbrev Da := Rho → Ws → Option (List D × Ws)
def tE (d : De) : TE := fun σ H Q => ∃ aw B ρ w t w', R aw B ρ w σ H ∧ d ρ w = some (t, w') ∧ ∀ v H', Stp aw H H' w' → Rp H' B t v → Q v H'
def tQ (d : De) : TE := fun σ H Q => ∃ aw B ρ w t w', R aw B ρ w σ H ∧ d ρ w = some (t, w') ∧ ∀ v H', Stp aw H H' w' → Rq aw H' B t v → Q v H'
/-- a new list -/
def tF (d : De) : TE := fun σ H Q => ∃ aw B ρ w ts w', R aw B ρ w σ H ∧ d ρ w = some (.list ts, w') ∧
  ∀ p vs H', Stp aw H H' w' → H p = none → H' p = some (.lst vs) → RpL H' (fun a => B a ∨ a = p) ts vs → Q (.ref p) H'
def tT (d : Dt) : TT := fun σ H Q => ∃ aw B ρ w t w', R aw B ρ w σ H ∧ d ρ w = some (t, w') ∧ ∀ H', Stp aw H H' w' → Q t H'
def tA (d : Da) : TA := fun σ H Q => ∃ aw B ρ w ts w', R aw B ρ w σ H ∧ d ρ w = some (ts, w') ∧ ∀ vs H', Stp aw H H' w' → RpL H' B ts vs → Q vs H'
def tAQ (d : Da) : TA := fun σ H Q => ∃ aw B ρ w ts w', R aw B ρ w σ H ∧ d ρ w = some (ts, w') ∧ ∀ vs H', Stp aw H H' w' → RqL aw H' B ts vs → Q vs H'

section
variable {X : Cx} {e : Expr} {es : List Expr} {t t' : TE} {d : De}
theorem PE.weak (h : PE X e t) (k : ∀ σ H Q, t' σ H Q → t σ H Q) : PE X e t' := ⟨fun pins s σ H Q I q => h.run pins s σ H Q I (k σ H Q q)⟩
theorem PT.weak {t t' : TT} (h : PT X e t) (k : ∀ σ H Q, t' σ H Q → t σ H Q) : PT X e t' := ⟨fun pins s σ H Q I q => h.run pins s σ H Q I (k σ H Q q)⟩
theorem PW.weak {t t' : TT} (h : PW X e t) (k : ∀ σ H Q, t' σ H Q → t σ H Q) : PW X e t' := ⟨fun wh pins s σ H Q I q => h.run wh pins s σ H Q I (k σ H Q q)⟩
theorem PA.weak {t t' : TA} (h : PA X es t) (k : ∀ σ H Q, t' σ H Q → t σ H Q) : PA X es t' := ⟨fun pos pins s σ H Q I q => h.run pos pins s σ H Q I (k σ H Q q)⟩
theorem PK.weak {kws : List Keyword} {t t' : TA} (h : PK X kws t) (k : ∀ σ H Q, t' σ H Q → t σ H Q) : PK X kws t' := ⟨fun pos pins s σ H Q I q => h.run pos pins s σ H Q I (k σ H Q q)⟩
theorem PS.weak {st : Stmt} {t t' : TS} (h : PS X st t) (k : ∀ D σ H, t' D σ H → t D σ H) : PS X st t' := ⟨fun pins s σ H D I q => h.run pins s σ H D I (k D σ H q)⟩
theorem PSs.weak {st : List Stmt} {t t' : TS} (h : PSs X st t) (k : ∀ D σ H, t' D σ H → t D σ H) : PSs X st t' := ⟨fun pins s σ H D I q => h.run pins s σ H D I (k D σ H q)⟩
theorem PG.weak {t t' : TG} (h : PG X e t) (k : ∀ v σ H Q, t' v σ H Q → t v σ H Q) : PG X e t' := ⟨fun pins s σ H v u Q I r q => h.run pins s σ H v u Q I r (k v σ H Q q)⟩
theorem PGs.weak {t t' : TGs} (h : PGs X es t) (k : ∀ v σ H Q, t' v σ H Q → t v σ H Q) : PGs X es t' := ⟨fun pins s σ H v u Q I r q => h.run pins s σ H v u Q I r (k v σ H Q q)⟩
theorem PI.weak {tg : Expr} {t t' : TI} (h : PI X tg e t) (k : ∀ σ H Q, t' σ H Q → t σ H Q) : PI X tg e t' := ⟨fun pins s σ H Q I q => h.run pins s σ H Q I (k σ H Q q)⟩
theorem toQ (h : PE X e (tE d)) : PE X e (tQ d) := PE.weak h fun σ H Q ⟨aw, B, ρ, w, t, w', r, q, k⟩ => ⟨aw, B, ρ, w, t, w', r, q, fun v H' s h => k v H' s (.inl h)⟩
/-- a new list, as a value -/
theorem ofF (h : PE X e (tF d)) (hl : ∀ ρ w t w', d ρ w = some (t, w') → ∃ ts, t = .list ts) : PE X e (tE d) := PE.weak h fun σ H Q ⟨aw, B, ρ, w, t, w', r, q, k⟩ => by
  obtain ⟨ts, rfl⟩ := hl _ _ _ _ q
  refine ⟨aw, B, ρ, w, ts, w', r, q, fun p vs H' s hp hp' rl => k _ H' s ?_⟩
  simp only [Rp]
  exact ⟨p, vs, rfl, r.toOk.fresh hp, hp', rl.mv fun a o h1 h2 => ⟨h1, fun b => h2 (.inl b)⟩⟩
end
end Mi
namespace Mi
open PySem PySem.Spec PyProof.Rows L2

/-! ### operations by values -/
abbrev Bx (B : Addr → Prop) (p : Addr) : Addr → Prop := fun a => B a ∨ a = p
def OpS (X : Cx) (f : Value → Value → Sem Value) (g : D → D → Option D) : Prop :=
  ∃ r : R2, OpR X f r ∧ ∀ (aw : Option Addr) (B : Addr → Prop) (w : Ws) (H : Hp) (a b c : D) (x y : V) (Q : VK),
    Ok aw B w H → Rq aw H B a x → Rq aw H B b y → g a b = some c → (∀ v H', Stp aw H H' w → Rp H' B c v → Q v H') → r x y H Q
/-- a new list comes out -/
def OpF (X : Cx) (f : Value → Value → Sem Value) (g : D → D → Option (List D)) : Prop :=
  ∃ r : R2, OpR X f r ∧ ∀ (aw : Option Addr) (B : Addr → Prop) (w : Ws) (H : Hp) (a b : D) (c : List D) (x y : V) (Q : VK),
    Ok aw B w H → Rq aw H B a x → Rq aw H B b y → g a b = some c →
    (∀ p vs H', Stp aw H H' w → H p = none → H' p = some (.lst vs) → RpL H' (Bx B p) c vs → Q (.ref p) H') → r x y H Q

theorem OpS.or {X : Cx} {f : Value → Value → Sem Value} {g g' : D → D → Option D} (h : OpS X f g) (h' : OpS X f g') : OpS X f (fun a b => (g a b).or (g' a b)) := by
  obtain ⟨r, h1, h2⟩ := h
  obtain ⟨r', h1', h2'⟩ := h'
  refine ⟨_, OpR.or h1 h1', fun aw B w H a b c x y Q o ha hb e k => ?_⟩
  cases q : g a b with
  | some z =>
    have e' : some z = some c := by simpa [q] using e
    exact .inl (h2 aw B w H a b c x y Q o ha hb (q.trans e') k)
  | none => exact .inr (h2' aw B w H a b c x y Q o ha hb (by simpa [q] using e) k)
theorem OpF.opS {X : Cx} {f : Value → Value → Sem Value} {g : D → D → Option (List D)} (h : OpF X f g) : OpS X f (fun a b => (g a b).map .list) := by
  obtain ⟨r, h1, h2⟩ := h
  refine ⟨r, h1, fun aw B w H a b c x y Q o ha hb e k => ?_⟩
  obtain ⟨ts, e1, rfl⟩ := Option.map_eq_some_iff.mp e
  refine h2 aw B w H a b ts x y Q o ha hb e1 fun p vs H' s hp hp' rl => k _ _ s ?_
  simp only [Rp]
  exact ⟨p, vs, rfl, o.fresh hp, hp', rl.mv fun a u h1 h2 => ⟨h1, fun b => h2 (.inl b)⟩⟩

/-- ints in -/
def gI (C : Int → Int → Bool) (g : Int → Int → D) : D → D → Option D
  | .int i, .int j => if C i j then some (g i j) else none
  | _, _ => none
theorem opsI {X : Cx} {f : Value → Value → Sem Value} {C : Int → Int → Prop} {c : Int → Int → Bool} {g : Int → Int → V} {g' : Int → Int → D} (h : OpR X f (rI C g)) (hc : ∀ i j, c i j = true → C i j)
    (hg : ∀ i j H B, Rp H B (g' i j) (g i j)) : OpS X f (gI c g') := by
  refine ⟨_, h, fun aw B w H a b z x y Q o ha hb e k => ?_⟩
  unfold gI at e
  split at e
  · split at e
    · cases e
      exact ⟨_, _, ha.int, hb.int, hc _ _ ‹_›, k _ _ o.stp (hg _ _ _ _)⟩
    · cases e
  · cases e
theorem opsI0 {X : Cx} {f : Value → Value → Sem Value} {g : Int → Int → V} {g' : Int → Int → D} (h : OpR X f (rI0 g))
    (hg : ∀ i j H B, Rp H B (g' i j) (g i j)) : OpS X f (gI (fun _ _ => true) g') := by
  refine ⟨_, h, fun aw B w H a b z x y Q o ha hb e k => ?_⟩
  unfold gI at e
  split at e
  · rw [if_pos rfl] at e
    cases e
    exact ⟨_, _, ha.int, hb.int, k _ _ o.stp (hg _ _ _ _)⟩
  · cases e
theorem rp_int {H : Hp} {B : Addr → Prop} {i : Int} : Rp H B (.int i) (.int i) := by simp [Rp]
theorem rp_bl {H : Hp} {B : Addr → Prop} {i : Bool} : Rp H B (.bool i) (.bl i) := by simp [Rp]
theorem rp_non {H : Hp} {B : Addr → Prop} : Rp H B .none .non := by simp [Rp]
theorem rp_str {H : Hp} {B : Addr → Prop} {i : Str} : Rp H B (.str i) (.str i) := by simp [Rp]

theorem sz_le {n : Nat} (h : n ≤ 100000) : n ≤ sizeLine := Nat.le_trans h (by decide)
theorem sz_lt {n : Nat} (h : n ≤ 100000) : n < sizeLine := Nat.lt_of_le_of_lt h (by decide)

/-! #### + -/
def gCatL : D → D → Option (List D)
  | .list xs, .list ys => if xs.length + ys.length ≤ 100000 then some (xs ++ ys) else none
  | _, _ => none
def gCatT : D → D → Option D
  | .tuple xs, .tuple ys => if xs.length + ys.length ≤ 100000 then some (.tuple (xs ++ ys)) else none
  | _, _ => none
section
variable {X : Cx}
theorem opf_cat : OpF X (binaryOp .Add) gCatL := by
  refine ⟨_, op_cat, fun aw B w H a b c x y Q o ha hb e k => ?_⟩
  unfold gCatL at e
  split at e
  · rename_i xs ys
    split at e
    · cases e
      obtain ⟨p, vs, rfl, n1, h1, r1⟩ := ha.lst o
      obtain ⟨q, ws, rfl, n2, h2, r2⟩ := hb.lst o
      refine ⟨p, q, vs, ws, rfl, rfl, h1, h2, by rw [← r1.len, ← r2.len]; exact sz_le ‹_›, fun z hz => ?_⟩
      have s := o.new (u := .lst (vs ++ ws)) hz
      refine k z _ _ s hz upd_same ?_
      exact (r1.app r2).mv fun a u h n => ⟨s.1 a u h (o.ne n), fun t => t.elim n fun t => by subst t; rw [hz] at h; cases h⟩
    · cases e
  · cases e
theorem ops_catT : OpS X (binaryOp .Add) gCatT := by
  refine ⟨_, op_catA, fun aw B w H a b c x y Q o ha hb e k => ?_⟩
  unfold gCatT at e
  split at e
  · rename_i xs ys
    split at e
    · cases e
      obtain ⟨p, vs, rfl, n1, h1, r1⟩ := ha.tup o
      obtain ⟨q, ws, rfl, n2, h2, r2⟩ := hb.tup o
      refine ⟨p, q, vs, ws, rfl, rfl, SqT.of h1, SqT.of h2, by rw [← r1.len, ← r2.len]; exact sz_le ‹_›, fun e => ?_, fun e1 e2 => ?_, fun e1 e2 z hz => ?_⟩
      · subst e
        have : xs = [] := List.eq_nil_of_length_eq_zero (by simpa using r1.len)
        subst this
        refine k _ _ o.stp ?_
        simp only [Rp]
        exact ⟨q, ws, rfl, n2, h2, r2⟩
      · subst e2
        have : ys = [] := List.eq_nil_of_length_eq_zero (by simpa using r2.len)
        subst this
        refine k _ _ o.stp ?_
        simp only [Rp, List.append_nil]
        exact ⟨p, vs, rfl, n1, h1, r1⟩
      · have s := o.new (u := .tup (vs ++ ws)) hz
        refine k _ _ s ?_
        simp only [Rp]
        exact ⟨z, _, rfl, o.fresh hz, upd_same, (r1.app r2).mv (o.mv s)⟩
    · cases e
  · cases e
def gAdd : D → D → Option D := fun a b => (gI (fun _ _ => true) (fun i j => .int (i + j)) a b).or (((gCatL a b).map .list).or (gCatT a b))
theorem ops_add : OpS X (binaryOp .Add) gAdd := (opsI0 op_add fun _ _ _ _ => rp_int).or (opf_cat.opS.or ops_catT)
def gSub : D → D → Option D := gI (fun _ _ => true) fun i j => .int (i - j)
theorem ops_sub : OpS X (binaryOp .Sub) gSub := opsI0 op_sub fun _ _ _ _ => rp_int

/-! #### * -/
def mulOk (i j : Int) : Bool := decide (i.natAbs.log2 + j.natAbs.log2 < 1000000)
def gRepL : D → D → Option (List D)
  | .list xs, .int k => if decide (-(2 ^ 62) ≤ k ∧ k < 2 ^ 62 ∧ xs.length * k.toNat ≤ 100000) then some (List.replicate k.toNat xs).flatten else none
  | _, _ => none
def gRepT : D → D → Option D
  | .tuple xs, .int k => if decide (xs ≠ [] ∧ 2 ≤ k ∧ k ≤ 1000 ∧ xs.length ≤ 1000) then some (.tuple (List.replicate k.toNat xs).flatten) else none
  | _, _ => none
theorem opf_rep : OpF X (binaryOp .Mult) gRepL := by
  refine ⟨_, op_rep, fun aw B w H a b c x y Q o ha hb e k => ?_⟩
  unfold gRepL at e
  split at e
  · rename_i xs j
    split at e
    · rename_i hc
      cases e
      obtain ⟨c1, c2, c3⟩ := of_decide_eq_true hc
      obtain ⟨p, vs, rfl, n1, h1, r1⟩ := ha.lst o
      refine ⟨p, j, vs, rfl, hb.int, h1, by omega, by omega, by rw [← r1.len]; exact sz_le c3, fun z hz => ?_⟩
      have s := o.new (u := .lst (List.replicate j.toNat vs).flatten) hz
      refine k z _ _ s hz upd_same ?_
      exact (r1.rep _).mv fun a u h n => ⟨s.1 a u h (o.ne n), fun t => t.elim n fun t => by subst t; rw [hz] at h; cases h⟩
    · cases e
  · cases e
theorem ops_repT : OpS X (binaryOp .Mult) gRepT := by
  refine ⟨_, op_repT, fun aw B w H a b c x y Q o ha hb e k => ?_⟩
  unfold gRepT at e
  split at e
  · rename_i xs j
    split at e
    · rename_i hc
      cases e
      obtain ⟨c1, c2, c3, c4⟩ := of_decide_eq_true hc
      obtain ⟨p, vs, rfl, n1, h1, r1⟩ := ha.tup o
      refine ⟨p, j, vs, rfl, hb.int, SqT.of h1, fun z => c1 (List.eq_nil_of_length_eq_zero (by rw [r1.len, z]; rfl)), c2, c3, by rw [← r1.len]; exact c4, fun z hz => ?_⟩
      have s := o.new (u := .tup (List.replicate j.toNat vs).flatten) hz
      refine k _ _ s ?_
      simp only [Rp]
      exact ⟨z, _, rfl, o.fresh hz, upd_same, (r1.rep _).mv (o.mv s)⟩
    · cases e
  · cases e
def gMul : D → D → Option D := fun a b => (gI mulOk (fun i j => .int (i * j)) a b).or (((gRepL a b).map .list).or (gRepT a b))
theorem ops_mul : OpS X (binaryOp .Mult) gMul := (opsI op_mulW (fun i j h => show i.natAbs.log2 + j.natAbs.log2 < 1000000 from of_decide_eq_true h) fun _ _ _ _ => rp_int).or (opf_rep.opS.or ops_repT)

/-! #### //, %, ** -/
def divOk (i j : Int) : Bool := decide (0 < j ∧ j.natAbs.log2 < 9000)
def gFdiv : D → D → Option D := gI divOk fun i j => .int (i / j)
theorem ops_fdiv : OpS X (binaryOp .FloorDiv) gFdiv := opsI op_fdivW (fun i j h => show 0 < j ∧ j.natAbs.log2 < 9000 from of_decide_eq_true h) fun _ _ _ _ => rp_int
def gMod : D → D → Option D := gI (fun _ j => decide (0 < j)) fun i j => .int (i % j)
theorem ops_mod : OpS X (binaryOp .Mod) gMod := opsI op_mod (fun _ _ h => of_decide_eq_true h) fun _ _ _ _ => rp_int
def powOk (i j : Int) : Bool := decide (0 ≤ j ∧ j ≤ 1000000 ∧ i.natAbs < 2 ^ 64)
def gPow : D → D → Option D := gI powOk fun i j => .int (i ^ j.toNat)
theorem ops_pow : OpS X (binaryOp .Pow) gPow := opsI op_pow (fun i j h => show 0 ≤ j ∧ j ≤ 1000000 ∧ i.natAbs < 2 ^ 64 from of_decide_eq_true h) fun _ _ _ _ => rp_int

/-! #### comparisons -/
def gLt : D → D → Option D := gI (fun _ _ => true) fun i j => .bool (decide (i < j))
def gLe : D → D → Option D := gI (fun _ _ => true) fun i j => .bool (decide (i ≤ j))
def gGt : D → D → Option D := gI (fun _ _ => true) fun i j => .bool (decide (j < i))
def gGe : D → D → Option D := gI (fun _ _ => true) fun i j => .bool (decide (j ≤ i))
theorem ops_lt : OpS X (compareOp .Lt) gLt := opsI0 op_lt fun _ _ _ _ => rp_bl
theorem ops_le : OpS X (compareOp .LtE) gLe := opsI0 op_le fun _ _ _ _ => rp_bl
theorem ops_gt : OpS X (compareOp .Gt) gGt := opsI0 op_gt fun _ _ _ _ => rp_bl
theorem ops_ge : OpS X (compareOp .GtE) gGe := opsI0 op_ge fun _ _ _ _ => rp_bl
/-- is None -/
def isN : D → Bool
  | .none => true
  | _ => false
def gIsN : D → D → Option D
  | a, .none => some (.bool (isN a))
  | _, _ => none
def gNotN : D → D → Option D
  | a, .none => some (.bool (!isN a))
  | _, _ => none
theorem Rq.isNon {aw : Option Addr} {H : Hp} {B : Addr → Prop} {a : D} {x : V} (h : Rq aw H B a x) : decide (x = .non) = isN a := by
  rcases h with h | ⟨ts, p, vs, rfl, rfl, _⟩
  · cases a with
    | none => simp only [Rp] at h; subst h; rfl
    | bool b => simp only [Rp] at h; subst h; rfl
    | int b => simp only [Rp] at h; subst h; rfl
    | str b => simp only [Rp] at h; subst h; rfl
    | list b => simp only [Rp] at h; obtain ⟨_, _, rfl, _⟩ := h; rfl
    | tuple b => simp only [Rp] at h; obtain ⟨_, _, rfl, _⟩ := h; rfl
    | dict b => simp only [Rp] at h; obtain ⟨_, _, rfl, _⟩ := h; rfl
  · rfl
theorem ops_isN : OpS X (compareOp .Is) gIsN := by
  refine ⟨_, op_isN, fun aw B w H a b c x y Q o ha hb e k => ?_⟩
  unfold gIsN at e
  split at e
  · cases e
    refine ⟨hb.non, ?_⟩
    rw [ha.isNon]
    exact k _ _ o.stp rp_bl
  · cases e
theorem ops_notN : OpS X (compareOp .IsNot) gNotN := by
  refine ⟨_, op_notN, fun aw B w H a b c x y Q o ha hb e k => ?_⟩
  unfold gNotN at e
  split at e
  · cases e
    refine ⟨hb.non, ?_⟩
    rw [ha.isNon]
    exact k _ _ o.stp rp_bl
  · cases e

/-! #### ==, != -/
mutual
theorem Rp.dp {K : PySem.W.Frag} {H : Hp} {B : Addr → Prop} : ∀ {t : D} {v : V}, t.hasDict = false → Rp H B t v → Dp K H v t
  | .none, _, _, h => by simp only [Rp] at h; subst h; exact .non
  | .bool _, _, _, h => by simp only [Rp] at h; subst h; exact .bl _
  | .int _, _, _, h => by simp only [Rp] at h; subst h; exact .int _
  | .str _, _, _, h => by simp only [Rp] at h; subst h; exact .str _
  | .list ts, _, n, h => by
    simp only [Rp] at h
    obtain ⟨a, vs, rfl, _, ha, r⟩ := h
    exact .lst (SqL.of ha) (RpL.dp (by simpa [PyData.hasDict] using n) r)
  | .tuple ts, _, n, h => by
    simp only [Rp] at h
    obtain ⟨a, vs, rfl, _, ha, r⟩ := h
    exact .tup (SqT.of ha) (RpL.dp (by simpa [PyData.hasDict] using n) r)
  | .dict _, _, n, _ => by simp [PyData.hasDict] at n
theorem RpL.dp {K : PySem.W.Frag} {H : Hp} {B : Addr → Prop} : ∀ {t : List D} {v : List V}, PyData.hasDictAll t = false → RpL H B t v → DpAll K H v t
  | [], _, _, h => by rw [h.nil_inv]; exact .nil
  | t :: ts, _, n, h => by
    obtain ⟨v, r, rfl, h1, h2⟩ := h.cons_inv
    simp only [PyData.hasDictAll, Bool.or_eq_false_iff] at n
    exact .cons (Rp.dp n.1 h1) (RpL.dp n.2 h2)
end
theorem Rq.dp {K : PySem.W.Frag} {aw : Option Addr} {H : Hp} {B : Addr → Prop} {t : D} {v : V} (h : Rq aw H B t v) (n : t.hasDict = false) : Dp K H v t := by
  rcases h with h | ⟨ts, p, vs, rfl, rfl, _, ha, r⟩
  · exact h.dp n
  · exact .lst (SqL.of ha) (RpL.dp (by simpa [PyData.hasDict] using n) r)
/-- lists of unlike length: told without a look at the items -/
def rLens : Bool → R2 := fun neg x y H Q => ∃ a b xs ys, x = .ref a ∧ y = .ref b ∧ H a = some (.lst xs) ∧ H b = some (.lst ys) ∧ xs.length ≠ ys.length ∧ Q (.bl neg) H
end
end Mi
namespace Mi
open PySem PySem.Spec PyProof.Rows L2
section
variable {X : Cx}

/-! #### ==, != -/
theorem op_eqLen (hu : X.A.units + 64 < cLine) : OpR X (compareOp .Eq) (rLens false) := by
  intro pins s σ H x y v u Q I rx ry h
  obtain ⟨a, b, xs, ys, rfl, rfl, ha, hb, n, q⟩ := h
  cases rx
  cases ry
  obtain ⟨i1, r1, p1, _⟩ := I.list (SqL.of ha)
  obtain ⟨i2, r2, p2, _⟩ := I.list (SqL.of hb)
  have l1 := r1.length
  have l2 := r2.length
  exact PySem.SeqAt.eq_list_lengthsAt p1.isList p2.isList (by simpa using (by omega : i1.length ≠ i2.length)) (by omega) ⟨.bl false, H, I, rfl, q⟩
theorem op_neLen (hu : X.A.units + 64 < cLine) : OpR X (compareOp .NotEq) (rLens true) := by
  intro pins s σ H x y v u Q I rx ry h
  obtain ⟨a, b, xs, ys, rfl, rfl, ha, hb, n, q⟩ := h
  cases rx
  cases ry
  obtain ⟨i1, r1, p1, _⟩ := I.list (SqL.of ha)
  obtain ⟨i2, r2, p2, _⟩ := I.list (SqL.of hb)
  have l1 := r1.length
  have l2 := r2.length
  exact PySem.SeqAt.RcNeAt.lists_lengths p1.isList p2.isList (by simpa using (by omega : i1.length ≠ i2.length)) (by omega) _ _ _ _ ⟨.bl true, H, I, rfl, q⟩
/-- data that == looks through -/
def flat (d : D) : Bool := !d.hasDict && SeqAt.shaped d
def gLens (neg : Bool) : D → D → Option D
  | .list xs, .list ys => if xs.length ≠ ys.length then some (.bool neg) else none
  | _, _ => none
def gEqD (neg : Bool) : D → D → Option D := fun a b => if flat a && flat b then some (.bool (neg ^^ PyData.eqv a b)) else none
def gEq : D → D → Option D := fun a b => (gLens false a b).or (gEqD false a b)
def gNe : D → D → Option D := fun a b => (gLens true a b).or (gEqD true a b)
theorem flat_of {a b : D} (h : (flat a && flat b) = true) : (a.hasDict = false ∧ b.hasDict = false) ∧ SeqAt.shaped a = true ∧ SeqAt.shaped b = true := by
  simp only [flat, Bool.and_eq_true, Bool.not_eq_true'] at h
  exact ⟨⟨h.1.1, h.2.1⟩, h.1.2, h.2.2⟩
theorem ops_lens {neg : Bool} {f : Value → Value → Sem Value} (h : OpR X f (rLens neg)) : OpS X f (gLens neg) := by
  refine ⟨_, h, fun aw B w H a b c x y Q o ha hb e k => ?_⟩
  unfold gLens at e
  split at e
  · split at e
    · cases e
      obtain ⟨p, vs, rfl, n1, h1, r1⟩ := ha.lst o
      obtain ⟨q, ws, rfl, n2, h2, r2⟩ := hb.lst o
      exact ⟨p, q, vs, ws, rfl, rfl, h1, h2, by rw [← r1.len, ← r2.len]; assumption, k _ _ o.stp rp_bl⟩
    · cases e
  · cases e
theorem ops_eq (hu : X.A.units + 64 < cLine) : OpS X (compareOp .Eq) gEq := by
  refine (ops_lens (op_eqLen hu)).or ⟨_, op_eqD hu, fun aw B w H a b c x y Q o ha hb e k => ?_⟩
  unfold gEqD at e
  split at e
  · rename_i hf
    cases e
    obtain ⟨⟨n1, n2⟩, s1, s2⟩ := flat_of hf
    exact ⟨a, b, ha.dp n1, hb.dp n2, s1, s2, k _ _ o.stp (by rw [Bool.false_xor]; exact rp_bl)⟩
  · cases e
theorem ops_ne (hu : X.A.units + 64 < cLine) : OpS X (compareOp .NotEq) gNe := by
  refine (ops_lens (op_neLen hu)).or ⟨_, op_neD hu, fun aw B w H a b c x y Q o ha hb e k => ?_⟩
  unfold gEqD at e
  split at e
  · rename_i hf
    cases e
    obtain ⟨⟨n1, n2⟩, s1, s2⟩ := flat_of hf
    exact ⟨a, b, ha.dp n1, hb.dp n2, s1, s2, k _ _ o.stp (by rw [Bool.true_xor]; exact rp_bl)⟩
  · cases e

/-! #### calls of built-ins -/
def CaS (X : Cx) (f : Value) (g : List D → Option D) : Prop :=
  ∃ r : List V → Hp → VK → Prop, CallR X f r ∧ ∀ (aw : Option Addr) (B : Addr → Prop) (w : Ws) (H : Hp) (ts : List D) (c : D) (xs : List V) (Q : VK),
    Ok aw B w H → RqL aw H B ts xs → g ts = some c → (∀ v H', Stp aw H H' w → Rp H' B c v → Q v H') → r xs H Q
def CaF (X : Cx) (f : Value) (g : List D → Option (List D)) : Prop :=
  ∃ r : List V → Hp → VK → Prop, CallR X f r ∧ ∀ (aw : Option Addr) (B : Addr → Prop) (w : Ws) (H : Hp) (ts c : List D) (xs : List V) (Q : VK),
    Ok aw B w H → RqL aw H B ts xs → g ts = some c →
    (∀ p vs H', Stp aw H H' w → H p = none → H' p = some (.lst vs) → RpL H' (Bx B p) c vs → Q (.ref p) H') → r xs H Q
theorem CallR.or {f : Value} {r r' : List V → Hp → VK → Prop} (h : CallR X f r) (h' : CallR X f r') : CallR X f (fun xs H Q => r xs H Q ∨ r' xs H Q) := by
  intro pins s σ H xs us Q I r q
  rcases q with q | q
  · exact h pins s σ H xs us Q I r q
  · exact h' pins s σ H xs us Q I r q
theorem CaS.or {f : Value} {g g' : List D → Option D} (h : CaS X f g) (h' : CaS X f g') : CaS X f (fun a => (g a).or (g' a)) := by
  obtain ⟨r, h1, h2⟩ := h
  obtain ⟨r', h1', h2'⟩ := h'
  refine ⟨_, CallR.or h1 h1', fun aw B w H ts c xs Q o ha e k => ?_⟩
  cases q : g ts with
  | some z =>
    have e' : some z = some c := by simpa [q] using e
    exact .inl (h2 aw B w H ts c xs Q o ha (q.trans e') k)
  | none => exact .inr (h2' aw B w H ts c xs Q o ha (by simpa [q] using e) k)
theorem CaF.caS {f : Value} {g : List D → Option (List D)} (h : CaF X f g) : CaS X f (fun a => (g a).map .list) := by
  obtain ⟨r, h1, h2⟩ := h
  refine ⟨r, h1, fun aw B w H ts c xs Q o ha e k => ?_⟩
  obtain ⟨us, e1, rfl⟩ := Option.map_eq_some_iff.mp e
  refine h2 aw B w H ts us xs Q o ha e1 fun p vs H' s hp hp' rl => k _ _ s ?_
  simp only [Rp]
  exact ⟨p, vs, rfl, o.fresh hp, hp', rl.mv fun a u h1 h2 => ⟨h1, fun b => h2 (.inl b)⟩⟩
section
variable {aw : Option Addr} {B : Addr → Prop} {H : Hp} {t u : D} {xs : List V}
theorem RqL.one (h : RqL aw H B [t] xs) : ∃ x, xs = [x] ∧ Rq aw H B t x := by
  obtain ⟨v, r, e, h1, h2⟩ := h
  exact ⟨v, by rw [e, show r = [] from h2], h1⟩
theorem RqL.two (h : RqL aw H B [t, u] xs) : ∃ x y, xs = [x, y] ∧ Rq aw H B t x ∧ Rq aw H B u y := by
  obtain ⟨v, r, e, h1, h2⟩ := h
  obtain ⟨y, e2, h3⟩ := RqL.one h2
  exact ⟨v, y, by rw [e, e2], h1, h3⟩
end
def gLen : List D → Option D
  | [.list xs] => some (.int xs.length)
  | [.tuple xs] => some (.int xs.length)
  | _ => none
theorem cas_len : CaS X (.builtin "len") gLen := by
  refine ⟨_, call_len_seq, fun aw B w H ts c xs Q o ha e k => ?_⟩
  unfold gLen at e
  split at e
  · cases e
    obtain ⟨x, rfl, hx⟩ := ha.one
    obtain ⟨p, vs, rfl, _, h1, r1⟩ := hx.lst o
    refine ⟨p, vs, rfl, .inl (SqL.of h1), ?_⟩
    rw [← r1.len]
    exact k _ _ o.stp rp_int
  · cases e
    obtain ⟨x, rfl, hx⟩ := ha.one
    obtain ⟨p, vs, rfl, _, h1, r1⟩ := hx.tup o
    refine ⟨p, vs, rfl, .inr (SqT.of h1), ?_⟩
    rw [← r1.len]
    exact k _ _ o.stp rp_int
  · cases e
def gTuple : List D → Option D
  | [.list xs] => some (.tuple xs)
  | [.tuple xs] => some (.tuple xs)
  | _ => none
theorem cas_tuple : CaS X (.type "tuple") gTuple := by
  refine ⟨_, call_tuple_of, fun aw B w H ts c xs Q o ha e k => ?_⟩
  unfold gTuple at e
  split at e
  · cases e
    obtain ⟨x, rfl, hx⟩ := ha.one
    obtain ⟨p, vs, rfl, _, h1, r1⟩ := hx.lst o
    refine ⟨p, vs, rfl, .inl ⟨SqL.of h1, fun z hz => ?_⟩⟩
    have s := o.new (u := .tup vs) hz
    refine k _ _ s ?_
    simp only [Rp]
    exact ⟨z, vs, rfl, o.fresh hz, upd_same, r1.mv (o.mv s)⟩
  · cases e
    obtain ⟨x, rfl, hx⟩ := ha.one
    obtain ⟨p, vs, rfl, n, h1, r1⟩ := hx.tup o
    refine ⟨p, vs, rfl, .inr ⟨SqT.of h1, k _ _ o.stp ?_⟩⟩
    simp only [Rp]
    exact ⟨p, vs, rfl, n, h1, r1⟩
  · cases e
def gList : List D → Option (List D)
  | [.list xs] => some xs
  | [.tuple xs] => some xs
  | _ => none
theorem caf_list : CaF X (.type "list") gList := by
  refine ⟨_, call_list_of, fun aw B w H ts c xs Q o ha e k => ?_⟩
  have go : ∀ (p : Addr) (vs : List V), RpL H B c vs → ∀ l, H l = none → Q (.ref l) (upd H l (.lst vs)) := fun p vs r1 l hl => by
    have s := o.new (u := .lst vs) hl
    exact k l _ _ s hl upd_same (r1.mv fun a u h n => ⟨s.1 a u h (o.ne n), fun t => t.elim n fun t => by subst t; rw [hl] at h; cases h⟩)
  unfold gList at e
  split at e
  · cases e
    obtain ⟨x, rfl, hx⟩ := ha.one
    obtain ⟨p, vs, rfl, _, h1, r1⟩ := hx.lst o
    exact ⟨p, vs, rfl, .inl (SqL.of h1), go p vs r1⟩
  · cases e
    obtain ⟨x, rfl, hx⟩ := ha.one
    obtain ⟨p, vs, rfl, _, h1, r1⟩ := hx.tup o
    exact ⟨p, vs, rfl, .inr (SqT.of h1), go p vs r1⟩
  · cases e
def asInt : D → Option Int
  | .int i => some i
  | _ => none
def asBool : D → Option Bool
  | .bool i => some i
  | _ => none
theorem map_asInt : ∀ {xs : List D} {ns : List Int}, xs.mapM asInt = some ns → xs = ns.map .int
  | [], _, h => by
    cases h
    rfl
  | x :: r, ns, h => by
    rw [List.mapM_cons] at h
    cases x with
    | int i =>
      cases q : r.mapM asInt with
      | none => rw [q] at h; cases h
      | some ms =>
        rw [q] at h
        cases h
        rw [List.map_cons, ← map_asInt q]
    | _ => cases h
theorem map_asBool : ∀ {xs : List D} {ns : List Bool}, xs.mapM asBool = some ns → xs = ns.map .bool
  | [], _, h => by
    cases h
    rfl
  | x :: r, ns, h => by
    rw [List.mapM_cons] at h
    cases x with
    | bool i =>
      cases q : r.mapM asBool with
      | none => rw [q] at h; cases h
      | some ms =>
        rw [q] at h
        cases h
        rw [List.map_cons, ← map_asBool q]
    | _ => cases h
def gSum : List D → Option D
  | [.list xs] => (xs.mapM asInt).map fun ns => .int ns.sum
  | _ => none
theorem cas_sum (hc : X.calm = true) : CaS X (.builtin "sum") gSum := by
  refine ⟨_, cr_sum hc, fun aw B w H ts c xs Q o ha e k => ?_⟩
  unfold gSum at e
  split at e
  · obtain ⟨ns, e1, rfl⟩ := Option.map_eq_some_iff.mp e
    have := map_asInt e1
    subst this
    obtain ⟨x, rfl, hx⟩ := ha.one
    obtain ⟨p, vs, rfl, _, h1, r1⟩ := hx.lst o
    have := rpl_ints r1
    subst this
    exact ⟨p, ns, rfl, SqL.of h1, k _ _ o.stp rp_int⟩
  · cases e
def gAll : List D → Option D
  | [.list xs] => (xs.mapM asBool).map fun ns => .bool (ns.all id)
  | _ => none
theorem cas_all (hc : X.calm = true) : CaS X (.builtin "all") gAll := by
  refine ⟨_, cr_all hc, fun aw B w H ts c xs Q o ha e k => ?_⟩
  unfold gAll at e
  split at e
  · obtain ⟨ns, e1, rfl⟩ := Option.map_eq_some_iff.mp e
    have := map_asBool e1
    subst this
    obtain ⟨x, rfl, hx⟩ := ha.one
    obtain ⟨p, vs, rfl, _, h1, r1⟩ := hx.lst o
    have := rpl_bools r1
    subst this
    exact ⟨p, ns, rfl, SqL.of h1, k _ _ o.stp rp_bl⟩
  · cases e
def gAny : List D → Option D
  | [.list xs] => (xs.mapM asBool).map fun ns => .bool (ns.any id)
  | _ => none
theorem cas_any (hc : X.calm = true) : CaS X (.builtin "any") gAny := by
  refine ⟨_, cr_any hc, fun aw B w H ts c xs Q o ha e k => ?_⟩
  unfold gAny at e
  split at e
  · obtain ⟨ns, e1, rfl⟩ := Option.map_eq_some_iff.mp e
    have := map_asBool e1
    subst this
    obtain ⟨x, rfl, hx⟩ := ha.one
    obtain ⟨p, vs, rfl, _, h1, r1⟩ := hx.lst o
    have := rpl_bools r1
    subst this
    exact ⟨p, ns, rfl, SqL.of h1, k _ _ o.stp rp_bl⟩
  · cases e
def maxI : List Int → Int
  | [] => 0
  | x :: r => r.foldl max x
def minI : List Int → Int
  | [] => 0
  | x :: r => r.foldl min x
theorem foldmax : ∀ (r : List Int) (x : Int), x ≤ r.foldl max x ∧ (∀ y ∈ r, y ≤ r.foldl max x) ∧ (r.foldl max x = x ∨ r.foldl max x ∈ r)
  | [], x => ⟨Int.le_refl _, by simp, .inl rfl⟩
  | y :: r, x => by
    obtain ⟨h1, h2, h3⟩ := foldmax r (max x y)
    refine ⟨?_, ?_, ?_⟩
    · show x ≤ r.foldl max (max x y); omega
    · intro z hz
      show z ≤ r.foldl max (max x y)
      rcases List.mem_cons.mp hz with rfl | hz
      · omega
      · exact h2 z hz
    · show r.foldl max (max x y) = x ∨ r.foldl max (max x y) ∈ y :: r
      rcases h3 with h3 | h3
      · rw [h3]
        by_cases q : x ≤ y
        · right; rw [Int.max_eq_right q]; simp
        · left; omega
      · exact .inr (List.mem_cons_of_mem _ h3)
theorem foldmin : ∀ (r : List Int) (x : Int), r.foldl min x ≤ x ∧ (∀ y ∈ r, r.foldl min x ≤ y) ∧ (r.foldl min x = x ∨ r.foldl min x ∈ r)
  | [], x => ⟨Int.le_refl _, by simp, .inl rfl⟩
  | y :: r, x => by
    obtain ⟨h1, h2, h3⟩ := foldmin r (min x y)
    refine ⟨?_, ?_, ?_⟩
    · show r.foldl min (min x y) ≤ x; omega
    · intro z hz
      show r.foldl min (min x y) ≤ z
      rcases List.mem_cons.mp hz with rfl | hz
      · omega
      · exact h2 z hz
    · show r.foldl min (min x y) = x ∨ r.foldl min (min x y) ∈ y :: r
      rcases h3 with h3 | h3
      · rw [h3]
        by_cases q : y ≤ x
        · right; rw [Int.min_eq_right q]; simp
        · left; omega
      · exact .inr (List.mem_cons_of_mem _ h3)
def gMax1 : List D → Option D
  | [.list xs] => (xs.mapM asInt).bind fun ns => if ns = [] then none else some (.int (maxI ns))
  | _ => none
def gMin1 : List D → Option D
  | [.list xs] => (xs.mapM asInt).bind fun ns => if ns = [] then none else some (.int (minI ns))
  | _ => none
def gMax2 : List D → Option D
  | [.int i, .int j] => some (.int (if j > i then j else i))
  | _ => none
def gMin2 : List D → Option D
  | [.int i, .int j] => some (.int (if j < i then j else i))
  | _ => none
theorem max_is {ns : List Int} (h : ns ≠ []) {m : Int} (h1 : m ∈ ns) (h2 : ∀ y ∈ ns, y ≤ m) : m = maxI ns := by
  cases ns with
  | nil => exact absurd rfl h
  | cons x r =>
    obtain ⟨a, b, c⟩ := foldmax r x
    show m = r.foldl max x
    have : r.foldl max x ≤ m := by
      rcases c with c | c
      · rw [c]; exact h2 x (by simp)
      · exact h2 _ (List.mem_cons_of_mem _ c)
    rcases List.mem_cons.mp h1 with rfl | h1
    · omega
    · have := b m h1; omega
theorem min_is {ns : List Int} (h : ns ≠ []) {m : Int} (h1 : m ∈ ns) (h2 : ∀ y ∈ ns, m ≤ y) : m = minI ns := by
  cases ns with
  | nil => exact absurd rfl h
  | cons x r =>
    obtain ⟨a, b, c⟩ := foldmin r x
    show m = r.foldl min x
    have : m ≤ r.foldl min x := by
      rcases c with c | c
      · rw [c]; exact h2 x (by simp)
      · exact h2 _ (List.mem_cons_of_mem _ c)
    rcases List.mem_cons.mp h1 with rfl | h1
    · omega
    · have := b m h1; omega
theorem cas_max1 (hc : X.calm = true) : CaS X (.builtin "max") gMax1 := by
  refine ⟨_, cr_max hc, fun aw B w H ts c xs Q o ha e k => ?_⟩
  unfold gMax1 at e
  split at e
  · obtain ⟨ns, e1, e2⟩ := Option.bind_eq_some_iff.mp e
    split at e2
    · cases e2
    · cases e2
      have := map_asInt e1
      subst this
      obtain ⟨x, rfl, hx⟩ := ha.one
      obtain ⟨p, vs, rfl, _, h1, r1⟩ := hx.lst o
      have := rpl_ints r1
      subst this
      refine ⟨p, ns, rfl, SqL.of h1, List.length_pos_iff.mpr ‹_›, fun m hm hy => ?_⟩
      rw [max_is ‹_› hm hy]
      exact k _ _ o.stp rp_int
  · cases e
theorem cas_min1 (hc : X.calm = true) : CaS X (.builtin "min") gMin1 := by
  refine ⟨_, cr_min hc, fun aw B w H ts c xs Q o ha e k => ?_⟩
  unfold gMin1 at e
  split at e
  · obtain ⟨ns, e1, e2⟩ := Option.bind_eq_some_iff.mp e
    split at e2
    · cases e2
    · cases e2
      have := map_asInt e1
      subst this
      obtain ⟨x, rfl, hx⟩ := ha.one
      obtain ⟨p, vs, rfl, _, h1, r1⟩ := hx.lst o
      have := rpl_ints r1
      subst this
      refine ⟨p, ns, rfl, SqL.of h1, List.length_pos_iff.mpr ‹_›, fun m hm hy => ?_⟩
      rw [min_is ‹_› hm hy]
      exact k _ _ o.stp rp_int
  · cases e
theorem cas_max2 (hc : X.calm = true) : CaS X (.builtin "max") gMax2 := by
  refine ⟨_, call_max2 hc, fun aw B w H ts c xs Q o ha e k => ?_⟩
  unfold gMax2 at e
  split at e
  · cases e
    obtain ⟨x, y, rfl, hx, hy⟩ := ha.two
    exact ⟨_, _, by rw [hx.int, hy.int], k _ _ o.stp rp_int⟩
  · cases e
theorem cas_min2 (hc : X.calm = true) : CaS X (.builtin "min") gMin2 := by
  refine ⟨_, call_min2 hc, fun aw B w H ts c xs Q o ha e k => ?_⟩
  unfold gMin2 at e
  split at e
  · cases e
    obtain ⟨x, y, rfl, hx, hy⟩ := ha.two
    exact ⟨_, _, by rw [hx.int, hy.int], k _ _ o.stp rp_int⟩
  · cases e
def gMax : List D → Option D := fun a => (gMax1 a).or (gMax2 a)
def gMin : List D → Option D := fun a => (gMin1 a).or (gMin2 a)
theorem cas_max (hc : X.calm = true) : CaS X (.builtin "max") gMax := (cas_max1 hc).or (cas_max2 hc)
theorem cas_min (hc : X.calm = true) : CaS X (.builtin "min") gMin := (cas_min1 hc).or (cas_min2 hc)
def gAbs : List D → Option D
  | [.int i] => some (.int (if i < 0 then -i else i))
  | _ => none
theorem cas_abs : CaS X (.builtin "abs") gAbs := by
  refine ⟨_, call_abs, fun aw B w H ts c xs Q o ha e k => ?_⟩
  unfold gAbs at e
  split at e
  · cases e
    obtain ⟨x, rfl, hx⟩ := ha.one
    exact ⟨_, by rw [hx.int], k _ _ o.stp rp_int⟩
  · cases e
def gInt : List D → Option D
  | [.int i] => some (.int i)
  | [.bool b] => some (.int (if b then 1 else 0))
  | _ => none
theorem cas_int : CaS X (.type "int") gInt := by
  refine ⟨_, call_int1, fun aw B w H ts c xs Q o ha e k => ?_⟩
  unfold gInt at e
  split at e
  · cases e
    obtain ⟨x, rfl, hx⟩ := ha.one
    exact .inl ⟨_, by rw [hx.int], k _ _ o.stp rp_int⟩
  · cases e
    obtain ⟨x, rfl, hx⟩ := ha.one
    exact .inr ⟨_, by rw [hx.bl], k _ _ o.stp rp_int⟩
  · cases e
def gStr : List D → Option D
  | [.int i] => if i.natAbs.log2 < 1920 then some (.str (toString i)) else none
  | _ => none
theorem cas_str : CaS X (.type "str") gStr := by
  refine ⟨_, call_str_int, fun aw B w H ts c xs Q o ha e k => ?_⟩
  unfold gStr at e
  split at e
  · split at e
    · cases e
      obtain ⟨x, rfl, hx⟩ := ha.one
      exact ⟨_, by rw [hx.int], ‹_›, k _ _ o.stp rp_str⟩
    · cases e
  · cases e
def gDivmod : List D → Option D
  | [.int i, .int j] => if divOk i j then some (.tuple [.int (i / j), .int (i % j)]) else none
  | _ => none
theorem cas_divmod : CaS X (.builtin "divmod") gDivmod := by
  refine ⟨_, call_divmodW, fun aw B w H ts c xs Q o ha e k => ?_⟩
  unfold gDivmod at e
  split at e
  · split at e
    · rename_i hd
      cases e
      obtain ⟨x, y, rfl, hx, hy⟩ := ha.two
      obtain ⟨d1, d2⟩ : 0 < _ ∧ _ < 9000 := of_decide_eq_true hd
      refine ⟨_, _, by rw [hx.int, hy.int], ⟨d1, PyProof.noPylong_of_log2 d2⟩, fun z hz => ?_⟩
      have s := o.new (u := .tup [.int (‹Int› / ‹Int›), .int (‹Int› % ‹Int›)]) hz
      refine k _ _ (o.new hz) ?_
      simp only [Rp]
      exact ⟨z, _, rfl, o.fresh hz, upd_same, rpl_cons rp_int (rpl_cons rp_int rpl_nil)⟩
    · cases e
  · cases e
def gGcd : List D → Option D
  | [.int a, .int b] => some (.int ((Nat.gcd a.natAbs b.natAbs : Nat) : Int))
  | _ => none
theorem cas_gcd : CaS X (.builtin "math.gcd") gGcd := by
  refine ⟨_, cr_gcd, fun aw B w H ts c xs Q o ha e k => ?_⟩
  unfold gGcd at e
  split at e
  · cases e
    obtain ⟨x, y, rfl, hx, hy⟩ := ha.two
    exact ⟨_, _, by rw [hx.int, hy.int], k _ _ o.stp rp_int⟩
  · cases e
end
end Mi
namespace Mi
open PySem PySem.Spec PyProof.Rows L2
section
variable {X : Cx}
/-! #### lcm, repr, isinstance, type .. is -/
def gLcm : List D → Option D
  | [.int a, .int b] => if a.natAbs.log2 < 13000 ∧ b.natAbs.log2 < 13000 ∧ (Nat.lcm a.natAbs b.natAbs).log2 < bitsLine then some (.int ((Nat.lcm a.natAbs b.natAbs : Nat) : Int)) else none
  | _ => none
theorem cas_lcm : CaS X (.builtin "math.lcm") gLcm := by
  refine ⟨fun vs H Q => ∃ a b : Int, vs = [.int a, .int b] ∧ (a.natAbs.log2 < 13000 ∧ b.natAbs.log2 < 13000 ∧ (Nat.lcm a.natAbs b.natAbs).log2 < bitsLine) ∧ Q (.int ((Nat.lcm a.natAbs b.natAbs : Nat) : Int)) H, ?_, fun aw B w H ts c xs Q o ha e k => ?_⟩
  · intro pins s σ H vs us Q I r h
    obtain ⟨a, b, rfl, ⟨h0, h1, h2⟩, q⟩ := h
    obtain ⟨u1, u2, rfl, ⟨t1, rfl⟩, ⟨t2, rfl⟩⟩ := vals2 r
    have e1 : (1 : Nat).lcm a.natAbs = a.natAbs := Nat.lcm_one_left _
    have q2 : EP X pins σ Q (.int ((((1 : Nat).lcm a.natAbs).lcm b.natAbs : Nat) : Int) s.toks) { s with toks := s.toks + 1 } := by
      rw [e1]
      exact ⟨.int _, H, I.tok _, ⟨_, rfl⟩, q⟩
    have m : ∀ n k : Nat, n.log2 < 13000 → k.log2 < 13000 → ¬ (max n k).log2 / 30 + 1 > 450 := fun n k hn hk => by
      rcases Nat.le_total n k with h | h
      · rw [Nat.max_eq_right h]; omega
      · rw [Nat.max_eq_left h]; omega
    exact call_function_meets PySem.W.MGF.kind_lcm PySem.W.MGF.plain_lcm PySem.W.MGF.entry_lcm (PySem.W.MGF.args_lcm _ _) (PySem.W.mg_run_lcm a t1 b t2 (m 1 _ (by decide) h0) (m _ _ h0 h1) (by rw [e1]; exact h2)).meets q2
  · unfold gLcm at e
    split at e
    · split at e
      · cases e
        obtain ⟨x, y, rfl, hx, hy⟩ := ha.two
        exact ⟨_, _, by rw [hx.int, hy.int], ‹_›, k _ _ o.stp rp_int⟩
      · cases e
    · cases e
/-- what repr tells -/
def showOk (d : D) : Bool := !d.hasDict && d.showable && decide (d.depth ≤ 64) && decide (d.shown.length ≤ sizeLine)
def gRepr : List D → Option D
  | [.list xs] => if showOk (.list xs) then some (.str (PyData.shown (.list xs))) else none
  | [.tuple xs] => if showOk (.tuple xs) then some (.str (PyData.shown (.tuple xs))) else none
  | _ => none
theorem cas_repr (hg : X.A.guards = some []) (hu : X.A.units + 100 < cLine) : CaS X (.builtin "repr") gRepr := by
  refine ⟨fun vs H Q => ∃ (a : Addr) (d : D), vs = [.ref a] ∧ Dp X.K H (.ref a) d ∧ showOk d = true ∧ Q (.str d.shown) H, ?_, fun aw B w H ts c xs Q o ha e k => ?_⟩
  · intro pins s σ H vs us Q I r h
    obtain ⟨a, d, rfl, hd, hs, q⟩ := h
    obtain ⟨u, rfl, ru⟩ := vals1 r
    cases (show u = Value.ref a from ru)
    obtain ⟨as, rd⟩ := Dp.reads I d _ _ hd rfl
    simp only [showOk, Bool.and_eq_true, Bool.not_eq_true', decide_eq_true_eq] at hs
    obtain ⟨⟨⟨h1, h2⟩, h3⟩, h4⟩ := hs
    refine repr_of_reads' rd h2 (fun z => by rw [h1] at z; cases z) hg (by omega) (fun _ _ z => z) (fun h' u tk kk => ?_) h4
    exact ⟨.str d.shown, H, I.kept kk, ⟨_, rfl⟩, q⟩
  · have hd : ∀ d : D, showOk d = true → d.hasDict = false := fun d h => by
      simp only [showOk, Bool.and_eq_true, Bool.not_eq_true'] at h
      exact h.1.1.1
    unfold gRepr at e
    split at e
    · split at e
      · cases e
        obtain ⟨x, rfl, hx⟩ := ha.one
        obtain ⟨p, vs, rfl, _⟩ := hx.lst o
        exact ⟨p, _, rfl, hx.dp (hd _ ‹_›), ‹_›, k _ _ o.stp rp_str⟩
      · cases e
    · split at e
      · cases e
        obtain ⟨x, rfl, hx⟩ := ha.one
        obtain ⟨p, vs, rfl, _⟩ := hx.tup o
        exact ⟨p, _, rfl, hx.dp (hd _ ‹_›), ‹_›, k _ _ o.stp rp_str⟩
      · cases e
    · cases e
def tyName : D → String
  | .none => "NoneType"
  | .bool _ => "bool"
  | .int _ => "int"
  | .str _ => "str"
  | .list _ => "list"
  | .tuple _ => "tuple"
  | .dict _ => "dict"
theorem Rq.ty {K : PySem.W.Frag} {aw : Option Addr} {H : Hp} {B : Addr → Prop} {t : D} {v : V} (h : Rq aw H B t v) : TyX K H v (.type (tyName t)) := by
  rcases h with h | ⟨ts, p, vs, rfl, rfl, _, ha, r⟩
  · cases t with
    | none => simp only [Rp] at h; subst h; exact .base .non
    | bool b => simp only [Rp] at h; subst h; exact .base (.bl _)
    | int b => simp only [Rp] at h; subst h; exact .base (.int _)
    | str b => simp only [Rp] at h; subst h; exact .base (.str _)
    | list b => simp only [Rp] at h; obtain ⟨a, _, rfl, _, ha, _⟩ := h; exact .base (.lst ha)
    | tuple b => simp only [Rp] at h; obtain ⟨a, _, rfl, _, ha, _⟩ := h; exact .base (.tup ha)
    | dict b => simp only [Rp] at h; obtain ⟨a, _, rfl, _, ha, _⟩ := h; exact .base (.dK ha)
  · exact .base (.lst ha)
def gIsi (T : String) (t : D) : Option D := (kitB (tyName t) T).map .bool
/-- type(t) is T -/
def gTyIs (T : String) (t : D) : Option D := some (.bool (decide (tyName t = T)))

/-! ### expressions -/
def dVar (i : Nat) : De := fun ρ w => match ρ[i]? with
  | some (some (.val t)) => some (t, w)
  | _ => none
def dPeek (i : Nat) : De := fun ρ w => match ρ[i]? with
  | some (some (.val t)) => some (t, w)
  | some (some (.own ts)) => some (.list ts, w)
  | _ => none
def dC (t : D) : De := fun _ w => some (t, w)
def dUn (f : D → Option D) (a : De) : De := fun ρ w => (a ρ w).bind fun p => (f p.1).map fun z => (z, p.2)
def dBin (f : D → D → Option D) (a b : De) : De := fun ρ w => (a ρ w).bind fun p => (b ρ p.2).bind fun q => (f p.1 q.1).map fun z => (z, q.2)
def dNil : Da := fun _ w => some ([], w)
def dCons (a : De) (r : Da) : Da := fun ρ w => (a ρ w).bind fun p => (r ρ p.2).map fun q => (p.1 :: q.1, q.2)
def dPri (f : List D → Option D) (r : Da) : De := fun ρ w => (r ρ w).bind fun p => (f p.1).map fun z => (z, p.2)
def dTup (r : Da) : De := fun ρ w => (r ρ w).bind fun p => if p.1.length ≤ 100000 then some (.tuple p.1, p.2) else none
def dLst (r : Da) : De := fun ρ w => (r ρ w).bind fun p => if p.1.length ≤ 100000 then some (.list p.1, p.2) else none
def truth : D → Option Bool
  | .none => some false
  | .bool b => some b
  | .int i => some (i != 0)
  | .list xs => some (!xs.isEmpty)
  | .tuple xs => some (!xs.isEmpty)
  | _ => none
def dTr (a : De) : Dt := fun ρ w => (a ρ w).bind fun p => (truth p.1).map fun z => (z, p.2)
def dNot (a : Dt) : Dt := fun ρ w => (a ρ w).map fun p => (!p.1, p.2)
def dAnd (a b : Dt) : Dt := fun ρ w => (a ρ w).bind fun p => if p.1 then b ρ p.2 else some (false, p.2)
def dOr (a b : Dt) : Dt := fun ρ w => (a ρ w).bind fun p => if p.1 then some (true, p.2) else b ρ p.2
def dIf (c : Dt) (a b : De) : De := fun ρ w => (c ρ w).bind fun p => if p.1 then a ρ p.2 else b ρ p.2
def dBl (a : Dt) : De := fun ρ w => (a ρ w).map fun p => (.bool p.1, p.2)
/-- a bool in, as a value -/
def dAndV (a b : De) : De := fun ρ w => (a ρ w).bind fun p => (asBool p.1).bind fun c => if c then b ρ p.2 else some (.bool false, p.2)
def dOrV (a b : De) : De := fun ρ w => (a ρ w).bind fun p => (asBool p.1).bind fun c => if c then some (.bool true, p.2) else b ρ p.2
def dNotV (a : De) : De := fun ρ w => (a ρ w).bind fun p => (asBool p.1).map fun c => (.bool (!c), p.2)

section
variable {a b c e : Expr} {es rest : List Expr} {da db : De} {r : Da} {pos : Pos} {x : Str} {i : Nat}
theorem r_var (hN : X.N[i]? = some x) (hv : Vis X.env.scope x) (hd : (x == ("__debug__" : Str)) = false) (hcd : (x == ("__classdict__" : Str)) = false) : PE X (.Name x pos) (tE (dVar i)) := by
  refine PE.weak (pe_var hN hv hd hcd) fun σ H Q ⟨aw, B, ρ, w, t, w', r, q, k⟩ => ?_
  unfold dVar at q
  split at q
  · rename_i t' e
    cases q
    obtain ⟨v, ev, rp⟩ := r.cell i _ e
    exact ⟨v, ev, k v H r.stp rp⟩
  · cases q
theorem r_peek (hN : X.N[i]? = some x) (hv : Vis X.env.scope x) (hd : (x == ("__debug__" : Str)) = false) (hcd : (x == ("__classdict__" : Str)) = false) : PE X (.Name x pos) (tQ (dPeek i)) := by
  refine PE.weak (pe_var hN hv hd hcd) fun σ H Q ⟨aw, B, ρ, w, t, w', r, q, k⟩ => ?_
  unfold dPeek at q
  split at q
  · rename_i t' e
    cases q
    obtain ⟨v, ev, rp⟩ := r.cell i _ e
    exact ⟨v, ev, k v H r.stp (.inl rp)⟩
  · rename_i t' e
    cases q
    obtain ⟨p, vs, ev, bp, n, hp, rl⟩ := r.cell i _ e
    exact ⟨_, ev, k _ H r.stp (.inr ⟨_, p, vs, rfl, rfl, n, hp, rl⟩)⟩
  · cases q
theorem r_c {t : D} {v : V} (h : PE X e (tC v)) (hr : ∀ H B, Rp H B t v) : PE X e (tE (dC t)) :=
  PE.weak h fun σ H Q ⟨aw, B, ρ, w, t, w', r, q, k⟩ => by
    cases q
    exact k v H r.stp (hr H B)
theorem r_int {j : Int} {k pos} : PE X (.Constant (.int j) k pos) (tE (dC (.int j))) := r_c pe_int fun _ _ => rp_int
theorem r_bl {j : Bool} {k pos} : PE X (.Constant (.bool j) k pos) (tE (dC (.bool j))) := r_c pe_bl fun _ _ => rp_bl
theorem r_non {k pos} : PE X (.Constant .none k pos) (tE (dC .none)) := r_c pe_non fun _ _ => rp_non
theorem r_str {j : Str} {k pos} : PE X (.Constant (.str j) k pos) (tE (dC (.str j))) := r_c pe_str fun _ _ => rp_str
theorem bin_open {ρ : Rho} {w : Ws} {f : D → D → Option D} {t : D} {w' : Ws} (h : dBin f da db ρ w = some (t, w')) :
    ∃ x w1 y, da ρ w = some (x, w1) ∧ db ρ w1 = some (y, w') ∧ f x y = some t := by
  unfold dBin at h
  obtain ⟨⟨x, w1⟩, e1, h⟩ := Option.bind_eq_some_iff.mp h
  obtain ⟨⟨y, w2⟩, e2, h⟩ := Option.bind_eq_some_iff.mp h
  obtain ⟨z, e3, h⟩ := Option.map_eq_some_iff.mp h
  cases h
  exact ⟨x, w1, y, e1, e2, e3⟩
theorem bin_go {f : D → D → Option D} {k : R2} {σ : L2.St} {H : Hp} {Q : VK} (hk : ∀ (aw : Option Addr) (B : Addr → Prop) (w : Ws) (H : Hp) (a b c : D) (x y : V) (Q : VK),
      Ok aw B w H → Rq aw H B a x → Rq aw H B b y → f a b = some c → (∀ v H', Stp aw H H' w → Rp H' B c v → Q v H') → k x y H Q) :
    tE (dBin f da db) σ H Q → tQ da σ H fun x H1 => tQ db σ H1 fun y H2 => k x y H2 Q := fun ⟨aw, B, ρ, w, t, w', r, q, kk⟩ => by
  obtain ⟨x, w1, y, e1, e2, e3⟩ := bin_open q
  refine ⟨aw, B, ρ, w, x, w1, r, e1, fun v H1 s1 q1 => ⟨aw, B, ρ, w1, y, w', r.step s1, e2, fun u H2 s2 q2 => ?_⟩⟩
  exact hk aw B w' H2 x y t v u Q ((r.step s1).step s2).toOk (q1.step (r.step s1).toOk s2) q2 e3 fun v' H3 s3 rp => kk v' H3 (s1.trans (s2.trans s3)) rp
theorem r_bin {op : Operator} {f : D → D → Option D} (ho : OpS X (binaryOp op) f) (ha : PE X a (tQ da)) (hb : PE X b (tQ db)) : PE X (.BinOp a op b pos) (tE (dBin f da db)) := by
  obtain ⟨r2, h1, h2⟩ := ho
  exact PE.weak (pe_op h1 ha hb) fun σ H Q h => bin_go h2 h
theorem r_cmp {op : CmpOp} {f : D → D → Option D} (ho : OpS X (compareOp op) f) (ha : PE X a (tQ da)) (hb : PE X b (tQ db)) (hm : behindInMarks op b = false) : PE X (.Compare a [op] [b] pos) (tE (dBin f da db)) := by
  obtain ⟨r2, h1, h2⟩ := ho
  exact PE.weak (pe_cmpR h1 ha hb hm) fun σ H Q h => bin_go h2 h
/-- a new list of two values: as tF -/
def dBinF (f : D → D → Option (List D)) (a b : De) : De := dBin (fun x y => (f x y).map .list) a b
theorem r_binF {op : Operator} {f : D → D → Option (List D)} (ho : OpF X (binaryOp op) f) (ha : PE X a (tQ da)) (hb : PE X b (tQ db)) : PE X (.BinOp a op b pos) (tF (dBinF f da db)) := by
  obtain ⟨r2, h1, h2⟩ := ho
  refine PE.weak (pe_op h1 ha hb) fun σ H Q ⟨aw, B, ρ, w, ts, w', r, q, kk⟩ => ?_
  obtain ⟨x, w1, y, e1, e2, e3⟩ := bin_open q
  obtain ⟨us, e3, e4⟩ := Option.map_eq_some_iff.mp e3
  cases e4
  refine ⟨aw, B, ρ, w, x, w1, r, e1, fun v H1 s1 q1 => ⟨aw, B, ρ, w1, y, w', r.step s1, e2, fun u H2 s2 q2 => ?_⟩⟩
  refine h2 aw B w' H2 x y ts v u Q ((r.step s1).step s2).toOk (q1.step (r.step s1).toOk s2) q2 e3 fun p vs H3 s3 hp hp' rp => kk p vs H3 (s1.trans (s2.trans s3)) ?_ hp' rp
  cases z : H p with
  | none => rfl
  | some u =>
    exfalso
    by_cases n : aw = some p
    · have := s2.2 p n
      rw [hp] at this
      cases this
    · have := s2.1 p u (s1.1 p u z n) n
      rw [hp] at this
      cases this

/-! #### tests -/
theorem dt_open {ρ : Rho} {w : Ws} {t : Bool} {w' : Ws} (h : dTr da ρ w = some (t, w')) : ∃ x, da ρ w = some (x, w') ∧ truth x = some t := by
  unfold dTr at h
  obtain ⟨⟨x, w1⟩, e1, h⟩ := Option.bind_eq_some_iff.mp h
  obtain ⟨z, e3, h⟩ := Option.map_eq_some_iff.mp h
  cases h
  exact ⟨x, e1, e3⟩
theorem tru_of {K : PySem.W.Frag} {aw : Option Addr} {B : Addr → Prop} {w : Ws} {H : Hp} {t : D} {v : V} {k : Bool} (o : Ok aw B w H) (h : Rq aw H B t v) (e : truth t = some k) : TruV K v H k := by
  cases t with
  | none => cases e; rw [h.non]; rfl
  | bool b => cases e; rw [h.bl]; rfl
  | int i => cases e; rw [h.int]; rfl
  | str _ => cases e
  | dict _ => cases e
  | list xs =>
    cases e
    obtain ⟨p, vs, rfl, _, h1, r1⟩ := h.lst o
    refine .inl ⟨vs, SqL.of h1, ?_⟩
    have := r1.len
    cases xs <;> cases vs <;> simp_all
  | tuple xs =>
    cases e
    obtain ⟨p, vs, rfl, _, h1, r1⟩ := h.tup o
    refine .inr (.inl ⟨vs, SqT.of h1, ?_⟩)
    have := r1.len
    cases xs <;> cases vs <;> simp_all
/-- any value as a test -/
theorem q_tr (ha : PE X a (tQ da)) (he : ∀ whole, isTrue a X.env whole = (do let v ← whole; standAt a.pos; holding [v] (truthy v))) : PT X a (tT (dTr da)) := by
  refine PT.weak (pt_truth ha he) fun σ H Q ⟨aw, B, ρ, w, t, w', r, q, k⟩ => ?_
  obtain ⟨x, e1, e2⟩ := dt_open q
  exact ⟨aw, B, ρ, w, x, _, r, e1, fun v H1 s1 q1 => ⟨t, tru_of (r.step s1).toOk q1 e2, k H1 s1⟩⟩
theorem q_cmp {op : CmpOp} {f : D → D → Option D} (ho : OpS X (compareOp op) f) (ha : PE X a (tQ da)) (hb : PE X b (tQ db)) (hm : behindInMarks op b = false) (hf : ∀ x y z, f x y = some z → ∃ k, z = .bool k) :
    PT X (.Compare a [op] [b] pos) (tT (dTr (dBin f da db))) := by
  obtain ⟨r2, h1, h2⟩ := ho
  refine PT.weak (pt_cmpR h1 ha hb hm) fun σ H Q ⟨aw, B, ρ, w, t, w', r, q, k⟩ => ?_
  obtain ⟨z, e1, e2⟩ := dt_open q
  obtain ⟨x, w1, y, f1, f2, f3⟩ := bin_open e1
  obtain ⟨b, rfl⟩ := hf _ _ _ f3
  cases e2
  refine bin_go h2 ⟨aw, B, ρ, w, _, _, r, e1, fun v H' s rp => ?_⟩
  simp only [Rp] at rp
  subst rp
  exact ⟨_, rfl, k H' s⟩
theorem q_not {d : Dt} (h : PT X a (tT d)) : PT X (.UnaryOp .Not a pos) (tT (dNot d)) := by
  refine PT.weak (pt_not h) fun σ H Q ⟨aw, B, ρ, w, t, w', r, q, k⟩ => ?_
  obtain ⟨⟨x, w1⟩, e1, e2⟩ := Option.map_eq_some_iff.mp q
  cases e2
  exact ⟨aw, B, ρ, w, x, _, r, e1, fun H1 s1 => k H1 s1⟩
theorem q_and1 {d : Dt} (h : PT X a (tT d)) : PW X (.BoolOp .And [a] pos) (tT d) := pw_and1 h
theorem q_or1 {d : Dt} (h : PT X a (tT d)) : PW X (.BoolOp .Or [a] pos) (tT d) := pw_or1 h
theorem q_and {d d' : Dt} (h : PT X a (tT d)) (hb : PW X (.BoolOp .And (b :: rest) pos) (tT d')) : PW X (.BoolOp .And (a :: b :: rest) pos) (tT (dAnd d d')) := by
  refine PW.weak (pw_and h hb) fun σ H Q ⟨aw, B, ρ, w, t, w', r, q, k⟩ => ?_
  obtain ⟨⟨x, w1⟩, e1, e2⟩ := Option.bind_eq_some_iff.mp q
  refine ⟨aw, B, ρ, w, x, w1, r, e1, fun H1 s1 => ?_⟩
  cases x with
  | true => exact iteT ⟨aw, B, ρ, w1, t, w', r.step s1, e2, fun H2 s2 => k H2 (s1.trans s2)⟩
  | false =>
    cases e2
    exact iteF (k H1 s1)
theorem q_or {d d' : Dt} (h : PT X a (tT d)) (hb : PW X (.BoolOp .Or (b :: rest) pos) (tT d')) : PW X (.BoolOp .Or (a :: b :: rest) pos) (tT (dOr d d')) := by
  refine PW.weak (pw_or h hb) fun σ H Q ⟨aw, B, ρ, w, t, w', r, q, k⟩ => ?_
  obtain ⟨⟨x, w1⟩, e1, e2⟩ := Option.bind_eq_some_iff.mp q
  refine ⟨aw, B, ρ, w, x, w1, r, e1, fun H1 s1 => ?_⟩
  cases x with
  | false => exact iteF ⟨aw, B, ρ, w1, t, w', r.step s1, e2, fun H2 s2 => k H2 (s1.trans s2)⟩
  | true =>
    cases e2
    exact iteT (k H1 s1)
theorem q_pw {d : Dt} (h : PW X a (tT d)) : PT X a (tT d) := h.pt

/-! #### values by tests -/
theorem r_ifE {d : Dt} (hc : PT X c (tT d)) (ha : PE X a (tE da)) (hb : PE X b (tE db)) : PE X (.IfExp c a b pos) (tE (dIf d da db)) := by
  refine PE.weak (pe_ifExp hc ha hb) fun σ H Q ⟨aw, B, ρ, w, t, w', r, q, k⟩ => ?_
  obtain ⟨⟨x, w1⟩, e1, e2⟩ := Option.bind_eq_some_iff.mp q
  refine ⟨aw, B, ρ, w, x, w1, r, e1, fun H1 s1 => ?_⟩
  cases x with
  | true => exact iteT ⟨aw, B, ρ, w1, t, w', r.step s1, e2, fun v H2 s2 => k v H2 (s1.trans s2)⟩
  | false => exact iteF ⟨aw, B, ρ, w1, t, w', r.step s1, e2, fun v H2 s2 => k v H2 (s1.trans s2)⟩
theorem asBool_some {t : D} {b : Bool} (h : asBool t = some b) : t = .bool b := by
  cases t <;> cases h
  rfl
theorem r_one {op} (h : PE X a (tE da)) : PE X (.BoolOp op [a] pos) (tE da) := pe_one h
theorem r_and (ha : PE X a (tE da)) (hb : PE X (.BoolOp .And (b :: rest) pos) (tE db)) : PE X (.BoolOp .And (a :: b :: rest) pos) (tE (dAndV da db)) := by
  refine PE.weak (pe_and ha hb) fun σ H Q ⟨aw, B, ρ, w, t, w', r, q, k⟩ => ?_
  obtain ⟨⟨x, w1⟩, e1, e2⟩ := Option.bind_eq_some_iff.mp q
  obtain ⟨c, e3, e4⟩ := Option.bind_eq_some_iff.mp e2
  refine ⟨aw, B, ρ, w, x, w1, r, e1, fun v H1 s1 rp => ?_⟩
  cases asBool_some e3
  simp only [Rp] at rp
  refine ⟨c, rp, ?_⟩
  cases c with
  | true => exact iteT ⟨aw, B, ρ, w1, t, w', r.step s1, e4, fun v H2 s2 => k v H2 (s1.trans s2)⟩
  | false =>
    cases e4
    exact iteF (k _ H1 s1 rp_bl)
theorem r_or (ha : PE X a (tE da)) (hb : PE X (.BoolOp .Or (b :: rest) pos) (tE db)) : PE X (.BoolOp .Or (a :: b :: rest) pos) (tE (dOrV da db)) := by
  refine PE.weak (pe_or ha hb) fun σ H Q ⟨aw, B, ρ, w, t, w', r, q, k⟩ => ?_
  obtain ⟨⟨x, w1⟩, e1, e2⟩ := Option.bind_eq_some_iff.mp q
  obtain ⟨c, e3, e4⟩ := Option.bind_eq_some_iff.mp e2
  refine ⟨aw, B, ρ, w, x, w1, r, e1, fun v H1 s1 rp => ?_⟩
  cases asBool_some e3
  simp only [Rp] at rp
  refine ⟨c, rp, ?_⟩
  cases c with
  | false => exact iteF ⟨aw, B, ρ, w1, t, w', r.step s1, e4, fun v H2 s2 => k v H2 (s1.trans s2)⟩
  | true =>
    cases e4
    exact iteT (k _ H1 s1 rp_bl)
theorem r_not (ha : PE X a (tE da)) : PE X (.UnaryOp .Not a pos) (tE (dNotV da)) := by
  refine PE.weak (pe_not ha) fun σ H Q ⟨aw, B, ρ, w, t, w', r, q, k⟩ => ?_
  obtain ⟨⟨x, w1⟩, e1, e2⟩ := Option.bind_eq_some_iff.mp q
  obtain ⟨c, e3, e4⟩ := Option.map_eq_some_iff.mp e2
  cases e4
  refine ⟨aw, B, ρ, w, x, _, r, e1, fun v H1 s1 rp => ?_⟩
  cases asBool_some e3
  simp only [Rp] at rp
  exact ⟨c, rp, k _ H1 s1 rp_bl⟩
def gNeg : D → Option D
  | .int i => some (.int (-i))
  | _ => none
theorem r_neg (ha : PE X a (tQ da)) : PE X (.UnaryOp .USub a pos) (tE (dUn gNeg da)) := by
  refine PE.weak (pe_un un_neg ha) fun σ H Q ⟨aw, B, ρ, w, t, w', r, q, k⟩ => ?_
  obtain ⟨⟨x, w1⟩, e1, e2⟩ := Option.bind_eq_some_iff.mp q
  obtain ⟨c, e3, e4⟩ := Option.map_eq_some_iff.mp e2
  cases e4
  refine ⟨aw, B, ρ, w, x, _, r, e1, fun v H1 s1 rp => ?_⟩
  cases x with
  | int i =>
    cases e3
    exact ⟨i, rp.int, k _ H1 s1 rp_int⟩
  | _ => cases e3

/-! #### arguments, displays -/
theorem a_nil : PA X [] (tA dNil) := PA.weak pa_nil fun σ H Q ⟨aw, B, ρ, w, ts, w', r, q, k⟩ => by
  cases q
  exact k [] H r.stp rpl_nil
theorem cons_open {ρ : Rho} {w : Ws} {r : Da} {ts : List D} {w' : Ws} (h : dCons da r ρ w = some (ts, w')) : ∃ x w1 us, da ρ w = some (x, w1) ∧ r ρ w1 = some (us, w') ∧ ts = x :: us := by
  obtain ⟨⟨x, w1⟩, e1, h⟩ := Option.bind_eq_some_iff.mp h
  obtain ⟨⟨us, w2⟩, e3, h⟩ := Option.map_eq_some_iff.mp h
  cases h
  exact ⟨x, w1, us, e1, e3, rfl⟩
theorem a_cons (ha : PE X e (tE da)) (hr : PA X es (tA r)) (hs : starEach (e :: es) X.env = (false, eval e X.env) :: starEach es X.env) : PA X (e :: es) (tA (dCons da r)) := by
  refine PA.weak (pa_cons ha hr hs) fun σ H Q ⟨aw, B, ρ, w, ts, w', r, q, k⟩ => ?_
  obtain ⟨x, w1, us, e1, e2, rfl⟩ := cons_open q
  refine ⟨aw, B, ρ, w, x, w1, r, e1, fun v H1 s1 rp => ⟨aw, B, ρ, w1, us, w', r.step s1, e2, fun vs H2 s2 rl => k _ H2 (s1.trans s2) ?_⟩⟩
  exact rpl_cons (rp.mv ((r.step s1).toOk.mv s2)) rl
theorem aq_nil : PA X [] (tAQ dNil) := PA.weak pa_nil fun σ H Q ⟨aw, B, ρ, w, ts, w', r, q, k⟩ => by
  cases q
  exact k [] H r.stp rfl
theorem aq_cons (ha : PE X e (tQ da)) (hr : PA X es (tAQ r)) (hs : starEach (e :: es) X.env = (false, eval e X.env) :: starEach es X.env) : PA X (e :: es) (tAQ (dCons da r)) := by
  refine PA.weak (pa_cons ha hr hs) fun σ H Q ⟨aw, B, ρ, w, ts, w', r, q, k⟩ => ?_
  obtain ⟨x, w1, us, e1, e2, rfl⟩ := cons_open q
  refine ⟨aw, B, ρ, w, x, w1, r, e1, fun v H1 s1 rp => ⟨aw, B, ρ, w1, us, w', r.step s1, e2, fun vs H2 s2 rl => k _ H2 (s1.trans s2) ?_⟩⟩
  exact ⟨v, vs, rfl, rp.step (r.step s1).toOk s2, rl⟩
theorem r_tup {x1} (h : PA X es (tA r)) : PE X (.Tuple es x1 pos) (tE (dTup r)) := by
  refine PE.weak (pe_tup h) fun σ H Q ⟨aw, B, ρ, w, t, w', r, q, k⟩ => ?_
  obtain ⟨⟨ts, w1⟩, e1, e2⟩ := Option.bind_eq_some_iff.mp q
  dsimp only at e2
  split at e2
  · rename_i hl
    cases e2
    refine ⟨aw, B, ρ, w, _, _, r, e1, fun vs H1 s1 rl => ⟨by rw [← rl.len]; exact sz_le hl, fun p hp => ?_⟩⟩
    have o := (r.step s1).toOk
    refine k _ _ (s1.trans (o.new hp)) ?_
    simp only [Rp]
    exact ⟨p, vs, rfl, o.fresh hp, upd_same, rl.mv (o.mv (o.new hp))⟩
  · cases e2
theorem f_lst (h : PA X es (tA r)) : PE X (.List es pos) (tF (dLst r)) := by
  refine PE.weak (pe_lst h) fun σ H Q ⟨aw, B, ρ, w, t, w', r, q, k⟩ => ?_
  obtain ⟨⟨ts, w1⟩, e1, e2⟩ := Option.bind_eq_some_iff.mp q
  dsimp only at e2
  split at e2
  · rename_i hl
    cases e2
    refine ⟨aw, B, ρ, w, _, _, r, e1, fun vs H1 s1 rl => ⟨by rw [← rl.len]; exact sz_le hl, fun p hp => ?_⟩⟩
    have o := (r.step s1).toOk
    refine k p vs _ (s1.trans (o.new hp)) ?_ upd_same ?_
    · cases z : H p with
      | none => rfl
      | some u =>
        exfalso
        by_cases n : aw = some p
        · have := s1.2 p n
          rw [hp] at this
          cases this
        · have := s1.1 p u z n
          rw [hp] at this
          cases this
    · exact rl.mv fun a u h n => ⟨(o.new hp).1 a u h (o.ne n), fun t => t.elim n fun t => by subst t; rw [hp] at h; cases h⟩
  · cases e2
theorem dLst_lst {ρ : Rho} {w : Ws} {t : D} {w' : Ws} (h : dLst r ρ w = some (t, w')) : ∃ ts, t = .list ts := by
  obtain ⟨⟨ts, w1⟩, e1, e2⟩ := Option.bind_eq_some_iff.mp h
  dsimp only at e2
  split at e2
  · cases e2; exact ⟨_, rfl⟩
  · cases e2
theorem r_lst (h : PA X es (tA r)) : PE X (.List es pos) (tE (dLst r)) := ofF (f_lst h) fun _ _ _ _ => dLst_lst

/-! #### built-in functions -/
theorem pri_go {g : List D → Option D} {k : List V → Hp → VK → Prop} {σ : L2.St} {H : Hp} {Q : VK} (hk : ∀ (aw : Option Addr) (B : Addr → Prop) (w : Ws) (H : Hp) (ts : List D) (c : D) (xs : List V) (Q : VK),
      Ok aw B w H → RqL aw H B ts xs → g ts = some c → (∀ v H', Stp aw H H' w → Rp H' B c v → Q v H') → k xs H Q) : tE (dPri g r) σ H Q → tAQ r σ H fun vs H1 => k vs H1 Q := fun ⟨aw, B, ρ, w, t, w', rr, q, kk⟩ => by
  obtain ⟨⟨ts, w1⟩, e1, e2⟩ := Option.bind_eq_some_iff.mp q
  obtain ⟨z, e3, e4⟩ := Option.map_eq_some_iff.mp e2
  cases e4
  exact ⟨aw, B, ρ, w, ts, _, rr, e1, fun vs H1 s1 rl => hk aw B _ H1 ts t vs Q (rr.step s1).toOk rl e3 fun v H' s rp => kk v H' (s1.trans s) rp⟩
variable {id T : String} {g : List D → Option D} {p : Pos}
theorem r_blt (hc : CaS X (.builtin id) g) (hg : Gl X x) (hm : X.mg x = none) (hv : bootBuiltins x = some (.builtin id)) (ha : PA X (e :: es) (tAQ r)) (hn : x ≠ "__name__") (hdb : (x == ("__debug__" : Str)) = false)
    (he : starEach (e :: es) X.env = (false, eval e X.env) :: starEach es X.env) (hpl : (backTo pos (starEach es X.env)).any (·.1) = false) : PE X (.Call (.Name x p) (e :: es) [] pos) (tE (dPri g r)) := by
  obtain ⟨k, h1, h2⟩ := hc
  exact PE.weak (pe_callB h1 hg hm hv ha hn hdb he hpl) fun σ H Q h => pri_go h2 h
theorem r_blm (hc : CaS X (.builtin id) g) (hg : Gl X x) (hm : X.mg x = some (.builtin id)) (ha : PA X (e :: es) (tAQ r)) (hdb : (x == ("__debug__" : Str)) = false)
    (he : starEach (e :: es) X.env = (false, eval e X.env) :: starEach es X.env) (hpl : (backTo pos (starEach es X.env)).any (·.1) = false) : PE X (.Call (.Name x p) (e :: es) [] pos) (tE (dPri g r)) := by
  obtain ⟨k, h1, h2⟩ := hc
  exact PE.weak (pe_callBfun h1 hg hm ha hdb he hpl) fun σ H Q h => pri_go h2 h
theorem r_typ (hc : CaS X (.type T) g) (hg : Gl X x) (hm : X.mg x = none) (hv : bootBuiltins x = some (.type T)) (ha : PA X (e :: es) (tAQ r)) (hn : x ≠ "__name__") (hdb : (x == ("__debug__" : Str)) = false)
    (he : starEach (e :: es) X.env = (false, eval e X.env) :: starEach es X.env) (hpl : (backTo pos (starEach es X.env)).any (·.1) = false) : PE X (.Call (.Name x p) (e :: es) [] pos) (tE (dPri g r)) := by
  obtain ⟨k, h1, h2⟩ := hc
  exact PE.weak (pe_callTy h1 hg hm hv ha hn hdb he hpl) fun σ H Q h => pri_go h2 h
/-- list(..), a new list -/
theorem f_typ {g : List D → Option (List D)} (hc : CaF X (.type T) g) (hg : Gl X x) (hm : X.mg x = none) (hv : bootBuiltins x = some (.type T)) (ha : PA X (e :: es) (tAQ r)) (hn : x ≠ "__name__") (hdb : (x == ("__debug__" : Str)) = false)
    (he : starEach (e :: es) X.env = (false, eval e X.env) :: starEach es X.env) (hpl : (backTo pos (starEach es X.env)).any (·.1) = false) : PE X (.Call (.Name x p) (e :: es) [] pos) (tF (dPri (fun a => (g a).map .list) r)) := by
  obtain ⟨k, h1, h2⟩ := hc
  refine PE.weak (pe_callTy h1 hg hm hv ha hn hdb he hpl) fun σ H Q ⟨aw, B, ρ, w, ts, w', rr, q, kk⟩ => ?_
  obtain ⟨⟨us, w1⟩, e1, e2⟩ := Option.bind_eq_some_iff.mp q
  obtain ⟨z, e3, e4⟩ := Option.map_eq_some_iff.mp e2
  obtain ⟨zs, e6, e5⟩ := Option.map_eq_some_iff.mp e3
  cases e5
  cases e4
  refine ⟨aw, B, ρ, w, us, _, rr, e1, fun vs H1 s1 rl => h2 aw B _ H1 us _ vs Q (rr.step s1).toOk rl e6 fun p ws H' s hp hp' rp => kk p ws H' (s1.trans s) ?_ hp' rp⟩
  cases z : H p with
  | none => rfl
  | some u =>
    exfalso
    by_cases n : aw = some p
    · have := s1.2 p n
      rw [hp] at this
      cases this
    · have := s1.1 p u z n
      rw [hp] at this
      cases this
end
end
end Mi
namespace Mi
open PySem PySem.Spec PyProof.Rows L2
section
variable {X : Cx} {a b c e : Expr} {es rest : List Expr} {da db : De} {r : Da} {pos : Pos} {x x2 : Str} {i : Nat}

theorem un_go {f : D → Option D} {k : V → Hp → VK → Prop} {σ : L2.St} {H : Hp} {Q : VK} (hk : ∀ (aw : Option Addr) (B : Addr → Prop) (w : Ws) (H : Hp) (a c : D) (x : V) (Q : VK),
      Ok aw B w H → Rq aw H B a x → f a = some c → (∀ v H', Stp aw H H' w → Rp H' B c v → Q v H') → k x H Q) :
    tE (dUn f da) σ H Q → tQ da σ H fun x H1 => k x H1 Q := fun ⟨aw, B, ρ, w, t, w', r, q, kk⟩ => by
  obtain ⟨⟨x, w1⟩, e1, e2⟩ := Option.bind_eq_some_iff.mp q
  obtain ⟨c, e3, e4⟩ := Option.map_eq_some_iff.mp e2
  cases e4
  exact ⟨aw, B, ρ, w, x, _, r, e1, fun v H1 s1 q1 => hk aw B _ H1 x t v Q (r.step s1).toOk q1 e3 fun v' H2 s2 rp => kk v' H2 (s1.trans s2) rp⟩

/-! #### isinstance(e, T), type(e) is T -/
theorem r_isi {T : String} {p p2 : Pos} (ha : PE X e (tQ da)) (hg : Gl X "isinstance") (hm : X.mg "isinstance" = none) (hg2 : Gl X x2) (hm2 : X.mg x2 = none) (hv2 : bootBuiltins x2 = some (.type T))
    (hn : x2 ≠ "__name__") (hd : (x2 == ("__debug__" : Str)) = false)
    (h1 : starEach [e, .Name x2 p2] X.env = (false, eval e X.env) :: starEach [.Name x2 p2] X.env) (h2 : starEach [.Name x2 p2] X.env = (false, eval (.Name x2 p2) X.env) :: starEach [] X.env)
    (hpl : (backTo pos (starEach [.Name x2 p2] X.env)).any (·.1) = false) :
    PE X (.Call (.Name "isinstance" p) [e, .Name x2 p2] [] pos) (tE (dUn (gIsi T) da)) := by
  refine PE.weak (pe_callB call_isi hg hm (by decide +kernel) (pa_cons ha (pa_cons (pe_bltn (v := .ty T) hg2 hm2 hv2 rfl hn hd) pa_nil h2) h1) (by decide) (by decide) h1 hpl) fun σ H Q h => ?_
  refine un_go (k := fun x H1 Q => tCons (tC (.ty T)) tNil σ H1 fun xs H2 => rIsi X.K (x :: xs) H2 Q) (fun aw B w H a c x Q o ha e k => ?_) h
  obtain ⟨bb, e1, rfl⟩ := Option.map_eq_some_iff.mp e
  exact ⟨x, .ty T, .type (tyName a), .type T, bb, rfl, .ty T, ha.ty, kit_ty e1, k _ _ o.stp rp_bl⟩
theorem typeIs_of {aw : Option Addr} {B : Addr → Prop} {pins : List (Addr × Obj)} {σ : L2.St} {H : Hp} {s : Shared} {t : D} {v : V} {u : Value} (I : Inv X pins σ H s) (rv : RelV v u) (h : Rq aw H B t v) : s.TypeIs u (tyName t) := by
  rcases h with h | ⟨ts, p, vs, rfl, rfl, _, ha, r⟩
  · cases t with
    | none => simp only [Rp] at h; subst h; cases rv; exact rfl
    | bool b => simp only [Rp] at h; subst h; cases rv; exact rfl
    | int b => simp only [Rp] at h; subst h; obtain ⟨_, rfl⟩ := rv; exact rfl
    | str b => simp only [Rp] at h; subst h; obtain ⟨_, rfl⟩ := rv; exact rfl
    | list b =>
      simp only [Rp] at h
      obtain ⟨a, _, rfl, _, ha, _⟩ := h
      cases rv
      obtain ⟨its, r1, p1, _⟩ := I.list (SqL.of ha)
      obtain ⟨o, n, e, c, _⟩ := p1
      exact ⟨o, e, c⟩
    | tuple b =>
      simp only [Rp] at h
      obtain ⟨a, _, rfl, _, ha, _⟩ := h
      cases rv
      obtain ⟨its, r1, p1, _⟩ := I.tuple (SqT.of ha)
      obtain ⟨o, e, c, _⟩ := p1
      exact ⟨o, e, c⟩
    | dict b =>
      simp only [Rp] at h
      obtain ⟨a, _, rfl, _, ha, _⟩ := h
      cases rv
      obtain ⟨_, _, vs, _, o, _, _, e, c, _⟩ := I.hok _ _ ha
      exact ⟨o, e, c.1⟩
  · cases rv
    obtain ⟨its, r1, p1, _⟩ := I.list (SqL.of ha)
    obtain ⟨o, n, e, c, _⟩ := p1
    exact ⟨o, e, c⟩
def rTyD : List V → Hp → VK → Prop := fun vs H Q => ∃ (x : V) (aw : Option Addr) (B : Addr → Prop) (t : D), vs = [x] ∧ Rq aw H B t x ∧ Q (.ty (tyName t)) H
theorem call_tyD : CallR X (.type "type") rTyD := by
  intro pins s σ H vs us Q I r h
  obtain ⟨x, aw, B, t, rfl, hq, q⟩ := h
  obtain ⟨u, rfl, ru⟩ := vals1 r
  refine call_type_of (typeIs_of I ru hq) ?_ ⟨.ty (tyName t), H, I, rfl, q⟩
  cases t <;> (simp only [tyName]; decide +kernel)
theorem r_tyIs {T : String} {p p2 p3 : Pos} (ha : PE X e (tQ da)) (hg : Gl X "type") (hm : X.mg "type" = none) (hg2 : Gl X x2) (hm2 : X.mg x2 = none) (hv2 : bootBuiltins x2 = some (.type T))
    (hn : x2 ≠ "__name__") (hd : (x2 == ("__debug__" : Str)) = false)
    (h1 : starEach [e] X.env = (false, eval e X.env) :: starEach [] X.env) :
    PE X (.Compare (.Call (.Name "type" p) [e] [] p3) [.Is] [.Name x2 p2] pos) (tE (dUn (gTyIs T) da)) := by
  refine PE.weak (pe_cmpR op_isTy (pe_callTy call_tyD hg hm (by decide +kernel) (pa_cons ha pa_nil h1) (by decide) (by decide) h1 rfl) (pe_bltn (v := .ty T) hg2 hm2 hv2 rfl hn hd) (nomark _)) fun σ H Q h => ?_
  refine un_go (f := gTyIs T) (k := fun x H1 Q => rTyD [x] H1 fun y H2 => (tC (.ty T)) σ H2 fun z H3 => ∃ m n, y = .ty m ∧ z = .ty n ∧ Q (.bl (decide (m = n))) H3) (fun aw B w H a c x Q o ha e k => ?_) h
  cases e
  exact ⟨x, aw, B, a, rfl, ha, _, _, rfl, rfl, k _ _ o.stp rp_bl⟩
def gBits : D → Option D
  | .int i => some (.int (Builtin.Int.intBits i : Nat))
  | _ => none
theorem r_bits {apos : Pos} (ha : PE X e (tQ da)) (h1 : attributeBase e "bit_length" X.env (eval e X.env) = eval e X.env) (h2 : (apos.endLine == pos.line) = true) :
    PE X (.Call (.Attribute e "bit_length" apos) [] [] pos) (tE (dUn gBits da)) := by
  refine PE.weak (pe_bits ha h1 h2) fun σ H Q h => ?_
  refine un_go (f := gBits) (k := fun x H1 Q => ∃ i, x = .int i ∧ Q (.int (Builtin.Int.intBits i : Nat)) H1) (fun aw B w H a c x Q o ha e k => ?_) h
  unfold gBits at e
  split at e
  · cases e
    exact ⟨_, ha.int, k _ _ o.stp rp_int⟩
  · cases e

/-! #### items, slices -/
def gIx : D → D → Option D
  | .list xs, .int j => atI xs j
  | .tuple xs, .int j => atI xs j
  | _, _ => none
theorem RpL.atI {H : Hp} {B : Addr → Prop} {ts : List D} {vs : List V} {j : Int} {t : D} (h : RpL H B ts vs) (e : L2.atI ts j = some t) : ∃ v, L2.atI vs j = some v ∧ Rp H B t v := by
  unfold L2.atI at e ⊢
  rw [← h.len]
  obtain ⟨k, e1, e2⟩ := Option.bind_eq_some_iff.mp e
  rw [e1]
  exact h.get e2
theorem r_ix (ha : PE X a (tQ da)) (hb : PE X b (tQ db)) (hp : PlainIx b) : PE X (.Subscript a b pos) (tE (dBin gIx da db)) := by
  refine PE.weak (pe_ix ix_seq ha hb hp) fun σ H Q h => bin_go (f := gIx) (fun aw B w H a b c x y Q o ha hb e k => ?_) h
  unfold gIx at e
  split at e
  · obtain ⟨p, vs, rfl, _, h1, r1⟩ := ha.lst o
    obtain ⟨v, e2, rp⟩ := r1.atI e
    exact .inl ⟨p, vs, _, v, rfl, hb.int, SqL.of h1, e2, k _ _ o.stp rp⟩
  · obtain ⟨p, vs, rfl, _, h1, r1⟩ := ha.tup o
    obtain ⟨v, e2, rp⟩ := r1.atI e
    exact .inr (.inl ⟨p, vs, _, v, rfl, hb.int, SqT.of h1, e2, k _ _ o.stp rp⟩)
  · cases e
/-- well[j] -/
def dWell (i j : Nat) : De := fun ρ w => match ρ[i]? with
  | some (some .well) => (w[j]?).map fun z => (.int z, w)
  | _ => none
theorem r_well {j : Nat} {k : Nat} {p1 p2 : Pos} (hN : X.N[i]? = some x) (hv : Vis X.env.scope x) (hd : (x == ("__debug__" : Str)) = false) (hcd : (x == ("__classdict__" : Str)) = false) :
    PE X (.Subscript (.Name x p1) (.Constant (.int (j : Int)) k p2) pos) (tE (dWell i j)) := by
  refine PE.weak (pe_ix ix_list (pe_var hN hv hd hcd) pe_int (fun _ _ => rfl)) fun σ H Q ⟨aw, B, ρ, w, t, w', r, q, kk⟩ => ?_
  unfold dWell at q
  split at q
  · rename_i e
    obtain ⟨z, e1, e2⟩ := Option.map_eq_some_iff.mp q
    cases e2
    obtain ⟨p, ep, ew⟩ := r.cell i _ e
    have hj : j < w.length := (List.getElem?_eq_some_iff.mp e1).1
    refine ⟨_, ep, p, w.map V.int, j, .int z, rfl, rfl, SqL.of (r.wl p ew).2, ?_, kk _ H r.stp rp_int⟩
    unfold L2.atI L2.ixN
    rw [if_pos (by omega), if_pos (by rw [List.length_map]; omega)]
    show (w.map V.int)[(j : Int).toNat]? = _
    rw [Int.toNat_natCast, List.getElem?_map, e1]
    rfl
  · cases q
abbrev Dp' := Rho → Ws → Option (Option Int × Ws)
def tP (d : Dp') : TO := fun σ H Q => ∃ aw B ρ w t w', R aw B ρ w σ H ∧ d ρ w = some (t, w') ∧ ∀ H', Stp aw H H' w' → Q t H'
def dpNo : Dp' := fun _ w => some (none, w)
def dpSo (d : De) : Dp' := fun ρ w => (d ρ w).bind fun p => (asInt p.1).map fun z => (some z, p.2)
theorem asInt_some {t : D} {b : Int} (h : asInt t = some b) : t = .int b := by
  cases t <;> cases h
  rfl
theorem p_no : PO X none (tP dpNo) := ⟨fun pins s σ H Q I ⟨aw, B, ρ, w, t, w', r, q, k⟩ => po_none.run pins s σ H Q I (by cases q; exact k H r.stp)⟩
theorem p_so (h : PE X e (tE da)) : PO X (some e) (tP (dpSo da)) := ⟨fun pins s σ H Q I ⟨aw, B, ρ, w, t, w', r, q, k⟩ => (po_some h).run pins s σ H Q I (by
  obtain ⟨⟨x, w1⟩, e1, e2⟩ := Option.bind_eq_some_iff.mp q
  obtain ⟨z, e3, e4⟩ := Option.map_eq_some_iff.mp e2
  cases e4
  cases asInt_some e3
  refine ⟨aw, B, ρ, w, _, _, r, e1, fun v H1 s1 rp => ?_⟩
  simp only [Rp] at rp
  exact ⟨z, rp, k H1 s1⟩)⟩
def cutD (xs : List D) (lo hi : Option Int) : List D := (xs.drop (HT.sIx xs.length 0 lo)).take (HT.sIx xs.length xs.length hi - HT.sIx xs.length 0 lo)
theorem RpL.cut {H : Hp} {B : Addr → Prop} {ts : List D} {vs : List V} (h : RpL H B ts vs) (lo hi : Option Int) : RpL H B (cutD ts lo hi) (cutV vs lo hi) := by
  unfold cutD cutV
  rw [h.len]
  exact (h.drop _).take _
def gSl : D → Option Int → Option Int → Option D
  | .list xs, lo, hi => some (.list (cutD xs lo hi))
  | .tuple xs, lo, hi => some (.tuple (cutD xs lo hi))
  | _, _, _ => none
def dSl (a : De) (lo hi : Dp') : De := fun ρ w => (a ρ w).bind fun p => (lo ρ p.2).bind fun l => (hi ρ l.2).bind fun h => (gSl p.1 l.1 h.1).map fun z => (z, h.2)
theorem fresh_back' {aw : Option Addr} {H H1 : Hp} {w : Ws} {p : Addr} (s : Stp aw H H1 w) (h : H1 p = none) : H p = none := by
  cases z : H p with
  | none => rfl
  | some u =>
    exfalso
    by_cases n : aw = some p
    · have := s.2 p n
      rw [h] at this
      cases this
    · have := s.1 p u z n
      rw [h] at this
      cases this
theorem cut_all {xs : List D} {lo hi : Option Int} (h0 : HT.sIx xs.length 0 lo = 0) (h1 : HT.sIx xs.length xs.length hi = xs.length) : cutD xs lo hi = xs := by
  unfold cutD
  rw [h0, h1]
  simp
theorem sl_open {lo hi : Dp'} {ρ : Rho} {w : Ws} {t : D} {w' : Ws} (h : dSl da lo hi ρ w = some (t, w')) : ∃ x w1 l w2 u, da ρ w = some (x, w1) ∧ lo ρ w1 = some (l, w2) ∧ hi ρ w2 = some (u, w') ∧ gSl x l u = some t := by
  obtain ⟨⟨x, w1⟩, e1, h⟩ := Option.bind_eq_some_iff.mp h
  obtain ⟨⟨l, w2⟩, e2, h⟩ := Option.bind_eq_some_iff.mp h
  obtain ⟨⟨u, w3⟩, e3, h⟩ := Option.bind_eq_some_iff.mp h
  obtain ⟨z, e4, h⟩ := Option.map_eq_some_iff.mp h
  cases h
  exact ⟨x, w1, l, w2, u, e1, e2, e3, e4⟩
theorem r_sl {lo hi : Option Expr} {dl dh : Dp'} {p2 : Pos} (ha : PE X e (tQ da)) (hl : PO X lo (tP dl)) (hh : PO X hi (tP dh)) : PE X (.Subscript e (.Slice lo hi none p2) pos) (tE (dSl da dl dh)) := by
  refine PE.weak (pe_slice (SlR.or sl_list sl_tupA) ha hl hh) fun σ H Q ⟨aw, B, ρ, w, t, w', r, q, k⟩ => ?_
  obtain ⟨x, w1, l, w2, u, e1, e2, e3, e4⟩ := sl_open q
  refine ⟨aw, B, ρ, w, x, w1, r, e1, fun v H1 s1 q1 => ⟨aw, B, ρ, w1, l, w2, r.step s1, e2, fun H2 s2 => ⟨aw, B, ρ, w2, u, w', (r.step s1).step s2, e3, fun H3 s3 => ?_⟩⟩⟩
  have r3 := ((r.step s1).step s2).step s3
  have o := r3.toOk
  have q3 := (q1.step (r.step s1).toOk s2).step ((r.step s1).step s2).toOk s3
  have st := (s1.trans s2).trans s3
  unfold gSl at e4
  split at e4
  · cases e4
    obtain ⟨p, vs, rfl, _, h1, r1⟩ := q3.lst o
    refine .inl ⟨p, vs, rfl, SqL.of h1, fun z hz => k _ _ (st.trans (o.new hz)) ?_⟩
    simp only [Rp]
    exact ⟨z, _, rfl, o.fresh hz, upd_same, (r1.cut _ _).mv (o.mv (o.new hz))⟩
  · cases e4
    obtain ⟨p, vs, rfl, nb, h1, r1⟩ := q3.tup o
    refine .inr ⟨p, vs, rfl, SqT.of h1, fun ⟨c0, c1⟩ => ?_, fun _ z hz => k _ _ (st.trans (o.new hz)) ?_⟩
    · refine k _ _ st ?_
      rw [← r1.len] at c0 c1
      rw [cut_all c0 c1]
      simp only [Rp]
      exact ⟨p, vs, rfl, nb, h1, r1⟩
    · simp only [Rp]
      exact ⟨z, _, rfl, o.fresh hz, upd_same, (r1.cut _ _).mv (o.mv (o.new hz))⟩
  · cases e4
/-- xs[::-1] of a list -/
def gRev : D → Option D
  | .list xs => some (.list xs.reverse)
  | _ => none
theorem r_rev {k : Nat} {p1 p2 p3 : Pos} (ha : PE X e (tQ da)) : PE X (.Subscript e (.Slice none none (some (.UnaryOp .USub (.Constant (.int 1) k p1) p2)) p3) pos) (tE (dUn gRev da)) := by
  refine PE.weak (pe_revL ha) fun σ H Q h => ?_
  refine un_go (f := gRev) (k := fun x H1 Q => ∃ a xs, x = V.ref a ∧ SqL X.K H1 a xs ∧ ∀ p, H1 p = none → Q (V.ref p) (upd H1 p (.lst xs.reverse))) (fun aw B w H a c x Q o ha e k => ?_) h
  unfold gRev at e
  split at e
  · cases e
    obtain ⟨p, vs, rfl, _, h1, r1⟩ := ha.lst o
    refine ⟨p, vs, rfl, SqL.of h1, fun z hz => k _ _ (o.new hz) ?_⟩
    simp only [Rp]
    exact ⟨z, _, rfl, o.fresh hz, upd_same, r1.rev.mv (o.mv (o.new hz))⟩
  · cases e
end
end Mi
namespace Mi
open PySem PySem.Spec PyProof.Rows L2

/-! ### what is walked -/
/-- what was known and is none of Z is as it was -/
def Kp (Z : Addr → Prop) (H H' : Hp) : Prop := ∀ a o, H a = some o → ¬ Z a → H' a = some o
structure WalkT (Z B : Addr → Prop) (J : It) (H1 : Hp) (xs : List D) : Prop where
  go : ∀ i H', Kp Z H1 H' → i < xs.length → J.go i H'
  yld : ∀ (i : Nat) (H' : Hp) (x : V) (H'' : Hp) (B2 : Addr → Prop), Kp Z H1 H' → (∀ a, B2 a → B a ∨ H1 a = none) → (∀ a, B2 a → H' a ≠ none) → J.yld i H' x H'' → ∀ t, xs[i]? = some t →
    (∀ a o, H' a = some o → H'' a = some o) ∧ Rp H'' B2 t x
  stop : ∀ i H', Kp Z H1 H' → xs.length ≤ i → J.stop i H'
/-- strict (b = false): the lists of the def's own may change meanwhile -/
def Zb (b : Bool) (aw : Option Addr) (B : Addr → Prop) : Addr → Prop := fun a => if b then aw = some a else B a
def tI (b : Bool) (d : Da) : TI := fun σ H Rr => ∃ aw B ρ w xs w', R aw B ρ w σ H ∧ d ρ w = some (xs, w') ∧ ∀ J H1, Stp aw H H1 w' → WalkT (Zb b aw B) B J H1 xs → Rr J H1
theorem WalkT.weak {Z Z' B : Addr → Prop} {J : It} {H1 : Hp} {xs : List D} (h : WalkT Z B J H1 xs) (hz : ∀ a, Z' a → Z a) : WalkT Z' B J H1 xs :=
  ⟨fun i H' k => h.go i H' fun a o e n => k a o e fun z => n (hz a z), fun i H' x H'' B2 k => h.yld i H' x H'' B2 fun a o e n => k a o e fun z => n (hz a z), fun i H' k => h.stop i H' fun a o e n => k a o e fun z => n (hz a z)⟩
section
variable {X : Cx} {tg e : Expr} {de : De}
theorem i_weak {d : Da} (h : PI X tg e (tI false d)) : PI X tg e (tI true d) := PI.weak h fun σ H Rr ⟨aw, B, ρ, w, xs, w', r, q, k⟩ =>
  ⟨aw, B, ρ, w, xs, w', r, q, fun J H1 s wk => k J H1 s (wk.weak fun a z => by
    have z' : aw = some a := by simpa [Zb] using z
    simpa [Zb] using (r.wl a z').1)⟩
theorem of_rpl {H1 H' H'' : Hp} {B B2 : Addr → Prop} {xs : List D} {vs : List V} {i : Nat} {t : D} {x : V} (Z : Addr → Prop) (hZ : ∀ a, Z a → B a) (h : RpL H1 B xs vs) (k : Kp Z H1 H') (hb : ∀ a, B2 a → B a ∨ H1 a = none)
    (hh : ∀ a o, H' a = some o → H'' a = some o) (e : xs[i]? = some t) (ev : vs[i]? = some x) : Rp H'' B2 t x := by
  obtain ⟨v, ev', rp⟩ := h.get e
  rw [ev] at ev'
  cases ev'
  exact rp.mv fun a o q n => ⟨hh a o (k a o q fun z => n (hZ a z)), fun b => (hb a b).elim n fun z => by rw [z] at q; cases q⟩
theorem walk_list {K : PySem.W.Frag} {Z B : Addr → Prop} {H1 : Hp} {a : Addr} {vs : List V} {xs : List D} (hZ : ∀ a, Z a → B a) (na : ¬ Z a) (ha : H1 a = some (.lst vs)) (r : RpL H1 B xs vs) : WalkT Z B (Itl K a) H1 xs where
  go := fun i H' k hi => by
    have hi' : i < vs.length := by rw [← r.len]; exact hi
    exact ⟨vs, vs[i], SqL.of (k a _ ha na), by simp [hi']⟩
  yld := fun i H' x H'' B2 k hb hd y t e => by
    obtain ⟨rfl, y⟩ := y
    exact ⟨fun _ _ z => z, of_rpl Z hZ r k hb (fun _ _ z => z) e (y vs (SqL.of (k a _ ha na)))⟩
  stop := fun i H' k hi => ⟨vs, SqL.of (k a _ ha na), by rw [← r.len]; exact hi⟩
theorem walk_tup {K : PySem.W.Frag} {Z B : Addr → Prop} {H1 : Hp} {a : Addr} {vs : List V} {xs : List D} (hZ : ∀ a, Z a → B a) (na : ¬ Z a) (ha : H1 a = some (.tup vs)) (r : RpL H1 B xs vs) : WalkT Z B (Itt K a) H1 xs where
  go := fun i H' k hi => by
    have hi' : i < vs.length := by rw [← r.len]; exact hi
    exact ⟨vs, vs[i], SqT.of (k a _ ha na), by simp [hi']⟩
  yld := fun i H' x H'' B2 k hb hd y t e => by
    obtain ⟨rfl, y⟩ := y
    exact ⟨fun _ _ z => z, of_rpl Z hZ r k hb (fun _ _ z => z) e (y vs (SqT.of (k a _ ha na)))⟩
  stop := fun i H' k hi => ⟨vs, SqT.of (k a _ ha na), by rw [← r.len]; exact hi⟩
def rangeL (lo hi : Int) : List D := (List.range (hi - lo).toNat).map fun k => .int (lo + (k : Nat))
theorem walk_range {Z B : Addr → Prop} {H1 : Hp} {lo hi : Int} : WalkT Z B (Itr lo (hi - lo).toNat) H1 (rangeL lo hi) where
  go := fun i H' k hi => by simpa [rangeL, Itr] using hi
  yld := fun i H' x H'' B2 k hb hd y t e => by
    obtain ⟨rfl, rfl⟩ := y
    refine ⟨fun _ _ z => z, ?_⟩
    unfold rangeL at e
    rw [List.getElem?_map] at e
    obtain ⟨j, e1, e2⟩ := Option.map_eq_some_iff.mp e
    have := List.getElem?_eq_some_iff.mp e1
    obtain ⟨h1, h2⟩ := this
    rw [List.getElem_range] at h2
    subst h2
    subst e2
    exact rp_int
  stop := fun i H' k hi => by simpa [rangeL, Itr] using hi
/-- a list or a tuple: its items -/
def dItems (d : De) : Da := fun ρ w => (d ρ w).bind fun p => match p.1 with
  | .list xs => some (xs, p.2)
  | .tuple xs => some (xs, p.2)
  | _ => none
/-- a list or a tuple, whichever the value is -/
def iSeq (K : PySem.W.Frag) (tl : TE) : TI := fun σ H R => tl σ H fun x H1 => ∃ a, x = .ref a ∧ ((∃ xs, SqL K H1 a xs ∧ R (Itl K a) H1) ∨ (∃ xs, SqT K H1 a xs ∧ R (Itt K a) H1))
theorem pi_seq {l : Expr} {tl : TE} (hl : PE X l tl) : PI X tg l (iSeq X.K tl) := by
  constructor
  intro pins s σ H R I h
  refine thn (hl.run pins s σ H _ I h) ?_
  rintro v s1 ⟨x, H1, I1, r1, a, rfl, q⟩
  cases r1
  have fp : ∀ b ∈ [s1.heap.objs.size], FpOk X pins H1 b := fun b hb => by
    have e : b = s1.heap.objs.size := by simpa using hb
    subst e
    exact I1.fpOk (Nat.le_refl _) (I1.hok.fresh (Nat.le_refl _))
  rcases q with ⟨xs, hq, q⟩ | ⟨xs, hq, q⟩
  · obtain ⟨its, rv, p, hz⟩ := I1.list hq
    apply wpAny_pyIter_list p.isList
    have I2 := I1.kept (t' := s1.toks) (h' := s1.heap.push { cls := .type "list_iterator", data := .fields #[.ref a, .int 0 0] }) fun b o z => Heap.get?_push_of_some _ z
    exact ⟨s1.heap.objs.size, [s1.heap.objs.size], _, _, H1, rfl, I2, turn_list a _, ⟨_, Heap.get?_push_size _ rfl, rfl, rfl⟩, fp, q⟩
  · obtain ⟨its, rv, p, hz⟩ := I1.tuple hq
    apply wpAny_pyIter_tuple (show s1.heap.IsTuple a its.toArray from p)
    have I2 := I1.kept (t' := s1.toks) (h' := s1.heap.push { cls := .type "tuple_iterator", data := .fields #[.ref a, .int 0 0] }) fun b o z => Heap.get?_push_of_some _ z
    exact ⟨s1.heap.objs.size, [s1.heap.objs.size], _, _, H1, rfl, I2, turn_tuple a _, ⟨_, Heap.get?_push_size _ rfl, rfl, rfl⟩, fp, q⟩
theorem items_open {ρ : Rho} {w : Ws} {xs : List D} {w' : Ws} (h : dItems de ρ w = some (xs, w')) : de ρ w = some (.list xs, w') ∨ de ρ w = some (.tuple xs, w') := by
  obtain ⟨⟨x, w1⟩, e1, h⟩ := Option.bind_eq_some_iff.mp h
  cases x with
  | list ys => cases h; exact .inl e1
  | tuple ys => cases h; exact .inr e1
  | _ => cases h
/-- for x in e: strict -/
theorem i_seq (h : PE X e (tE de)) : PI X tg e (tI false (dItems de)) := by
  refine PI.weak (pi_seq h) fun σ H Rr ⟨aw, B, ρ, w, xs, w', r, q, k⟩ => ?_
  rcases items_open q with q | q
  · refine ⟨aw, B, ρ, w, _, w', r, q, fun v H1 s rp => ?_⟩
    simp only [Rp] at rp
    obtain ⟨a, vs, rfl, nb, ha, rl⟩ := rp
    exact ⟨a, rfl, .inl ⟨vs, SqL.of ha, k _ H1 s (walk_list (fun _ z => by simpa [Zb] using z) (by simpa [Zb] using nb) ha rl)⟩⟩
  · refine ⟨aw, B, ρ, w, _, w', r, q, fun v H1 s rp => ?_⟩
    simp only [Rp] at rp
    obtain ⟨a, vs, rfl, nb, ha, rl⟩ := rp
    exact ⟨a, rfl, .inr ⟨vs, SqT.of ha, k _ H1 s (walk_tup (fun _ z => by simpa [Zb] using z) (by simpa [Zb] using nb) ha rl)⟩⟩
theorem i_seqQ (h : PE X e (tQ de)) : PI X tg e (tI true (dItems de)) := by
  refine PI.weak (pi_seq h) fun σ H Rr ⟨aw, B, ρ, w, xs, w', r, q, k⟩ => ?_
  have hz : ∀ a, aw = some a → B a := fun a z => (r.wl a z).1
  rcases items_open q with q | q
  · refine ⟨aw, B, ρ, w, _, w', r, q, fun v H1 s rp => ?_⟩
    obtain ⟨a, vs, rfl, nb, ha, rl⟩ := rp.lst (r.step s).toOk
    exact ⟨a, rfl, .inl ⟨vs, SqL.of ha, k _ H1 s (walk_list (fun a z => hz a (by simpa [Zb] using z)) (by simpa [Zb] using nb) ha rl)⟩⟩
  · refine ⟨aw, B, ρ, w, _, w', r, q, fun v H1 s rp => ?_⟩
    obtain ⟨a, vs, rfl, nb, ha, rl⟩ := rp.tup (r.step s).toOk
    exact ⟨a, rfl, .inr ⟨vs, SqT.of ha, k _ H1 s (walk_tup (fun a z => hz a (by simpa [Zb] using z)) (by simpa [Zb] using (r.step s).toOk.ne nb) ha rl)⟩⟩
def rOk (i : Int) : Bool := decide (-(2 ^ 62) ≤ i ∧ i < 2 ^ 62)
def dRng1 (d : Da) : Da := fun ρ w => (d ρ w).bind fun p => match p.1 with
  | [.int j] => if rOk j then some (rangeL 0 j, p.2) else none
  | _ => none
def dRng2 (d : Da) : Da := fun ρ w => (d ρ w).bind fun p => match p.1 with
  | [.int i, .int j] => if rOk i && rOk j then some (rangeL i j, p.2) else none
  | _ => none
theorem i_rng1 {a : Expr} {r : Da} {p pos : Pos} (hg : Gl X "range") (hm : X.mg "range" = none) (ha : PA X [a] (tA r)) (hs : starEach [a] X.env = [(false, eval a X.env)]) : PI X tg (.Call (.Name "range" p) [a] [] pos) (tI false (dRng1 r)) := by
  refine PI.weak (pi_range1 hg hm ha hs) fun σ H Rr ⟨aw, B, ρ, w, xs, w', rr, q, k⟩ => ?_
  obtain ⟨⟨ts, w1⟩, e1, h⟩ := Option.bind_eq_some_iff.mp q
  dsimp only at h
  split at h
  · rename_i j
    split at h
    · rename_i hj
      cases h
      have hj' := of_decide_eq_true hj
      refine ⟨aw, B, ρ, w, _, _, rr, e1, fun vs H1 s rl => ?_⟩
      obtain ⟨v, r', rfl, rp, rl⟩ := rl.cons_inv
      have := rl.nil_inv
      subst this
      simp only [Rp] at rp
      subst rp
      refine ⟨j, rfl, hj'.1, hj'.2, k _ H1 s ?_⟩
      have := walk_range (Z := Zb false aw B) (B := B) (H1 := H1) (lo := 0) (hi := j)
      rwa [Int.sub_zero] at this
    · cases h
  · cases h
theorem i_rng2 {a b : Expr} {r : Da} {p pos : Pos} (hg : Gl X "range") (hm : X.mg "range" = none) (ha : PA X [a, b] (tA r)) (hs : starEach [a, b] X.env = [(false, eval a X.env), (false, eval b X.env)]) (hs2 : starEach [b] X.env = [(false, eval b X.env)]) : PI X tg (.Call (.Name "range" p) [a, b] [] pos) (tI false (dRng2 r)) := by
  refine PI.weak (pi_range2 hg hm ha hs hs2) fun σ H Rr ⟨aw, B, ρ, w, xs, w', rr, q, k⟩ => ?_
  obtain ⟨⟨ts, w1⟩, e1, h⟩ := Option.bind_eq_some_iff.mp q
  dsimp only at h
  split at h
  · rename_i i j
    split at h
    · rename_i hj
      cases h
      rw [Bool.and_eq_true] at hj
      have h1 := of_decide_eq_true hj.1
      have h2 := of_decide_eq_true hj.2
      refine ⟨aw, B, ρ, w, _, _, rr, e1, fun vs H1 s rl => ?_⟩
      obtain ⟨v, r', rfl, rp, rl⟩ := rl.cons_inv
      obtain ⟨v2, r2, rfl, rp2, rl⟩ := rl.cons_inv
      have := rl.nil_inv
      subst this
      simp only [Rp] at rp rp2
      subst rp rp2
      exact ⟨i, j, rfl, ⟨h1.1, h1.2, h2.1, h2.2⟩, k _ H1 s walk_range⟩
    · cases h
  · cases h
/-- zip of two lists, or of two tuples -/
def dZip (d : Da) : Da := fun ρ w => (d ρ w).bind fun p => match p.1 with
  | [.list xs, .list ys] => some ((xs.zip ys).map fun q => .tuple [q.1, q.2], p.2)
  | [.tuple xs, .tuple ys] => some ((xs.zip ys).map fun q => .tuple [q.1, q.2], p.2)
  | _ => none
theorem zip_item {xs ys : List D} {i : Nat} {t : D} (e : ((xs.zip ys).map fun q => PyData.tuple [q.1, q.2])[i]? = some t) : ∃ x y, xs[i]? = some x ∧ ys[i]? = some y ∧ t = .tuple [x, y] := by
  rw [List.getElem?_map] at e
  obtain ⟨⟨x, y⟩, e1, e2⟩ := Option.map_eq_some_iff.mp e
  obtain ⟨h1, h2⟩ := List.getElem?_zip_eq_some.mp e1
  exact ⟨x, y, h1, h2, e2.symm⟩
theorem pair_rp {H' : Hp} {B2 : Addr → Prop} {T : Addr} {x y : V} {a b : D} (hd : ∀ a, B2 a → H' a ≠ none) (hT : H' T = none) (h1 : Rp (upd H' T (.tup [x, y])) B2 a x) (h2 : Rp (upd H' T (.tup [x, y])) B2 b y) :
    Rp (upd H' T (.tup [x, y])) B2 (.tuple [a, b]) (.ref T) := by
  simp only [Rp]
  exact ⟨T, _, rfl, fun z => hd T z hT, upd_same, rpl_cons h1 (rpl_cons h2 rpl_nil)⟩
theorem walk_zip {K : PySem.W.Frag} {Z B : Addr → Prop} {H1 : Hp} {a b : Addr} {vs ws : List V} {xs ys : List D} (hZ : ∀ a, Z a → B a) (na : ¬ Z a) (nb : ¬ Z b) (ha : H1 a = some (.lst vs)) (hb : H1 b = some (.lst ws)) (r : RpL H1 B xs vs) (r2 : RpL H1 B ys ws) :
    WalkT Z B (Itz K a b) H1 ((xs.zip ys).map fun q => .tuple [q.1, q.2]) where
  go := fun i H' k hi => by
    rw [List.length_map, List.length_zip] at hi
    have h1 : i < vs.length := by rw [← r.len]; omega
    have h2 : i < ws.length := by rw [← r2.len]; omega
    exact ⟨vs, ws, vs[i], ws[i], SqL.of (k a _ ha na), SqL.of (k b _ hb nb), by simp [h1], by simp [h2]⟩
  yld := fun i H' x H'' B2 k hB hd y t e => by
    obtain ⟨T, v1, v2, rfl, hT, rfl, q1, q2⟩ := y
    obtain ⟨t1, t2, e1, e2, rfl⟩ := zip_item e
    have kk : ∀ a o, H' a = some o → upd H' T (.tup [v1, v2]) a = some o := fun a o z => by rw [upd_ne (ne_of_none z hT)]; exact z
    exact ⟨kk, pair_rp hd hT (of_rpl Z hZ r k hB kk e1 (q1 vs (SqL.of (k a _ ha na)))) (of_rpl Z hZ r2 k hB kk e2 (q2 ws (SqL.of (k b _ hb nb))))⟩
  stop := fun i H' k hi => by
    rw [List.length_map, List.length_zip] at hi
    refine ⟨vs, ws, SqL.of (k a _ ha na), SqL.of (k b _ hb nb), ?_⟩
    rw [← r.len, ← r2.len]
    omega
theorem walk_zipT {K : PySem.W.Frag} {Z B : Addr → Prop} {H1 : Hp} {a b : Addr} {vs ws : List V} {xs ys : List D} (hZ : ∀ a, Z a → B a) (na : ¬ Z a) (nb : ¬ Z b) (ha : H1 a = some (.tup vs)) (hb : H1 b = some (.tup ws)) (r : RpL H1 B xs vs) (r2 : RpL H1 B ys ws) :
    WalkT Z B (RZ.ItzT K a b) H1 ((xs.zip ys).map fun q => .tuple [q.1, q.2]) where
  go := fun i H' k hi => by
    rw [List.length_map, List.length_zip] at hi
    have h1 : i < vs.length := by rw [← r.len]; omega
    have h2 : i < ws.length := by rw [← r2.len]; omega
    exact ⟨vs, ws, vs[i], ws[i], SqT.of (k a _ ha na), SqT.of (k b _ hb nb), by simp [h1], by simp [h2]⟩
  yld := fun i H' x H'' B2 k hB hd y t e => by
    obtain ⟨T, v1, v2, rfl, hT, rfl, q1, q2⟩ := y
    obtain ⟨t1, t2, e1, e2, rfl⟩ := zip_item e
    have kk : ∀ a o, H' a = some o → upd H' T (.tup [v1, v2]) a = some o := fun a o z => by rw [upd_ne (ne_of_none z hT)]; exact z
    exact ⟨kk, pair_rp hd hT (of_rpl Z hZ r k hB kk e1 (q1 vs (SqT.of (k a _ ha na)))) (of_rpl Z hZ r2 k hB kk e2 (q2 ws (SqT.of (k b _ hb nb))))⟩
  stop := fun i H' k hi => by
    rw [List.length_map, List.length_zip] at hi
    refine ⟨vs, ws, SqT.of (k a _ ha na), SqT.of (k b _ hb nb), ?_⟩
    rw [← r.len, ← r2.len]
    omega
theorem RqL.inv2 {aw : Option Addr} {H : Hp} {B : Addr → Prop} {t u : D} {xs : List V} (h : RqL aw H B [t, u] xs) : ∃ x y, xs = [x, y] ∧ Rq aw H B t x ∧ Rq aw H B u y := h.two
/-- peek at both -/
theorem i_zip {elts : List Expr} {kk : Nat} {e2 : Expr} {r : Da} {p pos tpos : Pos} (hg : Gl X "zip") (hm : X.mg "zip" = none) (ha : PA X [e, e2] (tAQ r)) (h1 : starEach [e, e2] X.env = (false, eval e X.env) :: starEach [e2] X.env) (hpl : (backTo pos (starEach [e2] X.env)).any (·.1) = false) :
    PI X (.Tuple elts kk tpos) (.Call (.Name "zip" p) [e, e2] [] pos) (tI true (dZip r)) := by
  refine PI.weak (RZ.pi_zipA hg hm ha h1 hpl) fun σ H Rr ⟨aw, B, ρ, w, xs, w', rr, q, k⟩ => ?_
  have hz : ∀ a, aw = some a → B a := fun a z => (rr.wl a z).1
  obtain ⟨⟨ts, w1⟩, e1, h⟩ := Option.bind_eq_some_iff.mp q
  dsimp only at h
  split at h
  · cases h
    refine ⟨aw, B, ρ, w, _, _, rr, e1, fun vs H1 s rl => ?_⟩
    obtain ⟨x, y, rfl, q1, q2⟩ := rl.inv2
    obtain ⟨a, vs, rfl, na, ha, r1⟩ := q1.lst (rr.step s).toOk
    obtain ⟨b, ws, rfl, nb, hb, r2⟩ := q2.lst (rr.step s).toOk
    exact ⟨a, b, vs, ws, rfl, .inl ⟨SqL.of ha, SqL.of hb, k _ H1 s (walk_zip (fun a z => hz a (by simpa [Zb] using z)) (by simpa [Zb] using na) (by simpa [Zb] using nb) ha hb r1 r2)⟩⟩
  · cases h
    refine ⟨aw, B, ρ, w, _, _, rr, e1, fun vs H1 s rl => ?_⟩
    obtain ⟨x, y, rfl, q1, q2⟩ := rl.inv2
    have o := (rr.step s).toOk
    obtain ⟨a, vs, rfl, na, ha, r1⟩ := q1.tup o
    obtain ⟨b, ws, rfl, nb, hb, r2⟩ := q2.tup o
    exact ⟨a, b, vs, ws, rfl, .inr ⟨SqT.of ha, SqT.of hb, k _ H1 s (walk_zipT (fun a z => hz a (by simpa [Zb] using z)) (by simpa [Zb] using o.ne na) (by simpa [Zb] using o.ne nb) ha hb r1 r2)⟩⟩
  · cases h
end
end Mi
namespace Mi
open PySem PySem.Spec PyProof.Rows L2

/-! ### targets -/
abbrev Tg := D → Rho → Option Rho
abbrev Tgs := List D → Rho → Option Rho
/-- only the slots of sl are stored, with data -/
def TgS (sl : List Nat) (g : Tg) : Prop := ∀ t ρ ρ', g t ρ = some ρ' → ρ'.length = ρ.length ∧ ∀ (j : Nat), j ∉ sl → ρ'[j]? = ρ[j]?
def Out (sl : List Nat) (σ σ' : L2.St) : Prop := σ'.length = σ.length ∧ ∀ (j : Nat), j ∉ sl → σ'[j]? = σ[j]?
theorem Out.refl {sl : List Nat} {σ : L2.St} : Out sl σ σ := ⟨rfl, fun _ _ => rfl⟩
theorem Out.trans {sl : List Nat} {σ σ1 σ2 : L2.St} (a : Out sl σ σ1) (b : Out sl σ1 σ2) : Out sl σ σ2 := ⟨b.1.trans a.1, fun j h => (b.2 j h).trans (a.2 j h)⟩
theorem Out.mono {sl sl' : List Nat} {σ σ' : L2.St} (a : Out sl σ σ') (h : ∀ j ∈ sl, j ∈ sl') : Out sl' σ σ' := ⟨a.1, fun j n => a.2 j fun z => n (h j z)⟩
def tG (sl : List Nat) (g : Tg) : TG := fun v σ H Q => ∃ aw B ρ w t ρ', R aw B ρ w σ H ∧ Rp H B t v ∧ g t ρ = some ρ' ∧ ∀ σ', R aw B ρ' w σ' H → Out sl σ σ' → (∀ (j : Nat), j ∈ sl → ∀ c, ρ'[j]? = some (some c) → ∃ t, c = .val t) → Q σ' H
def tGs (sl : List Nat) (g : Tgs) : TGs := fun vs σ H Q => ∃ aw B ρ w ts ρ', R aw B ρ w σ H ∧ RpL H B ts vs ∧ g ts ρ = some ρ' ∧ ∀ σ', R aw B ρ' w σ' H → Out sl σ σ' → (∀ (j : Nat), j ∈ sl → ∀ c, ρ'[j]? = some (some c) → ∃ t, c = .val t) → Q σ' H
def gNm (i : Nat) : Tg := fun t ρ => if i < ρ.length then some (ρ.set i (some (.val t))) else none
def gN : Tgs := fun ts ρ => if ts.isEmpty then some ρ else none
def gC (g : Tg) (r : Tgs) : Tgs
  | t :: ts, ρ => (g t ρ).bind fun ρ' => r ts ρ'
  | [], _ => none
def gTp (r : Tgs) : Tg
  | .tuple ts, ρ => r ts ρ
  | .list ts, ρ => r ts ρ
  | _, _ => none
section
variable {X : Cx} {e : Expr} {es : List Expr} {pos : Pos} {x : Str} {i : Nat} {sl sl' : List Nat} {g : Tg} {gs : Tgs}
theorem R.put {aw : Option Addr} {B : Addr → Prop} {ρ : Rho} {w : Ws} {σ : L2.St} {H : Hp} {t : D} {v : V} (r : R aw B ρ w σ H) (h : Rp H B t v) (hi : i < ρ.length) : R aw B (ρ.set i (some (.val t))) w (σ.set i (some v)) H :=
  { r.toOk with
    len := by rw [List.length_set, List.length_set]; exact r.len
    cell := fun j c e => by
      by_cases hj : i = j
      · subst hj
        rw [List.getElem?_set_self hi] at e
        cases e
        rw [List.getElem?_set_self (Nat.lt_of_lt_of_le hi r.len)]
        exact ⟨v, rfl, h⟩
      · rw [List.getElem?_set_ne hj] at e ⊢
        exact r.cell j c e }
theorem g_nm (hN : X.N.Nodup) (hi : X.N[i]? = some x) (hx : Loc X.env.scope x) (hf : X.fn x = true ∨ X.env.scope.names.lookup x = some .local) : PG X (.Name x pos) (tG [i] (gNm i)) := by
  refine PG.weak (pg_name hN hi hx hf) fun v σ H Q ⟨aw, B, ρ, w, t, ρ', r, rp, q, k⟩ => ?_
  unfold gNm at q
  split at q
  · rename_i hl
    cases q
    refine k _ (r.put rp hl) ⟨by rw [List.length_set], fun j n => by rw [List.getElem?_set_ne (by simpa using Ne.symm (by simpa using n))]⟩ ?_
    intro j hj c e
    have : j = i := by simpa using hj
    subst this
    rw [List.getElem?_set_self hl] at e
    cases e
    exact ⟨t, rfl⟩
  · cases q
theorem gs_nil : PGs X [] (tGs [] gN) := by
  refine PGs.weak pgs_nil fun v σ H Q ⟨aw, B, ρ, w, ts, ρ', r, rp, q, k⟩ => ?_
  unfold gN at q
  split at q
  · rename_i h
    cases q
    have : ts = [] := by simpa using h
    subst this
    exact ⟨rp.nil_inv, k σ r .refl fun _ z => by simp at z⟩
  · cases q
theorem gs_cons (h1 : PG X e (tG sl g)) (h2 : PGs X es (tGs sl' gs)) (hs : (assignEach (e :: es) X.env).map (·.2) = assign e X.env :: (assignEach es X.env).map (·.2)) (hd : ∀ t ρ ρ', gs t ρ = some ρ' → ∀ (j : Nat), j ∉ sl' → ρ'[j]? = ρ[j]?) : PGs X (e :: es) (tGs (sl ++ sl') (gC g gs)) := by
  refine PGs.weak (pgs_cons h1 h2 hs) fun vs σ H Q ⟨aw, B, ρ, w, ts, ρ', r, rl, q, k⟩ => ?_
  cases ts with
  | nil => cases q
  | cons t ts =>
    obtain ⟨ρ1, e1, e2⟩ := Option.bind_eq_some_iff.mp q
    obtain ⟨v, rs, rfl, rp, rl⟩ := rl.cons_inv
    refine ⟨v, rs, rfl, aw, B, ρ, w, t, ρ1, r, rp, e1, fun σ1 r1 o1 d1 => ⟨aw, B, ρ1, w, ts, ρ', r1, rl, e2, fun σ2 r2 o2 d2 => k σ2 r2 ?_ ?_⟩⟩
    · exact (o1.mono fun j h => List.mem_append_left _ h).trans (o2.mono fun j h => List.mem_append_right _ h)
    · intro j hj c ec
      by_cases h : j ∈ sl'
      · exact d2 j h c ec
      · rw [hd _ _ _ e2 j h] at ec
        exact d1 j ((List.mem_append.mp hj).resolve_right h) c ec
theorem g_tp {k n : Nat} (hc : X.calm = true) (h : PGs X es (tGs sl gs)) (hn : (assignEach es X.env).length = n) (hst : (assignEach es X.env).findIdx? (·.1) = none) (hl : ∀ ts ρ ρ', gs ts ρ = some ρ' → ts.length = n) : PG X (.Tuple es k pos) (tG sl (gTp gs)) := by
  have both : PG X (.Tuple es k pos) (fun v σ H Q => gTup X.K n (tGs sl gs) v σ H Q ∨ gUnl X.K n (tGs sl gs) v σ H Q) :=
    ⟨fun pins s σ H v u Q I r h2 => h2.elim ((pg_tup hc h hn hst).run pins s σ H v u Q I r) ((pg_unl hc h hn hst).run pins s σ H v u Q I r)⟩
  refine PG.weak both fun v σ H Q ⟨aw, B, ρ, w, t, ρ', r, rp, q, k⟩ => ?_
  cases t with
  | tuple ts =>
    simp only [Rp] at rp
    obtain ⟨a, vs, rfl, nb, ha, rl⟩ := rp
    exact .inl ⟨a, vs, rfl, SqT.of ha, by rw [← rl.len]; exact hl _ _ _ q, aw, B, ρ, w, ts, ρ', r, rl, q, k⟩
  | list ts =>
    simp only [Rp] at rp
    obtain ⟨a, vs, rfl, nb, ha, rl⟩ := rp
    exact .inr ⟨a, vs, rfl, SqL.of ha, by rw [← rl.len]; exact hl _ _ _ q, aw, B, ρ, w, ts, ρ', r, rl, q, k⟩
  | _ => cases q
/-! #### what the stores leave alone, how many they take -/
theorem tgs_nm : TgS [i] (gNm i) := fun t ρ ρ' h => by
  unfold gNm at h
  split at h
  · cases h
    exact ⟨by rw [List.length_set], fun j n => by rw [List.getElem?_set_ne (by simpa using Ne.symm (by simpa using n))]⟩
  · cases h
def TgsS (sl : List Nat) (n : Nat) (g : Tgs) : Prop := ∀ t ρ ρ', g t ρ = some ρ' → t.length = n ∧ ρ'.length = ρ.length ∧ ∀ (j : Nat), j ∉ sl → ρ'[j]? = ρ[j]?
theorem tgs_nil : TgsS [] 0 gN := fun t ρ ρ' h => by
  unfold gN at h
  split at h
  · cases h
    rename_i q
    exact ⟨by simpa using q, rfl, fun _ _ => rfl⟩
  · cases h
theorem tgs_cons {n : Nat} (h1 : TgS sl g) (h2 : TgsS sl' n gs) : TgsS (sl ++ sl') (n + 1) (gC g gs) := fun t ρ ρ' h => by
  cases t with
  | nil => cases h
  | cons t ts =>
    obtain ⟨ρ1, e1, e2⟩ := Option.bind_eq_some_iff.mp h
    obtain ⟨a1, a2⟩ := h1 _ _ _ e1
    obtain ⟨b1, b2, b3⟩ := h2 _ _ _ e2
    refine ⟨by simp [b1], b2.trans a1, fun j n => ?_⟩
    rw [b3 j fun z => n (List.mem_append_right _ z), a2 j fun z => n (List.mem_append_left _ z)]
theorem tgs_tp {n : Nat} (h : TgsS sl n gs) : TgS sl (gTp gs) := fun t ρ ρ' q => by
  cases t with
  | tuple ts => exact (h ts ρ ρ' q).2
  | list ts => exact (h ts ρ ρ' q).2
  | _ => cases q
theorem gs_cons' {n : Nat} (h1 : PG X e (tG sl g)) (h2 : PGs X es (tGs sl' gs)) (d2 : TgsS sl' n gs) (hs : (assignEach (e :: es) X.env).map (·.2) = assign e X.env :: (assignEach es X.env).map (·.2)) : PGs X (e :: es) (tGs (sl ++ sl') (gC g gs)) :=
  gs_cons h1 h2 hs fun _ _ _ q => (d2 _ _ _ q).2.2
theorem g_tp' {k n : Nat} (hc : X.calm = true) (h : PGs X es (tGs sl gs)) (d : TgsS sl n gs) (hn : (assignEach es X.env).length = n) (hst : (assignEach es X.env).findIdx? (·.1) = none) : PG X (.Tuple es k pos) (tG sl (gTp gs)) :=
  g_tp hc h hn hst fun _ _ _ q => (d _ _ _ q).1
end

/-! ### comprehensions -/
def wipeR (ρ : Rho) : List Nat → Rho
  | [] => ρ
  | v :: vs => (wipeR ρ vs).set v none
theorem wipeR_len (ρ : Rho) : ∀ vs : List Nat, (wipeR ρ vs).length = ρ.length
  | [] => rfl
  | v :: vs => by unfold wipeR; rw [List.length_set, wipeR_len ρ vs]
theorem wipeR_in {ρ : Rho} {j : Nat} : ∀ {vs : List Nat} {c : Cl}, (wipeR ρ vs)[j]? = some (some c) → j ∉ vs ∧ ρ[j]? = some (some c)
  | [], c, h => ⟨by simp, h⟩
  | v :: vs, c, h => by
    unfold wipeR at h
    by_cases hj : v = j
    · subst hj
      rw [List.getElem?_set] at h
      split at h
      · split at h <;> cases h
      · exact absurd rfl ‹_›
    · rw [List.getElem?_set_ne hj] at h
      obtain ⟨a, b⟩ := wipeR_in h
      exact ⟨by simp only [List.mem_cons, not_or]; exact ⟨fun z => hj z.symm, a⟩, b⟩
theorem R.wipe {aw : Option Addr} {B : Addr → Prop} {ρ : Rho} {w : Ws} {σ : L2.St} {H : Hp} (r : R aw B ρ w σ H) (vs : List Nat) : R aw B (wipeR ρ vs) w (L2.wipe σ vs) H :=
  { r.toOk with
    len := by rw [wipeR_len, L2.wipe_length]; exact r.len
    cell := fun j c e => by
      obtain ⟨n, e'⟩ := wipeR_in e
      rw [L2.wipe_out n]
      exact r.cell j c e' }
theorem wipe_eq {σ : L2.St} {sl : List Nat} {σ' : L2.St} : ∀ {vs : List Nat}, Out sl σ σ' → (∀ j ∈ sl, j ∈ vs) → L2.wipe σ' vs = L2.wipe σ vs := fun {vs} o h => by
  apply List.ext_getElem?
  intro j
  by_cases hj : j ∈ vs
  · have key : ∀ (τ : L2.St) (vs : List Nat), j ∈ vs → (L2.wipe τ vs)[j]? = if j < τ.length then some none else none := by
      intro τ vs
      induction vs with
      | nil => intro h; simp at h
      | cons v vs ih =>
        intro h
        show ((L2.wipe τ vs).set v none)[j]? = _
        by_cases hv : v = j
        · subst hv
          rw [List.getElem?_set]
          simp [L2.wipe_length]
        · rw [List.getElem?_set_ne hv]
          exact ih ((List.mem_cons.mp h).resolve_left fun z => hv z.symm)
    rw [key _ _ hj, key _ _ hj, o.1]
  · rw [L2.wipe_out hj, L2.wipe_out hj, o.2 j fun z => hj (h j z)]
theorem wipe_wipe {σ : L2.St} {vs : List Nat} : L2.wipe (L2.wipe σ vs) vs = L2.wipe σ vs := by
  refine wipe_eq (sl := vs) ⟨L2.wipe_length _ _, fun j h => L2.wipe_out h⟩ fun _ h => h

def compGo (ρ0 : Rho) (g : Tg) (c : Dt) (e : De) : List D → Ws → Option (List D × Ws)
  | [], w => some ([], w)
  | t :: ts, w => (g t ρ0).bind fun ρ => (c ρ w).bind fun p =>
    if p.1 then (e ρ p.2).bind fun q => (compGo ρ0 g c e ts q.2).map fun r => (q.1 :: r.1, r.2) else compGo ρ0 g c e ts p.2
def dComp (vs : List Nat) (it : Da) (g : Tg) (c : Dt) (e : De) : De := fun ρ w => (it ρ w).bind fun p =>
  if p.1.length ≤ 100000 then (compGo (wipeR ρ vs) g c e p.1 p.2).map fun q => (.list q.1, q.2) else none
def dYes : Dt := fun _ w => some (true, w)
theorem dComp_lst {vs : List Nat} {it : Da} {g : Tg} {c : Dt} {e : De} {ρ : Rho} {w : Ws} {t : D} {w' : Ws} (h : dComp vs it g c e ρ w = some (t, w')) : ∃ ts, t = .list ts := by
  obtain ⟨p, _, h⟩ := Option.bind_eq_some_iff.mp h
  split at h
  · obtain ⟨q, _, h⟩ := Option.map_eq_some_iff.mp h
    cases h
    exact ⟨_, rfl⟩
  · cases h
def tTs (d : Dt) : TT := tT d
section
variable {X : Cx} {tg iter elt : Expr} {ifs : List Expr} {scope : Scope} {own : List (Str × Nat)} {pos : Pos} {b : Bool} {it : Da} {g : Tg} {c : Dt} {de : De} {sl : List Nat}
theorem ts_nil : PTs X [] (tT dYes) := ⟨fun pins s σ H Q I ⟨aw, B, ρ, w, t, w', r, q, k⟩ => pts_nil.run pins s σ H Q I (by cases q; exact k H r.stp)⟩
theorem ts_one {e : Expr} (h : PT X e (tT c)) : PTs X [e] (tT c) := pts_one h
/-- the reading of a comprehension, from its meaning -/
theorem lc_go {vs : List Nat} (hsl : ∀ j ∈ sl, j ∈ vs) {σ : L2.St} {H : Hp} {Q : VK} :
    tF (dComp vs it g c de) σ H Q → tLc (tI b it) (tG sl g) (tT c) (tE de) vs σ H Q := fun ⟨aw, B, ρ, w, ts, w', r, q, k⟩ => by
  obtain ⟨⟨xs, w1⟩, e1, h⟩ := Option.bind_eq_some_iff.mp q
  dsimp only at h
  split at h
  · rename_i hlen
    obtain ⟨⟨zs, w2⟩, e2, h⟩ := Option.map_eq_some_iff.mp h
    cases h
    refine ⟨aw, B, ρ, w, xs, w1, r, e1, fun J H1 s1 wk L hL => ?_⟩
    have r1 := r.step s1
    have hLH : H L = none := fresh_back' s1 hL
    have nBL : ¬ B L := r1.toOk.fresh hL
    have nAL : aw ≠ some L := fun z => nBL (r1.wl L z).1
    -- the invariant
    let Wi : Nat → Nat → Hp → Prop := fun i m H' => m = xs.length - i ∧ i ≤ xs.length ∧ ∃ (acc : List D) (vacc : List V) (wi : Ws) (rest : List D),
      Kp (fun a => aw = some a) H1 H' ∧ (∀ a, aw = some a → H' a = some (.lst (wi.map .int))) ∧ H' L = some (.lst vacc) ∧ RpL H' (Bx B L) acc vacc ∧ acc.length ≤ i ∧
      compGo (wipeR ρ vs) g c de (xs.drop i) wi = some (rest, w2) ∧ acc ++ rest = zs
    refine ⟨Wi, ⟨xs.length, by simp, Nat.zero_le _, [], [], w1, zs, ?_, ?_, upd_same, rpl_nil, Nat.zero_le _, by simpa using e2, rfl⟩, ?_⟩
    · intro a o e n
      rw [upd_ne (ne_of_none e hL)]
      exact e
    · intro a e
      have := s1.2 a e
      rw [upd_ne (ne_of_none this hL)]
      exact this
    · rintro i m H' ⟨rfl, hi, acc, vacc, wi, rest, kp, wl, hl, ra, la, eg, et⟩
      have kpZ : Kp (Zb b aw B) H1 H' := fun a o e n => kp a o e fun z => n (by
        cases b
        · simpa [Zb] using (r.wl a z).1
        · simpa [Zb] using z)
      have stp' : Stp aw H H' wi := ⟨fun a o e n => kp a o (s1.1 a o e n) n, wl⟩
      by_cases hlt : i < xs.length
      · refine .inr ⟨wk.go i H' kpZ hlt, fun H2 => ∃ m', m' < xs.length - i ∧ Wi (i + 1) m' H2, fun H2 h => h, fun x H2 y => ?_⟩
        have eq : xs.drop i = xs[i] :: xs.drop (i + 1) := List.drop_eq_getElem_cons hlt
        rw [eq] at eg
        obtain ⟨ρ1, g1, eg⟩ := Option.bind_eq_some_iff.mp eg
        obtain ⟨⟨bc, w3⟩, g2, eg⟩ := Option.bind_eq_some_iff.mp eg
        have domL : ∀ a, Bx B L a → H' a ≠ none := fun a ha => ha.elim (fun z => (r.step stp').dom a z) fun z => by rw [z, hl]; exact fun q => nomatch q
        obtain ⟨yk, yr⟩ := wk.yld i H' x H2 (Bx B L) kpZ (fun a ha => ha.elim .inl fun z => .inr (by rw [z]; exact hL)) domL y xs[i] (by simp [hlt])
        have stp2 : Stp aw H H2 wi := ⟨fun a o e n => yk a o (stp'.1 a o e n), fun a e => yk a _ (wl a e)⟩
        have hl2 := yk L _ hl
        have r2 := r.step stp2
        -- the state with the list that grows among what may change
        have r3 : R aw (Bx B L) ρ wi σ H2 :=
          { dom := fun a ha => ha.elim (r2.dom a) fun z => by rw [z, hl2]; exact fun q => nomatch q
            wl := fun a e => ⟨.inl (r2.wl a e).1, (r2.wl a e).2⟩
            len := r2.len
            cell := fun j cl e => by
              have q := r.cell j cl e
              cases cl with
              | val t =>
                obtain ⟨v, ev, rp⟩ := q
                exact ⟨v, ev, rp.mv fun a o z n => ⟨stp2.1 a o z (r.toOk.ne n), fun y => y.elim n fun y => by rw [y, hLH] at z; cases z⟩⟩
              | own us =>
                obtain ⟨a, vs', ev, ba, na, ha, rl⟩ := q
                exact ⟨a, vs', ev, .inl ba, na, stp2.1 a _ ha na, rl.mv fun a o z n => ⟨stp2.1 a o z (r.toOk.ne n), fun y => y.elim n fun y => by rw [y, hLH] at z; cases z⟩⟩
              | well => exact q }
        refine ⟨aw, Bx B L, wipeR ρ vs, wi, xs[i], ρ1, r3.wipe vs, yr, g1, fun σ' r4 o4 d4 => ⟨?_, ?_⟩⟩
        · rw [wipe_eq o4 hsl, wipe_wipe]
        · refine ⟨aw, Bx B L, ρ1, wi, bc, w3, r4, g2, fun H3 s3 => ?_⟩
          have hl3 := s3.1 L _ hl2 nAL
          cases bc with
          | true =>
            obtain ⟨⟨t4, w4⟩, g4, eg⟩ := Option.bind_eq_some_iff.mp (show _ = _ from eg)
            obtain ⟨⟨rs, w5⟩, g5, eg⟩ := Option.map_eq_some_iff.mp eg
            cases eg
            refine iteT ⟨aw, Bx B L, ρ1, w3, t4, w4, r4.step s3, g4, fun v H4 s4 rp4 => ?_⟩
            have hl4 := s4.1 L _ hl3 nAL
            have mv2 : Mv H' (Bx B L) H4 (Bx B L) := fun a o z n => ⟨s4.1 a o (s3.1 a o (yk a o z) fun q => n (.inl (r.wl a q).1)) fun q => n (.inl (r.wl a q).1), n⟩
            have ra4 := ra.mv mv2
            have lv : vacc.length ≤ 100000 := by rw [← ra.len]; omega
            refine ⟨vacc, hl4, sz_lt lv, xs.length - (i + 1), by omega, rfl, hlt, acc ++ [t4], vacc ++ [v], w4, rs, ?_, ?_, upd_same, ?_, ?_, g5, ?_⟩
            · intro a o e n
              have nL : a ≠ L := fun z => by rw [z, hL] at e; cases e
              rw [upd_ne nL]
              exact s4.1 a o (s3.1 a o (yk a o (kp a o e n)) n) n
            · intro a e
              rw [upd_ne fun z => nAL (by rw [← z]; exact e)]
              exact s4.2 a e
            · refine (ra4.app (rpl_cons rp4 rpl_nil)).mv fun a o z n => ⟨?_, n⟩
              rw [upd_ne fun q => n (.inr q)]
              exact z
            · rw [List.length_append]; simp; omega
            · rw [List.append_assoc]; exact et
          | false =>
            refine iteF ⟨xs.length - (i + 1), by omega, rfl, hlt, acc, vacc, w3, rest, ?_, s3.2, hl3, ?_, by omega, eg, et⟩
            · exact fun a o e n => s3.1 a o (yk a o (kp a o e n)) n
            · exact ra.mv fun a o z n => ⟨s3.1 a o (yk a o z) fun q => n (.inl (r.wl a q).1), n⟩
      · have hi2 : i = xs.length := by omega
        refine .inl ⟨wk.stop i H' kpZ (by omega), ?_⟩
        have e0 : xs.drop i = [] := by rw [hi2]; simp
        rw [e0] at eg
        cases eg
        rw [List.append_nil] at et
        subst et
        exact k L vacc H' stp' hLH hl ra
  · cases h
theorem f_comp (hc : X.calm = true) (hN : X.N.Nodup) (hi : PI X tg iter (tI b it)) (ok : BlkOk X.N X.env.scope scope own)
    (hg : ∀ (s : Shared) (H : Hp) (C : Addr) (cl : List (Str × Addr)) (fp : List Addr), PG (X.blk s H scope (compEnvC scope cl C X.env) fp) tg (tG sl g))
    (ht : ∀ (s : Shared) (H : Hp) (C : Addr) (cl : List (Str × Addr)) (fp : List Addr), PTs (X.blk s H scope (compEnvC scope cl C X.env) fp) ifs (tT c))
    (he : ∀ (s : Shared) (H : Hp) (C : Addr) (cl : List (Str × Addr)) (fp : List Addr), PE (X.blk s H scope (compEnvC scope cl C X.env) fp) elt (tE de))
    (hsl : ∀ j ∈ sl, j ∈ own.map (·.2)) (hs : ∀ x, foldedSetIterable iter X.env x = pure x) : PE X (.ListComp elt [⟨tg, iter, ifs, 0⟩] scope pos) (tF (dComp (own.map (·.2)) it g c de)) :=
  PE.weak (pe_lc hc hN hi ok hg ht he hs) fun σ H Q h => lc_go hsl h
end
end Mi
namespace Mi
open PySem PySem.Spec PyProof.Rows L2

/-! ### statements -/
inductive Fl where
  | nx | bk | ct | rt (t : D)
abbrev Sm := Rho → Ws → Option (Fl × Rho × Ws)
/-- a frame's state in a def: H0, B0 are those at its entry -/
structure RS (aw : Option Addr) (B0 : Addr → Prop) (H0 : Hp) (ρ : Rho) (w : Ws) (σ : L2.St) (H : Hp) (B : Addr → Prop) : Prop extends R aw B ρ w σ H where
  kp : ∀ a o, H0 a = some o → aw ≠ some a → H a = some o
  b0 : ∀ a, B a → B0 a ∨ H0 a = none
  sub : ∀ a, B0 a → B a
  inj : ∀ (i j : Nat) (ts us : List D) (p : Addr), i ≠ j → ρ[i]? = some (some (.own ts)) → ρ[j]? = some (some (.own us)) → σ[i]? = some (some (.ref p)) → σ[j]? ≠ some (some (.ref p))
  nb : ∀ (i : Nat) (ts : List D) (p : Addr), ρ[i]? = some (some (.own ts)) → σ[i]? = some (some (.ref p)) → ¬ B0 p
def Bn (B : Addr → Prop) (H : Hp) (B' : Addr → Prop) : Prop := ∀ a, B' a → B a ∨ H a = none
def EndOk (D : Ends) (aw : Option Addr) (B0 : Addr → Prop) (H0 : Hp) (H : Hp) (B : Addr → Prop) : Fl → Rho → Ws → Prop
  | .nx, ρ, w => ∀ σ' H' B', RS aw B0 H0 ρ w σ' H' B' → Kp B H H' → Bn B H B' → D.nx σ' H'
  | .bk, ρ, w => ∀ σ' H' B', RS aw B0 H0 ρ w σ' H' B' → Kp B H H' → Bn B H B' → D.bk σ' H'
  | .ct, ρ, w => ∀ σ' H' B', RS aw B0 H0 ρ w σ' H' B' → Kp B H H' → Bn B H B' → D.ct σ' H'
  | .rt t, _, w => ∀ v H', Stp aw H0 H' w → Rp H' B0 t v → D.rt v H'
def tS (s : Sm) : TS := fun D σ H => ∃ aw B0 H0 B ρ w fl ρ' w', RS aw B0 H0 ρ w σ H B ∧ s ρ w = some (fl, ρ', w') ∧ EndOk D aw B0 H0 H B fl ρ' w'
section
variable {aw : Option Addr} {B0 B B1 B2 : Addr → Prop} {H0 H H1 H2 : Hp} {ρ ρ1 : Rho} {w w1 : Ws} {σ σ1 : L2.St} {D : Ends} {fl : Fl}
theorem Kp.refl {Z : Addr → Prop} : Kp Z H H := fun _ _ e _ => e
theorem Kp.trans (a : Kp B H H1) (b : Kp B1 H1 H2) (n : Bn B H B1) : Kp B H H2 := fun x o e h => b x o (a x o e h) fun z => (n x z).elim h fun q => by rw [q] at e; cases e
theorem Bn.refl : Bn B H B := fun _ => .inl
theorem Bn.trans (a : Bn B H B1) (k : Kp B H H1) (b : Bn B1 H1 B2) : Bn B H B2 := fun x h => (b x h).elim (a x) fun z => by
  by_cases hb : B x
  · exact .inl hb
  · refine .inr ?_
    cases q : H x with
    | none => rfl
    | some o => rw [k x o q hb] at z; cases z
theorem EndOk.from (k : Kp B H H1) (n : Bn B H B1) (h : EndOk D aw B0 H0 H B fl ρ w) : EndOk D aw B0 H0 H1 B1 fl ρ w := by
  cases fl with
  | nx => exact fun σ' H' B' r k' n' => h σ' H' B' r (k.trans k' n) (n.trans k n')
  | bk => exact fun σ' H' B' r k' n' => h σ' H' B' r (k.trans k' n) (n.trans k n')
  | ct => exact fun σ' H' B' r k' n' => h σ' H' B' r (k.trans k' n) (n.trans k n')
  | rt t => exact h
theorem RS.step (r : RS aw B0 H0 ρ w σ H B) (s : Stp aw H H1 w1) : RS aw B0 H0 ρ w1 σ H1 B :=
  { r.toR.step s with
    kp := fun a o e n => s.1 a o (r.kp a o e n) n
    b0 := r.b0, sub := r.sub, inj := r.inj, nb := r.nb }
theorem RS.kpB (r : RS aw B0 H0 ρ w σ H B) (s : Stp aw H H1 w1) : Kp B H H1 := fun a o e n => s.1 a o e fun z => n (r.wl a z).1
/-- behind a store of data -/
theorem RS.stored {sl : List Nat} (r : RS aw B0 H0 ρ w σ H B) (r1 : R aw B ρ1 w σ1 H) (o : Out sl σ σ1) (hd : ∀ (j : Nat), j ∈ sl → ∀ c, ρ1[j]? = some (some c) → ∃ t, c = .val t) (hs : ∀ (j : Nat), j ∉ sl → ρ1[j]? = ρ[j]?) : RS aw B0 H0 ρ1 w σ1 H B := by
  have key : ∀ (i : Nat) (ts : List PyData), ρ1[i]? = some (some (.own ts)) → i ∉ sl := fun i ts e h => by
    obtain ⟨t, z⟩ := hd i h _ e
    cases z
  refine { r1 with kp := r.kp, b0 := r.b0, sub := r.sub, inj := fun i j ts us p ne e1 e2 e3 => ?_, nb := fun i ts p e1 e2 => ?_ }
  · have n1 := key i ts e1
    have n2 := key j us e2
    rw [hs i n1] at e1
    rw [hs j n2] at e2
    rw [o.2 i n1] at e3
    rw [o.2 j n2]
    exact r.inj i j ts us p ne e1 e2 e3
  · have n1 := key i ts e1
    rw [hs i n1] at e1
    rw [o.2 i n1] at e2
    exact r.nb i ts p e1 e2
end

def sSkip : Sm := fun ρ w => some (.nx, ρ, w)
def sSeq (a b : Sm) : Sm := fun ρ w => (a ρ w).bind fun p => match p.1 with
  | .nx => b p.2.1 p.2.2
  | _ => some p
def sAsg (g : Tg) (d : De) : Sm := fun ρ w => (d ρ w).bind fun p => (g p.1 ρ).map fun ρ' => (.nx, ρ', p.2)
def sOwn (i : Nat) (d : De) : Sm := fun ρ w => (d ρ w).bind fun p => match p.1 with
  | .list ts => if i < ρ.length then some (.nx, ρ.set i (some (.own ts)), p.2) else none
  | _ => none
def frz (i : Nat) (ρ : Rho) : Rho := match ρ[i]? with
  | some (some (.own ts)) => ρ.set i (some (.val (.list ts)))
  | _ => ρ
def sFz (i : Nat) (s : Sm) : Sm := fun ρ w => s (frz i ρ) w
def sIf (c : Dt) (a b : Sm) : Sm := fun ρ w => (c ρ w).bind fun p => if p.1 then a ρ p.2 else b ρ p.2
def sRet (d : De) : Sm := fun ρ w => (d ρ w).map fun p => (.rt p.1, ρ, p.2)
def sRetN : Sm := fun ρ w => some (.rt .none, ρ, w)
def sDrop (d : De) : Sm := fun ρ w => (d ρ w).map fun p => (.nx, ρ, p.2)
def sBrk : Sm := fun ρ w => some (.bk, ρ, w)
def sCnt : Sm := fun ρ w => some (.ct, ρ, w)
def forGo (g : Tg) (body : Sm) : List D → Rho → Ws → Option (Fl × Rho × Ws)
  | [], ρ, w => some (.nx, ρ, w)
  | t :: ts, ρ, w => (g t ρ).bind fun ρ1 => (body ρ1 w).bind fun p => match p.1 with
    | .nx => forGo g body ts p.2.1 p.2.2
    | .ct => forGo g body ts p.2.1 p.2.2
    | .bk => some (.nx, p.2)
    | .rt t => some (.rt t, p.2)
def sFor (it : Da) (g : Tg) (body : Sm) : Sm := fun ρ w => (it ρ w).bind fun p => forGo g body p.1 ρ p.2
def whileGo (c : Dt) (body : Sm) : Nat → Rho → Ws → Option (Fl × Rho × Ws)
  | 0, _, _ => none
  | n + 1, ρ, w => (c ρ w).bind fun p => if p.1 then (body ρ p.2).bind fun q => match q.1 with
      | .nx => whileGo c body n q.2.1 q.2.2
      | .ct => whileGo c body n q.2.1 q.2.2
      | .bk => some (.nx, q.2)
      | .rt t => some (.rt t, q.2)
    else some (.nx, ρ, p.2)
def sWhile (n : Nat) (c : Dt) (body : Sm) : Sm := whileGo c body n

section
variable {X : Cx} {st : Stmt} {rest : List Stmt} {s s' : Sm} {e e1 : Expr} {d : De} {c : Dt} {pos pos' : Pos} {g : Tg} {sl : List Nat} {x : Str} {i : Nat}
theorem s_nil : PSs X [] (tS sSkip) := PSs.weak pss_nil fun D σ H ⟨aw, B0, H0, B, ρ, w, fl, ρ', w', r, q, k⟩ => by
  cases q
  exact k σ H B r .refl .refl
theorem s_cons (h1 : PS X st (tS s)) (h2 : PSs X rest (tS s')) : PSs X (st :: rest) (tS (sSeq s s')) := by
  refine PSs.weak (pss_cons h1 h2) fun D σ H ⟨aw, B0, H0, B, ρ, w, fl, ρ', w', r, q, k⟩ => ?_
  obtain ⟨⟨f1, ρ1, w1⟩, q1, q2⟩ := Option.bind_eq_some_iff.mp q
  refine ⟨aw, B0, H0, B, ρ, w, f1, ρ1, w1, r, q1, ?_⟩
  cases f1 with
  | nx => exact fun σ' H' B' r' k' n' => ⟨aw, B0, H0, B', ρ1, w1, fl, ρ', w', r', q2, k.from k' n'⟩
  | bk => cases q2; exact k
  | ct => cases q2; exact k
  | rt t => cases q2; exact k
theorem s_one (h1 : PS X st (tS s)) : PSs X [st] (tS s) := pss_one h1
theorem s_pass : PS X (.Pass pos) (tS sSkip) := PS.weak ps_pass fun D σ H ⟨aw, B0, H0, B, ρ, w, fl, ρ', w', r, q, k⟩ => by
  cases q
  exact k σ H B r .refl .refl
theorem s_brk : PS X (.Break pos) (tS sBrk) := PS.weak ps_break fun D σ H ⟨aw, B0, H0, B, ρ, w, fl, ρ', w', r, q, k⟩ => by
  cases q
  exact k σ H B r .refl .refl
theorem s_cnt : PS X (.Continue pos) (tS sCnt) := PS.weak ps_continue fun D σ H ⟨aw, B0, H0, B, ρ, w, fl, ρ', w', r, q, k⟩ => by
  cases q
  exact k σ H B r .refl .refl
theorem asg_go (hg : TgS sl g) {D : Ends} {σ : L2.St} {H : Hp} : tS (sAsg g d) D σ H → tAsg (tE d) (tG sl g) D σ H := fun ⟨aw, B0, H0, B, ρ, w, fl, ρ', w', r, q, k⟩ => by
  obtain ⟨⟨t, w1⟩, q1, q2⟩ := Option.bind_eq_some_iff.mp q
  obtain ⟨ρ1, q3, q4⟩ := Option.map_eq_some_iff.mp q2
  cases q4
  refine ⟨aw, B, ρ, w, t, _, r.toR, q1, fun v H1 s1 rp => ⟨aw, B, ρ, _, t, _, (r.step s1).toR, rp, q3, fun σ1 r1 o1 d1 => ?_⟩⟩
  exact k σ1 H1 B ((r.step s1).stored r1 o1 d1 (hg _ _ _ q3).2) (r.kpB s1) .refl
theorem s_asg (he : PE X e (tE d)) (h : PG X e1 (tG sl g)) (hg : TgS sl g) (hs : swapsWithSole [e1] e pos.line X.env = pure false) (hw : swappedStores [e1] e X.env = pure none) (h1 : (assignEach [e1] X.env).map (·.2) = [assign e1 X.env]) :
    PS X (.Assign [e1] e pos) (tS (sAsg g d)) := PS.weak (ps_asg he h hs hw h1) fun D σ H q => asg_go hg q
/-- a name, by data -/
theorem s_nm (hN : X.N.Nodup) (hi : X.N[i]? = some x) (hx : Loc X.env.scope x) (he : PE X e (tE d)) (hs : swapsWith e (some (.Name x pos')) pos.line X.env = pure false) (hf : X.fn x = true ∨ X.env.scope.names.lookup x = some .local) :
    PS X (.Assign [.Name x pos'] e pos) (tS (sAsg (gNm i) d)) := by
  refine PS.weak (ps_set hN hi hx he hs hf) fun D σ H q => ?_
  have q := asg_go (tgs_nm (i := i)) q
  obtain ⟨aw, B, ρ, w, t, w1, r, q1, k⟩ := q
  refine ⟨aw, B, ρ, w, t, w1, r, q1, fun v H1 s1 rp => ?_⟩
  obtain ⟨aw', B', ρ', w', t', ρ1, r', rp', q3, k'⟩ := k v H1 s1 rp
  unfold gNm at q3
  split at q3
  · rename_i hl
    cases q3
    refine k' _ (r'.put rp' hl) ⟨by rw [List.length_set], fun j n => by rw [List.getElem?_set_ne (by simpa using Ne.symm (by simpa using n))]⟩ ?_
    intro j hj c e
    have : j = i := by simpa using hj
    subst this
    rw [List.getElem?_set_self hl] at e
    cases e
    exact ⟨t', rfl⟩
  · cases q3
theorem own_go {D : Ends} {σ : L2.St} {H : Hp} : tS (sOwn i d) D σ H → tAsg (tF d) (gName i) D σ H := fun ⟨aw, B0, H0, B, ρ, w, fl, ρ', w', r, q, k⟩ => by
  obtain ⟨⟨t, w1⟩, q1, q2⟩ := Option.bind_eq_some_iff.mp q
  cases t with
  | list ts =>
    dsimp only at q2
    split at q2
    · rename_i hl
      cases q2
      refine ⟨aw, B, ρ, w, ts, _, r.toR, q1, fun p vs H1 s1 hp hp1 rl => ?_⟩
      have r1 := r.step s1
      have hl' : i < σ.length := Nat.lt_of_lt_of_le hl r.len
      have pB : ¬ B p := r.toOk.fresh hp
      have other : ∀ (j : Nat) (us : List PyData) (q : Addr), j ≠ i → ρ[j]? = some (some (.own us)) → σ[j]? = some (some (.ref q)) → q ≠ p := fun j us q hj ej sj z => by
        obtain ⟨a, vs', ev, ba, _⟩ := r.cell j _ ej
        rw [sj] at ev
        cases ev
        exact pB (z ▸ ba)
      refine k (σ.set i (some (.ref p))) H1 (Bx B p) ?_ (r.kpB s1) (fun a ha => ha.elim .inl fun z => .inr (by rw [z]; exact hp))
      refine { dom := fun a ha => ha.elim (r1.dom a) fun z => by rw [z, hp1]; exact fun q => nomatch q
               wl := fun a e => ⟨.inl (r1.wl a e).1, (r1.wl a e).2⟩
               len := by rw [List.length_set, List.length_set]; exact r.len
               cell := fun j cl e => ?_
               kp := r1.kp
               b0 := fun a ha => ha.elim (r.b0 a) fun z => .inr ?_
               sub := fun a h => .inl (r.sub a h)
               inj := fun j l us zs q ne e1 e2 e3 => ?_
               nb := fun j us q e1 e2 => ?_ }
      · by_cases hj : i = j
        · subst hj
          rw [List.getElem?_set_self hl] at e
          cases e
          rw [List.getElem?_set_self hl']
          exact ⟨p, vs, rfl, .inr rfl, fun z => pB (r.wl p z).1, hp1, rl⟩
        · rw [List.getElem?_set_ne hj] at e ⊢
          have q := r.cell j cl e
          have mv : Mv H B H1 (Bx B p) := fun a o z n => ⟨s1.1 a o z (r.toOk.ne n), fun y => y.elim n fun y => by rw [y, hp] at z; cases z⟩
          cases cl with
          | val t =>
            obtain ⟨v, ev, rp⟩ := q
            exact ⟨v, ev, rp.mv mv⟩
          | own us =>
            obtain ⟨a, vs', ev, ba, na, ha, rl⟩ := q
            exact ⟨a, vs', ev, .inl ba, na, s1.1 a _ ha na, rl.mv mv⟩
          | well => exact q
      · rw [z]
        cases q : H0 p with
        | none => rfl
        | some o =>
          have := r.kp p o q fun z => pB (r.wl p z).1
          rw [hp] at this
          cases this
      · by_cases hj : i = j
        · subst hj
          have hl2 : i ≠ l := ne
          rw [List.getElem?_set_self hl'] at e3
          cases e3
          rw [List.getElem?_set_ne hl2] at e2 ⊢
          exact fun z => other l zs p (fun y => hl2 y.symm) e2 z rfl
        · rw [List.getElem?_set_ne hj] at e1 e3
          by_cases hl2 : i = l
          · subst hl2
            rw [List.getElem?_set_self hl']
            intro z
            cases z
            exact other j us p (fun y => hj y.symm) e1 e3 rfl
          · rw [List.getElem?_set_ne hl2] at e2 ⊢
            exact r.inj j l us zs q ne e1 e2 e3
      · by_cases hj : i = j
        · subst hj
          rw [List.getElem?_set_self hl'] at e2
          cases e2
          exact fun z => pB (r.sub _ z)
        · rw [List.getElem?_set_ne hj] at e1 e2
          exact r.nb j us q e1 e2
    · cases q2
  | _ => cases q2
theorem s_own (hN : X.N.Nodup) (hi : X.N[i]? = some x) (hx : Loc X.env.scope x) (he : PE X e (tF d)) (hs : swapsWith e (some (.Name x pos')) pos.line X.env = pure false) (hf : X.fn x = true ∨ X.env.scope.names.lookup x = some .local) :
    PS X (.Assign [.Name x pos'] e pos) (tS (sOwn i d)) := PS.weak (ps_set hN hi hx he hs hf) fun D σ H q => own_go q
/-- a list of the def's own is let go: from here on it does not change -/
theorem RS.frz {aw : Option Addr} {B0 B : Addr → Prop} {H0 H : Hp} {ρ : Rho} {w : Ws} {σ : L2.St} (r : RS aw B0 H0 ρ w σ H B) (i : Nat) : ∃ B', RS aw B0 H0 (Mi.frz i ρ) w σ H B' ∧ ∀ a, B' a → B a := by
  unfold Mi.frz
  split
  · rename_i ts e
    obtain ⟨p, vs, ev, bp, np, hp, rl⟩ := r.cell i _ e
    have hl : i < ρ.length := (List.getElem?_eq_some_iff.mp e).1
    have mv : Mv H B H (fun a => B a ∧ a ≠ p) := fun a o z n => ⟨z, fun y => n y.1⟩
    refine ⟨fun a => B a ∧ a ≠ p, ?_, fun a h => h.1⟩
    refine { dom := fun a ha => r.dom a ha.1
             wl := fun a e => ⟨⟨(r.wl a e).1, fun z => np (z ▸ e)⟩, (r.wl a e).2⟩
             len := by rw [List.length_set]; exact r.len
             cell := fun j cl ej => ?_
             kp := r.kp
             b0 := fun a ha => r.b0 a ha.1
             sub := fun a h => ⟨r.sub a h, fun z => r.nb i ts p e ev (z ▸ h)⟩
             inj := fun j l us zs q ne e1 e2 e3 => ?_
             nb := fun j us q e1 e2 => ?_ }
    · by_cases hj : i = j
      · subst hj
        rw [List.getElem?_set_self hl] at ej
        cases ej
        refine ⟨.ref p, ev, ?_⟩
        simp only [Rp]
        exact ⟨p, vs, rfl, fun z => z.2 rfl, hp, rl.mv mv⟩
      · rw [List.getElem?_set_ne hj] at ej
        have q := r.cell j cl ej
        cases cl with
        | val t =>
          obtain ⟨v, ev', rp⟩ := q
          exact ⟨v, ev', rp.mv mv⟩
        | own us =>
          obtain ⟨a, vs', ev', ba, na, ha, rl'⟩ := q
          refine ⟨a, vs', ev', ⟨ba, fun z => ?_⟩, na, ha, rl'.mv mv⟩
          exact r.inj i j ts us p hj e ej ev (z ▸ ev')
        | well => exact q
    · have nj : i ≠ j := fun z => by subst z; rw [List.getElem?_set_self hl] at e1; cases e1
      have nl : i ≠ l := fun z => by subst z; rw [List.getElem?_set_self hl] at e2; cases e2
      rw [List.getElem?_set_ne nj] at e1
      rw [List.getElem?_set_ne nl] at e2
      exact r.inj j l us zs q ne e1 e2 e3
    · have nj : i ≠ j := fun z => by subst z; rw [List.getElem?_set_self hl] at e1; cases e1
      rw [List.getElem?_set_ne nj] at e1
      exact r.nb j us q e1 e2
  · exact ⟨B, r, fun _ h => h⟩
theorem fz_go {D : Ends} {σ : L2.St} {H : Hp} : tS (sFz i s) D σ H → tS s D σ H := fun ⟨aw, B0, H0, B, ρ, w, fl, ρ', w', r, q, k⟩ => by
  obtain ⟨B', r', hb⟩ := r.frz i
  exact ⟨aw, B0, H0, B', _, w, fl, ρ', w', r', q, k.from .refl fun a h => .inl (hb a h)⟩
theorem s_fz (i : Nat) (h : PS X st (tS s)) : PS X st (tS (sFz i s)) := PS.weak h fun _ _ _ q => fz_go q
theorem ss_fz (i : Nat) {sts : List Stmt} (h : PSs X sts (tS s)) : PSs X sts (tS (sFz i s)) := PSs.weak h fun _ _ _ q => fz_go q
theorem s_if {cnd : Expr} {a b : List Stmt} (hc : PT X cnd (tT c)) (ha : PSs X a (tS s)) (hb : PSs X b (tS s')) : PS X (.If cnd a b pos) (tS (sIf c s s')) := by
  refine PS.weak (ps_if hc ha hb) fun D σ H ⟨aw, B0, H0, B, ρ, w, fl, ρ', w', r, q, k⟩ => ?_
  obtain ⟨⟨t, w1⟩, q1, q2⟩ := Option.bind_eq_some_iff.mp q
  refine ⟨aw, B, ρ, w, t, w1, r.toR, q1, fun H1 s1 => ?_⟩
  cases t with
  | true => exact iteT ⟨aw, B0, H0, B, ρ, w1, fl, ρ', w', r.step s1, q2, k.from (r.kpB s1) .refl⟩
  | false => exact iteF ⟨aw, B0, H0, B, ρ, w1, fl, ρ', w', r.step s1, q2, k.from (r.kpB s1) .refl⟩
theorem s_ret (he : PE X e (tE d)) : PS X (.Return (some e) pos) (tS (sRet d)) := by
  refine PS.weak (ps_ret he) fun D σ H ⟨aw, B0, H0, B, ρ, w, fl, ρ', w', r, q, k⟩ => ?_
  obtain ⟨⟨t, w1⟩, q1, q2⟩ := Option.map_eq_some_iff.mp q
  cases q2
  refine ⟨aw, B, ρ, w, t, _, r.toR, q1, fun v H1 s1 rp => k v H1 ⟨fun a o e n => s1.1 a o (r.kp a o e n) n, s1.2⟩ ?_⟩
  exact rp.mv fun a o e n => ⟨e, fun z => n (r.sub a z)⟩
theorem s_retN : PS X (.Return none pos) (tS sRetN) := by
  refine PS.weak ps_retN fun D σ H ⟨aw, B0, H0, B, ρ, w, fl, ρ', w', r, q, k⟩ => ?_
  cases q
  exact k _ H ⟨r.kp, fun a e => (r.wl a e).2⟩ rp_non
theorem s_drop (he : PE X e (tE d)) (hs : swapsWith e none pos.line X.env = pure false) : PS X (.Expr e pos) (tS (sDrop d)) := by
  refine PS.weak (ps_expr he hs) fun D σ H ⟨aw, B0, H0, B, ρ, w, fl, ρ', w', r, q, k⟩ => ?_
  obtain ⟨⟨t, w1⟩, q1, q2⟩ := Option.map_eq_some_iff.mp q
  cases q2
  exact ⟨aw, B, ρ, w, t, _, r.toR, q1, fun v H1 s1 rp => k σ H1 B (r.step s1) (r.kpB s1) .refl⟩
theorem s_for {tg iter : Expr} {body : List Stmt} {it : Da} (hp : PassesOwn (model X.prog X.w) X.A X.env X.xe) (hc : X.calm = true) (hi : PI X tg iter (tI false it)) (h : PG X tg (tG sl g)) (hg : TgS sl g) (hb : PSs X body (tS s)) (hs : ∀ x, foldedSetIterable iter X.env x = pure x) :
    PS X (.For tg iter body [] pos) (tS (sFor it g s)) := by
  refine PS.weak (ps_for hp hc hi h hb hs) fun D σ H ⟨aw, B0, H0, B, ρ, w, fl, ρ', w', r, q, k⟩ => ?_
  obtain ⟨⟨xs, w1⟩, q1, q2⟩ := Option.bind_eq_some_iff.mp q
  refine ⟨aw, B, ρ, w, xs, w1, r.toR, q1, fun J H1 s1 wk => ?_⟩
  have r1 := r.step s1
  have k1 := k.from (r.kpB s1) .refl
  let Wi : Nat → Nat → L2.St → Hp → Prop := fun i m σ' H' => m = xs.length - i ∧ i ≤ xs.length ∧ ∃ ρi wi Bi, RS aw B0 H0 ρi wi σ' H' Bi ∧ Kp B H1 H' ∧ Bn B H1 Bi ∧ forGo g s (xs.drop i) ρi wi = some (fl, ρ', w')
  refine ⟨Wi, ⟨xs.length, by simp, Nat.zero_le _, ρ, w1, B, r1, .refl, .refl, by simpa using q2⟩, ?_⟩
  rintro i m σi Hi ⟨rfl, hi, ρi, wi, Bi, ri, kp, bn, eg⟩
  have kpZ : Kp (Zb false aw B) H1 Hi := fun a o e n => kp a o e fun z => n (by simpa [Zb] using z)
  by_cases hlt : i < xs.length
  · refine .inr ⟨wk.go i Hi kpZ hlt, fun σ' H' => ∃ m', m' < xs.length - i ∧ Wi (i + 1) m' σ' H', fun σ' H' h => h, fun x H2 y => ?_⟩
    have eq : xs.drop i = xs[i] :: xs.drop (i + 1) := List.drop_eq_getElem_cons hlt
    rw [eq] at eg
    obtain ⟨ρ1, g1, eg⟩ := Option.bind_eq_some_iff.mp eg
    obtain ⟨⟨fb, ρb, wb⟩, g2, eg⟩ := Option.bind_eq_some_iff.mp eg
    obtain ⟨yk, yr⟩ := wk.yld i Hi x H2 Bi kpZ bn (fun a ha => ri.dom a ha) y xs[i] (by simp [hlt])
    have stp : Stp aw Hi H2 wi := ⟨fun a o e n => yk a o e, fun a e => yk a _ (ri.wl a e).2⟩
    have r2 := ri.step stp
    have kp2 : Kp B H1 H2 := fun a o e n => yk a o (kp a o e n)
    have bn2 : Bn B H1 Bi := bn
    refine ⟨aw, Bi, ρi, wi, xs[i], ρ1, r2.toR, yr, g1, fun σ1 r3 o3 d3 => ?_⟩
    have r4 := r2.stored r3 o3 d3 (hg _ _ _ g1).2
    refine ⟨aw, B0, H0, Bi, ρ1, wi, fb, ρb, wb, r4, g2, ?_⟩
    have again : ∀ σ' H' B', RS aw B0 H0 ρb wb σ' H' B' → Kp Bi H2 H' → Bn Bi H2 B' → forGo g s (xs.drop (i + 1)) ρb wb = some (fl, ρ', w') → ∃ m', m' < xs.length - i ∧ Wi (i + 1) m' σ' H' := fun σ' H' B' r' k' n' e' =>
      ⟨xs.length - (i + 1), by omega, rfl, hlt, ρb, wb, B', r', kp2.trans k' bn2, bn2.trans kp2 n', e'⟩
    cases fb with
    | nx => exact fun σ' H' B' r' k' n' => again σ' H' B' r' k' n' eg
    | ct => exact fun σ' H' B' r' k' n' => again σ' H' B' r' k' n' eg
    | bk =>
      cases eg
      exact k1.from kp2 bn2
    | rt t =>
      cases eg
      exact k1
  · have e0 : xs.drop i = [] := by
      have : i = xs.length := by omega
      rw [this]; simp
    rw [e0] at eg
    cases eg
    exact .inl ⟨wk.stop i Hi kpZ (by omega), k1 σi Hi Bi ri kp bn⟩
theorem s_while {n : Nat} {cnd : Expr} {body : List Stmt} (hp : PassesOwn (model X.prog X.w) X.A X.env X.xe) (hc : PT X cnd (tT c)) (hb : PSs X body (tS s)) : PS X (.While cnd body [] pos) (tS (sWhile n c s)) := by
  refine PS.weak (ps_while hp hc hb) fun D σ H ⟨aw, B0, H0, B, ρ, w, fl, ρ', w', r, q, k⟩ => ?_
  let Wi : Nat → L2.St → Hp → Prop := fun m σ' H' => ∃ ρi wi Bi, RS aw B0 H0 ρi wi σ' H' Bi ∧ Kp B H H' ∧ Bn B H Bi ∧ whileGo c s m ρi wi = some (fl, ρ', w')
  refine ⟨Wi, ⟨n, ρ, w, B, r, .refl, .refl, q⟩, ?_⟩
  rintro m σi Hi ⟨ρi, wi, Bi, ri, kp, bn, eg⟩
  cases m with
  | zero => cases eg
  | succ m =>
    obtain ⟨⟨t, w1⟩, q1, q2⟩ := Option.bind_eq_some_iff.mp eg
    refine ⟨aw, Bi, ρi, wi, t, w1, ri.toR, q1, fun H1 s1 => ?_⟩
    have r1 := ri.step s1
    have kp1 : Kp B H H1 := kp.trans (ri.kpB s1) bn
    cases t with
    | true =>
      obtain ⟨⟨fb, ρb, wb⟩, g2, eg⟩ := Option.bind_eq_some_iff.mp (show _ = _ from q2)
      refine iteT ⟨fun σ' H' => ∃ m', m' < m + 1 ∧ Wi m' σ' H', fun σ' H' h => h, ?_⟩
      refine ⟨aw, B0, H0, Bi, ρi, w1, fb, ρb, wb, r1, g2, ?_⟩
      have again : ∀ σ' H' B', RS aw B0 H0 ρb wb σ' H' B' → Kp Bi H1 H' → Bn Bi H1 B' → whileGo c s m ρb wb = some (fl, ρ', w') → ∃ m', m' < m + 1 ∧ Wi m' σ' H' := fun σ' H' B' r' k' n' e' =>
        ⟨m, Nat.lt_succ_self _, ρb, wb, B', r', kp1.trans k' bn, bn.trans kp1 n', e'⟩
      cases fb with
      | nx => exact fun σ' H' B' r' k' n' => again σ' H' B' r' k' n' eg
      | ct => exact fun σ' H' B' r' k' n' => again σ' H' B' r' k' n' eg
      | bk =>
        cases eg
        exact k.from kp1 bn
      | rt t =>
        cases eg
        exact k
    | false =>
      cases q2
      exact iteF (k σi H1 Bi r1 kp1 bn)
end
end Mi
namespace Mi
open PySem PySem.Spec PyProof.Rows L2

section
variable {aw : Option Addr} {B0 B : Addr → Prop} {H0 H : Hp} {ρ : Rho} {w : Ws} {σ : L2.St} {D : Ends} {fl : Fl}
/-- a list of the def's own changes -/
theorem RS.grow {i : Nat} {ts ts' : List PyData} {p : Addr} {vs' : List V} (r : RS aw B0 H0 ρ w σ H B) (e : ρ[i]? = some (some (.own ts))) (ev : σ[i]? = some (some (.ref p))) (rl : RpL H B ts' vs') :
    RS aw B0 H0 (ρ.set i (some (.own ts'))) w σ (upd H p (.lst vs')) B ∧ Kp B H (upd H p (.lst vs')) := by
  obtain ⟨p', vs, ev', bp, np, hp, rl0⟩ := r.cell i _ e
  rw [ev] at ev'
  cases ev'
  have hl : i < ρ.length := (List.getElem?_eq_some_iff.mp e).1
  have ne : ∀ a, ¬ B a → a ≠ p := fun a n z => n (z ▸ bp)
  have kpB : Kp B H (upd H p (.lst vs')) := fun a o q n => by rw [upd_ne (ne a n)]; exact q
  have mv : Mv H B (upd H p (.lst vs')) B := fun a o q n => ⟨kpB a o q n, n⟩
  have h0 : H0 p = none := (r.b0 p bp).resolve_left (r.nb i ts p e ev)
  refine ⟨?_, kpB⟩
  refine { dom := fun a ha => ?_
           wl := fun a ea => ⟨(r.wl a ea).1, ?_⟩
           len := by rw [List.length_set]; exact r.len
           cell := fun j cl ej => ?_
           kp := fun a o q n => ?_
           b0 := r.b0, sub := r.sub
           inj := fun j l us zs q ne' e1 e2 e3 => ?_
           nb := fun j us q e1 e2 => ?_ }
  · by_cases h : a = p
    · rw [h, upd_same]; exact fun z => nomatch z
    · rw [upd_ne h]; exact r.dom a ha
  · have na : a ≠ p := fun z => np (by rw [← z]; exact ea)
    rw [upd_ne na]; exact (r.wl a ea).2
  · by_cases hj : i = j
    · subst hj
      rw [List.getElem?_set_self hl] at ej
      cases ej
      exact ⟨p, vs', ev, bp, np, upd_same, rl.mv mv⟩
    · rw [List.getElem?_set_ne hj] at ej
      have q := r.cell j cl ej
      cases cl with
      | val t =>
        obtain ⟨v, ev', rp⟩ := q
        exact ⟨v, ev', rp.mv mv⟩
      | own us =>
        obtain ⟨a, ws, ev', ba, na, ha, rl'⟩ := q
        have : a ≠ p := fun z => r.inj i j ts us p hj e ej ev (z ▸ ev')
        exact ⟨a, ws, ev', ba, na, by rw [upd_ne this]; exact ha, rl'.mv mv⟩
      | well => exact q
  · have : a ≠ p := fun z => by rw [z, h0] at q; cases q
    rw [upd_ne this]
    exact r.kp a o q n
  · have k1 : ∃ us, ρ[j]? = some (some (.own us)) := by
      by_cases h : i = j
      · exact ⟨ts, h ▸ e⟩
      · rw [List.getElem?_set_ne h] at e1; exact ⟨us, e1⟩
    have k2 : ∃ us, ρ[l]? = some (some (.own us)) := by
      by_cases h : i = l
      · exact ⟨ts, h ▸ e⟩
      · rw [List.getElem?_set_ne h] at e2; exact ⟨zs, e2⟩
    obtain ⟨u1, f1⟩ := k1
    obtain ⟨u2, f2⟩ := k2
    exact r.inj j l u1 u2 q ne' f1 f2 e3
  · by_cases h : i = j
    · subst h
      exact r.nb i ts q e e2
    · rw [List.getElem?_set_ne h] at e1
      exact r.nb j us q e1 e2
/-- the well changes -/
theorem RS.wput {a : Addr} {w' : Ws} (r : RS aw B0 H0 ρ w σ H B) (ea : aw = some a) :
    RS aw B0 H0 ρ w' σ (upd H a (.lst (w'.map .int))) B ∧ Kp B H (upd H a (.lst (w'.map .int))) := by
  have ba := (r.wl a ea).1
  have s : Stp aw H (upd H a (.lst (w'.map .int))) w' := ⟨fun b o q n => by
    have nb : b ≠ a := fun z => n (by rw [z]; exact ea)
    rw [upd_ne nb]
    exact q, fun b eb => by
      rw [ea] at eb
      cases eb
      exact upd_same⟩
  exact ⟨r.step s, r.kpB s⟩
end
def sApp (i : Nat) (d : De) : Sm := fun ρ w => (d ρ w).bind fun p => match ρ[i]? with
  | some (some (.own ts)) => if ts.length < 100000 then some (.nx, ρ.set i (some (.own (ts ++ [p.1]))), p.2) else none
  | _ => none
def sSetI (i : Nat) (di d : De) : Sm := fun ρ w => (d ρ w).bind fun p => (di ρ p.2).bind fun q => match ρ[i]? with
  | some (some (.own ts)) => (asInt q.1).bind fun k => (ixN ts.length k).map fun j => (.nx, ρ.set i (some (.own (ts.set j p.1))), q.2)
  | _ => none
def sWset (i k : Nat) (d : De) : Sm := fun ρ w => (d ρ w).bind fun p => match ρ[i]? with
  | some (some .well) => (asInt p.1).bind fun z => if k < p.2.length then some (.nx, ρ, p.2.set k z) else none
  | _ => none
/-- well[k], y = e -/
def sWpair (i k j : Nat) (d : De) : Sm := fun ρ w => (d ρ w).bind fun p => match ρ[i]?, p.1 with
  | some (some .well), .tuple [.int z, t] => if k < p.2.length ∧ j < ρ.length then some (.nx, ρ.set j (some (.val t)), p.2.set k z) else none
  | _, _ => none
def sPar2 (i j : Nat) (r : Da) : Sm := fun ρ w => (r ρ w).bind fun p => match p.1 with
  | [a, b] => if i < ρ.length ∧ j < ρ.length then some (.nx, (ρ.set i (some (.val a))).set j (some (.val b)), p.2) else none
  | _ => none
def sPar3 (i j l : Nat) (r : Da) : Sm := fun ρ w => (r ρ w).bind fun p => match p.1 with
  | [a, b, c] => if i < ρ.length ∧ j < ρ.length ∧ l < ρ.length then some (.nx, ((ρ.set i (some (.val a))).set j (some (.val b))).set l (some (.val c)), p.2) else none
  | _ => none
section
variable {X : Cx} {st : Stmt} {rest : List Stmt} {s s' : Sm} {e e1 a b c2 : Expr} {d di : De} {c : Dt} {r : Da} {pos pos' : Pos} {g : Tg} {sl : List Nat} {x y z : Str} {i j l : Nat}
theorem var_own {σ : L2.St} {H : Hp} {Q : VK} {p : Addr} (ev : σ[i]? = some (some (.ref p))) (q : Q (.ref p) H) : tVar i σ H Q := ⟨_, ev, q⟩
theorem s_app {apos : Pos} (hN : X.N[i]? = some x) (hv : Vis X.env.scope x) (hd : (x == ("__debug__" : Str)) = false) (hcd : (x == ("__classdict__" : Str)) = false) (he : PE X e (tE d)) {p1 cpos : Pos}
    (hbase : attributeBase (.Name x p1) "append" X.env (eval (.Name x p1) X.env) = eval (.Name x p1) X.env)
    (hfew : ((backTo cpos (starEach [e] X.env)).all (fun x => !x.1) && (backToKw cpos (keywordEach [] X.env)).all (fun x => x.1.isSome)
      && decide ([e].length + ([] : List Keyword).length + (if ([] : List Keyword).isEmpty then 0 else 1) < 30)) = true)
    (hline : (apos.endLine == cpos.line) = true) (hs : starEach [e] X.env = (false, eval e X.env) :: starEach [] X.env) (hplain : (backTo cpos (starEach [] X.env)).any (·.1) = false)
    (hsw : swapsWith (.Call (.Attribute (.Name x p1) "append" apos) [e] [] cpos) none pos.line X.env = pure false) :
    PS X (.Expr (.Call (.Attribute (.Name x p1) "append" apos) [e] [] cpos) pos) (tS (sApp i d)) := by
  refine PS.weak (ps_expr (pe_bm PySem.F.plainAttrs_list PySem.F.slot_list_append PySem.F.type_list_append mt_append (pe_var hN hv hd hcd) (pa_cons he pa_nil hs) hbase hfew hline hs hplain) hsw) fun D σ H ⟨aw, B0, H0, B, ρ, w, fl, ρ', w', r, q, k⟩ => ?_
  obtain ⟨⟨t, w1⟩, q1, q2⟩ := Option.bind_eq_some_iff.mp q
  dsimp only at q2
  split at q2
  · rename_i ts eo
    split at q2
    · rename_i hl
      cases q2
      obtain ⟨p, vs, ev, bp, np, hp, rl⟩ := r.cell i _ eo
      refine ⟨_, ev, .inl ⟨rfl, vs, SqL.of hp⟩, aw, B, ρ, w, t, _, r.toR, q1, fun v H1 s1 rp => ?_⟩
      have hp1 := s1.1 p _ hp np
      have r1 := r.step s1
      have rl1 := rl.mv (r.toOk.mv s1)
      obtain ⟨g1, g2⟩ := r1.grow (ts' := ts ++ [t]) (vs' := vs ++ [v]) eo ev (rl1.app (rpl_cons rp rpl_nil))
      exact ⟨p, vs, v, rfl, rfl, hp1, by rw [← rl.len]; exact sz_lt (Nat.le_of_lt hl), k σ _ B g1 ((r.kpB s1).trans g2 .refl) .refl⟩
    · cases q2
  · cases q2
theorem ixN_lt {n : Nat} {k : Int} {j : Nat} (h : ixN n k = some j) : j < n := by
  unfold ixN at h
  split at h
  · split at h
    · cases h; omega
    · cases h
  · split at h
    · cases h; omega
    · cases h
theorem s_setI {p1 p2 : Pos} (hN : X.N[i]? = some x) (hv : Vis X.env.scope x) (hd : (x == ("__debug__" : Str)) = false) (hcd : (x == ("__classdict__" : Str)) = false) (he : PE X e (tE d)) (hi : PE X e1 (tE di))
    (ha : ∀ v, assign (.Subscript (.Name x p1) e1 p2) X.env v = (do
      let ov ← holding [v] (eval (.Name x p1) X.env)
      let iv ← holding [v, ov] (eval e1 X.env)
      standAt p2
      holding [v, ov, iv] (setItem ov iv v)
      release [v, ov, iv] []))
    (hs : swapsWithSole [.Subscript (.Name x p1) e1 p2] e pos.line X.env = pure false) (hw : swappedStores [.Subscript (.Name x p1) e1 p2] e X.env = pure none)
    (h1 : (assignEach [.Subscript (.Name x p1) e1 p2] X.env).map (·.2) = [assign (.Subscript (.Name x p1) e1 p2) X.env]) :
    PS X (.Assign [.Subscript (.Name x p1) e1 p2] e pos) (tS (sSetI i di d)) := by
  refine PS.weak (ps_asg he (pg_sub (pe_var hN hv hd hcd) hi set_list ha) hs hw h1) fun D σ H ⟨aw, B0, H0, B, ρ, w, fl, ρ', w', r, q, k⟩ => ?_
  obtain ⟨⟨t, w1⟩, q1, q2⟩ := Option.bind_eq_some_iff.mp q
  obtain ⟨⟨ti, w2⟩, q3, q4⟩ := Option.bind_eq_some_iff.mp q2
  dsimp only at q4
  split at q4
  · rename_i ts eo
    obtain ⟨kk, q5, q6⟩ := Option.bind_eq_some_iff.mp q4
    obtain ⟨jj, q7, q8⟩ := Option.map_eq_some_iff.mp q6
    cases q8
    cases asInt_some q5
    obtain ⟨p, vs, ev, bp, np, hp, rl⟩ := r.cell i _ eo
    refine ⟨aw, B, ρ, w, t, _, r.toR, q1, fun v H1 s1 rp => ⟨_, ev, aw, B, ρ, w1, _, _, (r.step s1).toR, q3, fun vi H2 s2 rpi => ?_⟩⟩
    simp only [Rp] at rpi
    subst rpi
    have hp2 := s2.1 p _ (s1.1 p _ hp np) np
    have r2 := (r.step s1).step s2
    have rl2 := rl.mv (r.toOk.mv (s1.trans s2))
    have rp2 := rp.mv ((r.step s1).toOk.mv s2)
    obtain ⟨g1, g2⟩ := r2.grow (ts' := ts.set jj t) (vs' := vs.set jj v) eo ev (rl2.set _ rp2)
    exact ⟨p, vs, kk, jj, rfl, rfl, hp2, by rw [← rl.len]; exact q7, k σ _ B g1 ((r.kpB (s1.trans s2)).trans g2 .refl) .refl⟩
  · cases q4
theorem s_wset {p1 p2 p3 : Pos} {n k : Nat} (hN : X.N[i]? = some x) (hv : Vis X.env.scope x) (hd : (x == ("__debug__" : Str)) = false) (hcd : (x == ("__classdict__" : Str)) = false) (he : PE X e (tE d))
    (ha : ∀ v, assign (.Subscript (.Name x p1) (.Constant (.int (k : Int)) n p3) p2) X.env v = (do
      let ov ← holding [v] (eval (.Name x p1) X.env)
      let iv ← holding [v, ov] (eval (.Constant (.int (k : Int)) n p3) X.env)
      standAt p2
      holding [v, ov, iv] (setItem ov iv v)
      release [v, ov, iv] []))
    (hs : swapsWithSole [.Subscript (.Name x p1) (.Constant (.int (k : Int)) n p3) p2] e pos.line X.env = pure false) (hw : swappedStores [.Subscript (.Name x p1) (.Constant (.int (k : Int)) n p3) p2] e X.env = pure none)
    (h1 : (assignEach [.Subscript (.Name x p1) (.Constant (.int (k : Int)) n p3) p2] X.env).map (·.2) = [assign (.Subscript (.Name x p1) (.Constant (.int (k : Int)) n p3) p2) X.env]) :
    PS X (.Assign [.Subscript (.Name x p1) (.Constant (.int (k : Int)) n p3) p2] e pos) (tS (sWset i k d)) := by
  refine PS.weak (ps_asg he (pg_sub (pe_var hN hv hd hcd) pe_int set_list ha) hs hw h1) fun D σ H ⟨aw, B0, H0, B, ρ, w, fl, ρ', w', r, q, kk⟩ => ?_
  obtain ⟨⟨t, w1⟩, q1, q2⟩ := Option.bind_eq_some_iff.mp q
  dsimp only at q2
  split at q2
  · rename_i eo
    obtain ⟨zz, q5, q6⟩ := Option.bind_eq_some_iff.mp q2
    split at q6
    · rename_i hk
      cases q6
      cases asInt_some q5
      obtain ⟨p, ev, ea⟩ := r.cell i _ eo
      refine ⟨aw, B, ρ, w, _, w1, r.toR, q1, fun v H1 s1 rp => ⟨_, ev, ?_⟩⟩
      simp only [Rp] at rp
      subst rp
      have hp1 := s1.2 p ea
      obtain ⟨g1, g2⟩ := (r.step s1).wput (w' := w1.set k zz) ea
      refine ⟨p, w1.map V.int, k, k, rfl, rfl, hp1, ?_, ?_⟩
      · unfold ixN
        rw [if_pos (by omega), if_pos (by rw [List.length_map]; omega)]
        simp
      · have := kk σ _ B g1 ((r.kpB s1).trans g2 .refl) .refl
        rw [List.map_set] at this
        exact this
    · cases q6
  · cases q2
theorem par_go {σ : L2.St} {aw : Option Addr} {B0 B : Addr → Prop} {H0 H : Hp} {ρ : Rho} {w : Ws} {t : D} {v : V} (r : RS aw B0 H0 ρ w σ H B) (rp : Rp H B t v) (hi : i < ρ.length) : RS aw B0 H0 (ρ.set i (some (.val t))) w (σ.set i (some v)) H B := by
  refine r.stored (sl := [i]) (r.toR.put rp hi) ⟨by rw [List.length_set], fun j n => by rw [List.getElem?_set_ne (by simpa using Ne.symm (by simpa using n))]⟩ ?_ (fun j n => by rw [List.getElem?_set_ne (by simpa using Ne.symm (by simpa using n))])
  intro j hj c e
  have : j = i := by simpa using hj
  subst this
  rw [List.getElem?_set_self hi] at e
  cases e
  exact ⟨t, rfl⟩
theorem s_wpair {p1 p2 p3 py pt : Pos} {n k kt : Nat} (hc : X.calm = true) (hnd : X.N.Nodup) (hN : X.N[i]? = some x) (hv : Vis X.env.scope x) (hd : (x == ("__debug__" : Str)) = false) (hcd : (x == ("__classdict__" : Str)) = false)
    (hj : X.N[j]? = some y) (hx : Loc X.env.scope y) (hf : X.fn y = true ∨ X.env.scope.names.lookup y = some .local) (he : PE X e (tE d))
    (ha : ∀ v, assign (.Subscript (.Name x p1) (.Constant (.int (k : Int)) n p3) p2) X.env v = (do
      let ov ← holding [v] (eval (.Name x p1) X.env)
      let iv ← holding [v, ov] (eval (.Constant (.int (k : Int)) n p3) X.env)
      standAt p2
      holding [v, ov, iv] (setItem ov iv v)
      release [v, ov, iv] []))
    (h2 : (assignEach [.Subscript (.Name x p1) (.Constant (.int (k : Int)) n p3) p2, .Name y py] X.env).map (·.2) = assign (.Subscript (.Name x p1) (.Constant (.int (k : Int)) n p3) p2) X.env :: (assignEach [.Name y py] X.env).map (·.2))
    (h3 : (assignEach [.Name y py] X.env).map (·.2) = assign (.Name y py) X.env :: (assignEach [] X.env).map (·.2))
    (hn : (assignEach [.Subscript (.Name x p1) (.Constant (.int (k : Int)) n p3) p2, .Name y py] X.env).length = 2) (hst : (assignEach [.Subscript (.Name x p1) (.Constant (.int (k : Int)) n p3) p2, .Name y py] X.env).findIdx? (·.1) = none)
    (hs : swapsWithSole [.Tuple [.Subscript (.Name x p1) (.Constant (.int (k : Int)) n p3) p2, .Name y py] kt pt] e pos.line X.env = pure false) (hw : swappedStores [.Tuple [.Subscript (.Name x p1) (.Constant (.int (k : Int)) n p3) p2, .Name y py] kt pt] e X.env = pure none)
    (h1 : (assignEach [.Tuple [.Subscript (.Name x p1) (.Constant (.int (k : Int)) n p3) p2, .Name y py] kt pt] X.env).map (·.2) = [assign (.Tuple [.Subscript (.Name x p1) (.Constant (.int (k : Int)) n p3) p2, .Name y py] kt pt) X.env]) :
    PS X (.Assign [.Tuple [.Subscript (.Name x p1) (.Constant (.int (k : Int)) n p3) p2, .Name y py] kt pt] e pos) (tS (sWpair i k j d)) := by
  refine PS.weak (ps_asg he (pg_tup hc (pgs_cons (pg_sub (pe_var hN hv hd hcd) pe_int set_list ha) (pgs_cons (pg_name hnd hj hx hf) pgs_nil h3) h2) hn hst) hs hw h1) fun D σ H ⟨aw, B0, H0, B, ρ, w, fl, ρ', w', r, q, kk⟩ => ?_
  obtain ⟨⟨t, w1⟩, q1, q2⟩ := Option.bind_eq_some_iff.mp q
  dsimp only at q2
  split at q2
  · rename_i zz t2 eo
    split at q2
    · rename_i hk
      cases q2
      obtain ⟨p, ev, ea⟩ := r.cell i _ eo
      refine ⟨aw, B, ρ, w, _, w1, r.toR, q1, fun v H1 s1 rp => ?_⟩
      simp only [Rp] at rp
      obtain ⟨a, vs, rfl, nb, hat, rl⟩ := rp
      obtain ⟨v1, r1, rfl, rp1, rl⟩ := rl.cons_inv
      obtain ⟨v2, r2, rfl, rp2, rl⟩ := rl.cons_inv
      have := rl.nil_inv
      subst this
      simp only [Rp] at rp1
      subst rp1
      have hp1 := s1.2 p ea
      have rr := r.step s1
      obtain ⟨g1, g2⟩ := rr.wput (w' := w1.set k zz) ea
      refine ⟨a, _, rfl, SqT.of hat, rfl, _, _, rfl, ⟨_, ev, p, w1.map V.int, k, k, rfl, rfl, hp1, ?_, ?_⟩⟩
      · unfold ixN
        rw [if_pos (by omega), if_pos (by rw [List.length_map]; omega)]
        simp
      · refine ⟨_, _, rfl, rfl, ?_⟩
        have g3 := par_go (i := j) g1 (rp2.mv fun a o e n => ⟨g2 a o e n, n⟩) hk.2
        have := kk (σ.set j (some v2)) _ B g3 ((r.kpB s1).trans g2 .refl) .refl
        rw [List.map_set] at this
        exact this
    · cases q2
  · cases q2
theorem s_par2 {px py pt pt2 : Pos} {kt k2 : Nat} (hc : X.calm = true) (hN : X.N.Nodup) (hi : X.N[i]? = some x) (hj : X.N[j]? = some y) (hij : i ≠ j)
    (hx : X.env.scope.names.lookup x = some .local) (hy : X.env.scope.names.lookup y = some .local) (ha : PA X [a, b] (tA r))
    (hw : swappedStores [.Tuple [.Name x px, .Name y py] kt pt] (.Tuple [a, b] k2 pt2) X.env = pure (some [x, y]))
    (hs : swapsWithSole [.Tuple [.Name x px, .Name y py] kt pt] (.Tuple [a, b] k2 pt2) pos.line X.env = pure false) :
    PS X (.Assign [.Tuple [.Name x px, .Name y py] kt pt] (.Tuple [a, b] k2 pt2) pos) (tS (sPar2 i j r)) := by
  refine PS.weak (ps_par hc hN hi hj hij hx hy ha hw hs) fun D σ H ⟨aw, B0, H0, B, ρ, w, fl, ρ', w', r, q, k⟩ => ?_
  obtain ⟨⟨ts, w1⟩, q1, q2⟩ := Option.bind_eq_some_iff.mp q
  dsimp only at q2
  split at q2
  · split at q2
    · rename_i hl
      cases q2
      refine ⟨aw, B, ρ, w, _, _, r.toR, q1, fun vs H1 s1 rl => ?_⟩
      obtain ⟨v1, r1, rfl, rp1, rl⟩ := rl.cons_inv
      obtain ⟨v2, r2, rfl, rp2, rl⟩ := rl.cons_inv
      have := rl.nil_inv
      subst this
      refine ⟨v1, v2, rfl, k _ H1 B ?_ (r.kpB s1) .refl⟩
      exact par_go (par_go (r.step s1) rp1 hl.1) rp2 (by rw [List.length_set]; exact hl.2)
    · cases q2
  · cases q2
theorem s_par3 {px py pz pt pt2 : Pos} {kt k2 : Nat} (hc : X.calm = true) (hN : X.N.Nodup) (hi : X.N[i]? = some x) (hj : X.N[j]? = some y) (hl : X.N[l]? = some z) (hij : i ≠ j) (hil : i ≠ l) (hjl : j ≠ l)
    (hx : X.env.scope.names.lookup x = some .local) (hy : X.env.scope.names.lookup y = some .local) (hz : X.env.scope.names.lookup z = some .local) (ha : PA X [a, b, c2] (tA r))
    (hw : swappedStores [.Tuple [.Name x px, .Name y py, .Name z pz] kt pt] (.Tuple [a, b, c2] k2 pt2) X.env = pure (some [x, y, z]))
    (hs : swapsWithSole [.Tuple [.Name x px, .Name y py, .Name z pz] kt pt] (.Tuple [a, b, c2] k2 pt2) pos.line X.env = pure false) :
    PS X (.Assign [.Tuple [.Name x px, .Name y py, .Name z pz] kt pt] (.Tuple [a, b, c2] k2 pt2) pos) (tS (sPar3 i j l r)) := by
  refine PS.weak (ps_par3 hc hN hi hj hl hij hil hjl hx hy hz ha hw hs) fun D σ H ⟨aw, B0, H0, B, ρ, w, fl, ρ', w', r, q, k⟩ => ?_
  obtain ⟨⟨ts, w1⟩, q1, q2⟩ := Option.bind_eq_some_iff.mp q
  dsimp only at q2
  split at q2
  · split at q2
    · rename_i hl
      cases q2
      refine ⟨aw, B, ρ, w, _, _, r.toR, q1, fun vs H1 s1 rl => ?_⟩
      obtain ⟨v1, r1, rfl, rp1, rl⟩ := rl.cons_inv
      obtain ⟨v2, r2, rfl, rp2, rl⟩ := rl.cons_inv
      obtain ⟨v3, r3, rfl, rp3, rl⟩ := rl.cons_inv
      have := rl.nil_inv
      subst this
      refine ⟨v1, v2, v3, rfl, k _ H1 B ?_ (r.kpB s1) .refl⟩
      exact par_go (par_go (par_go (r.step s1) rp1 hl.1) rp2 (by rw [List.length_set]; exact hl.2.1)) rp3 (by rw [List.length_set, List.length_set]; exact hl.2.2)
    · cases q2
  · cases q2
/-! #### a name, by a comprehension on its line -/
theorem e_f {d : De} (hl : ∀ ρ w t w', d ρ w = some (t, w') → ∃ ts, t = .list ts) {σ : L2.St} {H : Hp} {Q : VK} : tE d σ H Q → tF d σ H Q := fun ⟨aw, B, ρ, w, t, w', r, q, k⟩ => by
  obtain ⟨ts, rfl⟩ := hl _ _ _ _ q
  refine ⟨aw, B, ρ, w, ts, w', r, q, fun p vs H' s hp hp' rl => k _ H' s ?_⟩
  simp only [Rp]
  exact ⟨p, vs, rfl, r.toOk.fresh hp, hp', rl.mv fun a o h1 h2 => ⟨h1, fun b => h2 (.inl b)⟩⟩
theorem nm_go {D : Ends} {σ : L2.St} {H : Hp} : tS (sAsg (gNm i) d) D σ H → tAsg (tE d) (gName i) D σ H := fun q => by
  obtain ⟨aw, B, ρ, w, t, w1, r, q1, k⟩ := asg_go (tgs_nm (i := i)) q
  refine ⟨aw, B, ρ, w, t, w1, r, q1, fun v H1 s1 rp => ?_⟩
  obtain ⟨aw', B', ρ', w', t', ρ1, r', rp', q3, k'⟩ := k v H1 s1 rp
  unfold gNm at q3
  split at q3
  · rename_i hl
    cases q3
    refine k' _ (r'.put rp' hl) ⟨by rw [List.length_set], fun j n => by rw [List.getElem?_set_ne (by simpa using Ne.symm (by simpa using n))]⟩ ?_
    intro j hj c e
    have : j = i := by simpa using hj
    subst this
    rw [List.getElem?_set_self hl] at e
    cases e
    exact ⟨t', rfl⟩
  · cases q3
section
variable {tg iter elt : Expr} {ifs : List Expr} {scope : Scope} {own : List (Str × Nat)} {bb : Bool} {it : Da} {de : De} {py : Pos}
theorem s_lc (hc : X.calm = true) (hN : X.N.Nodup) (hy : X.N[i]? = some y) (hyl : X.env.scope.names.lookup y = some .local)
    (hsw : swapsWith (.ListComp elt [⟨tg, iter, ifs, 0⟩] scope pos) (some (.Name y py)) pos'.line X.env = pure true) (hi : PI X tg iter (tI bb it)) (ok : BlkOk X.N X.env.scope scope own)
    (hg : ∀ (s : Shared) (H : Hp) (C : Addr) (cl : List (Str × Addr)) (fp : List Addr), PG (X.blk s H scope (compEnvC scope cl C X.env) fp) tg (tG sl g))
    (ht : ∀ (s : Shared) (H : Hp) (C : Addr) (cl : List (Str × Addr)) (fp : List Addr), PTs (X.blk s H scope (compEnvC scope cl C X.env) fp) ifs (tT c))
    (he : ∀ (s : Shared) (H : Hp) (C : Addr) (cl : List (Str × Addr)) (fp : List Addr), PE (X.blk s H scope (compEnvC scope cl C X.env) fp) elt (tE de))
    (hsl : ∀ j ∈ sl, j ∈ own.map (·.2)) (hs : ∀ x, foldedSetIterable iter X.env x = pure x) :
    PS X (.Assign [.Name y py] (.ListComp elt [⟨tg, iter, ifs, 0⟩] scope pos) pos') (tS (sAsg (gNm i) (dComp (own.map (·.2)) it g c de))) :=
  PS.weak (ps_setLc hc hN hy hyl hsw hi ok hg ht he hs) fun D σ H q => lc_go hsl (e_f (fun _ _ _ _ => dComp_lst) (nm_go q))
theorem s_lcOwn (hc : X.calm = true) (hN : X.N.Nodup) (hy : X.N[i]? = some y) (hyl : X.env.scope.names.lookup y = some .local)
    (hsw : swapsWith (.ListComp elt [⟨tg, iter, ifs, 0⟩] scope pos) (some (.Name y py)) pos'.line X.env = pure true) (hi : PI X tg iter (tI bb it)) (ok : BlkOk X.N X.env.scope scope own)
    (hg : ∀ (s : Shared) (H : Hp) (C : Addr) (cl : List (Str × Addr)) (fp : List Addr), PG (X.blk s H scope (compEnvC scope cl C X.env) fp) tg (tG sl g))
    (ht : ∀ (s : Shared) (H : Hp) (C : Addr) (cl : List (Str × Addr)) (fp : List Addr), PTs (X.blk s H scope (compEnvC scope cl C X.env) fp) ifs (tT c))
    (he : ∀ (s : Shared) (H : Hp) (C : Addr) (cl : List (Str × Addr)) (fp : List Addr), PE (X.blk s H scope (compEnvC scope cl C X.env) fp) elt (tE de))
    (hsl : ∀ j ∈ sl, j ∈ own.map (·.2)) (hs : ∀ x, foldedSetIterable iter X.env x = pure x) :
    PS X (.Assign [.Name y py] (.ListComp elt [⟨tg, iter, ifs, 0⟩] scope pos) pos') (tS (sOwn i (dComp (own.map (·.2)) it g c de))) :=
  PS.weak (ps_setLc hc hN hy hyl hsw hi ok hg ht he hs) fun D σ H q => lc_go hsl (own_go q)
end
end

/-! ### defs -/
def rho0 (n : Nat) (ts : List D) : Rho := ts.map (fun t => some (.val t)) ++ List.replicate (n - ts.length) none
/-- a def of n parameters and N names without a well -/
def defP (n N : Nat) (s : Sm) : List D → Option D := fun ts => if ts.length = n then (s (rho0 N ts) []).bind fun p => match p.1 with
  | .rt t => some t
  | .nx => some .none
  | _ => none
  else none
def defW (n N : Nat) (s : Sm) : List D → Ws → Option (D × Ws) := fun ts w => if ts.length = n then (s (some .well :: rho0 N ts) w).bind fun p => match p.1 with
  | .rt t => some (t, p.2.2)
  | .nx => some (.none, p.2.2)
  | _ => none
  else none
def spP (n : Nat) (F : List D → Option D) : Sp := fun vs H Q E => ∃ (B : Addr → Prop) (ts : List D) (t : D), (∀ a, B a → H a ≠ none) ∧ ts.length = n ∧ RpL H B ts vs ∧ F ts = some t ∧
  ∀ v H', (∀ a o, H a = some o → H' a = some o) → Rp H' B t v → Q v H'
def spW (n : Nat) (F : List D → Ws → Option (D × Ws)) : Sp := fun vs H Q E => ∃ (a : Addr) (B : Addr → Prop) (ts : List D) (w : Ws) (t : D) (w' : Ws) (vs' : List V), vs = .ref a :: vs' ∧ Ok (some a) B w H ∧ ts.length = n ∧ RpL H B ts vs' ∧ F ts w = some (t, w') ∧
  ∀ v H', Stp (some a) H H' w' → Rp H' B t v → Q v H'
theorem start_get {N : List Str} {vs : List V} {i : Nat} {v : V} (h : vs[i]? = some v) : (L2.start N vs)[i]? = some (some v) := by
  unfold L2.start
  rw [List.getElem?_append_left (by simpa using (List.getElem?_eq_some_iff.mp h).1), List.getElem?_map, h]
  rfl
theorem rho0_get {n : Nat} {ts : List D} {i : Nat} {c : Cl} (h : (rho0 n ts)[i]? = some (some c)) : ∃ t, ts[i]? = some t ∧ c = .val t := by
  unfold rho0 at h
  by_cases hi : i < ts.length
  · rw [List.getElem?_append_left (by simpa using hi), List.getElem?_map] at h
    obtain ⟨t, e1, e2⟩ := Option.map_eq_some_iff.mp h
    cases e2
    exact ⟨t, e1, rfl⟩
  · rw [List.getElem?_append_right (by simpa using hi), List.getElem?_replicate] at h
    split at h <;> cases h
theorem rho0_len {n : Nat} {ts : List D} (h : ts.length ≤ n) : (rho0 n ts).length = n := by
  unfold rho0
  simp
  omega
theorem start_len {N : List Str} {vs : List V} (h : vs.length ≤ N.length) : (L2.start N vs).length = N.length := by
  unfold L2.start
  simp
  omega
section
variable {P : Program} {w : World} {K : PySem.W.Frag} {mg : Str → Option Value} {base : Heap} {CX : CXT}
variable {x qual : Str} {params : Arguments} {body : List Stmt} {scope : Scope} {dvs : List V}
variable {kws : List (Str × V)} {f : Addr} {fd : FuncData} {N ps : List Str} {k n : Nat} {s : Sm}
theorem okP (F : FunD K x qual params body scope dvs kws f fd) (S : FnScope N ps scope) (hn : ps.length = n) (hN : n ≤ N.length)
    (hbody : ∀ (cdv : Value) (A : Around) (outer : List PySem.Env) (s0 : Shared) (H : Hp) (E : XK), Room k (A.deeper (envOfC qual scope s0.heap.objs.size f cdv)) → A.guards = some [] →
      PSs (cxOf CX0 P w K mg base N qual scope f cdv A outer s0 H E).nox body (tS s)) :
    FnG P w K mg base CX0 (k + 1) f fd ps (spP n (defP n N.length s)) := by
  refine okG F S (fun vs H Q E h => ?_) (fun cdv A outer s0 H vs Q E hr hg h => ⟨_, (hbody cdv A outer s0 H E hr hg).nox, ?_⟩)
  · obtain ⟨B, ts, t, _, hl, rl, _⟩ := h
    rw [← rl.len, hl, hn]
  · obtain ⟨B, ts, t, hB, hl, rl, hf, hk⟩ := h
    unfold defP at hf
    rw [if_pos hl] at hf
    obtain ⟨⟨fl, ρ', w'⟩, q1, q2⟩ := Option.bind_eq_some_iff.mp hf
    have hlv := rl.len
    refine ⟨none, B, H, B, rho0 N.length ts, [], fl, ρ', w', ?_, q1, ?_⟩
    · refine { dom := hB
               wl := fun a e => nomatch e
               len := by rw [rho0_len (by omega), start_len (by omega)]; exact Nat.le_refl _
               cell := fun i c e => ?_
               kp := fun a o e _ => e
               b0 := fun a h => .inl h
               sub := fun a h => h
               inj := fun i j us zs p _ e1 _ _ => ?_
               nb := fun i us p e1 _ => ?_ }
      · obtain ⟨t, e1, rfl⟩ := rho0_get e
        obtain ⟨v, e2, rp⟩ := rl.get e1
        exact ⟨v, start_get e2, rp⟩
      · obtain ⟨t, _, z⟩ := rho0_get e1
        cases z
      · obtain ⟨t, _, z⟩ := rho0_get e1
        cases z
    · cases fl with
      | nx =>
        cases q2
        exact fun σ' H' B' r' k' _ => hk _ H' (fun a o e => r'.kp a o e (fun z => nomatch z)) rp_non
      | bk => cases q2
      | ct => cases q2
      | rt t =>
        cases q2
        exact fun v H' s rp => hk v H' (fun a o e => s.1 a o e fun z => nomatch z) rp
theorem okW (F : FunD K x qual params body scope dvs kws f fd) (S : FnScope N ps scope) (hn : ps.length = n + 1) (hN : n + 1 ≤ N.length)
    (hbody : ∀ (cdv : Value) (A : Around) (outer : List PySem.Env) (s0 : Shared) (H : Hp) (E : XK), Room k (A.deeper (envOfC qual scope s0.heap.objs.size f cdv)) → A.guards = some [] →
      PSs (cxOf CX0 P w K mg base N qual scope f cdv A outer s0 H E).nox body (tS s)) :
    FnG P w K mg base CX0 (k + 1) f fd ps (spW n (defW n (N.length - 1) s)) := by
  refine okG F S (fun vs H Q E h => ?_) (fun cdv A outer s0 H vs Q E hr hg h => ⟨_, (hbody cdv A outer s0 H E hr hg).nox, ?_⟩)
  · obtain ⟨a, B, ts, w1, t, w', vs', rfl, _, hl, rl, _⟩ := h
    rw [List.length_cons, ← rl.len, hl, hn]
  · obtain ⟨a, B, ts, w1, t, w2, vs', rfl, ok, hl, rl, hf, hk⟩ := h
    unfold defW at hf
    rw [if_pos hl] at hf
    obtain ⟨⟨fl, ρ', w'⟩, q1, q2⟩ := Option.bind_eq_some_iff.mp hf
    have hlv := rl.len
    refine ⟨some a, B, H, B, _, w1, fl, ρ', w', ?_, q1, ?_⟩
    · refine { dom := ok.dom
               wl := ok.wl
               len := by rw [List.length_cons, rho0_len (by omega), start_len (by rw [List.length_cons]; omega)]; omega
               cell := fun i c e => ?_
               kp := fun a o e _ => e
               b0 := fun a h => .inl h
               sub := fun a h => h
               inj := fun i j us zs p _ e1 _ _ => ?_
               nb := fun i us p e1 _ => ?_ }
      · cases i with
        | zero =>
          simp at e
          subst e
          exact ⟨a, start_get (by simp), rfl⟩
        | succ i =>
          obtain ⟨t, e1, rfl⟩ := rho0_get (by simpa using e)
          obtain ⟨v, e2, rp⟩ := rl.get e1
          exact ⟨v, start_get (by simpa using e2), rp⟩
      · cases i with
        | zero => simp at e1
        | succ i =>
          obtain ⟨t, _, z⟩ := rho0_get (by simpa using e1)
          cases z
      · cases i with
        | zero => simp at e1
        | succ i =>
          obtain ⟨t, _, z⟩ := rho0_get (by simpa using e1)
          cases z
    · cases fl with
      | nx =>
        cases q2
        exact fun σ' H' B' r' k' _ => hk _ H' ⟨r'.kp, fun b eb => (r'.wl b eb).2⟩ rp_non
      | bk => cases q2
      | ct => cases q2
      | rt t =>
        cases q2
        exact fun v H' s rp => hk v H' s rp
end

/-! ### calls of defs -/
def dCallP (F : List D → Option D) (r : Da) : De := fun ρ w => (r ρ w).bind fun p => (F p.1).map fun t => (t, p.2)
/-- f(well, ..): the well stands in slot i -/
def dCallW (i : Nat) (F : List D → Ws → Option (D × Ws)) (r : Da) : De := fun ρ w => match ρ[i]? with
  | some (some .well) => (r ρ w).bind fun p => F p.1 p.2
  | _ => none
section
variable {X : Cx} {k n i : Nat} {f : Addr} {fd : FuncData} {ps ks : List Str} {x y : Str} {p pos py : Pos} {e : Expr} {es : List Expr} {F : List D → Option D} {G : List D → Ws → Option (D × Ws)} {r rk : Da}
theorem stp_all {aw : Option Addr} {B : Addr → Prop} {w : Ws} {H H' : Hp} (o : Ok aw B w H) (h : ∀ a o, H a = some o → H' a = some o) : Stp aw H H' w := ⟨fun a u e _ => h a u e, fun a e => h a _ (o.wl a e).2⟩
theorem r_callP (hF : FnG X.prog X.w X.K X.mg X.base CX0 k f fd ps (spP n F)) (hr : Room k X.A) (hgd : X.A.guards = some []) (hg : Gl X x) (hm : X.mg x = some (.ref f)) (hk : PySem.W.keepIn X.K (.ref f) = true) (hb : Binds X.K fd ps [])
    (hn : (e :: es).length = n) (ha : PA X (e :: es) (tA r)) (hlen : ∀ ρ w ts w', r ρ w = some (ts, w') → ts.length = (e :: es).length) (hdb : (x == ("__debug__" : Str)) = false)
    (he : starEach (e :: es) X.env = (false, eval e X.env) :: starEach es X.env) (hpl : (backTo pos (starEach es X.env)).any (·.1) = false) : PE X (.Call (.Name x p) (e :: es) [] pos) (tE (dCallP F r)) := by
  refine PE.weak (callG hF hr hgd hg hm hk hb pass0 ha hdb he hpl) fun σ H Q ⟨aw, B, ρ, w, t, w', rr, q, kk⟩ => ?_
  obtain ⟨⟨ts, w1⟩, q1, q2⟩ := Option.bind_eq_some_iff.mp q
  obtain ⟨t', q3, q4⟩ := Option.map_eq_some_iff.mp q2
  cases q4
  refine ⟨aw, B, ρ, w, ts, _, rr, q1, fun vs H1 s1 rl => ?_⟩
  show spP n F (vs ++ []) H1 Q E0
  rw [List.append_nil]
  have r1 := rr.step s1
  refine ⟨B, ts, t, r1.dom, by rw [hlen _ _ _ _ q1, hn], rl, q3, fun v H2 k2 rp => kk v H2 (s1.trans (stp_all r1.toOk k2)) rp⟩
theorem r_callW (hF : FnG X.prog X.w X.K X.mg X.base CX0 k f fd ps (spW n G)) (hr : Room k X.A) (hgd : X.A.guards = some []) (hg : Gl X x) (hm : X.mg x = some (.ref f)) (hk : PySem.W.keepIn X.K (.ref f) = true) (hb : Binds X.K fd ps [])
    (hN : X.N[i]? = some y) (hv : Vis X.env.scope y) (hd : (y == ("__debug__" : Str)) = false) (hcd : (y == ("__classdict__" : Str)) = false)
    (hn : es.length = n) (ha : PA X es (tA r)) (hlen : ∀ ρ w ts w', r ρ w = some (ts, w') → ts.length = es.length) (hdb : (x == ("__debug__" : Str)) = false)
    (he : starEach (.Name y py :: es) X.env = (false, eval (.Name y py) X.env) :: starEach es X.env) (hpl : (backTo pos (starEach es X.env)).any (·.1) = false) : PE X (.Call (.Name x p) (.Name y py :: es) [] pos) (tE (dCallW i G r)) := by
  refine PE.weak (callG hF hr hgd hg hm hk hb pass0 (pa_cons (pe_var hN hv hd hcd) ha he) hdb he hpl) fun σ H Q ⟨aw, B, ρ, w, t, w', rr, q, kk⟩ => ?_
  unfold dCallW at q
  split at q
  · rename_i eo
    obtain ⟨⟨ts, w1⟩, q1, q2⟩ := Option.bind_eq_some_iff.mp q
    obtain ⟨a, ev, ea⟩ := rr.cell i _ eo
    refine ⟨_, ev, aw, B, ρ, w, ts, w1, rr, q1, fun vs H1 s1 rl => ?_⟩
    show spW n G (V.ref a :: vs ++ []) H1 Q E0
    rw [List.append_nil]
    have r1 := rr.step s1
    subst ea
    exact ⟨a, B, ts, w1, t, w', vs, rfl, r1.toOk, by rw [hlen _ _ _ _ q1, hn], rl, q2, fun v H2 s2 rp => kk v H2 (s1.trans s2) rp⟩
  · cases q
theorem len_nil : ∀ ρ w ts w', dNil ρ w = some (ts, w') → ts.length = ([] : List Expr).length := fun _ _ _ _ h => by cases h; rfl
theorem len_cons {d : De} {r : Da} {e : Expr} {es : List Expr} (h : ∀ ρ w ts w', r ρ w = some (ts, w') → ts.length = es.length) : ∀ ρ w ts w', dCons d r ρ w = some (ts, w') → ts.length = (e :: es).length := fun _ _ _ _ q => by
  obtain ⟨x, w1, us, _, e2, rfl⟩ := cons_open q
  simp [h _ _ _ _ e2]
end
end Mi
namespace Mi
open PySem PySem.Spec PyProof.Rows L2

/-! ### a def of the text, ready to be called -/
structure Dn (P : Program) (w : World) (K : PySem.W.Frag) (mg : Str → Option Value) (base : Heap) (k : Nat) (f : Addr) (fd : FuncData) (x : Str) (ps : List Str) (sp : Sp) : Prop where
  m : mg x = some (.ref f)
  kp : PySem.W.keepIn K (.ref f) = true
  b : Binds K fd ps []
  F : FnG P w K mg base CX0 k f fd ps sp
def perm {α : Type} (π : List Nat) (l : List α) : List α := π.filterMap fun i => l[i]?
def gK {α : Type} (m k : Nat) (π : List Nat) (us ws : List α) : List α := if us.length = m ∧ ws.length = k then perm π (us ++ ws) else []
theorem vals_perm {vs : List V} {us : List Value} (r : Vals vs us) : ∀ π : List Nat, Vals (perm π vs) (perm π us)
  | [] => .nil
  | i :: π => by
    unfold perm
    rw [List.filterMap_cons, List.filterMap_cons]
    cases e : vs[i]? with
    | none =>
      rw [Vals.none_of r e]
      exact vals_perm r π
    | some v =>
      obtain ⟨u, eu, rv⟩ := r.get e
      rw [eu]
      exact .cons rv (vals_perm r π)
theorem rpl_perm {H : Hp} {B : Addr → Prop} {ts : List D} {vs : List V} (r : RpL H B ts vs) : ∀ π : List Nat, RpL H B (perm π ts) (perm π vs)
  | [] => rpl_nil
  | i :: π => by
    unfold perm
    rw [List.filterMap_cons, List.filterMap_cons]
    cases e : ts[i]? with
    | none =>
      have : vs[i]? = none := by
        rw [List.getElem?_eq_none_iff] at e ⊢
        rw [← r.len]; exact e
      rw [this]
      exact rpl_perm r π
    | some t =>
      obtain ⟨v, ev, rp⟩ := r.get e
      rw [ev]
      exact rpl_cons rp (rpl_perm r π)
section
variable {K : PySem.W.Frag} {x qual : Str} {params : Arguments} {body : List Stmt} {scope : Scope} {kws : List (Str × V)} {f : Addr} {fd : FuncData} {ps ks : List Str} {m : Nat} {π : List Nat}
theorem kb_of (F : FunD K x qual params body scope [] kws f fd) (hp : ps ≠ []) (h : ∀ (kV doc pm : Value) (an : Option Addr) (cdv ct : Value) (us ws : List Value), us.length = m → ws.length = ks.length →
    bindArgs (PySem.W.fnOf x qual params body scope .none kV doc pm an cdv ct) ⟨us, ks.zip ws⟩ = pure (ps.zip (perm π (us ++ ws)))) : KBinds K fd ps ks (gK m ks.length π) (gK m ks.length π) := by
  obtain ⟨oc, od, dV, kV, doc, pm, an, cdv, ct, osl, rfl, lk, hcd, hD, hK⟩ := F.ex
  rcases hD with ⟨_, rfl⟩ | ⟨e, _⟩
  · refine ⟨fun s us ws _ hl => ?_, fun {vs us zs ws} r1 r2 => ?_⟩
    · unfold gK at hl ⊢
      split at hl
      · rename_i hc
        rw [if_pos hc]
        exact .of_eq (h kV doc pm an cdv ct us ws hc.1 hc.2)
      · exact absurd (List.eq_nil_of_length_eq_zero hl.symm) hp
    · unfold gK
      rw [r1.length, r2.length]
      split
      · exact vals_perm (r1.append r2) π
      · exact .nil
  · exact absurd rfl e
end
def dApp (r rk : Da) : Da := fun ρ w => (r ρ w).bind fun p => (rk ρ p.2).map fun q => (p.1 ++ q.1, q.2)
/-- f(.., k = v ..): the values, in the order in which they are written, are put in the parameters' order -/
def dCallK (π : List Nat) (F : List D → Option D) (r : Da) : De := fun ρ w => (r ρ w).bind fun p => (F (perm π p.1)).map fun t => (t, p.2)
section
variable {X : Cx} {k n i : Nat} {f : Addr} {fd : FuncData} {ps ks : List Str} {x y : Str} {p pos py kpos : Pos} {e : Expr} {es : List Expr} {F : List D → Option D} {G : List D → Ws → Option (D × Ws)} {r rk : Da} {π : List Nat} {kws : List Keyword} {de : De} {nm : Option Str}
theorem c_P (c : Dn X.prog X.w X.K X.mg X.base k f fd x ps (spP n F)) (hr : Room k X.A) (hgd : X.A.guards = some []) (hg : Gl X x)
    (hn : (e :: es).length = n) (ha : PA X (e :: es) (tA r)) (hlen : ∀ ρ w ts w', r ρ w = some (ts, w') → ts.length = (e :: es).length) (hdb : (x == ("__debug__" : Str)) = false)
    (he : starEach (e :: es) X.env = (false, eval e X.env) :: starEach es X.env) (hpl : (backTo pos (starEach es X.env)).any (·.1) = false) : PE X (.Call (.Name x p) (e :: es) [] pos) (tE (dCallP F r)) :=
  r_callP c.F hr hgd hg c.m c.kp c.b hn ha hlen hdb he hpl
theorem c_W (c : Dn X.prog X.w X.K X.mg X.base k f fd x ps (spW n G)) (hr : Room k X.A) (hgd : X.A.guards = some []) (hg : Gl X x)
    (hN : X.N[i]? = some y) (hv : Vis X.env.scope y) (hd : (y == ("__debug__" : Str)) = false) (hcd : (y == ("__classdict__" : Str)) = false)
    (hn : es.length = n) (ha : PA X es (tA r)) (hlen : ∀ ρ w ts w', r ρ w = some (ts, w') → ts.length = es.length) (hdb : (x == ("__debug__" : Str)) = false)
    (he : starEach (.Name y py :: es) X.env = (false, eval (.Name y py) X.env) :: starEach es X.env) (hpl : (backTo pos (starEach es X.env)).any (·.1) = false) : PE X (.Call (.Name x p) (.Name y py :: es) [] pos) (tE (dCallW i G r)) :=
  r_callW c.F hr hgd hg c.m c.kp c.b hN hv hd hcd hn ha hlen hdb he hpl
theorem k_nil : PK X [] (tA dNil) := PK.weak pk_nil fun σ H Q ⟨aw, B, ρ, w, ts, w', r, q, k⟩ => by
  cases q
  exact k [] H r.stp rpl_nil
theorem k_cons (ha : PE X e (tE de)) (hr : PK X kws (tA r)) : PK X (⟨nm, e, kpos⟩ :: kws) (tA (dCons de r)) := by
  refine PK.weak (pk_cons ha hr) fun σ H Q ⟨aw, B, ρ, w, ts, w', r, q, k⟩ => ?_
  obtain ⟨x, w1, us, e1, e2, rfl⟩ := cons_open q
  refine ⟨aw, B, ρ, w, x, w1, r, e1, fun v H1 s1 rp => ⟨aw, B, ρ, w1, us, w', r.step s1, e2, fun vs H2 s2 rl => k _ H2 (s1.trans s2) ?_⟩⟩
  exact rpl_cons (rp.mv ((r.step s1).toOk.mv s2)) rl
theorem callG0K {CX : CXT} {sp : Sp} {E : XK} {g : List Value → List Value → List Value} {gV : List V → List V → List V} {tk : TA} (F : FnG X.prog X.w X.K X.mg X.base CX k f fd ps sp) (hr : Room k X.A) (hgd : X.A.guards = some [])
    (hg : Gl X x) (hm : X.mg x = some (.ref f)) (hk : PySem.W.keepIn X.K (.ref f) = true) (hb : KBinds X.K fd ps ks g gV)
    (hx : Passes CX X E) (hkw : PK X kws tk)
    (hall : (backToKw pos (keywordEach kws X.env)).all (·.1.isSome) = true)
    (hks : (backToKw pos (keywordEach kws X.env)).filterMap (·.1) = ks)
    (hdb : (x == ("__debug__" : Str)) = false)
    (hpl : ((backTo pos (starEach [] X.env)).any (·.1) || (backToKw pos (keywordEach kws X.env)).any (·.1.isNone)) = false) :
    PE X (.Call (.Name x p) [] kws pos) (tCallK sp gV E tNil tk) := by
  constructor
  intro pins s σ H Q I h
  apply wpAny_Call_Name_kw
  apply ld_glob I hg hm _ hdb
  refine PySem.W.callWith_KW0 (h₀ := X.base) I.ok.mod.kin hk hall ?_ hpl
  refine thn (hkw.run pos pins s σ H _ I h) ?_
  rintro ws s2 ⟨zs, H2, I2, rz, q2⟩
  refine ⟨I2.kIn, ?_⟩
  rw [hks]
  exact runGK F hr hgd hb hx I2 .nil rz q2
theorem gK_pos {α : Type} {m k : Nat} {us ws : List α} (h1 : us.length = m) (h2 : ws.length = k) : gK m k π us ws = perm π (us ++ ws) := if_pos ⟨h1, h2⟩
/-- keywords alone -/
theorem c_K0 (c : Dn X.prog X.w X.K X.mg X.base k f fd x ps (spP n F)) (hb : KBinds X.K fd ps ks (gK 0 ks.length π) (gK 0 ks.length π)) (hr : Room k X.A) (hgd : X.A.guards = some []) (hg : Gl X x)
    (hkw : PK X kws (tA r)) (hlen : ∀ ρ w ts w', r ρ w = some (ts, w') → ts.length = ks.length) (hπ : ∀ ts : List D, ts.length = ks.length → (perm π ts).length = n)
    (hall : (backToKw pos (keywordEach kws X.env)).all (·.1.isSome) = true)
    (hks : (backToKw pos (keywordEach kws X.env)).filterMap (·.1) = ks)
    (hdb : (x == ("__debug__" : Str)) = false)
    (hpl : ((backTo pos (starEach [] X.env)).any (·.1) || (backToKw pos (keywordEach kws X.env)).any (·.1.isNone)) = false) :
    PE X (.Call (.Name x p) [] kws pos) (tE (dCallK π F r)) := by
  refine PE.weak (callG0K c.F hr hgd hg c.m c.kp hb pass0 hkw hall hks hdb hpl) fun σ H Q ⟨aw, B, ρ, w, t, w', rr, q, kk⟩ => ?_
  obtain ⟨⟨ts, w1⟩, q1, q2⟩ := Option.bind_eq_some_iff.mp q
  obtain ⟨t', q3, q4⟩ := Option.map_eq_some_iff.mp q2
  cases q4
  refine ⟨aw, B, ρ, w, ts, _, rr, q1, fun vs H1 s1 rl => ?_⟩
  have hl := hlen _ _ _ _ q1
  show spP n F (gK 0 ks.length π [] vs) H1 Q E0
  rw [gK_pos (m := 0) (us := []) rfl (by rw [← rl.len]; exact hl), List.nil_append]
  have r1 := rr.step s1
  exact ⟨B, _, t, r1.dom, hπ _ hl, rpl_perm rl π, q3, fun v H2 k2 rp => kk v H2 (s1.trans (stp_all r1.toOk k2)) rp⟩
/-- some values, then keywords -/
theorem c_K (c : Dn X.prog X.w X.K X.mg X.base k f fd x ps (spP n F)) (hb : KBinds X.K fd ps ks (gK (es.length + 1) ks.length π) (gK (es.length + 1) ks.length π)) (hr : Room k X.A) (hgd : X.A.guards = some []) (hg : Gl X x)
    (ha : PA X (e :: es) (tA r)) (hkw : PK X kws (tA rk)) (hlen0 : ∀ ρ w ts w', r ρ w = some (ts, w') → ts.length = (e :: es).length) (hlen : ∀ ρ w ts w', rk ρ w = some (ts, w') → ts.length = ks.length) (hπ : ∀ ts : List D, ts.length = es.length + 1 + ks.length → (perm π ts).length = n)
    (hall : (backToKw pos (keywordEach kws X.env)).all (·.1.isSome) = true)
    (hks : (backToKw pos (keywordEach kws X.env)).filterMap (·.1) = ks)
    (hdb : (x == ("__debug__" : Str)) = false)
    (he : starEach (e :: es) X.env = (false, eval e X.env) :: starEach es X.env)
    (hpl : ((backTo pos (starEach (e :: es) X.env)).any (·.1) || (backToKw pos (keywordEach kws X.env)).any (·.1.isNone)) = false) :
    PE X (.Call (.Name x p) (e :: es) kws pos) (tE (dCallK π F (dApp r rk))) := by
  refine PE.weak (callGK c.F hr hgd hg c.m c.kp hb pass0 ha hkw hall hks hdb he hpl) fun σ H Q ⟨aw, B, ρ, w, t, w', rr, q, kk⟩ => ?_
  obtain ⟨⟨ts, w1⟩, q1, q2⟩ := Option.bind_eq_some_iff.mp q
  obtain ⟨⟨t1, w2⟩, q5, q6⟩ := Option.bind_eq_some_iff.mp q1
  obtain ⟨⟨t2, w3⟩, q7, q8⟩ := Option.map_eq_some_iff.mp q6
  obtain ⟨t', q3, q4⟩ := Option.map_eq_some_iff.mp q2
  cases q4
  cases q8
  refine ⟨aw, B, ρ, w, t1, w2, rr, q5, fun vs H1 s1 rl => ⟨aw, B, ρ, w2, t2, _, rr.step s1, q7, fun zs H2 s2 rz => ?_⟩⟩
  have hl0 := hlen0 _ _ _ _ q5
  have hl := hlen _ _ _ _ q7
  show spP n F (gK (es.length + 1) ks.length π vs zs) H2 Q E0
  rw [gK_pos (by rw [← rl.len]; exact hl0) (by rw [← rz.len]; exact hl)]
  have r2 := (rr.step s1).step s2
  have rl2 := (rl.mv ((rr.step s1).toOk.mv s2)).app rz
  exact ⟨B, _, t, r2.dom, hπ _ (by rw [List.length_append, hl0, hl]; rfl), rpl_perm rl2 π, q3, fun v H3 k2 rp => kk v H3 ((s1.trans s2).trans (stp_all r2.toOk k2)) rp⟩

/-! ### a < b < c -/
def dChain (f f' : D → D → Option D) (a b c : De) : De := fun ρ w => (a ρ w).bind fun p => (b ρ p.2).bind fun q => (f p.1 q.1).bind fun z => (asBool z).bind fun t =>
  if t then (c ρ q.2).bind fun l => (f' q.1 l.1).map fun z => (z, l.2) else some (.bool false, q.2)
theorem chain_go {f f' : D → D → Option D} {k k' : R2} {da db dc : De} {σ : L2.St} {H : Hp} {Q : VK} (hk : ∀ (aw : Option Addr) (B : Addr → Prop) (w : Ws) (H : Hp) (a b c : D) (x y : V) (Q : VK),
      Ok aw B w H → Rq aw H B a x → Rq aw H B b y → f a b = some c → (∀ v H', Stp aw H H' w → Rp H' B c v → Q v H') → k x y H Q)
    (hk' : ∀ (aw : Option Addr) (B : Addr → Prop) (w : Ws) (H : Hp) (a b c : D) (x y : V) (Q : VK),
      Ok aw B w H → Rq aw H B a x → Rq aw H B b y → f' a b = some c → (∀ v H', Stp aw H H' w → Rp H' B c v → Q v H') → k' x y H Q) :
    tE (dChain f f' da db dc) σ H Q → tChain k k' (tQ da) (tQ db) (tQ dc) σ H Q := fun ⟨aw, B, ρ, w, t, w', r, q, kk⟩ => by
  obtain ⟨⟨x, w1⟩, e1, h⟩ := Option.bind_eq_some_iff.mp q
  obtain ⟨⟨y, w2⟩, e2, h⟩ := Option.bind_eq_some_iff.mp h
  obtain ⟨z, e3, h⟩ := Option.bind_eq_some_iff.mp h
  obtain ⟨b, e4, hh⟩ := Option.bind_eq_some_iff.mp h
  clear h
  cases asBool_some e4
  refine ⟨aw, B, ρ, w, x, w1, r, e1, fun v H1 s1 q1 => ⟨aw, B, ρ, w1, y, w2, r.step s1, e2, fun u H2 s2 q2 => ?_⟩⟩
  have r2 := (r.step s1).step s2
  refine hk aw B w2 H2 x y _ v u _ r2.toOk (q1.step (r.step s1).toOk s2) q2 e3 fun v3 H3 s3 rp3 => ?_
  simp only [Rp] at rp3
  refine ⟨b, rp3, ?_⟩
  have r3 := r2.step s3
  have st3 := (s1.trans s2).trans s3
  cases b with
  | true =>
    rw [if_pos rfl] at hh
    obtain ⟨⟨l, w4⟩, e5, hi⟩ := Option.bind_eq_some_iff.mp hh
    obtain ⟨z', e6, hj⟩ := Option.map_eq_some_iff.mp hi
    cases hj
    refine iteT ⟨aw, B, ρ, w2, l, _, r3, e5, fun v4 H4 s4 q4 => ?_⟩
    exact hk' aw B _ H4 y l t u v4 Q (r3.step s4).toOk ((q2.step r2.toOk s3).step r3.toOk s4) q4 e6 fun v5 H5 s5 rp5 => kk v5 H5 (st3.trans (s4.trans s5)) rp5
  | false =>
    cases hh
    exact iteF (kk _ H3 st3 rp_bl)
variable {a b c : Expr} {da db dc : De}
theorem r_chain {op op' : CmpOp} {f f' : D → D → Option D} (ho : OpS X (compareOp op) f) (ho' : OpS X (compareOp op') f') (ha : PE X a (tQ da)) (hb : PE X b (tQ db)) (hc : PE X c (tQ dc)) (hm : lastMarks [op, op'] [b, c] = false) :
    PE X (.Compare a [op, op'] [b, c] pos) (tE (dChain f f' da db dc)) := by
  obtain ⟨k, h1, h2⟩ := ho
  obtain ⟨k', h1', h2'⟩ := ho'
  exact PE.weak (pe_chain h1 h1' ha hb hc hm) fun σ H Q h => chain_go h2 h2' h
theorem q_chain {op op' : CmpOp} {f f' : D → D → Option D} (ho : OpS X (compareOp op) f) (ho' : OpS X (compareOp op') f') (ha : PE X a (tQ da)) (hb : PE X b (tQ db)) (hc : PE X c (tQ dc)) (hm : lastMarks [op, op'] [b, c] = false) (hf : ∀ x y z, f' x y = some z → ∃ k, z = .bool k) :
    PT X (.Compare a [op, op'] [b, c] pos) (tT (dTr (dChain f f' da db dc))) := by
  obtain ⟨k, h1, h2⟩ := ho
  obtain ⟨k', h1', h2'⟩ := ho'
  refine PT.weak (pt_chain h1 h1' ha hb hc hm) fun σ H Q ⟨aw, B, ρ, w, t, w', r, q, kk⟩ => ?_
  obtain ⟨z, e1, e2⟩ := dt_open q
  have hz : ∃ k, z = .bool k := by
    obtain ⟨⟨x, w1⟩, _, h⟩ := Option.bind_eq_some_iff.mp e1
    obtain ⟨⟨y, w2⟩, _, h⟩ := Option.bind_eq_some_iff.mp h
    obtain ⟨z1, _, h⟩ := Option.bind_eq_some_iff.mp h
    obtain ⟨b, _, h⟩ := Option.bind_eq_some_iff.mp h
    cases b with
    | true =>
      rw [if_pos rfl] at h
      obtain ⟨⟨l, w4⟩, _, h⟩ := Option.bind_eq_some_iff.mp h
      obtain ⟨z', e6, h⟩ := Option.map_eq_some_iff.mp h
      cases h
      exact hf _ _ _ e6
    | false =>
      cases h
      exact ⟨false, rfl⟩
  obtain ⟨k, rfl⟩ := hz
  cases e2
  refine chain_go (Q := fun x H' => ∃ k, x = .bl k ∧ Q k H') h2 h2' ⟨aw, B, ρ, w, _, w', r, e1, fun v H' s rp => ?_⟩
  simp only [Rp] at rp
  exact ⟨_, rp, kk H' s⟩
theorem bool_gI {C : Int → Int → Bool} {g : Int → Int → Bool} : ∀ x y z, gI C (fun i j => .bool (g i j)) x y = some z → ∃ k, z = .bool k := fun x y z h => by
  unfold gI at h
  split at h
  · split at h
    · cases h; exact ⟨_, rfl⟩
    · cases h
  · cases h
theorem bool_or {f g : D → D → Option D} (h1 : ∀ x y z, f x y = some z → ∃ k, z = .bool k) (h2 : ∀ x y z, g x y = some z → ∃ k, z = .bool k) : ∀ x y z, (f x y).or (g x y) = some z → ∃ k, z = .bool k := fun x y z h => by
  cases q : f x y with
  | some w =>
    rw [q] at h
    cases h
    exact h1 _ _ _ q
  | none =>
    rw [q] at h
    exact h2 _ _ _ h
theorem bool_lens {neg : Bool} : ∀ x y z, gLens neg x y = some z → ∃ k, z = .bool k := fun x y z h => by
  unfold gLens at h
  split at h
  · split at h
    · cases h; exact ⟨_, rfl⟩
    · cases h
  · cases h
theorem bool_eqD {neg : Bool} : ∀ x y z, gEqD neg x y = some z → ∃ k, z = .bool k := fun x y z h => by
  unfold gEqD at h
  split at h
  · cases h; exact ⟨_, rfl⟩
  · cases h
theorem bool_eq : ∀ x y z, gEq x y = some z → ∃ k, z = .bool k := bool_or bool_lens bool_eqD
theorem bool_ne : ∀ x y z, gNe x y = some z → ∃ k, z = .bool k := bool_or bool_lens bool_eqD
theorem bool_isN : ∀ x y z, gIsN x y = some z → ∃ k, z = .bool k := fun x y z h => by
  unfold gIsN at h
  split at h
  · cases h; exact ⟨_, rfl⟩
  · cases h
theorem bool_notN : ∀ x y z, gNotN x y = some z → ∃ k, z = .bool k := fun x y z h => by
  unfold gNotN at h
  split at h
  · cases h; exact ⟨_, rfl⟩
  · cases h

/-! ### dicts as data -/
theorem r_dict0 : PE X (.Dict [] [] pos) (tE (dC (.dict []))) := PE.weak pe_dnewK fun σ H Q ⟨aw, B, ρ, w, t, w', r, q, k⟩ => by
  cases q
  intro p hp
  have s := r.toOk.new (u := .dK []) hp
  refine k _ _ s ?_
  simp only [Rp]
  exact ⟨p, [], rfl, r.toOk.fresh hp, upd_same, by simp [RpD]⟩
theorem r_dict1 {z : Str} {j : Int} {k1 k2 : Nat} {p1 p2 : Pos} : PE X (.Dict [some (.Constant (.str z) k1 p1)] [.Constant (.int j) k2 p2] pos) (tE (dC (.dict [(.str z, .int j)]))) := by
  refine PE.weak (pe_disp (pps_cons pe_str pe_int pps_nil) rfl rfl (fun z => nomatch z) (by show 1 ≤ 15; decide)) fun σ H Q ⟨aw, B, ρ, w, t, w', r, q, k⟩ => ?_
  cases q
  intro p hp
  refine ⟨upd_same, [(.inr z, .int j)], rfl, (by show 1 ≤ 15; decide), ?_⟩
  have e : mergeK [] [(Sum.inr z, V.int j)] = [((Sum.inr z : Key), V.int j)] := rfl
  rw [e, upd_upd]
  have s := r.toOk.new (u := .dK [((Sum.inr z : Key), V.int j)]) hp
  refine k _ _ s ?_
  simp only [Rp]
  refine ⟨p, _, rfl, r.toOk.fresh hp, upd_same, ?_⟩
  simp only [RpD]
  exact ⟨.inr z, .int j, [], rfl, rfl, rp_int, rfl⟩
/-! ### a comprehension as a value -/
theorem r_comp {tg iter elt : Expr} {ifs : List Expr} {scope : Scope} {own : List (Str × Nat)} {bb : Bool} {it : Da} {g : Tg} {c : Dt} {sl : List Nat} (hc : X.calm = true) (hN : X.N.Nodup) (hi : PI X tg iter (tI bb it)) (ok : BlkOk X.N X.env.scope scope own)
    (hg : ∀ (s : Shared) (H : Hp) (C : Addr) (cl : List (Str × Addr)) (fp : List Addr), PG (X.blk s H scope (compEnvC scope cl C X.env) fp) tg (tG sl g))
    (ht : ∀ (s : Shared) (H : Hp) (C : Addr) (cl : List (Str × Addr)) (fp : List Addr), PTs (X.blk s H scope (compEnvC scope cl C X.env) fp) ifs (tT c))
    (he : ∀ (s : Shared) (H : Hp) (C : Addr) (cl : List (Str × Addr)) (fp : List Addr), PE (X.blk s H scope (compEnvC scope cl C X.env) fp) elt (tE de))
    (hsl : ∀ j ∈ sl, j ∈ own.map (·.2)) (hs : ∀ x, foldedSetIterable iter X.env x = pure x) : PE X (.ListComp elt [⟨tg, iter, ifs, 0⟩] scope pos) (tE (dComp (own.map (·.2)) it g c de)) :=
  ofF (f_comp hc hN hi ok hg ht he hsl hs) fun _ _ _ _ => dComp_lst
end
end Mi
namespace Mi
open PySem PySem.Spec PyProof.Rows L2
/-- a plain name -/
structure NmOk (x : Str) : Prop where
  d : (x == ("__debug__" : Str)) = false
  c : (x == ("__classdict__" : Str)) = false
abbrev FnP (K : PySem.W.Frag) (x : Str) (st : Stmt) (f : Addr) (fd : FuncData) : Prop := FunD K x x (defArgs st) (defBody st) (defScope st) [] [] f fd
theorem room {A : Around} {k : Nat} (h : Room k A) : A.units + 100 < cLine := by have := h.un; omega
theorem room64 {A : Around} {k : Nat} (h : Room k A) : A.units + 64 < cLine := by have := h.un; omega
section
variable {X : Cx} {pos p1 p2 : Pos} {x : Str}
theorem v (i : Nat) (n : NmOk x) (hN : X.N[i]? = some x := by rfl) (hv : Vis X.env.scope x := by first | exact Or.inl rfl | exact Or.inr (Or.inl rfl) | exact Or.inr (Or.inr rfl)) : PE X (.Name x pos) (tE (dVar i)) := r_var hN hv n.d n.c
theorem vq (i : Nat) (n : NmOk x) (hN : X.N[i]? = some x := by rfl) (hv : Vis X.env.scope x := by first | exact Or.inl rfl | exact Or.inr (Or.inl rfl) | exact Or.inr (Or.inr rfl)) : PE X (.Name x pos) (tQ (dPeek i)) := r_peek hN hv n.d n.c
theorem wl (i : Nat) {j k : Nat} (n : NmOk x) (hN : X.N[i]? = some x := by rfl) (hv : Vis X.env.scope x := by first | exact Or.inl rfl | exact Or.inr (Or.inl rfl) | exact Or.inr (Or.inr rfl)) :
    PE X (.Subscript (.Name x p1) (.Constant (.int (j : Int)) k p2) pos) (tE (dWell i j)) := r_well hN hv n.d n.c
def sNo : Sm := fun _ _ => none
theorem s_no {st : Stmt} : PS X st (tS sNo) := PS.weak ps_never fun D σ H ⟨_, _, _, _, _, _, _, _, _, _, q, _⟩ => nomatch q
end
theorem permlen (π : List Nat) {m : Nat} (h : π.all (· < m) = true) {α : Type} (ts : List α) (hl : ts.length = m) : (perm π ts).length = π.length := by
  induction π with
  | nil => rfl
  | cons i π ih =>
    rw [List.all_cons, Bool.and_eq_true] at h
    have hi : i < ts.length := by rw [hl]; exact of_decide_eq_true h.1
    unfold perm at ih ⊢
    rw [List.filterMap_cons, List.getElem?_eq_getElem hi]
    show (ts[i] :: _).length = _
    rw [List.length_cons, List.length_cons, ih h.2]
end Mi
namespace Mi
open PySem PySem.Spec PyProof.Rows L2
theorem kl_nil : ∀ ρ w ts w', dNil ρ w = some (ts, w') → ts.length = 0 := fun _ _ _ _ h => by cases h; rfl
theorem kl_cons {n : Nat} {d : De} {r : Da} (h : ∀ ρ w ts w', r ρ w = some (ts, w') → ts.length = n) : ∀ ρ w ts w', dCons d r ρ w = some (ts, w') → ts.length = n + 1 := fun _ _ _ _ q => by
  obtain ⟨x, w1, us, _, e2, rfl⟩ := cons_open q
  simp [h _ _ _ _ e2]
end Mi
namespace Mi
open PySem PySem.Spec PyProof.Rows L2

/-! ### whole numbers of a frame, nothing changing: the making of the well, the law itself -/
abbrev Zx := L2.St → Option Int
def zE (f : Zx) : TE := fun σ H Q => ∃ i, f σ = some i ∧ Q (.int i) H
def zT (f : L2.St → Option Bool) : TT := fun σ H Q => ∃ i, f σ = some i ∧ Q i H
def zV (i : Nat) : Zx := fun σ => match σ[i]? with
  | some (some (.int j)) => some j
  | _ => none
def zC (j : Int) : Zx := fun _ => some j
def zB (c : Int → Int → Bool) (g : Int → Int → Int) (a b : Zx) : Zx := fun σ => (a σ).bind fun i => (b σ).bind fun j => if c i j then some (g i j) else none
def zR (g : Int → Int → Bool) (a b : Zx) : L2.St → Option Bool := fun σ => (a σ).bind fun i => (b σ).map fun j => g i j
def zO (a b : L2.St → Option Bool) : L2.St → Option Bool := fun σ => (a σ).bind fun i => if i then some true else b σ
def zI (c : L2.St → Option Bool) (a b : Zx) : Zx := fun σ => (c σ).bind fun i => if i then a σ else b σ
def zAbs (a : Zx) : Zx := fun σ => (a σ).map fun i => if i < 0 then -i else i
section
variable {X : Cx} {a b c e : Expr} {es rest : List Expr} {fa fb : Zx} {pos p : Pos} {x : Str} {i : Nat}
theorem z_var (i : Nat) (n : NmOk x) (hN : X.N[i]? = some x := by rfl) (hv : Vis X.env.scope x := by first | exact Or.inl rfl | exact Or.inr (Or.inl rfl) | exact Or.inr (Or.inr rfl)) : PE X (.Name x pos) (zE (zV i)) :=
  PE.weak (pe_var hN hv n.d n.c) fun σ H Q ⟨j, e, q⟩ => by
    unfold zV at e
    split at e
    · rename_i h
      cases e
      exact ⟨_, h, q⟩
    · cases e
theorem z_int {j : Int} {k : Nat} : PE X (.Constant (.int j) k pos) (zE (zC j)) := PE.weak pe_int fun σ H Q ⟨i, e, q⟩ => by
  cases e
  exact q
theorem zI_go {C : Int → Int → Prop} {c : Int → Int → Bool} {g : Int → Int → Int} (hc : ∀ i j, c i j = true → C i j) {σ : L2.St} {H : Hp} {Q : VK} : zE (zB c g fa fb) σ H Q → tOp (rI C fun i j => .int (g i j)) (zE fa) (zE fb) σ H Q := fun ⟨k, e, q⟩ => by
  obtain ⟨i, e1, e⟩ := Option.bind_eq_some_iff.mp e
  obtain ⟨j, e2, e⟩ := Option.bind_eq_some_iff.mp e
  split at e
  · rename_i h
    cases e
    exact ⟨i, e1, j, e2, i, j, rfl, rfl, hc i j h, q⟩
  · cases e
theorem zI0_go {g : Int → Int → Int} {σ : L2.St} {H : Hp} {Q : VK} : zE (zB (fun _ _ => true) g fa fb) σ H Q → tOp (rI0 fun i j => .int (g i j)) (zE fa) (zE fb) σ H Q := fun ⟨k, e, q⟩ => by
  obtain ⟨i, e1, e⟩ := Option.bind_eq_some_iff.mp e
  obtain ⟨j, e2, e⟩ := Option.bind_eq_some_iff.mp e
  cases e
  exact ⟨i, e1, j, e2, i, j, rfl, rfl, q⟩
theorem z_add (ha : PE X a (zE fa)) (hb : PE X b (zE fb)) : PE X (.BinOp a .Add b pos) (zE (zB (fun _ _ => true) (· + ·) fa fb)) := PE.weak (pe_op op_add ha hb) fun _ _ _ => zI0_go
theorem z_mul (ha : PE X a (zE fa)) (hb : PE X b (zE fb)) : PE X (.BinOp a .Mult b pos) (zE (zB mulOk (· * ·) fa fb)) :=
  PE.weak (pe_op op_mulW ha hb) fun _ _ _ => zI_go fun i j h => show i.natAbs.log2 + j.natAbs.log2 < 1000000 from of_decide_eq_true h
theorem z_mod (ha : PE X a (zE fa)) (hb : PE X b (zE fb)) : PE X (.BinOp a .Mod b pos) (zE (zB (fun _ j => decide (0 < j)) (· % ·) fa fb)) :=
  PE.weak (pe_op op_mod ha hb) fun _ _ _ => zI_go fun i j h => of_decide_eq_true h
theorem z_pow (ha : PE X a (zE fa)) (hb : PE X b (zE fb)) : PE X (.BinOp a .Pow b pos) (zE (zB powOk (fun i j => i ^ j.toNat) fa fb)) :=
  PE.weak (pe_op op_pow ha hb) fun _ _ _ => zI_go fun i j h => show 0 ≤ j ∧ j ≤ 1000000 ∧ i.natAbs < 2 ^ 64 from of_decide_eq_true h
theorem z_cmp {op : CmpOp} {g : Int → Int → Bool} (ho : OpR X (compareOp op) (rI0 fun i j => .bl (g i j))) (ha : PE X a (zE fa)) (hb : PE X b (zE fb)) (hm : behindInMarks op b = false) : PT X (.Compare a [op] [b] pos) (zT (zR g fa fb)) :=
  PT.weak (pt_cmpR ho ha hb hm) fun σ H Q ⟨k, e, q⟩ => by
    obtain ⟨i, e1, e⟩ := Option.bind_eq_some_iff.mp e
    obtain ⟨j, e2, e⟩ := Option.map_eq_some_iff.mp e
    cases e
    exact ⟨i, e1, j, e2, i, j, rfl, rfl, _, rfl, q⟩
theorem z_or {f g : L2.St → Option Bool} (ha : PT X a (zT f)) (hb : PT X b (zT g)) : PT X (.BoolOp .Or [a, b] pos) (zT (zO f g)) :=
  PT.weak (pw_or ha (pw_or1 hb)).pt fun σ H Q ⟨k, e, q⟩ => by
    obtain ⟨i, e1, e⟩ := Option.bind_eq_some_iff.mp e
    refine ⟨i, e1, ?_⟩
    cases i with
    | true => cases e; exact iteT q
    | false => exact iteF ⟨k, e, q⟩
theorem z_if {f : L2.St → Option Bool} (hc : PT X c (zT f)) (ha : PE X a (zE fa)) (hb : PE X b (zE fb)) : PE X (.IfExp c a b pos) (zE (zI f fa fb)) :=
  PE.weak (pe_ifExp hc ha hb) fun σ H Q ⟨k, e, q⟩ => by
    obtain ⟨i, e1, e⟩ := Option.bind_eq_some_iff.mp e
    refine ⟨i, e1, ?_⟩
    cases i with
    | true => exact iteT ⟨k, e, q⟩
    | false => exact iteF ⟨k, e, q⟩
theorem z_toInt (hg : Gl X "int") (hm : X.mg "int" = none) (ha : PE X a (zE fa)) (he : starEach [a] X.env = (false, eval a X.env) :: starEach [] X.env) : PE X (.Call (.Name "int" p) [a] [] pos) (zE fa) :=
  PE.weak (pe_callTy call_int1 hg hm (by decide +kernel) (pa_cons ha pa_nil he) (by decide) (by decide) he (by rfl)) fun σ H Q ⟨k, e, q⟩ => ⟨k, e, .inl ⟨k, rfl, q⟩⟩
theorem z_abs (hg : Gl X "abs") (hm : X.mg "abs" = none) (ha : PE X a (zE fa)) (he : starEach [a] X.env = (false, eval a X.env) :: starEach [] X.env) : PE X (.Call (.Name "abs" p) [a] [] pos) (zE (zAbs fa)) :=
  PE.weak (pe_callB call_abs hg hm (by decide +kernel) (pa_cons ha pa_nil he) (by decide) (by decide) he (by rfl)) fun σ H Q ⟨k, e, q⟩ => by
    obtain ⟨i, e1, e⟩ := Option.map_eq_some_iff.mp e
    cases e
    exact ⟨i, e1, i, rfl, q⟩
end
/-! #### the well's maker -/
def rLn (K : PySem.W.Frag) : List V → Hp → VK → Prop := fun xs H Q => ∃ p ys, xs = [V.ref p] ∧ (SqL K H p ys ∨ SqT K H p ys) ∧ Q (.int ys.length) H
def rTi : List V → Hp → VK → Prop := fun xs H Q => (∃ i, xs = [V.int i] ∧ Q (.int i) H) ∨ ∃ k : Bool, xs = [V.bl k] ∧ Q (.int (if k then 1 else 0)) H
def tzCell (K : PySem.W.Frag) : TE := tIf (tTest (tOp (rI0 fun i j => .bl (decide (i < j))) (tVar 1) (tCB (rLn K) (tCons (tVar 0) tNil)))) (tCB rTi (tCons (tOp (rIxL K) (tVar 0) (tVar 1)) tNil)) (tC (.int 0))
def wSeed : Zx := zB (fun _ _ => true) (· + ·) (zC 90173) (zB mulOk (· * ·) (zC 50021) (zV 1))
def wStep : Zx := zB (fun _ j => decide (0 < j)) (· % ·) (zB (fun _ _ => true) (· + ·) (zB (fun _ _ => true) (· + ·) (zB mulOk (· * ·) (zV 3) (zC 48271)) (zB mulOk (· * ·) (zB (fun _ j => decide (0 < j)) (· % ·) (zV 4) (zC 2147483629)) (zC 16807))) (zC 12345)) (zC 2147483647)
def wLast : Zx := zB (fun _ j => decide (0 < j)) (· % ·) (zB (fun _ _ => true) (· + ·) (zB (fun _ _ => true) (· + ·) (zV 3) (zB mulOk (· * ·) (zB mulOk (· * ·) (zB (fun _ _ => true) (· + ·) (zV 1) (zC 3)) (zB (fun _ j => decide (0 < j)) (· % ·) (zV 2) (zC 998244353))) (zC 40503))) (zC 7)) (zC 2147483647)
def wFirst : Zx := zI (zO (zR (fun i j => decide (i < j)) (zV 2) (zC 0)) (zR (fun i j => decide (j ≤ i)) (zV 2) (zB powOk (fun i j => i ^ j.toNat) (zC 10) (zC 18)))) (zAbs (zV 2)) (zC 0)
def rNewL : List V → Hp → VK → Prop := fun vs H Q => vs.length ≤ sizeLine ∧ ∀ p, H p = none → Q (.ref p) (upd H p (.lst vs))
def t_well (K : PySem.W.Frag) : TS := tSeq (tAsg (tzCell K) (gName 2)) (tSeq (tAsg (zE wSeed) (gName 3)) (tSeq (tFor (iList K (tSl (rSlL K) (tVar 0) tNoPart (tPart (tC (.int 8))))) (gName 4) (tAsg (zE wStep) (gName 3)))
  (tSeq (tAsg (zE wLast) (gName 3)) (tRet fun σ H Q => tCons (zE wFirst) (tCons (zE (zV 3)) (tCons (tC (.int 0)) tNil)) σ H fun vs H1 => rNewL vs H1 Q))))
/-- how a well begins -/
def WellNew (w : Ws) : Prop := ∃ z s : Int, w = [z, s, 0] ∧ 0 ≤ z ∧ 0 ≤ s ∧ s < 2147483647
def spWell (K : PySem.W.Frag) : Sp := fun vs H Q _ => ∃ (a : Addr) (ns : List Int) (t : Int), vs = [.ref a, .int t] ∧ SqL K H a (ns.map V.int) ∧ 0 ≤ t ∧ t < 1000 ∧
  ∀ p w H', WellNew w → H p = none → (∀ b o, H b = some o → H' b = some o) → H' p = some (.lst (w.map .int)) → Q (.ref p) H'

theorem mulOk_of {i j : Int} {a b : Nat} (ha : i.natAbs < 2 ^ a) (hb : j.natAbs < 2 ^ b) (h0 : 0 < a) (h1 : 0 < b) (h : a + b ≤ 1000000) : mulOk i j = true := decide_eq_true (wide_mul ha hb h0 h1 h)
theorem zB_eq {c : Int → Int → Bool} {g : Int → Int → Int} {a b : Zx} {σ : L2.St} {i j : Int} (h1 : a σ = some i) (h2 : b σ = some j) (h : c i j = true) : zB c g a b σ = some (g i j) := by
  unfold zB
  rw [h1]
  show (b σ).bind _ = _
  rw [h2]
  exact if_pos h
def sW (a : Addr) (t : Int) (c s e : Option V) : L2.St := [some (.ref a), some (.int t), c, s, e]
theorem wSeed_eq {a : Addr} {t : Int} {c s e : Option V} (h0 : 0 ≤ t) (h1 : t < 1000) : wSeed (sW a t c s e) = some (90173 + 50021 * t) :=
  zB_eq rfl (zB_eq rfl rfl (mulOk_of (a := 20) (b := 20) (by omega) (by omega) (by decide) (by decide) (by decide))) rfl
theorem wStep_eq {a : Addr} {t : Int} {c : Option V} {s e : Int} (h0 : 0 ≤ s) (h1 : s < 2 ^ 40) : ∃ s', wStep (sW a t c (some (.int s)) (some (.int e))) = some s' ∧ 0 ≤ s' ∧ s' < 2147483647 := by
  have hm : (e % 2147483629).natAbs < 2 ^ 40 := by omega
  refine ⟨_, zB_eq (zB_eq (zB_eq (zB_eq rfl rfl (mulOk_of (a := 40) (b := 20) (by omega) (by omega) (by decide) (by decide) (by decide)))
    (zB_eq (zB_eq rfl rfl rfl) rfl (mulOk_of (a := 40) (b := 20) hm (by omega) (by decide) (by decide) (by decide))) rfl) rfl rfl) rfl rfl, ?_, ?_⟩ <;> omega
theorem wLast_eq {a : Addr} {t : Int} {e : Option V} {s c : Int} (ht0 : 0 ≤ t) (ht1 : t < 1000) (h0 : 0 ≤ s) (h1 : s < 2 ^ 40) : ∃ s', wLast (sW a t (some (.int c)) (some (.int s)) e) = some s' ∧ 0 ≤ s' ∧ s' < 2147483647 := by
  have hm : (c % 998244353).natAbs < 2 ^ 40 := by omega
  have hp : ((t + 3) * (c % 998244353)).natAbs < 2 ^ 60 := by
    rw [Int.natAbs_mul]
    have q := Nat.mul_lt_mul_of_lt_of_lt (show (t + 3).natAbs < 2 ^ 20 by omega) hm
    rw [← Nat.pow_add] at q
    exact q
  refine ⟨_, zB_eq (zB_eq (zB_eq rfl (zB_eq (zB_eq (zB_eq rfl rfl rfl) (zB_eq rfl rfl rfl) (mulOk_of (a := 20) (b := 40) (by omega) hm (by decide) (by decide) (by decide))) rfl
    (mulOk_of (a := 60) (b := 20) hp (by omega) (by decide) (by decide) (by decide))) rfl) rfl rfl) rfl rfl, ?_, ?_⟩ <;> omega
theorem wFirst_eq {a : Addr} {t : Int} {s e : Option V} {c : Int} : ∃ z, wFirst (sW a t (some (.int c)) s e) = some z ∧ 0 ≤ z := by
  have h2 : zB powOk (fun i j => i ^ j.toNat) (zC 10) (zC 18) (sW a t (some (.int c)) s e) = some ((10 : Int) ^ (18 : Int).toNat) := zB_eq rfl rfl (by decide +kernel)
  have h3 : zV 2 (sW a t (some (.int c)) s e) = some c := rfl
  unfold wFirst zI zO zR
  rw [h2, h3]
  show ∃ z, ((((some (decide (c < 0))).bind fun i => if i = true then some true else some (decide ((10 : Int) ^ (18 : Int).toNat ≤ c)))).bind _) = some z ∧ _
  by_cases hc : c < 0
  · refine ⟨-c, ?_, by omega⟩
    rw [decide_eq_true hc]
    show (some (if c < 0 then -c else c)) = _
    rw [if_pos hc]
  · rw [decide_eq_false hc]
    show ∃ z, ((some (decide ((10 : Int) ^ (18 : Int).toNat ≤ c))).bind _) = some z ∧ _
    by_cases hd : (10 : Int) ^ (18 : Int).toNat ≤ c
    · rw [decide_eq_true hd]
      refine ⟨c, ?_, by omega⟩
      show (some (if c < 0 then -c else c)) = _
      rw [if_neg hc]
    · rw [decide_eq_false hd]
      exact ⟨0, rfl, Int.le_refl 0⟩
theorem well_pure {K : PySem.W.Frag} {x : Str} (vs : List V) (H : Hp) (Q : VK) (E : XK) (h : spWell K vs H Q E) : t_well K { nx := fun _ H' => Q .non H', rt := Q } (start ["script", x, "cell", "seed", "each"] vs) H := by
  obtain ⟨a, ns, t, rfl, hS, t0, t1, hQ⟩ := h
  have e0 : start ["script", x, "cell", "seed", "each"] [V.ref a, V.int t] = sW a t none none none := rfl
  rw [e0]
  unfold t_well
  -- the cell
  have cell : ∀ (k : L2.St → Hp → Prop), (∀ c : Int, k (sW a t (some (.int c)) none none) H) → tAsg (tzCell K) (gName 2) { nx := k, rt := Q, bk := fun _ _ => False, ct := fun _ _ => False } (sW a t none none none) H := by
    intro k hk
    refine ⟨_, rfl, _, rfl, a, _, rfl, .inl hS, t, _, rfl, rfl, _, rfl, ?_⟩
    by_cases hl : t < (ns.map V.int).length
    · rw [decide_eq_true hl]
      refine iteT ⟨_, rfl, _, rfl, a, _, t, .int (ns[t.toNat]'(by rw [List.length_map] at hl; omega)), rfl, rfl, hS, ?_, .inl ⟨_, rfl, hk _⟩⟩
      unfold L2.atI L2.ixN
      rw [if_pos t0, if_pos hl]
      show (ns.map V.int)[t.toNat]? = _
      rw [List.getElem?_map, List.getElem?_eq_getElem (by rw [List.length_map] at hl; omega)]
      rfl
    · rw [decide_eq_false hl]
      exact iteF (hk 0)
  refine cell _ fun c => ?_
  refine ⟨_, wSeed_eq t0 t1, ?_⟩
  -- the loop
  refine ⟨_, rfl, 8, rfl, a, _, rfl, hS, fun p hp => ⟨p, rfl, ⟨_, SqL.of upd_same⟩, ?_⟩⟩
  let Hl : Hp := upd H p (.lst (cutV (ns.map V.int) none (some 8)))
  have hcut : cutV (ns.map V.int) none (some 8) = (ns.take 8).map V.int := by
    unfold cutV
    rw [List.length_map, HT.sIx_none, show HT.sIx ns.length ns.length (some (8 : Int)) = min 8 ns.length from HT.sIx_nat _ _ 8, Nat.sub_zero, List.drop_zero, ← List.map_take]
    congr 1
    by_cases h : 8 ≤ ns.length
    · rw [Nat.min_eq_left h]
    · rw [Nat.min_eq_right (by omega), List.take_of_length_le (Nat.le_refl _), List.take_of_length_le (by omega)]
  refine for_list (xs := cutV (ns.map V.int) none (some 8)) (fun i σ H' => H' = Hl ∧ ∃ (s : Int) (e : Option V), σ = sW a t (some (.int c)) (some (.int s)) e ∧ 0 ≤ s ∧ s < 2 ^ 40) ⟨rfl, _, _, rfl, by omega, by omega⟩ (fun i σ H' _ h => ?_) (fun i x σ H' hx h => ?_) fun σ H' h => ?_
  · obtain ⟨rfl, _⟩ := h
    exact SqL.of upd_same
  · obtain ⟨rfl, s, e, rfl, s0, s1⟩ := h
    rw [hcut, List.getElem?_map] at hx
    obtain ⟨ei, _, rfl⟩ := Option.map_eq_some_iff.mp hx
    obtain ⟨s', es, s0', s1'⟩ := wStep_eq (a := a) (t := t) (c := some (.int c)) (e := ei) s0 s1
    exact ⟨s', es, rfl, s', some (.int ei), rfl, s0', by omega⟩
  · obtain ⟨rfl, s, e, rfl, s0, s1⟩ := h
    obtain ⟨s', es, s0', s1'⟩ := wLast_eq (a := a) (t := t) (e := e) (c := c) t0 t1 s0 s1
    refine ⟨s', es, ?_⟩
    obtain ⟨z, ez, z0⟩ := wFirst_eq (a := a) (t := t) (s := some (.int s')) (e := e) (c := c)
    refine ⟨z, ez, s', rfl, (show 3 ≤ sizeLine by decide), fun q hq => hQ q [z, s', 0] _ ⟨z, s', rfl, z0, s0', s1'⟩ ?_ ?_ ?_⟩
    · cases u : H q with
      | none => rfl
      | some o =>
        have : Hl q = some o := by
          show upd H p _ q = _
          rw [upd_ne (ne_of_none u hp)]
          exact u
        rw [this] at hq
        cases hq
    · intro b o hb
      have : Hl b = some o := by
        show upd H p _ b = _
        rw [upd_ne (ne_of_none hb hp)]
        exact hb
      rw [upd_ne (ne_of_none this hq)]
      exact this
    · exact upd_same
end Mi
namespace Mi
open PySem PySem.Spec PyProof.Rows L2

/-! ### the law's call where no text is being shown -/
abbrev EndG (h : Heap) (os : OsState) : Result → Shared → Prop := fun r z =>
  r = Except.ok (Flow.ret (Value.bool true)) ∧ OldK h z.heap ∧ z.os = os ∧ AllBare z.gens
def noX : XK := fun _ _ _ => False
def isTr : VK := fun v _ => v = V.bl true
section
variable {P : Program} {w : World} {K : PySem.W.Frag} {mg mb : Str → Option Value} {k : Nat} {f a : Addr} {fd : FuncData} {x : Str} {sp : Sp} {z : Shared} {vs : List Value} {ns : List Int}
/-- from an abstract heap that tracks the script at most -/
theorem coreG {H : Hp} (kin : K.In z.heap) (glob : z.heap.Ns mainGlobals mg) (blt : z.heap.Ns builtinsNs mb)
    (bb : ∀ y : Str, y ≠ "__name__" → mb y = bootBuiltins y) (nl : z.heap.NoLimit) (ng : z.gens = #[])
    (hr : Room k callerA) (isL : ∃ o its n, z.heap.get? a = some o ∧ o.data = Data.seq its n)
    (F : ∀ base : Heap, K.In base → base.Ns mainGlobals mg → FnG P w K mg base CX0 k f fd [x] sp)
    (bd : ∀ (s : Shared) (u : Value), BindsTo s fd ⟨[u], []⟩ [(x, u)])
    (only : ∀ b u, H b = some u → b = a ∧ ∃ o xs, u = HO.frz o (.lst xs)) (nk : H a ≠ none → K.lookup a = none)
    (hok : HOk P w H z.heap) (hs : sp [.ref a] H isTr noX) :
    codeAny (model P w) callerA (.call (.ref f) ⟨[.ref a], []⟩) (EndG z.heap z.os) z := by
  -- what is no script is not tracked
  have free : ∀ b, b ≠ a → H b = none := fun b n => by
    cases q : H b with
    | none => rfl
    | some u => exact absurd (only b u q).1 n
  have dict_free : ∀ {b : Addr} {o : Obj} {es : Array DictEntry} {n : Nat}, z.heap.get? b = some o → o.data = Data.dict es n → H b = none := by
    intro b o es n e d
    apply free
    rintro rfl
    obtain ⟨o2, its, m, e2, d2⟩ := isL
    rw [e] at e2
    cases e2
    rw [d] at d2
    cases d2
  have ns_hid : ∀ {b : Addr} {m : Str → Option Value}, z.heap.Ns b m → (hidT z.heap H).Ns b m := by
    rintro b m ⟨o, es, n, e, d, r⟩
    exact ⟨o, es, n, hidT_get e (dict_free e d), d, r⟩
  have kin2 : K.In (hidT z.heap H) := by
    intro b o e
    refine hidT_get (kin b o e) ?_
    by_cases h : b = a
    · subst h
      cases q : H b with
      | none => rfl
      | some u =>
        have := nk (by rw [q]; simp)
        rw [this] at e
        cases e
    · exact free b h
  have md : Mod K mg (hidT z.heap H) := by
    refine ⟨kin2, ns_hid glob, ⟨mb, ns_hid blt, bb⟩, ?_⟩
    obtain ⟨mc, h1, h2⟩ := nl
    exact ⟨mc, ns_hid h1, h2⟩
  have env : Env0 P w K mg (hidT z.heap H) callerA [] z H :=
    { frames := rfl
      mod := md
      bs := fun b o e => of_hidT e
      bsz := Nat.le_of_eq (hidT_size _ _)
      funs := trivial
      frf := fun b hb => by simp [frs] at hb
      hok := hok
      bare := .of_eq ng }
  have run := (F _ kin2 md.glob).run callerA [] z H ⟨[.ref a], []⟩ [.ref a] [.ref a] isTr noX hr rfl env (bd z (.ref a)) (.cons rfl .nil) hs
  refine codeAny_mono run ?_
  intro r z2 h
  match r, h with
  | .error e, h => exact (show False from h).elim
  | .ok .next, h => exact (show False from h).elim
  | .ok .brk, h => exact (show False from h).elim
  | .ok .cont, h => exact (show False from h).elim
  | .ok (.ret u), h =>
    obtain ⟨v, H2, eos, bare, un, hok2, rv, q⟩ := h
    obtain rfl : v = V.bl true := q
    obtain rfl : u = Value.bool true := rv
    refine ⟨rfl, ?_, eos, bare⟩
    apply OldK.of_keep
    intro b o e
    cases q : H b with
    | none => exact un.keep b o e q (fun m => by simp [frs] at m) (by simp)
    | some u =>
      obtain ⟨rfl, o1, xs, rfl⟩ := only b u q
      have t1 := (hok b _ q).1
      have t2 := (hok2 b _ (un.frzs b o1 _ q)).1
      rw [e] at t1
      cases t1
      exact t2
theorem callLaw (kin : K.In z.heap) (glob : z.heap.Ns mainGlobals mg) (blt : z.heap.Ns builtinsNs mb)
    (bb : ∀ y : Str, y ≠ "__name__" → mb y = bootBuiltins y) (nl : z.heap.NoLimit) (ng : z.gens = #[])
    (at_a : z.heap.get? a = some { cls := .type "list", data := .seq vs.toArray }) (hin : IntsAre vs ns) (short : ns.length ≤ sizeLine)
    (hr : Room k callerA) (F : ∀ base : Heap, K.In base → base.Ns mainGlobals mg → FnG P w K mg base CX0 k f fd [x] sp)
    (bd : ∀ (s : Shared) (u : Value), BindsTo s fd ⟨[u], []⟩ [(x, u)])
    (hs : ∀ H : Hp, SqL K H a (ns.map V.int) → sp [.ref a] H isTr noX) :
    codeAny (model P w) callerA (.call (.ref f) ⟨[.ref a], []⟩) (EndG z.heap z.os) z := by
  have isL : ∃ o its n, z.heap.get? a = some o ∧ o.data = Data.seq its n := ⟨_, _, _, at_a, rfl⟩
  have rv : Vals (ns.map V.int) vs := vals_ints hin
  have len : vs.length ≤ sizeLine := by rw [hin.length]; exact short
  by_cases hk : K.lookup a = none
  · -- tracked, frozen
    refine coreG (H := fun b => if b = a then some (HO.frz { cls := .type "list", data := .seq vs.toArray } (.lst (ns.map V.int))) else none) kin glob blt bb nl ng hr isL F bd ?_ (fun _ => hk) ?_ (hs _ (.inl (.inr ⟨_, if_pos rfl⟩)))
    · intro b u e
      by_cases h : b = a
      · rw [if_pos h] at e
        cases e
        exact ⟨h, _, _, rfl⟩
      · rw [if_neg h] at e
        cases e
    · intro b u e
      by_cases h : b = a
      · subst h
        have e2 := (if_pos rfl).symm.trans e
        cases e2
        refine ⟨at_a, ?_, vs, _, rv, at_a⟩
        rw [List.length_map]
        exact short
      · have e2 := (if_neg h).symm.trans e
        cases e2
  · -- one of the module's own
    cases e : K.lookup a with
    | none => exact absurd e hk
    | some o =>
      have t := kin a o e
      rw [at_a] at t
      cases t
      refine coreG (H := fun _ => none) kin glob blt bb nl ng hr isL F bd (fun b u q => nomatch q) (fun q => absurd rfl q) (fun b u q => nomatch q) (hs _ (.inr ?_))
      exact ⟨_, vs.toArray, _, e, rfl, rfl, rfl, by rw [List.size_toArray]; exact len, by simpa using rv⟩
end
/-- a law over a head by facts -/
theorem walkG {l : PySem.W.OpenLaw} {n k : Nat} {q : Program} {loose : List Str} {XP : (Str → Option Value) → Heap → Prop} {YP : World → Heap → Prop} {d : DefRec} {x : Str}
    (most : l.most = some n) (short : n ≤ sizeLine) (nodef : d.params.defaults = []) (hr : Room k callerA)
    (F : ∀ (w : World) (mg : Str → Option Value) (f : Addr) (h : Heap), YP w h → h.Ns mainGlobals mg → mg d.name = some (.ref f) →
      ∃ (K : PySem.W.Frag) (fd : FuncData) (sp : Sp), K.In h ∧ (∀ (s : Shared) (u : Value), BindsTo s fd ⟨[u], []⟩ [(x, u)]) ∧
        (∀ (H : Hp) (a : Addr) (ns : List Int), SqL K H a (ns.map V.int) → sp [.ref a] H isTr noX) ∧
        ∀ base : Heap, K.In base → base.Ns mainGlobals mg → FnG l.prog w K mg base CX0 k f fd [x] sp) :
    PySem.W.WalkO q loose XP YP l.row.toRowW d [] (fun f vs => PySem.call f vs) := by
  refine Att.attach_call most nodef ?_
  intro w s0 s1 mg mb f o pm cd doc a vs ns G Y _ _ _ hm ha hi hl hg
  obtain ⟨K, fd, sp, kin, bd, hs, hF⟩ := F w mg f _ Y G.T.g hm
  exact callLaw kin G.T.g G.T.b G.T.builtins G.T.nolimit hg ha hi (Nat.le_trans hl short) hr hF bd fun H => hs H a ns
end Mi
namespace Mi
open PySem PySem.Spec PyProof.Rows L2

/-! ### the law: its part of the script's own hand -/
def tElOf (K : PySem.W.Frag) (F : List D → Ws → Option (D × Ws)) (tt : TE) : TE := tCall (spW 0 F) [] E0 (tCons (tCall (spWell K) [] E0 (tCons (tVar 0) (tCons tt tNil))) tNil)
def tLawAll (K : PySem.W.Frag) (tn : TE) (F : List D → Ws → Option (D × Ws)) : TS := tRet (tCB (rAll K) (tCons (tLc (iRng1 (tCons tn tNil)) (gName 1) tYes (tElOf K F (tVar 1)) [1]) tNil))
def tLawOne (K : PySem.W.Frag) (F : List D → Ws → Option (D × Ws)) : TS := tRet (tElOf K F (tC (.int 0)))
/-- how many turns -/
def NumE (K : PySem.W.Frag) (tn : TE) : Prop := ∀ (a : Addr) (ns : List Int) (σ : L2.St) (H : Hp) (Q : VK), σ[0]? = some (some (.ref a)) → SqL K H a (ns.map V.int) → (∀ j : Int, 0 ≤ j → j ≤ 3 → Q (.int j) H) → tn σ H Q
def rMx : List V → Hp → VK → Prop := fun xs H Q => ∃ i j : Int, xs = [V.int i, V.int j] ∧ Q (.int (if j > i then j else i)) H
def rMn : List V → Hp → VK → Prop := fun xs H Q => ∃ i j : Int, xs = [V.int i, V.int j] ∧ Q (.int (if j < i then j else i)) H
def tnMM (K : PySem.W.Frag) (lo hi : Int) : TE := tCB rMx (tCons (tC (.int lo)) (tCons (tCB rMn (tCons (tCB (rLn K) (tCons (tVar 0) tNil)) (tCons (tC (.int hi)) tNil))) tNil))
theorem num_mm {K : PySem.W.Frag} {lo hi : Int} (h0 : 0 ≤ lo) (h1 : lo ≤ 3) (h2 : hi ≤ 3) : NumE K (tnMM K lo hi) := by
  intro a ns σ H Q e s k
  refine ⟨_, e, a, _, rfl, .inl s, _, _, rfl, lo, _, rfl, k _ ?_ ?_⟩ <;> (split <;> split <;> omega)
theorem num_c {K : PySem.W.Frag} {j : Int} (h0 : 0 ≤ j) (h1 : j ≤ 3) : NumE K (tC (.int j)) := fun a ns σ H Q e s k => k j h0 h1
def spLaw (K : PySem.W.Frag) : Sp := fun vs H Q _ => ∃ (a : Addr) (ns : List Int), vs = [.ref a] ∧ SqL K H a (ns.map V.int) ∧ ∀ H', Q (.bl true) H'
/-- what the law says of each well -/
def AllWell (F : List D → Ws → Option (D × Ws)) : Prop := ∀ w, WellNew w → ∃ w', F [] w = some (.bool true, w')
section
variable {K : PySem.W.Frag} {F : List D → Ws → Option (D × Ws)}
def Kept (H H' : Hp) : Prop := ∀ b o, H b = some o → H' b = some o
theorem Kept.sq {H H' : Hp} {a : Addr} {xs : List V} (k : Kept H H') (s : SqL K H a xs) : SqL K H' a xs := by
  rcases s with (s | ⟨o, s⟩) | s
  · exact .inl (.inl (k _ _ s))
  · exact .inl (.inr ⟨o, k _ _ s⟩)
  · exact .inr s
theorem el_pure (hF : AllWell F) {tt : TE} {a : Addr} {ns : List Int} {t : Int} {σ : L2.St} {H : Hp} {Q : VK} (e0 : σ[0]? = some (some (.ref a))) (s : SqL K H a (ns.map V.int)) (ht : ∀ Q : VK, Q (.int t) H → tt σ H Q) (h0 : 0 ≤ t) (h1 : t < 1000)
    (k : ∀ H', Kept H H' → Q (.bl true) H') : tElOf K F tt σ H Q := by
  refine ⟨_, e0, ht _ ⟨a, ns, t, rfl, s, h0, h1, fun p w H1 hw hp k1 hp1 => ?_⟩⟩
  obtain ⟨w', ew⟩ := hF w hw
  refine ⟨p, (fun b => b = p), [], w, _, w', [], rfl, ⟨fun b e => by rw [e, hp1]; exact fun z => (nomatch z), fun b e => ?_⟩, rfl, rpl_nil, ew, fun v H2 st rp => ?_⟩
  · cases e
    exact ⟨rfl, hp1⟩
  · simp only [Rp] at rp
    subst rp
    refine k H2 fun b o e => st.1 b o (k1 b o e) fun z => ?_
    cases z
    rw [hp] at e
    cases e
theorem one_pure (hF : AllWell F) {N : List Str} (hN : N = ("script" : Str) :: N.tail) (vs : List V) (H : Hp) (Q : VK) (E : XK) (h : spLaw K vs H Q E) : tLawOne K F { nx := fun _ H' => Q .non H', rt := Q } (start N vs) H := by
  obtain ⟨a, ns, rfl, s, q⟩ := h
  rw [hN]
  exact el_pure hF (a := a) rfl s (fun Q q => q) (Int.le_refl 0) (by decide) fun H' _ => q H'
theorem all_pure (hF : AllWell F) {tn : TE} (hn : NumE K tn) {x : Str} (vs : List V) (H : Hp) (Q : VK) (E : XK) (h : spLaw K vs H Q E) : tLawAll K tn F { nx := fun _ H' => Q .non H', rt := Q } (start ["script", x] vs) H := by
  obtain ⟨a, ns, rfl, s, q⟩ := h
  have e0 : start ["script", x] [V.ref a] = [some (.ref a), none] := rfl
  rw [e0]
  refine hn a ns _ H _ rfl s fun j j0 j3 => ⟨j, rfl, by omega, by omega, fun L hL => ?_⟩
  refine lc_range (fun i H' => Kept H H' ∧ ∃ bs : List Bool, bs.length = i ∧ bs.all id = true ∧ H' L = some (.lst (bs.map V.bl))) ⟨fun b o e => by rw [upd_ne (ne_of_none e hL)]; exact e, [], rfl, rfl, upd_same⟩ (fun i H' hi h => ?_) fun H' h => ?_
  · obtain ⟨k, bs, e1, e2, e3⟩ := h
    refine ⟨rfl, ?_⟩
    unfold tYes
    dsimp only
    rw [if_pos rfl]
    refine el_pure hF (a := a) (t := (0 : Int) + i) rfl (k.sq s) (fun Q q => ⟨_, rfl, q⟩) (by omega) (by omega) fun H2 k2 => ⟨bs.map V.bl, k2 _ _ e3, ?_, ?_, bs ++ [true], ?_, ?_, ?_⟩
    · rw [List.length_map, e1]
      exact Nat.lt_of_lt_of_le (show i < 4 by omega) (by decide)
    · intro b o e
      rw [upd_ne (ne_of_none e hL)]
      exact k2 _ _ (k _ _ e)
    · rw [List.length_append, e1]
      rfl
    · rw [List.all_append, e2]
      rfl
    · rw [List.map_append]
      exact upd_same
  · obtain ⟨k, bs, e1, e2, e3⟩ := h
    refine ⟨L, bs, rfl, SqL.of e3, ?_⟩
    rw [e2]
    exact q H'
end
end Mi
/-! ### zip and enumerate over lists and tuples alike -/
namespace PySem
open Sem (wp)
set_option maxHeartbeats 1000000 in
theorem meets_enumerate_new1B {v : Value} {o : Obj} {H : Heap → Prop} (B : Begins v o H) :
    Meets (Builtin.«enumerate.__new__» ⟨[.type "enumerate", v], []⟩) (fun _ R s => H s.heap ∧
      R (.ok (.ret (.ref (s.heap.push o).objs.size))) { s with heap := (s.heap.push o).push { cls := .type "enumerate", data := .fields #[.none, .bool false, .ref s.heap.objs.size, rawInt 0, .none, .none] } }) :=
  .of_wp fun prog w A R s h => by
    obtain ⟨hp, g, d, tk, os⟩ := s; obtain ⟨h1, h⟩ := h
    have hsub := sub_enumerate
    have q1 : ∀ {A' : Around} {E : Value → Shared → Prop} {Q : Value → Shared → Prop}, Q (.ref hp.objs.size) ⟨hp.push o, g, d, tk, os⟩ → wpAny (model prog w) A' (pyIter v) Q E ⟨hp, g, d, tk, os⟩ :=
      fun q => B.iter prog w _ _ ⟨hp, g, d, tk, os⟩ _ h1 q
    wp_walk using q1
    refine wpAny_stack_any fun st => wpAny_pure ?_
    split
    · rename_i c _ _ _ _ _
      cases (c == Value.type "enumerate")
      · wp_walk using q1
        exact ⟨_, rfl, h⟩
      · wp_walk using q1
        exact ⟨_, rfl, h⟩
    · wp_walk using q1
      exact ⟨_, rfl, h⟩
section
variable {prog : Program} {w : World} {A : Around} {E : Value → Shared → Prop} {s : Shared}
theorem enum_begins1 {v : Value} {o : Obj} {H : Heap → Prop} {Q : Value → Shared → Prop} (B : Begins v o H) (h1 : H s.heap)
    (h : ∀ h', IsEnum h' (s.heap.objs.size + 1) s.heap.objs.size 0 .none → h'.get? s.heap.objs.size = some o → h'.objs.size = s.heap.objs.size + 2 →
      (∀ b o, s.heap.get? b = some o → h'.get? b = some o) → Q (.ref (s.heap.objs.size + 1)) { s with heap := h' }) :
    wpAny (model prog w) A (call (.type "enumerate") [v]) Q E s := by
  refine callType_new F.called_enumerate (by decide) (F.typeCall_enumerate_1 _) (F.newCall_enumerate_1 _) (fun obj => F.args_object_init_2 obj _) F.entry_enumerate_new
    (meets_enumerate_new1B B) ⟨h1, ?_⟩
  have hz : (s.heap.push o).objs.size = s.heap.objs.size + 1 := Heap.size_push ..
  show _ ∧ _
  rw [hz]
  have he : IsEnum ((s.heap.push o).push { cls := .type "enumerate", data := .fields #[.none, .bool false, .ref s.heap.objs.size, rawInt 0, .none, .none] }) (s.heap.objs.size + 1) s.heap.objs.size 0 .none := by
    have := Heap.get?_push_size (s.heap.push o) (o := { cls := .type "enumerate", data := .fields #[.none, .bool false, .ref s.heap.objs.size, rawInt 0, .none, .none] }) rfl
    rw [hz] at this; exact this
  exact ⟨⟨_, he, rfl⟩, h _ he (Heap.get?_push_of_some _ (Heap.get?_push_size _ B.free)) (by rw [Heap.size_push, hz]) fun b o x => Heap.get?_push_of_some _ (Heap.get?_push_of_some _ x)⟩
end
end PySem
namespace Mi
open PySem PySem.Spec PyProof.Rows L2

def SqB (t : Bool) (K : PySem.W.Frag) (H : Hp) (a : Addr) (xs : List V) : Prop := match t with
  | true => SqT K H a xs
  | false => SqL K H a xs
def ItB (t : Bool) (h : Heap) (it l : Addr) (i : Nat) : Prop := match t with
  | true => h.IsTupleIter it l i
  | false => h.IsListIter it l i
def DaB (t : Bool) (h : Heap) (l : Addr) (its : Array Value) : Prop := match t with
  | true => h.IsTuple l its
  | false => h.IsList l its
def objB (t : Bool) (l : Addr) : Obj := match t with
  | true => { cls := .type "tuple_iterator", data := .fields #[.ref l, .int 0 0] }
  | false => { cls := .type "list_iterator", data := .fields #[.ref l, .int 0 0] }
theorem beginsB (t : Bool) (l : Addr) (items : Array Value) : Begins (.ref l) (objB t l) fun h => DaB t h l items := by
  cases t
  · exact begins_list l items
  · exact begins_tuple l items
section
variable {prog : Program} {w : World} {A : Around}
theorem drawB (t : Bool) (hh : A.handled = none) (it l : Addr) (hne : l ≠ it) (items : Array Value) :
    Draws prog w A it [it, l] items.size (fun i v => items[i]? = some v) (fun i h => ItB t h it l i ∧ DaB t h l items) := by
  cases t
  · exact Draws.list hh it l hne items
  · exact Draws.tuple hh it l hne items
theorem ItB.get {t : Bool} {h : Heap} {it l : Addr} {i : Nat} (x : ItB t h it l i) : ∃ o, h.get? it = some o ∧ ∀ v, o.data ≠ .cell v := by
  cases t
  · obtain ⟨o, ho, hc, hd⟩ := x
    exact ⟨o, ho, fun v q => by rw [hd] at q; cases q⟩
  · obtain ⟨o, ho, hc, hd⟩ := x
    exact ⟨o, ho, fun v q => by rw [hd] at q; cases q⟩
theorem ItB.at {t : Bool} {h h' : Heap} {it l : Addr} {i : Nat} (x : ItB t h it l i) (k : ∀ o, h.get? it = some o → h'.get? it = some o) : ItB t h' it l i := by
  cases t
  · exact Heap.IsListIter.at x k
  · exact Heap.IsTupleIter.at x k
theorem DaB.at {t : Bool} {h h' : Heap} {l : Addr} {its : Array Value} (x : DaB t h l its) (k : ∀ o, h.get? l = some o → h'.get? l = some o) : DaB t h' l its := by
  cases t
  · exact Heap.IsList.at x k
  · exact Heap.IsTuple.at x k
theorem DaB.get {t : Bool} {h : Heap} {l : Addr} {its : Array Value} (x : DaB t h l its) : ∃ o, h.get? l = some o := by
  cases t
  · obtain ⟨o, ho, _⟩ := x
    exact ⟨o, ho⟩
  · obtain ⟨o, ho, _⟩ := x
    exact ⟨o, ho⟩
/-- at its end, wherever it stands -/
theorem drawEnd (t : Bool) (hh : A.handled = none) (it l : Addr) (hne : l ≠ it) (items : Array Value) (i : Nat) (hx : items[i]? = none) :
    Draws prog w A it [it, l] i (fun _ _ => True) (fun j h => j = i ∧ ItB t h it l i ∧ DaB t h l items) where
  live := fun _ _ st => let ⟨o, ho, _⟩ := st.2.1.get; ⟨o, ho⟩
  frame := fun _ _ _ st hk => ⟨st.1, st.2.1.at fun o e => hk it (by simp) o e, st.2.2.at fun o e => hk l (by simp) o e⟩
  item := fun j s Q E hi st hQ => by
    have := st.1
    omega
  done := fun s Q E st hE => by
    obtain ⟨_, a, b⟩ := st
    cases t
    · exact wpAny_nextOf_list_end hh a b hx hE
    · exact wpAny_nextOf_tuple_end hh a b hx hE
end
section
variable {X : Cx} {pins : List (Addr × Obj)} {σ : L2.St} {H : Hp} {s : Shared} {a : Addr} {xs ys : List V} {t : Bool}
theorem seqB (I : Inv X pins σ H s) (h : SqB t X.K H a xs) : ∃ its : List Value, Vals xs its ∧ DaB t s.heap a its.toArray := by
  cases t
  · obtain ⟨its, r, p, _⟩ := I.list h
    exact ⟨its, r, p.isList⟩
  · obtain ⟨its, r, p, _⟩ := I.tuple h
    exact ⟨its, r, p⟩
theorem injB (I : Inv X pins σ H s) (h : SqB t X.K H a xs) (h' : SqB t X.K H a ys) : xs = ys := by
  cases t
  · exact I.list_inj h h'
  · exact I.tuple_inj h h'
theorem itemB {its : List Value} {i : Nat} {x : V} {v : Value} (rv : Vals xs its) (hx : xs[i]? = some x) (hv : its.toArray[i]? = some v) : RelV x v := by
  obtain ⟨u, hu, ru⟩ := rv.get hx
  have : its[i]? = some v := by simpa using hv
  rw [hu] at this
  cases this
  exact ru
end

def ItE (K : PySem.W.Frag) (t : Bool) (k0 : Int) (a : Addr) : It :=
  ⟨fun i H => ∃ (xs : List V) (x : V), SqB t K H a xs ∧ xs[i]? = some x, fun i H v H' => ∃ T x, v = .ref T ∧ H T = none ∧ H' = upd H T (.tup [.int (k0 + (i : Nat)), x]) ∧ ∀ xs, SqB t K H a xs → xs[i]? = some x, fun i H => ∃ xs : List V, SqB t K H a xs ∧ xs.length ≤ i⟩
theorem turn_enumB {P : Program} {w : World} {K : PySem.W.Frag} {elts : List Expr} {kk : Nat} {tpos : Pos} {t : Bool} {k0 : Int} {a e it : Addr} (n1 : e ≠ it) (n2 : a ≠ it) (n3 : a ≠ e) :
    Turn P w K (.Tuple elts kk tpos) (ItE K t k0 a) [e, it] e (fun i h => (∃ old, IsEnum h e it (k0 + (i : Nat)) old) ∧ ItB t h it a i) where
  mem := by simp
  obj := fun i h st b hb => by
    obtain ⟨⟨old, he⟩, hit⟩ := st
    have e' : b = e ∨ b = it := by simpa using hb
    rcases e' with z | z
    · rw [z]; exact ⟨_, he, fun v q => nomatch q⟩
    · rw [z]; exact hit.get
  keep := fun i h h' st k => let ⟨⟨old, he⟩, hi⟩ := st; ⟨⟨old, k e (by simp) _ he⟩, hi.at fun o q => k it (by simp) o q⟩
  item := by
    intro X hP hw hK hc i pins s σ H E I hf st hg
    subst hP hw hK
    obtain ⟨⟨old, he⟩, hit⟩ := st
    obtain ⟨xs, x, hq, hx⟩ := hg
    obtain ⟨its, rv, p⟩ := seqB I hq
    have hel : e < s.heap.objs.size := Heap.lt_size he
    have hil : it < s.heap.objs.size := by obtain ⟨_, q, _⟩ := hit.get; exact Heap.lt_size q
    have hlt : i < its.toArray.size := by
      have := (List.getElem?_eq_some_iff.mp hx).1
      have := rv.length
      simp
      omega
    refine wpAny_pyNext_enum_itemC (drawB t (A := X.A.in1) (I.ok.hd hc) it a n2 its.toArray) he ⟨hit, p⟩ hlt n1 (by simp [n1, Ne.symm n3]) fun u h' tk hu ho st' hT hsz hk => ?_
    refine ⟨_, rfl, wpAny_letOwnedTupleGo_enum (s := { s with heap := h', toks := tk + 1 }) ho fun h'' he' sb => ?_⟩
    have hT2 : h''.get? s.heap.objs.size = some { cls := .type "tuple", data := .seq #[.int (k0 + (i : Nat)) tk, u] } := (sb.2 _ (Nat.ne_of_gt hel)).trans hT
    have ru : RelV x u := itemB rv hx hu
    have new : ObjOk X.prog X.w (upd H s.heap.objs.size (.tup [.int (k0 + (i : Nat)), x])) h'' s.heap.objs.size (.tup [.int (k0 + (i : Nat)), x]) :=
      ⟨by show 2 ≤ sizeLine; decide, [.int (k0 + (i : Nat)) tk, u], .cons ⟨_, rfl⟩ (.cons ru .nil), ⟨_, hT2, rfl, _, rfl⟩⟩
    have I1 : Inv X pins σ (upd H s.heap.objs.size (.tup [.int (k0 + (i : Nat)), x])) { s with heap := h'', toks := tk + 1 } :=
      I.turnedNew (ch := [e, it]) (fun b ob hb q => (sb.2 b (fun z => hb (by simp [z]))).trans (hk b ob (fun z => hb (by simp [z])) (fun z => hb (by simp [z])) q)) hf (Nat.le_refl _) new
    refine ⟨.ref s.heap.objs.size, _, I1, rfl, ⟨_, x, rfl, I.hok.fresh (Nat.le_refl _), rfl, fun ys hy => by rw [injB I hy hq]; exact hx⟩, ⟨⟨u, ?_⟩, st'.1.at fun o q => (sb.2 it (Ne.symm n1)).trans q⟩, fun b hb => ?_⟩
    · have e1 : k0 + ((i + 1 : Nat) : Int) = k0 + (i : Nat) + 1 := by omega
      rw [e1]; exact he'
    · have hb' : b < s.heap.objs.size := by
        have e' : b = e ∨ b = it := by simpa using hb
        rcases e' with z | z
        · rw [z]; exact hel
        · rw [z]; exact hil
      rw [upd_ne (Nat.ne_of_lt hb')]
      exact (hf b hb).1
  done := by
    intro X hP hw hK hc i pins s σ H E I hf st hg
    subst hP hw hK
    obtain ⟨⟨old, he⟩, hit⟩ := st
    obtain ⟨xs, hq, hx⟩ := hg
    obtain ⟨its, rv, p⟩ := seqB I hq
    obtain ⟨f0, f1, f2, f3, f4, f5⟩ := hf it (by simp)
    have hl := rv.length
    exact wpAny_pyNext_enum_endD (drawEnd t (A := X.A.in1) (I.ok.hd hc) it a n2 its.toArray i (by simp; omega)) he ⟨rfl, hit, p⟩ fun h' eb => ⟨rfl, I.turned (t' := s.toks) (fun b o hb q => eb b o hb q) f0 f1 f3 f4 f5⟩
  self := fun A i s Q E st h => let ⟨⟨_, he⟩, _⟩ := st; wpAny_pyIter_enum he h

def ItZ (K : PySem.W.Frag) (t t2 : Bool) (a b : Addr) : It :=
  ⟨fun i H => ∃ (xs ys : List V) (x y : V), SqB t K H a xs ∧ SqB t2 K H b ys ∧ xs[i]? = some x ∧ ys[i]? = some y,
    fun i H v H' => ∃ T x y, v = .ref T ∧ H T = none ∧ H' = upd H T (.tup [x, y]) ∧ (∀ xs, SqB t K H a xs → xs[i]? = some x) ∧ ∀ ys, SqB t2 K H b ys → ys[i]? = some y,
    fun i H => ∃ xs ys : List V, SqB t K H a xs ∧ SqB t2 K H b ys ∧ (xs.length ≤ i ∨ ys.length ≤ i)⟩
theorem turn_zipB {P : Program} {w : World} {K : PySem.W.Frag} {elts : List Expr} {kk : Nat} {tpos : Pos} {t t2 : Bool} {a b z TI TO i1 i2 : Addr} (D : ZipSep2 z TI TO i1 i2 [i1, a] [i2, b]) (n1 : a ≠ i1) (n2 : b ≠ i2) (m1 : TI ≠ i1) (m2 : TI ≠ i2) :
    Turn P w K (.Tuple elts kk tpos) (ItZ K t t2 a b) [z, TI, TO, i1, i2] z (fun i h => IsZip h z TI TO .none ∧ IsTupOf2 h TI (.ref i1) (.ref i2) ∧ (∃ x y, IsTupOf2 h TO x y) ∧ ItB t h i1 a i ∧ ItB t2 h i2 b i) where
  mem := by simp
  obj := fun i h st c hc => by
    obtain ⟨hz, hTI, ⟨x, y, hTO⟩, g1, g2⟩ := st
    have e' : c = z ∨ c = TI ∨ c = TO ∨ c = i1 ∨ c = i2 := by simpa using hc
    rcases e' with q | q | q | q | q
    · rw [q]; exact ⟨_, hz, fun v q => nomatch q⟩
    · rw [q]; exact ⟨_, hTI, fun v q => nomatch q⟩
    · rw [q]; exact ⟨_, hTO, fun v q => nomatch q⟩
    · rw [q]; exact g1.get
    · rw [q]; exact g2.get
  keep := fun i h h' st k => by
    obtain ⟨hz, hTI, ⟨x, y, hTO⟩, h1, h2⟩ := st
    exact ⟨k z (by simp) _ hz, k TI (by simp) _ hTI, ⟨x, y, k TO (by simp) _ hTO⟩, h1.at fun o q => k i1 (by simp) o q, h2.at fun o q => k i2 (by simp) o q⟩
  item := by
    intro X hP hw hK hc i pins s σ H E I hf st hg
    subst hP hw hK
    obtain ⟨hz, hTI, ⟨x0, y0, hTO⟩, h1, h2⟩ := st
    obtain ⟨xs, ys, x, y, hqx, hqy, hx, hy⟩ := hg
    obtain ⟨its, rv, p⟩ := seqB I hqx
    obtain ⟨its2, rv2, p2⟩ := seqB I hqy
    have hzl : z < s.heap.objs.size := Heap.lt_size hz
    have hlt : i < its.toArray.size := by
      have := (List.getElem?_eq_some_iff.mp hx).1
      have := rv.length
      simp
      omega
    have hlt2 : i < its2.toArray.size := by
      have := (List.getElem?_eq_some_iff.mp hy).1
      have := rv2.length
      simp
      omega
    refine wpAny_pyNext_zipD2_item D (drawB t (A := X.A.in1) (I.ok.hd hc) i1 a n1 its.toArray) (drawB t2 (A := X.A.in1) (I.ok.hd hc) i2 b n2 its2.toArray) hz hTI hTO ⟨h1, p⟩ ⟨h2, p2⟩ hlt hlt2 fun u u2 h' tk hu hu2 z' TO' s1 s2 hT hsz hk => ?_
    refine ⟨_, rfl, wpAny_letOwnedTupleGo_zip (s := { s with heap := h', toks := tk }) z' fun h'' z'' sb => ?_⟩
    have hT2 : h''.get? s.heap.objs.size = some { cls := .type "tuple", data := .seq #[u, u2] } := (sb.2 _ (Nat.ne_of_gt hzl)).trans hT
    have new : ObjOk X.prog X.w (upd H s.heap.objs.size (.tup [x, y])) h'' s.heap.objs.size (.tup [x, y]) :=
      ⟨by show 2 ≤ sizeLine; decide, [u, u2], .cons (itemB rv hx hu) (.cons (itemB rv2 hy hu2) .nil), ⟨_, hT2, rfl, _, rfl⟩⟩
    have I1 : Inv X pins σ (upd H s.heap.objs.size (.tup [x, y])) { s with heap := h'', toks := tk } :=
      I.turnedNew (t' := tk) (ch := [z, TI, TO, i1, i2]) (fun c o hb q => (sb.2 c (fun q' => hb (by simp [q']))).trans (hk c o (fun q' => hb (by simp [q'])) (fun q' => hb (by simp [q'])) (fun q' => hb (by simp [q'])) (fun q' => hb (by simp [q'])) q)) hf (Nat.le_refl _) new
    refine ⟨.ref s.heap.objs.size, _, I1, rfl, ⟨_, x, y, rfl, I.hok.fresh (Nat.le_refl _), rfl, fun l hl => by rw [injB I hl hqx]; exact hx, fun l hl => by rw [injB I hl hqy]; exact hy⟩, ⟨z'', ?_, ⟨u, u2, ?_⟩, ?_, ?_⟩, fun c hcm => ?_⟩
    · exact (sb.2 _ D.TIz).trans (hk _ _ D.TIz D.TITO m1 m2 hTI)
    · exact (sb.2 _ D.TOz).trans TO'
    · exact s1.1.at fun o q => (sb.2 _ D.zi1.symm).trans q
    · exact s2.1.at fun o q => (sb.2 _ D.zi2.symm).trans q
    · have hlt : c < s.heap.objs.size := by
        have e' : c = z ∨ c = TI ∨ c = TO ∨ c = i1 ∨ c = i2 := by simpa using hcm
        rcases e' with q | q | q | q | q
        · rw [q]; exact hzl
        · rw [q]; exact Heap.lt_size hTI
        · rw [q]; exact Heap.lt_size hTO
        · rw [q]; obtain ⟨_, e1, _⟩ := h1.get; exact Heap.lt_size e1
        · rw [q]; obtain ⟨_, e2, _⟩ := h2.get; exact Heap.lt_size e2
      rw [upd_ne (Nat.ne_of_lt hlt)]
      exact (hf c hcm).1
  done := by
    intro X hP hw hK hc i pins s σ H E I hf st hg
    subst hP hw hK
    obtain ⟨hz, hTI, ⟨x0, y0, hTO⟩, h1, h2⟩ := st
    obtain ⟨xs, ys, hqx, hqy, hend⟩ := hg
    obtain ⟨its, rv, p⟩ := seqB I hqx
    obtain ⟨its2, rv2, p2⟩ := seqB I hqy
    have l1 := rv.length
    have l2 := rv2.length
    have hh : X.A.in1.handled = none := I.ok.hd hc
    have fin : ∀ (h' : Heap) (tk : Nat), (∀ c o, c ≠ z → c ≠ TO → c ≠ i1 → c ≠ i2 → s.heap.get? c = some o → h'.get? c = some o) → (none : Option Value) = none ∧ Inv X pins σ H { s with heap := h', toks := tk } := fun h' tk hk =>
      ⟨rfl, I.turnedL (t' := tk) (ch := [z, TI, TO, i1, i2]) (fun c o hb q => hk c o (fun q' => hb (by simp [q'])) (fun q' => hb (by simp [q'])) (fun q' => hb (by simp [q'])) (fun q' => hb (by simp [q'])) q) hf⟩
    by_cases c1 : i < its.toArray.size
    · have c2 : its2.toArray[i]? = none := by
        have : i < xs.length := by rw [l1]; simpa using c1
        simp
        omega
      exact wpAny_pyNext_zipD2_end D (drawB t (A := X.A.in1) hh i1 a n1 its.toArray) (drawEnd t2 (A := X.A.in1) hh i2 b n2 its2.toArray i c2) hz hTI hTO ⟨h1, p⟩ ⟨rfl, h2, p2⟩ (by omega) (Nat.le_refl _) (.inr rfl) fin
    · have c1' : its.toArray[i]? = none := by simpa using c1
      by_cases c2 : i < its2.toArray.size
      · exact wpAny_pyNext_zipD2_end D (drawEnd t (A := X.A.in1) hh i1 a n1 its.toArray i c1') (drawB t2 (A := X.A.in1) hh i2 b n2 its2.toArray) hz hTI hTO ⟨rfl, h1, p⟩ ⟨h2, p2⟩ (Nat.le_refl _) (by omega) (.inl rfl) fin
      · have c2' : its2.toArray[i]? = none := by simpa using c2
        exact wpAny_pyNext_zipD2_end D (drawEnd t (A := X.A.in1) hh i1 a n1 its.toArray i c1') (drawEnd t2 (A := X.A.in1) hh i2 b n2 its2.toArray i c2') hz hTI hTO ⟨rfl, h1, p⟩ ⟨rfl, h2, p2⟩ (Nat.le_refl _) (Nat.le_refl _) (.inl rfl) fin
  self := fun A i s Q E st h => wpAny_pyIter_zip st.1 h

def iZipB (K : PySem.W.Frag) (ta : TA) : TI := fun σ H R => ta σ H fun vs H1 => ∃ a b t t2 xs ys, vs = [.ref a, .ref b] ∧ SqB t K H1 a xs ∧ SqB t2 K H1 b ys ∧ R (ItZ K t t2 a b) H1
theorem pi_zipB {X : Cx} {e e2 : Expr} {ta : TA} {p pos tpos : Pos} {elts : List Expr} {kk : Nat} (hg : Gl X "zip") (hm : X.mg "zip" = none) (ha : PA X [e, e2] ta)
    (hs : starEach [e, e2] X.env = (false, eval e X.env) :: starEach [e2] X.env) (hpl : (backTo pos (starEach [e2] X.env)).any (·.1) = false) :
    PI X (.Tuple elts kk tpos) (.Call (.Name "zip" p) [e, e2] [] pos) (iZipB X.K ta) := by
  refine ⟨fun pins s σ H R I h => ?_⟩
  refine Call_ (ld_blt I hg hm PyProof.Rows.boot_zip (PyProof.Rows.callWith_type1 (thn (ha.run pos pins s σ H _ I h) fun us s1 ⟨vs, H1, I1, r1, q1⟩ => ?_) hs hpl))
  obtain ⟨a, b, t, t2, xs, ys, ex, hqx, hqy, q⟩ := q1
  subst ex
  cases r1 with
  | cons r rr =>
    cases rr with
    | cons r' rr =>
      cases rr
      cases r
      cases r'
      obtain ⟨its, rv, p1⟩ := seqB I1 hqx
      obtain ⟨its2, rv2, p2⟩ := seqB I1 hqy
      have la : a < s1.heap.objs.size := by obtain ⟨_, e⟩ := p1.get; exact Heap.lt_size e
      have lb : b < s1.heap.objs.size := by obtain ⟨_, e⟩ := p2.get; exact Heap.lt_size e
      refine zip_begins2 (beginsB t a its.toArray) (beginsB t2 b its2.toArray) p1 p2 fun h' hz hTI hTO g1 g2 hsz hk => wpAny_pyIter_zip hz ?_
      have I2 : Inv X pins σ H1 { s1 with heap := h' } := I1.kept (t' := s1.toks) hk
      have S := zip_sep2 (N := s1.heap.objs.size) (fp1 := [a]) (fp2 := [b]) (by simpa using la) (by simpa using lb)
      have na : a ≠ s1.heap.objs.size := Nat.ne_of_lt la
      have nb : b ≠ s1.heap.objs.size + 1 := Nat.ne_of_lt (Nat.lt_succ_of_lt lb)
      refine ⟨s1.heap.objs.size + 4, [s1.heap.objs.size + 4, s1.heap.objs.size + 2, s1.heap.objs.size + 3, s1.heap.objs.size, s1.heap.objs.size + 1], _, _, H1, rfl, I2, turn_zipB (t := t) (t2 := t2) S na nb S.TIi1 S.TIi2, ⟨hz, hTI, ⟨_, _, hTO⟩, ?_, ?_⟩, fun c hcm => ?_, q⟩
      · cases t
        · exact ⟨_, g1, rfl, rfl⟩
        · exact ⟨_, g1, rfl, rfl⟩
      · cases t2
        · exact ⟨_, g2, rfl, rfl⟩
        · exact ⟨_, g2, rfl, rfl⟩
      · have e' : c = s1.heap.objs.size + 4 ∨ c = s1.heap.objs.size + 2 ∨ c = s1.heap.objs.size + 3 ∨ c = s1.heap.objs.size ∨ c = s1.heap.objs.size + 1 := by simpa using hcm
        have hle : s1.heap.objs.size ≤ c := by
          rcases e' with z | z | z | z | z
          · rw [z]; exact Nat.le_add_right _ _
          · rw [z]; exact Nat.le_add_right _ _
          · rw [z]; exact Nat.le_add_right _ _
          · rw [z]; exact Nat.le_refl _
          · rw [z]; exact Nat.le_add_right _ _
        exact I1.fpOk hle (I1.hok.fresh hle)
def iEnumB (K : PySem.W.Frag) (k0 : Int) (ta : TA) : TI := fun σ H R => ta σ H fun vs H1 => ∃ a t xs, vs = [.ref a] ∧ SqB t K H1 a xs ∧ R (ItE K t k0 a) H1
theorem enum_end {X : Cx} {pins : List (Addr × Obj)} {σ : L2.St} {H1 : Hp} {s1 : Shared} {R : It → Hp → Prop} {elts : List Expr} {kk : Nat} {tpos : Pos} {t : Bool} {k0 : Int} {a : Addr} {its : Array Value} {h' : Heap} (I1 : Inv X pins σ H1 s1) (p1 : DaB t s1.heap a its)
    (he : IsEnum h' (s1.heap.objs.size + 1) s1.heap.objs.size k0 .none) (g1 : h'.get? s1.heap.objs.size = some (objB t a)) (hk : ∀ b o, s1.heap.get? b = some o → h'.get? b = some o) (q : R (ItE X.K t k0 a) H1) :
    PIE X pins σ (.Tuple elts kk tpos) R (.ref (s1.heap.objs.size + 1)) { s1 with heap := h' } := by
  have la : a < s1.heap.objs.size := by obtain ⟨_, e⟩ := p1.get; exact Heap.lt_size e
  have I2 : Inv X pins σ H1 { s1 with heap := h' } := I1.kept (t' := s1.toks) hk
  refine ⟨s1.heap.objs.size + 1, [s1.heap.objs.size + 1, s1.heap.objs.size], _, _, H1, rfl, I2, turn_enumB (t := t) (k0 := k0) (Nat.succ_ne_self _) (Nat.ne_of_lt la) (Nat.ne_of_lt (Nat.lt_succ_of_lt la)), ⟨⟨.none, by simpa using he⟩, ?_⟩, fun b hb => ?_, q⟩
  · cases t
    · exact ⟨_, g1, rfl, rfl⟩
    · exact ⟨_, g1, rfl, rfl⟩
  · have e' : b = s1.heap.objs.size + 1 ∨ b = s1.heap.objs.size := by simpa using hb
    have hle : s1.heap.objs.size ≤ b := by
      rcases e' with z | z
      · rw [z]; exact Nat.le_add_right _ _
      · rw [z]; exact Nat.le_refl _
    exact I1.fpOk hle (I1.hok.fresh hle)
theorem pi_enumB {X : Cx} {e : Expr} {ta : TA} {p pos tpos : Pos} {elts : List Expr} {kk : Nat} (hg : Gl X "enumerate") (hm : X.mg "enumerate" = none) (ha : PA X [e] ta) (hs : starEach [e] X.env = [(false, eval e X.env)]) :
    PI X (.Tuple elts kk tpos) (.Call (.Name "enumerate" p) [e] [] pos) (iEnumB X.K 0 ta) := by
  refine ⟨fun pins s σ H R I h => ?_⟩
  refine Call_ (ld_blt I hg hm boot_enumerate (PyProof.Rows.callWith_type1 (thn (ha.run pos pins s σ H _ I h) fun us s1 ⟨vs, H1, I1, r1, q1⟩ => ?_) hs rfl))
  obtain ⟨a, t, xs, ex, hq, q⟩ := q1
  subst ex
  cases r1 with
  | cons r rr =>
    cases rr
    cases r
    obtain ⟨its, rv, p1⟩ := seqB I1 hq
    exact enum_begins1 (beginsB t a its.toArray) p1 fun h' he g1 hsz hk => wpAny_pyIter_enum he (enum_end I1 p1 he g1 hk q)
end Mi
namespace Mi
open PySem PySem.Spec PyProof.Rows L2

/-! ### zip and enumerate, by their meanings -/
def itemsOf : D → Option (List D)
  | .list xs => some xs
  | .tuple xs => some xs
  | _ => none
def zipL (xs ys : List D) : List D := (xs.zip ys).map fun q => .tuple [q.1, q.2]
def enumL (k0 : Int) (xs : List D) : List D := (xs.zip (List.range xs.length)).map fun q => .tuple [.int (k0 + (q.2 : Nat)), q.1]
def dZp (d : Da) : Da := fun ρ w => (d ρ w).bind fun p => match p.1 with
  | [a, b] => (itemsOf a).bind fun xs => (itemsOf b).map fun ys => (zipL xs ys, p.2)
  | _ => none
def dEn (k0 : Int) (d : Da) : Da := fun ρ w => (d ρ w).bind fun p => match p.1 with
  | [a] => (itemsOf a).map fun xs => (enumL k0 xs, p.2)
  | _ => none
def HoB (t : Bool) (H : Hp) (a : Addr) (vs : List V) : Prop := match t with
  | true => H a = some (.tup vs)
  | false => H a = some (.lst vs)
theorem HoB.sq {t : Bool} {K : PySem.W.Frag} {H : Hp} {a : Addr} {vs : List V} (h : HoB t H a vs) : SqB t K H a vs := by
  cases t
  · exact SqL.of h
  · exact SqT.of h
theorem HoB.kp {t : Bool} {Z : Addr → Prop} {H1 H' : Hp} {a : Addr} {vs : List V} (h : HoB t H1 a vs) (k : Kp Z H1 H') (n : ¬ Z a) : HoB t H' a vs := by
  cases t
  · exact k a _ h n
  · exact k a _ h n
theorem rp_items {H : Hp} {B : Addr → Prop} {u : D} {v : V} {xs : List D} (h : Rp H B u v) (e : itemsOf u = some xs) : ∃ t a vs, v = .ref a ∧ ¬ B a ∧ HoB t H a vs ∧ RpL H B xs vs := by
  cases u with
  | list ys =>
    cases e
    simp only [Rp] at h
    obtain ⟨a, vs, rfl, nb, ha, r⟩ := h
    exact ⟨false, a, vs, rfl, nb, ha, r⟩
  | tuple ys =>
    cases e
    simp only [Rp] at h
    obtain ⟨a, vs, rfl, nb, ha, r⟩ := h
    exact ⟨true, a, vs, rfl, nb, ha, r⟩
  | _ => cases e
theorem rq_items {aw : Option Addr} {H : Hp} {B : Addr → Prop} {w : Ws} {u : D} {v : V} {xs : List D} (o : Ok aw B w H) (h : Rq aw H B u v) (e : itemsOf u = some xs) : ∃ t a vs, v = .ref a ∧ aw ≠ some a ∧ HoB t H a vs ∧ RpL H B xs vs := by
  cases u with
  | list ys =>
    cases e
    obtain ⟨a, vs, rfl, na, ha, r⟩ := h.lst o
    exact ⟨false, a, vs, rfl, na, ha, r⟩
  | tuple ys =>
    cases e
    obtain ⟨a, vs, rfl, nb, ha, r⟩ := h.tup o
    exact ⟨true, a, vs, rfl, o.ne nb, ha, r⟩
  | _ => cases e
theorem walk_zipB {K : PySem.W.Frag} {Z B : Addr → Prop} {H1 : Hp} {t t2 : Bool} {a b : Addr} {vs ws : List V} {xs ys : List D} (hZ : ∀ a, Z a → B a) (na : ¬ Z a) (nb : ¬ Z b) (ha : HoB t H1 a vs) (hb : HoB t2 H1 b ws) (r : RpL H1 B xs vs) (r2 : RpL H1 B ys ws) :
    WalkT Z B (ItZ K t t2 a b) H1 (zipL xs ys) where
  go := fun i H' k hi => by
    unfold zipL at hi
    rw [List.length_map, List.length_zip] at hi
    have h1 : i < vs.length := by rw [← r.len]; omega
    have h2 : i < ws.length := by rw [← r2.len]; omega
    exact ⟨vs, ws, vs[i], ws[i], (ha.kp k na).sq, (hb.kp k nb).sq, by simp [h1], by simp [h2]⟩
  yld := fun i H' x H'' B2 k hB hd y t e => by
    obtain ⟨T, v1, v2, rfl, hT, rfl, q1, q2⟩ := y
    obtain ⟨t1, t2, e1, e2, rfl⟩ := zip_item e
    have kk : ∀ a o, H' a = some o → upd H' T (.tup [v1, v2]) a = some o := fun a o z => by rw [upd_ne (ne_of_none z hT)]; exact z
    exact ⟨kk, pair_rp hd hT (of_rpl Z hZ r k hB kk e1 (q1 vs (ha.kp k na).sq)) (of_rpl Z hZ r2 k hB kk e2 (q2 ws (hb.kp k nb).sq))⟩
  stop := fun i H' k hi => by
    unfold zipL at hi
    rw [List.length_map, List.length_zip] at hi
    refine ⟨vs, ws, (ha.kp k na).sq, (hb.kp k nb).sq, ?_⟩
    rw [← r.len, ← r2.len]
    omega
theorem enum_item {k0 : Int} {xs : List D} {i : Nat} {t : D} (e : (enumL k0 xs)[i]? = some t) : ∃ x, xs[i]? = some x ∧ t = .tuple [.int (k0 + (i : Nat)), x] := by
  unfold enumL at e
  rw [List.getElem?_map] at e
  obtain ⟨⟨x, y⟩, e1, e2⟩ := Option.map_eq_some_iff.mp e
  obtain ⟨h1, h2⟩ := List.getElem?_zip_eq_some.mp e1
  obtain ⟨h3, h4⟩ := List.getElem?_eq_some_iff.mp h2
  rw [List.getElem_range] at h4
  subst h4
  exact ⟨x, h1, e2.symm⟩
theorem enumL_len {k0 : Int} {xs : List D} : (enumL k0 xs).length = xs.length := by
  unfold enumL
  rw [List.length_map, List.length_zip, List.length_range, Nat.min_self]
theorem walk_enumB {K : PySem.W.Frag} {Z B : Addr → Prop} {H1 : Hp} {t : Bool} {k0 : Int} {a : Addr} {vs : List V} {xs : List D} (hZ : ∀ a, Z a → B a) (na : ¬ Z a) (ha : HoB t H1 a vs) (r : RpL H1 B xs vs) :
    WalkT Z B (ItE K t k0 a) H1 (enumL k0 xs) where
  go := fun i H' k hi => by
    rw [enumL_len] at hi
    have h1 : i < vs.length := by rw [← r.len]; omega
    exact ⟨vs, vs[i], (ha.kp k na).sq, by simp [h1]⟩
  yld := fun i H' x H'' B2 k hB hd y t e => by
    obtain ⟨T, v1, rfl, hT, rfl, q1⟩ := y
    obtain ⟨t1, e1, rfl⟩ := enum_item e
    have kk : ∀ a o, H' a = some o → upd H' T (.tup [.int (k0 + (i : Nat)), v1]) a = some o := fun a o z => by rw [upd_ne (ne_of_none z hT)]; exact z
    exact ⟨kk, pair_rp hd hT rp_int (of_rpl Z hZ r k hB kk e1 (q1 vs (ha.kp k na).sq))⟩
  stop := fun i H' k hi => by
    rw [enumL_len] at hi
    refine ⟨vs, (ha.kp k na).sq, ?_⟩
    rw [← r.len]
    exact hi
section
variable {X : Cx} {e e2 : Expr} {elts : List Expr} {kk : Nat} {r : Da} {p pos tpos : Pos}
theorem zp_open {ρ : Rho} {w : Ws} {xs : List D} {w' : Ws} (h : dZp r ρ w = some (xs, w')) : ∃ a b ys zs, r ρ w = some ([a, b], w') ∧ itemsOf a = some ys ∧ itemsOf b = some zs ∧ xs = zipL ys zs := by
  obtain ⟨⟨ts, w1⟩, e1, h⟩ := Option.bind_eq_some_iff.mp h
  dsimp only at h
  split at h
  · rename_i a b
    obtain ⟨ys, e2, h⟩ := Option.bind_eq_some_iff.mp h
    obtain ⟨zs, e3, h⟩ := Option.map_eq_some_iff.mp h
    cases h
    exact ⟨a, b, ys, zs, e1, e2, e3, rfl⟩
  · cases h
theorem en_open {k0 : Int} {ρ : Rho} {w : Ws} {xs : List D} {w' : Ws} (h : dEn k0 r ρ w = some (xs, w')) : ∃ a ys, r ρ w = some ([a], w') ∧ itemsOf a = some ys ∧ xs = enumL k0 ys := by
  obtain ⟨⟨ts, w1⟩, e1, h⟩ := Option.bind_eq_some_iff.mp h
  dsimp only at h
  split at h
  · rename_i a
    obtain ⟨ys, e2, h⟩ := Option.map_eq_some_iff.mp h
    cases h
    exact ⟨a, ys, e1, e2, rfl⟩
  · cases h
/-- strict -/
theorem i_zpS (hg : Gl X "zip") (hm : X.mg "zip" = none) (ha : PA X [e, e2] (tA r)) (h1 : starEach [e, e2] X.env = (false, eval e X.env) :: starEach [e2] X.env) (hpl : (backTo pos (starEach [e2] X.env)).any (·.1) = false) :
    PI X (.Tuple elts kk tpos) (.Call (.Name "zip" p) [e, e2] [] pos) (tI false (dZp r)) := by
  refine PI.weak (pi_zipB hg hm ha h1 hpl) fun σ H Rr ⟨aw, B, ρ, w, xs, w', rr, q, k⟩ => ?_
  obtain ⟨u, v, ys, zs, e1, e2, e3, rfl⟩ := zp_open q
  refine ⟨aw, B, ρ, w, _, _, rr, e1, fun vs H1 s rl => ?_⟩
  obtain ⟨x, r', rfl, q1, rl⟩ := rl.cons_inv
  obtain ⟨y, r', rfl, q2, rl⟩ := rl.cons_inv
  have := rl.nil_inv
  subst this
  obtain ⟨t, a, vs, rfl, na, ha, r1⟩ := rp_items q1 e2
  obtain ⟨t2, b, ws, rfl, nb, hb, r2⟩ := rp_items q2 e3
  exact ⟨a, b, t, t2, vs, ws, rfl, ha.sq, hb.sq, k _ H1 s (walk_zipB (fun a z => by simpa [Zb] using z) (by simpa [Zb] using na) (by simpa [Zb] using nb) ha hb r1 r2)⟩
theorem i_zpQ (hg : Gl X "zip") (hm : X.mg "zip" = none) (ha : PA X [e, e2] (tAQ r)) (h1 : starEach [e, e2] X.env = (false, eval e X.env) :: starEach [e2] X.env) (hpl : (backTo pos (starEach [e2] X.env)).any (·.1) = false) :
    PI X (.Tuple elts kk tpos) (.Call (.Name "zip" p) [e, e2] [] pos) (tI true (dZp r)) := by
  refine PI.weak (pi_zipB hg hm ha h1 hpl) fun σ H Rr ⟨aw, B, ρ, w, xs, w', rr, q, k⟩ => ?_
  have hz : ∀ a, aw = some a → B a := fun a z => (rr.wl a z).1
  obtain ⟨u, v, ys, zs, e1, e2, e3, rfl⟩ := zp_open q
  refine ⟨aw, B, ρ, w, _, _, rr, e1, fun vs H1 s rl => ?_⟩
  obtain ⟨x, y, rfl, q1, q2⟩ := rl.inv2
  obtain ⟨t, a, vs, rfl, na, ha, r1⟩ := rq_items (rr.step s).toOk q1 e2
  obtain ⟨t2, b, ws, rfl, nb, hb, r2⟩ := rq_items (rr.step s).toOk q2 e3
  exact ⟨a, b, t, t2, vs, ws, rfl, ha.sq, hb.sq, k _ H1 s (walk_zipB (fun a z => hz a (by simpa [Zb] using z)) (by simpa [Zb] using na) (by simpa [Zb] using nb) ha hb r1 r2)⟩
theorem i_enS (hg : Gl X "enumerate") (hm : X.mg "enumerate" = none) (ha : PA X [e] (tA r)) (h1 : starEach [e] X.env = [(false, eval e X.env)]) :
    PI X (.Tuple elts kk tpos) (.Call (.Name "enumerate" p) [e] [] pos) (tI false (dEn 0 r)) := by
  refine PI.weak (pi_enumB hg hm ha h1) fun σ H Rr ⟨aw, B, ρ, w, xs, w', rr, q, k⟩ => ?_
  obtain ⟨u, ys, e1, e2, rfl⟩ := en_open q
  refine ⟨aw, B, ρ, w, _, _, rr, e1, fun vs H1 s rl => ?_⟩
  obtain ⟨x, r', rfl, q1, rl⟩ := rl.cons_inv
  have := rl.nil_inv
  subst this
  obtain ⟨t, a, vs, rfl, na, ha, r1⟩ := rp_items q1 e2
  exact ⟨a, t, vs, rfl, ha.sq, k _ H1 s (walk_enumB (fun a z => by simpa [Zb] using z) (by simpa [Zb] using na) ha r1)⟩
theorem RqL.inv1 {aw : Option Addr} {H : Hp} {B : Addr → Prop} {t : D} {xs : List V} (h : RqL aw H B [t] xs) : ∃ x, xs = [x] ∧ Rq aw H B t x := h.one
theorem i_enQ (hg : Gl X "enumerate") (hm : X.mg "enumerate" = none) (ha : PA X [e] (tAQ r)) (h1 : starEach [e] X.env = [(false, eval e X.env)]) :
    PI X (.Tuple elts kk tpos) (.Call (.Name "enumerate" p) [e] [] pos) (tI true (dEn 0 r)) := by
  refine PI.weak (pi_enumB hg hm ha h1) fun σ H Rr ⟨aw, B, ρ, w, xs, w', rr, q, k⟩ => ?_
  have hz : ∀ a, aw = some a → B a := fun a z => (rr.wl a z).1
  obtain ⟨u, ys, e1, e2, rfl⟩ := en_open q
  refine ⟨aw, B, ρ, w, _, _, rr, e1, fun vs H1 s rl => ?_⟩
  obtain ⟨x, rfl, q1⟩ := rl.inv1
  obtain ⟨t, a, vs, rfl, na, ha, r1⟩ := rq_items (rr.step s).toOk q1 e2
  exact ⟨a, t, vs, rfl, ha.sq, k _ H1 s (walk_enumB (fun a z => hz a (by simpa [Zb] using z)) (by simpa [Zb] using na) ha r1)⟩
end

/-! ### enumerate(e, start=k) -/
section
variable {M : Model} {A : Around} {E : Value → Shared → Prop} {s : Shared} {env : Env}
theorem callWith_type_kwB {pos : Pos} {id : String} {first : List Value} {args : List (Bool × Sem Value)} {keywords : List (Option Str × Sem Value)} {Q : Value → Shared → Prop}
    (hplain : args.any (·.1) = false) (hkw : keywords.any (·.1.isNone) = false)
    (h : wpAny M A (evalArgs (.type id) true args keywords) (fun a s₁ => wpAny M A (call (.type id) (first ++ a.pos) a.kw) Q E s₁) E s) :
    wpAny M A (callWith pos (.type id) first args keywords) Q E s := by
  unfold callWith
  refine wpAny_bind (wpAny_holding (wpAny_mono h (fun a s₁ h₁ => wpAny_bind (wpAny_standAt ?_)) fun _ _ x => x))
  simp only [hplain, hkw, Bool.or_false]
  refine wpAny_bind (wpAny_pure ?_)
  exact wpAny_bind (wpAny_mono h₁ (fun r s₂ hr => wpAny_bind (wpAny_holding (wpAny_point (wpAny_pure hr)))) fun _ _ x => x)
theorem callWith_type_kw {pos : Pos} {id : String} {e : Expr} {rest : List Expr} {kws : List Keyword} {Q : Value → Shared → Prop}
    (h : wpAny M A (spliced (backTo pos (starEach (e :: rest) env))) (fun vs s₁ => wpAny M A (evalAll ((backToKw pos (keywordEach kws env)).map (·.2)))
      (fun kvs s₂ => wpAny M A (call (.type id) vs (((backToKw pos (keywordEach kws env)).filterMap (·.1)).zip kvs)) Q E s₂) E s₁) E s)
    (he : backTo pos (starEach (e :: rest) env) = (false, eval e env) :: backTo pos (starEach rest env))
    (hplain : (backTo pos (starEach (e :: rest) env)).any (·.1) = false)
    (hall : (backToKw pos (keywordEach kws env)).all (·.1.isSome) = true)
    (hkw : (backToKw pos (keywordEach kws env)).any (·.1.isNone) = false) :
    wpAny M A (callWith pos (.type id) [] (backTo pos (starEach (e :: rest) env)) (backToKw pos (keywordEach kws env))) Q E s := by
  refine callWith_type_kwB hplain hkw ?_
  rw [he] at h ⊢
  exact evalArgs_kwB hall h
end
theorem pi_enumK {X : Cx} {e : Expr} {ta : TA} {p pos tpos p2 kp : Pos} {elts : List Expr} {kk k2 : Nat} {k0 : Int} (hk0 : -(2 ^ 63) ≤ k0) (hk1 : k0 < 2 ^ 63) (hg : Gl X "enumerate") (hm : X.mg "enumerate" = none) (ha : PA X [e] ta)
    (he : backTo pos (starEach [e] X.env) = (false, eval e X.env) :: backTo pos (starEach [] X.env)) (hplain : (backTo pos (starEach [e] X.env)).any (·.1) = false) :
    PI X (.Tuple elts kk tpos) (.Call (.Name "enumerate" p) [e] [⟨some "start", .Constant (.int k0) k2 p2, kp⟩] pos) (iEnumB X.K k0 ta) := by
  refine ⟨fun pins s σ H R I h => ?_⟩
  apply wpAny_Call_Name_kw
  refine ld_blt I hg hm boot_enumerate (callWith_type_kw (thn (ha.run pos pins s σ H _ I h) fun us s1 ⟨vs, H1, I1, r1, q1⟩ => ?_) he hplain rfl rfl)
  refine kws_cons ?_
  refine thn ((pe_int (X := X) (i := k0)).run pins s1 σ H1 (fun v H' => v = .int k0 ∧ H' = H1) I1 ⟨rfl, rfl⟩) fun v s2 ⟨x, H2, I2, rv, ex, eh⟩ => kws_nil ?_
  subst ex eh
  obtain ⟨tk, rfl⟩ := rv
  obtain ⟨a, t, xs, ex, hq, q⟩ := q1
  subst ex
  cases r1 with
  | cons r rr =>
    cases rr
    cases r
    obtain ⟨its, rv, p1⟩ := seqB I2 hq
    exact enum_begins_start (beginsB t a its.toArray) p1 hk0 hk1 fun h' he g1 hsz hk => wpAny_pyIter_enum he (enum_end I2 p1 he g1 hk q)
section
variable {X : Cx} {e e2 : Expr} {elts : List Expr} {kk k2 : Nat} {r : Da} {p pos tpos p2 kp : Pos} {k0 : Int}
theorem i_enKS (hk0 : -(2 ^ 63) ≤ k0) (hk1 : k0 < 2 ^ 63) (hg : Gl X "enumerate") (hm : X.mg "enumerate" = none) (ha : PA X [e] (tA r))
    (he : backTo pos (starEach [e] X.env) = (false, eval e X.env) :: backTo pos (starEach [] X.env)) (hplain : (backTo pos (starEach [e] X.env)).any (·.1) = false) :
    PI X (.Tuple elts kk tpos) (.Call (.Name "enumerate" p) [e] [⟨some "start", .Constant (.int k0) k2 p2, kp⟩] pos) (tI false (dEn k0 r)) := by
  refine PI.weak (pi_enumK hk0 hk1 hg hm ha he hplain) fun σ H Rr ⟨aw, B, ρ, w, xs, w', rr, q, k⟩ => ?_
  obtain ⟨u, ys, e1, e2, rfl⟩ := en_open q
  refine ⟨aw, B, ρ, w, _, _, rr, e1, fun vs H1 s rl => ?_⟩
  obtain ⟨x, r', rfl, q1, rl⟩ := rl.cons_inv
  have := rl.nil_inv
  subst this
  obtain ⟨t, a, vs, rfl, na, ha, r1⟩ := rp_items q1 e2
  exact ⟨a, t, vs, rfl, ha.sq, k _ H1 s (walk_enumB (fun a z => by simpa [Zb] using z) (by simpa [Zb] using na) ha r1)⟩
end

/-! ### type(x) is not T -/
def gTyNo (T : String) (t : D) : Option D := some (.bool (!decide (tyName t = T)))
section
variable {X : Cx} {e : Expr} {da : De} {pos : Pos} {x2 : Str}
theorem r_tyNot {T : String} {p p2 p3 : Pos} (ha : PE X e (tQ da)) (hg : Gl X "type") (hm : X.mg "type" = none) (hg2 : Gl X x2) (hm2 : X.mg x2 = none) (hv2 : bootBuiltins x2 = some (.type T))
    (hn : x2 ≠ "__name__") (hd : (x2 == ("__debug__" : Str)) = false)
    (h1 : starEach [e] X.env = (false, eval e X.env) :: starEach [] X.env) :
    PE X (.Compare (.Call (.Name "type" p) [e] [] p3) [.IsNot] [.Name x2 p2] pos) (tE (dUn (gTyNo T) da)) := by
  refine PE.weak (pe_cmpR op_isNotTy (pe_callTy call_tyD hg hm (by decide +kernel) (pa_cons ha pa_nil h1) (by decide) (by decide) h1 rfl) (pe_bltn (v := .ty T) hg2 hm2 hv2 rfl hn hd) (nomark _)) fun σ H Q h => ?_
  refine un_go (f := gTyNo T) (k := fun x H1 Q => rTyD [x] H1 fun y H2 => (tC (.ty T)) σ H2 fun z H3 => ∃ m n, y = .ty m ∧ z = .ty n ∧ Q (.bl (!decide (m = n))) H3) (fun aw B w H a c x Q o ha e k => ?_) h
  cases e
  exact ⟨x, aw, B, a, rfl, ha, _, _, rfl, rfl, k _ _ o.stp rp_bl⟩
end
section
variable {X : Cx} {e : Expr} {da : De} {pos : Pos} {x2 : Str}
theorem q_tyNot {T : String} {p p2 p3 : Pos} (ha : PE X e (tQ da)) (hg : Gl X "type") (hm : X.mg "type" = none) (hg2 : Gl X x2) (hm2 : X.mg x2 = none) (hv2 : bootBuiltins x2 = some (.type T))
    (hn : x2 ≠ "__name__") (hd : (x2 == ("__debug__" : Str)) = false)
    (h1 : starEach [e] X.env = (false, eval e X.env) :: starEach [] X.env) :
    PT X (.Compare (.Call (.Name "type" p) [e] [] p3) [.IsNot] [.Name x2 p2] pos) (tT (dTr (dUn (gTyNo T) da))) := by
  refine PT.weak (pt_cmpR op_isNotTy (pe_callTy call_tyD hg hm (by decide +kernel) (pa_cons ha pa_nil h1) (by decide) (by decide) h1 rfl) (pe_bltn (v := .ty T) hg2 hm2 hv2 rfl hn hd) (nomark _)) fun σ H Q ⟨aw, B, ρ, w, t, w', r, q, k⟩ => ?_
  obtain ⟨z, e1, e2⟩ := dt_open q
  obtain ⟨⟨u, w1⟩, e3, e4⟩ := Option.bind_eq_some_iff.mp e1
  cases e4
  cases e2
  exact ⟨aw, B, ρ, w, u, w1, r, e3, fun v H1 s1 q1 => ⟨v, aw, B, u, rfl, q1, _, _, rfl, rfl, _, rfl, k H1 s1⟩⟩
end

/-! ### x, y = a, a new list of the def's own -/
theorem RS.own {aw : Option Addr} {B0 B : Addr → Prop} {H0 H H1 : Hp} {ρ : Rho} {w w1 : Ws} {σ : L2.St} {i : Nat} {ts : List D} {p : Addr} {vs : List V} (r : RS aw B0 H0 ρ w σ H B) (s1 : Stp aw H H1 w1) (hp : H p = none) (hp1 : H1 p = some (.lst vs))
    (rl : RpL H1 (Bx B p) ts vs) (hl : i < ρ.length) : RS aw B0 H0 (ρ.set i (some (.own ts))) w1 (σ.set i (some (.ref p))) H1 (Bx B p) := by
  have r1 := r.step s1
  have hl' : i < σ.length := Nat.lt_of_lt_of_le hl r.len
  have pB : ¬ B p := r.toOk.fresh hp
  have other : ∀ (j : Nat) (us : List PyData) (q : Addr), j ≠ i → ρ[j]? = some (some (.own us)) → σ[j]? = some (some (.ref q)) → q ≠ p := fun j us q hj ej sj z => by
    obtain ⟨a, vs', ev, ba, _⟩ := r.cell j _ ej
    rw [sj] at ev
    cases ev
    exact pB (z ▸ ba)
  refine { dom := fun a ha => ha.elim (r1.dom a) fun z => by rw [z, hp1]; exact fun q => nomatch q
           wl := fun a e => ⟨.inl (r1.wl a e).1, (r1.wl a e).2⟩
           len := by rw [List.length_set, List.length_set]; exact r.len
           cell := fun j cl e => ?_
           kp := r1.kp
           b0 := fun a ha => ha.elim (r.b0 a) fun z => .inr ?_
           sub := fun a h => .inl (r.sub a h)
           inj := fun j l us zs q ne e1 e2 e3 => ?_
           nb := fun j us q e1 e2 => ?_ }
  · by_cases hj : i = j
    · subst hj
      rw [List.getElem?_set_self hl] at e
      cases e
      rw [List.getElem?_set_self hl']
      exact ⟨p, vs, rfl, .inr rfl, fun z => pB (r.wl p z).1, hp1, rl⟩
    · rw [List.getElem?_set_ne hj] at e ⊢
      have q := r.cell j cl e
      have mv : Mv H B H1 (Bx B p) := fun a o z n => ⟨s1.1 a o z (r.toOk.ne n), fun y => y.elim n fun y => by rw [y, hp] at z; cases z⟩
      cases cl with
      | val t =>
        obtain ⟨v, ev, rp⟩ := q
        exact ⟨v, ev, rp.mv mv⟩
      | own us =>
        obtain ⟨a, vs', ev, ba, na, ha, rl⟩ := q
        exact ⟨a, vs', ev, .inl ba, na, s1.1 a _ ha na, rl.mv mv⟩
      | well => exact q
  · rw [z]
    cases q : H0 p with
    | none => rfl
    | some o =>
      have := r.kp p o q fun z => pB (r.wl p z).1
      rw [hp] at this
      cases this
  · by_cases hj : i = j
    · subst hj
      have hl2 : i ≠ l := ne
      rw [List.getElem?_set_self hl'] at e3
      cases e3
      rw [List.getElem?_set_ne hl2] at e2 ⊢
      exact fun z => other l zs p (fun y => hl2 y.symm) e2 z rfl
    · rw [List.getElem?_set_ne hj] at e1 e3
      by_cases hl2 : i = l
      · subst hl2
        rw [List.getElem?_set_self hl']
        intro z
        cases z
        exact other j us p (fun y => hj y.symm) e1 e3 rfl
      · rw [List.getElem?_set_ne hl2] at e2 ⊢
        exact r.inj j l us zs q ne e1 e2 e3
  · by_cases hj : i = j
    · subst hj
      rw [List.getElem?_set_self hl'] at e2
      cases e2
      exact fun z => pB (r.sub _ z)
    · rw [List.getElem?_set_ne hj] at e1 e2
      exact r.nb j us q e1 e2
def sParO (i j : Nat) (da db : De) : Sm := fun ρ w => (da ρ w).bind fun p => (db ρ p.2).bind fun q => match q.1 with
  | .list ts => if i < ρ.length ∧ j < ρ.length then some (.nx, (ρ.set i (some (.val p.1))).set j (some (.own ts)), q.2) else none
  | _ => none
section
variable {X : Cx} {a b : Expr} {da db : De} {pos : Pos} {x y : Str} {i j : Nat}
theorem s_parO {px py pt pt2 : Pos} {kt k2 : Nat} (hc : X.calm = true) (hN : X.N.Nodup) (hi : X.N[i]? = some x) (hj : X.N[j]? = some y) (hij : i ≠ j)
    (hx : X.env.scope.names.lookup x = some .local) (hy : X.env.scope.names.lookup y = some .local) (ha : PE X a (tE da)) (hb : PE X b (tF db))
    (h1 : starEach [a, b] X.env = (false, eval a X.env) :: starEach [b] X.env) (h2 : starEach [b] X.env = (false, eval b X.env) :: starEach [] X.env)
    (hw : swappedStores [.Tuple [.Name x px, .Name y py] kt pt] (.Tuple [a, b] k2 pt2) X.env = pure (some [x, y]))
    (hs : swapsWithSole [.Tuple [.Name x px, .Name y py] kt pt] (.Tuple [a, b] k2 pt2) pos.line X.env = pure false) :
    PS X (.Assign [.Tuple [.Name x px, .Name y py] kt pt] (.Tuple [a, b] k2 pt2) pos) (tS (sParO i j da db)) := by
  refine PS.weak (ps_par hc hN hi hj hij hx hy (pa_cons ha (pa_cons hb pa_nil h2) h1) hw hs) fun D σ H ⟨aw, B0, H0, B, ρ, w, fl, ρ', w', r, q, k⟩ => ?_
  obtain ⟨⟨t, w1⟩, q1, q2⟩ := Option.bind_eq_some_iff.mp q
  obtain ⟨⟨t2, w2⟩, q3, q4⟩ := Option.bind_eq_some_iff.mp q2
  cases t2 with
  | list ts =>
    dsimp only at q4
    split at q4
    · rename_i hl
      cases q4
      refine ⟨aw, B, ρ, w, _, _, r.toR, q1, fun v H1 s1 rp => ⟨aw, B, ρ, w1, ts, _, (r.step s1).toR, q3, fun p vs H2 s2 hp hp2 rl => ⟨v, .ref p, rfl, ?_⟩⟩⟩
      refine k _ H2 (Bx B p) (RS.own (par_go (r.step s1) rp hl.1) s2 hp hp2 rl (by rw [List.length_set]; exact hl.2)) (r.kpB (s1.trans s2)) (fun a ha => ha.elim .inl fun z => .inr ?_)
      rw [z]
      exact fresh_back' s1 hp
    · cases q4
  | _ => cases q4
theorem s_parOC {px py pt pt2 : Pos} {kt k2 : Nat} (hc : X.calm = true) (hN : X.N.Nodup) (hi : X.N[i]? = some x) (hj : X.N[j]? = some y)
    (hx : Loc X.env.scope x) (hy : Loc X.env.scope y) (fx : X.fn x = true ∨ X.env.scope.names.lookup x = some .local) (fy : X.fn y = true ∨ X.env.scope.names.lookup y = some .local) (ha : PE X a (tE da)) (hb : PE X b (tF db))
    (h1 : starEach [a, b] X.env = (false, eval a X.env) :: starEach [b] X.env) (h2 : starEach [b] X.env = (false, eval b X.env) :: starEach [] X.env)
    (g1 : (assignEach [.Name x px, .Name y py] X.env).map (·.2) = assign (.Name x px) X.env :: (assignEach [.Name y py] X.env).map (·.2)) (g2 : (assignEach [.Name y py] X.env).map (·.2) = assign (.Name y py) X.env :: (assignEach [] X.env).map (·.2))
    (hn : (assignEach [.Name x px, .Name y py] X.env).length = 2) (hst : (assignEach [.Name x px, .Name y py] X.env).findIdx? (·.1) = none)
    (hs : swapsWithSole [.Tuple [.Name x px, .Name y py] kt pt] (.Tuple [a, b] k2 pt2) pos.line X.env = pure false)
    (hw : swappedStores [.Tuple [.Name x px, .Name y py] kt pt] (.Tuple [a, b] k2 pt2) X.env = pure none)
    (h3 : (assignEach [.Tuple [.Name x px, .Name y py] kt pt] X.env).map (·.2) = [assign (.Tuple [.Name x px, .Name y py] kt pt) X.env]) :
    PS X (.Assign [.Tuple [.Name x px, .Name y py] kt pt] (.Tuple [a, b] k2 pt2) pos) (tS (sParO i j da db)) := by
  refine PS.weak (ps_asg (pe_tup (pa_cons ha (pa_cons hb pa_nil h2) h1)) (pg_tup hc (pgs_cons (pg_name hN hi hx fx) (pgs_cons (pg_name hN hj hy fy) pgs_nil g2) g1) hn hst) hs hw h3) fun D σ H ⟨aw, B0, H0, B, ρ, w, fl, ρ', w', r, q, k⟩ => ?_
  obtain ⟨⟨t, w1⟩, q1, q2⟩ := Option.bind_eq_some_iff.mp q
  obtain ⟨⟨t2, w2⟩, q3, q4⟩ := Option.bind_eq_some_iff.mp q2
  cases t2 with
  | list ts =>
    dsimp only at q4
    split at q4
    · rename_i hl
      cases q4
      refine ⟨aw, B, ρ, w, _, _, r.toR, q1, fun v H1 s1 rp => ⟨aw, B, ρ, w1, ts, _, (r.step s1).toR, q3, fun p vs H2 s2 hp hp2 rl => ⟨by show 2 ≤ sizeLine; decide, fun T hT => ⟨T, _, rfl, SqT.of upd_same, rfl, v, _, rfl, .ref p, _, rfl, rfl, ?_⟩⟩⟩⟩
      have r2 := RS.own (par_go (r.step s1) rp hl.1) s2 hp hp2 rl (by rw [List.length_set]; exact hl.2)
      have s3 := r2.toOk.new (u := .tup [v, .ref p]) hT
      refine k _ _ (Bx B p) (r2.step s3) ((r.kpB (s1.trans s2)).trans (r2.kpB s3) ?_) (fun a ha => ha.elim .inl fun z => .inr ?_)
      · exact fun a ha => ha.elim .inl fun z => .inr (by rw [z]; exact fresh_back' s1 hp)
      · rw [z]
        exact fresh_back' s1 hp
    · cases q4
  | _ => cases q4
end
end Mi
namespace Mi
open PySem PySem.Spec PyProof.Rows L2

/-! ### the other maker of the well -/
def lapA (A : Int) : Zx := zB (fun _ _ => true) (· + ·) (zB mulOk (· * ·) (zC 600011) (zV 1)) (zC A)
def tSum3 (K : PySem.W.Frag) : TE := tCB rTi (tCons (tCB (rSum K) (tCons (tSl (rSlL K) (tVar 0) tNoPart (tPart (tC (.int 3)))) tNil)) tNil)
def tlElse (K : PySem.W.Frag) (A : Int) : TE := tOp (rI0 fun i j => .int (i + j)) (zE (lapA A)) (tOp (rI (fun _ j => 0 < j) fun i j => .int (i % j)) (tSum3 K) (tC (.int 999953)))
def tlCell (K : PySem.W.Frag) (A : Int) : TE := tIf (tTest (tOp (rI0 fun i j => .bl (decide (i < j))) (tVar 1) (tCB (rLn K) (tCons (tVar 0) tNil)))) (tCB rTi (tCons (tOp (rIxL K) (tVar 0) (tVar 1)) tNil)) (tlElse K A)
def lapSeed (B : Int) : Zx := zB (fun _ _ => true) (· + ·) (zC B) (zB mulOk (· * ·) (zC 4463) (zV 1))
def lapStep : Zx := zB (fun _ j => decide (0 < j)) (· % ·) (zB (fun _ _ => true) (· + ·) (zB (fun _ _ => true) (· + ·) (zB mulOk (· * ·) (zV 3) (zC 57601)) (zB (fun _ j => decide (0 < j)) (· % ·) (zV 4) (zC 2147483543))) (zC 31)) (zC 2147483543)
def t_lap (K : PySem.W.Frag) (A B : Int) : TS := tSeq (tAsg (tlCell K A) (gName 2)) (tSeq (tAsg (zE (lapSeed B)) (gName 3)) (tSeq (tFor (iList K (tOp rCat (tSl (rSlL K) (tVar 0) tNoPart (tPart (tC (.int 9)))) (tLst (tCons (tVar 2) tNil)))) (gName 4) (tAsg (zE lapStep) (gName 3)))
  (tRet fun σ H Q => tCons (zE wFirst) (tCons (zE (zV 3)) (tCons (tC (.int 0)) tNil)) σ H fun vs H1 => rNewL vs H1 Q)))
theorem lapA_eq {A : Int} {a : Addr} {t : Int} {c s e : Option V} (h0 : 0 ≤ t) (h1 : t < 1000) : lapA A (sW a t c s e) = some (600011 * t + A) :=
  zB_eq (zB_eq rfl rfl (mulOk_of (a := 20) (b := 20) (by omega) (by omega) (by decide) (by decide) (by decide))) rfl rfl
theorem lapSeed_eq {B : Int} {a : Addr} {t : Int} {c s e : Option V} (h0 : 0 ≤ t) (h1 : t < 1000) : lapSeed B (sW a t c s e) = some (B + 4463 * t) :=
  zB_eq rfl (zB_eq rfl rfl (mulOk_of (a := 20) (b := 20) (by omega) (by omega) (by decide) (by decide) (by decide))) rfl
theorem lapStep_eq {a : Addr} {t : Int} {c : Option V} {s e : Int} (h0 : 0 ≤ s) (h1 : s < 2 ^ 40) : ∃ s', lapStep (sW a t c (some (.int s)) (some (.int e))) = some s' ∧ 0 ≤ s' ∧ s' < 2147483543 := by
  refine ⟨_, zB_eq (zB_eq (zB_eq (zB_eq rfl rfl (mulOk_of (a := 40) (b := 20) (by omega) (by omega) (by decide) (by decide) (by decide)))
    (zB_eq rfl rfl rfl) rfl) rfl rfl) rfl rfl, ?_, ?_⟩ <;> omega
theorem cut_take {ns : List Int} (k : Nat) : cutV (ns.map V.int) none (some (k : Int)) = (ns.take k).map V.int := by
  unfold cutV
  rw [List.length_map, HT.sIx_none, show HT.sIx ns.length ns.length (some (k : Int)) = min k ns.length from HT.sIx_nat _ _ k, Nat.sub_zero, List.drop_zero, ← List.map_take]
  congr 1
  by_cases h : k ≤ ns.length
  · rw [Nat.min_eq_left h]
  · rw [Nat.min_eq_right (by omega), List.take_of_length_le (Nat.le_refl _), List.take_of_length_le (by omega)]
theorem lap_pure {K : PySem.W.Frag} {A B : Int} (hB0 : 0 ≤ B) (hB1 : B < 1000000000) {x : Str} (vs : List V) (H : Hp) (Q : VK) (E : XK) (h : spWell K vs H Q E) : t_lap K A B { nx := fun _ H' => Q .non H', rt := Q } (start ["script", x, "cell", "stir", "each"] vs) H := by
  obtain ⟨a, ns, t, rfl, hS, t0, t1, hQ⟩ := h
  have e0 : start ["script", x, "cell", "stir", "each"] [V.ref a, V.int t] = sW a t none none none := rfl
  rw [e0]
  unfold t_lap
  -- the cell: nothing known changes
  have cell : ∀ (k : L2.St → Hp → Prop), (∀ (c : Int) (H' : Hp), Kept H H' → k (sW a t (some (.int c)) none none) H') → tAsg (tlCell K A) (gName 2) { nx := k, rt := Q, bk := fun _ _ => False, ct := fun _ _ => False } (sW a t none none none) H := by
    intro k hk
    refine ⟨_, rfl, _, rfl, a, _, rfl, .inl hS, t, _, rfl, rfl, _, rfl, ?_⟩
    by_cases hl : t < (ns.map V.int).length
    · rw [decide_eq_true hl]
      refine iteT ⟨_, rfl, _, rfl, a, _, t, .int (ns[t.toNat]'(by rw [List.length_map] at hl; omega)), rfl, rfl, hS, ?_, .inl ⟨_, rfl, hk _ H fun _ _ z => z⟩⟩
      unfold L2.atI L2.ixN
      rw [if_pos t0, if_pos hl]
      show (ns.map V.int)[t.toNat]? = _
      rw [List.getElem?_map, List.getElem?_eq_getElem (by rw [List.length_map] at hl; omega)]
      rfl
    · rw [decide_eq_false hl]
      refine iteF ⟨_, lapA_eq t0 t1, ?_⟩
      refine ⟨_, rfl, 3, rfl, a, _, rfl, hS, fun p hp => ⟨p, ns.take 3, rfl, SqL.of ?_, .inl ⟨_, rfl, ?_⟩⟩⟩
      · rw [show (some (3 : Int)) = some ((3 : Nat) : Int) from rfl, cut_take]
        exact upd_same
      · refine ⟨_, _, rfl, rfl, (show (0 : Int) < 999953 by decide), _, _, rfl, rfl, hk _ _ fun b o z => ?_⟩
        rw [upd_ne (ne_of_none z hp)]
        exact z
  refine cell _ fun c H1 k1 => ?_
  refine ⟨_, lapSeed_eq t0 t1, ?_⟩
  have hS1 := k1.sq hS
  -- the loop
  refine ⟨_, rfl, 9, rfl, a, _, rfl, hS1, fun p hp => ?_⟩
  refine ⟨_, rfl, show 1 ≤ sizeLine by decide, fun q hq => ?_⟩
  have hpq : p ≠ q := fun z => by rw [z, upd_same] at hq; cases hq
  show rCat (V.ref p) (V.ref q) _ _
  refine ⟨p, q, cutV (ns.map V.int) none (some 9), [V.int c], rfl, rfl, ?_, upd_same, ?_, fun r hr => ?_⟩
  · rw [upd_ne hpq]
    exact upd_same
  · show (cutV (ns.map V.int) none (some ((9 : Nat) : Int))).length + 1 ≤ sizeLine
    rw [cut_take, List.length_map, List.length_take]
    exact Nat.le_trans (show min 9 ns.length + 1 ≤ 10 by omega) (by decide)
  refine ⟨r, rfl, ⟨_, SqL.of upd_same⟩, ?_⟩
  let H2 : Hp := upd (upd H1 p (.lst (cutV (ns.map V.int) none (some 9)))) q (.lst [V.int c])
  let Hl : Hp := upd H2 r (.lst (cutV (ns.map V.int) none (some 9) ++ [V.int c]))
  have hcut : cutV (ns.map V.int) none (some 9) ++ [V.int c] = (ns.take 9 ++ [c]).map V.int := by
    rw [show (some (9 : Int)) = some ((9 : Nat) : Int) from rfl, cut_take, List.map_append]
    rfl
  have kl : ∀ b o, H b = some o → Hl b = some o := fun b o z => by
    have z1 := k1 b o z
    have z2 : H2 b = some o := by
      show upd (upd H1 p _) q _ b = _
      have z3 : upd H1 p (.lst (cutV (ns.map V.int) none (some 9))) b = some o := by rw [upd_ne (ne_of_none z1 hp)]; exact z1
      rw [upd_ne (ne_of_none z3 hq)]
      exact z3
    show upd H2 r _ b = _
    rw [upd_ne (ne_of_none z2 hr)]
    exact z2
  refine for_list (xs := cutV (ns.map V.int) none (some 9) ++ [V.int c]) (fun i σ H' => H' = Hl ∧ ∃ (s : Int) (e : Option V), σ = sW a t (some (.int c)) (some (.int s)) e ∧ 0 ≤ s ∧ s < 2147483647) ⟨rfl, _, _, rfl, by omega, by omega⟩ (fun i σ H' _ h => ?_) (fun i x σ H' hx h => ?_) fun σ H' h => ?_
  · obtain ⟨rfl, _⟩ := h
    exact SqL.of upd_same
  · obtain ⟨rfl, s, e, rfl, s0, s1⟩ := h
    rw [hcut, List.getElem?_map] at hx
    obtain ⟨ei, _, rfl⟩ := Option.map_eq_some_iff.mp hx
    obtain ⟨s', es, s0', s1'⟩ := lapStep_eq (a := a) (t := t) (c := some (.int c)) (e := ei) s0 (by omega)
    exact ⟨s', es, rfl, s', some (.int ei), rfl, s0', by omega⟩
  · obtain ⟨rfl, s, e, rfl, s0, s1⟩ := h
    obtain ⟨z, ez, z0⟩ := wFirst_eq (a := a) (t := t) (s := some (.int s)) (e := e) (c := c)
    refine ⟨z, ez, s, rfl, (show 3 ≤ sizeLine by decide), fun q2 hq2 => hQ q2 [z, s, 0] _ ⟨z, s, rfl, z0, s0, s1⟩ ?_ ?_ ?_⟩
    · cases u : H q2 with
      | none => rfl
      | some o =>
        rw [kl q2 o u] at hq2
        cases hq2
    · intro b o hb
      rw [upd_ne (ne_of_none (kl b o hb) hq2)]
      exact kl b o hb
    · exact upd_same
end Mi
/-! ### t[::-1] of a tuple -/
namespace HT
open PySem PySem.Spec PyProof.Rows
section
variable {prog : Program} {w : World} {A : Around} {E : Value → Shared → Prop} {s : Shared}
theorem sliceApplied_rev {sl : Addr} {vl vu vs : Value} {n : Nat} {Q : Int × Int × Nat → Shared → Prop} (hs : s.heap.IsSliceOf sl vl vu vs) (pl : IsPart vl none) (pu : IsPart vu none) (ps : IsPart vs (some (-1)))
    (h : Q ((n : Int) - 1, -1, n) s) : wpAny (model prog w) A (Builtin.Slice.sliceApplied (.ref sl) (pure (n : Int))) Q E s := by
  obtain ⟨os, hos, hcs, hds⟩ := id hs
  unfold Builtin.Slice.sliceApplied Builtin.Slice.sliceFields
  refine wpAny_bind (wpAny_bind (wpAny_field hos hds (x := vl) rfl (wpAny_bind (wpAny_field hos hds (x := vu) rfl (wpAny_bind (wpAny_field hos hds (x := vs) rfl (wpAny_pure ?_)))))))
  refine wpAny_bind (slicePart_ ps ?_)
  show wpAny _ _ (if ((-1 : Int) == 0) = true then _ else _) _ _ s
  rw [if_neg (by decide)]
  refine wpAny_bind (slicePart_ pl (wpAny_bind (slicePart_ pu (wpAny_bind (wpAny_pure ?_)))))
  show wpAny _ _ (match Builtin.Slice.sliceAdjust none none (-1) (n : Int) with | (lo, hi) => pure (lo, (-1 : Int), Builtin.Slice.slicePlaces lo hi (-1))) _ _ s
  have e1 : Builtin.Slice.sliceAdjust none none (-1) (n : Int) = ((n : Int) - 1, -1) := by
    unfold Builtin.Slice.sliceAdjust
    simp
  have e2 : Builtin.Slice.slicePlaces ((n : Int) - 1) (-1) (-1) = n := by
    unfold Builtin.Slice.slicePlaces
    have h1 : ¬ ((-1 : Int) > 0) := by omega
    simp only [h1, if_false, Int.neg_neg, Int.ediv_one]
    split <;> omega
  rw [e1]
  show wpAny _ _ (pure ((n : Int) - 1, (-1 : Int), Builtin.Slice.slicePlaces ((n : Int) - 1) (-1) (-1))) _ _ s
  rw [e2]
  exact wpAny_pure h
theorem pick_rev (xs : Array Value) : ((List.range xs.size).filterMap fun (m : Nat) => xs[(((xs.size : Nat) : Int) - 1 + (m : Int) * (-1)).toNat]?).toArray = xs.toList.reverse.toArray := by
  congr 1
  apply List.ext_getElem?
  intro i
  have key : ∀ l : List Nat, (∀ m ∈ l, m < xs.size) → (l.filterMap fun (m : Nat) => xs[(((xs.size : Nat) : Int) - 1 + (m : Int) * (-1)).toNat]?) = l.map fun m => xs.toList.reverse.getD m .none := by
    intro l
    induction l with
    | nil => intro _; rfl
    | cons m l ih =>
      intro h
      have hm : m < xs.size := h m (List.mem_cons_self ..)
      have k : (((xs.size : Nat) : Int) - 1 + (m : Int) * (-1)).toNat = xs.size - 1 - m := by omega
      have this : xs.size - 1 - m < xs.size := by omega
      have e1 : xs[(((xs.size : Nat) : Int) - 1 + (m : Int) * (-1)).toNat]? = some (xs.toList.reverse.getD m .none) := by
        rw [k, List.getD_eq_getElem?_getD, List.getElem?_reverse (by simpa using hm)]
        simp [this]
      rw [List.filterMap_cons_some (f := fun (m : Nat) => xs[(((xs.size : Nat) : Int) - 1 + (m : Int) * (-1)).toNat]?) e1, List.map_cons, ih fun m hm => h m (List.mem_cons_of_mem _ hm)]
  have e := key (List.range xs.size) fun m hm => List.mem_range.mp hm
  rw [e, List.getElem?_map]
  by_cases h : i < xs.size
  · have h2 : i < xs.toList.reverse.length := by simpa using h
    rw [List.getElem?_range h, Option.map_some, List.getD_eq_getElem?_getD, List.getElem?_eq_getElem h2]
    rfl
  · rw [List.getElem?_eq_none (by simpa using h), List.getElem?_eq_none (by simpa using h)]
    rfl
theorem getItem_tuple_rev {t sl : Addr} {items : Array Value} {vl vu vs : Value} {Q : Value → Shared → Prop} (ht : IsTup s.heap t items) (hs : s.heap.IsSliceOf sl vl vu vs) (pl : IsPart vl none) (pu : IsPart vu none) (ps : IsPart vs (some (-1)))
    (h : Q (.ref s.heap.objs.size) { s with heap := s.heap.push { cls := .type "tuple", data := .seq items.toList.reverse.toArray } })
    (hsz : items.size ≤ sizeLine) : wpAny (model prog w) A (getItem (.ref t) (.ref sl)) Q E s := by
  have htake : sizeOk (.seq items.toList.reverse.toArray) := by
    show items.toList.reverse.toArray.size ≤ sizeLine
    simpa using hsz
  obtain ⟨os, hos, hcs, hds⟩ := id hs
  have hTs : s.TypeIs (.ref sl) "slice" := ⟨os, hos, hcs⟩
  unfold getItem
  try with_reducible refine wpAny_holding ?_
  first | refine wpAny_bind (wpAny_pure ?_) | skip
  refine wpAny_bind (wpAny_sequenceKey ht.typeIs (by decide) ?_)
  refine wpAny_bind (wpAny_callSpecial?_slot (name := Str.ofString "__getitem__") ht.typeIs PyProof.Rows.slot_tuple_getitem
    (wpAny_call_entry PyProof.Rows.slot_tuple_getitem ht.typeIs entry_tuple_getitem ?_ (args_tuple_getitem _ _)))
  show wpAny _ _ (Builtin.Tuple.tupleItemsOf (.ref t) >>= _) _ _ s
  refine wpAny_bind (tupleItemsOf_ ht ?_)
  refine wpAny_bind (wpAny_typeOf hTs ?_)
  rw [if_pos (by decide)]
  refine wpAny_bind (sliceApplied_rev hs pl pu ps ?_)
  have hno : ¬ ((((items.size : Nat) : Int) - 1 == 0 && (-1 : Int) == 1 && items.size == items.size) = true) := by simp
  show wpAny _ _ (if (((items.size : Nat) : Int) - 1 == 0 && (-1 : Int) == 1 && items.size == items.size) = true then _ else _) _ _ s
  rw [if_neg hno, pick_rev]
  first
    | exact wpAny_bind (m := Builtin.Tuple.tupleExact _) (wpAny_newObj_type (wpAny_pure ⟨_, rfl, wpAny_pure h⟩) htake)
    | exact wpAny_bind (m := Builtin.Tuple.tupleExact _) (wpAny_newObj_type (wpAny_bind (wpAny_pure (wpAny_pure ⟨_, rfl, wpAny_pure h⟩))) htake)
    | exact wpAny_bind (wpAny_bind (m := Builtin.Tuple.tupleExact _) (wpAny_newObj_type (wpAny_pure (wpAny_pure ⟨_, rfl, wpAny_pure h⟩)) htake))
    | exact wpAny_bind (wpAny_bind (m := Builtin.Tuple.tupleExact _) (wpAny_newObj_type (wpAny_pure ⟨_, rfl, wpAny_pure h⟩) htake))
end
end HT
namespace Mi
open PySem PySem.Spec PyProof.Rows L2
def tRevA (K : PySem.W.Frag) (te : TE) : TE := fun σ H Q => te σ H fun x H1 => ∃ a, x = .ref a ∧ ((∃ xs, SqL K H1 a xs ∧ ∀ p, H1 p = none → Q (.ref p) (upd H1 p (.lst xs.reverse))) ∨ ∃ xs, SqT K H1 a xs ∧ ∀ p, H1 p = none → Q (.ref p) (upd H1 p (.tup xs.reverse)))
theorem vals_rev {xs : List V} {us : List Value} (r : Vals xs us) : Vals xs.reverse us.reverse := r.reverse
section
variable {X : Cx} {e : Expr} {de : De} {pos : Pos}
theorem pe_revA {te : TE} {k : Nat} {p1 p2 p3 : Pos} (he : PE X e te) : PE X (.Subscript e (.Slice none none (some (.UnaryOp .USub (.Constant (.int 1) k p1) p2)) p3) pos) (tRevA X.K te) := by
  refine ⟨fun pins s σ H Q I h => ?_⟩
  refine Subscript_ (thn (he.run pins s σ H _ I h) fun v s1 ⟨x, H1, I1, r1, q1⟩ => ?_)
  obtain ⟨a, ex, q⟩ := q1
  subst ex
  cases r1
  have hst : PO X (some (.UnaryOp .USub (.Constant (.int 1) k p1) p2)) (tPart (tUn (rU fun i => .int (-i)) (tC (.int 1)))) := po_some (pe_un un_neg pe_int)
  refine wpAny_Slice (thn (po_none.run pins s1 σ H1 (fun o H2 => o = none ∧ H2 = H1) I1 ⟨rfl, rfl⟩) fun vl s2 ⟨l, H2, I2, pl, el, e2⟩ => ?_)
  subst el e2
  refine thn (po_none.run pins s2 σ H2 (fun o H3 => o = none ∧ H3 = H2) I2 ⟨rfl, rfl⟩) fun vu s3 ⟨u, H3, I3, pu, eu, e3⟩ => ?_
  subst eu e3
  refine thn (hst.run pins s3 σ H3 (fun o H4 => o = some (-1) ∧ H4 = H3) I3 ⟨1, rfl, -1, rfl, rfl, rfl⟩) fun vs s4 ⟨o, H4, I4, ps, eo, e4⟩ => ?_
  subst eo e4
  have I5 : Inv X pins σ H4 { s4 with heap := s4.heap.push { cls := .type "slice", data := .fields #[vl, vu, vs] } } := I4.kept (t' := s4.toks) fun b ob q => Heap.get?_push_of_some _ q
  show wpAny (model X.prog X.w) X.A (subscriptTail e (.Slice none none (some (.UnaryOp .USub (.Constant (.int 1) k p1) p2)) p3) (.ref a) (.ref s4.heap.objs.size)) (EP X pins σ Q) X.xe { s4 with heap := s4.heap.push { cls := .type "slice", data := .fields #[vl, vu, vs] } }
  rcases q with ⟨xs, hx, q⟩ | ⟨xs, hx, q⟩
  · obtain ⟨its, r, ht, hz⟩ := I5.list hx
    have hlen := r.length
    refine tail_any (ops := [.ref a, .ref s4.heap.objs.size]) ht.isList.typeIs (PySem.slot_list_getitem.lookup) ?_ (by with_unfolding_all rfl)
    refine wpAny_getItem_list_slice ht.isList (Heap.IsSliceOf.new _ vl vu vs) pl pu ps (by decide) ?_ (by rw [List.size_toArray]; omega)
    rw [PySem.W.krv_pick]
    refine ⟨.ref _, _, I5.laid (t' := s4.toks) (o := .lst xs.reverse) (fun b ob q => Heap.get?_push_of_some _ q) (Nat.le_refl _) ?_, rfl, q _ (I5.hok.fresh (Nat.le_refl _))⟩
    exact ⟨by rw [List.length_reverse]; exact hz, _, 0, r.reverse, Heap.get?_push_size _ rfl⟩
  · obtain ⟨its, r, ht, hz⟩ := I5.tuple hx
    have hlen := r.length
    refine tail_any (ops := [.ref a, .ref s4.heap.objs.size]) ht.typeIs (PyProof.Rows.slot_tuple_getitem.lookup) ?_ (by with_unfolding_all rfl)
    refine HT.getItem_tuple_rev ht (Heap.IsSliceOf.new _ vl vu vs) pl pu ps ?_ (by rw [List.size_toArray]; omega)
    refine ⟨.ref _, _, I5.laid (t' := s4.toks) (o := .tup xs.reverse) (fun b ob q => Heap.get?_push_of_some _ q) (Nat.le_refl _) ?_, rfl, q _ (I5.hok.fresh (Nat.le_refl _))⟩
    exact ⟨by rw [List.length_reverse]; exact hz, _, r.reverse, IsTup.new _ _⟩
def gRv : D → Option D
  | .list xs => some (.list xs.reverse)
  | .tuple xs => some (.tuple xs.reverse)
  | _ => none
theorem r_rv {k : Nat} {p1 p2 p3 : Pos} (ha : PE X e (tQ de)) : PE X (.Subscript e (.Slice none none (some (.UnaryOp .USub (.Constant (.int 1) k p1) p2)) p3) pos) (tE (dUn gRv de)) := by
  refine PE.weak (pe_revA ha) fun σ H Q h => ?_
  refine un_go (f := gRv) (k := fun x H1 Q => ∃ a, x = V.ref a ∧ ((∃ xs, SqL X.K H1 a xs ∧ ∀ p, H1 p = none → Q (V.ref p) (upd H1 p (.lst xs.reverse))) ∨ ∃ xs, SqT X.K H1 a xs ∧ ∀ p, H1 p = none → Q (V.ref p) (upd H1 p (.tup xs.reverse)))) (fun aw B w H a c x Q o ha e k => ?_) h
  unfold gRv at e
  split at e
  · cases e
    obtain ⟨p, vs, rfl, _, h1, r1⟩ := ha.lst o
    refine ⟨p, rfl, .inl ⟨vs, SqL.of h1, fun z hz => k _ _ (o.new hz) ?_⟩⟩
    simp only [Rp]
    exact ⟨z, _, rfl, o.fresh hz, upd_same, r1.rev.mv (o.mv (o.new hz))⟩
  · cases e
    obtain ⟨p, vs, rfl, _, h1, r1⟩ := ha.tup o
    refine ⟨p, rfl, .inr ⟨vs, SqT.of h1, fun z hz => k _ _ (o.new hz) ?_⟩⟩
    simp only [Rp]
    exact ⟨z, _, rfl, o.fresh hz, upd_same, r1.rev.mv (o.mv (o.new hz))⟩
  · cases e
end
end Mi
/-! ### zip whose tuples are kept: the loop's target is a name -/
namespace PySem
open Sem (wp)
/-- a zip, whatever tuple it lent last -/
def ZipAny (h : Heap) (z TI TO : Addr) : Prop := ∃ (f0 : Value) (f1 : Bool), (f0 = .none ∨ ∃ T : Nat, f0 = rawInt T) ∧
  h.get? z = some { cls := .type "zip", dict := none, data := .fields #[f0, .bool f1, .bool false, .ref TI, .ref TO], slots := #[] }
abbrev ZipRec (h : Heap) (z TI TO : Addr) (f0 : Value) (f1 : Bool) : Prop :=
  h.get? z = some { cls := .type "zip", dict := none, data := .fields #[f0, .bool f1, .bool false, .ref TI, .ref TO], slots := #[] }
section
variable {prog : Program} {w : World} {A : Around} {E : Value → Shared → Prop} {s : Shared} {z TI TO i1 i2 : Addr} {fp1 fp2 : List Addr} {n1 n2 i : Nat} {P1 P2 : Nat → Value → Prop} {St1 St2 : Nat → Heap → Prop} {a1 a2 : Value}
theorem ZipAny.new (h : IsZip s.heap z TI TO .none) : ZipAny s.heap z TI TO := ⟨_, false, .inl rfl, h⟩
theorem ZipAny.mv {h h' : Heap} (x : ZipAny h z TI TO) (k : ∀ o, h.get? z = some o → h'.get? z = some o) : ZipAny h' z TI TO := let ⟨f0, f1, c, e⟩ := x; ⟨f0, f1, c, k _ e⟩
theorem alive_any {a : Addr} {Q : Option Obj → Shared → Prop} (h : Q (s.heap.get? a) s) : wpAny (model prog w) A (loadIfAlive a) Q E s := fun _ _ _ => h
theorem zfree {Q : Bool → Shared → Prop} (hz : ZipAny s.heap z TI TO) (h1 : Q true s) (h2 : ∀ h', ZipAny h' z TI TO → Heap.SameBut z s.heap h' → Q false { s with heap := h' }) :
    wpAny (model prog w) A (Builtin.SmallTypes.ownedTupleIsFree (.ref z)) Q E s := by
  obtain ⟨f0, f1, hf, hr⟩ := hz
  unfold Builtin.SmallTypes.ownedTupleIsFree
  refine wpAny_bind (wpAny_field hr rfl (x := f0) rfl ?_)
  rcases hf with rfl | ⟨T, rfl⟩
  · exact wpAny_pure h1
  · show wpAny _ _ (loadIfAlive ((T : Int).toNat) >>= _) _ _ _
    refine wpAny_bind (alive_any ?_)
    cases s.heap.get? ((T : Int).toNat) with
    | none => simp only [Option.isNone_none, if_true]; exact wpAny_pure h1
    | some o =>
      simp only [Option.isNone_some, Bool.false_eq_true, if_false]
      refine wpAny_bind (wpAny_field hr rfl (x := .bool f1) rfl ?_)
      cases f1
      · rw [if_pos (show (Value.bool false != Value.bool true) = true from rfl)]
        exact wpAny_bind (wpAny_setField_rec hr (by simp) fun g hg sb => wpAny_pure (h2 g ⟨_, true, .inr ⟨T, rfl⟩, hg⟩ sb))
      · rw [if_neg (show ¬ (Value.bool true != Value.bool true) = true from Bool.false_ne_true)]
        exact wpAny_pure (h2 s.heap ⟨_, true, .inr ⟨T, rfl⟩, hr⟩ (Heap.SameBut.refl ..))
/-- the next pair, a new tuple, whatever became of the last one -/
theorem zany_item {Q : Value → Shared → Prop} (S : ZipSep2 z TI TO i1 i2 fp1 fp2) (D1 : Draws prog w A i1 fp1 n1 P1 St1) (D2 : Draws prog w A i2 fp2 n2 P2 St2) (hz : ZipAny s.heap z TI TO) (hTI : IsTupOf2 s.heap TI (.ref i1) (.ref i2)) (hTO : IsTupOf2 s.heap TO a1 a2)
    (c1 : St1 i s.heap) (c2 : St2 i s.heap) (l1 : i < n1) (l2 : i < n2)
    (hQ : ∀ x y h' tk, P1 i x → P2 i y → ZipAny h' z TI TO → (∃ u v, IsTupOf2 h' TO u v) → St1 (i + 1) h' → St2 (i + 1) h' → IsTupOf2 h' s.heap.objs.size x y → h'.objs.size = s.heap.objs.size + 1 →
      (∀ c o, c ≠ z → c ≠ TO → c ≠ i1 → c ≠ i2 → s.heap.get? c = some o → h'.get? c = some o) → Q (.ref s.heap.objs.size) { s with heap := h', toks := tk }) :
    wpAny (model prog w) A (Builtin.«zip.__next__» ⟨[.ref z], []⟩) (fun fin s' => ∃ v, fin = .done (.ret v) ∧ Q v s') E s := by
  obtain ⟨h0, gl, dr, t0, os⟩ := s
  have hz0 := hz
  obtain ⟨f0, f1, hf, hr⟩ := hz0
  replace hr : ZipRec h0 z TI TO f0 f1 := hr
  refine (show wpAny _ _ (field (.ref z) 2 >>= _) _ _ _ from ?_)
  refine wpAny_bind (wpAny_field hr rfl (x := .bool false) rfl (?_))
  refine (show wpAny _ _ (field (.ref z) 3 >>= _) _ _ _ from ?_)
  refine wpAny_bind (wpAny_field hr rfl (x := .ref TI) rfl (wpAny_bind (wpAny_seqItems hTI rfl ?_)))
  refine (show wpAny _ _ (Builtin.SmallTypes.ownedTupleIsFree (.ref z) >>= _) _ _ _ from wpAny_bind (zfree hz ?_ fun ha za sa => ?_))
  · simp only [if_true]
    refine wpAny_bind (wpAny_rule (wpAny_bind (wpAny_field hr rfl (x := .ref TO) rfl (wpAny_bind (wpAny_setField_rec hr (by simp) fun ha za sa => ?_)))))
    replace za : ZipRec ha z TI TO .ellipsis f1 := za
    replace sa : Heap.SameBut z h0 ha := sa
    refine wpAny_bind ?_
    simp only [List.zipIdx_cons, List.zipIdx_nil, List.forIn_cons, List.forIn_nil]
    refine wpAny_bind (wpAny_bind (wpAny_onRaise (show wpAny _ _ (Builtin.SmallTypes.nextOf (.ref i1) >>= _) _ _ ⟨ha, gl, dr, t0, os⟩ from ?_)))
    refine wpAny_bind (D1.item i _ _ _ l1 (D1.over c1 sa S.zf1) fun x hb t1 px cb sb => wpAny_pure ?_)
    replace sb : Heap.SameBut i1 ha hb := sb
    have ob : IsTupOf2 hb TO a1 a2 := sb.extBut _ _ S.Ti1 (sa.extBut _ _ S.TOz hTO)
    refine wpAny_bind (wpAny_seqItems (s := ⟨hb, gl, dr, t1, os⟩) ob rfl (wpAny_bind (updateSeq_IsTupOf2 (s := ⟨hb, gl, dr, t1, os⟩) ob fun hc oc sc => ?_)))
    replace oc : IsTupOf2 hc TO x a2 := oc
    replace sc : Heap.SameBut TO hb hc := sc
    refine wpAny_bind (wpAny_letGo (wpAny_pure (wpAny_bind (wpAny_bind (wpAny_onRaise (show wpAny _ _ (Builtin.SmallTypes.nextOf (.ref i2) >>= _) _ _ ⟨hc, gl, dr, t1, os⟩ from ?_))))))
    refine wpAny_bind (D2.item i _ _ _ l2 (D2.over (D2.over (D2.over c2 sa S.zf2) sb S.sep1_2) sc S.Tf2) fun y hd t2 py cd sd => wpAny_pure ?_)
    replace sd : Heap.SameBut i2 hc hd := sd
    have od : IsTupOf2 hd TO x a2 := sd.extBut _ _ S.Ti2 oc
    refine wpAny_bind (wpAny_seqItems (s := ⟨hd, gl, dr, t2, os⟩) od rfl (wpAny_bind (updateSeq_IsTupOf2 (s := ⟨hd, gl, dr, t2, os⟩) od fun he oe se => ?_)))
    replace oe : IsTupOf2 he TO x y := oe
    replace se : Heap.SameBut TO hd he := se
    refine wpAny_bind (wpAny_letGo (wpAny_pure (wpAny_pure (wpAny_bind (wpAny_seqItems (s := ⟨he, gl, dr, t2, os⟩) oe rfl (wpAny_bind (wpAny_newTuple ?_)))))))
    have n0 : he.objs.size = h0.objs.size := by rw [se.1, sd.1, sc.1, sb.1, sa.1]
    have ze : ZipRec he z TI TO .ellipsis f1 := se.extBut _ _ S.TOz.symm (sd.extBut _ _ S.zi2 (sc.extBut _ _ S.TOz.symm (sb.extBut _ _ S.zi1 za)))
    have zl : z ≠ he.objs.size := Nat.ne_of_lt (Heap.lt_size ze)
    have k0 : ∀ c o, c ≠ z → c ≠ TO → c ≠ i1 → c ≠ i2 → h0.get? c = some o → he.get? c = some o := fun c o q1 q2 q3 q4 e => se.extBut _ _ q2 (sd.extBut _ _ q4 (sc.extBut _ _ q2 (sb.extBut _ _ q3 (sa.extBut _ _ q1 e))))
    have ce : St1 (i + 1) he := D1.over (D1.over (D1.over cb sc S.Tf1) sd S.sep2_1) se S.Tf1
    refine (show wpAny _ _ (Builtin.SmallTypes.ownedTupleHandOut (.ref z) (.ref he.objs.size) >>= _) _ _ ⟨he.push { cls := .type "tuple", data := .seq #[x, y] }, gl, dr, t2, os⟩ from wpAny_bind ?_)
    unfold Builtin.SmallTypes.ownedTupleHandOut
    refine wpAny_bind (wpAny_setField_rec (Heap.get?_push_of_some _ ze) (by simp) fun hf zf sf => wpAny_setField_rec zf (by simp) fun hg zg sg => ?_)
    replace zg : ZipRec hg z TI TO (rawInt he.objs.size) false := zg
    have up : ∀ c o, c ≠ z → (he.push { cls := .type "tuple", data := .seq #[x, y] }).get? c = some o → hg.get? c = some o := fun c o q e => sg.extBut _ _ q (sf.extBut _ _ q e)
    have tg : IsTupOf2 hg he.objs.size x y := up _ _ zl.symm (Heap.get?_push_size _ rfl)
    have ng : hg.objs.size = he.objs.size + 1 := by rw [sg.1, sf.1, Heap.size_push]
    have upe : ∀ c o, c ≠ z → he.get? c = some o → hg.get? c = some o := fun c o q e => up c o q (Heap.get?_push_of_some _ e)
    rw [n0] at zg tg ng
    refine wpAny_pure ⟨_, rfl, (show Q (.ref he.objs.size) ⟨hg, gl, dr, t2, os⟩ from ?_)⟩
    rw [n0]
    exact hQ x y hg t2 px py ⟨_, false, .inr ⟨_, rfl⟩, zg⟩ ⟨x, y, upe _ _ S.TOz oe⟩ (D1.frame _ _ _ ce fun b hb o e => upe b o (fun q => S.zf1 (q ▸ hb)) e) (D2.frame _ _ _ (D2.over cd se S.Tf2) fun b hb o e => upe b o (fun q => S.zf2 (q ▸ hb)) e) tg ng fun c o q1 q2 q3 q4 e => upe c o q1 (k0 c o q1 q2 q3 q4 e)
  · replace sa : Heap.SameBut z h0 ha := sa
    simp only [Bool.false_eq_true, if_false]
    refine wpAny_bind ?_
    rw [← Array.forIn_toList]
    simp only [List.forIn_cons, List.forIn_nil]
    refine wpAny_bind (wpAny_bind (wpAny_holding (show wpAny _ _ (Builtin.SmallTypes.nextOf (.ref i1) >>= _) _ _ ⟨ha, gl, dr, t0, os⟩ from ?_)))
    refine wpAny_bind (D1.item i _ _ _ l1 (D1.over c1 sa S.zf1) fun x hb t1 px cb sb => wpAny_pure (wpAny_pure ?_))
    replace sb : Heap.SameBut i1 ha hb := sb
    refine wpAny_bind (wpAny_bind (wpAny_holding (show wpAny _ _ (Builtin.SmallTypes.nextOf (.ref i2) >>= _) _ _ ⟨hb, gl, dr, t1, os⟩ from ?_)))
    refine wpAny_bind (D2.item i _ _ _ l2 (D2.over (D2.over c2 sa S.zf2) sb S.sep1_2) fun y hd t2 py cd sd => wpAny_pure (wpAny_pure (wpAny_pure ?_)))
    replace sd : Heap.SameBut i2 hb hd := sd
    refine (show wpAny _ _ (newTuple [x, y] >>= _) _ _ ⟨hd, gl, dr, t2, os⟩ from wpAny_bind (wpAny_newTuple (wpAny_pure ⟨_, rfl, ?_⟩)))
    have n0 : hd.objs.size = h0.objs.size := by rw [sd.1, sb.1, sa.1]
    have up : ∀ c o, hd.get? c = some o → (hd.push { cls := .type "tuple", data := .seq #[x, y] }).get? c = some o := fun c o e => Heap.get?_push_of_some _ e
    have tg : IsTupOf2 (hd.push { cls := .type "tuple", data := .seq #[x, y] }) hd.objs.size x y := Heap.get?_push_size _ rfl
    have ng : (hd.push { cls := .type "tuple", data := .seq #[x, y] }).objs.size = hd.objs.size + 1 := Heap.size_push ..
    refine (show Q (.ref hd.objs.size) ⟨hd.push { cls := .type "tuple", data := .seq #[x, y] }, gl, dr, t2, os⟩ from ?_)
    rw [n0] at tg ng ⊢
    have zd : ZipAny hd z TI TO := (za.mv fun o e => sb.extBut _ _ S.zi1 e).mv fun o e => sd.extBut _ _ S.zi2 e
    exact hQ x y _ t2 px py (zd.mv fun o e => up _ _ e) ⟨a1, a2, up _ _ (sd.extBut _ _ S.Ti2 (sb.extBut _ _ S.Ti1 (sa.extBut _ _ S.TOz hTO)))⟩ (D1.frame _ _ _ (D1.over cb sd S.sep2_1) fun b _ o e => up b o e) (D2.frame _ _ _ cd fun b _ o e => up b o e) tg ng
      fun c o q1 q2 q3 q4 e => up _ _ (sd.extBut _ _ q4 (sb.extBut _ _ q3 (sa.extBut _ _ q1 e)))
/-- at the end of one of them -/
theorem zany_end {Q : Fin → Shared → Prop} (S : ZipSep2 z TI TO i1 i2 fp1 fp2) (D1 : Draws prog w A i1 fp1 n1 P1 St1) (D2 : Draws prog w A i2 fp2 n2 P2 St2) (hz : ZipAny s.heap z TI TO) (hTI : IsTupOf2 s.heap TI (.ref i1) (.ref i2)) (hTO : IsTupOf2 s.heap TO a1 a2)
    (c1 : St1 i s.heap) (c2 : St2 i s.heap) (l1 : i ≤ n1) (l2 : i ≤ n2) (le : i = n1 ∨ i = n2)
    (hE : ∀ h' tk e, (∀ c o, c ≠ z → c ≠ TO → c ≠ i1 → c ≠ i2 → s.heap.get? c = some o → h'.get? c = some o) → (∃ o, h'.get? e = some o ∧ o.cls = .type "StopIteration") → E (.ref e) { s with heap := h', toks := tk }) :
    wpAny (model prog w) A (Builtin.«zip.__next__» ⟨[.ref z], []⟩) Q E s := by
  obtain ⟨h0, gl, dr, t0, os⟩ := s
  have hz0 := hz
  obtain ⟨f0, f1, hf, hr⟩ := hz0
  replace hr : ZipRec h0 z TI TO f0 f1 := hr
  refine (show wpAny _ _ (field (.ref z) 2 >>= _) _ _ _ from ?_)
  refine wpAny_bind (wpAny_field hr rfl (x := .bool false) rfl (?_))
  refine (show wpAny _ _ (field (.ref z) 3 >>= _) _ _ _ from ?_)
  refine wpAny_bind (wpAny_field hr rfl (x := .ref TI) rfl (wpAny_bind (wpAny_seqItems hTI rfl ?_)))
  refine (show wpAny _ _ (Builtin.SmallTypes.ownedTupleIsFree (.ref z) >>= _) _ _ _ from wpAny_bind (zfree hz ?_ fun ha za sa => ?_))
  · simp only [if_true]
    refine wpAny_bind (wpAny_rule (wpAny_bind (wpAny_field hr rfl (x := .ref TO) rfl (wpAny_bind (wpAny_setField_rec hr (by simp) fun ha za sa => ?_)))))
    replace za : ZipRec ha z TI TO .ellipsis f1 := za
    replace sa : Heap.SameBut z h0 ha := sa
    have cl : ∀ {q : Heap} {e : Addr} {oe : Obj}, ZipRec q z TI TO .ellipsis f1 → q.get? e = some oe → oe.cls = .type "StopIteration" → e ≠ z := fun zq he hc x => by
      subst x
      rw [zq] at he
      cases he
      simp at hc
    refine wpAny_bind ?_
    simp only [List.zipIdx_cons, List.zipIdx_nil, List.forIn_cons, List.forIn_nil]
    refine wpAny_bind (wpAny_bind (wpAny_onRaise (show wpAny _ _ (Builtin.SmallTypes.nextOf (.ref i1) >>= _) _ _ ⟨ha, gl, dr, t0, os⟩ from ?_)))
    by_cases m1 : i < n1
    · refine wpAny_bind (D1.item i _ _ _ m1 (D1.over c1 sa S.zf1) fun x hb t1 px cb sb => wpAny_pure ?_)
      replace sb : Heap.SameBut i1 ha hb := sb
      have ob : IsTupOf2 hb TO a1 a2 := sb.extBut _ _ S.Ti1 (sa.extBut _ _ S.TOz hTO)
      refine wpAny_bind (wpAny_seqItems (s := ⟨hb, gl, dr, t1, os⟩) ob rfl (wpAny_bind (updateSeq_IsTupOf2 (s := ⟨hb, gl, dr, t1, os⟩) ob fun hc oc sc => ?_)))
      replace sc : Heap.SameBut TO hb hc := sc
      have m2 : n2 = i := by omega
      refine wpAny_bind (wpAny_letGo (wpAny_pure (wpAny_bind (wpAny_bind (wpAny_onRaise (show wpAny _ _ (Builtin.SmallTypes.nextOf (.ref i2) >>= _) _ _ ⟨hc, gl, dr, t1, os⟩ from ?_))))))
      refine wpAny_bind (D2.done ⟨hc, gl, dr, t1, os⟩ _ _ (by rw [m2]; exact D2.over (D2.over (D2.over c2 sa S.zf2) sb S.sep1_2) sc S.Tf2) fun hd e xd ⟨oe, ge, ce⟩ => ?_)
      replace xd : Heap.ExtBut i2 hc hd := xd
      replace ge : hd.get? e = some oe := ge
      have zd : ZipRec hd z TI TO .ellipsis f1 := xd _ _ S.zi2 (sc.extBut _ _ S.TOz.symm (sb.extBut _ _ S.zi1 za))
      refine wpAny_setField_rec (s := ⟨hd, gl, dr, t1, os⟩) zd (by simp) fun he _ se => ?_
      replace se : Heap.SameBut z hd he := se
      exact hE he t1 e (fun c o q1 q2 q3 q4 v => se.extBut _ _ q1 (xd _ _ q4 (sc.extBut _ _ q2 (sb.extBut _ _ q3 (sa.extBut _ _ q1 v))))) ⟨oe, se.extBut _ _ (cl zd ge ce) ge, ce⟩
    · have m2 : n1 = i := by omega
      refine wpAny_bind (D1.done ⟨ha, gl, dr, t0, os⟩ _ _ (by rw [m2]; exact D1.over c1 sa S.zf1) fun hd e xd ⟨oe, ge, ce⟩ => ?_)
      replace xd : Heap.ExtBut i1 ha hd := xd
      replace ge : hd.get? e = some oe := ge
      have zd : ZipRec hd z TI TO .ellipsis f1 := xd _ _ S.zi1 za
      refine wpAny_setField_rec (s := ⟨hd, gl, dr, t0, os⟩) zd (by simp) fun he _ se => ?_
      replace se : Heap.SameBut z hd he := se
      exact hE he t0 e (fun c o q1 q2 q3 q4 v => se.extBut _ _ q1 (xd _ _ q3 (sa.extBut _ _ q1 v))) ⟨oe, se.extBut _ _ (cl zd ge ce) ge, ce⟩
  · replace sa : Heap.SameBut z h0 ha := sa
    simp only [Bool.false_eq_true, if_false]
    refine wpAny_bind ?_
    rw [← Array.forIn_toList]
    simp only [List.forIn_cons, List.forIn_nil]
    refine wpAny_bind (wpAny_bind (wpAny_holding (show wpAny _ _ (Builtin.SmallTypes.nextOf (.ref i1) >>= _) _ _ ⟨ha, gl, dr, t0, os⟩ from ?_)))
    by_cases m1 : i < n1
    · refine wpAny_bind (D1.item i _ _ _ m1 (D1.over c1 sa S.zf1) fun x hb t1 px cb sb => wpAny_pure (wpAny_pure ?_))
      replace sb : Heap.SameBut i1 ha hb := sb
      have m2 : n2 = i := by omega
      refine wpAny_bind (wpAny_bind (wpAny_holding (show wpAny _ _ (Builtin.SmallTypes.nextOf (.ref i2) >>= _) _ _ ⟨hb, gl, dr, t1, os⟩ from ?_)))
      refine wpAny_bind (D2.done ⟨hb, gl, dr, t1, os⟩ _ _ (by rw [m2]; exact D2.over (D2.over c2 sa S.zf2) sb S.sep1_2) fun hd e xd ⟨oe, ge, ce⟩ => ?_)
      replace xd : Heap.ExtBut i2 hb hd := xd
      exact hE hd t1 e (fun c o q1 q2 q3 q4 v => xd _ _ q4 (sb.extBut _ _ q3 (sa.extBut _ _ q1 v))) ⟨oe, ge, ce⟩
    · have m2 : n1 = i := by omega
      refine wpAny_bind (D1.done ⟨ha, gl, dr, t0, os⟩ _ _ (by rw [m2]; exact D1.over c1 sa S.zf1) fun hd e xd ⟨oe, ge, ce⟩ => ?_)
      replace xd : Heap.ExtBut i1 ha hd := xd
      exact hE hd t0 e (fun c o q1 q2 q3 q4 v => xd _ _ q3 (sa.extBut _ _ q1 v)) ⟨oe, ge, ce⟩
theorem zany_next {Q : Option Value → Shared → Prop} (S : ZipSep2 z TI TO i1 i2 fp1 fp2) (D1 : Draws prog w A.in1 i1 fp1 n1 P1 St1) (D2 : Draws prog w A.in1 i2 fp2 n2 P2 St2) (hz : ZipAny s.heap z TI TO) (hTI : IsTupOf2 s.heap TI (.ref i1) (.ref i2)) (hTO : IsTupOf2 s.heap TO a1 a2)
    (c1 : St1 i s.heap) (c2 : St2 i s.heap) (l1 : i < n1) (l2 : i < n2)
    (hQ : ∀ x y h' tk, P1 i x → P2 i y → ZipAny h' z TI TO → (∃ u v, IsTupOf2 h' TO u v) → St1 (i + 1) h' → St2 (i + 1) h' → IsTupOf2 h' s.heap.objs.size x y → h'.objs.size = s.heap.objs.size + 1 →
      (∀ c o, c ≠ z → c ≠ TO → c ≠ i1 → c ≠ i2 → s.heap.get? c = some o → h'.get? c = some o) → Q (some (.ref s.heap.objs.size)) { s with heap := h', toks := tk }) :
    wpAny (model prog w) A (pyNext (.ref z)) Q E s := by
  have ty : s.TypeIs (.ref z) "zip" := let ⟨_, _, _, e⟩ := hz; ⟨_, e, rfl⟩
  unfold pyNext
  exact wpAny_bind (wpAny_attempt (wpAny_callSpecial?_slot (name := Str.ofString "__next__") ty F.slot_zip_next (wpAny_call_entry F.slot_zip_next ty F.entry_zip_next
    (zany_item S D1 D2 hz hTI hTO c1 c2 l1 l2 fun x y h' tk p1 p2 b1 b2 b3 b4 b5 b6 b7 => wpAny_pure (hQ x y h' tk p1 p2 b1 b2 b3 b4 b5 b6 b7)) (F.args_zip_next_1 _))))
theorem zany_stop {Q : Option Value → Shared → Prop} (S : ZipSep2 z TI TO i1 i2 fp1 fp2) (D1 : Draws prog w A.in1 i1 fp1 n1 P1 St1) (D2 : Draws prog w A.in1 i2 fp2 n2 P2 St2) (hz : ZipAny s.heap z TI TO) (hTI : IsTupOf2 s.heap TI (.ref i1) (.ref i2)) (hTO : IsTupOf2 s.heap TO a1 a2)
    (c1 : St1 i s.heap) (c2 : St2 i s.heap) (l1 : i ≤ n1) (l2 : i ≤ n2) (le : i = n1 ∨ i = n2)
    (hQ : ∀ h' tk, (∀ c o, c ≠ z → c ≠ TO → c ≠ i1 → c ≠ i2 → s.heap.get? c = some o → h'.get? c = some o) → Q none { s with heap := h', toks := tk }) : wpAny (model prog w) A (pyNext (.ref z)) Q E s := by
  have ty : s.TypeIs (.ref z) "zip" := let ⟨_, _, _, e⟩ := hz; ⟨_, e, rfl⟩
  unfold pyNext
  refine wpAny_bind (wpAny_attempt (wpAny_callSpecial?_slot (name := Str.ofString "__next__") ty F.slot_zip_next (wpAny_call_entry F.slot_zip_next ty F.entry_zip_next
    (zany_end S D1 D2 hz hTI hTO c1 c2 l1 l2 le fun h' tk e k ⟨o, g, c⟩ => ?_) (F.args_zip_next_1 _))))
  exact wpAny_bind (wpAny_isInstance (T := "StopIteration") (b := true) ⟨o, g, c⟩ isSubtype_stop (wpAny_pure (hQ _ _ k)))
end
end PySem
namespace Mi
open PySem PySem.Spec PyProof.Rows L2
theorem zany_iter {prog : Program} {w : World} {A : Around} {E : Value → Shared → Prop} {s : Shared} {z TI TO : Addr} {f0 : Value} {f1 : Bool} {Q : Value → Shared → Prop} (e : ZipRec s.heap z TI TO f0 f1) (h : Q (.ref z) s) : wpAny (model prog w) A (pyIter (.ref z)) Q E s := by
  have ty : s.TypeIs (.ref z) "zip" := ⟨_, e, rfl⟩
  exact wpAny_pyIter_slot ty F.slot_zip_iter (wpAny_call_entry F.slot_zip_iter ty F.entry_zip_iter (show wpAny _ _ (ret (.ref z)) _ _ s from wpAny_pure ⟨_, rfl, "zip", _, ty, F.slot_zip_next.lookup, h⟩) (F.args_zip_iter_1 _))
theorem turn_zipN {P : Program} {w : World} {K : PySem.W.Frag} {nm : String} {tpos : Pos} {t t2 : Bool} {a b z TI TO i1 i2 : Addr} (D : ZipSep2 z TI TO i1 i2 [i1, a] [i2, b]) (n1 : a ≠ i1) (n2 : b ≠ i2) (m1 : TI ≠ i1) (m2 : TI ≠ i2) :
    Turn P w K (.Name nm tpos) (ItZ K t t2 a b) [z, TI, TO, i1, i2] z (fun i h => ZipAny h z TI TO ∧ IsTupOf2 h TI (.ref i1) (.ref i2) ∧ (∃ x y, IsTupOf2 h TO x y) ∧ ItB t h i1 a i ∧ ItB t2 h i2 b i) where
  mem := List.mem_cons_self ..
  obj := fun i h st c hc => by
    obtain ⟨⟨f0, f1, _, hz⟩, hTI, ⟨x, y, hTO⟩, g1, g2⟩ := st
    have e5 : c = z ∨ c = TI ∨ c = TO ∨ c = i1 ∨ c = i2 := by simpa using hc
    rcases e5 with q | q | q | q | q
    · exact q ▸ ⟨_, hz, fun v q => nomatch q⟩
    · exact q ▸ ⟨_, hTI, fun v q => nomatch q⟩
    · exact q ▸ ⟨_, hTO, fun v q => nomatch q⟩
    · exact q ▸ g1.get
    · exact q ▸ g2.get
  keep := fun i h h' st k => by
    obtain ⟨zz, hTI, ⟨x, y, hTO⟩, g1, g2⟩ := st
    exact ⟨zz.mv fun o e => k z (by simp) o e, k TI (by simp) _ hTI, ⟨x, y, k TO (by simp) _ hTO⟩, g1.at fun o e => k i1 (by simp) o e, g2.at fun o e => k i2 (by simp) o e⟩
  item := by
    intro X hP hw hK hc i pins s σ H E I fp st go
    subst hP hw hK
    obtain ⟨zz, hTI, ⟨x0, y0, hTO⟩, g1, g2⟩ := st
    obtain ⟨xs, ys, x, y, qx, qy, hx, hy⟩ := go
    obtain ⟨us, rv, p⟩ := seqB I qx
    obtain ⟨vs, rv2, p2⟩ := seqB I qy
    have l1 : i < us.toArray.size := by
      have a1 := (List.getElem?_eq_some_iff.mp hx).1
      have a2 := rv.length
      simp
      omega
    have l2 : i < vs.toArray.size := by
      have a1 := (List.getElem?_eq_some_iff.mp hy).1
      have a2 := rv2.length
      simp
      omega
    refine zany_next D (drawB t (A := X.A.in1) (I.ok.hd hc) i1 a n1 us.toArray) (drawB t2 (A := X.A.in1) (I.ok.hd hc) i2 b n2 vs.toArray) zz hTI hTO ⟨g1, p⟩ ⟨g2, p2⟩ l1 l2 fun u v h' tk hu hv zz' TO' s1 s2 hT hsz hk => ?_
    refine ⟨_, rfl, wpAny_pure ?_⟩
    have new : ObjOk X.prog X.w (upd H s.heap.objs.size (.tup [x, y])) h' s.heap.objs.size (.tup [x, y]) := ⟨(by decide : 2 ≤ sizeLine), [u, v], .cons (itemB rv hx hu) (.cons (itemB rv2 hy hv) .nil), ⟨_, hT, rfl, _, rfl⟩⟩
    have I1 : Inv X pins σ (upd H s.heap.objs.size (.tup [x, y])) { s with heap := h', toks := tk } :=
      I.turnedNew (t' := tk) (ch := [z, TI, TO, i1, i2]) (fun c o nc q => hk c o (fun e => nc (by simp [e])) (fun e => nc (by simp [e])) (fun e => nc (by simp [e])) (fun e => nc (by simp [e])) q) fp (Nat.le_refl _) new
    refine ⟨.ref s.heap.objs.size, _, I1, rfl, ⟨_, x, y, rfl, I.hok.fresh (Nat.le_refl _), rfl, fun l hl => by rw [injB I hl qx]; exact hx, fun l hl => by rw [injB I hl qy]; exact hy⟩, ⟨zz', hk _ _ D.TIz D.TITO m1 m2 hTI, TO', s1.1, s2.1⟩, fun c hcm => ?_⟩
    have lt : c < s.heap.objs.size := by
      have e5 : c = z ∨ c = TI ∨ c = TO ∨ c = i1 ∨ c = i2 := by simpa using hcm
      rcases e5 with q | q | q | q | q
      · obtain ⟨_, _, _, e⟩ := zz; exact q ▸ Heap.lt_size e
      · exact q ▸ Heap.lt_size hTI
      · exact q ▸ Heap.lt_size hTO
      · obtain ⟨_, e, _⟩ := g1.get; exact q ▸ Heap.lt_size e
      · obtain ⟨_, e, _⟩ := g2.get; exact q ▸ Heap.lt_size e
    rw [upd_ne (Nat.ne_of_lt lt)]; exact (fp c hcm).1
  done := by
    intro X hP hw hK hc i pins s σ H E I fp st stop
    subst hP hw hK
    obtain ⟨zz, hTI, ⟨x0, y0, hTO⟩, g1, g2⟩ := st
    obtain ⟨xs, ys, qx, qy, hend⟩ := stop
    obtain ⟨us, rv, p⟩ := seqB I qx
    obtain ⟨vs, rv2, p2⟩ := seqB I qy
    have l1 := rv.length
    have l2 := rv2.length
    have hh : X.A.in1.handled = none := I.ok.hd hc
    have fin : ∀ (h' : Heap) (tk : Nat), (∀ c o, c ≠ z → c ≠ TO → c ≠ i1 → c ≠ i2 → s.heap.get? c = some o → h'.get? c = some o) → (none : Option Value) = none ∧ Inv X pins σ H { s with heap := h', toks := tk } := fun h' tk hk =>
      ⟨rfl, I.turnedL (t' := tk) (ch := [z, TI, TO, i1, i2]) (fun c o nc q => hk c o (fun e => nc (by simp [e])) (fun e => nc (by simp [e])) (fun e => nc (by simp [e])) (fun e => nc (by simp [e])) q) fp⟩
    by_cases c1 : i < us.toArray.size
    · have c2 : vs.toArray[i]? = none := by
        have : i < xs.length := by rw [l1]; simpa using c1
        simp; omega
      exact zany_stop D (drawB t (A := X.A.in1) hh i1 a n1 us.toArray) (drawEnd t2 (A := X.A.in1) hh i2 b n2 vs.toArray i c2) zz hTI hTO ⟨g1, p⟩ ⟨rfl, g2, p2⟩ (by omega) (Nat.le_refl _) (.inr rfl) fin
    · have c1' : us.toArray[i]? = none := by simpa using c1
      by_cases c2 : i < vs.toArray.size
      · exact zany_stop D (drawEnd t (A := X.A.in1) hh i1 a n1 us.toArray i c1') (drawB t2 (A := X.A.in1) hh i2 b n2 vs.toArray) zz hTI hTO ⟨rfl, g1, p⟩ ⟨g2, p2⟩ (Nat.le_refl _) (by omega) (.inl rfl) fin
      · have c2' : vs.toArray[i]? = none := by simpa using c2
        exact zany_stop D (drawEnd t (A := X.A.in1) hh i1 a n1 us.toArray i c1') (drawEnd t2 (A := X.A.in1) hh i2 b n2 vs.toArray i c2') zz hTI hTO ⟨rfl, g1, p⟩ ⟨rfl, g2, p2⟩ (Nat.le_refl _) (Nat.le_refl _) (.inl rfl) fin
  self := fun A i s Q E st h => let ⟨⟨_, _, _, e⟩, _⟩ := st; zany_iter e h
theorem pi_zipN {X : Cx} {e e2 : Expr} {ta : TA} {p pos tpos : Pos} {nm : String} (hg : Gl X "zip") (hm : X.mg "zip" = none) (ha : PA X [e, e2] ta)
    (hs : starEach [e, e2] X.env = (false, eval e X.env) :: starEach [e2] X.env) (hpl : (backTo pos (starEach [e2] X.env)).any (·.1) = false) : PI X (.Name nm tpos) (.Call (.Name "zip" p) [e, e2] [] pos) (iZipB X.K ta) := by
  refine ⟨fun pins s σ H R I h => Call_ (ld_blt I hg hm PyProof.Rows.boot_zip (PyProof.Rows.callWith_type1 (thn (ha.run pos pins s σ H _ I h) fun us s1 ⟨vs, H1, I1, r1, q1⟩ => ?_) hs hpl))⟩
  obtain ⟨a, b, t, t2, xs, ys, rfl, qx, qy, q⟩ := q1
  obtain ⟨u, v, rfl, ru, rv⟩ : ∃ u v, us = [u, v] ∧ RelV (.ref a) u ∧ RelV (.ref b) v := by
    cases r1 with
    | cons r rr =>
      cases rr with
      | cons r' rr =>
        cases rr
        exact ⟨_, _, rfl, r, r'⟩
  cases ru
  cases rv
  obtain ⟨us, _, p1⟩ := seqB I1 qx
  obtain ⟨vs, _, p2⟩ := seqB I1 qy
  have la : a < s1.heap.objs.size := let ⟨_, e⟩ := p1.get; Heap.lt_size e
  have lb : b < s1.heap.objs.size := let ⟨_, e⟩ := p2.get; Heap.lt_size e
  refine zip_begins2 (beginsB t a us.toArray) (beginsB t2 b vs.toArray) p1 p2 fun h' hz hTI hTO g1 g2 hsz hk => wpAny_pyIter_zip hz ?_
  have I2 : Inv X pins σ H1 { s1 with heap := h' } := I1.kept (t' := s1.toks) hk
  have S := zip_sep2 (N := s1.heap.objs.size) (fp1 := [a]) (fp2 := [b]) (by simpa using la) (by simpa using lb)
  refine ⟨s1.heap.objs.size + 4, [s1.heap.objs.size + 4, s1.heap.objs.size + 2, s1.heap.objs.size + 3, s1.heap.objs.size, s1.heap.objs.size + 1], _, _, H1, rfl, I2, turn_zipN (t := t) (t2 := t2) S (Nat.ne_of_lt la) (Nat.ne_of_lt (Nat.lt_succ_of_lt lb)) S.TIi1 S.TIi2, ⟨⟨_, _, .inl rfl, hz⟩, hTI, ⟨_, _, hTO⟩, ?_, ?_⟩, fun c hcm => ?_, q⟩
  · cases t <;> exact ⟨_, g1, rfl, rfl⟩
  · cases t2 <;> exact ⟨_, g2, rfl, rfl⟩
  · have e5 : c = s1.heap.objs.size + 4 ∨ c = s1.heap.objs.size + 2 ∨ c = s1.heap.objs.size + 3 ∨ c = s1.heap.objs.size ∨ c = s1.heap.objs.size + 1 := by simpa using hcm
    have le : s1.heap.objs.size ≤ c := by rcases e5 with q | q | q | q | q <;> rw [q] <;> first | exact Nat.le_add_right _ _ | exact Nat.le_refl _
    exact I1.fpOk le (I1.hok.fresh le)
section
variable {X : Cx} {e e2 : Expr} {nm : String} {r : Da} {p pos tpos : Pos}
theorem i_znS (hg : Gl X "zip") (hm : X.mg "zip" = none) (ha : PA X [e, e2] (tA r)) (h1 : starEach [e, e2] X.env = (false, eval e X.env) :: starEach [e2] X.env) (hpl : (backTo pos (starEach [e2] X.env)).any (·.1) = false) : PI X (.Name nm tpos) (.Call (.Name "zip" p) [e, e2] [] pos) (tI false (dZp r)) := by
  refine PI.weak (pi_zipN hg hm ha h1 hpl) fun σ H Rr ⟨aw, B, ρ, w, xs, w', rr, q, k⟩ => ?_
  obtain ⟨u, v, ys, zs, e1, e2, e3, rfl⟩ := zp_open q
  refine ⟨aw, B, ρ, w, _, _, rr, e1, fun vs H1 s rl => ?_⟩
  obtain ⟨x, r', rfl, q1, rl⟩ := rl.cons_inv
  obtain ⟨y, r', rfl, q2, rl⟩ := rl.cons_inv
  cases rl.nil_inv
  obtain ⟨t, a, vs, rfl, na, ha, r1⟩ := rp_items q1 e2
  obtain ⟨t2, b, ws, rfl, nb, hb, r2⟩ := rp_items q2 e3
  exact ⟨a, b, t, t2, vs, ws, rfl, ha.sq, hb.sq, k _ H1 s (walk_zipB (fun a z => by simpa [Zb] using z) (by simpa [Zb] using na) (by simpa [Zb] using nb) ha hb r1 r2)⟩
theorem i_znQ (hg : Gl X "zip") (hm : X.mg "zip" = none) (ha : PA X [e, e2] (tAQ r)) (h1 : starEach [e, e2] X.env = (false, eval e X.env) :: starEach [e2] X.env) (hpl : (backTo pos (starEach [e2] X.env)).any (·.1) = false) : PI X (.Name nm tpos) (.Call (.Name "zip" p) [e, e2] [] pos) (tI true (dZp r)) := by
  refine PI.weak (pi_zipN hg hm ha h1 hpl) fun σ H Rr ⟨aw, B, ρ, w, xs, w', rr, q, k⟩ => ?_
  have hz : ∀ a, aw = some a → B a := fun a z => (rr.wl a z).1
  obtain ⟨u, v, ys, zs, e1, e2, e3, rfl⟩ := zp_open q
  refine ⟨aw, B, ρ, w, _, _, rr, e1, fun vs H1 s rl => ?_⟩
  obtain ⟨x, y, rfl, q1, q2⟩ := rl.inv2
  obtain ⟨t, a, vs, rfl, na, ha, r1⟩ := rq_items (rr.step s).toOk q1 e2
  obtain ⟨t2, b, ws, rfl, nb, hb, r2⟩ := rq_items (rr.step s).toOk q2 e3
  exact ⟨a, b, t, t2, vs, ws, rfl, ha.sq, hb.sq, k _ H1 s (walk_zipB (fun a z => hz a (by simpa [Zb] using z)) (by simpa [Zb] using na) (by simpa [Zb] using nb) ha hb r1 r2)⟩
end
end Mi
/-! ### itertools.combinations of two -/
namespace Mi
open PySem PySem.Spec PyProof.Rows L2
open Sem (wp)
theorem co_mro : mroOf (.type "itertools.combinations") = pure [.type "itertools.combinations", .type "object"] := by rw [mroOf_type]; kernel_rfl
theorem co_new : typeLookup (.type "itertools.combinations") "__new__" = pure (some (.builtin "itertools.combinations.__new__")) := by rw [typeLookup_type, builtinLookup_eq_fast]; kernel_rfl
theorem co_sub : isSubtype (.type "itertools.combinations") (.type "itertools.combinations") = pure true := by rw [isSubtype_type]; kernel_rfl
theorem co_init : Slot "itertools.combinations" "__init__" "object.__init__" :=
  .of (owner := "object") (n := "__init__") (by rw [typeLookup_type, builtinLookup_eq_fast]; kernel_rfl) (by decide +kernel) (by decide +kernel) (by decide +kernel) (by first | exact .inl (by decide +kernel) | exact .inr (by decide +kernel)) (by rw [isSubtype_type]; kernel_rfl)
theorem co_called : TypeCalled "itertools.combinations" "itertools.combinations.__new__" "object.__init__" :=
  ⟨by decide +kernel, by decide +kernel, ⟨_, _, co_mro⟩, madeBy_type co_mro co_new (by decide +kernel), by decide +kernel, co_sub, co_init⟩
theorem co_call2 (a b : Value) : checkTypeCall "itertools.combinations" ⟨[a, b], []⟩ = pure () := by kernel_rfl
theorem co_newCall2 (a b : Value) : checkBuiltinCall "itertools.combinations.__new__" ⟨[.type "itertools.combinations", a, b], []⟩ = pure () := by kernel_rfl
theorem co_entryNew : entryFor table "itertools.combinations.__new__" = some Builtin.«itertools.combinations.__new__» := entryFor_of_tree (by kernel_rfl)
theorem co_iter : Slot "itertools.combinations" "__iter__" "itertools.combinations.__iter__" :=
  .of (owner := "itertools.combinations") (n := "__iter__") (by rw [typeLookup_type, builtinLookup_eq_fast]; kernel_rfl) (by decide +kernel) (by decide +kernel) (by decide +kernel) (by first | exact .inl (by decide +kernel) | exact .inr (by decide +kernel)) co_sub
theorem co_next : Slot "itertools.combinations" "__next__" "itertools.combinations.__next__" :=
  .of (owner := "itertools.combinations") (n := "__next__") (by rw [typeLookup_type, builtinLookup_eq_fast]; kernel_rfl) (by decide +kernel) (by decide +kernel) (by decide +kernel) (by first | exact .inl (by decide +kernel) | exact .inr (by decide +kernel)) co_sub
theorem co_entryIter : entryFor table "itertools.combinations.__iter__" = some Builtin.«dict_keyiterator.__iter__» :=
  entryFor_alias (id' := "dict_keyiterator.__iter__") (by kernel_rfl) (by first | rfl | decide +kernel | (unfold String.splitOn; simp +decide [String.splitOnAux])) (by decide +kernel) (by kernel_rfl)
theorem co_entryNext : entryFor table "itertools.combinations.__next__" = some Builtin.«itertools.combinations.__next__» := entryFor_of_tree (by kernel_rfl)
abbrev coL : List Char := ['s', 'n', 'o', 'i', 't', 'a', 'n', 'i', 'b', 'm', 'o', 'c', '.', 's', 'l', 'o', 'o', 't', 'r', 'e', 't', 'i']
theorem co_owner : Manifest.owners.lookup (String.ofList coL.reverse) = some Manifest.sig_itertools_combinations := by kernel_rfl
theorem co_argsIter (a : Value) : argsOk "itertools.combinations.__iter__" ⟨[a], []⟩ := by
  unfold argsOk; rw [signature?_of (id := "itertools.combinations.__iter__") (n := ['_', '_', 'r', 'e', 't', 'i', '_', '_']) (o := coL) (by kernel_rfl) co_owner]; kernel_rfl
theorem co_argsNext (a : Value) : argsOk "itertools.combinations.__next__" ⟨[a], []⟩ := by
  unfold argsOk; rw [signature?_of (id := "itertools.combinations.__next__") (n := ['_', '_', 't', 'x', 'e', 'n', '_', '_']) (o := coL) (by kernel_rfl) co_owner]; kernel_rfl
theorem co_noDict : typeHasDict (.type "itertools.combinations") = false := by decide +kernel
/-- where combinations of two stand: the pool, how far (0 fresh, 1 under way, 2 ended), the last pair, the places -/
abbrev CoRec (h : Heap) (z pool : Addr) (st : Int) (last : Value) (i j : Nat) : Prop := h.get? z = some { cls := .type "itertools.combinations", dict := none, data := .fields #[.ref pool, .int st 0, last, .int (i : Nat) 0, .int (j : Nat) 0], slots := #[] }
section
variable {prog : Program} {w : World} {A : Around} {E : Value → Shared → Prop} {s : Shared} {z pool : Addr} {items : Array Value} {last : Value}
theorem co_hand {o : Obj} {i j : Nat} {Q : Value → Shared → Prop} (hz : CoRec s.heap z pool 1 last i j) (hp : s.heap.get? pool = some o) (hd : o.data = .seq items)
    (hQ : ∀ h', CoRec h' z pool 1 (.ref s.heap.objs.size) i j → IsTupOf2 h' s.heap.objs.size (items.getD i .none) (items.getD j .none) → h'.objs.size = s.heap.objs.size + 1 → (∀ c o, c ≠ z → s.heap.get? c = some o → h'.get? c = some o) → Q (.ref s.heap.objs.size) { s with heap := h' }) :
    wpAny (model prog w) A ((Builtin.Itertools.itPoolItems (.ref pool) >>= fun xs => newTuple ([i, j].map fun i => xs.getD i .none)) >>= fun r => field (.ref z) 2 >>= fun b => setField (.ref z) 2 r >>= fun _ => letGo [b] [r] >>= fun _ => ret r) (fun fin s' => ∃ v, fin = .done (.ret v) ∧ Q v s') E s := by
  obtain ⟨h0, gl, dr, t0, os⟩ := s
  refine (show wpAny _ _ (((seqItems? (.ref pool) >>= _) >>= _) >>= _) _ _ _ from wpAny_bind (wpAny_bind (wpAny_bind (wpAny_seqItems hp hd (wpAny_pure ?_)))))
  refine (show wpAny _ _ (newTuple [items.getD i .none, items.getD j .none]) _ _ _ from wpAny_newTuple ?_)
  have zl : z ≠ h0.objs.size := Nat.ne_of_lt (Heap.lt_size hz)
  have z1 : CoRec (h0.push { cls := .type "tuple", data := .seq #[items.getD i .none, items.getD j .none] }) z pool 1 last i j := Heap.get?_push_of_some _ hz
  refine (show wpAny _ _ (field (.ref z) 2 >>= _) _ _ ⟨h0.push { cls := .type "tuple", data := .seq #[items.getD i .none, items.getD j .none] }, gl, dr, t0, os⟩ from wpAny_bind (wpAny_field z1 rfl (x := last) rfl ?_))
  refine wpAny_bind (wpAny_setField_rec z1 (by simp) fun hb zb sb => wpAny_bind (wpAny_letGo (wpAny_pure ⟨_, rfl, ?_⟩)))
  replace sb : Heap.SameBut z (h0.push { cls := .type "tuple", data := .seq #[items.getD i .none, items.getD j .none] }) hb := sb
  exact hQ hb zb (sb.extBut _ _ zl.symm (Heap.get?_push_size _ rfl)) (by rw [sb.1, Heap.size_push]) fun c o q e => sb.extBut _ _ q (Heap.get?_push_of_some _ e)
theorem co_fresh {o : Obj} {Q : Value → Shared → Prop} (hz : CoRec s.heap z pool 0 .none 0 1) (hp : s.heap.get? pool = some o) (hd : o.data = .seq items)
    (hQ : ∀ h', CoRec h' z pool 1 (.ref s.heap.objs.size) 0 1 → IsTupOf2 h' s.heap.objs.size (items.getD 0 .none) (items.getD 1 .none) → h'.objs.size = s.heap.objs.size + 1 → (∀ c o, c ≠ z → s.heap.get? c = some o → h'.get? c = some o) → Q (.ref s.heap.objs.size) { s with heap := h' }) :
    wpAny (model prog w) A (Builtin.«itertools.combinations.__next__» ⟨[.ref z], []⟩) (fun fin s' => ∃ v, fin = .done (.ret v) ∧ Q v s') E s := by
  obtain ⟨h0, gl, dr, t0, os⟩ := s
  refine (show wpAny _ _ (field (.ref z) 0 >>= _) _ _ _ from wpAny_bind (wpAny_field hz rfl (x := .ref pool) rfl ?_))
  refine (show wpAny _ _ ((load z >>= _) >>= _) _ _ _ from wpAny_bind (wpAny_bind (wpAny_load hz ?_)))
  refine wpAny_pure ?_
  refine (show wpAny _ _ ((field (.ref z) 1 >>= _) >>= _) _ _ _ from wpAny_bind (wpAny_bind (wpAny_field hz rfl (x := .int 0 0) rfl (wpAny_pure ?_))))
  refine (show wpAny _ _ (setField (.ref z) 1 (rawInt 1) >>= _) _ _ _ from wpAny_bind (wpAny_setField_rec hz (by simp) fun ha za sa => ?_))
  replace za : CoRec ha z pool 1 .none 0 1 := za
  replace sa : Heap.SameBut z h0 ha := sa
  have pz : pool ≠ z := fun e => by
    rw [e] at hp
    rw [show h0.get? z = _ from hz] at hp
    cases hp
    cases hd
  refine co_hand (s := ⟨ha, gl, dr, t0, os⟩) (i := 0) (j := 1) za (sa.extBut _ _ pz hp) hd fun hb zb tb nb kb => ?_
  have n0 : ha.objs.size = h0.objs.size := sa.1
  replace tb : IsTupOf2 hb ha.objs.size (items.getD 0 .none) (items.getD 1 .none) := tb
  replace nb : hb.objs.size = ha.objs.size + 1 := nb
  replace zb : CoRec hb z pool 1 (.ref ha.objs.size) 0 1 := zb
  rw [n0] at tb nb zb
  refine (show Q (.ref ha.objs.size) ⟨hb, gl, dr, t0, os⟩ from ?_)
  rw [n0]
  exact hQ hb zb tb nb fun c o q e => kb c o q (sa.extBut _ _ q e)
/-- the places behind i, j of n -/
def coNext (n i j : Nat) : Option (Nat × Nat) := if j + 1 < n then some (i, j + 1) else if i + 2 < n then some (i + 1, i + 2) else none
theorem co_pure {n i j : Nat} (hij : i < j) (hj : j < n) : (match ([1, 0] : List Nat).find? (fun k => ([i, j] : List Nat).getD k 0 != k + n - 2) with
    | none => none
    | some k => some (([i, j] : List Nat).take k ++ (List.range (2 - k)).map (([i, j] : List Nat).getD k 0 + 1 + ·))) = (coNext n i j).map fun p => [p.1, p.2] := by
  unfold coNext
  by_cases h1 : j + 1 < n
  · have e : (j != 1 + n - 2) = true := by simp; omega
    rw [if_pos h1]
    simp [e]
  · have e : (j != 1 + n - 2) = false := by simp; omega
    rw [if_neg h1]
    by_cases h2 : i + 2 < n
    · have e2 : (i != 0 + n - 2) = true := by simp; omega
      rw [if_pos h2]
      simp [e]
      rw [if_neg (by omega)]
      rfl
    · have e2 : (i != 0 + n - 2) = false := by simp; omega
      rw [if_neg h2]
      simp [e]
      rw [if_pos (by omega)]
theorem co_go {o : Obj} {i j i' j' : Nat} {Q : Value → Shared → Prop} (hij : i < j) (hj : j < items.size) (hn : coNext items.size i j = some (i', j')) (hz : CoRec s.heap z pool 1 last i j) (hp : s.heap.get? pool = some o) (hd : o.data = .seq items)
    (hQ : ∀ h', CoRec h' z pool 1 (.ref s.heap.objs.size) i' j' → IsTupOf2 h' s.heap.objs.size (items.getD i' .none) (items.getD j' .none) → h'.objs.size = s.heap.objs.size + 1 → (∀ c o, c ≠ z → s.heap.get? c = some o → h'.get? c = some o) → Q (.ref s.heap.objs.size) { s with heap := h' }) :
    wpAny (model prog w) A (Builtin.«itertools.combinations.__next__» ⟨[.ref z], []⟩) (fun fin s' => ∃ v, fin = .done (.ret v) ∧ Q v s') E s := by
  obtain ⟨h0, gl, dr, t0, os⟩ := s
  have pz : pool ≠ z := fun e => by
    rw [e] at hp
    rw [show h0.get? z = _ from hz] at hp
    cases hp
    cases hd
  refine (show wpAny _ _ (field (.ref z) 0 >>= _) _ _ _ from wpAny_bind (wpAny_field hz rfl (x := .ref pool) rfl ?_))
  refine (show wpAny _ _ ((load z >>= _) >>= _) _ _ _ from wpAny_bind (wpAny_bind (wpAny_load hz (wpAny_pure ?_))))
  refine (show wpAny _ _ ((field (.ref z) 1 >>= _) >>= _) _ _ _ from wpAny_bind (wpAny_bind (wpAny_field hz rfl (x := .int 1 0) rfl (wpAny_pure ?_))))
  refine (show wpAny _ _ ((seqItems? (.ref pool) >>= _) >>= _) _ _ _ from wpAny_bind (wpAny_bind (wpAny_seqItems hp hd (wpAny_pure ?_))))
  split
  · rename_i l hl
    have hl2 := (co_pure hij hj).symm.trans hl
    rw [hn] at hl2
    have el : [i', j'] = l := Option.some.inj hl2
    subst el
    refine (show wpAny _ _ (updateFields z _ >>= _) _ _ _ from wpAny_bind (wpAny_updateFields hz rfl ?_ (by simp; decide)))
    have z1 : CoRec (h0.update z (Obj.mapFields fun fs => fs.extract 0 3 ++ ([i', j'].map fun (n : Nat) => rawInt n).toArray)) z pool 1 last i' j' := Heap.get?_update_self _ hz rfl
    have sa : Heap.SameBut z h0 (h0.update z (Obj.mapFields fun fs => fs.extract 0 3 ++ ([i', j'].map fun (n : Nat) => rawInt n).toArray)) := Heap.SameBut.update ..
    generalize h0.update z (Obj.mapFields fun fs => fs.extract 0 3 ++ ([i', j'].map fun (n : Nat) => rawInt n).toArray) = ha at z1 sa ⊢
    refine co_hand (s := ⟨ha, gl, dr, t0, os⟩) z1 (sa.extBut _ _ pz hp) hd fun hb zb tb nb kb => ?_
    have n0 : ha.objs.size = h0.objs.size := sa.1
    replace tb : IsTupOf2 hb ha.objs.size (items.getD i' .none) (items.getD j' .none) := tb
    replace nb : hb.objs.size = ha.objs.size + 1 := nb
    replace zb : CoRec hb z pool 1 (.ref ha.objs.size) i' j' := zb
    rw [n0] at tb nb zb
    refine (show Q (.ref ha.objs.size) ⟨hb, gl, dr, t0, os⟩ from ?_)
    rw [n0]
    exact hQ hb zb tb nb fun c o q e => kb c o q (sa.extBut _ _ q e)
  · rename_i hl
    have hl2 := (co_pure hij hj).symm.trans hl
    rw [hn] at hl2
    cases hl2
theorem co_stop {α : Type} {Q : α → Shared → Prop} (hh : A.handled = none) (hE : ∀ h' e, (∀ c o, s.heap.get? c = some o → h'.get? c = some o) → (∃ o, h'.get? e = some o ∧ o.cls = .type "StopIteration") → E (.ref e) { s with heap := h' }) :
    wpAny (model prog w) A (Builtin.Itertools.itStop : Sem α) Q E s := by
  refine (show wpAny _ _ (newExc (.type "StopIteration") [] >>= _) _ _ _ from wpAny_bind ?_)
  simp only [newExc, newTuple]
  refine wpAny_bind (wpAny_newObj_type (wpAny_bind (m := firstArgMember _ _) (wpAny_of_eq (a := Value.none) (by first | rfl | (simp only [firstArgMember]; rfl)) (wpAny_newObj_type ?_ (by size_fits)))) (by size_fits))
  simp only [raiseNew]
  refine wpAny_bind (wpAny_handled ?_)
  rw [hh]
  exact wpAny_bind (wpAny_pure (wpAny_throw (hE _ _ (fun c o e => Heap.get?_push_of_some _ (Heap.get?_push_of_some _ e)) ⟨_, Heap.get?_push_size _ rfl, rfl⟩)))
theorem co_end {o : Obj} {i j : Nat} {Q : Fin → Shared → Prop} (hh : A.handled = none) (hij : i < j) (hj : j < items.size) (hn : coNext items.size i j = none) (hz : CoRec s.heap z pool 1 last i j) (hp : s.heap.get? pool = some o) (hd : o.data = .seq items)
    (hE : ∀ h' e, (∀ c o, c ≠ z → s.heap.get? c = some o → h'.get? c = some o) → (∃ o, h'.get? e = some o ∧ o.cls = .type "StopIteration") → E (.ref e) { s with heap := h' }) :
    wpAny (model prog w) A (Builtin.«itertools.combinations.__next__» ⟨[.ref z], []⟩) Q E s := by
  obtain ⟨h0, gl, dr, t0, os⟩ := s
  refine (show wpAny _ _ (field (.ref z) 0 >>= _) _ _ _ from wpAny_bind (wpAny_field hz rfl (x := .ref pool) rfl ?_))
  refine (show wpAny _ _ ((load z >>= _) >>= _) _ _ _ from wpAny_bind (wpAny_bind (wpAny_load hz (wpAny_pure ?_))))
  refine (show wpAny _ _ ((field (.ref z) 1 >>= _) >>= _) _ _ _ from wpAny_bind (wpAny_bind (wpAny_field hz rfl (x := .int 1 0) rfl (wpAny_pure ?_))))
  refine (show wpAny _ _ ((seqItems? (.ref pool) >>= _) >>= _) _ _ _ from wpAny_bind (wpAny_bind (wpAny_seqItems hp hd (wpAny_pure ?_))))
  split
  · rename_i l hl
    have hl2 := (co_pure hij hj).symm.trans hl
    rw [hn] at hl2
    cases hl2
  · refine wpAny_bind (wpAny_setField_rec hz (by simp) fun ha za sa => ?_)
    replace sa : Heap.SameBut z h0 ha := sa
    exact co_stop (s := ⟨ha, gl, dr, t0, os⟩) hh fun h' e k x => hE h' e (fun c o q y => k c o (sa.extBut _ _ q y)) x
theorem co_none {i j : Nat} {Q : Fin → Shared → Prop} (hh : A.handled = none) (hz : CoRec s.heap z pool 2 last i j)
    (hE : ∀ h' e, (∀ c o, c ≠ z → s.heap.get? c = some o → h'.get? c = some o) → (∃ o, h'.get? e = some o ∧ o.cls = .type "StopIteration") → E (.ref e) { s with heap := h' }) :
    wpAny (model prog w) A (Builtin.«itertools.combinations.__next__» ⟨[.ref z], []⟩) Q E s := by
  obtain ⟨h0, gl, dr, t0, os⟩ := s
  refine (show wpAny _ _ (field (.ref z) 0 >>= _) _ _ _ from wpAny_bind (wpAny_field hz rfl (x := .ref pool) rfl ?_))
  refine (show wpAny _ _ ((load z >>= _) >>= _) _ _ _ from wpAny_bind (wpAny_bind (wpAny_load hz (wpAny_pure ?_))))
  refine (show wpAny _ _ ((field (.ref z) 1 >>= _) >>= _) _ _ _ from wpAny_bind (wpAny_bind (wpAny_field hz rfl (x := .int 2 0) rfl (wpAny_pure ?_))))
  exact wpAny_bind (wpAny_rule (co_stop (s := ⟨h0, gl, dr, t0, os⟩) hh fun h' e k x => hE h' e (fun c o _ y => k c o y) x))
end
end Mi
namespace Mi
open PySem PySem.Spec PyProof.Rows L2
open Sem (wp)
/-- the i-th two of n places -/
def coAt (n : Nat) : Nat → Option (Nat × Nat)
  | 0 => if 2 ≤ n then some (0, 1) else none
  | i + 1 => (coAt n i).bind fun p => coNext n p.1 p.2
theorem coNext_ok {n i j : Nat} {p : Nat × Nat} (hij : i < j) (hj : j < n) (h : coNext n i j = some p) : p.1 < p.2 ∧ p.2 < n := by
  unfold coNext at h
  by_cases h1 : j + 1 < n
  · rw [if_pos h1] at h
    cases h
    exact ⟨by show i < j + 1; omega, h1⟩
  · rw [if_neg h1] at h
    by_cases h2 : i + 2 < n
    · rw [if_pos h2] at h
      cases h
      exact ⟨by show i + 1 < i + 2; omega, h2⟩
    · rw [if_neg h2] at h
      cases h
theorem coAt_ok {n : Nat} : ∀ {i : Nat} {p : Nat × Nat}, coAt n i = some p → p.1 < p.2 ∧ p.2 < n
  | 0, p, h => by
    unfold coAt at h
    by_cases c : 2 ≤ n
    · rw [if_pos c] at h
      cases h
      exact ⟨by decide, by show 1 < n; omega⟩
    · rw [if_neg c] at h
      cases h
  | i + 1, p, h => by
    unfold coAt at h
    obtain ⟨q, e1, e2⟩ := Option.bind_eq_some_iff.mp h
    have := coAt_ok e1
    exact coNext_ok this.1 this.2 e2
/-- where they stand ahead of turn i -/
def CoSt (h : Heap) (z pool : Addr) (n i : Nat) : Prop := (i = 0 ∧ CoRec h z pool (if 2 ≤ n then 0 else 2) .none 0 1) ∨ ∃ k p last, i = k + 1 ∧ coAt n k = some p ∧ CoRec h z pool 1 last p.1 p.2
theorem CoSt.mv {h h' : Heap} {z pool : Addr} {n i : Nat} (x : CoSt h z pool n i) (k : ∀ o, h.get? z = some o → h'.get? z = some o) : CoSt h' z pool n i := x.elim (fun ⟨a, b⟩ => .inl ⟨a, k _ b⟩) fun ⟨m, p, last, a, b, c⟩ => .inr ⟨m, p, last, a, b, k _ c⟩
theorem CoSt.ob {h : Heap} {z pool : Addr} {n i : Nat} (x : CoSt h z pool n i) : ∃ st last a b, CoRec h z pool st last a b := x.elim (fun ⟨_, b⟩ => ⟨_, _, _, _, b⟩) fun ⟨_, _, _, _, _, c⟩ => ⟨_, _, _, _, c⟩
section
variable {prog : Program} {w : World} {A : Around} {E : Value → Shared → Prop} {s : Shared} {z pool : Addr} {items : Array Value}
theorem co_item {o : Obj} {i : Nat} {p : Nat × Nat} {Q : Option Value → Shared → Prop} (hi : coAt items.size i = some p) (hz : CoSt s.heap z pool items.size i) (hp : s.heap.get? pool = some o) (hd : o.data = .seq items)
    (hQ : ∀ h', CoSt h' z pool items.size (i + 1) → IsTupOf2 h' s.heap.objs.size (items.getD p.1 .none) (items.getD p.2 .none) → h'.objs.size = s.heap.objs.size + 1 → (∀ c o, c ≠ z → s.heap.get? c = some o → h'.get? c = some o) → Q (some (.ref s.heap.objs.size)) { s with heap := h' }) :
    wpAny (model prog w) A (pyNext (.ref z)) Q E s := by
  obtain ⟨st, la, a, b, hr⟩ := hz.ob
  have ty : s.TypeIs (.ref z) "itertools.combinations" := ⟨_, hr, rfl⟩
  unfold pyNext
  refine wpAny_bind (wpAny_attempt (wpAny_callSpecial?_slot (name := Str.ofString "__next__") ty co_next (wpAny_call_entry co_next ty co_entryNext ?_ (co_argsNext _))))
  rcases hz with ⟨rfl, h0⟩ | ⟨k, q, last, rfl, e, h0⟩
  · have c : 2 ≤ items.size := by
      unfold coAt at hi
      by_cases c : 2 ≤ items.size
      · exact c
      · rw [if_neg c] at hi; cases hi
    have ep : p = (0, 1) := by
      unfold coAt at hi
      rw [if_pos c] at hi
      exact (Option.some.inj hi).symm
    subst ep
    rw [if_pos c] at h0
    exact co_fresh h0 hp hd fun h' z' t' n' k' => wpAny_pure (hQ h' (.inr ⟨0, (0, 1), _, rfl, hi, z'⟩) t' n' k')
  · have hq := coAt_ok e
    have e2 : coNext items.size q.1 q.2 = some (p.1, p.2) := by
      unfold coAt at hi
      rw [e] at hi
      exact hi
    exact co_go hq.1 hq.2 e2 h0 hp hd fun h' z' t' n' k' => wpAny_pure (hQ h' (.inr ⟨k + 1, p, _, rfl, hi, z'⟩) t' n' k')
theorem co_done {o : Obj} {i : Nat} {Q : Option Value → Shared → Prop} (hh : A.in1.handled = none) (hi : coAt items.size i = none) (hz : CoSt s.heap z pool items.size i) (hp : s.heap.get? pool = some o) (hd : o.data = .seq items)
    (hQ : ∀ h', (∀ c o, c ≠ z → s.heap.get? c = some o → h'.get? c = some o) → Q none { s with heap := h' }) : wpAny (model prog w) A (pyNext (.ref z)) Q E s := by
  obtain ⟨st, la, a, b, hr⟩ := hz.ob
  have ty : s.TypeIs (.ref z) "itertools.combinations" := ⟨_, hr, rfl⟩
  unfold pyNext
  refine wpAny_bind (wpAny_attempt (wpAny_callSpecial?_slot (name := Str.ofString "__next__") ty co_next (wpAny_call_entry co_next ty co_entryNext ?_ (co_argsNext _))))
  rcases hz with ⟨rfl, h0⟩ | ⟨k, q, last, rfl, e, h0⟩
  · have c : ¬ 2 ≤ items.size := fun c => by
      unfold coAt at hi
      rw [if_pos c] at hi
      cases hi
    rw [if_neg c] at h0
    exact co_none hh h0 (fun h' e k ⟨o, g, c⟩ => wpAny_bind (wpAny_isInstance (T := "StopIteration") (b := true) ⟨o, g, c⟩ isSubtype_stop (wpAny_pure (hQ _ k))))
  · have hq := coAt_ok e
    have e2 : coNext items.size q.1 q.2 = none := by
      unfold coAt at hi
      rw [e] at hi
      exact hi
    exact co_end hh hq.1 hq.2 e2 h0 hp hd (fun h' e k ⟨o, g, c⟩ => wpAny_bind (wpAny_isInstance (T := "StopIteration") (b := true) ⟨o, g, c⟩ isSubtype_stop (wpAny_pure (hQ _ k))))
theorem co_self {st : Int} {last : Value} {i j : Nat} {Q : Value → Shared → Prop} (hz : CoRec s.heap z pool st last i j) (h : Q (.ref z) s) : wpAny (model prog w) A (pyIter (.ref z)) Q E s := by
  have ty : s.TypeIs (.ref z) "itertools.combinations" := ⟨_, hz, rfl⟩
  exact wpAny_pyIter_slot ty co_iter (wpAny_call_entry co_iter ty co_entryIter (show wpAny _ _ (ret (.ref z)) _ _ s from wpAny_pure ⟨_, rfl, "itertools.combinations", _, ty, co_next.lookup, h⟩) (co_argsIter _))
end
end Mi
namespace Mi
open PySem PySem.Spec PyProof.Rows L2
def ItCo (xs : List V) : It := ⟨fun i _ => ∃ p, coAt xs.length i = some p, fun i H v H' => ∃ T x y p, coAt xs.length i = some p ∧ v = .ref T ∧ H T = none ∧ H' = upd H T (.tup [x, y]) ∧ xs[p.1]? = some x ∧ xs[p.2]? = some y, fun i _ => coAt xs.length i = none⟩
theorem co_get {xs : List V} {its : List Value} {i : Nat} (rv : Vals xs its) (hi : i < xs.length) : RelV xs[i] (its.toArray.getD i .none) := by
  obtain ⟨u, hu, ru⟩ := rv.get (i := i) (x := xs[i]) (by simp [hi])
  have : its.toArray.getD i .none = u := by
    rw [Array.getD_eq_getD_getElem?]
    simp [hu]
  rw [this]
  exact ru
theorem turn_co {P : Program} {w : World} {K : PySem.W.Frag} {tg : Expr} {xs : List V} {its : List Value} {z pool : Addr} (rv : Vals xs its) (ne : pool ≠ z) :
    Turn P w K tg (ItCo xs) [z, pool] z (fun i h => CoSt h z pool its.toArray.size i ∧ h.get? pool = some { cls := .type "tuple", data := .seq its.toArray }) where
  mem := List.mem_cons_self ..
  obj := fun i h st c hc => by
    obtain ⟨zz, hp⟩ := st
    obtain ⟨_, _, _, _, hz⟩ := zz.ob
    have e2 : c = z ∨ c = pool := by simpa using hc
    rcases e2 with q | q
    · exact q ▸ ⟨_, hz, fun v q => nomatch q⟩
    · exact q ▸ ⟨_, hp, fun v q => nomatch q⟩
  keep := fun i h h' st k => ⟨st.1.mv fun o e => k z (by simp) o e, k pool (by simp) _ st.2⟩
  item := by
    intro X hP hw hK hc i pins s σ H E I fp st go
    subst hP hw hK
    obtain ⟨zz, hp⟩ := st
    obtain ⟨p, hi⟩ := go
    have hl : xs.length = its.toArray.size := by rw [rv.length]; simp
    have pk := coAt_ok hi
    obtain ⟨_, _, _, _, hz⟩ := zz.ob
    refine co_item (by rw [← hl]; exact hi) zz hp rfl fun h' z' t' n' k' => ?_
    obtain ⟨_, _, _, _, hz2⟩ := z'.ob
    refine ⟨_, rfl, go_of (s := { s with heap := h' }) (n := "itertools.combinations") hz2 rfl rfl (by decide) ?_⟩
    have l2 : p.2 < xs.length := pk.2
    have l1 : p.1 < xs.length := Nat.lt_trans pk.1 l2
    have new : ObjOk X.prog X.w (upd H s.heap.objs.size (.tup [xs[p.1], xs[p.2]])) h' s.heap.objs.size (.tup [xs[p.1], xs[p.2]]) := ⟨(by decide : 2 ≤ sizeLine), [its.toArray.getD p.1 .none, its.toArray.getD p.2 .none], .cons (co_get rv l1) (.cons (co_get rv l2) .nil), ⟨_, t', rfl, _, rfl⟩⟩
    have I1 : Inv X pins σ (upd H s.heap.objs.size (.tup [xs[p.1], xs[p.2]])) { s with heap := h' } :=
      I.turnedNew (t' := s.toks) (ch := [z, pool]) (fun c o nc q => k' c o (fun e => nc (by simp [e])) q) fp (Nat.le_refl _) new
    refine ⟨.ref s.heap.objs.size, _, I1, rfl, ⟨_, xs[p.1], xs[p.2], p, hi, rfl, I.hok.fresh (Nat.le_refl _), rfl, by simp [l1], by simp [l2]⟩, ⟨z', k' _ _ ne hp⟩, fun c hcm => ?_⟩
    have lt : c < s.heap.objs.size := by
      have e2 : c = z ∨ c = pool := by simpa using hcm
      rcases e2 with q | q
      · exact q ▸ Heap.lt_size hz
      · exact q ▸ Heap.lt_size hp
    rw [upd_ne (Nat.ne_of_lt lt)]; exact (fp c hcm).1
  done := by
    intro X hP hw hK hc i pins s σ H E I fp st stop
    subst hP hw hK
    obtain ⟨zz, hp⟩ := st
    have hl : xs.length = its.toArray.size := by rw [rv.length]; simp
    have hi : coAt its.toArray.size i = none := by rw [← hl]; exact stop
    refine co_done (I.ok.hd hc) hi zz hp rfl fun h' k' => ⟨rfl, ?_⟩
    exact I.turnedL (t' := s.toks) (ch := [z, pool]) (fun c o nc q => k' c o (fun e => nc (by simp [e])) q) fp
  self := fun A i s Q E st h => let ⟨_, _, _, _, e⟩ := st.1.ob; co_self e h
end Mi
namespace Mi
open PySem PySem.Spec PyProof.Rows L2
open Sem (wp)
theorem co_meets (l : Addr) (items : List Value) (tk : Tok) (hs : items.length ≤ sizeLine) :
    Meets (Builtin.«itertools.combinations.__new__» ⟨[.type "itertools.combinations", .ref l, .int 2 tk], []⟩) (fun _ R s => s.heap.IsList l items.toArray ∧ ∀ h', CoRec h' (s.heap.objs.size + 2) (s.heap.objs.size + 1) (if 2 ≤ items.length then 0 else 2) .none 0 1 →
      h'.get? (s.heap.objs.size + 1) = some { cls := .type "tuple", data := .seq items.toArray } → (∀ c o, s.heap.get? c = some o → h'.get? c = some o) → R (.ok (.ret (.ref (s.heap.objs.size + 2)))) { s with heap := h' }) :=
  .of_wp fun prog w A R s h => by
    obtain ⟨hp, g, dd, t0, os⟩ := s
    obtain ⟨h1, h⟩ := h
    have hsub := co_sub
    have hd := co_noDict
    have es : ("itertools." ++ "combinations" : String) = "itertools.combinations" := by decide
    have bd : Builtin.Itertools.itBindNamed "combinations" ["iterable", "r"] 2 2 [Value.ref l, Value.int 2 tk] [] = pure [some (.ref l), some (.int 2 tk)] := by rfl
    have q1 : ∀ {A' : Around} {E : Value → Shared → Prop} {Q : List Value → Shared → Prop}, Q items ⟨(hp.push (seqObj "list" #[] 0)).update hp.objs.size (Obj.mapSeq (· ++ items.toArray)), g, dd, t0, os⟩ → wpAny (model prog w) A' (collect (.ref l)) Q E ⟨hp, g, dd, t0, os⟩ := fun q => collect_list (s := ⟨hp, g, dd, t0, os⟩) h1 q hs
    repeat (first
      | (refine q1 ?_)
      | rw [es]
      | rw [hsub]
      | (dsimp only; rw [bd])
      | wp_step
      | simp only [List.head?_cons, Option.some_or, List.getElem?_cons_succ, List.getElem?_cons_zero, List.length_cons, List.length_nil, List.forIn_nil])
    have k2 : ∀ c o, hp.get? c = some o → ((hp.push (seqObj "list" #[] 0)).update hp.objs.size (Obj.mapSeq (· ++ items.toArray))).get? c = some o := fun c o e => (Heap.get?_update_other _ _ (Nat.ne_of_gt (Heap.lt_size e))).trans (Heap.get?_push_of_some _ e)
    have n2 : ((hp.push (seqObj "list" #[] 0)).update hp.objs.size (Obj.mapSeq (· ++ items.toArray))).objs.size = hp.objs.size + 1 := ((Heap.SameBut.update (h := hp.push (seqObj "list" #[] 0)) (a := hp.objs.size) (f := Obj.mapSeq (· ++ items.toArray))).1).trans (Heap.size_push ..)
    generalize ((hp.push (seqObj "list" #[] 0)).update hp.objs.size (Obj.mapSeq (· ++ items.toArray))) = h2 at k2 n2 ⊢
    have n3 : (h2.push { cls := .type "tuple", data := .seq items.toArray }).objs.size = hp.objs.size + 2 := by rw [Heap.size_push, n2]
    refine ⟨_, rfl, ?_⟩
    have ef : (if Int.toNat 2 > items.length then (2 : Int) else 0) = if 2 ≤ items.length then 0 else 2 := by
      by_cases c : 2 ≤ items.length
      · rw [if_pos c, if_neg (by show ¬ 2 > items.length; omega)]
      · rw [if_neg c, if_pos (by show 2 > items.length; omega)]
    have tp : (h2.push { cls := .type "tuple", data := .seq items.toArray }).get? (hp.objs.size + 1) = some { cls := .type "tuple", data := .seq items.toArray } := by
      rw [← n2]
      exact Heap.get?_push_size _ rfl
    have zr := Heap.get?_push_size (h2.push { cls := .type "tuple", data := .seq items.toArray }) (o := { cls := .type "itertools.combinations", data := .fields #[.ref (hp.objs.size + 1), rawInt (if 2 ≤ items.length then 0 else 2), .none, rawInt 0, rawInt 1] }) rfl
    rw [n3] at zr
    have r := h _ zr (Heap.get?_push_of_some _ tp) fun c o e => Heap.get?_push_of_some _ (Heap.get?_push_of_some _ (k2 c o e))
    rw [n3, n2, ef]
    exact r
end Mi
namespace Mi
open PySem PySem.Spec PyProof.Rows L2
open Sem (wp)
section
variable {prog : Program} {w : World} {A : Around} {E : Value → Shared → Prop} {s : Shared}
theorem co_make {l : Addr} {items : List Value} {tk : Tok} {Q : Value → Shared → Prop} (hl : s.heap.IsList l items.toArray) (hs : items.length ≤ sizeLine)
    (h : ∀ h', CoRec h' (s.heap.objs.size + 2) (s.heap.objs.size + 1) (if 2 ≤ items.length then 0 else 2) .none 0 1 → h'.get? (s.heap.objs.size + 1) = some { cls := .type "tuple", data := .seq items.toArray } → (∀ c o, s.heap.get? c = some o → h'.get? c = some o) → Q (.ref (s.heap.objs.size + 2)) { s with heap := h' }) :
    wpAny (model prog w) A (call (.type "itertools.combinations") [.ref l, .int 2 tk]) Q E s := by
  refine callType_new co_called (by decide +kernel) (co_call2 _ _) (co_newCall2 _ _) (fun obj => F.args_object_init_3 obj _ _) co_entryNew (co_meets l items tk hs) ?_
  exact ⟨hl, fun h' z p k => ⟨⟨_, z, rfl⟩, h h' z p k⟩⟩
end
/-- the list whose twos are taken -/
def iCo (K : PySem.W.Frag) (ta : TA) : TI := fun σ H R => ta σ H fun vs H1 => ∃ a xs, vs = [.ref a, .int 2] ∧ SqL K H1 a xs ∧ xs.length ≤ 100000 ∧ R (ItCo xs) H1
theorem pi_co {X : Cx} {tg e e2 : Expr} {ta : TA} {p pos : Pos} {nm : String} (hg : X.mg nm = some (.type "itertools.combinations")) (hn : ∀ {pins σ H s Q}, Inv X pins σ H s → Q (.type "itertools.combinations") s → wpAny (model X.prog X.w) X.A (eval (.Name nm p) X.env) Q X.xe s) (ha : PA X [e, e2] ta)
    (hs : starEach [e, e2] X.env = (false, eval e X.env) :: starEach [e2] X.env) (hpl : (backTo pos (starEach [e2] X.env)).any (·.1) = false) : PI X tg (.Call (.Name nm p) [e, e2] [] pos) (iCo X.K ta) := by
  refine ⟨fun pins s σ H R I h => Call_ (hn I (PyProof.Rows.callWith_type1 (thn (ha.run pos pins s σ H _ I h) fun us s1 ⟨vs, H1, I1, r1, q1⟩ => ?_) hs hpl))⟩
  obtain ⟨a, xs, rfl, qx, hx, q⟩ := q1
  obtain ⟨u, v, rfl, ru, rv⟩ : ∃ u v, us = [u, v] ∧ RelV (.ref a) u ∧ RelV (.int 2) v := by
    cases r1 with
    | cons r rr =>
      cases rr with
      | cons r' rr =>
        cases rr
        exact ⟨_, _, rfl, r, r'⟩
  cases ru
  obtain ⟨tk, rfl⟩ := rv
  obtain ⟨its, rvs, p1, _⟩ := I1.list qx
  have hl := rvs.length
  refine co_make p1.isList (by rw [← hl]; exact Nat.le_trans hx (by decide)) fun h' z t k => ?_
  have ne : s1.heap.objs.size + 1 ≠ s1.heap.objs.size + 2 := by omega
  refine co_self z ?_
  refine ⟨s1.heap.objs.size + 2, [s1.heap.objs.size + 2, s1.heap.objs.size + 1], _, _, H1, rfl, I1.kept (t' := s1.toks) k, turn_co rvs ne, ⟨.inl ⟨rfl, ?_⟩, t⟩, fun c hcm => ?_, q⟩
  · simpa using z
  · have e2 : c = s1.heap.objs.size + 2 ∨ c = s1.heap.objs.size + 1 := by simpa using hcm
    have le : s1.heap.objs.size ≤ c := by rcases e2 with q | q <;> rw [q] <;> exact Nat.le_add_right _ _
    exact I1.fpOk le (I1.hok.fresh le)
end Mi
namespace Mi
open PySem PySem.Spec PyProof.Rows L2
/-! ### the twos of a list, one after another -/
/-- (i, j), (i, j + 1), .. -/
def coRow (n i j : Nat) : List (Nat × Nat) := (List.range (n - j)).map fun k => (i, j + k)
/-- m rows, from i on -/
def coRows (n : Nat) : Nat → Nat → List (Nat × Nat)
  | 0, _ => []
  | m + 1, i => coRow n i (i + 1) ++ coRows n m (i + 1)
/-- all from (i, j) on -/
def coFrom (n i j : Nat) : List (Nat × Nat) := coRow n i j ++ coRows n (n - (i + 1)) (i + 1)
def coAll (n : Nat) : List (Nat × Nat) := coRows n n 0
theorem coRow_cons {n i j : Nat} (h : j < n) : coRow n i j = (i, j) :: coRow n i (j + 1) := by
  unfold coRow
  obtain ⟨m, hm⟩ : ∃ m, n - j = m + 1 := ⟨n - j - 1, by omega⟩
  have hm2 : n - (j + 1) = m := by omega
  rw [hm, hm2, List.range_succ_eq_map, List.map_cons, List.map_map]
  congr 1
  exact List.map_congr_left fun k _ => by show (i, j + (k + 1)) = (i, j + 1 + k); rw [Nat.add_assoc, Nat.add_comm 1 k]
theorem coRow_nil {n i j : Nat} (h : n ≤ j) : coRow n i j = [] := by
  unfold coRow
  rw [Nat.sub_eq_zero_of_le h]
  rfl
theorem coFrom_next {n i j : Nat} (hij : i < j) (hj : j < n) : coFrom n i j = (i, j) :: (match coNext n i j with | some p => coFrom n p.1 p.2 | none => []) := by
  unfold coNext
  by_cases h1 : j + 1 < n
  · rw [if_pos h1]
    show coRow n i j ++ _ = (i, j) :: (coRow n i (j + 1) ++ _)
    rw [coRow_cons hj]
    rfl
  · rw [if_neg h1]
    have e : coFrom n i j = (i, j) :: coRows n (n - (i + 1)) (i + 1) := by
      unfold coFrom
      rw [coRow_cons hj, coRow_nil (by omega)]
      rfl
    rw [e]
    by_cases h2 : i + 2 < n
    · rw [if_pos h2]
      obtain ⟨m, hm⟩ : ∃ m, n - (i + 1) = m + 1 := ⟨n - (i + 1) - 1, by omega⟩
      have hm2 : n - (i + 1 + 1) = m := by omega
      show _ = (i, j) :: (coRow n (i + 1) (i + 2) ++ coRows n (n - (i + 1 + 1)) (i + 1 + 1))
      rw [hm, hm2]
      rfl
    · rw [if_neg h2]
      have hm : n - (i + 1) = 1 := by omega
      rw [hm]
      show (i, j) :: (coRow n (i + 1) (i + 1 + 1) ++ []) = _
      rw [coRow_nil (by omega)]
      rfl
/-- from p on -/
def coIt (n : Nat) (p : Option (Nat × Nat)) : Nat → Option (Nat × Nat)
  | 0 => p
  | k + 1 => (coIt n p k).bind fun q => coNext n q.1 q.2
theorem coIt_step {n : Nat} {p : Option (Nat × Nat)} : ∀ k, coIt n p (k + 1) = coIt n (p.bind fun q => coNext n q.1 q.2) k
  | 0 => rfl
  | k + 1 => by
    show (coIt n p (k + 1)).bind _ = (coIt n _ k).bind _
    rw [coIt_step k]
theorem coIt_none {n : Nat} : ∀ k, coIt n none k = none
  | 0 => rfl
  | k + 1 => by
    show (coIt n none k).bind _ = none
    rw [coIt_none k]
    rfl
theorem coFrom_get {n : Nat} : ∀ (k i j : Nat), i < j → j < n → (coFrom n i j)[k]? = coIt n (some (i, j)) k
  | 0, i, j, hij, hj => by rw [coFrom_next hij hj]; rfl
  | k + 1, i, j, hij, hj => by
    rw [coFrom_next hij hj, List.getElem?_cons_succ, coIt_step]
    show _ = coIt n (coNext n i j) k
    cases e : coNext n i j with
    | none => rw [coIt_none]; rfl
    | some p =>
      have := coNext_ok hij hj e
      exact coFrom_get k p.1 p.2 this.1 this.2
theorem coAt_it {n : Nat} : ∀ k, coAt n k = coIt n (if 2 ≤ n then some (0, 1) else none) k
  | 0 => rfl
  | k + 1 => by
    show (coAt n k).bind _ = (coIt n _ k).bind _
    rw [coAt_it k]
theorem coAll_get (n k : Nat) : (coAll n)[k]? = coAt n k := by
  rw [coAt_it]
  by_cases h : 2 ≤ n
  · rw [if_pos h, ← coFrom_get k 0 1 (by decide) (by omega)]
    obtain ⟨m, rfl⟩ : ∃ m, n = m + 1 := ⟨n - 1, by omega⟩
    rfl
  · rw [if_neg h, coIt_none]
    match n, h with
    | 0, _ => rfl
    | 1, _ => rfl
    | n + 2, h => exact absurd (by omega) h
/-- the twos of a list -/
def coTw (xs : List D) : List D := (coAll xs.length).map fun p => .tuple [xs.getD p.1 .none, xs.getD p.2 .none]
def dCo (d : Da) : Da := fun ρ w => (d ρ w).bind fun p => match p.1 with
  | [.list xs, .int 2] => if xs.length ≤ 100000 then some (coTw xs, p.2) else none
  | _ => none
theorem co_open {r : Da} {ρ : Rho} {w : Ws} {xs : List D} {w' : Ws} (h : dCo r ρ w = some (xs, w')) : ∃ ys, r ρ w = some ([.list ys, .int 2], w') ∧ ys.length ≤ 100000 ∧ xs = coTw ys := by
  obtain ⟨⟨ts, w1⟩, e1, h⟩ := Option.bind_eq_some_iff.mp h
  dsimp only at h
  split at h
  · rename_i ys
    by_cases c : ys.length ≤ 100000
    · rw [if_pos c] at h
      cases h
      exact ⟨ys, e1, c, rfl⟩
    · rw [if_neg c] at h
      cases h
  · cases h
theorem coTw_item {xs : List D} {i : Nat} {t : D} (e : (coTw xs)[i]? = some t) : ∃ p a b, coAt xs.length i = some p ∧ xs[p.1]? = some a ∧ xs[p.2]? = some b ∧ t = .tuple [a, b] := by
  unfold coTw at e
  rw [List.getElem?_map, coAll_get] at e
  obtain ⟨p, e1, e2⟩ := Option.map_eq_some_iff.mp e
  have hp := coAt_ok e1
  have l1 : p.1 < xs.length := Nat.lt_trans hp.1 hp.2
  refine ⟨p, xs[p.1], xs[p.2]'hp.2, e1, by simp [l1], by simp [hp.2], ?_⟩
  rw [← e2, List.getD_eq_getElem?_getD, List.getD_eq_getElem?_getD, List.getElem?_eq_getElem l1, List.getElem?_eq_getElem hp.2]
  rfl
theorem walk_co {K : PySem.W.Frag} {Z B : Addr → Prop} {H1 : Hp} {a : Addr} {vs : List V} {xs : List D} (hZ : ∀ a, Z a → B a) (na : ¬ Z a) (ha : HoB false H1 a vs) (r : RpL H1 B xs vs) :
    WalkT Z B (ItCo vs) H1 (coTw xs) where
  go := fun i H' k hi => by
    obtain ⟨p, _, _, e, _⟩ := coTw_item (List.getElem?_eq_getElem hi)
    exact ⟨p, by rw [← r.len]; exact e⟩
  yld := fun i H' x H'' B2 k hB hd y t e => by
    obtain ⟨T, v1, v2, p, hi, rfl, hT, rfl, q1, q2⟩ := y
    obtain ⟨p', t1, t2, hi', e1, e2, rfl⟩ := coTw_item e
    rw [r.len, hi] at hi'
    obtain rfl : p = p' := Option.some.inj hi'
    have kk : ∀ a o, H' a = some o → upd H' T (.tup [v1, v2]) a = some o := fun a o z => by rw [upd_ne (ne_of_none z hT)]; exact z
    exact ⟨kk, pair_rp hd hT (of_rpl Z hZ r k hB kk e1 q1) (of_rpl Z hZ r k hB kk e2 q2)⟩
  stop := fun i H' k hi => by
    show coAt vs.length i = none
    rw [← r.len, ← coAll_get]
    have : (coAll xs.length).length = (coTw xs).length := by unfold coTw; rw [List.length_map]
    rw [List.getElem?_eq_none_iff, this]
    exact hi
end Mi
namespace Mi
open PySem PySem.Spec PyProof.Rows L2
section
variable {X : Cx} {tg e e2 : Expr} {nm : String} {r : Da} {p pos : Pos}
theorem pi_coG {ta : TA} (hg : Gl X nm) (hm : X.mg nm = some (.type "itertools.combinations")) (ha : PA X [e, e2] ta) (hs : starEach [e, e2] X.env = (false, eval e X.env) :: starEach [e2] X.env) (hpl : (backTo pos (starEach [e2] X.env)).any (·.1) = false)
    (hd : ((nm : Str) == ("__debug__" : Str)) = false := by decide) : PI X tg (.Call (.Name nm p) [e, e2] [] pos) (iCo X.K ta) := pi_co (nm := nm) hm (fun I q => ld_glob I hg hm q hd) ha hs hpl
theorem i_coS (hg : Gl X nm) (hm : X.mg nm = some (.type "itertools.combinations")) (ha : PA X [e, e2] (tA r)) (hs : starEach [e, e2] X.env = (false, eval e X.env) :: starEach [e2] X.env) (hpl : (backTo pos (starEach [e2] X.env)).any (·.1) = false)
    (hd : ((nm : Str) == ("__debug__" : Str)) = false := by decide) : PI X tg (.Call (.Name nm p) [e, e2] [] pos) (tI false (dCo r)) := by
  refine PI.weak (pi_coG hg hm ha hs hpl hd) fun σ H Rr ⟨aw, B, ρ, w, xs, w', rr, q, k⟩ => ?_
  obtain ⟨ys, e1, e2, rfl⟩ := co_open q
  refine ⟨aw, B, ρ, w, _, _, rr, e1, fun vs H1 s rl => ?_⟩
  obtain ⟨x, r', rfl, q1, rl⟩ := rl.cons_inv
  obtain ⟨y, r', rfl, q2, rl⟩ := rl.cons_inv
  cases rl.nil_inv
  obtain ⟨a, vs, rfl, nb, ha, r1⟩ : ∃ a vs, x = .ref a ∧ ¬ B a ∧ H1 a = some (.lst vs) ∧ RpL H1 B ys vs := by
    simp only [Rp] at q1
    exact q1
  have ey : y = .int 2 := q2
  subst ey
  exact ⟨a, vs, rfl, SqL.of ha, by rw [← r1.len]; exact e2, k _ H1 s (walk_co (K := X.K) (fun a z => by simpa [Zb] using z) (by simpa [Zb] using nb) ha r1)⟩
theorem i_coQ (hg : Gl X nm) (hm : X.mg nm = some (.type "itertools.combinations")) (ha : PA X [e, e2] (tAQ r)) (hs : starEach [e, e2] X.env = (false, eval e X.env) :: starEach [e2] X.env) (hpl : (backTo pos (starEach [e2] X.env)).any (·.1) = false)
    (hd : ((nm : Str) == ("__debug__" : Str)) = false := by decide) : PI X tg (.Call (.Name nm p) [e, e2] [] pos) (tI true (dCo r)) := by
  refine PI.weak (pi_coG hg hm ha hs hpl hd) fun σ H Rr ⟨aw, B, ρ, w, xs, w', rr, q, k⟩ => ?_
  have hz : ∀ a, aw = some a → B a := fun a z => (rr.wl a z).1
  obtain ⟨ys, e1, e2, rfl⟩ := co_open q
  refine ⟨aw, B, ρ, w, _, _, rr, e1, fun vs H1 s rl => ?_⟩
  obtain ⟨x, y, rfl, q1, q2⟩ := rl.inv2
  obtain ⟨a, vs, rfl, na, ha, r1⟩ := q1.lst (rr.step s).toOk
  have ey : y = .int 2 := q2.int
  subst ey
  exact ⟨a, vs, rfl, SqL.of ha, by rw [← r1.len]; exact e2, k _ H1 s (walk_co (K := X.K) (fun a z => hz a (by simpa [Zb] using z)) (by simpa [Zb] using na) ha r1)⟩
end
end Mi
namespace Mi
open PySem PySem.Spec PyProof.Rows L2

/-! ### comprehensions with two fors -/
def dropC : Option Cl → Option Cl
  | some (.val t) => some (.val t)
  | some .well => some .well
  | _ => none
/-- a frame without the lists of the def's own -/
def dropOwn : Rho → Rho
  | [] => []
  | c :: ρ => dropC c :: dropOwn ρ
theorem dropOwn_len : ∀ ρ : Rho, (dropOwn ρ).length = ρ.length
  | [] => rfl
  | c :: ρ => by unfold dropOwn; rw [List.length_cons, List.length_cons, dropOwn_len ρ]
theorem dropOwn_in : ∀ {ρ : Rho} {j : Nat} {c : Cl}, (dropOwn ρ)[j]? = some (some c) → ρ[j]? = some (some c) ∧ ∀ ts, c ≠ .own ts
  | [], j, c, h => by simp [dropOwn] at h
  | x :: ρ, 0, c, h => by
    unfold dropOwn at h
    rw [List.getElem?_cons_zero] at h ⊢
    cases x with
    | none => simp [dropC] at h
    | some y =>
      cases y with
      | val t => simp [dropC] at h; subst h; exact ⟨rfl, fun _ z => nomatch z⟩
      | own t => simp [dropC] at h
      | well => simp [dropC] at h; subst h; exact ⟨rfl, fun _ z => nomatch z⟩
  | x :: ρ, j + 1, c, h => by
    unfold dropOwn at h
    rw [List.getElem?_cons_succ] at h ⊢
    exact dropOwn_in h
theorem R.drop {aw : Option Addr} {B : Addr → Prop} {ρ : Rho} {w : Ws} {σ : L2.St} {H : Hp} (r : R aw B ρ w σ H) : R aw B (dropOwn ρ) w σ H :=
  { r.toOk with
    len := by rw [dropOwn_len]; exact r.len
    cell := fun j c e => r.cell j c (dropOwn_in e).1 }
def compGo2 (ρ0 : Rho) (g : Tg) (c : Dt) (it1 : Da) (vs1 : List Nat) (g1 : Tg) (c1 : Dt) (e : De) : List D → Ws → Option (List D × Ws)
  | [], w => some ([], w)
  | t :: ts, w => (g t ρ0).bind fun ρ1 => (c (dropOwn ρ1) w).bind fun p =>
    if p.1 then (it1 (dropOwn ρ1) p.2).bind fun q => (compGo (wipeR (dropOwn ρ1) vs1) g1 c1 e q.1 q.2).bind fun r =>
      (compGo2 ρ0 g c it1 vs1 g1 c1 e ts r.2).map fun z => (r.1 ++ z.1, z.2)
    else compGo2 ρ0 g c it1 vs1 g1 c1 e ts p.2
def dComp2 (vs : List Nat) (it : Da) (g : Tg) (c : Dt) (it1 : Da) (vs1 : List Nat) (g1 : Tg) (c1 : Dt) (e : De) : De := fun ρ w => (it ρ w).bind fun p =>
  (compGo2 (wipeR ρ vs) g c it1 vs1 g1 c1 e p.1 p.2).bind fun q => if q.1.length ≤ 100000 then some (.list q.1, q.2) else none
theorem dComp2_lst {vs vs1 : List Nat} {it it1 : Da} {g g1 : Tg} {c c1 : Dt} {e : De} {ρ : Rho} {w : Ws} {t : D} {w' : Ws} (h : dComp2 vs it g c it1 vs1 g1 c1 e ρ w = some (t, w')) : ∃ ts, t = .list ts := by
  obtain ⟨p, _, h⟩ := Option.bind_eq_some_iff.mp h
  obtain ⟨q, _, h⟩ := Option.bind_eq_some_iff.mp h
  split at h
  · cases h
    exact ⟨_, rfl⟩
  · cases h
section
variable {X : Cx} {tg iter elt tg1 iter1 : Expr} {ifs ifs1 : List Expr} {scope : Scope} {own : List (Str × Nat)} {pos : Pos} {b : Bool} {it it1 : Da} {g g1 : Tg} {c c1 : Dt} {de : De} {sl sl1 : List Nat}
theorem lc2_go {vs vs1 : List Nat} (hsl : ∀ j ∈ sl, j ∈ vs) (hsl1 : ∀ j ∈ sl1, j ∈ vs1) {σ : L2.St} {H : Hp} {Q : VK} :
    tF (dComp2 vs it g c it1 vs1 g1 c1 de) σ H Q → tLc2 (tI b it) (tG sl g) (tT c) (tI false it1) (tG sl1 g1) (tT c1) (tE de) vs vs1 σ H Q := fun ⟨aw, B, ρ, w, ts, w', r, q, k⟩ => by
  obtain ⟨⟨xs, w1⟩, e1, h⟩ := Option.bind_eq_some_iff.mp q
  obtain ⟨⟨zs, w2⟩, e2, h⟩ := Option.bind_eq_some_iff.mp h
  dsimp only at h
  split at h
  · rename_i hlen
    cases h
    refine ⟨aw, B, ρ, w, xs, w1, r, e1, fun J H1 s1 wk L hL => ?_⟩
    have r1 := r.step s1
    have hLH : H L = none := fresh_back' s1 hL
    have nBL : ¬ B L := r1.toOk.fresh hL
    have nAL : aw ≠ some L := fun z => nBL (r1.wl L z).1
    let Wi : Nat → Nat → Hp → Prop := fun i m H' => m = xs.length - i ∧ i ≤ xs.length ∧ ∃ (acc : List D) (vacc : List V) (wi : Ws) (rest : List D),
      Kp (fun a => aw = some a) H1 H' ∧ (∀ a, aw = some a → H' a = some (.lst (wi.map .int))) ∧ H' L = some (.lst vacc) ∧ RpL H' (Bx B L) acc vacc ∧
      compGo2 (wipeR ρ vs) g c it1 vs1 g1 c1 de (xs.drop i) wi = some (rest, w') ∧ acc ++ rest = ts
    refine ⟨Wi, ⟨xs.length, by simp, Nat.zero_le _, [], [], w1, ts, ?_, ?_, upd_same, rpl_nil, by simpa using e2, rfl⟩, ?_⟩
    · intro a o e n
      rw [upd_ne (ne_of_none e hL)]
      exact e
    · intro a e
      have := s1.2 a e
      rw [upd_ne (ne_of_none this hL)]
      exact this
    · rintro i m H' ⟨rfl, hi, acc, vacc, wi, rest, kp, wl, hl, ra, eg, et⟩
      have kpZ : Kp (Zb b aw B) H1 H' := fun a o e n => kp a o e fun z => n (by
        cases b
        · simpa [Zb] using (r.wl a z).1
        · simpa [Zb] using z)
      have stp' : Stp aw H H' wi := ⟨fun a o e n => kp a o (s1.1 a o e n) n, wl⟩
      by_cases hlt : i < xs.length
      · refine .inr ⟨wk.go i H' kpZ hlt, fun H2 => ∃ m', m' < xs.length - i ∧ Wi (i + 1) m' H2, fun H2 h => h, fun x H2 y => ?_⟩
        have eq : xs.drop i = xs[i] :: xs.drop (i + 1) := List.drop_eq_getElem_cons hlt
        rw [eq] at eg
        obtain ⟨ρ1, f1, eg⟩ := Option.bind_eq_some_iff.mp eg
        obtain ⟨⟨bc, w3⟩, f2, eg⟩ := Option.bind_eq_some_iff.mp eg
        have domL : ∀ a, Bx B L a → H' a ≠ none := fun a ha => ha.elim (fun z => (r.step stp').dom a z) fun z => by rw [z, hl]; exact fun q => nomatch q
        obtain ⟨yk, yr⟩ := wk.yld i H' x H2 (Bx B L) kpZ (fun a ha => ha.elim .inl fun z => .inr (by rw [z]; exact hL)) domL y xs[i] (by simp [hlt])
        have stp2 : Stp aw H H2 wi := ⟨fun a o e n => yk a o (stp'.1 a o e n), fun a e => yk a _ (wl a e)⟩
        have hl2 := yk L _ hl
        have r2 := r.step stp2
        have r3 : R aw (Bx B L) ρ wi σ H2 :=
          { dom := fun a ha => ha.elim (r2.dom a) fun z => by rw [z, hl2]; exact fun q => nomatch q
            wl := fun a e => ⟨.inl (r2.wl a e).1, (r2.wl a e).2⟩
            len := r2.len
            cell := fun j cl e => by
              have q := r.cell j cl e
              cases cl with
              | val t =>
                obtain ⟨v, ev, rp⟩ := q
                exact ⟨v, ev, rp.mv fun a o z n => ⟨stp2.1 a o z (r.toOk.ne n), fun y => y.elim n fun y => by rw [y, hLH] at z; cases z⟩⟩
              | own us =>
                obtain ⟨a, vs', ev, ba, na, ha, rl⟩ := q
                exact ⟨a, vs', ev, .inl ba, na, stp2.1 a _ ha na, rl.mv fun a o z n => ⟨stp2.1 a o z (r.toOk.ne n), fun y => y.elim n fun y => by rw [y, hLH] at z; cases z⟩⟩
              | well => exact q }
        refine ⟨aw, Bx B L, wipeR ρ vs, wi, xs[i], ρ1, r3.wipe vs, yr, f1, fun σ' r4 o4 d4 => ⟨?_, ?_⟩⟩
        · rw [wipe_eq o4 hsl, wipe_wipe]
        · have r4d := r4.drop
          refine ⟨aw, Bx B L, dropOwn ρ1, wi, bc, w3, r4d, f2, fun H3 s3 => ?_⟩
          have hl3 := s3.1 L _ hl2 nAL
          cases bc with
          | true =>
            obtain ⟨⟨ys, w4⟩, f3, eg⟩ := Option.bind_eq_some_iff.mp (show _ = _ from eg)
            obtain ⟨⟨rs, w5⟩, f4, eg⟩ := Option.bind_eq_some_iff.mp eg
            obtain ⟨⟨rt, w6⟩, f5, eg⟩ := Option.map_eq_some_iff.mp eg
            cases eg
            refine iteT ⟨aw, Bx B L, dropOwn ρ1, w3, ys, w4, r4d.step s3, f3, fun J1 H4 s4 wk1 => ?_⟩
            have hl4 := s4.1 L _ hl3 nAL
            have r5 := (r4d.step s3).step s4
            have mv04 : Mv H' (Bx B L) H4 (Bx B L) := fun a o z n => ⟨s4.1 a o (s3.1 a o (yk a o z) fun q => n (.inl (r.wl a q).1)) fun q => n (.inl (r.wl a q).1), n⟩
            let Wj : Nat → Nat → Hp → Prop := fun j k H' => k = ys.length - j ∧ j ≤ ys.length ∧ ∃ (acc1 : List D) (vacc1 : List V) (wj : Ws) (rest1 : List D),
              Kp (fun a => aw = some a ∨ a = L) H4 H' ∧ (∀ a, aw = some a → H' a = some (.lst (wj.map .int))) ∧ H' L = some (.lst vacc1) ∧ RpL H' (Bx B L) (acc ++ acc1) vacc1 ∧
              compGo (wipeR (dropOwn ρ1) vs1) g1 c1 de (ys.drop j) wj = some (rest1, w5) ∧ acc1 ++ rest1 = rs
            refine ⟨Wj, ⟨ys.length, by simp, Nat.zero_le _, [], vacc, w4, rs, fun a o e _ => e, s4.2, hl4, ?_, by simpa using f4, rfl⟩, ?_⟩
            · rw [List.append_nil]
              exact ra.mv mv04
            · rintro j kk H5 ⟨rfl, hj, acc1, vacc1, wj, rest1, kp1, wl1, hl5, ra1, eg1, et1⟩
              have kpZ1 : Kp (Zb false aw (Bx B L)) H4 H5 := fun a o e n => kp1 a o e fun z => n (by
                have : Bx B L a := z.elim (fun z => (r5.wl a z).1) .inr
                simpa [Zb] using this)
              have mv5 : Mv H4 (Bx B L) H5 (Bx B L) := fun a o z n => ⟨kpZ1 a o z (by simpa [Zb] using n), n⟩
              by_cases hlt1 : j < ys.length
              · refine .inr ⟨wk1.go j H5 kpZ1 hlt1, fun H6 => ∃ k', k' < ys.length - j ∧ Wj (j + 1) k' H6, fun H6 h => h, fun x1 H6 y1 => ?_⟩
                rw [List.drop_eq_getElem_cons hlt1] at eg1
                obtain ⟨ρ2, h1, eg1⟩ := Option.bind_eq_some_iff.mp eg1
                obtain ⟨⟨b1, w7⟩, h2, eg1⟩ := Option.bind_eq_some_iff.mp eg1
                have dom5 : ∀ a, Bx B L a → H5 a ≠ none := fun a ha => by
                  by_cases e1 : aw = some a
                  · rw [wl1 a e1]; exact fun q => nomatch q
                  · by_cases e2 : a = L
                    · rw [e2, hl5]; exact fun q => nomatch q
                    · cases q : H4 a with
                      | none => exact absurd q (r5.dom a ha)
                      | some o => rw [kp1 a o q fun z => z.elim e1 e2]; exact fun q => nomatch q
                obtain ⟨yk1, yr1⟩ := wk1.yld j H5 x1 H6 (Bx B L) kpZ1 (fun a ha => .inl ha) dom5 y1 ys[j] (by simp [hlt1])
                have r6 : R aw (Bx B L) (dropOwn ρ1) wj σ' H6 :=
                  { dom := fun a ha => by
                      cases q : H5 a with
                      | none => exact absurd q (dom5 a ha)
                      | some o => rw [yk1 a o q]; exact fun q => nomatch q
                    wl := fun a e => ⟨(r5.wl a e).1, yk1 a _ (wl1 a e)⟩
                    len := r5.len
                    cell := fun jj cl e => by
                      have q := r5.cell jj cl e
                      cases cl with
                      | val t =>
                        obtain ⟨v, ev, rp⟩ := q
                        exact ⟨v, ev, (rp.mv mv5).mv fun a o z n => ⟨yk1 a o z, n⟩⟩
                      | own us => exact absurd rfl ((dropOwn_in e).2 us)
                      | well => exact q }
                refine ⟨aw, Bx B L, wipeR (dropOwn ρ1) vs1, wj, ys[j], ρ2, r6.wipe vs1, yr1, h1, fun σ3 r7 o7 d7 => ⟨?_, ?_⟩⟩
                · rw [wipe_eq o7 hsl1, wipe_wipe]
                · refine ⟨aw, Bx B L, ρ2, wj, b1, w7, r7, h2, fun H7 s7 => ?_⟩
                  have hl6 := yk1 L _ hl5
                  have hl7 := s7.1 L _ hl6 nAL
                  cases b1 with
                  | true =>
                    obtain ⟨⟨t4, w8⟩, h4, eg1⟩ := Option.bind_eq_some_iff.mp (show _ = _ from eg1)
                    obtain ⟨⟨rs1, w9⟩, h5, eg1⟩ := Option.map_eq_some_iff.mp eg1
                    cases eg1
                    refine iteT ⟨aw, Bx B L, ρ2, w7, t4, w8, r7.step s7, h4, fun v H8 s8 rp8 => ?_⟩
                    have hl8 := s8.1 L _ hl7 nAL
                    have mv2 : Mv H5 (Bx B L) H8 (Bx B L) := fun a o z n => ⟨s8.1 a o (s7.1 a o (yk1 a o z) fun q => n (r5.wl a q).1) fun q => n (r5.wl a q).1, n⟩
                    have ra8 := ra1.mv mv2
                    have lv : vacc1.length ≤ 100000 := by
                      rw [← ra1.len]
                      have z1 := congrArg List.length et
                      have z2 := congrArg List.length et1
                      simp only [List.length_append, List.length_cons] at z1 z2 ⊢
                      omega
                    refine ⟨vacc1, hl8, sz_lt lv, ys.length - (j + 1), by omega, rfl, hlt1, acc1 ++ [t4], vacc1 ++ [v], w8, rs1, ?_, ?_, upd_same, ?_, h5, ?_⟩
                    · intro a o e n
                      have nL : a ≠ L := fun z => n (.inr z)
                      have nA : aw ≠ some a := fun z => n (.inl z)
                      rw [upd_ne nL]
                      exact s8.1 a o (s7.1 a o (yk1 a o (kp1 a o e n)) nA) nA
                    · intro a e
                      rw [upd_ne fun z => nAL (by rw [← z]; exact e)]
                      exact s8.2 a e
                    · rw [← List.append_assoc]
                      refine (ra8.app (rpl_cons rp8 rpl_nil)).mv fun a o z n => ⟨?_, n⟩
                      rw [upd_ne fun q => n (.inr q)]
                      exact z
                    · rw [List.append_assoc]; exact et1
                  | false =>
                    refine iteF ⟨ys.length - (j + 1), by omega, rfl, hlt1, acc1, vacc1, w7, rest1, ?_, s7.2, hl7, ?_, eg1, et1⟩
                    · exact fun a o e n => s7.1 a o (yk1 a o (kp1 a o e n)) fun z => n (.inl z)
                    · exact ra1.mv fun a o z n => ⟨s7.1 a o (yk1 a o z) fun q => n (r5.wl a q).1, n⟩
              · have hj2 : j = ys.length := by omega
                have e0 : ys.drop j = [] := by rw [hj2]; simp
                rw [e0] at eg1
                cases eg1
                rw [List.append_nil] at et1
                subst et1
                refine .inl ⟨wk1.stop j H5 kpZ1 (by omega), xs.length - (i + 1), by omega, rfl, hlt, acc ++ acc1, vacc1, _, rt, ?_, wl1, hl5, ra1, f5, by rw [List.append_assoc]; exact et⟩
                intro a o e n
                have nL : a ≠ L := fun z => by rw [z, hL] at e; cases e
                exact kp1 a o (s4.1 a o (s3.1 a o (yk a o (kp a o e n)) n) n) fun z => z.elim n nL
          | false =>
            refine iteF ⟨xs.length - (i + 1), by omega, rfl, hlt, acc, vacc, w3, rest, ?_, s3.2, hl3, ?_, eg, et⟩
            · exact fun a o e n => s3.1 a o (yk a o (kp a o e n)) n
            · exact ra.mv fun a o z n => ⟨s3.1 a o (yk a o z) fun q => n (.inl (r.wl a q).1), n⟩
      · have hi2 : i = xs.length := by omega
        refine .inl ⟨wk.stop i H' kpZ (by omega), ?_⟩
        have e0 : xs.drop i = [] := by rw [hi2]; simp
        rw [e0] at eg
        cases eg
        rw [List.append_nil] at et
        subst et
        exact k L vacc H' stp' hLH hl ra
  · cases h
theorem f_comp2 (hc : X.calm = true) (hN : X.N.Nodup) (hi : PI X tg iter (tI b it)) (ok : BlkOk X.N X.env.scope scope own) {vs1 : List Nat} (hv : ∀ i ∈ vs1, i ∈ own.map (·.2))
    (hg : ∀ (s : Shared) (H : Hp) (C : Addr) (cl : List (Str × Addr)) (fp : List Addr), PG (X.blk s H scope (compEnvC scope cl C X.env) fp) tg (tG sl g))
    (ht : ∀ (s : Shared) (H : Hp) (C : Addr) (cl : List (Str × Addr)) (fp : List Addr), PTs (X.blk s H scope (compEnvC scope cl C X.env) fp) ifs (tT c))
    (hi1 : ∀ (s : Shared) (H : Hp) (C : Addr) (cl : List (Str × Addr)) (fp : List Addr), PI (X.blk s H scope (compEnvC scope cl C X.env) fp) tg1 iter1 (tI false it1))
    (hg1 : ∀ (s : Shared) (H : Hp) (C : Addr) (cl : List (Str × Addr)) (fp : List Addr), PG (X.blk s H scope (compEnvC scope cl C X.env) fp) tg1 (tG sl1 g1))
    (ht1 : ∀ (s : Shared) (H : Hp) (C : Addr) (cl : List (Str × Addr)) (fp : List Addr), PTs (X.blk s H scope (compEnvC scope cl C X.env) fp) ifs1 (tT c1))
    (he : ∀ (s : Shared) (H : Hp) (C : Addr) (cl : List (Str × Addr)) (fp : List Addr), PE (X.blk s H scope (compEnvC scope cl C X.env) fp) elt (tE de))
    (hsl : ∀ j ∈ sl, j ∈ own.map (·.2)) (hsl1 : ∀ j ∈ sl1, j ∈ vs1) (hs : ∀ x, foldedSetIterable iter X.env x = pure x) (hs1 : ∀ env x, foldedSetIterable iter1 env x = pure x) :
    PE X (.ListComp elt [⟨tg, iter, ifs, 0⟩, ⟨tg1, iter1, ifs1, 0⟩] scope pos) (tF (dComp2 (own.map (·.2)) it g c it1 vs1 g1 c1 de)) :=
  PE.weak (pe_lc2 hc hN hi ok hv hg ht hi1 hg1 ht1 he hs hs1) fun σ H Q h => lc2_go hsl hsl1 h
theorem r_comp2 (hc : X.calm = true) (hN : X.N.Nodup) (hi : PI X tg iter (tI b it)) (ok : BlkOk X.N X.env.scope scope own) {vs1 : List Nat} (hv : ∀ i ∈ vs1, i ∈ own.map (·.2))
    (hg : ∀ (s : Shared) (H : Hp) (C : Addr) (cl : List (Str × Addr)) (fp : List Addr), PG (X.blk s H scope (compEnvC scope cl C X.env) fp) tg (tG sl g))
    (ht : ∀ (s : Shared) (H : Hp) (C : Addr) (cl : List (Str × Addr)) (fp : List Addr), PTs (X.blk s H scope (compEnvC scope cl C X.env) fp) ifs (tT c))
    (hi1 : ∀ (s : Shared) (H : Hp) (C : Addr) (cl : List (Str × Addr)) (fp : List Addr), PI (X.blk s H scope (compEnvC scope cl C X.env) fp) tg1 iter1 (tI false it1))
    (hg1 : ∀ (s : Shared) (H : Hp) (C : Addr) (cl : List (Str × Addr)) (fp : List Addr), PG (X.blk s H scope (compEnvC scope cl C X.env) fp) tg1 (tG sl1 g1))
    (ht1 : ∀ (s : Shared) (H : Hp) (C : Addr) (cl : List (Str × Addr)) (fp : List Addr), PTs (X.blk s H scope (compEnvC scope cl C X.env) fp) ifs1 (tT c1))
    (he : ∀ (s : Shared) (H : Hp) (C : Addr) (cl : List (Str × Addr)) (fp : List Addr), PE (X.blk s H scope (compEnvC scope cl C X.env) fp) elt (tE de))
    (hsl : ∀ j ∈ sl, j ∈ own.map (·.2)) (hsl1 : ∀ j ∈ sl1, j ∈ vs1) (hs : ∀ x, foldedSetIterable iter X.env x = pure x) (hs1 : ∀ env x, foldedSetIterable iter1 env x = pure x) :
    PE X (.ListComp elt [⟨tg, iter, ifs, 0⟩, ⟨tg1, iter1, ifs1, 0⟩] scope pos) (tE (dComp2 (own.map (·.2)) it g c it1 vs1 g1 c1 de)) :=
  ofF (f_comp2 hc hN hi ok hv hg ht hi1 hg1 ht1 he hsl hsl1 hs hs1) fun _ _ _ _ => dComp2_lst
variable {i : Nat} {y : Str} {py pos' : Pos}
theorem s_lc2 (hc : X.calm = true) (hN : X.N.Nodup) (hy : X.N[i]? = some y) (hyl : X.env.scope.names.lookup y = some .local)
    (hsw : swapsWith (.ListComp elt [⟨tg, iter, ifs, 0⟩, ⟨tg1, iter1, ifs1, 0⟩] scope pos) (some (.Name y py)) pos'.line X.env = pure true) (hi : PI X tg iter (tI b it)) (ok : BlkOk X.N X.env.scope scope own) {vs1 : List Nat} (hv : ∀ i ∈ vs1, i ∈ own.map (·.2))
    (hg : ∀ (s : Shared) (H : Hp) (C : Addr) (cl : List (Str × Addr)) (fp : List Addr), PG (X.blk s H scope (compEnvC scope cl C X.env) fp) tg (tG sl g))
    (ht : ∀ (s : Shared) (H : Hp) (C : Addr) (cl : List (Str × Addr)) (fp : List Addr), PTs (X.blk s H scope (compEnvC scope cl C X.env) fp) ifs (tT c))
    (hi1 : ∀ (s : Shared) (H : Hp) (C : Addr) (cl : List (Str × Addr)) (fp : List Addr), PI (X.blk s H scope (compEnvC scope cl C X.env) fp) tg1 iter1 (tI false it1))
    (hg1 : ∀ (s : Shared) (H : Hp) (C : Addr) (cl : List (Str × Addr)) (fp : List Addr), PG (X.blk s H scope (compEnvC scope cl C X.env) fp) tg1 (tG sl1 g1))
    (ht1 : ∀ (s : Shared) (H : Hp) (C : Addr) (cl : List (Str × Addr)) (fp : List Addr), PTs (X.blk s H scope (compEnvC scope cl C X.env) fp) ifs1 (tT c1))
    (he : ∀ (s : Shared) (H : Hp) (C : Addr) (cl : List (Str × Addr)) (fp : List Addr), PE (X.blk s H scope (compEnvC scope cl C X.env) fp) elt (tE de))
    (hsl : ∀ j ∈ sl, j ∈ own.map (·.2)) (hsl1 : ∀ j ∈ sl1, j ∈ vs1) (hs : ∀ x, foldedSetIterable iter X.env x = pure x) (hs1 : ∀ env x, foldedSetIterable iter1 env x = pure x) :
    PS X (.Assign [.Name y py] (.ListComp elt [⟨tg, iter, ifs, 0⟩, ⟨tg1, iter1, ifs1, 0⟩] scope pos) pos') (tS (sAsg (gNm i) (dComp2 (own.map (·.2)) it g c it1 vs1 g1 c1 de))) :=
  PS.weak (ps_setLc2 hc hN hy hyl hsw hi ok hv hg ht hi1 hg1 ht1 he hs hs1) fun D σ H q => lc2_go hsl hsl1 (e_f (fun _ _ _ _ => dComp2_lst) (nm_go q))
end
end Mi
namespace L2
open PySem PySem.Spec PyProof.Rows
theorem tuple_mulSame (l : Addr) (items : Array Value) (n : Nat) (dd : Option Addr) (sl : Array (Option Value)) (x : Int) (u : Tok) (c0 : (decide (x < -(2 ^ 63)) || decide (x ≥ 2 ^ 63)) = false) (c1 : (items.isEmpty || x == 1) = true) :
    Meets (Builtin.«tuple.__mul__» ⟨[.ref l, .int x u], []⟩) (fun _ R s => s.heap.get? l = some { cls := .type "tuple", dict := dd, data := .seq items n, slots := sl } ∧
      R (.ok (.ret (Value.ref l))) s) :=
  .of_wp fun prog w A R s h => by
    obtain ⟨hp, g, d, tk, os⟩ := s
    obtain ⟨hl, h⟩ := h
    have f1 := AutoSeq1.idx_int
    wp_walk using wpAny_loadPart' hl
    repeat (first
      | (refine wpAny_ite_false (decide_eq_false (by rw [c0]; exact Bool.false_ne_true)) ?_; wp_walk using wpAny_loadPart' hl)
      | (refine wpAny_ite_true (decide_eq_true c1) ?_; wp_walk using wpAny_loadPart' hl))
    exact ⟨_, rfl, h⟩
def rRepT0 (K : PySem.W.Frag) : R2 := fun x y H Q => ∃ l k, x = .ref l ∧ y = .int k ∧ SqT K H l [] ∧ 0 ≤ k ∧ k ≤ 1000 ∧ Q (.ref l) H
theorem op_repT0 {X : Cx} : OpR X (binaryOp .Mult) (rRepT0 X.K) := by
  intro pins s σ H x y v u Q I rx ry h
  obtain ⟨l, k, rfl, rfl, hT, h1, h2, q⟩ := h
  cases rx
  obtain ⟨t, rfl⟩ := ry
  obtain ⟨its, r, ⟨⟨cls, dd, data, sl⟩, ho, hc, n, hd⟩, hs⟩ := I.tuple hT
  simp only at hc hd
  subst hc hd
  have hn : its = [] := List.eq_nil_of_length_eq_zero r.length.symm
  subst hn
  have c0 : (decide (k < -(2 ^ 63)) || decide (k ≥ 2 ^ 63)) = false := by
    rw [decide_eq_false (by omega), decide_eq_false (by omega)] <;> rfl
  refine wpAny_binaryOp_repeat_ref (T := "tuple") (U := "int") (by decide) ⟨_, ho, rfl⟩ (fun s' => typeIs_int s' k t) noFill_tuple_mul F.fills_int_mul F.slot_int_rmul repeat_tuple F.slot_int_index.lookup
    (call_meets F.slot_int_rmul (typeIs_int s k t) F.entry_int_rmul (F.args_int_rmul_2 _ _) (int_rmul_tuple k t l ([] : List Value).toArray n dd sl)
      ⟨ho, rfl, ⟨_, ho, rfl⟩, call_meets F.slot_tuple_mul ⟨_, ho, rfl⟩ F.entry_tuple_mul (F.args_tuple_mul_2 _ _) (tuple_mulSame l ([] : List Value).toArray n dd sl k t c0 rfl) ⟨ho, ?_⟩⟩)
  exact ⟨.ref l, _, I, rfl, q⟩
end L2
namespace Mi
open PySem PySem.Spec PyProof.Rows L2
variable {X : Cx}
/-! ### a tuple times a number, the empty one too -/
def gRep0 : D → D → Option D
  | .tuple [], .int k => if decide (0 ≤ k ∧ k ≤ 1000) then some (.tuple []) else none
  | _, _ => none
theorem ops_rep0 : OpS X (binaryOp .Mult) gRep0 := by
  refine ⟨_, op_repT0, fun aw B w H a b c x y Q o ha hb e k => ?_⟩
  unfold gRep0 at e
  split at e
  · rename_i j
    split at e
    · rename_i hc
      cases e
      obtain ⟨c1, c2⟩ := of_decide_eq_true hc
      obtain ⟨p, vs, rfl, n1, h1, r1⟩ := ha.tup o
      have := r1.nil_inv
      subst this
      refine ⟨p, j, rfl, hb.int, SqT.of h1, c1, c2, k _ _ o.stp ?_⟩
      simp only [Rp]
      exact ⟨p, _, rfl, n1, h1, r1⟩
    · cases e
  · cases e
def gRepTT : D → D → Option D := fun a b => (gRepT a b).or (gRep0 a b)
theorem ops_repTT : OpS X (binaryOp .Mult) gRepTT := ops_repT.or ops_rep0
theorem gRepTT_eq {ts : List D} {k : Int} (h : 2 ≤ k ∧ k ≤ 1000 ∧ ts.length ≤ 1000) : gRepTT (.tuple ts) (.int k) = some (.tuple (List.replicate k.toNat ts).flatten) := by
  unfold gRepTT
  cases ts with
  | nil =>
    have e1 : gRepT (.tuple []) (.int k) = none := by
      unfold gRepT
      dsimp only
      rw [if_neg (by simp)]
    have e2 : gRep0 (.tuple []) (.int k) = some (.tuple []) := by
      show (if decide (0 ≤ k ∧ k ≤ 1000) then _ else _) = _
      rw [if_pos (decide_eq_true ⟨by omega, by omega⟩)]
    rw [e1, e2]
    have : (List.replicate k.toNat ([] : List D)).flatten = [] := by
      induction k.toNat with
      | zero => rfl
      | succ n ih => rw [List.replicate_succ, List.flatten_cons, ih]; rfl
    rw [this]
    rfl
  | cons t ts =>
    have e1 : gRepT (.tuple (t :: ts)) (.int k) = some (.tuple (List.replicate k.toNat (t :: ts)).flatten) := by
      show (if decide ((t :: ts) ≠ [] ∧ 2 ≤ k ∧ k ≤ 1000 ∧ (t :: ts).length ≤ 1000) then _ else _) = _
      rw [if_pos (decide_eq_true ⟨by simp, h⟩)]
    rw [e1]
    rfl
/-! ### a def that calls itself: as deep as told -/
section
variable {P : Program} {w : World} {K : PySem.W.Frag} {mg : Str → Option Value} {base : Heap} {CX : CXT} {f : Addr} {fd : FuncData} {ps : List Str} {k n : Nat} {x : Str}
theorem fnG_never (hn : ps.length = n) : FnG P w K mg base CX k f fd ps (spP n fun _ => none) := by
  constructor
  · intro vs H Q E h
    obtain ⟨B, ts, t, _, _, _, e, _⟩ := h
    cases e
  · intro A outer s H args us vs Q E _ _ _ _ _ h
    obtain ⟨B, ts, t, _, _, _, e, _⟩ := h
    cases e
/-- the n-th reading of a def by the one below it -/
def recF (n N : Nat) (m : (List D → Option D) → Sm) : Nat → List D → Option D
  | 0 => fun _ => none
  | j + 1 => defP n N (m (recF n N m j))
theorem dn_rec {N : Nat} {m : (List D → Option D) → Sm} (hm : mg x = some (.ref f)) (hk : PySem.W.keepIn K (.ref f) = true) (hb : Binds K fd ps []) (hn : ps.length = n) (lv : Nat)
    (step : ∀ (j : Nat) (G : List D → Option D), Dn P w K mg base (lv + j) f fd x ps (spP n G) → FnG P w K mg base CX0 (lv + j + 1) f fd ps (spP n (defP n N (m G)))) :
    ∀ j : Nat, Dn P w K mg base (lv + j) f fd x ps (spP n (recF n N m j))
  | 0 => ⟨hm, hk, hb, fnG_never hn⟩
  | j + 1 => ⟨hm, hk, hb, step j _ (dn_rec hm hk hb hn lv step j)⟩
end
end Mi
namespace Mi
open PySem PySem.Spec PyProof.Rows L2

/-! ### x, y = a, b, both new lists of the def's own; x, y, z = a, b, c, the third one -/
theorem R.bx {aw : Option Addr} {B : Addr → Prop} {H H1 : Hp} {ρ : Rho} {w w1 : Ws} {σ : L2.St} {p : Addr} {o : HO} (r : R aw B ρ w σ H) (s1 : Stp aw H H1 w1) (hp : H p = none) (hp1 : H1 p = some o) : R aw (Bx B p) ρ w1 σ H1 := by
  have r1 := r.step s1
  have mv : Mv H B H1 (Bx B p) := fun a o z n => ⟨s1.1 a o z (r.toOk.ne n), fun y => y.elim n fun y => by rw [y, hp] at z; cases z⟩
  exact
    { dom := fun a ha => ha.elim (r1.dom a) fun z => by rw [z, hp1]; exact fun q => nomatch q
      wl := fun a e => ⟨.inl (r1.wl a e).1, (r1.wl a e).2⟩
      len := r1.len
      cell := fun j cl e => by
        have q := r.cell j cl e
        cases cl with
        | val t =>
          obtain ⟨v, ev, rp⟩ := q
          exact ⟨v, ev, rp.mv mv⟩
        | own us =>
          obtain ⟨a, vs', ev, ba, na, ha, rl⟩ := q
          exact ⟨a, vs', ev, .inl ba, na, s1.1 a _ ha na, rl.mv mv⟩
        | well => exact q }
def sParOO (i j : Nat) (da db : De) : Sm := fun ρ w => (da ρ w).bind fun p => (db ρ p.2).bind fun q => match p.1, q.1 with
  | .list us, .list ts => if i < ρ.length ∧ j < ρ.length then some (.nx, (ρ.set i (some (.own us))).set j (some (.own ts)), q.2) else none
  | _, _ => none
def sPar3O (i j l : Nat) (da db dc : De) : Sm := fun ρ w => (da ρ w).bind fun p => (db ρ p.2).bind fun q => (dc ρ q.2).bind fun u => match u.1 with
  | .list ts => if i < ρ.length ∧ j < ρ.length ∧ l < ρ.length then some (.nx, ((ρ.set i (some (.val p.1))).set j (some (.val q.1))).set l (some (.own ts)), u.2) else none
  | _ => none
section
variable {X : Cx} {a b c : Expr} {da db dc : De} {pos : Pos} {x y z : Str} {i j l : Nat}
theorem s_parOO {px py pt pt2 : Pos} {kt k2 : Nat} (hc : X.calm = true) (hN : X.N.Nodup) (hi : X.N[i]? = some x) (hj : X.N[j]? = some y) (hij : i ≠ j)
    (hx : X.env.scope.names.lookup x = some .local) (hy : X.env.scope.names.lookup y = some .local) (ha : PE X a (tF da)) (hb : PE X b (tF db))
    (h1 : starEach [a, b] X.env = (false, eval a X.env) :: starEach [b] X.env) (h2 : starEach [b] X.env = (false, eval b X.env) :: starEach [] X.env)
    (hw : swappedStores [.Tuple [.Name x px, .Name y py] kt pt] (.Tuple [a, b] k2 pt2) X.env = pure (some [x, y]))
    (hs : swapsWithSole [.Tuple [.Name x px, .Name y py] kt pt] (.Tuple [a, b] k2 pt2) pos.line X.env = pure false) :
    PS X (.Assign [.Tuple [.Name x px, .Name y py] kt pt] (.Tuple [a, b] k2 pt2) pos) (tS (sParOO i j da db)) := by
  refine PS.weak (ps_par hc hN hi hj hij hx hy (pa_cons ha (pa_cons hb pa_nil h2) h1) hw hs) fun D σ H ⟨aw, B0, H0, B, ρ, w, fl, ρ', w', r, q, k⟩ => ?_
  obtain ⟨⟨t, w1⟩, q1, q2⟩ := Option.bind_eq_some_iff.mp q
  obtain ⟨⟨t2, w2⟩, q3, q4⟩ := Option.bind_eq_some_iff.mp q2
  dsimp only at q4
  split at q4
  · rename_i us ts
    split at q4
    · rename_i hl
      cases q4
      refine ⟨aw, B, ρ, w, us, _, r.toR, q1, fun p1 vs1 H1 s1 hp1 hp1' rl1 => ⟨aw, Bx B p1, ρ, w1, ts, _, r.toR.bx s1 hp1 hp1', q3, fun p2 vs2 H2 s2 hp2 hp2' rl2 => ⟨.ref p1, .ref p2, rfl, ?_⟩⟩⟩
      refine k _ H2 (Bx (Bx B p1) p2) (RS.own (RS.own r s1 hp1 hp1' rl1 hl.1) s2 hp2 hp2' rl2 (by rw [List.length_set]; exact hl.2)) (r.kpB (s1.trans s2)) (fun a ha => ha.elim (fun z => z.elim .inl fun z => .inr (by rw [z]; exact hp1)) fun z => .inr ?_)
      rw [z]
      exact fresh_back' s1 hp2
    · cases q4
  · cases q4
theorem s_par3O {px py pz pt pt2 : Pos} {kt k2 : Nat} (hc : X.calm = true) (hN : X.N.Nodup) (hi : X.N[i]? = some x) (hj : X.N[j]? = some y) (hl : X.N[l]? = some z) (hij : i ≠ j) (hil : i ≠ l) (hjl : j ≠ l)
    (hx : X.env.scope.names.lookup x = some .local) (hy : X.env.scope.names.lookup y = some .local) (hz : X.env.scope.names.lookup z = some .local) (ha : PE X a (tE da)) (hb : PE X b (tE db)) (hcc : PE X c (tF dc))
    (h1 : starEach [a, b, c] X.env = (false, eval a X.env) :: starEach [b, c] X.env) (h2 : starEach [b, c] X.env = (false, eval b X.env) :: starEach [c] X.env) (h3 : starEach [c] X.env = (false, eval c X.env) :: starEach [] X.env)
    (hw : swappedStores [.Tuple [.Name x px, .Name y py, .Name z pz] kt pt] (.Tuple [a, b, c] k2 pt2) X.env = pure (some [x, y, z]))
    (hs : swapsWithSole [.Tuple [.Name x px, .Name y py, .Name z pz] kt pt] (.Tuple [a, b, c] k2 pt2) pos.line X.env = pure false) :
    PS X (.Assign [.Tuple [.Name x px, .Name y py, .Name z pz] kt pt] (.Tuple [a, b, c] k2 pt2) pos) (tS (sPar3O i j l da db dc)) := by
  refine PS.weak (ps_par3 hc hN hi hj hl hij hil hjl hx hy hz (pa_cons ha (pa_cons hb (pa_cons hcc pa_nil h3) h2) h1) hw hs) fun D σ H ⟨aw, B0, H0, B, ρ, w, fl, ρ', w', r, q, k⟩ => ?_
  obtain ⟨⟨t, w1⟩, q1, q2⟩ := Option.bind_eq_some_iff.mp q
  obtain ⟨⟨t2, w2⟩, q3, q4⟩ := Option.bind_eq_some_iff.mp q2
  obtain ⟨⟨t3, w3⟩, q5, q6⟩ := Option.bind_eq_some_iff.mp q4
  dsimp only at q6
  split at q6
  · rename_i ts
    split at q6
    · rename_i hl
      cases q6
      refine ⟨aw, B, ρ, w, t, w1, r.toR, q1, fun v1 H1 s1 rp1 => ⟨aw, B, ρ, w1, t2, w2, (r.step s1).toR, q3, fun v2 H2 s2 rp2 => ⟨aw, B, ρ, w2, ts, _, ((r.step s1).step s2).toR, q5, fun p vs H3 s3 hp hp2 rl => ⟨v1, v2, .ref p, rfl, ?_⟩⟩⟩⟩
      have r2 := (r.step s1).step s2
      refine k _ H3 (Bx B p) (RS.own (par_go (par_go r2 (rp1.mv ((r.step s1).toOk.mv s2)) hl.1) rp2 (by rw [List.length_set]; exact hl.2.1)) s3 hp hp2 rl (by rw [List.length_set, List.length_set]; exact hl.2.2)) (r.kpB ((s1.trans s2).trans s3)) (fun a ha => ha.elim .inl fun z => .inr ?_)
      rw [z]
      exact fresh_back' (s1.trans s2) hp
    · cases q6
  · cases q6
end
/-! ### is True, is not True -/
def gIsB : D → D → Option D
  | .bool a, .bool b => some (.bool (decide (a = b)))
  | _, _ => none
def gNoB : D → D → Option D
  | .bool a, .bool b => some (.bool (!decide (a = b)))
  | _, _ => none
theorem Rq.bool {aw : Option Addr} {H : Hp} {B : Addr → Prop} {b : Bool} {v : V} (h : Rq aw H B (.bool b) v) : v = .bl b := by
  rcases h with h | ⟨us, a, vs, e1, _⟩
  · simpa only [Rp] using h
  · cases e1
section
variable {X : Cx}
theorem ops_isB : OpS X (compareOp .Is) gIsB := by
  refine ⟨_, op_is_bl, fun aw B w H a b c x y Q o ha hb e k => ?_⟩
  unfold gIsB at e
  split at e
  · cases e
    exact ⟨_, _, ha.bool, hb.bool, k _ _ o.stp rp_bl⟩
  · cases e
theorem ops_noB : OpS X (compareOp .IsNot) gNoB := by
  refine ⟨_, op_isnot_bl, fun aw B w H a b c x y Q o ha hb e k => ?_⟩
  unfold gNoB at e
  split at e
  · cases e
    exact ⟨_, _, ha.bool, hb.bool, k _ _ o.stp rp_bl⟩
  · cases e
theorem bool_isB : ∀ x y z, gIsB x y = some z → ∃ k, z = .bool k := fun x y z h => by
  unfold gIsB at h
  split at h
  · cases h; exact ⟨_, rfl⟩
  · cases h
theorem bool_noB : ∀ x y z, gNoB x y = some z → ∃ k, z = .bool k := fun x y z h => by
  unfold gNoB at h
  split at h
  · cases h; exact ⟨_, rfl⟩
  · cases h
end
end Mi
namespace Mi
open PySem PySem.Spec PyProof.Rows L2
/-! ### repr(True) -/
def gReprB : List D → Option D
  | [.bool b] => some (.str (PyData.shown (.bool b)))
  | _ => none
theorem cas_reprB {X : Cx} : CaS X (.builtin "repr") gReprB := by
  refine ⟨fun vs H Q => ∃ b, vs = [.bl b] ∧ Q (.str (PyData.shown (.bool b))) H, ?_, fun aw B w H ts c xs Q o ha e k => ?_⟩
  · intro pins s σ H vs us Q I r h
    obtain ⟨b, rfl, q⟩ := h
    obtain ⟨u, rfl, ru⟩ := vals1 r
    cases (show u = Value.bool b from ru)
    cases b with
    | true => exact PySem.P.repr_of_bool ⟨.str (PyData.shown (.bool true)), H, I.tok _, ⟨s.toks, rfl⟩, q⟩
    | false => exact PySem.P.repr_of_bool ⟨.str (PyData.shown (.bool false)), H, I.tok _, ⟨s.toks, rfl⟩, q⟩
  · unfold gReprB at e
    split at e
    · cases e
      obtain ⟨x, rfl, hx⟩ := ha.one
      exact ⟨_, by rw [hx.bool], k _ _ o.stp rp_str⟩
    · cases e
def gReprX : List D → Option D := fun a => (gRepr a).or (gReprB a)
theorem cas_reprX {X : Cx} (hg : X.A.guards = some []) (hu : X.A.units + 100 < cLine) : CaS X (.builtin "repr") gReprX := (cas_repr hg hu).or cas_reprB
end Mi
namespace Mi
open PySem PySem.Spec PyProof.Rows L2

/-! ### sizes -/
def Sz (k : Nat) (i : Int) : Prop := i.natAbs < 2 ^ k
section
variable {j k l : Nat} {a b : Int}
theorem Sz.mono (h : Sz j a) (hk : j ≤ k) : Sz k a := Nat.lt_of_lt_of_le h (Nat.pow_le_pow_right (by decide) hk)
theorem sz_of (h : a.natAbs < 2 ^ k) : Sz k a := h
theorem Sz.mul (ha : Sz j a) (hb : Sz k b) : Sz (j + k) (a * b) := by
  unfold Sz at *
  rw [Int.natAbs_mul, Nat.pow_add]
  exact Nat.mul_lt_mul_of_lt_of_lt ha hb
theorem Sz.add (ha : Sz k a) (hb : Sz k b) : Sz (k + 1) (a + b) := by
  unfold Sz at *
  have := Int.natAbs_add_le a b
  rw [Nat.pow_succ]
  omega
theorem Sz.sub (ha : Sz k a) (hb : Sz k b) : Sz (k + 1) (a - b) := by
  unfold Sz at *
  have := Int.natAbs_sub_le a b
  rw [Nat.pow_succ]
  omega
theorem Sz.neg (ha : Sz k a) : Sz k (-a) := by
  unfold Sz at *
  rw [Int.natAbs_neg]
  exact ha
theorem Sz.log (ha : Sz k a) (hk : 0 < k) : a.natAbs.log2 < k := by
  by_cases h : a.natAbs = 0
  · rw [h, Nat.log2_zero]
    exact hk
  · exact (Nat.log2_lt h).mpr ha
theorem Sz.le_of (ha : Sz k a) (h : b.natAbs ≤ a.natAbs) : Sz k b := Nat.lt_of_le_of_lt h ha
theorem mulSz (ha : Sz j a) (hb : Sz k b) (h : j + k < 1000000 := by omega) : mulOk a b = true := by
  unfold mulOk
  apply decide_eq_true
  have h1 := Sz.log (ha.mono (Nat.le_succ j)) (Nat.succ_pos j)
  have h2 := Sz.log (hb.mono (Nat.le_succ k)) (Nat.succ_pos k)
  omega
theorem gMul_eq (h : mulOk a b = true) : gMul (.int a) (.int b) = some (.int (a * b)) := by
  show (if mulOk a b = true then some (PyData.int (a * b)) else none).or _ = _
  rw [if_pos h]
  rfl
theorem gAdd_eq : gAdd (.int a) (.int b) = some (.int (a + b)) := rfl
theorem gSub_eq : gSub (.int a) (.int b) = some (.int (a - b)) := rfl
theorem gMod_eq (h : 0 < b) : gMod (.int a) (.int b) = some (.int (a % b)) := if_pos (decide_eq_true h)
theorem gFdiv_eq (h : 0 < b) (h2 : Sz 9000 b) : gFdiv (.int a) (.int b) = some (.int (a / b)) := if_pos (decide_eq_true ⟨h, h2.log (by decide)⟩)
theorem gLt_eq : gLt (.int a) (.int b) = some (.bool (decide (a < b))) := rfl
theorem gLe_eq : gLe (.int a) (.int b) = some (.bool (decide (a ≤ b))) := rfl
theorem gGt_eq : gGt (.int a) (.int b) = some (.bool (decide (b < a))) := rfl
theorem gGe_eq : gGe (.int a) (.int b) = some (.bool (decide (b ≤ a))) := rfl
theorem eqv_int : PyData.eqv (.int a) (.int b) = (a == b) := by unfold PyData.eqv; rfl
theorem gEq_eq : gEq (.int a) (.int b) = some (.bool (a == b)) := by
  show some (PyData.bool (false ^^ PyData.eqv (.int a) (.int b))) = _
  rw [eqv_int]
  cases (a == b) <;> rfl
theorem gNe_eq : gNe (.int a) (.int b) = some (.bool (!(a == b))) := by
  show some (PyData.bool (true ^^ PyData.eqv (.int a) (.int b))) = _
  rw [eqv_int]
  cases (a == b) <;> rfl
theorem gDivmod_eq (h : 0 < b) (h2 : Sz 9000 b) : gDivmod [.int a, .int b] = some (.tuple [.int (a / b), .int (a % b)]) :=
  if_pos (c := divOk a b = true) (decide_eq_true (p := 0 < b ∧ b.natAbs.log2 < 9000) ⟨h, h2.log (by decide)⟩)
theorem gAbs_eq : gAbs [.int a] = some (.int (a.natAbs : Int)) := by
  show some (PyData.int (if a < 0 then -a else a)) = _
  congr 2
  split <;> omega
theorem gInt_eq : gInt [.int a] = some (.int a) := rfl
theorem gNeg_eq : gNeg (.int a) = some (.int (-a)) := rfl
theorem gGcd_eq : gGcd [.int a, .int b] = some (.int ((Nat.gcd a.natAbs b.natAbs : Nat) : Int)) := rfl
theorem gBits_eq (h : a ≠ 0) : gBits (.int a) = some (.int ((a.natAbs.log2 + 1 : Nat) : Int)) := by
  show some (PyData.int ((Builtin.Int.intBits a : Nat) : Int)) = _
  unfold Builtin.Int.intBits
  rw [if_neg (by simpa using h)]
theorem gLen_l {ts : List D} : gLen [.list ts] = some (.int ts.length) := rfl
theorem gLen_t {ts : List D} : gLen [.tuple ts] = some (.int ts.length) := rfl
theorem gIx_l {ts : List D} {i : Nat} {t : D} (h : ts[i]? = some t) : gIx (.list ts) (.int i) = some t := atI_nat h
theorem gIx_t {ts : List D} {i : Nat} {t : D} (h : ts[i]? = some t) : gIx (.tuple ts) (.int i) = some t := atI_nat h
theorem gIx_t0 {t : D} {ts : List D} : gIx (.tuple (t :: ts)) (.int 0) = some t := gIx_t (i := 0) rfl
theorem gIx_t1 {a t : D} {ts : List D} : gIx (.tuple (a :: t :: ts)) (.int 1) = some t := gIx_t (i := 1) rfl
theorem gIx_t2 {a b t : D} {ts : List D} : gIx (.tuple (a :: b :: t :: ts)) (.int 2) = some t := gIx_t (i := 2) rfl
theorem gIx_l0 {t : D} {ts : List D} : gIx (.list (t :: ts)) (.int 0) = some t := gIx_l (i := 0) rfl
theorem gIx_l1 {a t : D} {ts : List D} : gIx (.list (a :: t :: ts)) (.int 1) = some t := gIx_l (i := 1) rfl
theorem gIx_l2 {a b t : D} {ts : List D} : gIx (.list (a :: b :: t :: ts)) (.int 2) = some t := gIx_l (i := 2) rfl
end
/-! ### fractions -/
def fr (n m : Int) : D := .tuple [.int n, .int m]
def fq (q : Rat) : D := fr q.num q.den
structure Sq (k : Nat) (q : Rat) : Prop where
  n : Sz k q.num
  d : Sz k q.den
section
variable {j k : Nat} {p q : Rat} {n m : Int}
theorem Sq.mono (h : Sq j q) (hk : j ≤ k) : Sq k q := ⟨h.n.mono hk, h.d.mono hk⟩
theorem sq_divInt (hn : Sz k n) (hm : Sz k m) (h0 : m ≠ 0) : Sq k (Rat.divInt n m) := by
  constructor
  · rw [Rat.num_divInt]
    refine hn.le_of ?_
    refine Nat.le_trans (Int.natAbs_ediv_le_natAbs _ _) ?_
    rw [Int.natAbs_mul]
    have : m.sign.natAbs ≤ 1 := by rw [Int.natAbs_sign]; split <;> decide
    exact Nat.le_trans (Nat.mul_le_mul_right _ this) (by rw [Nat.one_mul]; exact Nat.le_refl _)
  · rw [Rat.den_divInt, if_neg h0]
    refine hm.le_of ?_
    rw [Int.natAbs_natCast]
    exact Nat.div_le_self _ _
theorem q_add : p + q = Rat.divInt (p.num * q.den + q.num * p.den) (p.den * q.den) := by
  rw [Rat.add_def, Rat.normalize_eq_mkRat, ← Rat.divInt_ofNat]
  congr 1
theorem q_mul : p * q = Rat.divInt (p.num * q.num) (p.den * q.den) := by
  rw [Rat.mul_def, Rat.normalize_eq_mkRat, ← Rat.divInt_ofNat]
  congr 1
theorem den_ne (q : Rat) : (q.den : Int) ≠ 0 := by
  have := q.den_pos
  omega
theorem den_pos (q : Rat) : 0 < (q.den : Int) := by
  have := q.den_pos
  omega
theorem Sq.add (hp : Sq j p) (hq : Sq k q) : Sq (j + k + 1) (p + q) := by
  rw [q_add]
  refine sq_divInt ((hp.n.mul hq.d).add ((hq.n.mul hp.d).mono (by omega))) ((hp.d.mul hq.d).mono (by omega)) ?_
  exact Int.mul_ne_zero (den_ne p) (den_ne q)
theorem Sq.mul (hp : Sq j p) (hq : Sq k q) : Sq (j + k) (p * q) := by
  rw [q_mul]
  exact sq_divInt (hp.n.mul hq.n) (hp.d.mul hq.d) (Int.mul_ne_zero (den_ne p) (den_ne q))
theorem Sq.neg (hp : Sq j p) : Sq j (-p) := ⟨show Sz j (-p.num) from hp.n.neg, hp.d⟩
theorem Sq.sub (hp : Sq j p) (hq : Sq k q) : Sq (j + k + 1) (p - q) := by
  rw [Rat.sub_eq_add_neg]
  exact hp.add hq.neg
theorem fq_int : fq (n : Int) = fr n 1 := rfl
theorem sq_int (h : Sz k n) (hk : 1 ≤ k) : Sq k (n : Rat) := ⟨h, Sz.mono (j := 1) (by show (1 : Int).natAbs < 2; decide) hk⟩
theorem fr_divInt (h : 0 < m) : fr (n / ((n.natAbs.gcd m.natAbs : Nat) : Int)) (m / ((n.natAbs.gcd m.natAbs : Nat) : Int)) = fq (Rat.divInt n m) := by
  unfold fq
  rw [Rat.num_divInt, Rat.den_divInt, if_neg (by omega), Int.sign_eq_one_of_pos h, Int.one_mul]
  have e : m.gcd n = n.natAbs.gcd m.natAbs := by
    rw [Int.gcd_comm]
    rfl
  rw [e]
  congr 1
  rw [Int.natCast_ediv]
  congr 1
  omega
end
/-! ### single steps of a meaning -/
section
variable {a b s : Sm} {ρ ρ1 : Rho} {w w1 : Ws} {fl : Fl} {t : D} {ts xs : List D} {n N : Nat} {it : Da} {g : Tg} {c : Dt} {d : De}
theorem seq_nx (h : a ρ w = some (.nx, ρ1, w1)) : sSeq a b ρ w = b ρ1 w1 := by unfold sSeq; rw [h]; rfl
theorem seq_rt (h : a ρ w = some (.rt t, ρ1, w1)) : sSeq a b ρ w = some (.rt t, ρ1, w1) := by unfold sSeq; rw [h]; rfl
theorem defP_rt (h : s (rho0 N ts) [] = some (.rt t, ρ1, w1)) (hl : ts.length = n) : defP n N s ts = some t := by unfold defP; rw [if_pos hl, h]; rfl
theorem defP_nx (h : s (rho0 N ts) [] = some (.nx, ρ1, w1)) (hl : ts.length = n) : defP n N s ts = some .none := by unfold defP; rw [if_pos hl, h]; rfl
theorem defW_rt (h : s (some .well :: rho0 N ts) w = some (.rt t, ρ1, w1)) (hl : ts.length = n) : defW n N s ts w = some (t, w1) := by unfold defW; rw [if_pos hl, h]; rfl
theorem defW_nx (h : s (some .well :: rho0 N ts) w = some (.nx, ρ1, w1)) (hl : ts.length = n) : defW n N s ts w = some (.none, w1) := by unfold defW; rw [if_pos hl, h]; rfl
theorem for_eq (h : it ρ w = some (xs, w1)) : sFor it g b ρ w = forGo g b xs ρ w1 := by unfold sFor; rw [h]; rfl
theorem asg_eq (h : d ρ w = some (t, w1)) (hg : g t ρ = some ρ1) : sAsg g d ρ w = some (.nx, ρ1, w1) := by
  unfold sAsg
  rw [h]
  show (g t ρ).map _ = _
  rw [hg]
  rfl
theorem if_t (h : c ρ w = some (true, w1)) : sIf c a b ρ w = a ρ w1 := by unfold sIf; rw [h]; rfl
theorem if_f (h : c ρ w = some (false, w1)) : sIf c a b ρ w = b ρ w1 := by unfold sIf; rw [h]; rfl
theorem ret_eq (h : d ρ w = some (t, w1)) : sRet d ρ w = some (.rt t, ρ, w1) := by unfold sRet; rw [h]; rfl
theorem own_eq {i : Nat} (h : d ρ w = some (.list ts, w1)) (hi : i < ρ.length) : sOwn i d ρ w = some (.nx, ρ.set i (some (.own ts)), w1) := by
  unfold sOwn
  rw [h]
  exact if_pos hi
end
theorem gAdd_l {xs ys : List D} (h : xs.length + ys.length ≤ 100000) : gAdd (.list xs) (.list ys) = some (.list (xs ++ ys)) := by
  show (none : Option D).or ((Option.map PyData.list (if xs.length + ys.length ≤ 100000 then some (xs ++ ys) else none)).or _) = _
  rw [if_pos h]
  rfl
theorem gAdd_t {xs ys : List D} (h : xs.length + ys.length ≤ 100000) : gAdd (.tuple xs) (.tuple ys) = some (.tuple (xs ++ ys)) := by
  show (none : Option D).or ((none : Option D).or (if xs.length + ys.length ≤ 100000 then some (.tuple (xs ++ ys)) else none)) = _
  rw [if_pos h]
  rfl
theorem gMul_t {xs : List D} {k : Int} (h0 : xs ≠ []) (h : 2 ≤ k ∧ k ≤ 1000 ∧ xs.length ≤ 1000) : gMul (.tuple xs) (.int k) = some (.tuple (List.replicate k.toNat xs).flatten) := by
  show (none : Option D).or ((none : Option D).or (if decide (xs ≠ [] ∧ 2 ≤ k ∧ k ≤ 1000 ∧ xs.length ≤ 1000) then some (.tuple (List.replicate k.toNat xs).flatten) else none)) = _
  rw [if_pos (decide_eq_true ⟨h0, h⟩)]
  rfl
theorem gStr_eq {i : Int} (h : Sz 1900 i) : gStr [.int i] = some (.str (toString i)) := if_pos (Nat.lt_of_lt_of_le (h.log (by decide)) (by decide))
theorem gList_t {xs : List D} : gList [.tuple xs] = some xs := rfl
theorem gTuple_l {xs : List D} : gTuple [.list xs] = some (.tuple xs) := rfl
theorem cut_to {xs : List D} (k : Nat) : cutD xs none (some (k : Int)) = xs.take k := by
  unfold cutD
  rw [HT.sIx_none, HT.sIx_nat, Nat.sub_zero, List.drop_zero, List.take_eq_take_iff]
  omega
theorem cut_from {xs : List D} (k : Nat) : cutD xs (some (k : Int)) none = xs.drop k := by
  unfold cutD
  rw [HT.sIx_none, HT.sIx_nat]
  rcases Nat.le_total k xs.length with h | h
  · rw [Nat.min_eq_left h]
    exact List.take_of_length_le (by rw [List.length_drop]; exact Nat.le_refl _)
  · rw [Nat.min_eq_right h, List.drop_of_length_le (Nat.le_refl _), List.drop_of_length_le h, List.take_nil]
section
variable {a b d : De} {r : Da} {ρ : Rho} {w w1 w2 : Ws} {t u x : D} {ts us : List D}
theorem nil_eq : dNil ρ w = some ([], w) := rfl
theorem cons_eq (h : d ρ w = some (t, w1)) (hr : r ρ w1 = some (ts, w2)) : dCons d r ρ w = some (t :: ts, w2) := by
  unfold dCons
  rw [h]
  show (r ρ w1).map _ = _
  rw [hr]
  rfl
theorem pri_eq {f : List D → Option D} (h : r ρ w = some (ts, w1)) (hf : f ts = some t) : dPri f r ρ w = some (t, w1) := by
  unfold dPri
  rw [h]
  show (f ts).map _ = _
  rw [hf]
  rfl
theorem pri1_eq {f : List D → Option D} (h : d ρ w = some (u, w1)) (hf : f [u] = some t) : dPri f (dCons d dNil) ρ w = some (t, w1) := pri_eq (cons_eq h nil_eq) hf
theorem bin_eq {f : D → D → Option D} (ha : a ρ w = some (t, w1)) (hb : b ρ w1 = some (u, w2)) (hf : f t u = some x) : dBin f a b ρ w = some (x, w2) := by
  unfold dBin
  rw [ha]
  show (b ρ w1).bind _ = _
  rw [hb]
  show (f t u).map _ = _
  rw [hf]
  rfl
theorem un_eq {f : D → Option D} (ha : a ρ w = some (t, w1)) (hf : f t = some x) : dUn f a ρ w = some (x, w1) := by
  unfold dUn
  rw [ha]
  show (f t).map _ = _
  rw [hf]
  rfl
theorem tup_eq (h : r ρ w = some (ts, w1)) (hl : ts.length ≤ 100000) : dTup r ρ w = some (.tuple ts, w1) := by
  unfold dTup
  rw [h]
  exact if_pos hl
theorem lst_eq (h : r ρ w = some (ts, w1)) (hl : ts.length ≤ 100000) : dLst r ρ w = some (.list ts, w1) := by
  unfold dLst
  rw [h]
  exact if_pos hl
theorem callP_eq {F : List D → Option D} (h : r ρ w = some (ts, w1)) (hf : F ts = some t) : dCallP F r ρ w = some (t, w1) := by
  unfold dCallP
  rw [h]
  show (F ts).map _ = _
  rw [hf]
  rfl
theorem callK_eq {F : List D → Option D} {π : List Nat} (h : r ρ w = some (ts, w1)) (hf : F (perm π ts) = some t) : dCallK π F r ρ w = some (t, w1) := by
  unfold dCallK
  rw [h]
  show (F (perm π ts)).map _ = _
  rw [hf]
  rfl
theorem callW_eq {F : List D → Ws → Option (D × Ws)} {i : Nat} (hi : ρ[i]? = some (some .well)) (h : r ρ w = some (ts, w1)) (hf : F ts w1 = some (t, w2)) : dCallW i F r ρ w = some (t, w2) := by
  unfold dCallW
  rw [hi]
  show (r ρ w).bind _ = _
  rw [h]
  exact hf
theorem var_eq {i : Nat} (hi : ρ[i]? = some (some (.val t))) : dVar i ρ w = some (t, w) := by
  unfold dVar
  rw [hi]
end
/-! ### comprehensions by their items -/
section
variable {vs : List Nat} {it : Da} {g : Tg} {c : Dt} {e : De} {ρ : Rho} {w w1 : Ws} {xs : List D}
theorem compGo_pure {ρ0 : Rho} {p : D → Bool} {f : D → D} : ∀ {xs : List D}, (∀ t ∈ xs, ∃ ρ', g t ρ0 = some ρ' ∧ c ρ' w = some (p t, w) ∧ (p t = true → e ρ' w = some (f t, w))) → compGo ρ0 g c e xs w = some ((xs.filter p).map f, w)
  | [], _ => rfl
  | t :: ts, h => by
    obtain ⟨ρ', h1, h2, h3⟩ := h t (List.mem_cons_self ..)
    have ih := compGo_pure (xs := ts) fun u hu => h u (List.mem_cons_of_mem _ hu)
    unfold compGo
    rw [h1]
    show (c ρ' w).bind _ = _
    rw [h2]
    show (if p t = true then _ else _) = _
    cases hp : p t with
    | true =>
      rw [if_pos rfl, h3 hp]
      show (compGo ρ0 g c e ts w).map _ = _
      rw [ih, List.filter_cons_of_pos hp]
      rfl
    | false =>
      rw [if_neg (by decide), ih, List.filter_cons_of_neg (by rw [hp]; decide)]
theorem comp_pure {p : D → Bool} {f : D → D} (hit : it ρ w = some (xs, w1)) (hl : xs.length ≤ 100000)
    (h : ∀ t ∈ xs, ∃ ρ', g t (wipeR ρ vs) = some ρ' ∧ c ρ' w1 = some (p t, w1) ∧ (p t = true → e ρ' w1 = some (f t, w1))) : dComp vs it g c e ρ w = some (.list ((xs.filter p).map f), w1) := by
  unfold dComp
  rw [hit]
  show (if xs.length ≤ 100000 then _ else none) = _
  rw [if_pos hl, compGo_pure h]
  rfl
/-- no test -/
theorem comp_map {f : D → D} (hit : it ρ w = some (xs, w1)) (hl : xs.length ≤ 100000)
    (h : ∀ t ∈ xs, ∃ ρ', g t (wipeR ρ vs) = some ρ' ∧ e ρ' w1 = some (f t, w1)) : dComp vs it g dYes e ρ w = some (.list (xs.map f), w1) := by
  rw [comp_pure (p := fun _ => true) (f := f) hit hl fun t ht => by
    obtain ⟨ρ', h1, h2⟩ := h t ht
    exact ⟨ρ', h1, rfl, fun _ => h2⟩]
  rw [List.filter_eq_self.mpr fun _ _ => rfl]
theorem compGo_draw {ρ0 : Rho} {P : D → Prop} {I : Nat → Ws → Prop} {N : Nat} : ∀ {xs : List D} {n : Nat} {w : Ws}, I n w → n + xs.length ≤ N → (∀ t ∈ xs, ∀ m w, m < N → I m w → ∃ ρ' u w', g t ρ0 = some ρ' ∧ e ρ' w = some (u, w') ∧ P u ∧ I (m + 1) w') →
    ∃ ts w', compGo ρ0 g dYes e xs w = some (ts, w') ∧ ts.length = xs.length ∧ (∀ t ∈ ts, P t) ∧ I (n + xs.length) w'
  | [], n, w, hi, _, _ => ⟨[], w, rfl, rfl, fun _ h => by simp at h, hi⟩
  | t :: ts, n, w, hi, hN, h => by
    rw [List.length_cons] at hN
    obtain ⟨ρ', u, w', h1, h2, h3, h4⟩ := h t (List.mem_cons_self ..) n w (by omega) hi
    obtain ⟨us, w2, e1, e2, e3, e4⟩ := compGo_draw (xs := ts) h4 (by omega) fun v hv => h v (List.mem_cons_of_mem _ hv)
    refine ⟨u :: us, w2, ?_, by simp [e2], fun v hv => ?_, by rw [List.length_cons, show n + (ts.length + 1) = n + 1 + ts.length by omega]; exact e4⟩
    · unfold compGo
      rw [h1]
      show (e ρ' w).bind _ = _
      rw [h2]
      show (compGo ρ0 g dYes e ts w').map _ = _
      rw [e1]
      rfl
    · rcases List.mem_cons.mp hv with rfl | hv
      · exact h3
      · exact e3 v hv
theorem comp_draw {P : D → Prop} {I : Nat → Ws → Prop} (hit : it ρ w = some (xs, w1)) (hl : xs.length ≤ 100000) (hi : I 0 w1)
    (h : ∀ t ∈ xs, ∀ m w, m < xs.length → I m w → ∃ ρ' u w', g t (wipeR ρ vs) = some ρ' ∧ e ρ' w = some (u, w') ∧ P u ∧ I (m + 1) w') : ∃ ts w', dComp vs it g dYes e ρ w = some (.list ts, w') ∧ ts.length = xs.length ∧ (∀ t ∈ ts, P t) ∧ I xs.length w' := by
  obtain ⟨ts, w', e1, e2, e3, e4⟩ := compGo_draw (N := xs.length) hi (by omega) h
  rw [Nat.zero_add] at e4
  refine ⟨ts, w', ?_, e2, e3, e4⟩
  unfold dComp
  rw [hit]
  show (if xs.length ≤ 100000 then _ else none) = _
  rw [if_pos hl, e1]
  rfl
end
theorem gEq_nil {xs : List D} : gEq (.list xs) (.list []) = some (.bool xs.isEmpty) := by
  cases xs with
  | nil => kernel_rfl
  | cons x xs => rfl
theorem gNe_nil {xs : List D} : gNe (.list xs) (.list []) = some (.bool (!xs.isEmpty)) := by
  cases xs with
  | nil => kernel_rfl
  | cons x xs => rfl
theorem dItems_l {d : De} {ρ : Rho} {w w1 : Ws} {xs : List D} (h : d ρ w = some (.list xs, w1)) : dItems d ρ w = some (xs, w1) := by unfold dItems; rw [h]; rfl
theorem dItems_t {d : De} {ρ : Rho} {w w1 : Ws} {xs : List D} (h : d ρ w = some (.tuple xs, w1)) : dItems d ρ w = some (xs, w1) := by unfold dItems; rw [h]; rfl
theorem mapM_bool {p : D → Bool} : ∀ ts : List D, (ts.map fun t => (.bool (p t) : D)).mapM asBool = some (ts.map p)
  | [] => rfl
  | t :: ts => by
    rw [List.map_cons, List.mapM_cons, mapM_bool ts]
    rfl
theorem gAll_map {p : D → Bool} (ts : List D) : gAll [.list (ts.map fun t => .bool (p t))] = some (.bool (ts.all p)) := by
  show ((ts.map fun t => (.bool (p t) : D)).mapM asBool).map _ = _
  rw [mapM_bool]
  show some (PyData.bool ((ts.map p).all id)) = _
  rw [List.all_map]
  rfl
theorem mapM_any {p : D → Bool} (ts : List D) : gAny [.list (ts.map fun t => .bool (p t))] = some (.bool (ts.any p)) := by
  show ((ts.map fun t => (.bool (p t) : D)).mapM asBool).map _ = _
  rw [mapM_bool]
  show some (PyData.bool ((ts.map p).any id)) = _
  rw [List.any_map]
  rfl
theorem dRng1_eq {r : Da} {ρ : Rho} {w w1 : Ws} {j : Int} (h : r ρ w = some ([.int j], w1)) (h0 : 0 ≤ j) (h1 : j < 1000000000) : dRng1 r ρ w = some (rangeL 0 j, w1) := by
  have hr : rOk j = true := decide_eq_true ⟨by omega, by omega⟩
  unfold dRng1
  rw [h]
  exact if_pos hr
theorem rangeL_len {j : Int} : (rangeL 0 j).length = j.toNat := by
  unfold rangeL
  rw [List.length_map, List.length_range, Int.sub_zero]
theorem mem_range {j : Int} {t : D} (h : t ∈ rangeL 0 j) : ∃ k : Nat, t = .int k ∧ (k : Int) < j := by
  unfold rangeL at h
  obtain ⟨k, hk, rfl⟩ := List.mem_map.mp h
  rw [List.mem_range] at hk
  exact ⟨k, by rw [Int.zero_add], by omega⟩
/-- a loop that goes on, by its turns -/
theorem forGo_inv {g : Tg} {body : Sm} {w : Ws} {Q : Nat → Rho → Prop} {N : Nat} : ∀ {xs : List D} {m : Nat} {ρ : Rho}, (∀ t ∈ xs, ∀ m ρ, m < N → Q m ρ → ∃ ρ1 ρ2, g t ρ = some ρ1 ∧ body ρ1 w = some (.nx, ρ2, w) ∧ Q (m + 1) ρ2) → m + xs.length ≤ N → Q m ρ → ∃ ρ', forGo g body xs ρ w = some (.nx, ρ', w) ∧ Q (m + xs.length) ρ'
  | [], m, ρ, _, _, hq => ⟨ρ, rfl, hq⟩
  | t :: ts, m, ρ, h, hN, hq => by
    rw [List.length_cons] at hN
    obtain ⟨ρ1, ρ2, h1, h2, h3⟩ := h t (List.mem_cons_self ..) m ρ (by omega) hq
    obtain ⟨ρ', e1, e2⟩ := forGo_inv (fun u hu => h u (List.mem_cons_of_mem _ hu)) (by omega) h3
    refine ⟨ρ', ?_, by rw [List.length_cons, show m + (ts.length + 1) = m + 1 + ts.length by omega]; exact e2⟩
    unfold forGo
    rw [h1]
    show (body ρ1 w).bind _ = _
    rw [h2]
    exact e1
theorem for_inv {it : Da} {g : Tg} {body : Sm} {w w1 : Ws} {ρ : Rho} {xs : List D} (Q : Nat → Rho → Prop) (hit : it ρ w = some (xs, w1)) (h0 : Q 0 ρ) (h : ∀ t ∈ xs, ∀ m ρ, m < xs.length → Q m ρ → ∃ ρ1 ρ2, g t ρ = some ρ1 ∧ body ρ1 w1 = some (.nx, ρ2, w1) ∧ Q (m + 1) ρ2) : ∃ ρ', sFor it g body ρ w = some (.nx, ρ', w1) ∧ Q xs.length ρ' := by
  obtain ⟨ρ', e, q⟩ := forGo_inv (N := xs.length) (m := 0) h (by omega) h0
  rw [Nat.zero_add] at q
  exact ⟨ρ', by rw [for_eq hit]; exact e, q⟩
theorem forGo_cons {g : Tg} {body : Sm} {t : D} {ts : List D} {ρ ρ1 ρ2 : Rho} {w w1 : Ws} (h1 : g t ρ = some ρ1) (h2 : body ρ1 w = some (.nx, ρ2, w1)) : forGo g body (t :: ts) ρ w = forGo g body ts ρ2 w1 := by
  conv => lhs; unfold forGo
  rw [h1]
  show (body ρ1 w).bind _ = _
  rw [h2]
  rfl
theorem repr_two (b : Bool) : ∃ s : Str, gRepr [.list [.bool b, .bool b]] = some (.str s) ∧ gNe (.str s) (.str s) = some (.bool false) := by
  cases b with
  | true => exact ⟨PyData.shown (.list [.bool true, .bool true]), by kernel_rfl, by kernel_rfl⟩
  | false => exact ⟨PyData.shown (.list [.bool false, .bool false]), by kernel_rfl, by kernel_rfl⟩
theorem tr_eq {d : De} {ρ : Rho} {w w1 : Ws} {t : D} {b : Bool} (h : d ρ w = some (t, w1)) (ht : truth t = some b) : dTr d ρ w = some (b, w1) := by
  unfold dTr
  rw [h]
  show (truth t).map _ = _
  rw [ht]
  rfl
theorem app_eq {i : Nat} {d : De} {ρ : Rho} {w w1 : Ws} {t : D} {ts : List D} (h : d ρ w = some (t, w1)) (hi : ρ[i]? = some (some (.own ts))) (hl : ts.length < 100000) : sApp i d ρ w = some (.nx, ρ.set i (some (.own (ts ++ [t]))), w1) := by
  unfold sApp
  rw [h]
  show (match ρ[i]? with
    | some (some (.own ts)) => if ts.length < 100000 then some (Fl.nx, ρ.set i (some (.own (ts ++ [t]))), w1) else none
    | _ => none) = _
  rw [hi]
  exact if_pos hl
/-! ### data with numbers of bounded size -/
mutual
def Bd (k : Nat) : D → Prop
  | .int i => Sz k i
  | .list ts => BdL k ts
  | .tuple ts => BdL k ts
  | _ => True
def BdL (k : Nat) : List D → Prop
  | [] => True
  | t :: ts => Bd k t ∧ BdL k ts
end
theorem bdL_iff {k : Nat} : ∀ {ts : List D}, BdL k ts ↔ ∀ t ∈ ts, Bd k t
  | [] => by simp [BdL]
  | t :: ts => by simp [BdL, bdL_iff (ts := ts)]
theorem bd_fq {k : Nat} {q : Rat} (h : Sq k q) : Bd k (fq q) := ⟨h.n, h.d, trivial⟩
/-! ### what has the form of a fraction, a side, a field -/
def isW : D → Bool
  | .int _ => true
  | _ => false
def isFr : D → Bool
  | .tuple [.int n, .int m] => decide (0 < m) && (Nat.gcd n.natAbs m.natAbs == 1)
  | _ => false
def num : D → Int
  | .tuple (.int n :: _) => n
  | _ => 0
def isEdge : D → Bool
  | .tuple [a, b, c] => isFr a && isFr b && isFr c && (!(num a == 0) || !(num b == 0))
  | _ => false
def isLand : D → Bool
  | .tuple ts => decide (1 ≤ ts.length) && decide (ts.length ≤ 5) && ts.all isEdge
  | _ => false
theorem isFr_fq (q : Rat) : isFr (fq q) = true := by
  unfold fq fr isFr
  have h1 := q.den_pos
  have h2 : q.num.natAbs.gcd q.den = 1 := q.reduced
  simp [h1, h2]
theorem of_isFr {t : D} (h : isFr t = true) : ∃ q : Rat, t = fq q := by
  unfold isFr at h
  split at h
  · rename_i n m
    simp at h
    obtain ⟨h1, h2⟩ := h
    refine ⟨⟨n, m.natAbs, by omega, h2⟩, ?_⟩
    unfold fq fr
    simp
    omega
  · cases h
/-! ### Euclid's steps -/
theorem gcd_step (a b : Nat) : Nat.gcd b (a % b) = Nat.gcd a b := by rw [Nat.gcd_comm a b, Nat.gcd_rec b a, Nat.gcd_comm]
end Mi
namespace L2
open PySem PySem.Spec PyProof.Rows
def rAnyI (K : PySem.W.Frag) : List V → Hp → VK → Prop := fun vs H Q => ∃ (a : Addr) (ns : List Int), vs = [V.ref a] ∧ SqL K H a (ns.map V.int) ∧ Q (.bl (ns.any fun z => z != 0)) H
theorem vals_intsX : ∀ {ns : List Int} {us : List Value}, Vals (ns.map V.int) us → ∀ (i : Nat) (u : Value), us[i]? = some u → ∃ t, u = .int (ns.getD i 0) t
  | [], us, r, i, u, e => by
    cases r
    simp at e
  | n :: ns, us, r, i, u, e => by
    cases r with
    | cons h r =>
      cases i with
      | zero =>
        rw [List.getElem?_cons_zero] at e
        cases e
        exact h
      | succ i =>
        rw [List.getElem?_cons_succ] at e
        exact vals_intsX r i u e
theorem truth_ints {prog : Program} {w : World} {A : Around} {ns : List Int} {its : List Value} (r : Vals (ns.map V.int) its) :
    TruthOf prog w A (fun i v => its.toArray[i]? = some v) (fun i => ns.getD i 0 != 0) := fun i v s Q E hv hq => by
  have hv' : its[i]? = some v := by simpa using hv
  obtain ⟨t, rfl⟩ := vals_intsX r i v hv'
  exact truthy_int hq
theorem any_rangeI : ∀ ns : List Int, (List.range ns.length).any (fun i => ns.getD i 0 != 0) = ns.any fun z => z != 0
  | [] => rfl
  | b :: bs => by
    rw [List.length_cons, List.range_succ_eq_map, List.any_cons, List.any_map, List.any_cons, ← any_rangeI bs]
    all_goals rfl
theorem cr_anyI {X : Cx} (hc : X.calm = true) : CallR X (.builtin "any") (rAnyI X.K) := by
  intro pins s σ H vs us Q I r h
  obtain ⟨a, ns, rfl, hs, q⟩ := h
  obtain ⟨its, rv, hl, _⟩ := I.list hs
  rw [Vals.ref1 r]
  refine call_any_walk (iter_any hl.isList fun s₂ e2 st hne => ?_)
  subst e2
  refine ⟨_, _, _, _, _, _, _, rfl, Walks.list (A := X.A.in1) (I.ok.hd hc) _ a hne its.toArray, st, truth_ints rv, fun h' tk hk => ?_⟩
  refine ⟨.bl _, H, I.kept fun b o eo => hk b o (fun hmem => ?_) (Heap.get?_push_of_some _ eo), ?_, q⟩
  · rcases List.mem_cons.mp hmem with e1 | hmem
    · exact absurd (e1 ▸ Heap.lt_size eo) (Nat.lt_irrefl _)
    · cases hmem
  · show Value.bool _ = Value.bool _
    have hl2 : its.length = ns.length := by
      have := rv.length
      rw [List.length_map] at this
      exact this.symm
    rw [← any_rangeI, List.size_toArray, hl2]
end L2
namespace Mi
open PySem PySem.Spec PyProof.Rows L2
/-! ### any() of whole numbers -/
def gAnyI : List D → Option D
  | [.list xs] => (xs.mapM asInt).map fun ns => .bool (ns.any fun z => z != 0)
  | _ => none
theorem cas_anyI {X : Cx} (hc : X.calm = true) : CaS X (.builtin "any") gAnyI := by
  refine ⟨_, cr_anyI hc, fun aw B w H ts c xs Q o ha e k => ?_⟩
  unfold gAnyI at e
  split at e
  · obtain ⟨ns, e1, rfl⟩ := Option.map_eq_some_iff.mp e
    have := map_asInt e1
    subst this
    obtain ⟨x, rfl, hx⟩ := ha.one
    obtain ⟨p, vs, rfl, _, h1, r1⟩ := hx.lst o
    have := rpl_ints r1
    subst this
    exact ⟨p, ns, rfl, SqL.of h1, k _ _ o.stp rp_bl⟩
  · cases e
/-- one of two -/
def gEls (f g : List D → Option D) (xs : List D) : Option D := match f xs with | some v => some v | none => g xs
theorem cas_els {X : Cx} {c : Value} {f g : List D → Option D} (hf : CaS X c f) (hg : CaS X c g) : CaS X c (gEls f g) := by
  obtain ⟨R, h1, h2⟩ := hf
  obtain ⟨S, h3, h4⟩ := hg
  refine ⟨_, h1.or h3, fun aw B w H ts c xs Q o ha e k => ?_⟩
  unfold gEls at e
  split at e
  · next v e1 => cases e; exact .inl (h2 _ _ _ _ _ _ _ _ o ha e1 k)
  · exact .inr (h4 _ _ _ _ _ _ _ _ o ha e k)
def gAnyX : List D → Option D := gEls gAny gAnyI
theorem cas_anyX {X : Cx} (hc : X.calm = true) : CaS X (.builtin "any") gAnyX := cas_els (cas_any hc) (cas_anyI hc)
theorem mapM_intsP {p : D → Int} : ∀ ts : List D, (ts.map fun t => (.int (p t) : D)).mapM asInt = some (ts.map p)
  | [] => rfl
  | t :: ts => by
    rw [List.map_cons, List.mapM_cons, mapM_intsP ts]
    rfl
theorem any_ints {p : D → Int} (ts : List D) : gAnyX [.list (ts.map fun t => .int (p t))] = some (.bool (ts.any fun t => p t != 0)) := by
  have h2 : gAnyI [.list (ts.map fun t => .int (p t))] = some (.bool (ts.any fun t => p t != 0)) := by
    show (((ts.map fun t => (.int (p t) : D)).mapM asInt).map fun ns => (.bool (ns.any fun z => z != 0) : D)) = _
    rw [mapM_intsP, Option.map_some, List.any_map]
    rfl
  cases ts with
  | nil => rfl
  | cons t ts =>
    show (match gAny [.list ((t :: ts).map fun t => .int (p t))] with | some v => some v | none => gAnyI [.list ((t :: ts).map fun t => .int (p t))]) = _
    rw [h2]
    rfl
theorem mapM_anyX {p : D → Bool} (ts : List D) : gAnyX [.list (ts.map fun t => .bool (p t))] = some (.bool (ts.any p)) := by
  show (match gAny [.list (ts.map fun t => .bool (p t))] with | some v => some v | none => gAnyI [.list (ts.map fun t => .bool (p t))]) = _
  rw [mapM_any]
end Mi
namespace L2
open PySem PySem.Spec PyProof.Rows HT
section
variable {prog : Program} {w : World} {A : Around} {E : Value → Shared → Prop} {s : Shared}
theorem noI_tuple_add : typeLookup (.type "tuple") (dunderI "add") = pure none := by rw [typeLookup_type, builtinLookup_eq_fast]; kernel_rfl
theorem iconcat_meets {T id : String} {B : Builtin} {a b : Value} {S : PySem.Spec} {Q : Value → Shared → Prop} (ha : s.TypeIs a T) (hb : s.TypeIs b T) (hno : typeLookup (.type T) (dunderI "add") = pure none)
    (hfill : fillsNumberSlot (.type T) "add" = pure false) (hseq : seqSlot? (.type T) "__add__" = pure (some (.builtin id))) (slot : Slot T "__add__" id)
    (entry : entryFor table id = some B) (args : argsOk id ⟨[a, b], []⟩) (g : Meets (B ⟨[a, b], []⟩) S) (h : S A (wants Q E) s) : wpAny (model prog w) A (inplaceOp .Add a b) Q E s :=
  wpAny_inplaceOp_concat ha hb hno hfill hseq (call_meets slot ha entry args g h)
theorem icat_tup {t b : Addr} {vs ws : List Value} {Q : Value → Shared → Prop} (ht : IsTup s.heap t vs.toArray) (hb : IsTup s.heap b ws.toArray)
    (h0 : vs = [] → Q (.ref b) s) (h1 : vs ≠ [] → ws = [] → Q (.ref t) s) (h2 : vs ≠ [] → ws ≠ [] → Q (.ref s.heap.objs.size) { s with heap := s.heap.push { cls := .type "tuple", data := .seq (vs ++ ws).toArray } })
    (hsz : vs.length + ws.length ≤ sizeLine) : wpAny (model prog w) A (inplaceOp .Add (.ref t) (.ref b)) Q E s := by
  obtain ⟨⟨cls, dd, data, sl⟩, ho, hc, n, hd⟩ := id ht
  obtain ⟨⟨cls2, dd2, data2, sl2⟩, ho2, hc2, n2, hd2⟩ := id hb
  simp only at hc hd hc2 hd2
  subst hc hd hc2 hd2
  have e : vs.toArray ++ ws.toArray = (vs ++ ws).toArray := by simp
  by_cases hv : vs = []
  · exact iconcat_meets ⟨_, ho, rfl⟩ ⟨_, ho2, rfl⟩ noI_tuple_add noFill_tuple_add seq_tuple_add PySem.F.slot_tuple_add PySem.F.entry_tuple_add (PySem.F.args_tuple_add_2 _ _)
      (tuple_addW0 t b vs.toArray ws.toArray n n2 dd dd2 sl sl2 (by simp [hv])) ⟨ho, ho2, h0 hv⟩
  · by_cases hw : ws = []
    · exact iconcat_meets ⟨_, ho, rfl⟩ ⟨_, ho2, rfl⟩ noI_tuple_add noFill_tuple_add seq_tuple_add PySem.F.slot_tuple_add PySem.F.entry_tuple_add (PySem.F.args_tuple_add_2 _ _)
        (tuple_addW1 t b vs.toArray ws.toArray n n2 dd dd2 sl sl2 (by simpa using hv) (by simp [hw])) ⟨ho, ho2, h1 hv hw⟩
    · refine iconcat_meets ⟨_, ho, rfl⟩ ⟨_, ho2, rfl⟩ noI_tuple_add noFill_tuple_add seq_tuple_add PySem.F.slot_tuple_add PySem.F.entry_tuple_add (PySem.F.args_tuple_add_2 _ _)
        (tuple_addW2 t b vs.toArray ws.toArray n n2 dd dd2 sl sl2 (by simpa using hv) (by simpa using hw) (by rw [List.size_toArray, List.size_toArray]; exact hsz)) ⟨ho, ho2, ?_⟩
      rw [e]
      exact h2 hv hw
end
theorem iop_catA {X : Cx} : OpR X (inplaceOp .Add) (rCatA X.K) := by
  intro pins s σ H x y v u Q I rx ry h
  obtain ⟨a, b, xs, ys, rfl, rfl, ha, hb, hz, q0, q1, q2⟩ := h
  cases rx
  cases ry
  obtain ⟨its, r1, p1, _⟩ := I.tuple ha
  obtain ⟨its2, r2, p2, _⟩ := I.tuple hb
  refine icat_tup p1 p2 (fun z => ⟨.ref b, H, I, rfl, q0 (r1.nil_iff.mp z)⟩) (fun c z => ⟨.ref a, H, I, rfl, q1 (fun z => c (r1.nil_iff.mpr z)) (r2.nil_iff.mp z)⟩) (fun c z => ?_) (by rw [← r1.length, ← r2.length]; exact hz)
  refine ⟨.ref s.heap.objs.size, _, I.laid (t' := s.toks) (o := .tup (xs ++ ys)) (fun b ob q => Heap.get?_push_of_some _ q) (Nat.le_refl _) ?_, rfl, q2 (fun z => c (r1.nil_iff.mpr z)) (fun w => z (r2.nil_iff.mpr w)) _ (I.hok.fresh (Nat.le_refl _))⟩
  exact ⟨by rw [List.length_append]; exact hz, _, r1.append r2, IsTup.new _ _⟩
end L2
namespace Mi
open PySem PySem.Spec PyProof.Rows L2
section
variable {X : Cx}
theorem room65 {A : Around} {k : Nat} (h : Room k A) : A.units + 65 < cLine := by have := h.un; omega
/-! ### op=, by a name -/
theorem iops_catT : OpS X (inplaceOp .Add) gCatT := by
  refine ⟨_, iop_catA, fun aw B w H a b c x y Q o ha hb e k => ?_⟩
  unfold gCatT at e
  split at e
  · rename_i xs ys
    split at e
    · cases e
      obtain ⟨p, vs, rfl, n1, h1, r1⟩ := ha.tup o
      obtain ⟨q, ws, rfl, n2, h2, r2⟩ := hb.tup o
      refine ⟨p, q, vs, ws, rfl, rfl, SqT.of h1, SqT.of h2, by rw [← r1.len, ← r2.len]; exact sz_le ‹_›, fun e => ?_, fun e1 e2 => ?_, fun e1 e2 z hz => ?_⟩
      · subst e
        have : xs = [] := List.eq_nil_of_length_eq_zero (by simpa using r1.len)
        subst this
        refine k _ _ o.stp ?_
        simp only [Rp]
        exact ⟨q, ws, rfl, n2, h2, r2⟩
      · subst e2
        have : ys = [] := List.eq_nil_of_length_eq_zero (by simpa using r2.len)
        subst this
        refine k _ _ o.stp ?_
        simp only [Rp, List.append_nil]
        exact ⟨p, vs, rfl, n1, h1, r1⟩
      · have s := o.new (u := .tup (vs ++ ws)) hz
        refine k _ _ s ?_
        simp only [Rp]
        exact ⟨z, _, rfl, o.fresh hz, upd_same, (r1.app r2).mv (o.mv s)⟩
    · cases e
  · cases e
def gIAdd : D → D → Option D := fun a b => (gI (fun _ _ => true) (fun i j => .int (i + j)) a b).or (gCatT a b)
theorem iops_add : OpS X (inplaceOp .Add) gIAdd := (opsI0 iop_add fun _ _ _ _ => rp_int).or iops_catT
theorem iops_sub : OpS X (inplaceOp .Sub) gSub := opsI0 iop_sub fun _ _ _ _ => rp_int
def gShl : D → D → Option D := gI (fun i j => decide (0 ≤ j ∧ (Builtin.Int.intBits i : Int) + j ≤ 2 ^ 27)) fun i j => .int (i * 2 ^ j.toNat)
theorem ops_shl : OpS X (binaryOp .LShift) gShl := opsI op_shlW (fun i j h => by unfold CShl; exact of_decide_eq_true h) fun _ _ _ _ => rp_int
variable {op : Operator} {x : Str} {e : Expr} {d : De} {i : Nat} {pos pos' : Pos} {f : D → D → Option D}
theorem aug_go {r2 : R2} (h2 : ∀ (aw : Option Addr) (B : Addr → Prop) (w : Ws) (H : Hp) (a b c : D) (x y : V) (Q : VK),
      Ok aw B w H → Rq aw H B a x → Rq aw H B b y → f a b = some c → (∀ v H', Stp aw H H' w → Rp H' B c v → Q v H') → r2 x y H Q) {D : Ends} {σ : L2.St} {H : Hp} :
    tS (sAsg (gNm i) (dBin f (dVar i) d)) D σ H → tAug i (tE d) r2 D σ H := fun q => by
  have q := asg_go (tgs_nm (i := i)) q
  obtain ⟨aw, B, ρ, w, t, w', r, q1, k⟩ := q
  obtain ⟨a, w1, b, e1, e2, e3⟩ := bin_open q1
  unfold dVar at e1
  split at e1
  · rename_i t0 eo
    cases e1
    obtain ⟨v, ev, rp⟩ := r.cell i _ eo
    refine ⟨v, ev, aw, B, ρ, w, b, w', r, e2, fun y H1 s1 rpy => ?_⟩
    refine h2 aw B w' H1 a b t v y _ (r.step s1).toOk (.inl (rp.mv (r.toOk.mv s1))) (.inl rpy) e3 fun z H2 s2 rpz => ?_
    obtain ⟨aw', B', ρ', w'', t', ρ1, r', rp', q3, k'⟩ := k z H2 (s1.trans s2) rpz
    unfold gNm at q3
    split at q3
    · rename_i hl
      cases q3
      refine k' _ (r'.put rp' hl) ⟨by rw [List.length_set], fun j n => by rw [List.getElem?_set_ne (by simpa using Ne.symm (by simpa using n))]⟩ ?_
      intro j hj c e
      have : j = i := by simpa using hj
      subst this
      rw [List.getElem?_set_self hl] at e
      cases e
      exact ⟨t', rfl⟩
    · cases q3
  · cases e1
theorem s_aug (hN : X.N.Nodup) (hi : X.N[i]? = some x) (hx : Loc X.env.scope x) (he : PE X e (tE d)) (ho : OpS X (inplaceOp op) f) (hf : X.fn x = true ∨ X.env.scope.names.lookup x = some .local) :
    PS X (.AugAssign (.Name x pos') op e pos) (tS (sAsg (gNm i) (dBin f (dVar i) d))) := by
  obtain ⟨r2, h1, h2⟩ := ho
  exact PS.weak (ps_aug hN hi hx he h1 hf) fun D σ H q => aug_go h2 q
/-! ### a list of the def's own, made longer by a new one -/
def sExt (i : Nat) (d : De) : Sm := fun ρ w => (d ρ w).bind fun p => match ρ[i]?, p.1 with
  | some (some (.own ts)), .list us => if ts.length + us.length ≤ 100000 then some (.nx, ρ.set i (some (.own (ts ++ us))), p.2) else none
  | _, _ => none
theorem ext_go {D : Ends} {σ : L2.St} {H : Hp} (h : tS (sExt i d) D σ H) : ∃ p xs, σ[i]? = some (some (.ref p)) ∧ SqL X.K H p xs ∧ tF d σ H fun y H1 => ∃ b zs vs, y = .ref b ∧ H1 p = some (.lst vs) ∧ H1 b = some (.lst zs) ∧ vs.length + zs.length ≤ sizeLine ∧ D.nx σ (upd H1 p (.lst (vs ++ zs))) := by
  obtain ⟨aw, B0, H0, B, ρ, w, fl, ρ', w', r, q, k⟩ := h
  obtain ⟨⟨t, w1⟩, q1, q2⟩ := Option.bind_eq_some_iff.mp q
  dsimp only at q2
  split at q2
  · rename_i ts us eo
    split at q2
    · rename_i hl
      cases q2
      obtain ⟨p, vs, ev, bp, np, hp, rl⟩ := r.cell i _ eo
      refine ⟨p, vs, ev, SqL.of hp, aw, B, ρ, w, us, _, r.toR, q1, fun b zs H1 s1 hb hb1 rz => ?_⟩
      have hp1 := s1.1 p _ hp np
      have r1 := r.step s1
      have rl1 := rl.mv (r.toOk.mv s1)
      have rz1 : RpL H1 B us zs := rz.mv fun a u h1 h2 => ⟨h1, fun b => h2 (.inl b)⟩
      obtain ⟨g1, g2⟩ := r1.grow (ts' := ts ++ us) (vs' := vs ++ zs) eo ev (rl1.app rz1)
      exact ⟨b, zs, vs, rfl, hp1, hb1, by rw [← rl.len, ← rz.len]; exact sz_le hl, k σ _ B g1 ((r.kpB s1).trans g2 .refl) .refl⟩
    · cases q2
  · cases q2
theorem s_ext {apos : Pos} (hN : X.N[i]? = some x) (hv : Vis X.env.scope x) (hd : (x == ("__debug__" : Str)) = false) (hcd : (x == ("__classdict__" : Str)) = false) (he : PE X e (tF d)) {p1 cpos : Pos}
    (hbase : attributeBase (.Name x p1) "extend" X.env (eval (.Name x p1) X.env) = eval (.Name x p1) X.env)
    (hfew : ((backTo cpos (starEach [e] X.env)).all (fun x => !x.1) && (backToKw cpos (keywordEach [] X.env)).all (fun x => x.1.isSome)
      && decide ([e].length + ([] : List Keyword).length + (if ([] : List Keyword).isEmpty then 0 else 1) < 30)) = true)
    (hline : (apos.endLine == cpos.line) = true) (hs : starEach [e] X.env = (false, eval e X.env) :: starEach [] X.env) (hplain : (backTo cpos (starEach [] X.env)).any (·.1) = false)
    (hsw : swapsWith (.Call (.Attribute (.Name x p1) "extend" apos) [e] [] cpos) none pos.line X.env = pure false) :
    PS X (.Expr (.Call (.Attribute (.Name x p1) "extend" apos) [e] [] cpos) pos) (tS (sExt i d)) := by
  refine PS.weak (ps_expr (pe_bm PySem.F.plainAttrs_list PySem.F.slot_list_extend PySem.F.type_list_extend mt_extend (pe_var hN hv hd hcd) (pa_cons he pa_nil hs) hbase hfew hline hs hplain) hsw) fun D σ H h => ?_
  obtain ⟨p, xs, ev, hp, h2⟩ := ext_go (X := X) h
  refine ⟨_, ev, .inl ⟨rfl, xs, hp⟩, ?_⟩
  obtain ⟨aw, B, ρ, w, ts, w', r, q1, k⟩ := h2
  refine ⟨aw, B, ρ, w, ts, w', r, q1, fun b zs H1 s1 hb hb1 rz => ?_⟩
  obtain ⟨b', zs', vs, e1, hp1, hb1', hz, dn⟩ := k b zs H1 s1 hb hb1 rz
  cases e1
  exact ⟨p, b, vs, zs', rfl, rfl, hp1, hb1', hz, dn⟩
theorem s_augL (hN : X.N.Nodup) (hi : X.N[i]? = some x) (hx : Loc X.env.scope x) (he : PE X e (tF d)) (hf : X.fn x = true ∨ X.env.scope.names.lookup x = some .local) :
    PS X (.AugAssign (.Name x pos') .Add e pos) (tS (sExt i d)) := by
  refine PS.weak (ps_aug hN hi hx he iop_ext hf) fun D σ H h => ?_
  obtain ⟨p, xs, ev, hp, h2⟩ := ext_go (X := X) h
  refine ⟨_, ev, ?_⟩
  obtain ⟨aw, B, ρ, w, ts, w', r, q1, k⟩ := h2
  refine ⟨aw, B, ρ, w, ts, w', r, q1, fun b zs H1 s1 hb hb1 rz => ?_⟩
  obtain ⟨b', zs', vs, e1, hp1, hb1', hz, dn⟩ := k b zs H1 s1 hb hb1 rz
  cases e1
  refine ⟨p, b, vs, zs', rfl, rfl, hp1, hb1', hz, ?_⟩
  have : σ.set i (some (.ref p)) = σ := by
    apply List.ext_getElem?
    intro j
    by_cases c : i = j
    · subst c
      have hl : i < σ.length := (List.getElem?_eq_some_iff.mp ev).1
      rw [List.getElem?_set_self hl, ev]
    · rw [List.getElem?_set_ne c]
  show D.nx (σ.set i (some (.ref p))) _
  rw [this]
  exact dn
/-! ### in, list.index -/
def gIn : D → D → Option D
  | d, .list ds => if flat d && flat (.list ds) then some (.bool (ds.any fun z => PyData.eqv z d)) else none
  | _, _ => none
def gNin : D → D → Option D
  | d, .list ds => if flat d && flat (.list ds) then some (.bool (!ds.any fun z => PyData.eqv z d)) else none
  | _, _ => none
theorem ops_in (hu : X.A.units + 65 < cLine) : OpS X (compareOp .In) gIn := by
  refine ⟨_, op_inD hu, fun aw B w H a b c x y Q o ha hb e k => ?_⟩
  unfold gIn at e
  split at e
  · split at e
    · rename_i hf
      cases e
      obtain ⟨⟨n1, n2⟩, s1, s2⟩ := flat_of hf
      exact ⟨a, _, ha.dp n1, hb.dp n2, s1, s2, k _ _ o.stp rp_bl⟩
    · cases e
  · cases e
theorem ops_nin (hu : X.A.units + 65 < cLine) : OpS X (compareOp .NotIn) gNin := by
  refine ⟨_, op_notInD hu, fun aw B w H a b c x y Q o ha hb e k => ?_⟩
  unfold gNin at e
  split at e
  · split at e
    · rename_i hf
      cases e
      obtain ⟨⟨n1, n2⟩, s1, s2⟩ := flat_of hf
      exact ⟨a, _, ha.dp n1, hb.dp n2, s1, s2, k _ _ o.stp rp_bl⟩
    · cases e
  · cases e
theorem bool_in : ∀ x y z, gIn x y = some z → ∃ k, z = .bool k := fun x y z h => by
  unfold gIn at h
  split at h
  · split at h
    · cases h; exact ⟨_, rfl⟩
    · cases h
  · cases h
theorem bool_nin : ∀ x y z, gNin x y = some z → ∃ k, z = .bool k := fun x y z h => by
  unfold gNin at h
  split at h
  · split at h
    · cases h; exact ⟨_, rfl⟩
    · cases h
  · cases h
/-- the first place of an equal one -/
def gIndex : D → D → Option D
  | .list ds, d => if flat d && flat (.list ds) then (match ds.findIdx? fun z => PyData.eqv z d with | some j => some (.int (j : Nat)) | none => none) else none
  | _, _ => none
theorem r_index {o : Expr} {do_ : De} {apos cpos : Pos} (hu : X.A.units + 65 < cLine) (ho : PE X o (tQ do_)) (he : PE X e (tQ d))
    (hbase : attributeBase o "index" X.env (eval o X.env) = eval o X.env)
    (hfew : ((backTo cpos (starEach [e] X.env)).all (fun x => !x.1) && (backToKw cpos (keywordEach [] X.env)).all (fun x => x.1.isSome)
      && decide ([e].length + ([] : List Keyword).length + (if ([] : List Keyword).isEmpty then 0 else 1) < 30)) = true)
    (hline : (apos.endLine == cpos.line) = true) (hs : starEach [e] X.env = (false, eval e X.env) :: starEach [] X.env) (hplain : (backTo cpos (starEach [] X.env)).any (·.1) = false) :
    PE X (.Call (.Attribute o "index" apos) [e] [] cpos) (tE (dBin gIndex do_ d)) := by
  refine PE.weak (pe_bm PySem.F.plainAttrs_list PySem.F.slot_list_index PySem.F.type_list_index (mt_indexD hu) ho (pa_cons he pa_nil hs) hbase hfew hline hs hplain) fun σ H Q h => ?_
  obtain ⟨aw, B, ρ, w, t, w', r, q, kk⟩ := h
  obtain ⟨x, w1, y, e1, e2, e3⟩ := bin_open q
  refine ⟨aw, B, ρ, w, x, w1, r, e1, fun v H1 s1 q1 => ?_⟩
  unfold gIndex at e3
  split at e3
  · split at e3
    · rename_i ds hf
      split at e3
      · rename_i j hj
        cases e3
        obtain ⟨⟨n1, n2⟩, sh1, sh2⟩ := flat_of hf
        obtain ⟨p, vs, rfl, _, h1, r1⟩ := q1.lst (r.step s1).toOk
        refine ⟨.inl ⟨rfl, _, SqL.of h1⟩, aw, B, ρ, w1, y, w', r.step s1, e2, fun u H2 s2 q2 => ?_⟩
        have q1' := q1.step (r.step s1).toOk s2
        obtain ⟨hlt, hyes, hno⟩ := List.findIdx?_eq_some_iff_getElem.mp hj
        exact ⟨p, u, y, ds, j, ds[j], rfl, rfl, q1'.dp n2, q2.dp n1, sh2, sh1, List.getElem?_eq_getElem hlt, hyes, fun m z' hm ez => by
          obtain ⟨hm2, rfl⟩ := List.getElem?_eq_some_iff.mp ez
          simpa using hno m hm, kk _ _ (s1.trans s2) rp_int⟩
      · cases e3
    · cases e3
  · cases e3
end
end Mi
namespace L2
open PySem PySem.Spec PyProof.Rows
theorem op_repT1 {X : Cx} : OpR X (binaryOp .Mult) (fun x y H Q => ∃ (l : Addr) (xs : List V), x = .ref l ∧ y = .int 1 ∧ SqT X.K H l xs ∧ Q (.ref l) H) := by
  intro pins s σ H x y v u Q I rx ry h
  obtain ⟨l, xs, rfl, rfl, hT, q⟩ := h
  cases rx
  obtain ⟨t, rfl⟩ := ry
  obtain ⟨its, r, ⟨⟨cls, dd, data, sl⟩, ho, hc, n, hd⟩, hs⟩ := I.tuple hT
  simp only at hc hd
  subst hc hd
  refine wpAny_binaryOp_repeat_ref (T := "tuple") (U := "int") (by decide) ⟨_, ho, rfl⟩ (fun s' => typeIs_int s' 1 t) noFill_tuple_mul F.fills_int_mul F.slot_int_rmul repeat_tuple F.slot_int_index.lookup
    (call_meets F.slot_int_rmul (typeIs_int s 1 t) F.entry_int_rmul (F.args_int_rmul_2 _ _) (int_rmul_tuple 1 t l its.toArray n dd sl)
      ⟨ho, rfl, ⟨_, ho, rfl⟩, call_meets F.slot_tuple_mul ⟨_, ho, rfl⟩ F.entry_tuple_mul (F.args_tuple_mul_2 _ _) (tuple_mulSame l its.toArray n dd sl 1 t (by decide) (by rw [Bool.or_comm]; rfl)) ⟨ho, ?_⟩⟩)
  exact ⟨.ref l, _, I, rfl, q⟩
end L2
namespace Mi
open PySem PySem.Spec PyProof.Rows L2
def gRep1 : D → D → Option D
  | .tuple xs, .int 1 => some (.tuple xs)
  | _, _ => none
theorem ops_rep1 {X : Cx} : OpS X (binaryOp .Mult) gRep1 := by
  refine ⟨_, op_repT1, fun aw B w H a b c x y Q o ha hb e k => ?_⟩
  unfold gRep1 at e
  split at e
  · cases e
    obtain ⟨p, vs, rfl, n1, h1, r1⟩ := ha.tup o
    refine ⟨p, vs, rfl, hb.int, SqT.of h1, k _ _ o.stp ?_⟩
    simp only [Rp]
    exact ⟨p, _, rfl, n1, h1, r1⟩
  · cases e
def gRepU : D → D → Option D := fun a b => (gRepTT a b).or (gRep1 a b)
theorem ops_repU {X : Cx} : OpS X (binaryOp .Mult) gRepU := ops_repTT.or ops_rep1
theorem gRepU_eq {ts : List D} {k : Int} (h : 1 ≤ k ∧ k ≤ 1000 ∧ ts.length ≤ 1000) : gRepU (.tuple ts) (.int k) = some (.tuple (List.replicate k.toNat ts).flatten) := by
  unfold gRepU
  by_cases c : k = 1
  · subst c
    have e1 : (List.replicate (1 : Int).toNat ts).flatten = ts := by
      show (List.replicate 1 ts).flatten = ts
      simp
    rw [e1]
    have e2 : gRepT (.tuple ts) (.int 1) = none := by
      show (if decide (ts ≠ [] ∧ (2 : Int) ≤ 1 ∧ (1 : Int) ≤ 1000 ∧ ts.length ≤ 1000) then _ else _) = _
      rw [if_neg (by simp)]
    cases ts with
    | nil => rfl
    | cons t ts =>
      unfold gRepTT
      rw [e2]
      rfl
  · rw [gRepTT_eq ⟨by omega, h.2⟩]
    rfl
end Mi
namespace L2
open PySem PySem.Spec PyProof.Rows
def rMaxT (K : PySem.W.Frag) : List V → Hp → VK → Prop := fun vs H Q => ∃ (a : Addr) (n : Int) (ns : List Int), vs = [V.ref a] ∧ SqT K H a ((n :: ns).map V.int) ∧ Q (.int (ns.foldl max n)) H
theorem dpAll_ints {K : PySem.W.Frag} {H : Hp} : ∀ ns : List Int, DpAll K H (ns.map V.int) (ns.map PyData.int)
  | [] => .nil
  | n :: ns => .cons (.int n) (dpAll_ints ns)
theorem depth_ints : ∀ ns : List Int, PyData.depthAll (ns.map PyData.int) = 0
  | [] => rfl
  | n :: ns => by
    show max 0 (PyData.depthAll (ns.map PyData.int)) = 0
    rw [depth_ints ns]
    rfl
theorem cr_maxT {X : Cx} (hc : X.calm = true) (hu : X.A.units + 1 < cLine) : CallR X (.builtin "max") (rMaxT X.K) := by
  intro pins s σ H vs us Q I r h
  obtain ⟨a, n, ns, rfl, hs, q⟩ := h
  obtain ⟨its, rv, hl, _⟩ := I.tuple hs
  rw [Vals.ref1 r]
  obtain ⟨as, h4⟩ := Dp.readsAll I ((n :: ns).map PyData.int) _ its (dpAll_ints (n :: ns)) rv
  have al : PySem.W.AlikeAll ((n :: ns).map PyData.int) := by
    refine ⟨fun x hx y hy => ?_, fun x hx => ?_⟩
    · obtain ⟨i, _, rfl⟩ := List.mem_map.mp hx
      obtain ⟨j, _, rfl⟩ := List.mem_map.mp hy
      rfl
    · obtain ⟨i, _, rfl⟩ := List.mem_map.mp hx
      exact fun z => nomatch z
  refine PySem.W.max_tuple_data (I.ok.hd hc) hl (show ReadsAll s.heap its.toArray.toList (.int n :: ns.map PyData.int) as from h4) al (by have := depth_ints (n :: ns); rw [show (PyData.int n :: ns.map PyData.int) = (n :: ns).map PyData.int from rfl, this]; omega) fun i v h' tk bs hv hr hk => ?_
  rw [PySem.W.maxD_ints] at hr
  cases hr
  exact ⟨.int _, H, I.kept hk, ⟨_, rfl⟩, q⟩
end L2
namespace Mi
open PySem PySem.Spec PyProof.Rows L2
theorem room1 {A : Around} {k : Nat} (h : Room k A) : A.units + 1 < cLine := by have := h.un; omega
variable {X : Cx}
def gMaxT : List D → Option D
  | [.tuple xs] => (xs.mapM asInt).bind fun ns => if ns = [] then none else some (.int (maxI ns))
  | _ => none
theorem cas_maxT (hc : X.calm = true) (hu : X.A.units + 1 < cLine) : CaS X (.builtin "max") gMaxT := by
  refine ⟨_, cr_maxT hc hu, fun aw B w H ts c xs Q o ha e k => ?_⟩
  unfold gMaxT at e
  split at e
  · obtain ⟨ns, e1, e2⟩ := Option.bind_eq_some_iff.mp e
    split at e2
    · cases e2
    · cases e2
      have := map_asInt e1
      subst this
      obtain ⟨x, rfl, hx⟩ := ha.one
      obtain ⟨p, vs, rfl, _, h1, r1⟩ := hx.tup o
      have := rpl_ints r1
      subst this
      cases ns with
      | nil => exact absurd rfl ‹_›
      | cons n ns => exact ⟨p, n, ns, rfl, SqT.of h1, k _ _ o.stp rp_int⟩
  · cases e
def gMaxX : List D → Option D := fun a => (gMax a).or (gMaxT a)
theorem cas_maxX (hc : X.calm = true) (hu : X.A.units + 1 < cLine) : CaS X (.builtin "max") gMaxX := (cas_max hc).or (cas_maxT hc hu)
theorem gMaxX_t {ns : List Int} (h : ns ≠ []) : gMaxX [.tuple (ns.map fun z => (PyData.int z))] = some (.int (maxI ns)) := by
  have e1 : gMax [.tuple (ns.map fun z => (PyData.int z))] = none := rfl
  have e2 : gMaxT [.tuple (ns.map fun z => (PyData.int z))] = some (.int (maxI ns)) := by
    show ((ns.map fun z => (PyData.int z)).mapM asInt).bind _ = _
    have : ∀ ns : List Int, (ns.map fun i => (.int i : D)).mapM asInt = some ns := by
      intro ns
      induction ns with
      | nil => rfl
      | cons n ns ih => rw [List.map_cons, List.mapM_cons, ih]; rfl
    rw [this, Option.bind_some, if_neg h]
  unfold gMaxX
  rw [e1, e2]
  rfl
end Mi
namespace My
open PySem PySem.Spec PyProof.Rows L2 Mi
structure Bt (mg : Str → Option Value) : Prop where
  abs : mg "abs" = none
  all : mg "all" = none
  any : mg "any" = none
  divmod : mg "divmod" = none
  int : mg "int" = none
  len : mg "len" = none
  list : mg "list" = none
  max : mg "max" = none
  min : mg "min" = none
  range : mg "range" = none
  repr : mg "repr" = none
  tuple : mg "tuple" = none
  type_ : mg "type" = none
  combinations : mg "combinations" = some (.type "itertools.combinations")
  gcd : mg "gcd" = some (.builtin "math.gcd")
  lcm : mg "lcm" = some (.builtin "math.lcm")
theorem n__ : NmOk "_" := ⟨by decide, by decide⟩
theorem n_a : NmOk "a" := ⟨by decide, by decide⟩
theorem n_above : NmOk "above" := ⟨by decide, by decide⟩
theorem n_across : NmOk "across" := ⟨by decide, by decide⟩
theorem n_along : NmOk "along" := ⟨by decide, by decide⟩
theorem n_around : NmOk "around" := ⟨by decide, by decide⟩
theorem n_at : NmOk "at" := ⟨by decide, by decide⟩
theorem n_b : NmOk "b" := ⟨by decide, by decide⟩
theorem n_below : NmOk "below" := ⟨by decide, by decide⟩
theorem n_best : NmOk "best" := ⟨by decide, by decide⟩
theorem n_both : NmOk "both" := ⟨by decide, by decide⟩
theorem n_by : NmOk "by" := ⟨by decide, by decide⟩
theorem n_c : NmOk "c" := ⟨by decide, by decide⟩
theorem n_cell : NmOk "cell" := ⟨by decide, by decide⟩
theorem n_count : NmOk "count" := ⟨by decide, by decide⟩
theorem n_crossings : NmOk "crossings" := ⟨by decide, by decide⟩
theorem n_d : NmOk "d" := ⟨by decide, by decide⟩
theorem n_digit : NmOk "digit" := ⟨by decide, by decide⟩
theorem n_due : NmOk "due" := ⟨by decide, by decide⟩
theorem n_e : NmOk "e" := ⟨by decide, by decide⟩
theorem n_each : NmOk "each" := ⟨by decide, by decide⟩
theorem n_edge : NmOk "edge" := ⟨by decide, by decide⟩
theorem n_f : NmOk "f" := ⟨by decide, by decide⟩
theorem n_feet : NmOk "feet" := ⟨by decide, by decide⟩
theorem n_field : NmOk "field" := ⟨by decide, by decide⟩
theorem n_first : NmOk "first" := ⟨by decide, by decide⟩
theorem n_found : NmOk "found" := ⟨by decide, by decide⟩
theorem n_fraction : NmOk "fraction" := ⟨by decide, by decide⟩
theorem n_fractions : NmOk "fractions" := ⟨by decide, by decide⟩
theorem n_g : NmOk "g" := ⟨by decide, by decide⟩
theorem n_h : NmOk "h" := ⟨by decide, by decide⟩
theorem n_i : NmOk "i" := ⟨by decide, by decide⟩
theorem n_k : NmOk "k" := ⟨by decide, by decide⟩
theorem n_land : NmOk "land" := ⟨by decide, by decide⟩
theorem n_lands : NmOk "lands" := ⟨by decide, by decide⟩
theorem n_least : NmOk "least" := ⟨by decide, by decide⟩
theorem n_line : NmOk "line" := ⟨by decide, by decide⟩
theorem n_lines : NmOk "lines" := ⟨by decide, by decide⟩
theorem n_m : NmOk "m" := ⟨by decide, by decide⟩
theorem n_menu : NmOk "menu" := ⟨by decide, by decide⟩
theorem n_most : NmOk "most" := ⟨by decide, by decide⟩
theorem n_n : NmOk "n" := ⟨by decide, by decide⟩
theorem n_number : NmOk "number" := ⟨by decide, by decide⟩
theorem n_off : NmOk "off" := ⟨by decide, by decide⟩
theorem n_one : NmOk "one" := ⟨by decide, by decide⟩
theorem n_other : NmOk "other" := ⟨by decide, by decide⟩
theorem n_other_land : NmOk "other_land" := ⟨by decide, by decide⟩
theorem n_over : NmOk "over" := ⟨by decide, by decide⟩
theorem n_point : NmOk "point" := ⟨by decide, by decide⟩
theorem n_rest : NmOk "rest" := ⟨by decide, by decide⟩
theorem n_scale : NmOk "scale" := ⟨by decide, by decide⟩
theorem n_script : NmOk "script" := ⟨by decide, by decide⟩
theorem n_second : NmOk "second" := ⟨by decide, by decide⟩
theorem n_seed : NmOk "seed" := ⟨by decide, by decide⟩
theorem n_shared : NmOk "shared" := ⟨by decide, by decide⟩
theorem n_side : NmOk "side" := ⟨by decide, by decide⟩
theorem n_sides : NmOk "sides" := ⟨by decide, by decide⟩
theorem n_sign : NmOk "sign" := ⟨by decide, by decide⟩
theorem n_size : NmOk "size" := ⟨by decide, by decide⟩
theorem n_some : NmOk "some" := ⟨by decide, by decide⟩
theorem n_spot : NmOk "spot" := ⟨by decide, by decide⟩
theorem n_square : NmOk "square" := ⟨by decide, by decide⟩
theorem n_step : NmOk "step" := ⟨by decide, by decide⟩
theorem n_top : NmOk "top" := ⟨by decide, by decide⟩
theorem n_turn : NmOk "turn" := ⟨by decide, by decide⟩
theorem n_two : NmOk "two" := ⟨by decide, by decide⟩
theorem n_u : NmOk "u" := ⟨by decide, by decide⟩
theorem n_v : NmOk "v" := ⟨by decide, by decide⟩
theorem n_value : NmOk "value" := ⟨by decide, by decide⟩
theorem n_w : NmOk "w" := ⟨by decide, by decide⟩
theorem n_way : NmOk "way" := ⟨by decide, by decide⟩
theorem n_well : NmOk "well" := ⟨by decide, by decide⟩
theorem n_x : NmOk "x" := ⟨by decide, by decide⟩
theorem n_y : NmOk "y" := ⟨by decide, by decide⟩
section
variable {P : Program} {w : World} {K : PySem.W.Frag} {mg : Str → Option Value} {base : Heap}
def N_ratio : List Str := ["above", "below", "shared"]
theorem sc_ratio : FnScope N_ratio ["above", "below"] (defScope st_ratio) := ⟨rfl, rfl, rfl, by decide +kernel, rfl, by decide +kernel, by decide +kernel⟩
def mratio : Sm :=
  (sSeq (sAsg (gNm 2) (dPri gGcd (dCons (dVar 0) (dCons (dVar 1) dNil))))
  (sRet (dTup (dCons (dBin gFdiv (dVar 0) (dVar 2)) (dCons (dBin gFdiv (dVar 1) (dVar 2)) dNil)))))
def Fratio : List D → Option D := defP 2 3 mratio
theorem ok_ratio (bt : Bt mg)  {f : Addr} {fd : FuncData} (F : FnP K "ratio" st_ratio f fd) (m : mg "ratio" = some (.ref f)) : Dn P w K mg base 1 f fd "ratio" ["above", "below"] (spP 2 Fratio) :=
  ⟨m, F.kp, F.bindsN (fun _ _ _ _ _ _ us hl => match us, hl with | [_, _], _ => rfl), okP F sc_ratio rfl (by decide) fun cdv A outer s0 H E hr hg =>
  (s_cons (s_nm (i := 2) sc_ratio.nd rfl (by first | exact Or.inl rfl | exact Or.inr rfl) (r_blm cas_gcd (by rfl) bt.gcd (aq_cons (toQ (v 0 n_above)) (aq_cons (toQ (v 1 n_below)) aq_nil rfl) rfl) (by decide) rfl rfl) rfl (Or.inl rfl))
  (s_one (s_ret (r_tup (a_cons (r_bin ops_fdiv (toQ (v 0 n_above)) (toQ (v 2 n_shared))) (a_cons (r_bin ops_fdiv (toQ (v 1 n_below)) (toQ (v 2 n_shared))) a_nil rfl) rfl)))))⟩
def N_at_most : List Str := ["one", "two"]
theorem sc_at_most : FnScope N_at_most ["one", "two"] (defScope st_at_most) := ⟨rfl, rfl, rfl, by decide +kernel, rfl, by decide +kernel, by decide +kernel⟩
def mat_most : Sm :=
  (sRet (dBin gLe (dBin gMul (dBin gIx (dVar 0) (dC (.int 0))) (dBin gIx (dVar 1) (dC (.int 1)))) (dBin gMul (dBin gIx (dVar 1) (dC (.int 0))) (dBin gIx (dVar 0) (dC (.int 1))))))
def Fat_most : List D → Option D := defP 2 2 mat_most
theorem ok_at_most (bt : Bt mg)  {f : Addr} {fd : FuncData} (F : FnP K "at_most" st_at_most f fd) (m : mg "at_most" = some (.ref f)) : Dn P w K mg base 1 f fd "at_most" ["one", "two"] (spP 2 Fat_most) :=
  ⟨m, F.kp, F.bindsN (fun _ _ _ _ _ _ us hl => match us, hl with | [_, _], _ => rfl), okP F sc_at_most rfl (by decide) fun cdv A outer s0 H E hr hg =>
  (s_one (s_ret (r_cmp ops_le (toQ (r_bin ops_mul (toQ (r_ix (toQ (v 0 n_one)) (toQ r_int) (fun _ _ => rfl))) (toQ (r_ix (toQ (v 1 n_two)) (toQ r_int) (fun _ _ => rfl))))) (toQ (r_bin ops_mul (toQ (r_ix (toQ (v 1 n_two)) (toQ r_int) (fun _ _ => rfl))) (toQ (r_ix (toQ (v 0 n_one)) (toQ r_int) (fun _ _ => rfl))))) (nomark _))))⟩
def N_common_scale : List Str := ["fractions", "scale", "number"]
theorem sc_common_scale : FnScope N_common_scale ["fractions"] (defScope st_common_scale) := ⟨rfl, rfl, rfl, by decide +kernel, rfl, by decide +kernel, by decide +kernel⟩
def mcommon_scale : Sm :=
  (sSeq (sAsg (gNm 1) (dC (.int 1)))
  (sSeq (sFor (dItems (dVar 0)) (gNm 2)
  (sAsg (gNm 1) (dPri gLcm (dCons (dVar 1) (dCons (dBin gIx (dVar 2) (dC (.int 1))) dNil)))))
  (sRet (dVar 1))))
def Fcommon_scale : List D → Option D := defP 1 3 mcommon_scale
theorem ok_common_scale (bt : Bt mg)  {f : Addr} {fd : FuncData} (F : FnP K "common_scale" st_common_scale f fd) (m : mg "common_scale" = some (.ref f)) : Dn P w K mg base 1 f fd "common_scale" ["fractions"] (spP 1 Fcommon_scale) :=
  ⟨m, F.kp, F.bindsN (fun _ _ _ _ _ _ us hl => match us, hl with | [_], _ => rfl), okP F sc_common_scale rfl (by decide) fun cdv A outer s0 H E hr hg =>
  (s_cons (s_nm (i := 1) sc_common_scale.nd rfl (by first | exact Or.inl rfl | exact Or.inr rfl) r_int rfl (Or.inl rfl))
  (s_cons (s_for PassesOwn.never rfl (i_seq (v 0 n_fractions)) (g_nm (i := 2) sc_common_scale.nd rfl (by first | exact Or.inl rfl | exact Or.inr rfl) (Or.inl rfl)) tgs_nm
  (s_one (s_nm (i := 1) sc_common_scale.nd rfl (by first | exact Or.inl rfl | exact Or.inr rfl) (r_blm cas_lcm (by rfl) bt.lcm (aq_cons (toQ (v 1 n_scale)) (aq_cons (toQ (r_ix (toQ (v 2 n_number)) (toQ r_int) (fun _ _ => rfl))) aq_nil rfl) rfl) (by decide) rfl rfl) rfl (Or.inl rfl))) (fun _ => rfl))
  (s_one (s_ret (v 1 n_scale)))))⟩
def N_scaled : List Str := ["fraction", "scale"]
theorem sc_scaled : FnScope N_scaled ["fraction", "scale"] (defScope st_scaled) := ⟨rfl, rfl, rfl, by decide +kernel, rfl, by decide +kernel, by decide +kernel⟩
def mscaled : Sm :=
  (sRet (dBin gMul (dBin gIx (dVar 0) (dC (.int 0))) (dBin gFdiv (dVar 1) (dBin gIx (dVar 0) (dC (.int 1))))))
def Fscaled : List D → Option D := defP 2 2 mscaled
theorem ok_scaled (bt : Bt mg)  {f : Addr} {fd : FuncData} (F : FnP K "scaled" st_scaled f fd) (m : mg "scaled" = some (.ref f)) : Dn P w K mg base 1 f fd "scaled" ["fraction", "scale"] (spP 2 Fscaled) :=
  ⟨m, F.kp, F.bindsN (fun _ _ _ _ _ _ us hl => match us, hl with | [_, _], _ => rfl), okP F sc_scaled rfl (by decide) fun cdv A outer s0 H E hr hg =>
  (s_one (s_ret (r_bin ops_mul (toQ (r_ix (toQ (v 0 n_fraction)) (toQ r_int) (fun _ _ => rfl))) (toQ (r_bin ops_fdiv (toQ (v 1 n_scale)) (toQ (r_ix (toQ (v 0 n_fraction)) (toQ r_int) (fun _ _ => rfl))))))))⟩
def N_is_whole : List Str := ["value"]
theorem sc_is_whole : FnScope N_is_whole ["value"] (defScope st_is_whole) := ⟨rfl, rfl, rfl, by decide +kernel, rfl, by decide +kernel, by decide +kernel⟩
def mis_whole : Sm :=
  (sRet (dUn (gTyIs "int") (dVar 0)))
def Fis_whole : List D → Option D := defP 1 1 mis_whole
theorem ok_is_whole (bt : Bt mg)  {f : Addr} {fd : FuncData} (F : FnP K "is_whole" st_is_whole f fd) (m : mg "is_whole" = some (.ref f)) : Dn P w K mg base 1 f fd "is_whole" ["value"] (spP 1 Fis_whole) :=
  ⟨m, F.kp, F.bindsN (fun _ _ _ _ _ _ us hl => match us, hl with | [_], _ => rfl), okP F sc_is_whole rfl (by decide) fun cdv A outer s0 H E hr hg =>
  (s_one (s_ret (r_tyIs (x2 := "int") (T := "int") (toQ (v 0 n_value)) (by rfl) bt.type_ (by rfl) bt.int (by decide +kernel) (by decide) (by decide) rfl)))⟩
def N_is_tuple_of : List Str := ["value", "least", "most"]
theorem sc_is_tuple_of : FnScope N_is_tuple_of ["value", "least", "most"] (defScope st_is_tuple_of) := ⟨rfl, rfl, rfl, by decide +kernel, rfl, by decide +kernel, by decide +kernel⟩
def mis_tuple_of : Sm :=
  (sRet (dAndV (dUn (gTyIs "tuple") (dVar 0)) (dChain gLe gLe (dVar 1) (dPri gLen (dCons (dVar 0) dNil)) (dVar 2))))
def Fis_tuple_of : List D → Option D := defP 3 3 mis_tuple_of
theorem ok_is_tuple_of (bt : Bt mg)  {f : Addr} {fd : FuncData} (F : FnP K "is_tuple_of" st_is_tuple_of f fd) (m : mg "is_tuple_of" = some (.ref f)) : Dn P w K mg base 1 f fd "is_tuple_of" ["value", "least", "most"] (spP 3 Fis_tuple_of) :=
  ⟨m, F.kp, F.bindsN (fun _ _ _ _ _ _ us hl => match us, hl with | [_, _, _], _ => rfl), okP F sc_is_tuple_of rfl (by decide) fun cdv A outer s0 H E hr hg =>
  (s_one (s_ret (r_and (r_tyIs (x2 := "tuple") (T := "tuple") (toQ (v 0 n_value)) (by rfl) bt.type_ (by rfl) bt.tuple (by decide +kernel) (by decide) (by decide) rfl) (r_one (r_chain ops_le ops_le (toQ (v 1 n_least)) (toQ (r_blt cas_len (by rfl) bt.len (by decide +kernel) (aq_cons (toQ (v 0 n_value)) aq_nil rfl) (by decide) (by decide) rfl rfl)) (toQ (v 2 n_most)) (by with_unfolding_all rfl))))))⟩
def N_is_fraction : List Str := ["value", "above", "below"]
theorem sc_is_fraction : FnScope N_is_fraction ["value"] (defScope st_is_fraction) := ⟨rfl, rfl, rfl, by decide +kernel, rfl, by decide +kernel, by decide +kernel⟩
def mis_fraction : Sm :=
  (sSeq (sIf (dNot (dTr (dCallP Fis_tuple_of (dCons (dVar 0) (dCons (dC (.int 2)) (dCons (dC (.int 2)) dNil))))))
  (sRet (dC (.bool false)))
  sSkip)
  (sSeq (sAsg (gTp (gC (gNm 1) (gC (gNm 2) gN))) (dVar 0))
  (sRet (dAndV (dCallP Fis_whole (dCons (dVar 1) dNil)) (dAndV (dCallP Fis_whole (dCons (dVar 2) dNil)) (dAndV (dBin gGt (dVar 2) (dC (.int 0))) (dBin gEq (dPri gGcd (dCons (dVar 1) (dCons (dVar 2) dNil))) (dC (.int 1)))))))))
def Fis_fraction : List D → Option D := defP 1 3 mis_fraction
theorem ok_is_fraction (bt : Bt mg) {ais_tuple_of : Addr} {bis_tuple_of : FuncData} (dis_tuple_of : Dn P w K mg base 1 ais_tuple_of bis_tuple_of "is_tuple_of" ["value", "least", "most"] (spP 3 Fis_tuple_of)) {ais_whole : Addr} {bis_whole : FuncData} (dis_whole : Dn P w K mg base 1 ais_whole bis_whole "is_whole" ["value"] (spP 1 Fis_whole)) {f : Addr} {fd : FuncData} (F : FnP K "is_fraction" st_is_fraction f fd) (m : mg "is_fraction" = some (.ref f)) : Dn P w K mg base 2 f fd "is_fraction" ["value"] (spP 1 Fis_fraction) :=
  ⟨m, F.kp, F.bindsN (fun _ _ _ _ _ _ us hl => match us, hl with | [_], _ => rfl), okP F sc_is_fraction rfl (by decide) fun cdv A outer s0 H E hr hg =>
  (s_cons (s_if (q_not (q_tr (toQ (c_P dis_tuple_of (hr.mono (by decide)) hg (by rfl) rfl (a_cons (v 0 n_value) (a_cons r_int (a_cons r_int a_nil rfl) rfl) rfl) (len_cons (len_cons (len_cons len_nil))) (by decide) rfl rfl)) (fun _ => rfl)))
  (s_one (s_ret r_bl))
  s_nil)
  (s_cons (s_asg (v 0 n_value) (g_tp' rfl (gs_cons' (g_nm (i := 1) sc_is_fraction.nd rfl (by first | exact Or.inl rfl | exact Or.inr rfl) (Or.inl rfl)) (gs_cons' (g_nm (i := 2) sc_is_fraction.nd rfl (by first | exact Or.inl rfl | exact Or.inr rfl) (Or.inl rfl)) gs_nil tgs_nil rfl) (tgs_cons tgs_nm tgs_nil) rfl) (tgs_cons tgs_nm (tgs_cons tgs_nm tgs_nil)) rfl rfl) (tgs_tp (tgs_cons tgs_nm (tgs_cons tgs_nm tgs_nil))) rfl rfl rfl)
  (s_one (s_ret (r_and (c_P dis_whole (hr.mono (by decide)) hg (by rfl) rfl (a_cons (v 1 n_above) a_nil rfl) (len_cons len_nil) (by decide) rfl rfl) (r_and (c_P dis_whole (hr.mono (by decide)) hg (by rfl) rfl (a_cons (v 2 n_below) a_nil rfl) (len_cons len_nil) (by decide) rfl rfl) (r_and (r_cmp ops_gt (toQ (v 2 n_below)) (toQ r_int) (nomark _)) (r_one (r_cmp (ops_eq (room64 hr)) (toQ (r_blm cas_gcd (by rfl) bt.gcd (aq_cons (toQ (v 1 n_above)) (aq_cons (toQ (v 2 n_below)) aq_nil rfl) rfl) (by decide) rfl rfl)) (toQ r_int) (nomark _))))))))))⟩
def N_are_fractions : List Str := ["value", "least", "most", "number"]
theorem sc_are_fractions : FnScope N_are_fractions ["value", "least", "most"] (defScope st_are_fractions) := ⟨rfl, rfl, rfl, by decide +kernel, rfl, by decide +kernel, by decide +kernel⟩
def mare_fractions : Sm :=
  (sRet (dAndV (dCallP Fis_tuple_of (dCons (dVar 0) (dCons (dVar 1) (dCons (dVar 2) dNil)))) (dPri gAll (dCons (dComp [3] (dItems (dVar 0)) (gNm 3) dYes (dCallP Fis_fraction (dCons (dVar 3) dNil))) dNil))))
def Fare_fractions : List D → Option D := defP 3 4 mare_fractions
theorem ok_are_fractions (bt : Bt mg) {ais_tuple_of : Addr} {bis_tuple_of : FuncData} (dis_tuple_of : Dn P w K mg base 1 ais_tuple_of bis_tuple_of "is_tuple_of" ["value", "least", "most"] (spP 3 Fis_tuple_of)) {ais_fraction : Addr} {bis_fraction : FuncData} (dis_fraction : Dn P w K mg base 2 ais_fraction bis_fraction "is_fraction" ["value"] (spP 1 Fis_fraction)) {f : Addr} {fd : FuncData} (F : FnP K "are_fractions" st_are_fractions f fd) (m : mg "are_fractions" = some (.ref f)) : Dn P w K mg base 3 f fd "are_fractions" ["value", "least", "most"] (spP 3 Fare_fractions) :=
  ⟨m, F.kp, F.bindsN (fun _ _ _ _ _ _ us hl => match us, hl with | [_, _, _], _ => rfl), okP F sc_are_fractions rfl (by decide) fun cdv A outer s0 H E hr hg =>
  (s_one (s_ret (r_and (c_P dis_tuple_of (hr.mono (by decide)) hg (by rfl) rfl (a_cons (v 0 n_value) (a_cons (v 1 n_least) (a_cons (v 2 n_most) a_nil rfl) rfl) rfl) (len_cons (len_cons (len_cons len_nil))) (by decide) rfl rfl) (r_one (r_blt (cas_all rfl) (by rfl) bt.all (by decide +kernel) (aq_cons (toQ (r_comp (bb := false) (sl := [3]) (own := [("number", 3)]) rfl sc_are_fractions.nd (i_seq (v 0 n_value)) (blkOk_by (N := N_are_fractions) (sc := defScope st_are_fractions) (own := [("number", 3)]) (by decide +kernel)) (fun _ _ _ _ _ => (g_nm (i := 3) sc_are_fractions.nd rfl (by first | exact Or.inl rfl | exact Or.inr rfl) (by first | exact Or.inr rfl | exact Or.inl rfl))) (fun _ _ _ _ _ => ts_nil) (fun _ _ _ _ _ => (c_P dis_fraction (hr.mono (by decide)) hg (by rfl) rfl (a_cons (v 3 n_number) a_nil rfl) (len_cons len_nil) (by decide) rfl rfl)) (by decide) (fun _ => rfl))) aq_nil rfl) (by decide) (by decide) rfl rfl)))))⟩
def N_is_side : List Str := ["value"]
theorem sc_is_side : FnScope N_is_side ["value"] (defScope st_is_side) := ⟨rfl, rfl, rfl, by decide +kernel, rfl, by decide +kernel, by decide +kernel⟩
def mis_side : Sm :=
  (sRet (dAndV (dCallP Fare_fractions (dCons (dVar 0) (dCons (dC (.int 3)) (dCons (dC (.int 3)) dNil)))) (dOrV (dBin gNe (dBin gIx (dBin gIx (dVar 0) (dC (.int 0))) (dC (.int 0))) (dC (.int 0))) (dBin gNe (dBin gIx (dBin gIx (dVar 0) (dC (.int 1))) (dC (.int 0))) (dC (.int 0))))))
def Fis_side : List D → Option D := defP 1 1 mis_side
theorem ok_is_side (bt : Bt mg) {aare_fractions : Addr} {bare_fractions : FuncData} (dare_fractions : Dn P w K mg base 3 aare_fractions bare_fractions "are_fractions" ["value", "least", "most"] (spP 3 Fare_fractions)) {f : Addr} {fd : FuncData} (F : FnP K "is_side" st_is_side f fd) (m : mg "is_side" = some (.ref f)) : Dn P w K mg base 4 f fd "is_side" ["value"] (spP 1 Fis_side) :=
  ⟨m, F.kp, F.bindsN (fun _ _ _ _ _ _ us hl => match us, hl with | [_], _ => rfl), okP F sc_is_side rfl (by decide) fun cdv A outer s0 H E hr hg =>
  (s_one (s_ret (r_and (c_P dare_fractions (hr.mono (by decide)) hg (by rfl) rfl (a_cons (v 0 n_value) (a_cons r_int (a_cons r_int a_nil rfl) rfl) rfl) (len_cons (len_cons (len_cons len_nil))) (by decide) rfl rfl) (r_one (r_or (r_cmp (ops_ne (room64 hr)) (toQ (r_ix (toQ (r_ix (toQ (v 0 n_value)) (toQ r_int) (fun _ _ => rfl))) (toQ r_int) (fun _ _ => rfl))) (toQ r_int) (nomark _)) (r_one (r_cmp (ops_ne (room64 hr)) (toQ (r_ix (toQ (r_ix (toQ (v 0 n_value)) (toQ r_int) (fun _ _ => rfl))) (toQ r_int) (fun _ _ => rfl))) (toQ r_int) (nomark _))))))))⟩
def N_is_field : List Str := ["value", "side"]
theorem sc_is_field : FnScope N_is_field ["value"] (defScope st_is_field) := ⟨rfl, rfl, rfl, by decide +kernel, rfl, by decide +kernel, by decide +kernel⟩
def mis_field : Sm :=
  (sRet (dAndV (dCallP Fis_tuple_of (dCons (dVar 0) (dCons (dC (.int 1)) (dCons (dC (.int 5)) dNil)))) (dPri gAll (dCons (dComp [1] (dItems (dVar 0)) (gNm 1) dYes (dCallP Fis_side (dCons (dVar 1) dNil))) dNil))))
def Fis_field : List D → Option D := defP 1 2 mis_field
theorem ok_is_field (bt : Bt mg) {ais_tuple_of : Addr} {bis_tuple_of : FuncData} (dis_tuple_of : Dn P w K mg base 1 ais_tuple_of bis_tuple_of "is_tuple_of" ["value", "least", "most"] (spP 3 Fis_tuple_of)) {ais_side : Addr} {bis_side : FuncData} (dis_side : Dn P w K mg base 4 ais_side bis_side "is_side" ["value"] (spP 1 Fis_side)) {f : Addr} {fd : FuncData} (F : FnP K "is_field" st_is_field f fd) (m : mg "is_field" = some (.ref f)) : Dn P w K mg base 5 f fd "is_field" ["value"] (spP 1 Fis_field) :=
  ⟨m, F.kp, F.bindsN (fun _ _ _ _ _ _ us hl => match us, hl with | [_], _ => rfl), okP F sc_is_field rfl (by decide) fun cdv A outer s0 H E hr hg =>
  (s_one (s_ret (r_and (c_P dis_tuple_of (hr.mono (by decide)) hg (by rfl) rfl (a_cons (v 0 n_value) (a_cons r_int (a_cons r_int a_nil rfl) rfl) rfl) (len_cons (len_cons (len_cons len_nil))) (by decide) rfl rfl) (r_one (r_blt (cas_all rfl) (by rfl) bt.all (by decide +kernel) (aq_cons (toQ (r_comp (bb := false) (sl := [1]) (own := [("side", 1)]) rfl sc_is_field.nd (i_seq (v 0 n_value)) (blkOk_by (N := N_is_field) (sc := defScope st_is_field) (own := [("side", 1)]) (by decide +kernel)) (fun _ _ _ _ _ => (g_nm (i := 1) sc_is_field.nd rfl (by first | exact Or.inl rfl | exact Or.inr rfl) (by first | exact Or.inr rfl | exact Or.inl rfl))) (fun _ _ _ _ _ => ts_nil) (fun _ _ _ _ _ => (c_P dis_side (hr.mono (by decide)) hg (by rfl) rfl (a_cons (v 1 n_side) a_nil rfl) (len_cons len_nil) (by decide) rfl rfl)) (by decide) (fun _ => rfl))) aq_nil rfl) (by decide) (by decide) rfl rfl)))))⟩
def N_check_field : List Str := ["field"]
theorem sc_check_field : FnScope N_check_field ["field"] (defScope st_check_field) := ⟨rfl, rfl, rfl, by decide +kernel, rfl, by decide +kernel, by decide +kernel⟩
def mcheck_field : Sm :=
  (sIf (dNot (dTr (dCallP Fis_field (dCons (dVar 0) dNil))))
  sNo
  sSkip)
def Fcheck_field : List D → Option D := defP 1 1 mcheck_field
theorem ok_check_field (bt : Bt mg) {ais_field : Addr} {bis_field : FuncData} (dis_field : Dn P w K mg base 5 ais_field bis_field "is_field" ["value"] (spP 1 Fis_field)) {f : Addr} {fd : FuncData} (F : FnP K "check_field" st_check_field f fd) (m : mg "check_field" = some (.ref f)) : Dn P w K mg base 6 f fd "check_field" ["field"] (spP 1 Fcheck_field) :=
  ⟨m, F.kp, F.bindsN (fun _ _ _ _ _ _ us hl => match us, hl with | [_], _ => rfl), okP F sc_check_field rfl (by decide) fun cdv A outer s0 H E hr hg =>
  (s_one (s_if (q_not (q_tr (toQ (c_P dis_field (hr.mono (by decide)) hg (by rfl) rfl (a_cons (v 0 n_field) a_nil rfl) (len_cons len_nil) (by decide) rfl rfl)) (fun _ => rfl)))
  (s_one s_no)
  s_nil))⟩
def N_holds : List Str := ["sides", "spot", "x", "y", "scale", "a", "b", "c"]
theorem sc_holds : FnScope N_holds ["sides", "spot"] (defScope st_holds) := ⟨rfl, rfl, rfl, by decide +kernel, rfl, by decide +kernel, by decide +kernel⟩
def mholds : Sm :=
  (sSeq (sAsg (gTp (gC (gNm 2) (gC (gNm 3) (gC (gNm 4) gN)))) (dVar 1))
  (sRet (dPri gAll (dCons (dComp [5, 6, 7] (dItems (dVar 0)) (gTp (gC (gNm 5) (gC (gNm 6) (gC (gNm 7) gN)))) dYes (dBin gLe (dBin gAdd (dBin gMul (dVar 5) (dVar 2)) (dBin gMul (dVar 6) (dVar 3))) (dBin gMul (dVar 7) (dVar 4)))) dNil))))
def Fholds : List D → Option D := defP 2 8 mholds
theorem ok_holds (bt : Bt mg)  {f : Addr} {fd : FuncData} (F : FnP K "holds" st_holds f fd) (m : mg "holds" = some (.ref f)) : Dn P w K mg base 1 f fd "holds" ["sides", "spot"] (spP 2 Fholds) :=
  ⟨m, F.kp, F.bindsN (fun _ _ _ _ _ _ us hl => match us, hl with | [_, _], _ => rfl), okP F sc_holds rfl (by decide) fun cdv A outer s0 H E hr hg =>
  (s_cons (s_asg (v 1 n_spot) (g_tp' rfl (gs_cons' (g_nm (i := 2) sc_holds.nd rfl (by first | exact Or.inl rfl | exact Or.inr rfl) (Or.inl rfl)) (gs_cons' (g_nm (i := 3) sc_holds.nd rfl (by first | exact Or.inl rfl | exact Or.inr rfl) (Or.inl rfl)) (gs_cons' (g_nm (i := 4) sc_holds.nd rfl (by first | exact Or.inl rfl | exact Or.inr rfl) (Or.inl rfl)) gs_nil tgs_nil rfl) (tgs_cons tgs_nm tgs_nil) rfl) (tgs_cons tgs_nm (tgs_cons tgs_nm tgs_nil)) rfl) (tgs_cons tgs_nm (tgs_cons tgs_nm (tgs_cons tgs_nm tgs_nil))) rfl rfl) (tgs_tp (tgs_cons tgs_nm (tgs_cons tgs_nm (tgs_cons tgs_nm tgs_nil)))) rfl rfl rfl)
  (s_one (s_ret (r_blt (cas_all rfl) (by rfl) bt.all (by decide +kernel) (aq_cons (toQ (r_comp (bb := false) (sl := [5, 6, 7]) (own := [("a", 5), ("b", 6), ("c", 7)]) rfl sc_holds.nd (i_seq (v 0 n_sides)) (blkOk_by (N := N_holds) (sc := defScope st_holds) (own := [("a", 5), ("b", 6), ("c", 7)]) (by decide +kernel)) (fun _ _ _ _ _ => (g_tp' rfl (gs_cons' (g_nm (i := 5) sc_holds.nd rfl (by first | exact Or.inl rfl | exact Or.inr rfl) (by first | exact Or.inr rfl | exact Or.inl rfl)) (gs_cons' (g_nm (i := 6) sc_holds.nd rfl (by first | exact Or.inl rfl | exact Or.inr rfl) (by first | exact Or.inr rfl | exact Or.inl rfl)) (gs_cons' (g_nm (i := 7) sc_holds.nd rfl (by first | exact Or.inl rfl | exact Or.inr rfl) (by first | exact Or.inr rfl | exact Or.inl rfl)) gs_nil tgs_nil rfl) (tgs_cons tgs_nm tgs_nil) rfl) (tgs_cons tgs_nm (tgs_cons tgs_nm tgs_nil)) rfl) (tgs_cons tgs_nm (tgs_cons tgs_nm (tgs_cons tgs_nm tgs_nil))) rfl rfl)) (fun _ _ _ _ _ => ts_nil) (fun _ _ _ _ _ => (r_cmp ops_le (toQ (r_bin ops_add (toQ (r_bin ops_mul (toQ (v 5 n_a)) (toQ (v 2 n_x)))) (toQ (r_bin ops_mul (toQ (v 6 n_b)) (toQ (v 3 n_y)))))) (toQ (r_bin ops_mul (toQ (v 7 n_c)) (toQ (v 4 n_scale)))) (nomark _))) (by decide) (fun _ => rfl))) aq_nil rfl) (by decide) (by decide) rfl rfl))))⟩
def N_foot : List Str := ["side", "spot", "a", "b", "c", "x", "y", "scale", "size", "over"]
theorem sc_foot : FnScope N_foot ["side", "spot"] (defScope st_foot) := ⟨rfl, rfl, rfl, by decide +kernel, rfl, by decide +kernel, by decide +kernel⟩
def mfoot : Sm :=
  (sSeq (sAsg (gTp (gC (gNm 2) (gC (gNm 3) (gC (gNm 4) gN)))) (dVar 0))
  (sSeq (sAsg (gTp (gC (gNm 5) (gC (gNm 6) (gC (gNm 7) gN)))) (dVar 1))
  (sSeq (sAsg (gNm 8) (dBin gAdd (dBin gMul (dVar 2) (dVar 2)) (dBin gMul (dVar 3) (dVar 3))))
  (sSeq (sAsg (gNm 9) (dBin gSub (dBin gAdd (dBin gMul (dVar 2) (dVar 5)) (dBin gMul (dVar 3) (dVar 6))) (dBin gMul (dVar 4) (dVar 7))))
  (sRet (dTup (dCons (dBin gSub (dBin gMul (dVar 5) (dVar 8)) (dBin gMul (dVar 9) (dVar 2))) (dCons (dBin gSub (dBin gMul (dVar 6) (dVar 8)) (dBin gMul (dVar 9) (dVar 3))) (dCons (dBin gMul (dVar 7) (dVar 8)) dNil)))))))))
def Ffoot : List D → Option D := defP 2 10 mfoot
theorem ok_foot (bt : Bt mg)  {f : Addr} {fd : FuncData} (F : FnP K "foot" st_foot f fd) (m : mg "foot" = some (.ref f)) : Dn P w K mg base 1 f fd "foot" ["side", "spot"] (spP 2 Ffoot) :=
  ⟨m, F.kp, F.bindsN (fun _ _ _ _ _ _ us hl => match us, hl with | [_, _], _ => rfl), okP F sc_foot rfl (by decide) fun cdv A outer s0 H E hr hg =>
  (s_cons (s_asg (v 0 n_side) (g_tp' rfl (gs_cons' (g_nm (i := 2) sc_foot.nd rfl (by first | exact Or.inl rfl | exact Or.inr rfl) (Or.inl rfl)) (gs_cons' (g_nm (i := 3) sc_foot.nd rfl (by first | exact Or.inl rfl | exact Or.inr rfl) (Or.inl rfl)) (gs_cons' (g_nm (i := 4) sc_foot.nd rfl (by first | exact Or.inl rfl | exact Or.inr rfl) (Or.inl rfl)) gs_nil tgs_nil rfl) (tgs_cons tgs_nm tgs_nil) rfl) (tgs_cons tgs_nm (tgs_cons tgs_nm tgs_nil)) rfl) (tgs_cons tgs_nm (tgs_cons tgs_nm (tgs_cons tgs_nm tgs_nil))) rfl rfl) (tgs_tp (tgs_cons tgs_nm (tgs_cons tgs_nm (tgs_cons tgs_nm tgs_nil)))) rfl rfl rfl)
  (s_cons (s_asg (v 1 n_spot) (g_tp' rfl (gs_cons' (g_nm (i := 5) sc_foot.nd rfl (by first | exact Or.inl rfl | exact Or.inr rfl) (Or.inl rfl)) (gs_cons' (g_nm (i := 6) sc_foot.nd rfl (by first | exact Or.inl rfl | exact Or.inr rfl) (Or.inl rfl)) (gs_cons' (g_nm (i := 7) sc_foot.nd rfl (by first | exact Or.inl rfl | exact Or.inr rfl) (Or.inl rfl)) gs_nil tgs_nil rfl) (tgs_cons tgs_nm tgs_nil) rfl) (tgs_cons tgs_nm (tgs_cons tgs_nm tgs_nil)) rfl) (tgs_cons tgs_nm (tgs_cons tgs_nm (tgs_cons tgs_nm tgs_nil))) rfl rfl) (tgs_tp (tgs_cons tgs_nm (tgs_cons tgs_nm (tgs_cons tgs_nm tgs_nil)))) rfl rfl rfl)
  (s_cons (s_nm (i := 8) sc_foot.nd rfl (by first | exact Or.inl rfl | exact Or.inr rfl) (r_bin ops_add (toQ (r_bin ops_mul (toQ (v 2 n_a)) (toQ (v 2 n_a)))) (toQ (r_bin ops_mul (toQ (v 3 n_b)) (toQ (v 3 n_b))))) rfl (Or.inl rfl))
  (s_cons (s_nm (i := 9) sc_foot.nd rfl (by first | exact Or.inl rfl | exact Or.inr rfl) (r_bin ops_sub (toQ (r_bin ops_add (toQ (r_bin ops_mul (toQ (v 2 n_a)) (toQ (v 5 n_x)))) (toQ (r_bin ops_mul (toQ (v 3 n_b)) (toQ (v 6 n_y)))))) (toQ (r_bin ops_mul (toQ (v 4 n_c)) (toQ (v 7 n_scale))))) rfl (Or.inl rfl))
  (s_one (s_ret (r_tup (a_cons (r_bin ops_sub (toQ (r_bin ops_mul (toQ (v 5 n_x)) (toQ (v 8 n_size)))) (toQ (r_bin ops_mul (toQ (v 9 n_over)) (toQ (v 2 n_a))))) (a_cons (r_bin ops_sub (toQ (r_bin ops_mul (toQ (v 6 n_y)) (toQ (v 8 n_size)))) (toQ (r_bin ops_mul (toQ (v 9 n_over)) (toQ (v 3 n_b))))) (a_cons (r_bin ops_mul (toQ (v 7 n_scale)) (toQ (v 8 n_size))) a_nil rfl) rfl) rfl))))))))⟩
def N_foot_spots : List Str := ["sides", "spot", "feet", "side", "found"]
theorem sc_foot_spots : FnScope N_foot_spots ["sides", "spot"] (defScope st_foot_spots) := ⟨rfl, rfl, rfl, by decide +kernel, rfl, by decide +kernel, by decide +kernel⟩
def mfoot_spots : Sm :=
  (sSeq (sAsg (gNm 2) (dComp [3] (dItems (dVar 0)) (gNm 3) dYes (dCallP Ffoot (dCons (dVar 3) (dCons (dVar 1) dNil)))))
  (sRet (dComp [4] (dItems (dVar 2)) (gNm 4) (dTr (dCallP Fholds (dCons (dVar 0) (dCons (dVar 4) dNil)))) (dVar 4))))
def Ffoot_spots : List D → Option D := defP 2 5 mfoot_spots
theorem ok_foot_spots (bt : Bt mg) {afoot : Addr} {bfoot : FuncData} (dfoot : Dn P w K mg base 1 afoot bfoot "foot" ["side", "spot"] (spP 2 Ffoot)) {aholds : Addr} {bholds : FuncData} (dholds : Dn P w K mg base 1 aholds bholds "holds" ["sides", "spot"] (spP 2 Fholds)) {f : Addr} {fd : FuncData} (F : FnP K "foot_spots" st_foot_spots f fd) (m : mg "foot_spots" = some (.ref f)) : Dn P w K mg base 2 f fd "foot_spots" ["sides", "spot"] (spP 2 Ffoot_spots) :=
  ⟨m, F.kp, F.bindsN (fun _ _ _ _ _ _ us hl => match us, hl with | [_, _], _ => rfl), okP F sc_foot_spots rfl (by decide) fun cdv A outer s0 H E hr hg =>
  (s_cons (s_lc (i := 2) (bb := false) (sl := [3]) (own := [("side", 3)]) rfl sc_foot_spots.nd rfl rfl (sw_true rfl rfl rfl (by decide +kernel)) (i_seq (v 0 n_sides)) (blkOk_by (N := N_foot_spots) (sc := defScope st_foot_spots) (own := [("side", 3)]) (by decide +kernel)) (fun _ _ _ _ _ => (g_nm (i := 3) sc_foot_spots.nd rfl (by first | exact Or.inl rfl | exact Or.inr rfl) (by first | exact Or.inr rfl | exact Or.inl rfl))) (fun _ _ _ _ _ => ts_nil) (fun _ _ _ _ _ => (c_P dfoot (hr.mono (by decide)) hg (by rfl) rfl (a_cons (v 3 n_side) (a_cons (v 1 n_spot) a_nil rfl) rfl) (len_cons (len_cons len_nil)) (by decide) rfl rfl)) (by decide) (fun _ => rfl))
  (s_one (s_ret (r_comp (bb := false) (sl := [4]) (own := [("found", 4)]) rfl sc_foot_spots.nd (i_seq (v 2 n_feet)) (blkOk_by (N := N_foot_spots) (sc := defScope st_foot_spots) (own := [("found", 4)]) (by decide +kernel)) (fun _ _ _ _ _ => (g_nm (i := 4) sc_foot_spots.nd rfl (by first | exact Or.inl rfl | exact Or.inr rfl) (by first | exact Or.inr rfl | exact Or.inl rfl))) (fun _ _ _ _ _ => (ts_one (q_tr (toQ (c_P dholds (hr.mono (by decide)) hg (by rfl) rfl (a_cons (v 0 n_sides) (a_cons (v 4 n_found) a_nil rfl) rfl) (len_cons (len_cons len_nil)) (by decide) rfl rfl)) (fun _ => rfl)))) (fun _ _ _ _ _ => (v 4 n_found)) (by decide) (fun _ => rfl)))))⟩
def N_crossing : List Str := ["one", "two", "a", "b", "c", "d", "e", "f", "scale", "x", "y"]
theorem sc_crossing : FnScope N_crossing ["one", "two"] (defScope st_crossing) := ⟨rfl, rfl, rfl, by decide +kernel, rfl, by decide +kernel, by decide +kernel⟩
def mcrossing : Sm :=
  (sSeq (sAsg (gTp (gC (gNm 2) (gC (gNm 3) (gC (gNm 4) gN)))) (dVar 0))
  (sSeq (sAsg (gTp (gC (gNm 5) (gC (gNm 6) (gC (gNm 7) gN)))) (dVar 1))
  (sSeq (sAsg (gNm 8) (dBin gSub (dBin gMul (dVar 2) (dVar 6)) (dBin gMul (dVar 5) (dVar 3))))
  (sSeq (sIf (dTr (dBin gEq (dVar 8) (dC (.int 0))))
  (sRet (dC .none))
  sSkip)
  (sSeq (sAsg (gNm 9) (dBin gSub (dBin gMul (dVar 4) (dVar 6)) (dBin gMul (dVar 7) (dVar 3))))
  (sSeq (sAsg (gNm 10) (dBin gSub (dBin gMul (dVar 2) (dVar 7)) (dBin gMul (dVar 5) (dVar 4))))
  (sSeq (sIf (dTr (dBin gLt (dVar 8) (dC (.int 0))))
  (sRet (dTup (dCons (dUn gNeg (dVar 9)) (dCons (dUn gNeg (dVar 10)) (dCons (dUn gNeg (dVar 8)) dNil)))))
  sSkip)
  (sRet (dTup (dCons (dVar 9) (dCons (dVar 10) (dCons (dVar 8) dNil))))))))))))
def Fcrossing : List D → Option D := defP 2 11 mcrossing
theorem ok_crossing (bt : Bt mg)  {f : Addr} {fd : FuncData} (F : FnP K "crossing" st_crossing f fd) (m : mg "crossing" = some (.ref f)) : Dn P w K mg base 1 f fd "crossing" ["one", "two"] (spP 2 Fcrossing) :=
  ⟨m, F.kp, F.bindsN (fun _ _ _ _ _ _ us hl => match us, hl with | [_, _], _ => rfl), okP F sc_crossing rfl (by decide) fun cdv A outer s0 H E hr hg =>
  (s_cons (s_asg (v 0 n_one) (g_tp' rfl (gs_cons' (g_nm (i := 2) sc_crossing.nd rfl (by first | exact Or.inl rfl | exact Or.inr rfl) (Or.inl rfl)) (gs_cons' (g_nm (i := 3) sc_crossing.nd rfl (by first | exact Or.inl rfl | exact Or.inr rfl) (Or.inl rfl)) (gs_cons' (g_nm (i := 4) sc_crossing.nd rfl (by first | exact Or.inl rfl | exact Or.inr rfl) (Or.inl rfl)) gs_nil tgs_nil rfl) (tgs_cons tgs_nm tgs_nil) rfl) (tgs_cons tgs_nm (tgs_cons tgs_nm tgs_nil)) rfl) (tgs_cons tgs_nm (tgs_cons tgs_nm (tgs_cons tgs_nm tgs_nil))) rfl rfl) (tgs_tp (tgs_cons tgs_nm (tgs_cons tgs_nm (tgs_cons tgs_nm tgs_nil)))) rfl rfl rfl)
  (s_cons (s_asg (v 1 n_two) (g_tp' rfl (gs_cons' (g_nm (i := 5) sc_crossing.nd rfl (by first | exact Or.inl rfl | exact Or.inr rfl) (Or.inl rfl)) (gs_cons' (g_nm (i := 6) sc_crossing.nd rfl (by first | exact Or.inl rfl | exact Or.inr rfl) (Or.inl rfl)) (gs_cons' (g_nm (i := 7) sc_crossing.nd rfl (by first | exact Or.inl rfl | exact Or.inr rfl) (Or.inl rfl)) gs_nil tgs_nil rfl) (tgs_cons tgs_nm tgs_nil) rfl) (tgs_cons tgs_nm (tgs_cons tgs_nm tgs_nil)) rfl) (tgs_cons tgs_nm (tgs_cons tgs_nm (tgs_cons tgs_nm tgs_nil))) rfl rfl) (tgs_tp (tgs_cons tgs_nm (tgs_cons tgs_nm (tgs_cons tgs_nm tgs_nil)))) rfl rfl rfl)
  (s_cons (s_nm (i := 8) sc_crossing.nd rfl (by first | exact Or.inl rfl | exact Or.inr rfl) (r_bin ops_sub (toQ (r_bin ops_mul (toQ (v 2 n_a)) (toQ (v 6 n_e)))) (toQ (r_bin ops_mul (toQ (v 5 n_d)) (toQ (v 3 n_b))))) rfl (Or.inl rfl))
  (s_cons (s_if (q_cmp (ops_eq (room64 hr)) (toQ (v 8 n_scale)) (toQ r_int) (nomark _) bool_eq)
  (s_one (s_ret r_non))
  s_nil)
  (s_cons (s_nm (i := 9) sc_crossing.nd rfl (by first | exact Or.inl rfl | exact Or.inr rfl) (r_bin ops_sub (toQ (r_bin ops_mul (toQ (v 4 n_c)) (toQ (v 6 n_e)))) (toQ (r_bin ops_mul (toQ (v 7 n_f)) (toQ (v 3 n_b))))) rfl (Or.inl rfl))
  (s_cons (s_nm (i := 10) sc_crossing.nd rfl (by first | exact Or.inl rfl | exact Or.inr rfl) (r_bin ops_sub (toQ (r_bin ops_mul (toQ (v 2 n_a)) (toQ (v 7 n_f)))) (toQ (r_bin ops_mul (toQ (v 5 n_d)) (toQ (v 4 n_c))))) rfl (Or.inl rfl))
  (s_cons (s_if (q_cmp ops_lt (toQ (v 8 n_scale)) (toQ r_int) (nomark _) bool_gI)
  (s_one (s_ret (r_tup (a_cons (r_neg (toQ (v 9 n_x))) (a_cons (r_neg (toQ (v 10 n_y))) (a_cons (r_neg (toQ (v 8 n_scale))) a_nil rfl) rfl) rfl))))
  s_nil)
  (s_one (s_ret (r_tup (a_cons (v 9 n_x) (a_cons (v 10 n_y) (a_cons (v 8 n_scale) a_nil rfl) rfl) rfl)))))))))))⟩
def N_corner_spots : List Str := ["sides", "crossings", "one", "two", "spot"]
theorem sc_corner_spots : FnScope N_corner_spots ["sides"] (defScope st_corner_spots) := ⟨rfl, rfl, rfl, by decide +kernel, rfl, by decide +kernel, by decide +kernel⟩
def mcorner_spots : Sm :=
  (sSeq (sAsg (gNm 1) (dComp [2, 3] (dCo (dCons (dVar 0) (dCons (dC (.int 2)) dNil))) (gTp (gC (gNm 2) (gC (gNm 3) gN))) dYes (dCallP Fcrossing (dCons (dVar 2) (dCons (dVar 3) dNil)))))
  (sRet (dComp [4] (dItems (dVar 1)) (gNm 4) (dAnd (dTr (dBin gNotN (dVar 4) (dC .none))) (dTr (dCallP Fholds (dCons (dVar 0) (dCons (dVar 4) dNil))))) (dVar 4))))
def Fcorner_spots : List D → Option D := defP 1 5 mcorner_spots
theorem ok_corner_spots (bt : Bt mg) {acrossing : Addr} {bcrossing : FuncData} (dcrossing : Dn P w K mg base 1 acrossing bcrossing "crossing" ["one", "two"] (spP 2 Fcrossing)) {aholds : Addr} {bholds : FuncData} (dholds : Dn P w K mg base 1 aholds bholds "holds" ["sides", "spot"] (spP 2 Fholds)) {f : Addr} {fd : FuncData} (F : FnP K "corner_spots" st_corner_spots f fd) (m : mg "corner_spots" = some (.ref f)) : Dn P w K mg base 2 f fd "corner_spots" ["sides"] (spP 1 Fcorner_spots) :=
  ⟨m, F.kp, F.bindsN (fun _ _ _ _ _ _ us hl => match us, hl with | [_], _ => rfl), okP F sc_corner_spots rfl (by decide) fun cdv A outer s0 H E hr hg =>
  (s_cons (s_lc (i := 1) (bb := true) (sl := [2, 3]) (own := [("one", 2), ("two", 3)]) rfl sc_corner_spots.nd rfl rfl (sw_true rfl rfl rfl (by decide +kernel)) (i_coQ (nm := "combinations") (by rfl) bt.combinations (aq_cons (toQ (v 0 n_sides)) (aq_cons (toQ r_int) aq_nil rfl) rfl) rfl rfl) (blkOk_by (N := N_corner_spots) (sc := defScope st_corner_spots) (own := [("one", 2), ("two", 3)]) (by decide +kernel)) (fun _ _ _ _ _ => (g_tp' rfl (gs_cons' (g_nm (i := 2) sc_corner_spots.nd rfl (by first | exact Or.inl rfl | exact Or.inr rfl) (by first | exact Or.inr rfl | exact Or.inl rfl)) (gs_cons' (g_nm (i := 3) sc_corner_spots.nd rfl (by first | exact Or.inl rfl | exact Or.inr rfl) (by first | exact Or.inr rfl | exact Or.inl rfl)) gs_nil tgs_nil rfl) (tgs_cons tgs_nm tgs_nil) rfl) (tgs_cons tgs_nm (tgs_cons tgs_nm tgs_nil)) rfl rfl)) (fun _ _ _ _ _ => ts_nil) (fun _ _ _ _ _ => (c_P dcrossing (hr.mono (by decide)) hg (by rfl) rfl (a_cons (v 2 n_one) (a_cons (v 3 n_two) a_nil rfl) rfl) (len_cons (len_cons len_nil)) (by decide) rfl rfl)) (by decide) (fun _ => rfl))
  (s_one (s_ret (r_comp (bb := false) (sl := [4]) (own := [("spot", 4)]) rfl sc_corner_spots.nd (i_seq (v 1 n_crossings)) (blkOk_by (N := N_corner_spots) (sc := defScope st_corner_spots) (own := [("spot", 4)]) (by decide +kernel)) (fun _ _ _ _ _ => (g_nm (i := 4) sc_corner_spots.nd rfl (by first | exact Or.inl rfl | exact Or.inr rfl) (by first | exact Or.inr rfl | exact Or.inl rfl))) (fun _ _ _ _ _ => (ts_one (q_pw (q_and (q_cmp ops_notN (toQ (v 4 n_spot)) (toQ r_non) (nomark _) bool_notN) (q_and1 (q_tr (toQ (c_P dholds (hr.mono (by decide)) hg (by rfl) rfl (a_cons (v 0 n_sides) (a_cons (v 4 n_spot) a_nil rfl) rfl) (len_cons (len_cons len_nil)) (by decide) rfl rfl)) (fun _ => rfl))))))) (fun _ _ _ _ _ => (v 4 n_spot)) (by decide) (fun _ => rfl)))))⟩
def N_square_between : List Str := ["one", "two", "x", "y", "scale", "u", "v", "other", "along", "across"]
theorem sc_square_between : FnScope N_square_between ["one", "two"] (defScope st_square_between) := ⟨rfl, rfl, rfl, by decide +kernel, rfl, by decide +kernel, by decide +kernel⟩
def msquare_between : Sm :=
  (sSeq (sAsg (gTp (gC (gNm 2) (gC (gNm 3) (gC (gNm 4) gN)))) (dVar 0))
  (sSeq (sAsg (gTp (gC (gNm 5) (gC (gNm 6) (gC (gNm 7) gN)))) (dVar 1))
  (sSeq (sAsg (gNm 8) (dBin gSub (dBin gMul (dVar 2) (dVar 7)) (dBin gMul (dVar 5) (dVar 4))))
  (sSeq (sAsg (gNm 9) (dBin gSub (dBin gMul (dVar 3) (dVar 7)) (dBin gMul (dVar 6) (dVar 4))))
  (sRet (dCallP Fratio (dCons (dBin gAdd (dBin gMul (dVar 8) (dVar 8)) (dBin gMul (dVar 9) (dVar 9))) (dCons (dBin gMul (dBin gMul (dBin gMul (dVar 4) (dVar 4)) (dVar 7)) (dVar 7)) dNil))))))))
def Fsquare_between : List D → Option D := defP 2 10 msquare_between
theorem ok_square_between (bt : Bt mg) {aratio : Addr} {bratio : FuncData} (dratio : Dn P w K mg base 1 aratio bratio "ratio" ["above", "below"] (spP 2 Fratio)) {f : Addr} {fd : FuncData} (F : FnP K "square_between" st_square_between f fd) (m : mg "square_between" = some (.ref f)) : Dn P w K mg base 2 f fd "square_between" ["one", "two"] (spP 2 Fsquare_between) :=
  ⟨m, F.kp, F.bindsN (fun _ _ _ _ _ _ us hl => match us, hl with | [_, _], _ => rfl), okP F sc_square_between rfl (by decide) fun cdv A outer s0 H E hr hg =>
  (s_cons (s_asg (v 0 n_one) (g_tp' rfl (gs_cons' (g_nm (i := 2) sc_square_between.nd rfl (by first | exact Or.inl rfl | exact Or.inr rfl) (Or.inl rfl)) (gs_cons' (g_nm (i := 3) sc_square_between.nd rfl (by first | exact Or.inl rfl | exact Or.inr rfl) (Or.inl rfl)) (gs_cons' (g_nm (i := 4) sc_square_between.nd rfl (by first | exact Or.inl rfl | exact Or.inr rfl) (Or.inl rfl)) gs_nil tgs_nil rfl) (tgs_cons tgs_nm tgs_nil) rfl) (tgs_cons tgs_nm (tgs_cons tgs_nm tgs_nil)) rfl) (tgs_cons tgs_nm (tgs_cons tgs_nm (tgs_cons tgs_nm tgs_nil))) rfl rfl) (tgs_tp (tgs_cons tgs_nm (tgs_cons tgs_nm (tgs_cons tgs_nm tgs_nil)))) rfl rfl rfl)
  (s_cons (s_asg (v 1 n_two) (g_tp' rfl (gs_cons' (g_nm (i := 5) sc_square_between.nd rfl (by first | exact Or.inl rfl | exact Or.inr rfl) (Or.inl rfl)) (gs_cons' (g_nm (i := 6) sc_square_between.nd rfl (by first | exact Or.inl rfl | exact Or.inr rfl) (Or.inl rfl)) (gs_cons' (g_nm (i := 7) sc_square_between.nd rfl (by first | exact Or.inl rfl | exact Or.inr rfl) (Or.inl rfl)) gs_nil tgs_nil rfl) (tgs_cons tgs_nm tgs_nil) rfl) (tgs_cons tgs_nm (tgs_cons tgs_nm tgs_nil)) rfl) (tgs_cons tgs_nm (tgs_cons tgs_nm (tgs_cons tgs_nm tgs_nil))) rfl rfl) (tgs_tp (tgs_cons tgs_nm (tgs_cons tgs_nm (tgs_cons tgs_nm tgs_nil)))) rfl rfl rfl)
  (s_cons (s_nm (i := 8) sc_square_between.nd rfl (by first | exact Or.inl rfl | exact Or.inr rfl) (r_bin ops_sub (toQ (r_bin ops_mul (toQ (v 2 n_x)) (toQ (v 7 n_other)))) (toQ (r_bin ops_mul (toQ (v 5 n_u)) (toQ (v 4 n_scale))))) rfl (Or.inl rfl))
  (s_cons (s_nm (i := 9) sc_square_between.nd rfl (by first | exact Or.inl rfl | exact Or.inr rfl) (r_bin ops_sub (toQ (r_bin ops_mul (toQ (v 3 n_y)) (toQ (v 7 n_other)))) (toQ (r_bin ops_mul (toQ (v 6 n_v)) (toQ (v 4 n_scale))))) rfl (Or.inl rfl))
  (s_one (s_ret (c_P dratio (hr.mono (by decide)) hg (by rfl) rfl (a_cons (r_bin ops_add (toQ (r_bin ops_mul (toQ (v 8 n_along)) (toQ (v 8 n_along)))) (toQ (r_bin ops_mul (toQ (v 9 n_across)) (toQ (v 9 n_across))))) (a_cons (r_bin ops_mul (toQ (r_bin ops_mul (toQ (r_bin ops_mul (toQ (v 4 n_scale)) (toQ (v 4 n_scale)))) (toQ (v 7 n_other)))) (toQ (v 7 n_other))) a_nil rfl) rfl) (len_cons (len_cons len_nil)) (by decide) rfl rfl)))))))⟩
def N_nearest_spot : List Str := ["sides", "spot", "best", "least", "found", "square"]
theorem sc_nearest_spot : FnScope N_nearest_spot ["sides", "spot"] (defScope st_nearest_spot) := ⟨rfl, rfl, rfl, by decide +kernel, rfl, by decide +kernel, by decide +kernel⟩
def mnearest_spot : Sm :=
  (sSeq (sIf (dTr (dCallP Fholds (dCons (dVar 0) (dCons (dVar 1) dNil))))
  (sRet (dVar 1))
  sSkip)
  (sSeq (sAsg (gNm 2) (dC .none))
  (sSeq (sAsg (gNm 3) (dC .none))
  (sSeq (sFor (dItems (dBin gAdd (dCallP Ffoot_spots (dCons (dVar 0) (dCons (dVar 1) dNil))) (dCallP Fcorner_spots (dCons (dVar 0) dNil)))) (gNm 4)
  (sSeq (sAsg (gNm 5) (dCallP Fsquare_between (dCons (dVar 4) (dCons (dVar 1) dNil))))
  (sIf (dOr (dTr (dBin gIsN (dVar 3) (dC .none))) (dNot (dTr (dCallP Fat_most (dCons (dVar 3) (dCons (dVar 5) dNil))))))
  (sSeq (sAsg (gNm 2) (dVar 4))
  (sAsg (gNm 3) (dVar 5)))
  sSkip)))
  (sRet (dVar 2))))))
def Fnearest_spot : List D → Option D := defP 2 6 mnearest_spot
theorem ok_nearest_spot (bt : Bt mg) {aholds : Addr} {bholds : FuncData} (dholds : Dn P w K mg base 1 aholds bholds "holds" ["sides", "spot"] (spP 2 Fholds)) {afoot_spots : Addr} {bfoot_spots : FuncData} (dfoot_spots : Dn P w K mg base 2 afoot_spots bfoot_spots "foot_spots" ["sides", "spot"] (spP 2 Ffoot_spots)) {acorner_spots : Addr} {bcorner_spots : FuncData} (dcorner_spots : Dn P w K mg base 2 acorner_spots bcorner_spots "corner_spots" ["sides"] (spP 1 Fcorner_spots)) {asquare_between : Addr} {bsquare_between : FuncData} (dsquare_between : Dn P w K mg base 2 asquare_between bsquare_between "square_between" ["one", "two"] (spP 2 Fsquare_between)) {aat_most : Addr} {bat_most : FuncData} (dat_most : Dn P w K mg base 1 aat_most bat_most "at_most" ["one", "two"] (spP 2 Fat_most)) {f : Addr} {fd : FuncData} (F : FnP K "nearest_spot" st_nearest_spot f fd) (m : mg "nearest_spot" = some (.ref f)) : Dn P w K mg base 3 f fd "nearest_spot" ["sides", "spot"] (spP 2 Fnearest_spot) :=
  ⟨m, F.kp, F.bindsN (fun _ _ _ _ _ _ us hl => match us, hl with | [_, _], _ => rfl), okP F sc_nearest_spot rfl (by decide) fun cdv A outer s0 H E hr hg =>
  (s_cons (s_if (q_tr (toQ (c_P dholds (hr.mono (by decide)) hg (by rfl) rfl (a_cons (v 0 n_sides) (a_cons (v 1 n_spot) a_nil rfl) rfl) (len_cons (len_cons len_nil)) (by decide) rfl rfl)) (fun _ => rfl))
  (s_one (s_ret (v 1 n_spot)))
  s_nil)
  (s_cons (s_nm (i := 2) sc_nearest_spot.nd rfl (by first | exact Or.inl rfl | exact Or.inr rfl) r_non rfl (Or.inl rfl))
  (s_cons (s_nm (i := 3) sc_nearest_spot.nd rfl (by first | exact Or.inl rfl | exact Or.inr rfl) r_non rfl (Or.inl rfl))
  (s_cons (s_for PassesOwn.never rfl (i_seq (r_bin ops_add (toQ (c_P dfoot_spots (hr.mono (by decide)) hg (by rfl) rfl (a_cons (v 0 n_sides) (a_cons (v 1 n_spot) a_nil rfl) rfl) (len_cons (len_cons len_nil)) (by decide) rfl rfl)) (toQ (c_P dcorner_spots (hr.mono (by decide)) hg (by rfl) rfl (a_cons (v 0 n_sides) a_nil rfl) (len_cons len_nil) (by decide) rfl rfl)))) (g_nm (i := 4) sc_nearest_spot.nd rfl (by first | exact Or.inl rfl | exact Or.inr rfl) (Or.inl rfl)) tgs_nm
  (s_cons (s_nm (i := 5) sc_nearest_spot.nd rfl (by first | exact Or.inl rfl | exact Or.inr rfl) (c_P dsquare_between (hr.mono (by decide)) hg (by rfl) rfl (a_cons (v 4 n_found) (a_cons (v 1 n_spot) a_nil rfl) rfl) (len_cons (len_cons len_nil)) (by decide) rfl rfl) rfl (Or.inl rfl))
  (s_one (s_if (q_pw (q_or (q_cmp ops_isN (toQ (v 3 n_least)) (toQ r_non) (nomark _) bool_isN) (q_or1 (q_not (q_tr (toQ (c_P dat_most (hr.mono (by decide)) hg (by rfl) rfl (a_cons (v 3 n_least) (a_cons (v 5 n_square) a_nil rfl) rfl) (len_cons (len_cons len_nil)) (by decide) rfl rfl)) (fun _ => rfl))))))
  (s_cons (s_nm (i := 2) sc_nearest_spot.nd rfl (by first | exact Or.inl rfl | exact Or.inr rfl) (v 4 n_found) rfl (Or.inl rfl))
  (s_one (s_nm (i := 3) sc_nearest_spot.nd rfl (by first | exact Or.inl rfl | exact Or.inr rfl) (v 5 n_square) rfl (Or.inl rfl))))
  s_nil))) (fun _ => rfl))
  (s_one (s_ret (v 2 n_best)))))))⟩
def N_holds_nothing : List Str := ["sides"]
theorem sc_holds_nothing : FnScope N_holds_nothing ["sides"] (defScope st_holds_nothing) := ⟨rfl, rfl, rfl, by decide +kernel, rfl, by decide +kernel, by decide +kernel⟩
def mholds_nothing : Sm :=
  (sRet (dBin gIsN (dCallP Fnearest_spot (dCons (dVar 0) (dCons (dTup (dCons (dC (.int 0)) (dCons (dC (.int 0)) (dCons (dC (.int 1)) dNil)))) dNil))) (dC .none)))
def Fholds_nothing : List D → Option D := defP 1 1 mholds_nothing
theorem ok_holds_nothing (bt : Bt mg) {anearest_spot : Addr} {bnearest_spot : FuncData} (dnearest_spot : Dn P w K mg base 3 anearest_spot bnearest_spot "nearest_spot" ["sides", "spot"] (spP 2 Fnearest_spot)) {f : Addr} {fd : FuncData} (F : FnP K "holds_nothing" st_holds_nothing f fd) (m : mg "holds_nothing" = some (.ref f)) : Dn P w K mg base 4 f fd "holds_nothing" ["sides"] (spP 1 Fholds_nothing) :=
  ⟨m, F.kp, F.bindsN (fun _ _ _ _ _ _ us hl => match us, hl with | [_], _ => rfl), okP F sc_holds_nothing rfl (by decide) fun cdv A outer s0 H E hr hg =>
  (s_one (s_ret (r_cmp ops_isN (toQ (c_P dnearest_spot (hr.mono (by decide)) hg (by rfl) rfl (a_cons (v 0 n_sides) (a_cons (r_tup (a_cons r_int (a_cons r_int (a_cons r_int a_nil rfl) rfl) rfl)) a_nil rfl) rfl) (len_cons (len_cons len_nil)) (by decide) rfl rfl)) (toQ r_non) (nomark _))))⟩
def N_whole_sides : List Str := ["field", "found", "side", "scale", "number"]
theorem sc_whole_sides : FnScope N_whole_sides ["field"] (defScope st_whole_sides) := ⟨rfl, rfl, rfl, by decide +kernel, rfl, by decide +kernel, by decide +kernel⟩
def mwhole_sides : Sm :=
  (sSeq (sOwn 1 (dLst dNil))
  (sSeq (sFor (dItems (dVar 0)) (gNm 2)
  (sSeq (sAsg (gNm 3) (dCallP Fcommon_scale (dCons (dVar 2) dNil)))
  (sApp 1 (dComp [4] (dItems (dVar 2)) (gNm 4) dYes (dCallP Fscaled (dCons (dVar 4) (dCons (dVar 3) dNil)))))))
  (sFz 1 (sRet (dVar 1)))))
def Fwhole_sides : List D → Option D := defP 1 5 mwhole_sides
theorem ok_whole_sides (bt : Bt mg) {acommon_scale : Addr} {bcommon_scale : FuncData} (dcommon_scale : Dn P w K mg base 1 acommon_scale bcommon_scale "common_scale" ["fractions"] (spP 1 Fcommon_scale)) {ascaled : Addr} {bscaled : FuncData} (dscaled : Dn P w K mg base 1 ascaled bscaled "scaled" ["fraction", "scale"] (spP 2 Fscaled)) {f : Addr} {fd : FuncData} (F : FnP K "whole_sides" st_whole_sides f fd) (m : mg "whole_sides" = some (.ref f)) : Dn P w K mg base 2 f fd "whole_sides" ["field"] (spP 1 Fwhole_sides) :=
  ⟨m, F.kp, F.bindsN (fun _ _ _ _ _ _ us hl => match us, hl with | [_], _ => rfl), okP F sc_whole_sides rfl (by decide) fun cdv A outer s0 H E hr hg =>
  (s_cons (s_own (i := 1) sc_whole_sides.nd rfl (by first | exact Or.inl rfl | exact Or.inr rfl) (f_lst a_nil) rfl (Or.inl rfl))
  (s_cons (s_for PassesOwn.never rfl (i_seq (v 0 n_field)) (g_nm (i := 2) sc_whole_sides.nd rfl (by first | exact Or.inl rfl | exact Or.inr rfl) (Or.inl rfl)) tgs_nm
  (s_cons (s_nm (i := 3) sc_whole_sides.nd rfl (by first | exact Or.inl rfl | exact Or.inr rfl) (c_P dcommon_scale (hr.mono (by decide)) hg (by rfl) rfl (a_cons (v 2 n_side) a_nil rfl) (len_cons len_nil) (by decide) rfl rfl) rfl (Or.inl rfl))
  (s_one (s_app (i := 1) rfl (by first | exact Or.inl rfl | exact Or.inr (Or.inl rfl) | exact Or.inr (Or.inr rfl)) n_found.d n_found.c (r_comp (bb := false) (sl := [4]) (own := [("number", 4)]) rfl sc_whole_sides.nd (i_seq (v 2 n_side)) (blkOk_by (N := N_whole_sides) (sc := defScope st_whole_sides) (own := [("number", 4)]) (by decide +kernel)) (fun _ _ _ _ _ => (g_nm (i := 4) sc_whole_sides.nd rfl (by first | exact Or.inl rfl | exact Or.inr rfl) (by first | exact Or.inr rfl | exact Or.inl rfl))) (fun _ _ _ _ _ => ts_nil) (fun _ _ _ _ _ => (c_P dscaled (hr.mono (by decide)) hg (by rfl) rfl (a_cons (v 4 n_number) (a_cons (v 3 n_scale) a_nil rfl) rfl) (len_cons (len_cons len_nil)) (by decide) rfl rfl)) (by decide) (fun _ => rfl)) rfl rfl rfl rfl rfl rfl))) (fun _ => rfl))
  (s_one (s_fz 1 (s_ret (v 1 n_found))))))⟩
def N_check_not_empty : List Str := ["field"]
theorem sc_check_not_empty : FnScope N_check_not_empty ["field"] (defScope st_check_not_empty) := ⟨rfl, rfl, rfl, by decide +kernel, rfl, by decide +kernel, by decide +kernel⟩
def mcheck_not_empty : Sm :=
  (sIf (dTr (dCallP Fholds_nothing (dCons (dCallP Fwhole_sides (dCons (dVar 0) dNil)) dNil)))
  sNo
  sSkip)
def Fcheck_not_empty : List D → Option D := defP 1 1 mcheck_not_empty
theorem ok_check_not_empty (bt : Bt mg) {aholds_nothing : Addr} {bholds_nothing : FuncData} (dholds_nothing : Dn P w K mg base 4 aholds_nothing bholds_nothing "holds_nothing" ["sides"] (spP 1 Fholds_nothing)) {awhole_sides : Addr} {bwhole_sides : FuncData} (dwhole_sides : Dn P w K mg base 2 awhole_sides bwhole_sides "whole_sides" ["field"] (spP 1 Fwhole_sides)) {f : Addr} {fd : FuncData} (F : FnP K "check_not_empty" st_check_not_empty f fd) (m : mg "check_not_empty" = some (.ref f)) : Dn P w K mg base 5 f fd "check_not_empty" ["field"] (spP 1 Fcheck_not_empty) :=
  ⟨m, F.kp, F.bindsN (fun _ _ _ _ _ _ us hl => match us, hl with | [_], _ => rfl), okP F sc_check_not_empty rfl (by decide) fun cdv A outer s0 H E hr hg =>
  (s_one (s_if (q_tr (toQ (c_P dholds_nothing (hr.mono (by decide)) hg (by rfl) rfl (a_cons (c_P dwhole_sides (hr.mono (by decide)) hg (by rfl) rfl (a_cons (v 0 n_field) a_nil rfl) (len_cons len_nil) (by decide) rfl rfl) a_nil rfl) (len_cons len_nil) (by decide) rfl rfl)) (fun _ => rfl))
  (s_one s_no)
  s_nil))⟩
def N_is_told_by_one : List Str := ["line", "side", "a", "b", "c", "d", "e", "f", "along"]
theorem sc_is_told_by_one : FnScope N_is_told_by_one ["line", "side"] (defScope st_is_told_by_one) := ⟨rfl, rfl, rfl, by decide +kernel, rfl, by decide +kernel, by decide +kernel⟩
def mis_told_by_one : Sm :=
  (sSeq (sAsg (gTp (gC (gNm 2) (gC (gNm 3) (gC (gNm 4) gN)))) (dVar 0))
  (sSeq (sAsg (gTp (gC (gNm 5) (gC (gNm 6) (gC (gNm 7) gN)))) (dVar 1))
  (sSeq (sAsg (gNm 8) (dBin gAdd (dBin gMul (dVar 2) (dVar 5)) (dBin gMul (dVar 3) (dVar 6))))
  (sRet (dAndV (dBin gEq (dBin gMul (dVar 2) (dVar 6)) (dBin gMul (dVar 3) (dVar 5))) (dAndV (dBin gGt (dVar 8) (dC (.int 0))) (dBin gLe (dBin gMul (dVar 8) (dVar 4)) (dBin gMul (dVar 7) (dBin gAdd (dBin gMul (dVar 2) (dVar 2)) (dBin gMul (dVar 3) (dVar 3)))))))))))
def Fis_told_by_one : List D → Option D := defP 2 9 mis_told_by_one
theorem ok_is_told_by_one (bt : Bt mg)  {f : Addr} {fd : FuncData} (F : FnP K "is_told_by_one" st_is_told_by_one f fd) (m : mg "is_told_by_one" = some (.ref f)) : Dn P w K mg base 1 f fd "is_told_by_one" ["line", "side"] (spP 2 Fis_told_by_one) :=
  ⟨m, F.kp, F.bindsN (fun _ _ _ _ _ _ us hl => match us, hl with | [_, _], _ => rfl), okP F sc_is_told_by_one rfl (by decide) fun cdv A outer s0 H E hr hg =>
  (s_cons (s_asg (v 0 n_line) (g_tp' rfl (gs_cons' (g_nm (i := 2) sc_is_told_by_one.nd rfl (by first | exact Or.inl rfl | exact Or.inr rfl) (Or.inl rfl)) (gs_cons' (g_nm (i := 3) sc_is_told_by_one.nd rfl (by first | exact Or.inl rfl | exact Or.inr rfl) (Or.inl rfl)) (gs_cons' (g_nm (i := 4) sc_is_told_by_one.nd rfl (by first | exact Or.inl rfl | exact Or.inr rfl) (Or.inl rfl)) gs_nil tgs_nil rfl) (tgs_cons tgs_nm tgs_nil) rfl) (tgs_cons tgs_nm (tgs_cons tgs_nm tgs_nil)) rfl) (tgs_cons tgs_nm (tgs_cons tgs_nm (tgs_cons tgs_nm tgs_nil))) rfl rfl) (tgs_tp (tgs_cons tgs_nm (tgs_cons tgs_nm (tgs_cons tgs_nm tgs_nil)))) rfl rfl rfl)
  (s_cons (s_asg (v 1 n_side) (g_tp' rfl (gs_cons' (g_nm (i := 5) sc_is_told_by_one.nd rfl (by first | exact Or.inl rfl | exact Or.inr rfl) (Or.inl rfl)) (gs_cons' (g_nm (i := 6) sc_is_told_by_one.nd rfl (by first | exact Or.inl rfl | exact Or.inr rfl) (Or.inl rfl)) (gs_cons' (g_nm (i := 7) sc_is_told_by_one.nd rfl (by first | exact Or.inl rfl | exact Or.inr rfl) (Or.inl rfl)) gs_nil tgs_nil rfl) (tgs_cons tgs_nm tgs_nil) rfl) (tgs_cons tgs_nm (tgs_cons tgs_nm tgs_nil)) rfl) (tgs_cons tgs_nm (tgs_cons tgs_nm (tgs_cons tgs_nm tgs_nil))) rfl rfl) (tgs_tp (tgs_cons tgs_nm (tgs_cons tgs_nm (tgs_cons tgs_nm tgs_nil)))) rfl rfl rfl)
  (s_cons (s_nm (i := 8) sc_is_told_by_one.nd rfl (by first | exact Or.inl rfl | exact Or.inr rfl) (r_bin ops_add (toQ (r_bin ops_mul (toQ (v 2 n_a)) (toQ (v 5 n_d)))) (toQ (r_bin ops_mul (toQ (v 3 n_b)) (toQ (v 6 n_e))))) rfl (Or.inl rfl))
  (s_one (s_ret (r_and (r_cmp (ops_eq (room64 hr)) (toQ (r_bin ops_mul (toQ (v 2 n_a)) (toQ (v 6 n_e)))) (toQ (r_bin ops_mul (toQ (v 3 n_b)) (toQ (v 5 n_d)))) (nomark _)) (r_and (r_cmp ops_gt (toQ (v 8 n_along)) (toQ r_int) (nomark _)) (r_one (r_cmp ops_le (toQ (r_bin ops_mul (toQ (v 8 n_along)) (toQ (v 4 n_c)))) (toQ (r_bin ops_mul (toQ (v 7 n_f)) (toQ (r_bin ops_add (toQ (r_bin ops_mul (toQ (v 2 n_a)) (toQ (v 2 n_a)))) (toQ (r_bin ops_mul (toQ (v 3 n_b)) (toQ (v 3 n_b)))))))) (nomark _))))))))))⟩
def N_is_told_by_two : List Str := ["one", "two", "side", "spot", "a", "b", "c", "d", "e", "f", "g", "h", "_", "turn", "first", "second"]
theorem sc_is_told_by_two : FnScope N_is_told_by_two ["one", "two", "side"] (defScope st_is_told_by_two) := ⟨rfl, rfl, rfl, by decide +kernel, rfl, by decide +kernel, by decide +kernel⟩
def mis_told_by_two : Sm :=
  (sSeq (sAsg (gNm 3) (dCallP Fcrossing (dCons (dVar 0) (dCons (dVar 1) dNil))))
  (sSeq (sIf (dTr (dBin gIsN (dVar 3) (dC .none)))
  (sRet (dC (.bool false)))
  sSkip)
  (sSeq (sAsg (gTp (gC (gNm 4) (gC (gNm 5) (gC (gNm 6) gN)))) (dVar 0))
  (sSeq (sAsg (gTp (gC (gNm 7) (gC (gNm 8) (gC (gNm 9) gN)))) (dVar 1))
  (sSeq (sAsg (gTp (gC (gNm 10) (gC (gNm 11) (gC (gNm 12) gN)))) (dVar 2))
  (sSeq (sAsg (gNm 13) (dIf (dTr (dBin gGt (dBin gSub (dBin gMul (dVar 4) (dVar 8)) (dBin gMul (dVar 7) (dVar 5))) (dC (.int 0)))) (dC (.int 1)) (dUn gNeg (dC (.int 1)))))
  (sSeq (sAsg (gNm 14) (dBin gMul (dBin gSub (dBin gMul (dVar 10) (dVar 8)) (dBin gMul (dVar 11) (dVar 7))) (dVar 13)))
  (sSeq (sAsg (gNm 15) (dBin gMul (dBin gSub (dBin gMul (dVar 4) (dVar 11)) (dBin gMul (dVar 5) (dVar 10))) (dVar 13)))
  (sRet (dAndV (dBin gGe (dVar 14) (dC (.int 0))) (dAndV (dBin gGe (dVar 15) (dC (.int 0))) (dCallP Fholds (dCons (dLst (dCons (dVar 2) dNil)) (dCons (dVar 3) dNil))))))))))))))
def Fis_told_by_two : List D → Option D := defP 3 16 mis_told_by_two
theorem ok_is_told_by_two (bt : Bt mg) {acrossing : Addr} {bcrossing : FuncData} (dcrossing : Dn P w K mg base 1 acrossing bcrossing "crossing" ["one", "two"] (spP 2 Fcrossing)) {aholds : Addr} {bholds : FuncData} (dholds : Dn P w K mg base 1 aholds bholds "holds" ["sides", "spot"] (spP 2 Fholds)) {f : Addr} {fd : FuncData} (F : FnP K "is_told_by_two" st_is_told_by_two f fd) (m : mg "is_told_by_two" = some (.ref f)) : Dn P w K mg base 2 f fd "is_told_by_two" ["one", "two", "side"] (spP 3 Fis_told_by_two) :=
  ⟨m, F.kp, F.bindsN (fun _ _ _ _ _ _ us hl => match us, hl with | [_, _, _], _ => rfl), okP F sc_is_told_by_two rfl (by decide) fun cdv A outer s0 H E hr hg =>
  (s_cons (s_nm (i := 3) sc_is_told_by_two.nd rfl (by first | exact Or.inl rfl | exact Or.inr rfl) (c_P dcrossing (hr.mono (by decide)) hg (by rfl) rfl (a_cons (v 0 n_one) (a_cons (v 1 n_two) a_nil rfl) rfl) (len_cons (len_cons len_nil)) (by decide) rfl rfl) rfl (Or.inl rfl))
  (s_cons (s_if (q_cmp ops_isN (toQ (v 3 n_spot)) (toQ r_non) (nomark _) bool_isN)
  (s_one (s_ret r_bl))
  s_nil)
  (s_cons (s_asg (v 0 n_one) (g_tp' rfl (gs_cons' (g_nm (i := 4) sc_is_told_by_two.nd rfl (by first | exact Or.inl rfl | exact Or.inr rfl) (Or.inl rfl)) (gs_cons' (g_nm (i := 5) sc_is_told_by_two.nd rfl (by first | exact Or.inl rfl | exact Or.inr rfl) (Or.inl rfl)) (gs_cons' (g_nm (i := 6) sc_is_told_by_two.nd rfl (by first | exact Or.inl rfl | exact Or.inr rfl) (Or.inl rfl)) gs_nil tgs_nil rfl) (tgs_cons tgs_nm tgs_nil) rfl) (tgs_cons tgs_nm (tgs_cons tgs_nm tgs_nil)) rfl) (tgs_cons tgs_nm (tgs_cons tgs_nm (tgs_cons tgs_nm tgs_nil))) rfl rfl) (tgs_tp (tgs_cons tgs_nm (tgs_cons tgs_nm (tgs_cons tgs_nm tgs_nil)))) rfl rfl rfl)
  (s_cons (s_asg (v 1 n_two) (g_tp' rfl (gs_cons' (g_nm (i := 7) sc_is_told_by_two.nd rfl (by first | exact Or.inl rfl | exact Or.inr rfl) (Or.inl rfl)) (gs_cons' (g_nm (i := 8) sc_is_told_by_two.nd rfl (by first | exact Or.inl rfl | exact Or.inr rfl) (Or.inl rfl)) (gs_cons' (g_nm (i := 9) sc_is_told_by_two.nd rfl (by first | exact Or.inl rfl | exact Or.inr rfl) (Or.inl rfl)) gs_nil tgs_nil rfl) (tgs_cons tgs_nm tgs_nil) rfl) (tgs_cons tgs_nm (tgs_cons tgs_nm tgs_nil)) rfl) (tgs_cons tgs_nm (tgs_cons tgs_nm (tgs_cons tgs_nm tgs_nil))) rfl rfl) (tgs_tp (tgs_cons tgs_nm (tgs_cons tgs_nm (tgs_cons tgs_nm tgs_nil)))) rfl rfl rfl)
  (s_cons (s_asg (v 2 n_side) (g_tp' rfl (gs_cons' (g_nm (i := 10) sc_is_told_by_two.nd rfl (by first | exact Or.inl rfl | exact Or.inr rfl) (Or.inl rfl)) (gs_cons' (g_nm (i := 11) sc_is_told_by_two.nd rfl (by first | exact Or.inl rfl | exact Or.inr rfl) (Or.inl rfl)) (gs_cons' (g_nm (i := 12) sc_is_told_by_two.nd rfl (by first | exact Or.inl rfl | exact Or.inr rfl) (Or.inl rfl)) gs_nil tgs_nil rfl) (tgs_cons tgs_nm tgs_nil) rfl) (tgs_cons tgs_nm (tgs_cons tgs_nm tgs_nil)) rfl) (tgs_cons tgs_nm (tgs_cons tgs_nm (tgs_cons tgs_nm tgs_nil))) rfl rfl) (tgs_tp (tgs_cons tgs_nm (tgs_cons tgs_nm (tgs_cons tgs_nm tgs_nil)))) rfl rfl rfl)
  (s_cons (s_nm (i := 13) sc_is_told_by_two.nd rfl (by first | exact Or.inl rfl | exact Or.inr rfl) (r_ifE (q_cmp ops_gt (toQ (r_bin ops_sub (toQ (r_bin ops_mul (toQ (v 4 n_a)) (toQ (v 8 n_e)))) (toQ (r_bin ops_mul (toQ (v 7 n_d)) (toQ (v 5 n_b)))))) (toQ r_int) (nomark _) bool_gI) r_int (r_neg (toQ r_int))) rfl (Or.inl rfl))
  (s_cons (s_nm (i := 14) sc_is_told_by_two.nd rfl (by first | exact Or.inl rfl | exact Or.inr rfl) (r_bin ops_mul (toQ (r_bin ops_sub (toQ (r_bin ops_mul (toQ (v 10 n_g)) (toQ (v 8 n_e)))) (toQ (r_bin ops_mul (toQ (v 11 n_h)) (toQ (v 7 n_d)))))) (toQ (v 13 n_turn))) rfl (Or.inl rfl))
  (s_cons (s_nm (i := 15) sc_is_told_by_two.nd rfl (by first | exact Or.inl rfl | exact Or.inr rfl) (r_bin ops_mul (toQ (r_bin ops_sub (toQ (r_bin ops_mul (toQ (v 4 n_a)) (toQ (v 11 n_h)))) (toQ (r_bin ops_mul (toQ (v 5 n_b)) (toQ (v 10 n_g)))))) (toQ (v 13 n_turn))) rfl (Or.inl rfl))
  (s_one (s_ret (r_and (r_cmp ops_ge (toQ (v 14 n_first)) (toQ r_int) (nomark _)) (r_and (r_cmp ops_ge (toQ (v 15 n_second)) (toQ r_int) (nomark _)) (r_one (c_P dholds (hr.mono (by decide)) hg (by rfl) rfl (a_cons (r_lst (a_cons (v 2 n_side) a_nil rfl)) (a_cons (v 3 n_spot) a_nil rfl) rfl) (len_cons (len_cons len_nil)) (by decide) rfl rfl))))))))))))))⟩
def N_is_told : List Str := ["sides", "side", "line", "one", "two"]
theorem sc_is_told : FnScope N_is_told ["sides", "side"] (defScope st_is_told) := ⟨rfl, rfl, rfl, by decide +kernel, rfl, by decide +kernel, by decide +kernel⟩
def mis_told : Sm :=
  (sSeq (sIf (dTr (dPri gAnyX (dCons (dComp [2] (dItems (dVar 0)) (gNm 2) dYes (dCallP Fis_told_by_one (dCons (dVar 2) (dCons (dVar 1) dNil)))) dNil)))
  (sRet (dC (.bool true)))
  sSkip)
  (sRet (dPri gAnyX (dCons (dComp [3, 4] (dCo (dCons (dVar 0) (dCons (dC (.int 2)) dNil))) (gTp (gC (gNm 3) (gC (gNm 4) gN))) dYes (dCallP Fis_told_by_two (dCons (dVar 3) (dCons (dVar 4) (dCons (dVar 1) dNil))))) dNil))))
def Fis_told : List D → Option D := defP 2 5 mis_told
theorem ok_is_told (bt : Bt mg) {ais_told_by_one : Addr} {bis_told_by_one : FuncData} (dis_told_by_one : Dn P w K mg base 1 ais_told_by_one bis_told_by_one "is_told_by_one" ["line", "side"] (spP 2 Fis_told_by_one)) {ais_told_by_two : Addr} {bis_told_by_two : FuncData} (dis_told_by_two : Dn P w K mg base 2 ais_told_by_two bis_told_by_two "is_told_by_two" ["one", "two", "side"] (spP 3 Fis_told_by_two)) {f : Addr} {fd : FuncData} (F : FnP K "is_told" st_is_told f fd) (m : mg "is_told" = some (.ref f)) : Dn P w K mg base 3 f fd "is_told" ["sides", "side"] (spP 2 Fis_told) :=
  ⟨m, F.kp, F.bindsN (fun _ _ _ _ _ _ us hl => match us, hl with | [_, _], _ => rfl), okP F sc_is_told rfl (by decide) fun cdv A outer s0 H E hr hg =>
  (s_cons (s_if (q_tr (toQ (r_blt (cas_anyX rfl) (by rfl) bt.any (by decide +kernel) (aq_cons (toQ (r_comp (bb := false) (sl := [2]) (own := [("line", 2)]) rfl sc_is_told.nd (i_seq (v 0 n_sides)) (blkOk_by (N := N_is_told) (sc := defScope st_is_told) (own := [("line", 2)]) (by decide +kernel)) (fun _ _ _ _ _ => (g_nm (i := 2) sc_is_told.nd rfl (by first | exact Or.inl rfl | exact Or.inr rfl) (by first | exact Or.inr rfl | exact Or.inl rfl))) (fun _ _ _ _ _ => ts_nil) (fun _ _ _ _ _ => (c_P dis_told_by_one (hr.mono (by decide)) hg (by rfl) rfl (a_cons (v 2 n_line) (a_cons (v 1 n_side) a_nil rfl) rfl) (len_cons (len_cons len_nil)) (by decide) rfl rfl)) (by decide) (fun _ => rfl))) aq_nil rfl) (by decide) (by decide) rfl rfl)) (fun _ => rfl))
  (s_one (s_ret r_bl))
  s_nil)
  (s_one (s_ret (r_blt (cas_anyX rfl) (by rfl) bt.any (by decide +kernel) (aq_cons (toQ (r_comp (bb := true) (sl := [3, 4]) (own := [("one", 3), ("two", 4)]) rfl sc_is_told.nd (i_coQ (nm := "combinations") (by rfl) bt.combinations (aq_cons (toQ (v 0 n_sides)) (aq_cons (toQ r_int) aq_nil rfl) rfl) rfl rfl) (blkOk_by (N := N_is_told) (sc := defScope st_is_told) (own := [("one", 3), ("two", 4)]) (by decide +kernel)) (fun _ _ _ _ _ => (g_tp' rfl (gs_cons' (g_nm (i := 3) sc_is_told.nd rfl (by first | exact Or.inl rfl | exact Or.inr rfl) (by first | exact Or.inr rfl | exact Or.inl rfl)) (gs_cons' (g_nm (i := 4) sc_is_told.nd rfl (by first | exact Or.inl rfl | exact Or.inr rfl) (by first | exact Or.inr rfl | exact Or.inl rfl)) gs_nil tgs_nil rfl) (tgs_cons tgs_nm tgs_nil) rfl) (tgs_cons tgs_nm (tgs_cons tgs_nm tgs_nil)) rfl rfl)) (fun _ _ _ _ _ => ts_nil) (fun _ _ _ _ _ => (c_P dis_told_by_two (hr.mono (by decide)) hg (by rfl) rfl (a_cons (v 3 n_one) (a_cons (v 4 n_two) (a_cons (v 1 n_side) a_nil rfl) rfl) rfl) (len_cons (len_cons (len_cons len_nil))) (by decide) rfl rfl)) (by decide) (fun _ => rfl))) aq_nil rfl) (by decide) (by decide) rfl rfl))))⟩
def N_lies_within : List Str := ["field", "other", "sides", "side"]
theorem sc_lies_within : FnScope N_lies_within ["field", "other"] (defScope st_lies_within) := ⟨rfl, rfl, rfl, by decide +kernel, rfl, by decide +kernel, by decide +kernel⟩
def mlies_within : Sm :=
  (sSeq (sDrop (dCallP Fcheck_field (dCons (dVar 0) dNil)))
  (sSeq (sDrop (dCallP Fcheck_field (dCons (dVar 1) dNil)))
  (sSeq (sDrop (dCallP Fcheck_not_empty (dCons (dVar 0) dNil)))
  (sSeq (sDrop (dCallP Fcheck_not_empty (dCons (dVar 1) dNil)))
  (sSeq (sAsg (gNm 2) (dCallP Fwhole_sides (dCons (dVar 0) dNil)))
  (sRet (dPri gAll (dCons (dComp [3] (dItems (dCallP Fwhole_sides (dCons (dVar 1) dNil))) (gNm 3) dYes (dCallP Fis_told (dCons (dVar 2) (dCons (dVar 3) dNil)))) dNil))))))))
def Flies_within : List D → Option D := defP 2 4 mlies_within
theorem ok_lies_within (bt : Bt mg) {acheck_field : Addr} {bcheck_field : FuncData} (dcheck_field : Dn P w K mg base 6 acheck_field bcheck_field "check_field" ["field"] (spP 1 Fcheck_field)) {acheck_not_empty : Addr} {bcheck_not_empty : FuncData} (dcheck_not_empty : Dn P w K mg base 5 acheck_not_empty bcheck_not_empty "check_not_empty" ["field"] (spP 1 Fcheck_not_empty)) {awhole_sides : Addr} {bwhole_sides : FuncData} (dwhole_sides : Dn P w K mg base 2 awhole_sides bwhole_sides "whole_sides" ["field"] (spP 1 Fwhole_sides)) {ais_told : Addr} {bis_told : FuncData} (dis_told : Dn P w K mg base 3 ais_told bis_told "is_told" ["sides", "side"] (spP 2 Fis_told)) {f : Addr} {fd : FuncData} (F : FnP K "lies_within" st_lies_within f fd) (m : mg "lies_within" = some (.ref f)) : Dn P w K mg base 7 f fd "lies_within" ["field", "other"] (spP 2 Flies_within) :=
  ⟨m, F.kp, F.bindsN (fun _ _ _ _ _ _ us hl => match us, hl with | [_, _], _ => rfl), okP F sc_lies_within rfl (by decide) fun cdv A outer s0 H E hr hg =>
  (s_cons (s_drop (c_P dcheck_field (hr.mono (by decide)) hg (by rfl) rfl (a_cons (v 0 n_field) a_nil rfl) (len_cons len_nil) (by decide) rfl rfl) rfl)
  (s_cons (s_drop (c_P dcheck_field (hr.mono (by decide)) hg (by rfl) rfl (a_cons (v 1 n_other) a_nil rfl) (len_cons len_nil) (by decide) rfl rfl) rfl)
  (s_cons (s_drop (c_P dcheck_not_empty (hr.mono (by decide)) hg (by rfl) rfl (a_cons (v 0 n_field) a_nil rfl) (len_cons len_nil) (by decide) rfl rfl) rfl)
  (s_cons (s_drop (c_P dcheck_not_empty (hr.mono (by decide)) hg (by rfl) rfl (a_cons (v 1 n_other) a_nil rfl) (len_cons len_nil) (by decide) rfl rfl) rfl)
  (s_cons (s_nm (i := 2) sc_lies_within.nd rfl (by first | exact Or.inl rfl | exact Or.inr rfl) (c_P dwhole_sides (hr.mono (by decide)) hg (by rfl) rfl (a_cons (v 0 n_field) a_nil rfl) (len_cons len_nil) (by decide) rfl rfl) rfl (Or.inl rfl))
  (s_one (s_ret (r_blt (cas_all rfl) (by rfl) bt.all (by decide +kernel) (aq_cons (toQ (r_comp (bb := false) (sl := [3]) (own := [("side", 3)]) rfl sc_lies_within.nd (i_seq (c_P dwhole_sides (hr.mono (by decide)) hg (by rfl) rfl (a_cons (v 1 n_other) a_nil rfl) (len_cons len_nil) (by decide) rfl rfl)) (blkOk_by (N := N_lies_within) (sc := defScope st_lies_within) (own := [("side", 3)]) (by decide +kernel)) (fun _ _ _ _ _ => (g_nm (i := 3) sc_lies_within.nd rfl (by first | exact Or.inl rfl | exact Or.inr rfl) (by first | exact Or.inr rfl | exact Or.inl rfl))) (fun _ _ _ _ _ => ts_nil) (fun _ _ _ _ _ => (c_P dis_told (hr.mono (by decide)) hg (by rfl) rfl (a_cons (v 2 n_sides) (a_cons (v 3 n_side) a_nil rfl) rfl) (len_cons (len_cons len_nil)) (by decide) rfl rfl)) (by decide) (fun _ => rfl))) aq_nil rfl) (by decide) (by decide) rfl rfl))))))))⟩
def N__law_take : List Str := ["well", "top", "rest", "digit", "seed"]
theorem sc__law_take : FnScope N__law_take ["well", "top"] (defScope st__law_take) := ⟨rfl, rfl, rfl, by decide +kernel, rfl, by decide +kernel, by decide +kernel⟩
def m_law_take : Sm :=
  (sSeq (sIf (dTr (dBin gGt (dWell 0 0) (dC (.int 0))))
  (sSeq (sAsg (gTp (gC (gNm 2) (gC (gNm 3) gN))) (dPri gDivmod (dCons (dWell 0 0) (dCons (dVar 1) dNil))))
  (sSeq (sWset 0 0 (dVar 2))
  (sRet (dVar 3))))
  sSkip)
  (sSeq (sWset 0 2 (dBin gAdd (dWell 0 2) (dC (.int 1))))
  (sSeq (sAsg (gNm 4) (dBin gMod (dPri gInt (dCons (dBin gAdd (dBin gMul (dWell 0 1) (dC (.int 48271))) (dBin gMul (dC (.int 10007)) (dWell 0 2))) dNil)) (dC (.int 2147483647))))
  (sSeq (sWset 0 1 (dVar 4))
  (sRet (dBin gMod (dPri gInt (dCons (dBin gFdiv (dBin gMul (dVar 4) (dBin gAdd (dBin gMod (dPri gInt (dCons (dVar 4) dNil)) (dC (.int 6007))) (dC (.int 40009)))) (dC (.int 4099))) dNil)) (dVar 1)))))))
def F_law_take : List D → Ws → Option (D × Ws) := defW 1 4 m_law_take
theorem ok__law_take (bt : Bt mg)  {f : Addr} {fd : FuncData} (F : FnP K "_law_take" st__law_take f fd) (m : mg "_law_take" = some (.ref f)) : Dn P w K mg base 1 f fd "_law_take" ["well", "top"] (spW 1 F_law_take) :=
  ⟨m, F.kp, F.bindsN (fun _ _ _ _ _ _ us hl => match us, hl with | [_, _], _ => rfl), okW F sc__law_take rfl (by decide) fun cdv A outer s0 H E hr hg =>
  (s_cons (s_if (q_cmp ops_gt (toQ (wl 0 (j := 0) n_well)) (toQ r_int) (nomark _) bool_gI)
  (s_cons (s_asg (r_blt cas_divmod (by rfl) bt.divmod (by decide +kernel) (aq_cons (toQ (wl 0 (j := 0) n_well)) (aq_cons (toQ (v 1 n_top)) aq_nil rfl) rfl) (by decide) (by decide) rfl rfl) (g_tp' rfl (gs_cons' (g_nm (i := 2) sc__law_take.nd rfl (by first | exact Or.inl rfl | exact Or.inr rfl) (Or.inl rfl)) (gs_cons' (g_nm (i := 3) sc__law_take.nd rfl (by first | exact Or.inl rfl | exact Or.inr rfl) (Or.inl rfl)) gs_nil tgs_nil rfl) (tgs_cons tgs_nm tgs_nil) rfl) (tgs_cons tgs_nm (tgs_cons tgs_nm tgs_nil)) rfl rfl) (tgs_tp (tgs_cons tgs_nm (tgs_cons tgs_nm tgs_nil))) rfl rfl rfl)
  (s_cons (s_wset (i := 0) (k := 0) rfl (by first | exact Or.inl rfl | exact Or.inr (Or.inl rfl) | exact Or.inr (Or.inr rfl)) n_well.d n_well.c (v 2 n_rest) (fun _ => rfl) rfl rfl rfl)
  (s_one (s_ret (v 3 n_digit)))))
  s_nil)
  (s_cons (s_wset (i := 0) (k := 2) rfl (by first | exact Or.inl rfl | exact Or.inr (Or.inl rfl) | exact Or.inr (Or.inr rfl)) n_well.d n_well.c (r_bin ops_add (toQ (wl 0 (j := 2) n_well)) (toQ r_int)) (fun _ => rfl) rfl rfl rfl)
  (s_cons (s_nm (i := 4) sc__law_take.nd rfl (by first | exact Or.inl rfl | exact Or.inr rfl) (r_bin ops_mod (toQ (r_typ cas_int (by rfl) bt.int (by decide +kernel) (aq_cons (toQ (r_bin ops_add (toQ (r_bin ops_mul (toQ (wl 0 (j := 1) n_well)) (toQ r_int))) (toQ (r_bin ops_mul (toQ r_int) (toQ (wl 0 (j := 2) n_well)))))) aq_nil rfl) (by decide) (by decide) rfl rfl)) (toQ r_int)) rfl (Or.inl rfl))
  (s_cons (s_wset (i := 0) (k := 1) rfl (by first | exact Or.inl rfl | exact Or.inr (Or.inl rfl) | exact Or.inr (Or.inr rfl)) n_well.d n_well.c (v 4 n_seed) (fun _ => rfl) rfl rfl rfl)
  (s_one (s_ret (r_bin ops_mod (toQ (r_typ cas_int (by rfl) bt.int (by decide +kernel) (aq_cons (toQ (r_bin ops_fdiv (toQ (r_bin ops_mul (toQ (v 4 n_seed)) (toQ (r_bin ops_add (toQ (r_bin ops_mod (toQ (r_typ cas_int (by rfl) bt.int (by decide +kernel) (aq_cons (toQ (v 4 n_seed)) aq_nil rfl) (by decide) (by decide) rfl rfl)) (toQ r_int))) (toQ r_int))))) (toQ r_int))) aq_nil rfl) (by decide) (by decide) rfl rfl)) (toQ (v 1 n_top)))))))))⟩
def N__law_one_of : List Str := ["well", "some"]
theorem sc__law_one_of : FnScope N__law_one_of ["well", "some"] (defScope st__law_one_of) := ⟨rfl, rfl, rfl, by decide +kernel, rfl, by decide +kernel, by decide +kernel⟩
def m_law_one_of : Sm :=
  (sRet (dBin gIx (dVar 1) (dCallW 0 F_law_take (dCons (dPri gLen (dCons (dVar 1) dNil)) dNil))))
def F_law_one_of : List D → Ws → Option (D × Ws) := defW 1 1 m_law_one_of
theorem ok__law_one_of (bt : Bt mg) {a_law_take : Addr} {b_law_take : FuncData} (d_law_take : Dn P w K mg base 1 a_law_take b_law_take "_law_take" ["well", "top"] (spW 1 F_law_take)) {f : Addr} {fd : FuncData} (F : FnP K "_law_one_of" st__law_one_of f fd) (m : mg "_law_one_of" = some (.ref f)) : Dn P w K mg base 2 f fd "_law_one_of" ["well", "some"] (spW 1 F_law_one_of) :=
  ⟨m, F.kp, F.bindsN (fun _ _ _ _ _ _ us hl => match us, hl with | [_, _], _ => rfl), okW F sc__law_one_of rfl (by decide) fun cdv A outer s0 H E hr hg =>
  (s_one (s_ret (r_ix (toQ (v 1 n_some)) (toQ (c_W (i := 0) d_law_take (hr.mono (by decide)) hg (by rfl) rfl (by first | exact Or.inl rfl | exact Or.inr (Or.inl rfl) | exact Or.inr (Or.inr rfl)) n_well.d n_well.c rfl (a_cons (r_blt cas_len (by rfl) bt.len (by decide +kernel) (aq_cons (toQ (v 1 n_some)) aq_nil rfl) (by decide) (by decide) rfl rfl) a_nil rfl) (len_cons len_nil) (by decide) rfl rfl)) (fun _ _ => rfl))))⟩
def N__law_gcd : List Str := ["a", "b", "step"]
theorem sc__law_gcd : FnScope N__law_gcd ["a", "b"] (defScope st__law_gcd) := ⟨rfl, rfl, rfl, by decide +kernel, rfl, by decide +kernel, by decide +kernel⟩
def m_law_gcd : Sm :=
  (sSeq (sAsg (gNm 0) (dPri gAbs (dCons (dVar 0) dNil)))
  (sSeq (sFor (dRng1 (dCons (dBin gAdd (dBin gMul (dC (.int 2)) (dUn gBits (dVar 1))) (dC (.int 3))) dNil)) (gNm 2)
  (sSeq (sIf (dTr (dBin gEq (dVar 1) (dC (.int 0))))
  (sRet (dVar 0))
  sSkip)
  (sPar2 0 1 (dCons (dVar 1) (dCons (dBin gMod (dPri gInt (dCons (dVar 0) dNil)) (dVar 1)) dNil)))))
  (sRet (dVar 0))))
def F_law_gcd : List D → Option D := defP 2 3 m_law_gcd
theorem ok__law_gcd (bt : Bt mg)  {f : Addr} {fd : FuncData} (F : FnP K "_law_gcd" st__law_gcd f fd) (m : mg "_law_gcd" = some (.ref f)) : Dn P w K mg base 1 f fd "_law_gcd" ["a", "b"] (spP 2 F_law_gcd) :=
  ⟨m, F.kp, F.bindsN (fun _ _ _ _ _ _ us hl => match us, hl with | [_, _], _ => rfl), okP F sc__law_gcd rfl (by decide) fun cdv A outer s0 H E hr hg =>
  (s_cons (s_nm (i := 0) sc__law_gcd.nd rfl (by first | exact Or.inl rfl | exact Or.inr rfl) (r_blt cas_abs (by rfl) bt.abs (by decide +kernel) (aq_cons (toQ (v 0 n_a)) aq_nil rfl) (by decide) (by decide) rfl rfl) rfl (Or.inl rfl))
  (s_cons (s_for PassesOwn.never rfl (i_rng1 (by rfl) bt.range (a_cons (r_bin ops_add (toQ (r_bin ops_mul (toQ r_int) (toQ (r_bits (toQ (v 1 n_b)) rfl rfl)))) (toQ r_int)) a_nil rfl) rfl) (g_nm (i := 2) sc__law_gcd.nd rfl (by first | exact Or.inl rfl | exact Or.inr rfl) (Or.inl rfl)) tgs_nm
  (s_cons (s_if (q_cmp (ops_eq (room64 hr)) (toQ (v 1 n_b)) (toQ r_int) (nomark _) bool_eq)
  (s_one (s_ret (v 0 n_a)))
  s_nil)
  (s_one (s_par2 (i := 0) (j := 1) rfl sc__law_gcd.nd rfl rfl (by decide) rfl rfl (a_cons (v 1 n_b) (a_cons (r_bin ops_mod (toQ (r_typ cas_int (by rfl) bt.int (by decide +kernel) (aq_cons (toQ (v 0 n_a)) aq_nil rfl) (by decide) (by decide) rfl rfl)) (toQ (v 1 n_b))) a_nil rfl) rfl) rfl rfl))) (fun _ => rfl))
  (s_one (s_ret (v 0 n_a)))))⟩
def N__law_ratio : List Str := ["n", "m", "both"]
theorem sc__law_ratio : FnScope N__law_ratio ["n", "m"] (defScope st__law_ratio) := ⟨rfl, rfl, rfl, by decide +kernel, rfl, by decide +kernel, by decide +kernel⟩
def m_law_ratio : Sm :=
  (sSeq (sIf (dTr (dBin gLt (dVar 1) (dC (.int 0))))
  (sPar2 0 1 (dCons (dUn gNeg (dVar 0)) (dCons (dUn gNeg (dVar 1)) dNil)))
  sSkip)
  (sSeq (sAsg (gNm 2) (dCallP F_law_gcd (dCons (dVar 0) (dCons (dVar 1) dNil))))
  (sRet (dTup (dCons (dBin gFdiv (dVar 0) (dVar 2)) (dCons (dBin gFdiv (dVar 1) (dVar 2)) dNil))))))
def F_law_ratio : List D → Option D := defP 2 3 m_law_ratio
theorem ok__law_ratio (bt : Bt mg) {a_law_gcd : Addr} {b_law_gcd : FuncData} (d_law_gcd : Dn P w K mg base 1 a_law_gcd b_law_gcd "_law_gcd" ["a", "b"] (spP 2 F_law_gcd)) {f : Addr} {fd : FuncData} (F : FnP K "_law_ratio" st__law_ratio f fd) (m : mg "_law_ratio" = some (.ref f)) : Dn P w K mg base 2 f fd "_law_ratio" ["n", "m"] (spP 2 F_law_ratio) :=
  ⟨m, F.kp, F.bindsN (fun _ _ _ _ _ _ us hl => match us, hl with | [_, _], _ => rfl), okP F sc__law_ratio rfl (by decide) fun cdv A outer s0 H E hr hg =>
  (s_cons (s_if (q_cmp ops_lt (toQ (v 1 n_m)) (toQ r_int) (nomark _) bool_gI)
  (s_one (s_par2 (i := 0) (j := 1) rfl sc__law_ratio.nd rfl rfl (by decide) rfl rfl (a_cons (r_neg (toQ (v 0 n_n))) (a_cons (r_neg (toQ (v 1 n_m))) a_nil rfl) rfl) rfl rfl))
  s_nil)
  (s_cons (s_nm (i := 2) sc__law_ratio.nd rfl (by first | exact Or.inl rfl | exact Or.inr rfl) (c_P d_law_gcd (hr.mono (by decide)) hg (by rfl) rfl (a_cons (v 0 n_n) (a_cons (v 1 n_m) a_nil rfl) rfl) (len_cons (len_cons len_nil)) (by decide) rfl rfl) rfl (Or.inl rfl))
  (s_one (s_ret (r_tup (a_cons (r_bin ops_fdiv (toQ (v 0 n_n)) (toQ (v 2 n_both))) (a_cons (r_bin ops_fdiv (toQ (v 1 n_m)) (toQ (v 2 n_both))) a_nil rfl) rfl))))))⟩
def N__law_plus : List Str := ["a", "b"]
theorem sc__law_plus : FnScope N__law_plus ["a", "b"] (defScope st__law_plus) := ⟨rfl, rfl, rfl, by decide +kernel, rfl, by decide +kernel, by decide +kernel⟩
def m_law_plus : Sm :=
  (sRet (dCallP F_law_ratio (dCons (dBin gAdd (dBin gMul (dBin gIx (dVar 0) (dC (.int 0))) (dBin gIx (dVar 1) (dC (.int 1)))) (dBin gMul (dBin gIx (dVar 1) (dC (.int 0))) (dBin gIx (dVar 0) (dC (.int 1))))) (dCons (dBin gMul (dBin gIx (dVar 0) (dC (.int 1))) (dBin gIx (dVar 1) (dC (.int 1)))) dNil))))
def F_law_plus : List D → Option D := defP 2 2 m_law_plus
theorem ok__law_plus (bt : Bt mg) {a_law_ratio : Addr} {b_law_ratio : FuncData} (d_law_ratio : Dn P w K mg base 2 a_law_ratio b_law_ratio "_law_ratio" ["n", "m"] (spP 2 F_law_ratio)) {f : Addr} {fd : FuncData} (F : FnP K "_law_plus" st__law_plus f fd) (m : mg "_law_plus" = some (.ref f)) : Dn P w K mg base 3 f fd "_law_plus" ["a", "b"] (spP 2 F_law_plus) :=
  ⟨m, F.kp, F.bindsN (fun _ _ _ _ _ _ us hl => match us, hl with | [_, _], _ => rfl), okP F sc__law_plus rfl (by decide) fun cdv A outer s0 H E hr hg =>
  (s_one (s_ret (c_P d_law_ratio (hr.mono (by decide)) hg (by rfl) rfl (a_cons (r_bin ops_add (toQ (r_bin ops_mul (toQ (r_ix (toQ (v 0 n_a)) (toQ r_int) (fun _ _ => rfl))) (toQ (r_ix (toQ (v 1 n_b)) (toQ r_int) (fun _ _ => rfl))))) (toQ (r_bin ops_mul (toQ (r_ix (toQ (v 1 n_b)) (toQ r_int) (fun _ _ => rfl))) (toQ (r_ix (toQ (v 0 n_a)) (toQ r_int) (fun _ _ => rfl)))))) (a_cons (r_bin ops_mul (toQ (r_ix (toQ (v 0 n_a)) (toQ r_int) (fun _ _ => rfl))) (toQ (r_ix (toQ (v 1 n_b)) (toQ r_int) (fun _ _ => rfl)))) a_nil rfl) rfl) (len_cons (len_cons len_nil)) (by decide) rfl rfl)))⟩
def N__law_times : List Str := ["a", "b"]
theorem sc__law_times : FnScope N__law_times ["a", "b"] (defScope st__law_times) := ⟨rfl, rfl, rfl, by decide +kernel, rfl, by decide +kernel, by decide +kernel⟩
def m_law_times : Sm :=
  (sRet (dCallP F_law_ratio (dCons (dBin gMul (dBin gIx (dVar 0) (dC (.int 0))) (dBin gIx (dVar 1) (dC (.int 0)))) (dCons (dBin gMul (dBin gIx (dVar 0) (dC (.int 1))) (dBin gIx (dVar 1) (dC (.int 1)))) dNil))))
def F_law_times : List D → Option D := defP 2 2 m_law_times
theorem ok__law_times (bt : Bt mg) {a_law_ratio : Addr} {b_law_ratio : FuncData} (d_law_ratio : Dn P w K mg base 2 a_law_ratio b_law_ratio "_law_ratio" ["n", "m"] (spP 2 F_law_ratio)) {f : Addr} {fd : FuncData} (F : FnP K "_law_times" st__law_times f fd) (m : mg "_law_times" = some (.ref f)) : Dn P w K mg base 3 f fd "_law_times" ["a", "b"] (spP 2 F_law_times) :=
  ⟨m, F.kp, F.bindsN (fun _ _ _ _ _ _ us hl => match us, hl with | [_, _], _ => rfl), okP F sc__law_times rfl (by decide) fun cdv A outer s0 H E hr hg =>
  (s_one (s_ret (c_P d_law_ratio (hr.mono (by decide)) hg (by rfl) rfl (a_cons (r_bin ops_mul (toQ (r_ix (toQ (v 0 n_a)) (toQ r_int) (fun _ _ => rfl))) (toQ (r_ix (toQ (v 1 n_b)) (toQ r_int) (fun _ _ => rfl)))) (a_cons (r_bin ops_mul (toQ (r_ix (toQ (v 0 n_a)) (toQ r_int) (fun _ _ => rfl))) (toQ (r_ix (toQ (v 1 n_b)) (toQ r_int) (fun _ _ => rfl)))) a_nil rfl) rfl) (len_cons (len_cons len_nil)) (by decide) rfl rfl)))⟩
def N__law_number : List Str := ["well", "size", "way", "n"]
theorem sc__law_number : FnScope N__law_number ["well", "size"] (defScope st__law_number) := ⟨rfl, rfl, rfl, by decide +kernel, rfl, by decide +kernel, by decide +kernel⟩
def m_law_number : Sm :=
  (sSeq (sAsg (gNm 2) (dCallW 0 F_law_take (dCons (dC (.int 9)) dNil)))
  (sSeq (sAsg (gNm 3) (dBin gSub (dCallW 0 F_law_take (dCons (dBin gAdd (dBin gMul (dC (.int 2)) (dVar 1)) (dC (.int 1))) dNil)) (dVar 1)))
  (sSeq (sIf (dTr (dBin gLt (dVar 2) (dC (.int 5))))
  (sRet (dTup (dCons (dVar 3) (dCons (dC (.int 1)) dNil))))
  sSkip)
  (sSeq (sIf (dTr (dBin gLt (dVar 2) (dC (.int 8))))
  (sRet (dCallP F_law_ratio (dCons (dVar 3) (dCons (dBin gAdd (dC (.int 2)) (dCallW 0 F_law_take (dCons (dC (.int 3)) dNil))) dNil))))
  sSkip)
  (sRet (dCallP F_law_ratio (dCons (dBin gAdd (dBin gMul (dVar 3) (dC (.int 100003))) (dCallW 0 F_law_take (dCons (dBin gPow (dC (.int 10)) (dC (.int 6))) dNil))) (dCons (dBin gAdd (dC (.int 1)) (dCallW 0 F_law_take (dCons (dC (.int 1000)) dNil))) dNil))))))))
def F_law_number : List D → Ws → Option (D × Ws) := defW 1 3 m_law_number
theorem ok__law_number (bt : Bt mg) {a_law_take : Addr} {b_law_take : FuncData} (d_law_take : Dn P w K mg base 1 a_law_take b_law_take "_law_take" ["well", "top"] (spW 1 F_law_take)) {a_law_ratio : Addr} {b_law_ratio : FuncData} (d_law_ratio : Dn P w K mg base 2 a_law_ratio b_law_ratio "_law_ratio" ["n", "m"] (spP 2 F_law_ratio)) {f : Addr} {fd : FuncData} (F : FnP K "_law_number" st__law_number f fd) (m : mg "_law_number" = some (.ref f)) : Dn P w K mg base 3 f fd "_law_number" ["well", "size"] (spW 1 F_law_number) :=
  ⟨m, F.kp, F.bindsN (fun _ _ _ _ _ _ us hl => match us, hl with | [_, _], _ => rfl), okW F sc__law_number rfl (by decide) fun cdv A outer s0 H E hr hg =>
  (s_cons (s_nm (i := 2) sc__law_number.nd rfl (by first | exact Or.inl rfl | exact Or.inr rfl) (c_W (i := 0) d_law_take (hr.mono (by decide)) hg (by rfl) rfl (by first | exact Or.inl rfl | exact Or.inr (Or.inl rfl) | exact Or.inr (Or.inr rfl)) n_well.d n_well.c rfl (a_cons r_int a_nil rfl) (len_cons len_nil) (by decide) rfl rfl) rfl (Or.inl rfl))
  (s_cons (s_nm (i := 3) sc__law_number.nd rfl (by first | exact Or.inl rfl | exact Or.inr rfl) (r_bin ops_sub (toQ (c_W (i := 0) d_law_take (hr.mono (by decide)) hg (by rfl) rfl (by first | exact Or.inl rfl | exact Or.inr (Or.inl rfl) | exact Or.inr (Or.inr rfl)) n_well.d n_well.c rfl (a_cons (r_bin ops_add (toQ (r_bin ops_mul (toQ r_int) (toQ (v 1 n_size)))) (toQ r_int)) a_nil rfl) (len_cons len_nil) (by decide) rfl rfl)) (toQ (v 1 n_size))) rfl (Or.inl rfl))
  (s_cons (s_if (q_cmp ops_lt (toQ (v 2 n_way)) (toQ r_int) (nomark _) bool_gI)
  (s_one (s_ret (r_tup (a_cons (v 3 n_n) (a_cons r_int a_nil rfl) rfl))))
  s_nil)
  (s_cons (s_if (q_cmp ops_lt (toQ (v 2 n_way)) (toQ r_int) (nomark _) bool_gI)
  (s_one (s_ret (c_P d_law_ratio (hr.mono (by decide)) hg (by rfl) rfl (a_cons (v 3 n_n) (a_cons (r_bin ops_add (toQ r_int) (toQ (c_W (i := 0) d_law_take (hr.mono (by decide)) hg (by rfl) rfl (by first | exact Or.inl rfl | exact Or.inr (Or.inl rfl) | exact Or.inr (Or.inr rfl)) n_well.d n_well.c rfl (a_cons r_int a_nil rfl) (len_cons len_nil) (by decide) rfl rfl))) a_nil rfl) rfl) (len_cons (len_cons len_nil)) (by decide) rfl rfl)))
  s_nil)
  (s_one (s_ret (c_P d_law_ratio (hr.mono (by decide)) hg (by rfl) rfl (a_cons (r_bin ops_add (toQ (r_bin ops_mul (toQ (v 3 n_n)) (toQ r_int))) (toQ (c_W (i := 0) d_law_take (hr.mono (by decide)) hg (by rfl) rfl (by first | exact Or.inl rfl | exact Or.inr (Or.inl rfl) | exact Or.inr (Or.inr rfl)) n_well.d n_well.c rfl (a_cons (r_bin ops_pow (toQ r_int) (toQ r_int)) a_nil rfl) (len_cons len_nil) (by decide) rfl rfl))) (a_cons (r_bin ops_add (toQ r_int) (toQ (c_W (i := 0) d_law_take (hr.mono (by decide)) hg (by rfl) rfl (by first | exact Or.inl rfl | exact Or.inr (Or.inl rfl) | exact Or.inr (Or.inr rfl)) n_well.d n_well.c rfl (a_cons r_int a_nil rfl) (len_cons len_nil) (by decide) rfl rfl))) a_nil rfl) rfl) (len_cons (len_cons len_nil)) (by decide) rfl rfl)))))))⟩
def N__law_line : List Str := ["edge", "a", "u", "b", "v", "c", "w"]
theorem sc__law_line : FnScope N__law_line ["edge"] (defScope st__law_line) := ⟨rfl, rfl, rfl, by decide +kernel, rfl, by decide +kernel, by decide +kernel⟩
def m_law_line : Sm :=
  (sSeq (sAsg (gTp (gC (gTp (gC (gNm 1) (gC (gNm 2) gN))) (gC (gTp (gC (gNm 3) (gC (gNm 4) gN))) (gC (gTp (gC (gNm 5) (gC (gNm 6) gN))) gN)))) (dVar 0))
  (sRet (dTup (dCons (dBin gMul (dBin gMul (dVar 1) (dVar 4)) (dVar 6)) (dCons (dBin gMul (dBin gMul (dVar 3) (dVar 2)) (dVar 6)) (dCons (dBin gMul (dBin gMul (dVar 5) (dVar 2)) (dVar 4)) dNil))))))
def F_law_line : List D → Option D := defP 1 7 m_law_line
theorem ok__law_line (bt : Bt mg)  {f : Addr} {fd : FuncData} (F : FnP K "_law_line" st__law_line f fd) (m : mg "_law_line" = some (.ref f)) : Dn P w K mg base 1 f fd "_law_line" ["edge"] (spP 1 F_law_line) :=
  ⟨m, F.kp, F.bindsN (fun _ _ _ _ _ _ us hl => match us, hl with | [_], _ => rfl), okP F sc__law_line rfl (by decide) fun cdv A outer s0 H E hr hg =>
  (s_cons (s_asg (v 0 n_edge) (g_tp' rfl (gs_cons' (g_tp' rfl (gs_cons' (g_nm (i := 1) sc__law_line.nd rfl (by first | exact Or.inl rfl | exact Or.inr rfl) (Or.inl rfl)) (gs_cons' (g_nm (i := 2) sc__law_line.nd rfl (by first | exact Or.inl rfl | exact Or.inr rfl) (Or.inl rfl)) gs_nil tgs_nil rfl) (tgs_cons tgs_nm tgs_nil) rfl) (tgs_cons tgs_nm (tgs_cons tgs_nm tgs_nil)) rfl rfl) (gs_cons' (g_tp' rfl (gs_cons' (g_nm (i := 3) sc__law_line.nd rfl (by first | exact Or.inl rfl | exact Or.inr rfl) (Or.inl rfl)) (gs_cons' (g_nm (i := 4) sc__law_line.nd rfl (by first | exact Or.inl rfl | exact Or.inr rfl) (Or.inl rfl)) gs_nil tgs_nil rfl) (tgs_cons tgs_nm tgs_nil) rfl) (tgs_cons tgs_nm (tgs_cons tgs_nm tgs_nil)) rfl rfl) (gs_cons' (g_tp' rfl (gs_cons' (g_nm (i := 5) sc__law_line.nd rfl (by first | exact Or.inl rfl | exact Or.inr rfl) (Or.inl rfl)) (gs_cons' (g_nm (i := 6) sc__law_line.nd rfl (by first | exact Or.inl rfl | exact Or.inr rfl) (Or.inl rfl)) gs_nil tgs_nil rfl) (tgs_cons tgs_nm tgs_nil) rfl) (tgs_cons tgs_nm (tgs_cons tgs_nm tgs_nil)) rfl rfl) gs_nil tgs_nil rfl) (tgs_cons (tgs_tp (tgs_cons tgs_nm (tgs_cons tgs_nm tgs_nil))) tgs_nil) rfl) (tgs_cons (tgs_tp (tgs_cons tgs_nm (tgs_cons tgs_nm tgs_nil))) (tgs_cons (tgs_tp (tgs_cons tgs_nm (tgs_cons tgs_nm tgs_nil))) tgs_nil)) rfl) (tgs_cons (tgs_tp (tgs_cons tgs_nm (tgs_cons tgs_nm tgs_nil))) (tgs_cons (tgs_tp (tgs_cons tgs_nm (tgs_cons tgs_nm tgs_nil))) (tgs_cons (tgs_tp (tgs_cons tgs_nm (tgs_cons tgs_nm tgs_nil))) tgs_nil))) rfl rfl) (tgs_tp (tgs_cons (tgs_tp (tgs_cons tgs_nm (tgs_cons tgs_nm tgs_nil))) (tgs_cons (tgs_tp (tgs_cons tgs_nm (tgs_cons tgs_nm tgs_nil))) (tgs_cons (tgs_tp (tgs_cons tgs_nm (tgs_cons tgs_nm tgs_nil))) tgs_nil)))) rfl rfl rfl)
  (s_one (s_ret (r_tup (a_cons (r_bin ops_mul (toQ (r_bin ops_mul (toQ (v 1 n_a)) (toQ (v 4 n_v)))) (toQ (v 6 n_w))) (a_cons (r_bin ops_mul (toQ (r_bin ops_mul (toQ (v 3 n_b)) (toQ (v 2 n_u)))) (toQ (v 6 n_w))) (a_cons (r_bin ops_mul (toQ (r_bin ops_mul (toQ (v 5 n_c)) (toQ (v 2 n_u)))) (toQ (v 4 n_v))) a_nil rfl) rfl) rfl)))))⟩
def N__law_point : List Str := ["spot"]
theorem sc__law_point : FnScope N__law_point ["spot"] (defScope st__law_point) := ⟨rfl, rfl, rfl, by decide +kernel, rfl, by decide +kernel, by decide +kernel⟩
def m_law_point : Sm :=
  (sRet (dTup (dCons (dBin gMul (dBin gIx (dBin gIx (dVar 0) (dC (.int 0))) (dC (.int 0))) (dBin gIx (dBin gIx (dVar 0) (dC (.int 1))) (dC (.int 1)))) (dCons (dBin gMul (dBin gIx (dBin gIx (dVar 0) (dC (.int 1))) (dC (.int 0))) (dBin gIx (dBin gIx (dVar 0) (dC (.int 0))) (dC (.int 1)))) (dCons (dBin gMul (dBin gIx (dBin gIx (dVar 0) (dC (.int 0))) (dC (.int 1))) (dBin gIx (dBin gIx (dVar 0) (dC (.int 1))) (dC (.int 1)))) dNil)))))
def F_law_point : List D → Option D := defP 1 1 m_law_point
theorem ok__law_point (bt : Bt mg)  {f : Addr} {fd : FuncData} (F : FnP K "_law_point" st__law_point f fd) (m : mg "_law_point" = some (.ref f)) : Dn P w K mg base 1 f fd "_law_point" ["spot"] (spP 1 F_law_point) :=
  ⟨m, F.kp, F.bindsN (fun _ _ _ _ _ _ us hl => match us, hl with | [_], _ => rfl), okP F sc__law_point rfl (by decide) fun cdv A outer s0 H E hr hg =>
  (s_one (s_ret (r_tup (a_cons (r_bin ops_mul (toQ (r_ix (toQ (r_ix (toQ (v 0 n_spot)) (toQ r_int) (fun _ _ => rfl))) (toQ r_int) (fun _ _ => rfl))) (toQ (r_ix (toQ (r_ix (toQ (v 0 n_spot)) (toQ r_int) (fun _ _ => rfl))) (toQ r_int) (fun _ _ => rfl)))) (a_cons (r_bin ops_mul (toQ (r_ix (toQ (r_ix (toQ (v 0 n_spot)) (toQ r_int) (fun _ _ => rfl))) (toQ r_int) (fun _ _ => rfl))) (toQ (r_ix (toQ (r_ix (toQ (v 0 n_spot)) (toQ r_int) (fun _ _ => rfl))) (toQ r_int) (fun _ _ => rfl)))) (a_cons (r_bin ops_mul (toQ (r_ix (toQ (r_ix (toQ (v 0 n_spot)) (toQ r_int) (fun _ _ => rfl))) (toQ r_int) (fun _ _ => rfl))) (toQ (r_ix (toQ (r_ix (toQ (v 0 n_spot)) (toQ r_int) (fun _ _ => rfl))) (toQ r_int) (fun _ _ => rfl)))) a_nil rfl) rfl) rfl))))⟩
def N__law_holds : List Str := ["lines", "point", "x", "y", "w", "each"]
theorem sc__law_holds : FnScope N__law_holds ["lines", "point"] (defScope st__law_holds) := ⟨rfl, rfl, rfl, by decide +kernel, rfl, by decide +kernel, by decide +kernel⟩
def m_law_holds : Sm :=
  (sSeq (sAsg (gTp (gC (gNm 2) (gC (gNm 3) (gC (gNm 4) gN)))) (dVar 1))
  (sRet (dBin gEq (dComp [5] (dItems (dVar 0)) (gNm 5) (dTr (dBin gGt (dBin gAdd (dBin gMul (dBin gIx (dVar 5) (dC (.int 0))) (dVar 2)) (dBin gMul (dBin gIx (dVar 5) (dC (.int 1))) (dVar 3))) (dBin gMul (dBin gIx (dVar 5) (dC (.int 2))) (dVar 4)))) (dVar 5)) (dLst dNil))))
def F_law_holds : List D → Option D := defP 2 6 m_law_holds
theorem ok__law_holds (bt : Bt mg)  {f : Addr} {fd : FuncData} (F : FnP K "_law_holds" st__law_holds f fd) (m : mg "_law_holds" = some (.ref f)) : Dn P w K mg base 1 f fd "_law_holds" ["lines", "point"] (spP 2 F_law_holds) :=
  ⟨m, F.kp, F.bindsN (fun _ _ _ _ _ _ us hl => match us, hl with | [_, _], _ => rfl), okP F sc__law_holds rfl (by decide) fun cdv A outer s0 H E hr hg =>
  (s_cons (s_asg (v 1 n_point) (g_tp' rfl (gs_cons' (g_nm (i := 2) sc__law_holds.nd rfl (by first | exact Or.inl rfl | exact Or.inr rfl) (Or.inl rfl)) (gs_cons' (g_nm (i := 3) sc__law_holds.nd rfl (by first | exact Or.inl rfl | exact Or.inr rfl) (Or.inl rfl)) (gs_cons' (g_nm (i := 4) sc__law_holds.nd rfl (by first | exact Or.inl rfl | exact Or.inr rfl) (Or.inl rfl)) gs_nil tgs_nil rfl) (tgs_cons tgs_nm tgs_nil) rfl) (tgs_cons tgs_nm (tgs_cons tgs_nm tgs_nil)) rfl) (tgs_cons tgs_nm (tgs_cons tgs_nm (tgs_cons tgs_nm tgs_nil))) rfl rfl) (tgs_tp (tgs_cons tgs_nm (tgs_cons tgs_nm (tgs_cons tgs_nm tgs_nil)))) rfl rfl rfl)
  (s_one (s_ret (r_cmp (ops_eq (room64 hr)) (toQ (r_comp (bb := false) (sl := [5]) (own := [("each", 5)]) rfl sc__law_holds.nd (i_seq (v 0 n_lines)) (blkOk_by (N := N__law_holds) (sc := defScope st__law_holds) (own := [("each", 5)]) (by decide +kernel)) (fun _ _ _ _ _ => (g_nm (i := 5) sc__law_holds.nd rfl (by first | exact Or.inl rfl | exact Or.inr rfl) (by first | exact Or.inr rfl | exact Or.inl rfl))) (fun _ _ _ _ _ => (ts_one (q_cmp ops_gt (toQ (r_bin ops_add (toQ (r_bin ops_mul (toQ (r_ix (toQ (v 5 n_each)) (toQ r_int) (fun _ _ => rfl))) (toQ (v 2 n_x)))) (toQ (r_bin ops_mul (toQ (r_ix (toQ (v 5 n_each)) (toQ r_int) (fun _ _ => rfl))) (toQ (v 3 n_y)))))) (toQ (r_bin ops_mul (toQ (r_ix (toQ (v 5 n_each)) (toQ r_int) (fun _ _ => rfl))) (toQ (v 4 n_w)))) (nomark _) bool_gI))) (fun _ _ _ _ _ => (v 5 n_each)) (by decide) (fun _ => rfl))) (toQ (r_lst a_nil)) (nomark _)))))⟩
def N__law_edge : List Str := ["well", "at", "menu", "a", "b", "e", "off", "c"]
theorem sc__law_edge : FnScope N__law_edge ["well", "at", "menu"] (defScope st__law_edge) := ⟨rfl, rfl, rfl, by decide +kernel, rfl, by decide +kernel, by decide +kernel⟩
def m_law_edge : Sm :=
  (sSeq (sPar3 3 4 5 (dCons (dBin gSub (dCallW 0 F_law_take (dCons (dC (.int 5)) dNil)) (dC (.int 2))) (dCons (dBin gSub (dCallW 0 F_law_take (dCons (dC (.int 5)) dNil)) (dC (.int 2))) (dCons (dCallW 0 F_law_one_of (dCons (dLst (dCons (dC (.int 1)) (dCons (dC (.int 1)) (dCons (dC (.int 1)) (dCons (dC (.int 2)) (dCons (dC (.int 3)) dNil)))))) dNil)) dNil))))
  (sSeq (sIf (dAnd (dTr (dBin gEq (dVar 3) (dC (.int 0)))) (dTr (dBin gEq (dVar 4) (dC (.int 0)))))
  (sAsg (gNm 3) (dC (.int 1)))
  sSkip)
  (sSeq (sAsg (gNm 6) (dCallW 0 F_law_one_of (dCons (dVar 2) dNil)))
  (sSeq (sAsg (gNm 7) (dCallP F_law_plus (dCons (dCallP F_law_plus (dCons (dCallP F_law_times (dCons (dTup (dCons (dVar 3) (dCons (dC (.int 1)) dNil))) (dCons (dBin gIx (dVar 1) (dC (.int 0))) dNil))) (dCons (dCallP F_law_times (dCons (dTup (dCons (dVar 4) (dCons (dC (.int 1)) dNil))) (dCons (dBin gIx (dVar 1) (dC (.int 1))) dNil))) dNil))) (dCons (dVar 6) dNil))))
  (sRet (dTup (dCons (dCallP F_law_ratio (dCons (dVar 3) (dCons (dVar 5) dNil))) (dCons (dCallP F_law_ratio (dCons (dVar 4) (dCons (dVar 5) dNil))) (dCons (dCallP F_law_times (dCons (dVar 7) (dCons (dTup (dCons (dC (.int 1)) (dCons (dVar 5) dNil))) dNil))) dNil)))))))))
def F_law_edge : List D → Ws → Option (D × Ws) := defW 2 7 m_law_edge
theorem ok__law_edge (bt : Bt mg) {a_law_take : Addr} {b_law_take : FuncData} (d_law_take : Dn P w K mg base 1 a_law_take b_law_take "_law_take" ["well", "top"] (spW 1 F_law_take)) {a_law_one_of : Addr} {b_law_one_of : FuncData} (d_law_one_of : Dn P w K mg base 2 a_law_one_of b_law_one_of "_law_one_of" ["well", "some"] (spW 1 F_law_one_of)) {a_law_plus : Addr} {b_law_plus : FuncData} (d_law_plus : Dn P w K mg base 3 a_law_plus b_law_plus "_law_plus" ["a", "b"] (spP 2 F_law_plus)) {a_law_times : Addr} {b_law_times : FuncData} (d_law_times : Dn P w K mg base 3 a_law_times b_law_times "_law_times" ["a", "b"] (spP 2 F_law_times)) {a_law_ratio : Addr} {b_law_ratio : FuncData} (d_law_ratio : Dn P w K mg base 2 a_law_ratio b_law_ratio "_law_ratio" ["n", "m"] (spP 2 F_law_ratio)) {f : Addr} {fd : FuncData} (F : FnP K "_law_edge" st__law_edge f fd) (m : mg "_law_edge" = some (.ref f)) : Dn P w K mg base 4 f fd "_law_edge" ["well", "at", "menu"] (spW 2 F_law_edge) :=
  ⟨m, F.kp, F.bindsN (fun _ _ _ _ _ _ us hl => match us, hl with | [_, _, _], _ => rfl), okW F sc__law_edge rfl (by decide) fun cdv A outer s0 H E hr hg =>
  (s_cons (s_par3 (i := 3) (j := 4) (l := 5) rfl sc__law_edge.nd rfl rfl rfl (by decide) (by decide) (by decide) rfl rfl rfl (a_cons (r_bin ops_sub (toQ (c_W (i := 0) d_law_take (hr.mono (by decide)) hg (by rfl) rfl (by first | exact Or.inl rfl | exact Or.inr (Or.inl rfl) | exact Or.inr (Or.inr rfl)) n_well.d n_well.c rfl (a_cons r_int a_nil rfl) (len_cons len_nil) (by decide) rfl rfl)) (toQ r_int)) (a_cons (r_bin ops_sub (toQ (c_W (i := 0) d_law_take (hr.mono (by decide)) hg (by rfl) rfl (by first | exact Or.inl rfl | exact Or.inr (Or.inl rfl) | exact Or.inr (Or.inr rfl)) n_well.d n_well.c rfl (a_cons r_int a_nil rfl) (len_cons len_nil) (by decide) rfl rfl)) (toQ r_int)) (a_cons (c_W (i := 0) d_law_one_of (hr.mono (by decide)) hg (by rfl) rfl (by first | exact Or.inl rfl | exact Or.inr (Or.inl rfl) | exact Or.inr (Or.inr rfl)) n_well.d n_well.c rfl (a_cons (r_lst (a_cons r_int (a_cons r_int (a_cons r_int (a_cons r_int (a_cons r_int a_nil rfl) rfl) rfl) rfl) rfl)) a_nil rfl) (len_cons len_nil) (by decide) rfl rfl) a_nil rfl) rfl) rfl) rfl rfl)
  (s_cons (s_if (q_pw (q_and (q_cmp (ops_eq (room64 hr)) (toQ (v 3 n_a)) (toQ r_int) (nomark _) bool_eq) (q_and1 (q_cmp (ops_eq (room64 hr)) (toQ (v 4 n_b)) (toQ r_int) (nomark _) bool_eq))))
  (s_one (s_nm (i := 3) sc__law_edge.nd rfl (by first | exact Or.inl rfl | exact Or.inr rfl) r_int rfl (Or.inl rfl)))
  s_nil)
  (s_cons (s_nm (i := 6) sc__law_edge.nd rfl (by first | exact Or.inl rfl | exact Or.inr rfl) (c_W (i := 0) d_law_one_of (hr.mono (by decide)) hg (by rfl) rfl (by first | exact Or.inl rfl | exact Or.inr (Or.inl rfl) | exact Or.inr (Or.inr rfl)) n_well.d n_well.c rfl (a_cons (v 2 n_menu) a_nil rfl) (len_cons len_nil) (by decide) rfl rfl) rfl (Or.inl rfl))
  (s_cons (s_nm (i := 7) sc__law_edge.nd rfl (by first | exact Or.inl rfl | exact Or.inr rfl) (c_P d_law_plus (hr.mono (by decide)) hg (by rfl) rfl (a_cons (c_P d_law_plus (hr.mono (by decide)) hg (by rfl) rfl (a_cons (c_P d_law_times (hr.mono (by decide)) hg (by rfl) rfl (a_cons (r_tup (a_cons (v 3 n_a) (a_cons r_int a_nil rfl) rfl)) (a_cons (r_ix (toQ (v 1 n_at)) (toQ r_int) (fun _ _ => rfl)) a_nil rfl) rfl) (len_cons (len_cons len_nil)) (by decide) rfl rfl) (a_cons (c_P d_law_times (hr.mono (by decide)) hg (by rfl) rfl (a_cons (r_tup (a_cons (v 4 n_b) (a_cons r_int a_nil rfl) rfl)) (a_cons (r_ix (toQ (v 1 n_at)) (toQ r_int) (fun _ _ => rfl)) a_nil rfl) rfl) (len_cons (len_cons len_nil)) (by decide) rfl rfl) a_nil rfl) rfl) (len_cons (len_cons len_nil)) (by decide) rfl rfl) (a_cons (v 6 n_off) a_nil rfl) rfl) (len_cons (len_cons len_nil)) (by decide) rfl rfl) rfl (Or.inl rfl))
  (s_one (s_ret (r_tup (a_cons (c_P d_law_ratio (hr.mono (by decide)) hg (by rfl) rfl (a_cons (v 3 n_a) (a_cons (v 5 n_e) a_nil rfl) rfl) (len_cons (len_cons len_nil)) (by decide) rfl rfl) (a_cons (c_P d_law_ratio (hr.mono (by decide)) hg (by rfl) rfl (a_cons (v 4 n_b) (a_cons (v 5 n_e) a_nil rfl) rfl) (len_cons (len_cons len_nil)) (by decide) rfl rfl) (a_cons (c_P d_law_times (hr.mono (by decide)) hg (by rfl) rfl (a_cons (v 7 n_c) (a_cons (r_tup (a_cons r_int (a_cons (v 5 n_e) a_nil rfl) rfl)) a_nil rfl) rfl) (len_cons (len_cons len_nil)) (by decide) rfl rfl) a_nil rfl) rfl) rfl))))))))⟩
def N__law_land : List Str := ["well", "at", "count", "k"]
theorem sc__law_land : FnScope N__law_land ["well", "at", "count"] (defScope st__law_land) := ⟨rfl, rfl, rfl, by decide +kernel, rfl, by decide +kernel, by decide +kernel⟩
def m_law_land : Sm :=
  (sRet (dPri gTuple (dCons (dComp [3] (dRng1 (dCons (dVar 2) dNil)) (gNm 3) dYes (dCallW 0 F_law_edge (dCons (dVar 1) (dCons (dLst (dCons (dTup (dCons (dC (.int 0)) (dCons (dC (.int 1)) dNil))) (dCons (dTup (dCons (dC (.int 1)) (dCons (dC (.int 1)) dNil))) (dCons (dTup (dCons (dC (.int 0)) (dCons (dC (.int 1)) dNil))) (dCons (dTup (dCons (dC (.int 1)) (dCons (dC (.int 2)) dNil))) (dCons (dTup (dCons (dC (.int 2)) (dCons (dC (.int 1)) dNil))) dNil)))))) dNil)))) dNil)))
def F_law_land : List D → Ws → Option (D × Ws) := defW 2 3 m_law_land
theorem ok__law_land (bt : Bt mg) {a_law_edge : Addr} {b_law_edge : FuncData} (d_law_edge : Dn P w K mg base 4 a_law_edge b_law_edge "_law_edge" ["well", "at", "menu"] (spW 2 F_law_edge)) {f : Addr} {fd : FuncData} (F : FnP K "_law_land" st__law_land f fd) (m : mg "_law_land" = some (.ref f)) : Dn P w K mg base 5 f fd "_law_land" ["well", "at", "count"] (spW 2 F_law_land) :=
  ⟨m, F.kp, F.bindsN (fun _ _ _ _ _ _ us hl => match us, hl with | [_, _, _], _ => rfl), okW F sc__law_land rfl (by decide) fun cdv A outer s0 H E hr hg =>
  (s_one (s_ret (r_typ cas_tuple (by rfl) bt.tuple (by decide +kernel) (aq_cons (toQ (r_comp (bb := false) (sl := [3]) (own := [("k", 3)]) rfl sc__law_land.nd (i_rng1 (by rfl) bt.range (a_cons (v 2 n_count) a_nil rfl) rfl) (blkOk_by (N := N__law_land) (sc := defScope st__law_land) (own := [("k", 3)]) (by decide +kernel)) (fun _ _ _ _ _ => (g_nm (i := 3) sc__law_land.nd rfl (by first | exact Or.inl rfl | exact Or.inr rfl) (by first | exact Or.inr rfl | exact Or.inl rfl))) (fun _ _ _ _ _ => ts_nil) (fun _ _ _ _ _ => (c_W (i := 0) d_law_edge (hr.mono (by decide)) hg (by rfl) rfl (by first | exact Or.inl rfl | exact Or.inr (Or.inl rfl) | exact Or.inr (Or.inr rfl)) n_well.d n_well.c rfl (a_cons (v 1 n_at) (a_cons (r_lst (a_cons (r_tup (a_cons r_int (a_cons r_int a_nil rfl) rfl)) (a_cons (r_tup (a_cons r_int (a_cons r_int a_nil rfl) rfl)) (a_cons (r_tup (a_cons r_int (a_cons r_int a_nil rfl) rfl)) (a_cons (r_tup (a_cons r_int (a_cons r_int a_nil rfl) rfl)) (a_cons (r_tup (a_cons r_int (a_cons r_int a_nil rfl) rfl)) a_nil rfl) rfl) rfl) rfl) rfl)) a_nil rfl) rfl) (len_cons (len_cons len_nil)) (by decide) rfl rfl)) (by decide) (fun _ => rfl))) aq_nil rfl) (by decide) (by decide) rfl rfl)))⟩
def N__law_in : List Str := ["land", "spot", "edge"]
theorem sc__law_in : FnScope N__law_in ["land", "spot"] (defScope st__law_in) := ⟨rfl, rfl, rfl, by decide +kernel, rfl, by decide +kernel, by decide +kernel⟩
def m_law_in : Sm :=
  (sRet (dCallP F_law_holds (dCons (dComp [2] (dItems (dVar 0)) (gNm 2) dYes (dCallP F_law_line (dCons (dVar 2) dNil))) (dCons (dCallP F_law_point (dCons (dVar 1) dNil)) dNil))))
def F_law_in : List D → Option D := defP 2 3 m_law_in
theorem ok__law_in (bt : Bt mg) {a_law_holds : Addr} {b_law_holds : FuncData} (d_law_holds : Dn P w K mg base 1 a_law_holds b_law_holds "_law_holds" ["lines", "point"] (spP 2 F_law_holds)) {a_law_line : Addr} {b_law_line : FuncData} (d_law_line : Dn P w K mg base 1 a_law_line b_law_line "_law_line" ["edge"] (spP 1 F_law_line)) {a_law_point : Addr} {b_law_point : FuncData} (d_law_point : Dn P w K mg base 1 a_law_point b_law_point "_law_point" ["spot"] (spP 1 F_law_point)) {f : Addr} {fd : FuncData} (F : FnP K "_law_in" st__law_in f fd) (m : mg "_law_in" = some (.ref f)) : Dn P w K mg base 2 f fd "_law_in" ["land", "spot"] (spP 2 F_law_in) :=
  ⟨m, F.kp, F.bindsN (fun _ _ _ _ _ _ us hl => match us, hl with | [_, _], _ => rfl), okP F sc__law_in rfl (by decide) fun cdv A outer s0 H E hr hg =>
  (s_one (s_ret (c_P d_law_holds (hr.mono (by decide)) hg (by rfl) rfl (a_cons (r_comp (bb := false) (sl := [2]) (own := [("edge", 2)]) rfl sc__law_in.nd (i_seq (v 0 n_land)) (blkOk_by (N := N__law_in) (sc := defScope st__law_in) (own := [("edge", 2)]) (by decide +kernel)) (fun _ _ _ _ _ => (g_nm (i := 2) sc__law_in.nd rfl (by first | exact Or.inl rfl | exact Or.inr rfl) (by first | exact Or.inr rfl | exact Or.inl rfl))) (fun _ _ _ _ _ => ts_nil) (fun _ _ _ _ _ => (c_P d_law_line (hr.mono (by decide)) hg (by rfl) rfl (a_cons (v 2 n_edge) a_nil rfl) (len_cons len_nil) (by decide) rfl rfl)) (by decide) (fun _ => rfl)) (a_cons (c_P d_law_point (hr.mono (by decide)) hg (by rfl) rfl (a_cons (v 1 n_spot) a_nil rfl) (len_cons len_nil) (by decide) rfl rfl) a_nil rfl) rfl) (len_cons (len_cons len_nil)) (by decide) rfl rfl)))⟩
def N__law_spot : List Str := ["well", "size"]
theorem sc__law_spot : FnScope N__law_spot ["well", "size"] (defScope st__law_spot) := ⟨rfl, rfl, rfl, by decide +kernel, rfl, by decide +kernel, by decide +kernel⟩
def m_law_spot : Sm :=
  (sRet (dTup (dCons (dCallW 0 F_law_number (dCons (dVar 1) dNil)) (dCons (dCallW 0 F_law_number (dCons (dVar 1) dNil)) dNil))))
def F_law_spot : List D → Ws → Option (D × Ws) := defW 1 1 m_law_spot
theorem ok__law_spot (bt : Bt mg) {a_law_number : Addr} {b_law_number : FuncData} (d_law_number : Dn P w K mg base 3 a_law_number b_law_number "_law_number" ["well", "size"] (spW 1 F_law_number)) {f : Addr} {fd : FuncData} (F : FnP K "_law_spot" st__law_spot f fd) (m : mg "_law_spot" = some (.ref f)) : Dn P w K mg base 4 f fd "_law_spot" ["well", "size"] (spW 1 F_law_spot) :=
  ⟨m, F.kp, F.bindsN (fun _ _ _ _ _ _ us hl => match us, hl with | [_, _], _ => rfl), okW F sc__law_spot rfl (by decide) fun cdv A outer s0 H E hr hg =>
  (s_one (s_ret (r_tup (a_cons (c_W (i := 0) d_law_number (hr.mono (by decide)) hg (by rfl) rfl (by first | exact Or.inl rfl | exact Or.inr (Or.inl rfl) | exact Or.inr (Or.inr rfl)) n_well.d n_well.c rfl (a_cons (v 1 n_size) a_nil rfl) (len_cons len_nil) (by decide) rfl rfl) (a_cons (c_W (i := 0) d_law_number (hr.mono (by decide)) hg (by rfl) rfl (by first | exact Or.inl rfl | exact Or.inr (Or.inl rfl) | exact Or.inr (Or.inr rfl)) n_well.d n_well.c rfl (a_cons (v 1 n_size) a_nil rfl) (len_cons len_nil) (by decide) rfl rfl) a_nil rfl) rfl))))⟩
def N__law_follows : List Str := ["lines", "line", "a", "b", "c", "k", "d", "e", "f", "size", "i", "g", "h", "m", "w", "sign", "one", "two"]
theorem sc__law_follows : FnScope N__law_follows ["lines", "line"] (defScope st__law_follows) := ⟨rfl, rfl, rfl, by decide +kernel, rfl, by decide +kernel, by decide +kernel⟩
def m_law_follows : Sm :=
  (sSeq (sAsg (gTp (gC (gNm 2) (gC (gNm 3) (gC (gNm 4) gN)))) (dVar 1))
  (sSeq (sFor (dRng1 (dCons (dPri gLen (dCons (dVar 0) dNil)) dNil)) (gNm 5)
  (sSeq (sAsg (gTp (gC (gNm 6) (gC (gNm 7) (gC (gNm 8) gN)))) (dBin gIx (dVar 0) (dVar 5)))
  (sSeq (sAsg (gNm 9) (dBin gAdd (dBin gMul (dVar 2) (dVar 6)) (dBin gMul (dVar 3) (dVar 7))))
  (sSeq (sIf (dAnd (dTr (dBin gEq (dBin gMul (dVar 2) (dVar 7)) (dBin gMul (dVar 3) (dVar 6)))) (dAnd (dTr (dBin gGt (dVar 9) (dC (.int 0)))) (dTr (dBin gLe (dBin gMul (dVar 8) (dVar 9)) (dBin gMul (dVar 4) (dBin gAdd (dBin gMul (dVar 6) (dVar 6)) (dBin gMul (dVar 7) (dVar 7))))))))
  (sRet (dC (.bool true)))
  sSkip)
  (sFor (dRng1 (dCons (dVar 5) dNil)) (gNm 10)
  (sSeq (sAsg (gTp (gC (gNm 11) (gC (gNm 12) (gC (gNm 13) gN)))) (dBin gIx (dVar 0) (dVar 10)))
  (sSeq (sAsg (gNm 14) (dBin gSub (dBin gMul (dVar 11) (dVar 7)) (dBin gMul (dVar 6) (dVar 12))))
  (sSeq (sAsg (gNm 15) (dIf (dTr (dBin gGt (dVar 14) (dC (.int 0)))) (dC (.int 1)) (dUn gNeg (dC (.int 1)))))
  (sSeq (sPar2 16 17 (dCons (dBin gMul (dVar 15) (dBin gSub (dBin gMul (dVar 2) (dVar 7)) (dBin gMul (dVar 3) (dVar 6)))) (dCons (dBin gMul (dVar 15) (dBin gSub (dBin gMul (dVar 11) (dVar 3)) (dBin gMul (dVar 12) (dVar 2)))) dNil)))
  (sIf (dAnd (dTr (dBin gNe (dVar 14) (dC (.int 0)))) (dAnd (dTr (dBin gGe (dVar 16) (dC (.int 0)))) (dAnd (dTr (dBin gGe (dVar 17) (dC (.int 0)))) (dTr (dBin gLe (dBin gAdd (dBin gMul (dVar 16) (dVar 13)) (dBin gMul (dVar 17) (dVar 8))) (dBin gMul (dVar 4) (dPri gAbs (dCons (dVar 14) dNil))))))))
  (sRet (dC (.bool true)))
  sSkip))))))))))
  (sRet (dC (.bool false)))))
def F_law_follows : List D → Option D := defP 2 18 m_law_follows
theorem ok__law_follows (bt : Bt mg)  {f : Addr} {fd : FuncData} (F : FnP K "_law_follows" st__law_follows f fd) (m : mg "_law_follows" = some (.ref f)) : Dn P w K mg base 1 f fd "_law_follows" ["lines", "line"] (spP 2 F_law_follows) :=
  ⟨m, F.kp, F.bindsN (fun _ _ _ _ _ _ us hl => match us, hl with | [_, _], _ => rfl), okP F sc__law_follows rfl (by decide) fun cdv A outer s0 H E hr hg =>
  (s_cons (s_asg (v 1 n_line) (g_tp' rfl (gs_cons' (g_nm (i := 2) sc__law_follows.nd rfl (by first | exact Or.inl rfl | exact Or.inr rfl) (Or.inl rfl)) (gs_cons' (g_nm (i := 3) sc__law_follows.nd rfl (by first | exact Or.inl rfl | exact Or.inr rfl) (Or.inl rfl)) (gs_cons' (g_nm (i := 4) sc__law_follows.nd rfl (by first | exact Or.inl rfl | exact Or.inr rfl) (Or.inl rfl)) gs_nil tgs_nil rfl) (tgs_cons tgs_nm tgs_nil) rfl) (tgs_cons tgs_nm (tgs_cons tgs_nm tgs_nil)) rfl) (tgs_cons tgs_nm (tgs_cons tgs_nm (tgs_cons tgs_nm tgs_nil))) rfl rfl) (tgs_tp (tgs_cons tgs_nm (tgs_cons tgs_nm (tgs_cons tgs_nm tgs_nil)))) rfl rfl rfl)
  (s_cons (s_for PassesOwn.never rfl (i_rng1 (by rfl) bt.range (a_cons (r_blt cas_len (by rfl) bt.len (by decide +kernel) (aq_cons (toQ (v 0 n_lines)) aq_nil rfl) (by decide) (by decide) rfl rfl) a_nil rfl) rfl) (g_nm (i := 5) sc__law_follows.nd rfl (by first | exact Or.inl rfl | exact Or.inr rfl) (Or.inl rfl)) tgs_nm
  (s_cons (s_asg (r_ix (toQ (v 0 n_lines)) (toQ (v 5 n_k)) (fun _ _ => rfl)) (g_tp' rfl (gs_cons' (g_nm (i := 6) sc__law_follows.nd rfl (by first | exact Or.inl rfl | exact Or.inr rfl) (Or.inl rfl)) (gs_cons' (g_nm (i := 7) sc__law_follows.nd rfl (by first | exact Or.inl rfl | exact Or.inr rfl) (Or.inl rfl)) (gs_cons' (g_nm (i := 8) sc__law_follows.nd rfl (by first | exact Or.inl rfl | exact Or.inr rfl) (Or.inl rfl)) gs_nil tgs_nil rfl) (tgs_cons tgs_nm tgs_nil) rfl) (tgs_cons tgs_nm (tgs_cons tgs_nm tgs_nil)) rfl) (tgs_cons tgs_nm (tgs_cons tgs_nm (tgs_cons tgs_nm tgs_nil))) rfl rfl) (tgs_tp (tgs_cons tgs_nm (tgs_cons tgs_nm (tgs_cons tgs_nm tgs_nil)))) rfl rfl rfl)
  (s_cons (s_nm (i := 9) sc__law_follows.nd rfl (by first | exact Or.inl rfl | exact Or.inr rfl) (r_bin ops_add (toQ (r_bin ops_mul (toQ (v 2 n_a)) (toQ (v 6 n_d)))) (toQ (r_bin ops_mul (toQ (v 3 n_b)) (toQ (v 7 n_e))))) rfl (Or.inl rfl))
  (s_cons (s_if (q_pw (q_and (q_cmp (ops_eq (room64 hr)) (toQ (r_bin ops_mul (toQ (v 2 n_a)) (toQ (v 7 n_e)))) (toQ (r_bin ops_mul (toQ (v 3 n_b)) (toQ (v 6 n_d)))) (nomark _) bool_eq) (q_and (q_cmp ops_gt (toQ (v 9 n_size)) (toQ r_int) (nomark _) bool_gI) (q_and1 (q_cmp ops_le (toQ (r_bin ops_mul (toQ (v 8 n_f)) (toQ (v 9 n_size)))) (toQ (r_bin ops_mul (toQ (v 4 n_c)) (toQ (r_bin ops_add (toQ (r_bin ops_mul (toQ (v 6 n_d)) (toQ (v 6 n_d)))) (toQ (r_bin ops_mul (toQ (v 7 n_e)) (toQ (v 7 n_e)))))))) (nomark _) bool_gI)))))
  (s_one (s_ret r_bl))
  s_nil)
  (s_one (s_for PassesOwn.never rfl (i_rng1 (by rfl) bt.range (a_cons (v 5 n_k) a_nil rfl) rfl) (g_nm (i := 10) sc__law_follows.nd rfl (by first | exact Or.inl rfl | exact Or.inr rfl) (Or.inl rfl)) tgs_nm
  (s_cons (s_asg (r_ix (toQ (v 0 n_lines)) (toQ (v 10 n_i)) (fun _ _ => rfl)) (g_tp' rfl (gs_cons' (g_nm (i := 11) sc__law_follows.nd rfl (by first | exact Or.inl rfl | exact Or.inr rfl) (Or.inl rfl)) (gs_cons' (g_nm (i := 12) sc__law_follows.nd rfl (by first | exact Or.inl rfl | exact Or.inr rfl) (Or.inl rfl)) (gs_cons' (g_nm (i := 13) sc__law_follows.nd rfl (by first | exact Or.inl rfl | exact Or.inr rfl) (Or.inl rfl)) gs_nil tgs_nil rfl) (tgs_cons tgs_nm tgs_nil) rfl) (tgs_cons tgs_nm (tgs_cons tgs_nm tgs_nil)) rfl) (tgs_cons tgs_nm (tgs_cons tgs_nm (tgs_cons tgs_nm tgs_nil))) rfl rfl) (tgs_tp (tgs_cons tgs_nm (tgs_cons tgs_nm (tgs_cons tgs_nm tgs_nil)))) rfl rfl rfl)
  (s_cons (s_nm (i := 14) sc__law_follows.nd rfl (by first | exact Or.inl rfl | exact Or.inr rfl) (r_bin ops_sub (toQ (r_bin ops_mul (toQ (v 11 n_g)) (toQ (v 7 n_e)))) (toQ (r_bin ops_mul (toQ (v 6 n_d)) (toQ (v 12 n_h))))) rfl (Or.inl rfl))
  (s_cons (s_nm (i := 15) sc__law_follows.nd rfl (by first | exact Or.inl rfl | exact Or.inr rfl) (r_ifE (q_cmp ops_gt (toQ (v 14 n_w)) (toQ r_int) (nomark _) bool_gI) r_int (r_neg (toQ r_int))) rfl (Or.inl rfl))
  (s_cons (s_par2 (i := 16) (j := 17) rfl sc__law_follows.nd rfl rfl (by decide) rfl rfl (a_cons (r_bin ops_mul (toQ (v 15 n_sign)) (toQ (r_bin ops_sub (toQ (r_bin ops_mul (toQ (v 2 n_a)) (toQ (v 7 n_e)))) (toQ (r_bin ops_mul (toQ (v 3 n_b)) (toQ (v 6 n_d))))))) (a_cons (r_bin ops_mul (toQ (v 15 n_sign)) (toQ (r_bin ops_sub (toQ (r_bin ops_mul (toQ (v 11 n_g)) (toQ (v 3 n_b)))) (toQ (r_bin ops_mul (toQ (v 12 n_h)) (toQ (v 2 n_a))))))) a_nil rfl) rfl) rfl rfl)
  (s_one (s_if (q_pw (q_and (q_cmp (ops_ne (room64 hr)) (toQ (v 14 n_w)) (toQ r_int) (nomark _) bool_ne) (q_and (q_cmp ops_ge (toQ (v 16 n_one)) (toQ r_int) (nomark _) bool_gI) (q_and (q_cmp ops_ge (toQ (v 17 n_two)) (toQ r_int) (nomark _) bool_gI) (q_and1 (q_cmp ops_le (toQ (r_bin ops_add (toQ (r_bin ops_mul (toQ (v 16 n_one)) (toQ (v 13 n_m)))) (toQ (r_bin ops_mul (toQ (v 17 n_two)) (toQ (v 8 n_f)))))) (toQ (r_bin ops_mul (toQ (v 4 n_c)) (toQ (r_blt cas_abs (by rfl) bt.abs (by decide +kernel) (aq_cons (toQ (v 14 n_w)) aq_nil rfl) (by decide) (by decide) rfl rfl)))) (nomark _) bool_gI))))))
  (s_one (s_ret r_bl))
  s_nil)))))) (fun _ => rfl)))))) (fun _ => rfl))
  (s_one (s_ret r_bl))))⟩
def N__law_inside : List Str := ["land", "other_land", "lines", "edge"]
theorem sc__law_inside : FnScope N__law_inside ["land", "other_land"] (defScope st__law_inside) := ⟨rfl, rfl, rfl, by decide +kernel, rfl, by decide +kernel, by decide +kernel⟩
def m_law_inside : Sm :=
  (sSeq (sAsg (gNm 2) (dComp [3] (dItems (dVar 0)) (gNm 3) dYes (dCallP F_law_line (dCons (dVar 3) dNil))))
  (sRet (dBin gEq (dComp [3] (dItems (dVar 1)) (gNm 3) (dNot (dTr (dCallP F_law_follows (dCons (dVar 2) (dCons (dCallP F_law_line (dCons (dVar 3) dNil)) dNil))))) (dVar 3)) (dLst dNil))))
def F_law_inside : List D → Option D := defP 2 4 m_law_inside
theorem ok__law_inside (bt : Bt mg) {a_law_line : Addr} {b_law_line : FuncData} (d_law_line : Dn P w K mg base 1 a_law_line b_law_line "_law_line" ["edge"] (spP 1 F_law_line)) {a_law_follows : Addr} {b_law_follows : FuncData} (d_law_follows : Dn P w K mg base 1 a_law_follows b_law_follows "_law_follows" ["lines", "line"] (spP 2 F_law_follows)) {f : Addr} {fd : FuncData} (F : FnP K "_law_inside" st__law_inside f fd) (m : mg "_law_inside" = some (.ref f)) : Dn P w K mg base 2 f fd "_law_inside" ["land", "other_land"] (spP 2 F_law_inside) :=
  ⟨m, F.kp, F.bindsN (fun _ _ _ _ _ _ us hl => match us, hl with | [_, _], _ => rfl), okP F sc__law_inside rfl (by decide) fun cdv A outer s0 H E hr hg =>
  (s_cons (s_nm (i := 2) sc__law_inside.nd rfl (by first | exact Or.inl rfl | exact Or.inr rfl) (r_comp (bb := false) (sl := [3]) (own := [("edge", 3)]) rfl sc__law_inside.nd (i_seq (v 0 n_land)) (blkOk_by (N := N__law_inside) (sc := defScope st__law_inside) (own := [("edge", 3)]) (by decide +kernel)) (fun _ _ _ _ _ => (g_nm (i := 3) sc__law_inside.nd rfl (by first | exact Or.inl rfl | exact Or.inr rfl) (by first | exact Or.inr rfl | exact Or.inl rfl))) (fun _ _ _ _ _ => ts_nil) (fun _ _ _ _ _ => (c_P d_law_line (hr.mono (by decide)) hg (by rfl) rfl (a_cons (v 3 n_edge) a_nil rfl) (len_cons len_nil) (by decide) rfl rfl)) (by decide) (fun _ => rfl)) rfl (Or.inl rfl))
  (s_one (s_ret (r_cmp (ops_eq (room64 hr)) (toQ (r_comp (bb := false) (sl := [3]) (own := [("edge", 3)]) rfl sc__law_inside.nd (i_seq (v 1 n_other_land)) (blkOk_by (N := N__law_inside) (sc := defScope st__law_inside) (own := [("edge", 3)]) (by decide +kernel)) (fun _ _ _ _ _ => (g_nm (i := 3) sc__law_inside.nd rfl (by first | exact Or.inl rfl | exact Or.inr rfl) (by first | exact Or.inr rfl | exact Or.inl rfl))) (fun _ _ _ _ _ => (ts_one (q_not (q_tr (toQ (c_P d_law_follows (hr.mono (by decide)) hg (by rfl) rfl (a_cons (v 2 n_lines) (a_cons (c_P d_law_line (hr.mono (by decide)) hg (by rfl) rfl (a_cons (v 3 n_edge) a_nil rfl) (len_cons len_nil) (by decide) rfl rfl) a_nil rfl) rfl) (len_cons (len_cons len_nil)) (by decide) rfl rfl)) (fun _ => rfl))))) (fun _ _ _ _ _ => (v 3 n_edge)) (by decide) (fun _ => rfl))) (toQ (r_lst a_nil)) (nomark _)))))⟩
def N__law_around : List Str := ["well", "land", "found", "turn", "one", "two", "by", "off", "edge", "k"]
theorem sc__law_around : FnScope N__law_around ["well", "land"] (defScope st__law_around) := ⟨rfl, rfl, rfl, by decide +kernel, rfl, by decide +kernel, by decide +kernel⟩
def m_law_around : Sm :=
  (sSeq (sOwn 2 (dLst dNil))
  (sSeq (sFor (dRng1 (dCons (dBin gAdd (dC (.int 1)) (dCallW 0 F_law_take (dCons (dC (.int 4)) dNil))) dNil)) (gNm 3)
  (sSeq (sAsg (gTp (gC (gNm 4) (gC (gNm 5) gN))) (dTup (dCons (dCallW 0 F_law_one_of (dCons (dVar 1) dNil)) (dCons (dCallW 0 F_law_one_of (dCons (dVar 1) dNil)) dNil))))
  (sSeq (sAsg (gTp (gC (gNm 6) (gC (gNm 7) gN))) (dTup (dCons (dTup (dCons (dCallW 0 F_law_take (dCons (dC (.int 4)) dNil)) (dCons (dC (.int 1)) dNil))) (dCons (dCallW 0 F_law_one_of (dCons (dLst (dCons (dTup (dCons (dC (.int 0)) (dCons (dC (.int 1)) dNil))) (dCons (dTup (dCons (dC (.int 0)) (dCons (dC (.int 1)) dNil))) (dCons (dTup (dCons (dC (.int 1)) (dCons (dC (.int 1)) dNil))) (dCons (dTup (dCons (dC (.int 0)) (dCons (dC (.int 1)) dNil))) (dCons (dTup (dCons (dUn gNeg (dC (.int 1))) (dCons (dC (.int 1000)) dNil))) dNil)))))) dNil)) dNil))))
  (sSeq (sAsg (gNm 8) (dComp [9] (dRng1 (dCons (dC (.int 3)) dNil)) (gNm 9) dYes (dCallP F_law_plus (dCons (dBin gIx (dVar 4) (dVar 9)) (dCons (dCallP F_law_times (dCons (dVar 6) (dCons (dBin gIx (dVar 5) (dVar 9)) dNil))) dNil)))))
  (sSeq (sIf (dAnd (dTr (dBin gEq (dBin gIx (dBin gIx (dVar 8) (dC (.int 0))) (dC (.int 0))) (dC (.int 0)))) (dTr (dBin gEq (dBin gIx (dBin gIx (dVar 8) (dC (.int 1))) (dC (.int 0))) (dC (.int 0)))))
  (sAsg (gNm 8) (dPri (fun a => (gList a).map .list) (dCons (dVar 4) dNil)))
  sSkip)
  (sApp 2 (dTup (dCons (dBin gIx (dVar 8) (dC (.int 0))) (dCons (dBin gIx (dVar 8) (dC (.int 1))) (dCons (dCallP F_law_plus (dCons (dBin gIx (dVar 8) (dC (.int 2))) (dCons (dVar 7) dNil))) dNil))))))))))
  (sRet (dPri gTuple (dCons (dPeek 2) dNil)))))
def F_law_around : List D → Ws → Option (D × Ws) := defW 1 9 m_law_around
theorem ok__law_around (bt : Bt mg) {a_law_take : Addr} {b_law_take : FuncData} (d_law_take : Dn P w K mg base 1 a_law_take b_law_take "_law_take" ["well", "top"] (spW 1 F_law_take)) {a_law_one_of : Addr} {b_law_one_of : FuncData} (d_law_one_of : Dn P w K mg base 2 a_law_one_of b_law_one_of "_law_one_of" ["well", "some"] (spW 1 F_law_one_of)) {a_law_plus : Addr} {b_law_plus : FuncData} (d_law_plus : Dn P w K mg base 3 a_law_plus b_law_plus "_law_plus" ["a", "b"] (spP 2 F_law_plus)) {a_law_times : Addr} {b_law_times : FuncData} (d_law_times : Dn P w K mg base 3 a_law_times b_law_times "_law_times" ["a", "b"] (spP 2 F_law_times)) {f : Addr} {fd : FuncData} (F : FnP K "_law_around" st__law_around f fd) (m : mg "_law_around" = some (.ref f)) : Dn P w K mg base 4 f fd "_law_around" ["well", "land"] (spW 1 F_law_around) :=
  ⟨m, F.kp, F.bindsN (fun _ _ _ _ _ _ us hl => match us, hl with | [_, _], _ => rfl), okW F sc__law_around rfl (by decide) fun cdv A outer s0 H E hr hg =>
  (s_cons (s_own (i := 2) sc__law_around.nd rfl (by first | exact Or.inl rfl | exact Or.inr rfl) (f_lst a_nil) rfl (Or.inl rfl))
  (s_cons (s_for PassesOwn.never rfl (i_rng1 (by rfl) bt.range (a_cons (r_bin ops_add (toQ r_int) (toQ (c_W (i := 0) d_law_take (hr.mono (by decide)) hg (by rfl) rfl (by first | exact Or.inl rfl | exact Or.inr (Or.inl rfl) | exact Or.inr (Or.inr rfl)) n_well.d n_well.c rfl (a_cons r_int a_nil rfl) (len_cons len_nil) (by decide) rfl rfl))) a_nil rfl) rfl) (g_nm (i := 3) sc__law_around.nd rfl (by first | exact Or.inl rfl | exact Or.inr rfl) (Or.inl rfl)) tgs_nm
  (s_cons (s_asg (r_tup (a_cons (c_W (i := 0) d_law_one_of (hr.mono (by decide)) hg (by rfl) rfl (by first | exact Or.inl rfl | exact Or.inr (Or.inl rfl) | exact Or.inr (Or.inr rfl)) n_well.d n_well.c rfl (a_cons (v 1 n_land) a_nil rfl) (len_cons len_nil) (by decide) rfl rfl) (a_cons (c_W (i := 0) d_law_one_of (hr.mono (by decide)) hg (by rfl) rfl (by first | exact Or.inl rfl | exact Or.inr (Or.inl rfl) | exact Or.inr (Or.inr rfl)) n_well.d n_well.c rfl (a_cons (v 1 n_land) a_nil rfl) (len_cons len_nil) (by decide) rfl rfl) a_nil rfl) rfl)) (g_tp' rfl (gs_cons' (g_nm (i := 4) sc__law_around.nd rfl (by first | exact Or.inl rfl | exact Or.inr rfl) (Or.inl rfl)) (gs_cons' (g_nm (i := 5) sc__law_around.nd rfl (by first | exact Or.inl rfl | exact Or.inr rfl) (Or.inl rfl)) gs_nil tgs_nil rfl) (tgs_cons tgs_nm tgs_nil) rfl) (tgs_cons tgs_nm (tgs_cons tgs_nm tgs_nil)) rfl rfl) (tgs_tp (tgs_cons tgs_nm (tgs_cons tgs_nm tgs_nil))) rfl rfl rfl)
  (s_cons (s_asg (r_tup (a_cons (r_tup (a_cons (c_W (i := 0) d_law_take (hr.mono (by decide)) hg (by rfl) rfl (by first | exact Or.inl rfl | exact Or.inr (Or.inl rfl) | exact Or.inr (Or.inr rfl)) n_well.d n_well.c rfl (a_cons r_int a_nil rfl) (len_cons len_nil) (by decide) rfl rfl) (a_cons r_int a_nil rfl) rfl)) (a_cons (c_W (i := 0) d_law_one_of (hr.mono (by decide)) hg (by rfl) rfl (by first | exact Or.inl rfl | exact Or.inr (Or.inl rfl) | exact Or.inr (Or.inr rfl)) n_well.d n_well.c rfl (a_cons (r_lst (a_cons (r_tup (a_cons r_int (a_cons r_int a_nil rfl) rfl)) (a_cons (r_tup (a_cons r_int (a_cons r_int a_nil rfl) rfl)) (a_cons (r_tup (a_cons r_int (a_cons r_int a_nil rfl) rfl)) (a_cons (r_tup (a_cons r_int (a_cons r_int a_nil rfl) rfl)) (a_cons (r_tup (a_cons (r_neg (toQ r_int)) (a_cons r_int a_nil rfl) rfl)) a_nil rfl) rfl) rfl) rfl) rfl)) a_nil rfl) (len_cons len_nil) (by decide) rfl rfl) a_nil rfl) rfl)) (g_tp' rfl (gs_cons' (g_nm (i := 6) sc__law_around.nd rfl (by first | exact Or.inl rfl | exact Or.inr rfl) (Or.inl rfl)) (gs_cons' (g_nm (i := 7) sc__law_around.nd rfl (by first | exact Or.inl rfl | exact Or.inr rfl) (Or.inl rfl)) gs_nil tgs_nil rfl) (tgs_cons tgs_nm tgs_nil) rfl) (tgs_cons tgs_nm (tgs_cons tgs_nm tgs_nil)) rfl rfl) (tgs_tp (tgs_cons tgs_nm (tgs_cons tgs_nm tgs_nil))) rfl rfl rfl)
  (s_cons (s_lc (i := 8) (bb := false) (sl := [9]) (own := [("k", 9)]) rfl sc__law_around.nd rfl rfl (sw_true rfl rfl rfl (by decide +kernel)) (i_rng1 (by rfl) bt.range (a_cons r_int a_nil rfl) rfl) (blkOk_by (N := N__law_around) (sc := defScope st__law_around) (own := [("k", 9)]) (by decide +kernel)) (fun _ _ _ _ _ => (g_nm (i := 9) sc__law_around.nd rfl (by first | exact Or.inl rfl | exact Or.inr rfl) (by first | exact Or.inr rfl | exact Or.inl rfl))) (fun _ _ _ _ _ => ts_nil) (fun _ _ _ _ _ => (c_P d_law_plus (hr.mono (by decide)) hg (by rfl) rfl (a_cons (r_ix (toQ (v 4 n_one)) (toQ (v 9 n_k)) (fun _ _ => rfl)) (a_cons (c_P d_law_times (hr.mono (by decide)) hg (by rfl) rfl (a_cons (v 6 n_by) (a_cons (r_ix (toQ (v 5 n_two)) (toQ (v 9 n_k)) (fun _ _ => rfl)) a_nil rfl) rfl) (len_cons (len_cons len_nil)) (by decide) rfl rfl) a_nil rfl) rfl) (len_cons (len_cons len_nil)) (by decide) rfl rfl)) (by decide) (fun _ => rfl))
  (s_cons (s_if (q_pw (q_and (q_cmp (ops_eq (room64 hr)) (toQ (r_ix (toQ (r_ix (toQ (v 8 n_edge)) (toQ r_int) (fun _ _ => rfl))) (toQ r_int) (fun _ _ => rfl))) (toQ r_int) (nomark _) bool_eq) (q_and1 (q_cmp (ops_eq (room64 hr)) (toQ (r_ix (toQ (r_ix (toQ (v 8 n_edge)) (toQ r_int) (fun _ _ => rfl))) (toQ r_int) (fun _ _ => rfl))) (toQ r_int) (nomark _) bool_eq))))
  (s_one (s_nm (i := 8) sc__law_around.nd rfl (by first | exact Or.inl rfl | exact Or.inr rfl) (r_typ (T := "list") (CaF.caS caf_list) (by rfl) bt.list (by decide +kernel) (aq_cons (toQ (v 4 n_one)) aq_nil rfl) (by decide) (by decide) rfl rfl) rfl (Or.inl rfl)))
  s_nil)
  (s_one (s_app (i := 2) rfl (by first | exact Or.inl rfl | exact Or.inr (Or.inl rfl) | exact Or.inr (Or.inr rfl)) n_found.d n_found.c (r_tup (a_cons (r_ix (toQ (v 8 n_edge)) (toQ r_int) (fun _ _ => rfl)) (a_cons (r_ix (toQ (v 8 n_edge)) (toQ r_int) (fun _ _ => rfl)) (a_cons (c_P d_law_plus (hr.mono (by decide)) hg (by rfl) rfl (a_cons (r_ix (toQ (v 8 n_edge)) (toQ r_int) (fun _ _ => rfl)) (a_cons (v 7 n_off) a_nil rfl) rfl) (len_cons (len_cons len_nil)) (by decide) rfl rfl) a_nil rfl) rfl) rfl)) rfl rfl rfl rfl rfl rfl)))))) (fun _ => rfl))
  (s_one (s_ret (r_typ cas_tuple (by rfl) bt.tuple (by decide +kernel) (aq_cons (vq 2 n_found) aq_nil rfl) (by decide) (by decide) rfl rfl)))))⟩
def N__law_right : List Str := ["well", "at", "lands", "around", "land", "other_land", "due", "n", "m"]
theorem sc__law_right : FnScope N__law_right ["well"] (defScope st__law_right) := ⟨rfl, rfl, rfl, by decide +kernel, rfl, by decide +kernel, by decide +kernel⟩
def m_law_right : Sm :=
  (sSeq (sAsg (gNm 1) (dCallW 0 F_law_spot (dCons (dC (.int 2)) dNil)))
  (sSeq (sOwn 2 (dLst (dCons (dCallW 0 F_law_land (dCons (dVar 1) (dCons (dBin gAdd (dC (.int 1)) (dCallW 0 F_law_take (dCons (dC (.int 4)) dNil))) dNil))) dNil)))
  (sSeq (sIf (dTr (dBin gEq (dCallW 0 F_law_take (dCons (dC (.int 3)) dNil)) (dC (.int 0))))
  (sOwn 2 (dLst (dCons (dBin gAdd (dBin gIx (dPeek 2) (dC (.int 0))) (dTup (dCons (dPri gTuple (dCons (dComp [7, 8] (dItems (dCallW 0 F_law_edge (dCons (dVar 1) (dCons (dLst (dCons (dTup (dCons (dC (.int 0)) (dCons (dC (.int 1)) dNil))) dNil)) dNil)))) (gTp (gC (gNm 7) (gC (gNm 8) gN))) dYes (dTup (dCons (dUn gNeg (dVar 7)) (dCons (dVar 8) dNil)))) dNil)) dNil))) dNil)))
  sSkip)
  (sSeq (sAsg (gNm 3) (dCallW 0 F_law_around (dCons (dBin gIx (dPeek 2) (dC (.int 0))) dNil)))
  (sSeq (sIf (dTr (dCallP F_law_in (dCons (dVar 3) (dCons (dVar 1) dNil))))
  (sApp 2 (dVar 3))
  sSkip)
  (sSeq (sApp 2 (dCallW 0 F_law_land (dCons (dCallW 0 F_law_one_of (dCons (dLst (dCons (dVar 1) (dCons (dCallW 0 F_law_spot (dCons (dC (.int 2)) dNil)) dNil))) dNil)) (dCons (dBin gAdd (dC (.int 1)) (dCallW 0 F_law_take (dCons (dC (.int 3)) dNil))) dNil))))
  (sSeq (sFz 2 (sFor (dItems (dVar 2)) (gNm 4)
  (sFz 2 (sFor (dItems (dVar 2)) (gNm 5)
  (sSeq (sAsg (gNm 6) (dCallP F_law_inside (dCons (dVar 4) (dCons (dVar 5) dNil))))
  (sIf (dTr (dBin gNe (dPri gRepr (dCons (dLst (dCons (dCallP Flies_within (dCons (dVar 4) (dCons (dVar 5) dNil))) (dCons (dCallK [1, 0] Flies_within (dCons (dVar 5) (dCons (dVar 4) dNil))) dNil))) dNil)) (dPri gRepr (dCons (dLst (dCons (dVar 6) (dCons (dVar 6) dNil))) dNil))))
  (sRet (dC (.bool false)))
  sSkip))))))
  (sRet (dC (.bool true))))))))))
def F_law_right : List D → Ws → Option (D × Ws) := defW 0 8 m_law_right
theorem ok__law_right (bt : Bt mg) {a_law_spot : Addr} {b_law_spot : FuncData} (d_law_spot : Dn P w K mg base 4 a_law_spot b_law_spot "_law_spot" ["well", "size"] (spW 1 F_law_spot)) {a_law_land : Addr} {b_law_land : FuncData} (d_law_land : Dn P w K mg base 5 a_law_land b_law_land "_law_land" ["well", "at", "count"] (spW 2 F_law_land)) {a_law_take : Addr} {b_law_take : FuncData} (d_law_take : Dn P w K mg base 1 a_law_take b_law_take "_law_take" ["well", "top"] (spW 1 F_law_take)) {a_law_edge : Addr} {b_law_edge : FuncData} (d_law_edge : Dn P w K mg base 4 a_law_edge b_law_edge "_law_edge" ["well", "at", "menu"] (spW 2 F_law_edge)) {a_law_around : Addr} {b_law_around : FuncData} (d_law_around : Dn P w K mg base 4 a_law_around b_law_around "_law_around" ["well", "land"] (spW 1 F_law_around)) {a_law_in : Addr} {b_law_in : FuncData} (d_law_in : Dn P w K mg base 2 a_law_in b_law_in "_law_in" ["land", "spot"] (spP 2 F_law_in)) {a_law_one_of : Addr} {b_law_one_of : FuncData} (d_law_one_of : Dn P w K mg base 2 a_law_one_of b_law_one_of "_law_one_of" ["well", "some"] (spW 1 F_law_one_of)) {a_law_inside : Addr} {b_law_inside : FuncData} (d_law_inside : Dn P w K mg base 2 a_law_inside b_law_inside "_law_inside" ["land", "other_land"] (spP 2 F_law_inside)) {alies_within : Addr} {blies_within : FuncData} (dlies_within : Dn P w K mg base 7 alies_within blies_within "lies_within" ["field", "other"] (spP 2 Flies_within)) (klies_within_0_other_field : KBinds K blies_within ["field", "other"] ["other", "field"] (gK 0 2 [1, 0]) (gK 0 2 [1, 0])) {f : Addr} {fd : FuncData} (F : FnP K "_law_right" st__law_right f fd) (m : mg "_law_right" = some (.ref f)) : Dn P w K mg base 8 f fd "_law_right" ["well"] (spW 0 F_law_right) :=
  ⟨m, F.kp, F.bindsN (fun _ _ _ _ _ _ us hl => match us, hl with | [_], _ => rfl), okW F sc__law_right rfl (by decide) fun cdv A outer s0 H E hr hg =>
  (s_cons (s_nm (i := 1) sc__law_right.nd rfl (by first | exact Or.inl rfl | exact Or.inr rfl) (c_W (i := 0) d_law_spot (hr.mono (by decide)) hg (by rfl) rfl (by first | exact Or.inl rfl | exact Or.inr (Or.inl rfl) | exact Or.inr (Or.inr rfl)) n_well.d n_well.c rfl (a_cons r_int a_nil rfl) (len_cons len_nil) (by decide) rfl rfl) rfl (Or.inl rfl))
  (s_cons (s_own (i := 2) sc__law_right.nd rfl (by first | exact Or.inl rfl | exact Or.inr rfl) (f_lst (a_cons (c_W (i := 0) d_law_land (hr.mono (by decide)) hg (by rfl) rfl (by first | exact Or.inl rfl | exact Or.inr (Or.inl rfl) | exact Or.inr (Or.inr rfl)) n_well.d n_well.c rfl (a_cons (v 1 n_at) (a_cons (r_bin ops_add (toQ r_int) (toQ (c_W (i := 0) d_law_take (hr.mono (by decide)) hg (by rfl) rfl (by first | exact Or.inl rfl | exact Or.inr (Or.inl rfl) | exact Or.inr (Or.inr rfl)) n_well.d n_well.c rfl (a_cons r_int a_nil rfl) (len_cons len_nil) (by decide) rfl rfl))) a_nil rfl) rfl) (len_cons (len_cons len_nil)) (by decide) rfl rfl) a_nil rfl)) rfl (Or.inl rfl))
  (s_cons (s_if (q_cmp (ops_eq (room64 hr)) (toQ (c_W (i := 0) d_law_take (hr.mono (by decide)) hg (by rfl) rfl (by first | exact Or.inl rfl | exact Or.inr (Or.inl rfl) | exact Or.inr (Or.inr rfl)) n_well.d n_well.c rfl (a_cons r_int a_nil rfl) (len_cons len_nil) (by decide) rfl rfl)) (toQ r_int) (nomark _) bool_eq)
  (s_one (s_own (i := 2) sc__law_right.nd rfl (by first | exact Or.inl rfl | exact Or.inr rfl) (f_lst (a_cons (r_bin ops_add (toQ (r_ix (vq 2 n_lands) (toQ r_int) (fun _ _ => rfl))) (toQ (r_tup (a_cons (r_typ cas_tuple (by rfl) bt.tuple (by decide +kernel) (aq_cons (toQ (r_comp (bb := false) (sl := [7, 8]) (own := [("n", 7), ("m", 8)]) rfl sc__law_right.nd (i_seq (c_W (i := 0) d_law_edge (hr.mono (by decide)) hg (by rfl) rfl (by first | exact Or.inl rfl | exact Or.inr (Or.inl rfl) | exact Or.inr (Or.inr rfl)) n_well.d n_well.c rfl (a_cons (v 1 n_at) (a_cons (r_lst (a_cons (r_tup (a_cons r_int (a_cons r_int a_nil rfl) rfl)) a_nil rfl)) a_nil rfl) rfl) (len_cons (len_cons len_nil)) (by decide) rfl rfl)) (blkOk_by (N := N__law_right) (sc := defScope st__law_right) (own := [("n", 7), ("m", 8)]) (by decide +kernel)) (fun _ _ _ _ _ => (g_tp' rfl (gs_cons' (g_nm (i := 7) sc__law_right.nd rfl (by first | exact Or.inl rfl | exact Or.inr rfl) (by first | exact Or.inr rfl | exact Or.inl rfl)) (gs_cons' (g_nm (i := 8) sc__law_right.nd rfl (by first | exact Or.inl rfl | exact Or.inr rfl) (by first | exact Or.inr rfl | exact Or.inl rfl)) gs_nil tgs_nil rfl) (tgs_cons tgs_nm tgs_nil) rfl) (tgs_cons tgs_nm (tgs_cons tgs_nm tgs_nil)) rfl rfl)) (fun _ _ _ _ _ => ts_nil) (fun _ _ _ _ _ => (r_tup (a_cons (r_neg (toQ (v 7 n_n))) (a_cons (v 8 n_m) a_nil rfl) rfl))) (by decide) (fun _ => rfl))) aq_nil rfl) (by decide) (by decide) rfl rfl) a_nil rfl)))) a_nil rfl)) rfl (Or.inl rfl)))
  s_nil)
  (s_cons (s_nm (i := 3) sc__law_right.nd rfl (by first | exact Or.inl rfl | exact Or.inr rfl) (c_W (i := 0) d_law_around (hr.mono (by decide)) hg (by rfl) rfl (by first | exact Or.inl rfl | exact Or.inr (Or.inl rfl) | exact Or.inr (Or.inr rfl)) n_well.d n_well.c rfl (a_cons (r_ix (vq 2 n_lands) (toQ r_int) (fun _ _ => rfl)) a_nil rfl) (len_cons len_nil) (by decide) rfl rfl) rfl (Or.inl rfl))
  (s_cons (s_if (q_tr (toQ (c_P d_law_in (hr.mono (by decide)) hg (by rfl) rfl (a_cons (v 3 n_around) (a_cons (v 1 n_at) a_nil rfl) rfl) (len_cons (len_cons len_nil)) (by decide) rfl rfl)) (fun _ => rfl))
  (s_one (s_app (i := 2) rfl (by first | exact Or.inl rfl | exact Or.inr (Or.inl rfl) | exact Or.inr (Or.inr rfl)) n_lands.d n_lands.c (v 3 n_around) rfl rfl rfl rfl rfl rfl))
  s_nil)
  (s_cons (s_app (i := 2) rfl (by first | exact Or.inl rfl | exact Or.inr (Or.inl rfl) | exact Or.inr (Or.inr rfl)) n_lands.d n_lands.c (c_W (i := 0) d_law_land (hr.mono (by decide)) hg (by rfl) rfl (by first | exact Or.inl rfl | exact Or.inr (Or.inl rfl) | exact Or.inr (Or.inr rfl)) n_well.d n_well.c rfl (a_cons (c_W (i := 0) d_law_one_of (hr.mono (by decide)) hg (by rfl) rfl (by first | exact Or.inl rfl | exact Or.inr (Or.inl rfl) | exact Or.inr (Or.inr rfl)) n_well.d n_well.c rfl (a_cons (r_lst (a_cons (v 1 n_at) (a_cons (c_W (i := 0) d_law_spot (hr.mono (by decide)) hg (by rfl) rfl (by first | exact Or.inl rfl | exact Or.inr (Or.inl rfl) | exact Or.inr (Or.inr rfl)) n_well.d n_well.c rfl (a_cons r_int a_nil rfl) (len_cons len_nil) (by decide) rfl rfl) a_nil rfl) rfl)) a_nil rfl) (len_cons len_nil) (by decide) rfl rfl) (a_cons (r_bin ops_add (toQ r_int) (toQ (c_W (i := 0) d_law_take (hr.mono (by decide)) hg (by rfl) rfl (by first | exact Or.inl rfl | exact Or.inr (Or.inl rfl) | exact Or.inr (Or.inr rfl)) n_well.d n_well.c rfl (a_cons r_int a_nil rfl) (len_cons len_nil) (by decide) rfl rfl))) a_nil rfl) rfl) (len_cons (len_cons len_nil)) (by decide) rfl rfl) rfl rfl rfl rfl rfl rfl)
  (s_cons (s_fz 2 (s_for PassesOwn.never rfl (i_seq (v 2 n_lands)) (g_nm (i := 4) sc__law_right.nd rfl (by first | exact Or.inl rfl | exact Or.inr rfl) (Or.inl rfl)) tgs_nm
  (s_one (s_fz 2 (s_for PassesOwn.never rfl (i_seq (v 2 n_lands)) (g_nm (i := 5) sc__law_right.nd rfl (by first | exact Or.inl rfl | exact Or.inr rfl) (Or.inl rfl)) tgs_nm
  (s_cons (s_nm (i := 6) sc__law_right.nd rfl (by first | exact Or.inl rfl | exact Or.inr rfl) (c_P d_law_inside (hr.mono (by decide)) hg (by rfl) rfl (a_cons (v 4 n_land) (a_cons (v 5 n_other_land) a_nil rfl) rfl) (len_cons (len_cons len_nil)) (by decide) rfl rfl) rfl (Or.inl rfl))
  (s_one (s_if (q_cmp (ops_ne (room64 hr)) (toQ (r_blt (cas_repr hg (room hr)) (by rfl) bt.repr (by decide +kernel) (aq_cons (toQ (r_lst (a_cons (c_P dlies_within (hr.mono (by decide)) hg (by rfl) rfl (a_cons (v 4 n_land) (a_cons (v 5 n_other_land) a_nil rfl) rfl) (len_cons (len_cons len_nil)) (by decide) rfl rfl) (a_cons (c_K0 (π := [1, 0]) dlies_within klies_within_0_other_field (hr.mono (by decide)) hg (by rfl) (k_cons (v 5 n_other_land) (k_cons (v 4 n_land) k_nil)) (kl_cons (kl_cons kl_nil)) (fun ts h => permlen [1, 0] (by decide) ts h) rfl rfl (by decide) rfl) a_nil rfl) rfl))) aq_nil rfl) (by decide) (by decide) rfl rfl)) (toQ (r_blt (cas_repr hg (room hr)) (by rfl) bt.repr (by decide +kernel) (aq_cons (toQ (r_lst (a_cons (v 6 n_due) (a_cons (v 6 n_due) a_nil rfl) rfl))) aq_nil rfl) (by decide) (by decide) rfl rfl)) (nomark _) bool_ne)
  (s_one (s_ret r_bl))
  s_nil))) (fun _ => rfl)))) (fun _ => rfl)))
  (s_one (s_ret r_bl)))))))))⟩
theorem sc__law_well : FnScope ["script", "turn", "cell", "seed", "each"] ["script", "turn"] (defScope st__law_well) := ⟨rfl, rfl, rfl, by decide +kernel, rfl, by decide +kernel, by decide +kernel⟩
theorem ok__law_well (bt : Bt mg) {f : Addr} {fd : FuncData} (F : FnP K "_law_well" st__law_well f fd) (m : mg "_law_well" = some (.ref f)) : Dn P w K mg base 1 f fd "_law_well" ["script", "turn"] (spWell K) :=
  ⟨m, F.kp, F.bindsN (fun _ _ _ _ _ _ us hl => match us, hl with | [_, _], _ => rfl), okG F sc__law_well (fun vs H Q E h => by obtain ⟨a, ns, t, rfl, _⟩ := h; rfl) fun cdv A outer s0 H vs Q E hr hg h => ⟨t_well K, PSs.nox
  (pss_cons (ps_set (i := 2) sc__law_well.nd rfl (by first | exact Or.inl rfl | exact Or.inr rfl) (pe_ifExp (pt_cmpR op_lt (pe_var (i := 1) rfl (by first | exact Or.inl rfl | exact Or.inr (Or.inl rfl) | exact Or.inr (Or.inr rfl)) n_turn.d n_turn.c) (pe_callB call_len_seq (by rfl) bt.len (by decide +kernel) (pa_cons (pe_var (i := 0) rfl (by first | exact Or.inl rfl | exact Or.inr (Or.inl rfl) | exact Or.inr (Or.inr rfl)) n_script.d n_script.c) pa_nil rfl) (by decide) (by decide) rfl rfl) (nomark _)) (pe_callTy call_int1 (by rfl) bt.int (by decide +kernel) (pa_cons (pe_ix ix_list (pe_var (i := 0) rfl (by first | exact Or.inl rfl | exact Or.inr (Or.inl rfl) | exact Or.inr (Or.inr rfl)) n_script.d n_script.c) (pe_var (i := 1) rfl (by first | exact Or.inl rfl | exact Or.inr (Or.inl rfl) | exact Or.inr (Or.inr rfl)) n_turn.d n_turn.c) (fun _ _ => rfl)) pa_nil rfl) (by decide) (by decide) rfl rfl) pe_int) rfl (Or.inl rfl))
  (pss_cons (ps_set (i := 3) sc__law_well.nd rfl (by first | exact Or.inl rfl | exact Or.inr rfl) (z_add z_int (z_mul z_int (z_var 1 n_turn))) rfl (Or.inl rfl))
  (pss_cons (ps_for PassesOwn.never rfl (pi_list (pe_slice sl_list (pe_var (i := 0) rfl (by first | exact Or.inl rfl | exact Or.inr (Or.inl rfl) | exact Or.inr (Or.inr rfl)) n_script.d n_script.c) po_none (po_some pe_int))) (pg_name (i := 4) sc__law_well.nd rfl (by first | exact Or.inl rfl | exact Or.inr rfl) (Or.inl rfl))
    (pss_one (ps_set (i := 3) sc__law_well.nd rfl (by first | exact Or.inl rfl | exact Or.inr rfl) (z_mod (z_toInt (by rfl) bt.int (z_add (z_add (z_mul (z_var 3 n_seed) z_int) (z_mul (z_mod (z_toInt (by rfl) bt.int (z_var 4 n_each) rfl) z_int) z_int)) z_int) rfl) z_int) rfl (Or.inl rfl))) (fun _ => rfl))
  (pss_cons (ps_set (i := 3) sc__law_well.nd rfl (by first | exact Or.inl rfl | exact Or.inr rfl) (z_mod (z_toInt (by rfl) bt.int (z_add (z_add (z_var 3 n_seed) (z_mul (z_mul (z_add (z_var 1 n_turn) z_int) (z_mod (z_toInt (by rfl) bt.int (z_var 2 n_cell) rfl) z_int)) z_int)) z_int) rfl) z_int) rfl (Or.inl rfl))
  (pss_one (ps_ret (pe_lst (pa_cons (z_if (z_or (z_cmp op_lt (z_var 2 n_cell) z_int (nomark _)) (z_cmp op_ge (z_var 2 n_cell) (z_pow z_int z_int) (nomark _))) (z_abs (by rfl) bt.abs (z_var 2 n_cell) rfl) z_int) (pa_cons (z_var 3 n_seed) (pa_cons pe_int pa_nil rfl) rfl) rfl)))))))), well_pure (x := "turn") vs H Q E h⟩⟩
theorem sc_law : FnScope ["script", "turn"] ["script"] (defScope st_law) := ⟨rfl, rfl, rfl, by decide +kernel, rfl, by decide +kernel, by decide +kernel⟩
theorem ok_law (hF : AllWell F_law_right) (bt : Bt mg) {a1 : Addr} {b1 : FuncData} (d_law_right : Dn P w K mg base 8 a1 b1 "_law_right" ["well"] (spW 0 F_law_right)) {a2 : Addr} {b2 : FuncData} (dwell : Dn P w K mg base 1 a2 b2 "_law_well" ["script", "turn"] (spWell K))
    {f : Addr} {fd : FuncData} (F : FnP K "law" st_law f fd) : FnG P w K mg base CX0 9 f fd ["script"] (spLaw K) :=
  okG F sc_law (fun vs H Q E h => by obtain ⟨a, ns, rfl, _⟩ := h; rfl) fun cdv A outer s0 H vs Q E hr hg h => ⟨tLawAll K (tnMM K 1 2) F_law_right, PSs.nox (pss_one
  (ps_ret (pe_callB (cr_all rfl) (by rfl) bt.all (by decide +kernel) (pa_cons (pe_lc (own := [("turn", 1)]) rfl sc_law.nd (pi_range1 (by rfl) bt.range (pa_cons (pe_callB (call_max2 rfl) (by rfl) bt.max (by decide +kernel) (pa_cons pe_int (pa_cons (pe_callB (call_min2 rfl) (by rfl) bt.min (by decide +kernel) (pa_cons (pe_callB call_len_seq (by rfl) bt.len (by decide +kernel) (pa_cons (pe_var (i := 0) rfl (by first | exact Or.inl rfl | exact Or.inr (Or.inl rfl) | exact Or.inr (Or.inr rfl)) n_script.d n_script.c) pa_nil rfl) (by decide) (by decide) rfl rfl) (pa_cons pe_int pa_nil rfl) rfl) (by decide) (by decide) rfl rfl) pa_nil rfl) rfl) (by decide) (by decide) rfl rfl) pa_nil rfl) rfl) (blkOk_by (N := ["script", "turn"]) (sc := defScope st_law) (own := [("turn", 1)]) (by decide +kernel))
    (fun _ _ _ _ _ => pg_name (i := 1) sc_law.nd rfl (by first | exact Or.inl rfl | exact Or.inr rfl) (by first | exact Or.inr rfl | exact Or.inl rfl)) (fun _ _ _ _ _ => pts_nil) (fun _ _ _ _ _ => (callG d_law_right.F (hr.mono (by decide)) hg (by rfl) d_law_right.m d_law_right.kp d_law_right.b pass0 (pa_cons (callG dwell.F (hr.mono (by decide)) hg (by rfl) dwell.m dwell.kp dwell.b pass0 (pa_cons (pe_var (i := 0) rfl (by first | exact Or.inl rfl | exact Or.inr (Or.inl rfl) | exact Or.inr (Or.inr rfl)) n_script.d n_script.c) (pa_cons (pe_var (i := 1) rfl (by first | exact Or.inl rfl | exact Or.inr (Or.inl rfl) | exact Or.inr (Or.inr rfl)) n_turn.d n_turn.c) pa_nil rfl) rfl) (by decide) rfl rfl) pa_nil rfl) (by decide) rfl rfl)) (fun _ => rfl)) pa_nil rfl) (by decide) (by decide) rfl rfl))), all_pure hF (num_mm (by decide) (by decide) (by decide)) vs H Q E h⟩
end
end My
namespace My
open PySem PySem.Spec PyProof.Rows L2 Mi
theorem facts {P : Program} {w : World} {K : PySem.W.Frag} {h : Heap} {mg : Str → Option Value} {f : Addr} (hF : AllWell F_law_right) (X : K.In h) (G : h.Ns mainGlobals mg) (hfa : mg ("law" : Str) = some (.ref f)) (c : SaysI im fa fn K) :
    ∃ fd : FuncData, (∀ (s : Shared) (v : Value), BindsTo s fd ⟨[v], []⟩ [("script", v)]) ∧ ∀ base : Heap, K.In base → base.Ns mainGlobals mg → FnG P w K mg base CX0 9 f fd ["script"] (spLaw K) := by
  have bt : Bt mg := ⟨c.free X G 45 rfl, c.free X G 46 rfl, c.free X G 47 rfl, c.free X G 48 rfl, c.free X G 49 rfl, c.free X G 50 rfl, c.free X G 51 rfl, c.free X G 52 rfl, c.free X G 53 rfl, c.free X G 54 rfl, c.free X G 55 rfl, c.free X G 56 rfl, c.free X G 57 rfl, c.imp X G 0 rfl, c.imp X G 1 rfl, c.imp X G 2 rfl⟩
  obtain ⟨bratio, uratio⟩ := c.d.def_ 0 (d := Dratio) rfl
  obtain ⟨bat_most, uat_most⟩ := c.d.def_ 1 (d := Dat_most) rfl
  obtain ⟨bcommon_scale, ucommon_scale⟩ := c.d.def_ 2 (d := Dcommon_scale) rfl
  obtain ⟨bscaled, uscaled⟩ := c.d.def_ 3 (d := Dscaled) rfl
  obtain ⟨bis_whole, uis_whole⟩ := c.d.def_ 4 (d := Dis_whole) rfl
  obtain ⟨bis_tuple_of, uis_tuple_of⟩ := c.d.def_ 5 (d := Dis_tuple_of) rfl
  obtain ⟨bis_fraction, uis_fraction⟩ := c.d.def_ 6 (d := Dis_fraction) rfl
  obtain ⟨bare_fractions, uare_fractions⟩ := c.d.def_ 7 (d := Dare_fractions) rfl
  obtain ⟨bis_side, uis_side⟩ := c.d.def_ 8 (d := Dis_side) rfl
  obtain ⟨bis_field, uis_field⟩ := c.d.def_ 9 (d := Dis_field) rfl
  obtain ⟨bcheck_field, ucheck_field⟩ := c.d.def_ 10 (d := Dcheck_field) rfl
  obtain ⟨bholds, uholds⟩ := c.d.def_ 11 (d := Dholds) rfl
  obtain ⟨bfoot, ufoot⟩ := c.d.def_ 12 (d := Dfoot) rfl
  obtain ⟨bfoot_spots, ufoot_spots⟩ := c.d.def_ 13 (d := Dfoot_spots) rfl
  obtain ⟨bcrossing, ucrossing⟩ := c.d.def_ 14 (d := Dcrossing) rfl
  obtain ⟨bcorner_spots, ucorner_spots⟩ := c.d.def_ 15 (d := Dcorner_spots) rfl
  obtain ⟨bsquare_between, usquare_between⟩ := c.d.def_ 16 (d := Dsquare_between) rfl
  obtain ⟨bnearest_spot, unearest_spot⟩ := c.d.def_ 17 (d := Dnearest_spot) rfl
  obtain ⟨bholds_nothing, uholds_nothing⟩ := c.d.def_ 18 (d := Dholds_nothing) rfl
  obtain ⟨bwhole_sides, uwhole_sides⟩ := c.d.def_ 19 (d := Dwhole_sides) rfl
  obtain ⟨bcheck_not_empty, ucheck_not_empty⟩ := c.d.def_ 20 (d := Dcheck_not_empty) rfl
  obtain ⟨bis_told_by_one, uis_told_by_one⟩ := c.d.def_ 21 (d := Dis_told_by_one) rfl
  obtain ⟨bis_told_by_two, uis_told_by_two⟩ := c.d.def_ 22 (d := Dis_told_by_two) rfl
  obtain ⟨bis_told, uis_told⟩ := c.d.def_ 23 (d := Dis_told) rfl
  obtain ⟨blies_within, ulies_within⟩ := c.d.def_ 24 (d := Dlies_within) rfl
  obtain ⟨b_law_take, u_law_take⟩ := c.d.def_ 25 (d := D_law_take) rfl
  obtain ⟨b_law_one_of, u_law_one_of⟩ := c.d.def_ 26 (d := D_law_one_of) rfl
  obtain ⟨b_law_gcd, u_law_gcd⟩ := c.d.def_ 27 (d := D_law_gcd) rfl
  obtain ⟨b_law_ratio, u_law_ratio⟩ := c.d.def_ 28 (d := D_law_ratio) rfl
  obtain ⟨b_law_plus, u_law_plus⟩ := c.d.def_ 29 (d := D_law_plus) rfl
  obtain ⟨b_law_times, u_law_times⟩ := c.d.def_ 30 (d := D_law_times) rfl
  obtain ⟨b_law_number, u_law_number⟩ := c.d.def_ 31 (d := D_law_number) rfl
  obtain ⟨b_law_line, u_law_line⟩ := c.d.def_ 32 (d := D_law_line) rfl
  obtain ⟨b_law_point, u_law_point⟩ := c.d.def_ 33 (d := D_law_point) rfl
  obtain ⟨b_law_holds, u_law_holds⟩ := c.d.def_ 34 (d := D_law_holds) rfl
  obtain ⟨b_law_edge, u_law_edge⟩ := c.d.def_ 35 (d := D_law_edge) rfl
  obtain ⟨b_law_land, u_law_land⟩ := c.d.def_ 36 (d := D_law_land) rfl
  obtain ⟨b_law_in, u_law_in⟩ := c.d.def_ 37 (d := D_law_in) rfl
  obtain ⟨b_law_spot, u_law_spot⟩ := c.d.def_ 38 (d := D_law_spot) rfl
  obtain ⟨b_law_follows, u_law_follows⟩ := c.d.def_ 39 (d := D_law_follows) rfl
  obtain ⟨b_law_inside, u_law_inside⟩ := c.d.def_ 40 (d := D_law_inside) rfl
  obtain ⟨b_law_around, u_law_around⟩ := c.d.def_ 41 (d := D_law_around) rfl
  obtain ⟨b_law_right, u_law_right⟩ := c.d.def_ 42 (d := D_law_right) rfl
  obtain ⟨b_law_well, u_law_well⟩ := c.d.def_ 43 (d := D_law_well) rfl
  obtain ⟨blaw, ulaw⟩ := c.d.def_ 44 (d := Dlaw) rfl
  have e := hfa.symm.trans (c.glo X G 44 rfl)
  cases e
  have b := FunD.bindsA (ps := ["script"]) ulaw fun _ _ _ _ _ _ us hl => match us, hl with | [_], _ => rfl
  refine ⟨blaw, fun s v => b s [v] rfl, fun base _ _ => ?_⟩
  have dratio := ok_ratio (P := P) (w := w) (base := base) bt  uratio (c.glo X G 0 rfl)
  have dat_most := ok_at_most (P := P) (w := w) (base := base) bt  uat_most (c.glo X G 1 rfl)
  have dcommon_scale := ok_common_scale (P := P) (w := w) (base := base) bt  ucommon_scale (c.glo X G 2 rfl)
  have dscaled := ok_scaled (P := P) (w := w) (base := base) bt  uscaled (c.glo X G 3 rfl)
  have dis_whole := ok_is_whole (P := P) (w := w) (base := base) bt  uis_whole (c.glo X G 4 rfl)
  have dis_tuple_of := ok_is_tuple_of (P := P) (w := w) (base := base) bt  uis_tuple_of (c.glo X G 5 rfl)
  have dis_fraction := ok_is_fraction (P := P) (w := w) (base := base) bt dis_tuple_of dis_whole uis_fraction (c.glo X G 6 rfl)
  have dare_fractions := ok_are_fractions (P := P) (w := w) (base := base) bt dis_tuple_of dis_fraction uare_fractions (c.glo X G 7 rfl)
  have dis_side := ok_is_side (P := P) (w := w) (base := base) bt dare_fractions uis_side (c.glo X G 8 rfl)
  have dis_field := ok_is_field (P := P) (w := w) (base := base) bt dis_tuple_of dis_side uis_field (c.glo X G 9 rfl)
  have dcheck_field := ok_check_field (P := P) (w := w) (base := base) bt dis_field ucheck_field (c.glo X G 10 rfl)
  have dholds := ok_holds (P := P) (w := w) (base := base) bt  uholds (c.glo X G 11 rfl)
  have dfoot := ok_foot (P := P) (w := w) (base := base) bt  ufoot (c.glo X G 12 rfl)
  have dfoot_spots := ok_foot_spots (P := P) (w := w) (base := base) bt dfoot dholds ufoot_spots (c.glo X G 13 rfl)
  have dcrossing := ok_crossing (P := P) (w := w) (base := base) bt  ucrossing (c.glo X G 14 rfl)
  have dcorner_spots := ok_corner_spots (P := P) (w := w) (base := base) bt dcrossing dholds ucorner_spots (c.glo X G 15 rfl)
  have dsquare_between := ok_square_between (P := P) (w := w) (base := base) bt dratio usquare_between (c.glo X G 16 rfl)
  have dnearest_spot := ok_nearest_spot (P := P) (w := w) (base := base) bt dholds dfoot_spots dcorner_spots dsquare_between dat_most unearest_spot (c.glo X G 17 rfl)
  have dholds_nothing := ok_holds_nothing (P := P) (w := w) (base := base) bt dnearest_spot uholds_nothing (c.glo X G 18 rfl)
  have dwhole_sides := ok_whole_sides (P := P) (w := w) (base := base) bt dcommon_scale dscaled uwhole_sides (c.glo X G 19 rfl)
  have dcheck_not_empty := ok_check_not_empty (P := P) (w := w) (base := base) bt dholds_nothing dwhole_sides ucheck_not_empty (c.glo X G 20 rfl)
  have dis_told_by_one := ok_is_told_by_one (P := P) (w := w) (base := base) bt  uis_told_by_one (c.glo X G 21 rfl)
  have dis_told_by_two := ok_is_told_by_two (P := P) (w := w) (base := base) bt dcrossing dholds uis_told_by_two (c.glo X G 22 rfl)
  have dis_told := ok_is_told (P := P) (w := w) (base := base) bt dis_told_by_one dis_told_by_two uis_told (c.glo X G 23 rfl)
  have dlies_within := ok_lies_within (P := P) (w := w) (base := base) bt dcheck_field dcheck_not_empty dwhole_sides dis_told ulies_within (c.glo X G 24 rfl)
  have d_law_take := ok__law_take (P := P) (w := w) (base := base) bt  u_law_take (c.glo X G 25 rfl)
  have d_law_one_of := ok__law_one_of (P := P) (w := w) (base := base) bt d_law_take u_law_one_of (c.glo X G 26 rfl)
  have d_law_gcd := ok__law_gcd (P := P) (w := w) (base := base) bt  u_law_gcd (c.glo X G 27 rfl)
  have d_law_ratio := ok__law_ratio (P := P) (w := w) (base := base) bt d_law_gcd u_law_ratio (c.glo X G 28 rfl)
  have d_law_plus := ok__law_plus (P := P) (w := w) (base := base) bt d_law_ratio u_law_plus (c.glo X G 29 rfl)
  have d_law_times := ok__law_times (P := P) (w := w) (base := base) bt d_law_ratio u_law_times (c.glo X G 30 rfl)
  have d_law_number := ok__law_number (P := P) (w := w) (base := base) bt d_law_take d_law_ratio u_law_number (c.glo X G 31 rfl)
  have d_law_line := ok__law_line (P := P) (w := w) (base := base) bt  u_law_line (c.glo X G 32 rfl)
  have d_law_point := ok__law_point (P := P) (w := w) (base := base) bt  u_law_point (c.glo X G 33 rfl)
  have d_law_holds := ok__law_holds (P := P) (w := w) (base := base) bt  u_law_holds (c.glo X G 34 rfl)
  have d_law_edge := ok__law_edge (P := P) (w := w) (base := base) bt d_law_take d_law_one_of d_law_plus d_law_times d_law_ratio u_law_edge (c.glo X G 35 rfl)
  have d_law_land := ok__law_land (P := P) (w := w) (base := base) bt d_law_edge u_law_land (c.glo X G 36 rfl)
  have d_law_in := ok__law_in (P := P) (w := w) (base := base) bt d_law_holds d_law_line d_law_point u_law_in (c.glo X G 37 rfl)
  have d_law_spot := ok__law_spot (P := P) (w := w) (base := base) bt d_law_number u_law_spot (c.glo X G 38 rfl)
  have d_law_follows := ok__law_follows (P := P) (w := w) (base := base) bt  u_law_follows (c.glo X G 39 rfl)
  have d_law_inside := ok__law_inside (P := P) (w := w) (base := base) bt d_law_line d_law_follows u_law_inside (c.glo X G 40 rfl)
  have d_law_around := ok__law_around (P := P) (w := w) (base := base) bt d_law_take d_law_one_of d_law_plus d_law_times u_law_around (c.glo X G 41 rfl)
  have d_law_right := ok__law_right (P := P) (w := w) (base := base) bt d_law_spot d_law_land d_law_take d_law_edge d_law_around d_law_in d_law_one_of d_law_inside dlies_within (kb_of ulies_within (by decide) (fun _ _ _ _ _ _ us ws h1 h2 => match us, h1, ws, h2 with | [], _, [_, _], _ => rfl)) u_law_right (c.glo X G 42 rfl)
  have dwell := ok__law_well (P := P) (w := w) (base := base) bt u_law_well (c.glo X G 43 rfl)
  exact ok_law hF bt d_law_right dwell ulaw
end My
namespace Mi
open PySem PySem.Spec PyProof.Rows L2

/-! ### fractions as rationals -/
theorem rden_ne (q : Rat) : ((q.den : Int) : Rat) ≠ 0 := by
  intro z
  have := q.den_pos
  have : (q.den : Int) = 0 := by exact_mod_cast z
  omega
theorem rden_pos (q : Rat) : 0 < ((q.den : Int) : Rat) := by
  have := q.den_pos
  have : (0 : Int) < (q.den : Int) := by omega
  exact_mod_cast this
theorem num_eq (q : Rat) : (q.num : Rat) = q * ((q.den : Int) : Rat) := by
  have h := Rat.num_divInt_den q
  rw [Rat.divInt_eq_div] at h
  have := rden_ne q
  grind
theorem le_mul_iff {A C p : Rat} (hp : 0 < p) : A * p ≤ C * p ↔ A ≤ C := by
  constructor
  · intro h
    have h0 : p⁻¹ > 0 := Rat.inv_pos.mpr hp
    have h1 := Rat.mul_le_mul_of_nonneg_right h (Rat.le_of_lt h0)
    have hn : p ≠ 0 := by intro z; rw [z] at hp; exact absurd hp (by decide)
    have e1 : A * p * p⁻¹ = A := by grind
    have e2 : C * p * p⁻¹ = C := by grind
    rw [e1, e2] at h1
    exact h1
  · intro h
    exact Rat.mul_le_mul_of_nonneg_right h (Rat.le_of_lt hp)
theorem lt_mul_iff {A C p : Rat} (hp : 0 < p) : A * p < C * p ↔ A < C := by
  rw [← Rat.not_le, ← Rat.not_le, le_mul_iff hp]
/-! ### sides, places in whole numbers -/
abbrev E3 := Rat × Rat × Rat
abbrev P2 := Rat × Rat
abbrev L3 := Int × Int × Int
def eT (e : E3) : D := .tuple [fq e.1, fq e.2.1, fq e.2.2]
def pT (p : P2) : D := .tuple [fq p.1, fq p.2]
def iT (l : L3) : D := .tuple [.int l.1, .int l.2.1, .int l.2.2]
def lT (es : List E3) : D := .tuple (es.map eT)
def holdsE (e : E3) (p : P2) : Bool := decide (e.1 * p.1 + e.2.1 * p.2 ≤ e.2.2)
def inside (es : List E3) (p : P2) : Bool := es.all fun e => holdsE e p
/-- a side's whole numbers -/
def RepE (e : E3) (l : L3) : Prop := ∃ k : Rat, 0 < k ∧ (l.1 : Rat) = e.1 * k ∧ (l.2.1 : Rat) = e.2.1 * k ∧ (l.2.2 : Rat) = e.2.2 * k
def RepP (p : P2) (s : L3) : Prop := 0 < s.2.2 ∧ (s.1 : Rat) = p.1 * (s.2.2 : Int) ∧ (s.2.1 : Rat) = p.2 * (s.2.2 : Int)
def holdsL (l s : L3) : Bool := decide (l.1 * s.1 + l.2.1 * s.2.1 ≤ l.2.2 * s.2.2)
theorem holds_rep {e : E3} {l : L3} {p : P2} {s : L3} (hl : RepE e l) (hs : RepP p s) : holdsL l s = holdsE e p := by
  obtain ⟨k, hk, h1, h2, h3⟩ := hl
  obtain ⟨w0, h4, h5⟩ := hs
  have hw : (0 : Rat) < ((s.2.2 : Int) : Rat) := by exact_mod_cast w0
  have hp : 0 < k * ((s.2.2 : Int) : Rat) := Rat.mul_pos hk hw
  unfold holdsL holdsE
  apply decide_eq_decide.mpr
  have e1 : ((l.1 * s.1 + l.2.1 * s.2.1 : Int) : Rat) = (e.1 * p.1 + e.2.1 * p.2) * (k * ((s.2.2 : Int) : Rat)) := by
    push_cast
    rw [h1, h2, h4, h5]
    grind
  have e2 : ((l.2.2 * s.2.2 : Int) : Rat) = e.2.2 * (k * ((s.2.2 : Int) : Rat)) := by
    push_cast
    rw [h3]
    grind
  rw [← Rat.intCast_le_intCast, e1, e2, le_mul_iff hp]
def SzL (k : Nat) (l : L3) : Prop := Sz k l.1 ∧ Sz k l.2.1 ∧ Sz k l.2.2
structure SqE (k : Nat) (e : E3) : Prop where
  a : Sq k e.1
  b : Sq k e.2.1
  c : Sq k e.2.2
structure SqP (k : Nat) (p : P2) : Prop where
  x : Sq k p.1
  y : Sq k p.2
/-- the law's own way -/
def lineL (e : E3) : L3 := (e.1.num * e.2.1.den * e.2.2.den, e.2.1.num * e.1.den * e.2.2.den, e.2.2.num * e.1.den * e.2.1.den)
def pointL (p : P2) : L3 := (p.1.num * p.2.den, p.2.num * p.1.den, p.1.den * p.2.den)
theorem rep_line (e : E3) : RepE e (lineL e) := by
  refine ⟨((e.1.den : Int) : Rat) * ((e.2.1.den : Int) : Rat) * ((e.2.2.den : Int) : Rat), ?_, ?_, ?_, ?_⟩
  · exact Rat.mul_pos (Rat.mul_pos (rden_pos _) (rden_pos _)) (rden_pos _)
  · unfold lineL
    push_cast
    rw [num_eq e.1]
    push_cast
    grind
  · unfold lineL
    push_cast
    rw [num_eq e.2.1]
    push_cast
    grind
  · unfold lineL
    push_cast
    rw [num_eq e.2.2]
    push_cast
    grind
theorem rep_point (p : P2) : RepP p (pointL p) := by
  refine ⟨Int.mul_pos (den_pos _) (den_pos _), ?_, ?_⟩
  · unfold pointL
    push_cast
    rw [num_eq p.1]
    push_cast
    grind
  · unfold pointL
    push_cast
    rw [num_eq p.2]
    push_cast
    grind
theorem sz_line {k : Nat} {e : E3} (h : SqE k e) : SzL (3 * k) (lineL e) :=
  ⟨((h.a.n.mul h.b.d).mul h.c.d).mono (by omega), ((h.b.n.mul h.a.d).mul h.c.d).mono (by omega), ((h.c.n.mul h.a.d).mul h.b.d).mono (by omega)⟩
theorem sz_point {k : Nat} {p : P2} (h : SqP k p) : SzL (2 * k) (pointL p) :=
  ⟨(h.x.n.mul h.y.d).mono (by omega), (h.y.n.mul h.x.d).mono (by omega), (h.x.d.mul h.y.d).mono (by omega)⟩
/-! ### the program's own way: a scale that makes all whole -/
def scaleOf (qs : List Rat) : Nat := qs.foldl (fun s q => Nat.lcm s q.den) 1
def upL (L : Int) (q : Rat) : Int := q.num * (L / q.den)
theorem foldl_lcm : ∀ (qs : List Rat) (s : Nat), s ∣ qs.foldl (fun s q => Nat.lcm s q.den) s ∧ ∀ q ∈ qs, q.den ∣ qs.foldl (fun s q => Nat.lcm s q.den) s
  | [], s => ⟨Nat.dvd_refl s, fun q h => by simp at h⟩
  | p :: qs, s => by
    obtain ⟨h1, h2⟩ := foldl_lcm qs (Nat.lcm s p.den)
    refine ⟨Nat.dvd_trans (Nat.dvd_lcm_left _ _) h1, fun q h => ?_⟩
    rcases List.mem_cons.mp h with rfl | h
    · exact Nat.dvd_trans (Nat.dvd_lcm_right _ _) h1
    · exact h2 q h
theorem foldl_pos : ∀ (qs : List Rat) (s : Nat), 0 < s → 0 < qs.foldl (fun s q => Nat.lcm s q.den) s
  | [], s, h => h
  | p :: qs, s, h => foldl_pos qs _ (Nat.lcm_pos h p.den_pos)
theorem scale_pos (qs : List Rat) : 0 < scaleOf qs := foldl_pos qs 1 (by decide)
theorem scale_dvd {qs : List Rat} {q : Rat} (h : q ∈ qs) : q.den ∣ scaleOf qs := (foldl_lcm qs 1).2 q h
theorem upL_eq {L : Nat} {q : Rat} (h : q.den ∣ L) : ((upL L q : Int) : Rat) = q * ((L : Int) : Rat) := by
  obtain ⟨k, rfl⟩ := h
  have hp : (q.den : Int) ≠ 0 := den_ne q
  have e : ((q.den * k : Nat) : Int) / (q.den : Int) = k := by
    rw [Int.natCast_mul, Int.mul_ediv_cancel_left _ hp]
  unfold upL
  rw [e]
  push_cast
  rw [num_eq q]
  push_cast
  grind
theorem lcm_le {a b j k : Nat} (ha : a < 2 ^ j) (hb : b < 2 ^ k) (h0 : 0 < a) (h1 : 0 < b) : Nat.lcm a b < 2 ^ (j + k) := by
  have h : Nat.lcm a b ≤ a * b := Nat.le_of_dvd (Nat.mul_pos h0 h1) (Nat.lcm_dvd (Nat.dvd_mul_right _ _) (Nat.dvd_mul_left _ _))
  rw [Nat.pow_add]
  exact Nat.lt_of_le_of_lt h (Nat.mul_lt_mul_of_lt_of_lt ha hb)
theorem foldl_size {k : Nat} : ∀ (qs : List Rat) (s j : Nat), 0 < s → s < 2 ^ j → (∀ q ∈ qs, Sq k q) → qs.foldl (fun s q => Nat.lcm s q.den) s < 2 ^ (j + k * qs.length)
  | [], s, j, _, h, _ => by simpa using h
  | p :: qs, s, j, h0, h, hq => by
    have h2 := foldl_size (k := k) qs (Nat.lcm s p.den) (j + k) (Nat.lcm_pos h0 p.den_pos) (lcm_le h (by simpa [Sz] using (hq p (List.mem_cons_self ..)).d) h0 p.den_pos) fun q h => hq q (List.mem_cons_of_mem _ h)
    rw [List.length_cons, Nat.mul_add, Nat.mul_one, show j + (k * qs.length + k) = j + k + k * qs.length by omega]
    exact h2
theorem gLcm_eq {a b : Nat} (ha : a.log2 < 13000) (hb : b.log2 < 13000) (hc : (Nat.lcm a b).log2 < bitsLine) : gLcm [.int a, .int b] = some (.int (Nat.lcm a b : Nat)) := if_pos (c := (a : Int).natAbs.log2 < 13000 ∧ (b : Int).natAbs.log2 < 13000 ∧ (Nat.lcm (a : Int).natAbs (b : Int).natAbs).log2 < bitsLine) ⟨ha, hb, hc⟩
theorem log_of {a k : Nat} (h : a < 2 ^ k) (hk : 0 < k) : a.log2 < k := by
  by_cases h0 : a = 0
  · rw [h0, Nat.log2_zero]
    exact hk
  · exact (Nat.log2_lt h0).mpr h
def sideL (e : E3) : L3 := let L : Nat := scaleOf [e.1, e.2.1, e.2.2]; (upL L e.1, upL L e.2.1, upL L e.2.2)
def spotL (p : P2) : L3 := let L : Nat := scaleOf [p.1, p.2]; (upL L p.1, upL L p.2, L)
theorem rep_side (e : E3) : RepE e (sideL e) := by
  have h : ∀ q ∈ [e.1, e.2.1, e.2.2], q.den ∣ scaleOf [e.1, e.2.1, e.2.2] := fun q hq => scale_dvd hq
  refine ⟨((scaleOf [e.1, e.2.1, e.2.2] : Int) : Rat), ?_, upL_eq (h _ (by simp)), upL_eq (h _ (by simp)), upL_eq (h _ (by simp))⟩
  have := scale_pos [e.1, e.2.1, e.2.2]
  exact_mod_cast (show (0 : Int) < (scaleOf [e.1, e.2.1, e.2.2] : Int) by omega)
theorem rep_spot (p : P2) : RepP p (spotL p) := by
  have h : ∀ q ∈ [p.1, p.2], q.den ∣ scaleOf [p.1, p.2] := fun q hq => scale_dvd hq
  refine ⟨?_, upL_eq (h _ (by simp)), upL_eq (h _ (by simp))⟩
  have := scale_pos [p.1, p.2]
  show (0 : Int) < (scaleOf [p.1, p.2] : Int)
  omega
theorem sz_upL {j k : Nat} {L : Nat} {q : Rat} (hL : L < 2 ^ j) (hq : Sq k q) : Sz (k + j) (upL L q) := by
  unfold upL
  refine hq.n.mul (Sz.le_of (a := (L : Int)) (by unfold Sz; simpa using hL) ?_)
  exact Int.natAbs_ediv_le_natAbs _ _
theorem scale_size {k : Nat} {qs : List Rat} (h : ∀ q ∈ qs, Sq k q) : scaleOf qs < 2 ^ (1 + k * qs.length) := foldl_size qs 1 1 (by decide) (by decide) h
theorem sz_side {k : Nat} {e : E3} (h : SqE k e) : SzL (4 * k + 1) (sideL e) := by
  have hs : scaleOf [e.1, e.2.1, e.2.2] < 2 ^ (1 + k * 3) := scale_size fun q hq => by
    simp at hq
    rcases hq with rfl | rfl | rfl
    · exact h.a
    · exact h.b
    · exact h.c
  exact ⟨(sz_upL hs h.a).mono (by omega), (sz_upL hs h.b).mono (by omega), (sz_upL hs h.c).mono (by omega)⟩
theorem sz_spot {k : Nat} {p : P2} (h : SqP k p) : SzL (3 * k + 1) (spotL p) := by
  have hs : scaleOf [p.1, p.2] < 2 ^ (1 + k * 2) := scale_size fun q hq => by
    simp at hq
    rcases hq with rfl | rfl
    · exact h.x
    · exact h.y
  refine ⟨(sz_upL hs h.x).mono (by omega), (sz_upL hs h.y).mono (by omega), Sz.mono (j := 1 + k * 2) ?_ (by omega)⟩
  show ((scaleOf [p.1, p.2] : Nat) : Int).natAbs < _
  rw [Int.natAbs_natCast]
  exact hs
theorem bd_tup {k : Nat} {ts : List D} (h : ∀ t ∈ ts, Bd k t) : Bd k (.tuple ts) := bdL_iff.mpr h
theorem bd_lst {k : Nat} {ts : List D} (h : ∀ t ∈ ts, Bd k t) : Bd k (.list ts) := bdL_iff.mpr h
theorem bd_q {k j : Nat} {q : Rat} (h : Sq j q) (hk : j ≤ k) : Bd k (fq q) := bd_fq (h.mono hk)
theorem bd_eT {k j : Nat} {e : E3} (h : SqE j e) (hk : j ≤ k) : Bd k (eT e) := bd_tup fun t ht => by
  simp at ht
  rcases ht with rfl | rfl | rfl
  · exact bd_q h.a hk
  · exact bd_q h.b hk
  · exact bd_q h.c hk
theorem bd_lT {k j : Nat} {es : List E3} (h : ∀ e ∈ es, SqE j e) (hk : j ≤ k) : Bd k (lT es) := bd_tup fun t ht => by
  obtain ⟨e, he, rfl⟩ := List.mem_map.mp ht
  exact bd_eT (h e he) hk
theorem SqP.mono {j k : Nat} {p : P2} (h : SqP j p) (hk : j ≤ k) : SqP k p := ⟨h.x.mono hk, h.y.mono hk⟩
theorem SqE.mono {j k : Nat} {e : E3} (h : SqE j e) (hk : j ≤ k) : SqE k e := ⟨h.a.mono hk, h.b.mono hk, h.c.mono hk⟩
theorem SzL.mono {j k : Nat} {l : L3} (h : SzL j l) (hk : j ≤ k) : SzL k l := ⟨h.1.mono hk, h.2.1.mono hk, h.2.2.mono hk⟩
end Mi
namespace Mi
open PySem PySem.Spec PyProof.Rows L2

/-! ### what a meaning leads to: one rule a construct -/
structure WE (d : De) (ρ : Rho) (w : Ws) (Q : D → Ws → Prop) : Prop where
  h : ∃ t w', d ρ w = some (t, w') ∧ Q t w'
structure WA (r : Da) (ρ : Rho) (w : Ws) (Q : List D → Ws → Prop) : Prop where
  h : ∃ t w', r ρ w = some (t, w') ∧ Q t w'
structure WT (c : Dt) (ρ : Rho) (w : Ws) (Q : Bool → Ws → Prop) : Prop where
  h : ∃ t w', c ρ w = some (t, w') ∧ Q t w'
structure WS (s : Sm) (ρ : Rho) (w : Ws) (Q : Fl → Rho → Ws → Prop) : Prop where
  h : ∃ fl ρ' w', s ρ w = some (fl, ρ', w') ∧ Q fl ρ' w'
structure WF (g : Tg) (b : Sm) (xs : List D) (ρ : Rho) (w : Ws) (Q : Fl → Rho → Ws → Prop) : Prop where
  h : ∃ fl ρ' w', forGo g b xs ρ w = some (fl, ρ', w') ∧ Q fl ρ' w'
structure WW (n : Nat) (c : Dt) (b : Sm) (ρ : Rho) (w : Ws) (Q : Fl → Rho → Ws → Prop) : Prop where
  h : ∃ fl ρ' w', whileGo c b n ρ w = some (fl, ρ', w') ∧ Q fl ρ' w'
structure WG (g : Tg) (t : D) (ρ : Rho) (Q : Rho → Prop) : Prop where
  h : ∃ ρ', g t ρ = some ρ' ∧ Q ρ'
structure WGs (g : Tgs) (ts : List D) (ρ : Rho) (Q : Rho → Prop) : Prop where
  h : ∃ ρ', g ts ρ = some ρ' ∧ Q ρ'
structure WO {α : Type} (o : Option α) (Q : α → Prop) : Prop where
  h : ∃ x, o = some x ∧ Q x
structure WC (ρ0 : Rho) (g : Tg) (c : Dt) (e : De) (xs : List D) (w : Ws) (Q : List D → Ws → Prop) : Prop where
  h : ∃ ts w', compGo ρ0 g c e xs w = some (ts, w') ∧ Q ts w'
structure Call (F : List D → Option D) (ts : List D) (Q : D → Prop) : Prop where
  h : ∃ z, F ts = some z ∧ Q z
structure CallW (F : List D → Ws → Option (D × Ws)) (ts : List D) (w : Ws) (Q : D → Ws → Prop) : Prop where
  h : ∃ z w', F ts w = some (z, w') ∧ Q z w'
inductive SeqK (b : Sm) (Q : Fl → Rho → Ws → Prop) : Fl → Rho → Ws → Prop
  | nx {ρ : Rho} {w : Ws} (h : WS b ρ w Q) : SeqK b Q .nx ρ w
  | rt {t : D} {ρ : Rho} {w : Ws} (h : Q (.rt t) ρ w) : SeqK b Q (.rt t) ρ w
  | bk {ρ : Rho} {w : Ws} (h : Q .bk ρ w) : SeqK b Q .bk ρ w
  | ct {ρ : Rho} {w : Ws} (h : Q .ct ρ w) : SeqK b Q .ct ρ w
inductive RetK (P : D → Prop) : Fl → Rho → Ws → Prop
  | rt {t : D} {ρ : Rho} {w : Ws} (h : P t) : RetK P (.rt t) ρ w
  | nx {ρ : Rho} {w : Ws} (h : P .none) : RetK P .nx ρ w
inductive RetW (P : D → Ws → Prop) : Fl → Rho → Ws → Prop
  | rt {t : D} {ρ : Rho} {w : Ws} (h : P t w) : RetW P (.rt t) ρ w
  | nx {ρ : Rho} {w : Ws} (h : P .none w) : RetW P .nx ρ w
inductive TurnK (I : Rho → Ws → Prop) (Q : Fl → Rho → Ws → Prop) : Fl → Rho → Ws → Prop
  | nx {ρ : Rho} {w : Ws} (h : I ρ w) : TurnK I Q .nx ρ w
  | ct {ρ : Rho} {w : Ws} (h : I ρ w) : TurnK I Q .ct ρ w
  | bk {ρ : Rho} {w : Ws} (h : Q .nx ρ w) : TurnK I Q .bk ρ w
  | rt {t : D} {ρ : Rho} {w : Ws} (h : Q (.rt t) ρ w) : TurnK I Q (.rt t) ρ w
structure SetK (i : Nat) (c : Option Cl) (ρ : Rho) (K : Rho → Prop) : Prop where
  l : i < ρ.length
  h : K (ρ.set i c)
structure WipeK (vs : List Nat) (ρ : Rho) (K : Rho → Prop) : Prop where
  h : K (wipeR ρ vs)
structure SetW (m : Nat) (z : Int) (w : Ws) (K : Ws → Prop) : Prop where
  l : m < w.length
  h : K (w.set m z)
structure Fits (n : Nat) (P : Prop) : Prop where
  l : n ≤ 100000
  h : P
inductive IsL (K : List D → Prop) : D → Prop
  | mk {ts : List D} (h : K ts) : IsL K (.list ts)
inductive IsI (K : Int → Prop) : D → Prop
  | mk {z : Int} (h : K z) : IsI K (.int z)
inductive Is1 (K : D → Prop) : List D → Prop
  | mk {t : D} (h : K t) : Is1 K [t]
inductive Is2 (K : D → D → Prop) : List D → Prop
  | mk {t u : D} (h : K t u) : Is2 K [t, u]
inductive Is3 (K : D → D → D → Prop) : List D → Prop
  | mk {t u v : D} (h : K t u v) : Is3 K [t, u, v]
inductive IsP (K : Int → D → Prop) : D → Prop
  | mk {z : Int} {t : D} (h : K z t) : IsP K (.tuple [.int z, t])
inductive IsX (K : List D → Prop) : D → Prop
  | l {ts : List D} (h : K ts) : IsX K (.list ts)
  | t {ts : List D} (h : K ts) : IsX K (.tuple ts)
structure OwnAt (i : Nat) (ρ : Rho) (K : List D → Prop) : Prop where
  h : ∃ ts, ρ[i]? = some (some (.own ts)) ∧ K ts
theorem IsX.out {K : List D → Prop} {t : D} (h : IsX K t) : ∃ xs, itemsOf t = some xs ∧ K xs := by
  cases h with
  | l h => exact ⟨_, rfl, h⟩
  | t h => exact ⟨_, rfl, h⟩
theorem IsX.of {K : List D → Prop} {t : D} {xs : List D} (e : itemsOf t = some xs) (h : K xs) : IsX K t := by
  cases t with
  | list ys => cases e; exact .l h
  | tuple ys => cases e; exact .t h
  | _ => cases e
structure Br (b : Bool) (A B : Prop) : Prop where
  t : b = true → A
  f : b = false → B
section
variable {a b s : Sm} {ρ ρ1 : Rho} {w w1 : Ws} {t u : D} {ts xs : List D} {n N i j k : Nat} {it r : Da} {g : Tg} {gs : Tgs} {c c2 : Dt} {d e x y da db : De}
variable {Q : D → Ws → Prop} {QA : List D → Ws → Prop} {QT : Bool → Ws → Prop} {QS : Fl → Rho → Ws → Prop} {QG : Rho → Prop} {K : Rho → Prop}
theorem we_var (h : ρ[i]? = some (some (.val t))) (q : Q t w) : WE (dVar i) ρ w Q := ⟨t, w, by unfold dVar; rw [h], q⟩
theorem we_pkV (h : ρ[i]? = some (some (.val t))) (q : Q t w) : WE (dPeek i) ρ w Q := ⟨t, w, by unfold dPeek; rw [h], q⟩
theorem we_pkO (h : ρ[i]? = some (some (.own ts))) (q : Q (.list ts) w) : WE (dPeek i) ρ w Q := ⟨.list ts, w, by unfold dPeek; rw [h], q⟩
theorem we_c (q : Q t w) : WE (dC t) ρ w Q := ⟨t, w, rfl, q⟩
theorem we_un {f : D → Option D} (h : WE d ρ w fun t w1 => WO (f t) fun x => Q x w1) : WE (dUn f d) ρ w Q := by
  obtain ⟨t, w1, e, z, e2, q⟩ := h
  exact ⟨z, w1, un_eq e e2, q⟩
theorem we_bin {f : D → D → Option D} (h : WE da ρ w fun t w1 => WE db ρ w1 fun u w2 => WO (f t u) fun x => Q x w2) : WE (dBin f da db) ρ w Q := by
  obtain ⟨t, w1, e, u, w2, e2, z, e3, q⟩ := h
  exact ⟨z, w2, bin_eq e e2 e3, q⟩
theorem we_binF {f : D → D → Option (List D)} (h : WE da ρ w fun t w1 => WE db ρ w1 fun u w2 => WO (f t u) fun x => Q (.list x) w2) : WE (dBinF f da db) ρ w Q := by
  obtain ⟨t, w1, e, u, w2, e2, z, e3, q⟩ := h
  exact ⟨.list z, w2, bin_eq e e2 (by show (f t u).map PyData.list = _; rw [e3]; rfl), q⟩
theorem we_pri {f : List D → Option D} (h : WA r ρ w fun ts w1 => WO (f ts) fun x => Q x w1) : WE (dPri f r) ρ w Q := by
  obtain ⟨t, w1, e, z, e2, q⟩ := h
  exact ⟨z, w1, pri_eq e e2, q⟩
theorem we_tup (h : WA r ρ w fun ts w1 => Fits ts.length (Q (.tuple ts) w1)) : WE (dTup r) ρ w Q := by
  obtain ⟨t, w1, e, l, q⟩ := h
  exact ⟨.tuple t, w1, tup_eq e l, q⟩
theorem we_lst (h : WA r ρ w fun ts w1 => Fits ts.length (Q (.list ts) w1)) : WE (dLst r) ρ w Q := by
  obtain ⟨t, w1, e, l, q⟩ := h
  exact ⟨.list t, w1, lst_eq e l, q⟩
theorem wa_nil (q : QA [] w) : WA dNil ρ w QA := ⟨[], w, rfl, q⟩
theorem wa_cons (h : WE d ρ w fun t w1 => WA r ρ w1 fun ts w2 => QA (t :: ts) w2) : WA (dCons d r) ρ w QA := by
  obtain ⟨t, w1, e, ts, w2, e2, q⟩ := h
  exact ⟨t :: ts, w2, cons_eq e e2, q⟩
theorem we_if (h : WT c ρ w fun b w1 => Br b (WE x ρ w1 Q) (WE y ρ w1 Q)) : WE (dIf c x y) ρ w Q := by
  obtain ⟨t, w1, e, ⟨h1, h2⟩⟩ := h
  refine ⟨?_⟩
  unfold dIf
  rw [e]
  cases t with
  | true => exact (h1 rfl).h
  | false => exact (h2 rfl).h
theorem we_andV (h : WE x ρ w fun t w1 => WO (asBool t) fun b => Br b (WE y ρ w1 Q) (Q (.bool false) w1)) : WE (dAndV x y) ρ w Q := by
  obtain ⟨t, w1, e, b, e2, ⟨h1, h2⟩⟩ := h
  refine ⟨?_⟩
  unfold dAndV
  rw [e]
  show ∃ t_1 w', (asBool t).bind _ = _ ∧ _
  rw [e2]
  cases b with
  | true => exact (h1 rfl).h
  | false => exact ⟨_, _, rfl, h2 rfl⟩
theorem we_orV (h : WE x ρ w fun t w1 => WO (asBool t) fun b => Br b (Q (.bool true) w1) (WE y ρ w1 Q)) : WE (dOrV x y) ρ w Q := by
  obtain ⟨t, w1, e, b, e2, ⟨h1, h2⟩⟩ := h
  refine ⟨?_⟩
  unfold dOrV
  rw [e]
  show ∃ t_1 w', (asBool t).bind _ = _ ∧ _
  rw [e2]
  cases b with
  | true => exact ⟨_, _, rfl, h1 rfl⟩
  | false => exact (h2 rfl).h
theorem we_notV (h : WE x ρ w fun t w1 => WO (asBool t) fun b => Q (.bool (!b)) w1) : WE (dNotV x) ρ w Q := by
  obtain ⟨t, w1, e, b, e2, q⟩ := h
  refine ⟨?_⟩
  unfold dNotV
  rw [e]
  show ∃ t_1 w', (asBool t).map _ = _ ∧ _
  rw [e2]
  exact ⟨_, _, rfl, q⟩
theorem we_chain {f f' : D → D → Option D} (h : WE da ρ w fun t w1 => WE db ρ w1 fun u w2 => WO (f t u) fun z => WO (asBool z) fun b => Br b (WE d ρ w2 fun v w3 => WO (f' u v) fun x => Q x w3) (Q (.bool false) w2)) : WE (dChain f f' da db d) ρ w Q := by
  obtain ⟨t, w1, e, u, w2, e2, z, e3, b, e4, ⟨h1, h2⟩⟩ := h
  refine ⟨?_⟩
  unfold dChain
  rw [e]
  show ∃ t_1 w', (db ρ w1).bind _ = _ ∧ _
  rw [e2]
  show ∃ t_1 w', (f t u).bind _ = _ ∧ _
  rw [e3]
  show ∃ t_1 w', (asBool z).bind _ = _ ∧ _
  rw [e4]
  cases b with
  | true =>
    obtain ⟨v, w3, e5, y, e6, q⟩ := h1 rfl
    refine ⟨y, w3, ?_, q⟩
    show (d ρ w2).bind _ = _
    rw [e5]
    show (f' u v).map _ = _
    rw [e6]
    rfl
  | false => exact ⟨_, _, rfl, h2 rfl⟩
theorem we_well {z : Int} (h : ρ[i]? = some (some .well)) (h2 : w[j]? = some z) (q : Q (.int z) w) : WE (dWell i j) ρ w Q := ⟨.int z, w, by unfold dWell; rw [h]; show (w[j]?).map _ = _; rw [h2]; rfl, q⟩
theorem call_of {F : List D → Option D} {ts : List D} {z : D} {P : D → Prop} (e : F ts = some z) (q : P z) : Call F ts P := ⟨z, e, q⟩
theorem callw_of {F : List D → Ws → Option (D × Ws)} {ts : List D} {z : D} {w' : Ws} {P : D → Ws → Prop} (e : F ts w = some (z, w')) (q : P z w') : CallW F ts w P := ⟨z, w', e, q⟩
theorem we_callP {F : List D → Option D} (h : WA r ρ w fun ts w1 => Call F ts fun x => Q x w1) : WE (dCallP F r) ρ w Q := by
  obtain ⟨t, w1, e, z, e2, q⟩ := h
  exact ⟨z, w1, callP_eq e e2, q⟩
theorem we_callK {F : List D → Option D} {π : List Nat} (h : WA r ρ w fun ts w1 => Call F (perm π ts) fun x => Q x w1) : WE (dCallK π F r) ρ w Q := by
  obtain ⟨t, w1, e, z, e2, q⟩ := h
  exact ⟨z, w1, callK_eq e e2, q⟩
theorem we_callW {F : List D → Ws → Option (D × Ws)} (hi : ρ[i]? = some (some .well)) (h : WA r ρ w fun ts w1 => CallW F ts w1 Q) : WE (dCallW i F r) ρ w Q := by
  obtain ⟨t, w1, e, z, w2, e2, q⟩ := h
  exact ⟨z, w2, callW_eq hi e e2, q⟩
theorem wa_app {rk : Da} (h : WA r ρ w fun ts w1 => WA rk ρ w1 fun us w2 => QA (ts ++ us) w2) : WA (dApp r rk) ρ w QA := by
  obtain ⟨t, w1, e, u, w2, e2, q⟩ := h
  refine ⟨t ++ u, w2, ?_, q⟩
  unfold dApp
  rw [e]
  show (rk ρ w1).map _ = _
  rw [e2]
  rfl
theorem wipe_nil (h : K ρ) : WipeK [] ρ K := ⟨h⟩
theorem wipe_cons {v : Nat} {vs : List Nat} (h : WipeK vs ρ fun ρ1 => SetK v none ρ1 K) : WipeK (v :: vs) ρ K := ⟨h.h.h⟩
theorem we_comp {vs : List Nat} (h : WA it ρ w fun xs w1 => Fits xs.length (WipeK vs ρ fun ρ0 => WC ρ0 g c e xs w1 fun ts w2 => Q (.list ts) w2)) : WE (dComp vs it g c e) ρ w Q := by
  obtain ⟨xs, w1, e1, l, ⟨ts, w2, e2, q⟩⟩ := h
  refine ⟨.list ts, w2, ?_, q⟩
  unfold dComp
  rw [e1]
  show (if xs.length ≤ 100000 then _ else none) = _
  rw [if_pos l, e2]
  rfl
theorem wt_tr (h : WE d ρ w fun t w1 => WO (truth t) fun b => QT b w1) : WT (dTr d) ρ w QT := by
  obtain ⟨t, w1, e, b, e2, q⟩ := h
  exact ⟨b, w1, tr_eq e e2, q⟩
theorem wt_not (h : WT c ρ w fun b w1 => QT (!b) w1) : WT (dNot c) ρ w QT := by
  obtain ⟨t, w1, e, q⟩ := h
  exact ⟨!t, w1, by unfold dNot; rw [e]; rfl, q⟩
theorem wt_and (h : WT c ρ w fun b w1 => Br b (WT c2 ρ w1 QT) (QT false w1)) : WT (dAnd c c2) ρ w QT := by
  obtain ⟨t, w1, e, ⟨h1, h2⟩⟩ := h
  refine ⟨?_⟩
  unfold dAnd
  rw [e]
  cases t with
  | true => exact (h1 rfl).h
  | false => exact ⟨_, _, rfl, h2 rfl⟩
theorem wt_or (h : WT c ρ w fun b w1 => Br b (QT true w1) (WT c2 ρ w1 QT)) : WT (dOr c c2) ρ w QT := by
  obtain ⟨t, w1, e, ⟨h1, h2⟩⟩ := h
  refine ⟨?_⟩
  unfold dOr
  rw [e]
  cases t with
  | true => exact ⟨_, _, rfl, h1 rfl⟩
  | false => exact (h2 rfl).h
theorem wt_yes (q : QT true w) : WT dYes ρ w QT := ⟨true, w, rfl, q⟩
/-! statements -/
theorem ws_skip (q : QS .nx ρ w) : WS sSkip ρ w QS := ⟨_, _, _, rfl, q⟩
theorem ws_seq (h : WS a ρ w (SeqK b QS)) : WS (sSeq a b) ρ w QS := by
  obtain ⟨fl, ρ1, w1, e, q⟩ := h
  cases q with
  | nx q =>
    obtain ⟨fl2, ρ2, w2, e2, q2⟩ := q
    exact ⟨fl2, ρ2, w2, by rw [seq_nx e]; exact e2, q2⟩
  | rt q => exact ⟨_, _, _, seq_rt e, q⟩
  | bk q => exact ⟨_, _, _, by unfold sSeq; rw [e]; rfl, q⟩
  | ct q => exact ⟨_, _, _, by unfold sSeq; rw [e]; rfl, q⟩
theorem ws_asg (h : WE d ρ w fun t w1 => WG g t ρ fun ρ1 => QS .nx ρ1 w1) : WS (sAsg g d) ρ w QS := by
  obtain ⟨t, w1, e, ρ1, e2, q⟩ := h
  exact ⟨_, _, _, asg_eq e e2, q⟩
theorem wg_nm (h : SetK i (some (.val t)) ρ K) : WG (gNm i) t ρ K := ⟨_, by unfold gNm; rw [if_pos h.l], h.h⟩
theorem wg_tup (h : WGs gs ts ρ K) : WG (gTp gs) (.tuple ts) ρ K := ⟨h.h⟩
theorem wg_lst (h : WGs gs ts ρ K) : WG (gTp gs) (.list ts) ρ K := ⟨h.h⟩
theorem wgs_nil (h : K ρ) : WGs gN [] ρ K := ⟨ρ, rfl, h⟩
theorem wgs_cons (h : WG g t ρ fun ρ1 => WGs gs ts ρ1 K) : WGs (gC g gs) (t :: ts) ρ K := by
  obtain ⟨ρ1, e, ρ2, e2, q⟩ := h
  exact ⟨ρ2, by show (g t ρ).bind _ = _; rw [e]; exact e2, q⟩
theorem ws_own (h : WE d ρ w fun t w1 => IsL (fun ts => SetK i (some (.own ts)) ρ fun ρ1 => QS .nx ρ1 w1) t) : WS (sOwn i d) ρ w QS := by
  obtain ⟨t, w1, e, q⟩ := h
  cases q with
  | mk q => exact ⟨_, _, _, own_eq e q.l, q.h⟩
theorem ws_fz (h : WS s (frz i ρ) w QS) : WS (sFz i s) ρ w QS := ⟨h.h⟩
theorem ws_if (h : WT c ρ w fun t w1 => Br t (WS a ρ w1 QS) (WS b ρ w1 QS)) : WS (sIf c a b) ρ w QS := by
  obtain ⟨t, w1, e, ⟨h1, h2⟩⟩ := h
  refine ⟨?_⟩
  cases t with
  | true => rw [if_t e]; exact (h1 rfl).h
  | false => rw [if_f e]; exact (h2 rfl).h
theorem ws_ret (h : WE d ρ w fun t w1 => QS (.rt t) ρ w1) : WS (sRet d) ρ w QS := by
  obtain ⟨t, w1, e, q⟩ := h
  exact ⟨_, _, _, ret_eq e, q⟩
theorem ws_drop (h : WE d ρ w fun t w1 => QS .nx ρ w1) : WS (sDrop d) ρ w QS := by
  obtain ⟨t, w1, e, q⟩ := h
  exact ⟨_, _, _, by unfold sDrop; rw [e]; rfl, q⟩
theorem ws_brk (q : QS .bk ρ w) : WS sBrk ρ w QS := ⟨_, _, _, rfl, q⟩
theorem ws_cnt (q : QS .ct ρ w) : WS sCnt ρ w QS := ⟨_, _, _, rfl, q⟩
theorem ownat (h : ρ[i]? = some (some (.own ts))) {K : List D → Prop} (q : K ts) : OwnAt i ρ K := ⟨_, h, q⟩
theorem fits {P : Prop} (h : n ≤ 100000) (q : P) : Fits n P := ⟨h, q⟩
theorem ws_app (h : WE d ρ w fun t w1 => OwnAt i ρ fun ts => Fits (ts.length + 1) (SetK i (some (.own (ts ++ [t]))) ρ fun ρ1 => QS .nx ρ1 w1)) : WS (sApp i d) ρ w QS := by
  obtain ⟨t, w1, e, ts, hi, hl, q⟩ := h
  exact ⟨_, _, _, app_eq e hi (by omega), q.h⟩
theorem ws_setI {di : De} (h : WE d ρ w fun t w1 => WE di ρ w1 fun z w2 => IsI (fun m => OwnAt i ρ fun ts => WO (ixN ts.length m) fun j => SetK i (some (.own (ts.set j t))) ρ fun ρ1 => QS .nx ρ1 w2) z) : WS (sSetI i di d) ρ w QS := by
  obtain ⟨t, w1, e, z, w2, e2, q⟩ := h
  cases q with
  | @mk m q =>
  obtain ⟨ts, hi, j, hj, q⟩ := q
  refine ⟨_, _, _, ?_, q.h⟩
  unfold sSetI
  rw [e]
  show (di ρ w1).bind _ = _
  rw [e2]
  show (match ρ[i]? with
    | some (some (.own ts)) => (asInt (.int m)).bind fun k => (ixN ts.length k).map fun j => (Fl.nx, ρ.set i (some (.own (ts.set j t))), w2)
    | _ => none) = _
  rw [hi]
  show (ixN ts.length m).map _ = _
  rw [hj]
  rfl
theorem ws_par2 (h : WA r ρ w fun ts w1 => Is2 (fun t u => SetK i (some (.val t)) ρ fun ρ1 => SetK j (some (.val u)) ρ1 fun ρ2 => QS .nx ρ2 w1) ts) : WS (sPar2 i j r) ρ w QS := by
  obtain ⟨ts, w1, e, q⟩ := h
  cases q with
  | mk q =>
  refine ⟨_, _, _, ?_, q.h.h⟩
  have l2 := q.h.l
  rw [List.length_set] at l2
  unfold sPar2
  rw [e]
  exact if_pos ⟨q.l, l2⟩
theorem ws_par3 (h : WA r ρ w fun ts w1 => Is3 (fun t u v => SetK i (some (.val t)) ρ fun ρ1 => SetK j (some (.val u)) ρ1 fun ρ2 => SetK k (some (.val v)) ρ2 fun ρ3 => QS .nx ρ3 w1) ts) : WS (sPar3 i j k r) ρ w QS := by
  obtain ⟨ts, w1, e, q⟩ := h
  cases q with
  | mk q =>
  refine ⟨_, _, _, ?_, q.h.h.h⟩
  have l2 := q.h.l
  rw [List.length_set] at l2
  have l3 := q.h.h.l
  rw [List.length_set, List.length_set] at l3
  unfold sPar3
  rw [e]
  exact if_pos ⟨q.l, l2, l3⟩
theorem ws_parO (h : WE da ρ w fun t w1 => WE db ρ w1 fun u w2 => IsL (fun ts => SetK i (some (.val t)) ρ fun ρ1 => SetK j (some (.own ts)) ρ1 fun ρ2 => QS .nx ρ2 w2) u) : WS (sParO i j da db) ρ w QS := by
  obtain ⟨t, w1, e, u, w2, e2, q⟩ := h
  cases q with
  | mk q =>
  refine ⟨_, _, _, ?_, q.h.h⟩
  have l2 := q.h.l
  rw [List.length_set] at l2
  unfold sParO
  rw [e]
  show (db ρ w1).bind _ = _
  rw [e2]
  exact if_pos ⟨q.l, l2⟩
theorem setw0 {z0 z : Int} {w : Ws} {K : Ws → Prop} (h : K (z :: w)) : SetW 0 z (z0 :: w) K := ⟨by simp, h⟩
theorem setw1 {z0 z1 z : Int} {w : Ws} {K : Ws → Prop} (h : K (z0 :: z :: w)) : SetW 1 z (z0 :: z1 :: w) K := ⟨by simp, h⟩
theorem setw2 {z0 z1 z2 z : Int} {w : Ws} {K : Ws → Prop} (h : K (z0 :: z1 :: z :: w)) : SetW 2 z (z0 :: z1 :: z2 :: w) K := ⟨by simp, h⟩
theorem ws_wset {m : Nat} (hi : ρ[i]? = some (some .well)) (h : WE d ρ w fun t w1 => IsI (fun z => SetW m z w1 fun w2 => QS .nx ρ w2) t) : WS (sWset i m d) ρ w QS := by
  obtain ⟨t, w1, e, q⟩ := h
  cases q with
  | @mk z q =>
  refine ⟨_, _, _, ?_, q.h⟩
  unfold sWset
  rw [e]
  show (match ρ[i]? with
    | some (some .well) => (asInt (.int z)).bind fun z => if m < w1.length then some (Fl.nx, ρ, w1.set m z) else none
    | _ => none) = _
  rw [hi]
  exact if_pos q.l
theorem ws_wpair {m : Nat} (hi : ρ[i]? = some (some .well)) (h : WE d ρ w fun t w1 => IsP (fun z u => SetK j (some (.val u)) ρ fun ρ1 => SetW m z w1 fun w2 => QS .nx ρ1 w2) t) : WS (sWpair i m j d) ρ w QS := by
  obtain ⟨t, w1, e, q⟩ := h
  cases q with
  | @mk z u q =>
  refine ⟨_, _, _, ?_, q.h.h⟩
  unfold sWpair
  rw [e]
  show (match ρ[i]?, (PyData.tuple [.int z, u] : D) with
    | some (some .well), .tuple [.int z, t] => if m < w1.length ∧ j < ρ.length then some (Fl.nx, ρ.set j (some (.val t)), w1.set m z) else none
    | _, _ => none) = _
  rw [hi]
  exact if_pos ⟨q.h.l, q.l⟩
theorem ws_for (h : WA it ρ w fun xs w1 => WF g s xs ρ w1 QS) : WS (sFor it g s) ρ w QS := by
  obtain ⟨xs, w1, e, fl, ρ1, w2, e2, q⟩ := h
  exact ⟨fl, ρ1, w2, by rw [for_eq e]; exact e2, q⟩
theorem wf_nil (q : QS .nx ρ w) : WF g s [] ρ w QS := ⟨_, _, _, rfl, q⟩
theorem wf_cons (h : WG g t ρ fun ρ1 => WS s ρ1 w (TurnK (fun ρ2 w2 => WF g s ts ρ2 w2 QS) QS)) : WF g s (t :: ts) ρ w QS := by
  obtain ⟨ρ1, e, fl, ρ2, w2, e2, q⟩ := h
  refine ⟨?_⟩
  unfold forGo
  rw [e]
  show ∃ fl ρ' w', (s ρ1 w).bind _ = _ ∧ _
  rw [e2]
  cases q with
  | nx q => exact q.h
  | ct q => exact q.h
  | bk q => exact ⟨_, _, _, rfl, q⟩
  | rt q => exact ⟨_, _, _, rfl, q⟩
theorem wf_inv {α : Type} {F : α → D} (I : List α → Rho → Ws → Prop) : ∀ {as : List α} {ρ : Rho} {w : Ws}, I as ρ w → (∀ a as ρ w, I (a :: as) ρ w → WG g (F a) ρ fun ρ1 => WS s ρ1 w (TurnK (I as) QS)) → (∀ ρ w, I [] ρ w → QS .nx ρ w) → WF g s (as.map F) ρ w QS
  | [], ρ, w, h0, _, hd => wf_nil (hd ρ w h0)
  | a :: as, ρ, w, h0, hs, hd => by
    refine wf_cons ?_
    obtain ⟨ρ1, e, fl, ρ2, w2, e2, q⟩ := hs a as ρ w h0
    refine ⟨ρ1, e, fl, ρ2, w2, e2, ?_⟩
    cases q with
    | nx q => exact .nx (wf_inv I q hs hd)
    | ct q => exact .ct (wf_inv I q hs hd)
    | bk q => exact .bk q
    | rt q => exact .rt q
theorem ws_while {m : Nat} (h : WW m c s ρ w QS) : WS (sWhile m c s) ρ w QS := ⟨h.h⟩
theorem ww_inv (I : Nat → Rho → Ws → Prop) (hs : ∀ m ρ w, I m ρ w → WT c ρ w fun t w1 => Br t (WS s ρ w1 (TurnK (fun ρ2 w2 => ∃ m', m' < m ∧ I m' ρ2 w2) QS)) (QS .nx ρ w1)) : ∀ {m fuel : Nat} {ρ : Rho} {w : Ws}, m < fuel → I m ρ w → WW fuel c s ρ w QS
  | m, 0, ρ, w, hm, _ => absurd hm (Nat.not_lt_zero m)
  | m, fuel + 1, ρ, w, hm, h0 => by
    obtain ⟨t, w1, e, ⟨h1, h2⟩⟩ := hs m ρ w h0
    refine ⟨?_⟩
    unfold whileGo
    rw [e]
    cases t with
    | false => exact ⟨_, _, _, rfl, h2 rfl⟩
    | true =>
      obtain ⟨fl, ρ2, w2, e2, q⟩ := h1 rfl
      show ∃ fl ρ' w', (s ρ w1).bind _ = _ ∧ _
      rw [e2]
      cases q with
      | nx q =>
        obtain ⟨m', hm', q⟩ := q
        exact (ww_inv I hs (by omega) q).h
      | ct q =>
        obtain ⟨m', hm', q⟩ := q
        exact (ww_inv I hs (by omega) q).h
      | bk q => exact ⟨_, _, _, rfl, q⟩
      | rt q => exact ⟨_, _, _, rfl, q⟩
/-! defs -/
theorem wo_defP {P : D → Prop} (hl : ts.length = n) (h : WS s (rho0 N ts) [] (RetK P)) : WO (defP n N s ts) P := by
  obtain ⟨fl, ρ1, w1, e, q⟩ := h
  cases q with
  | rt q => exact ⟨_, defP_rt e hl, q⟩
  | nx q => exact ⟨.none, defP_nx e hl, q⟩
theorem wo_defW {P : D × Ws → Prop} (hl : ts.length = n) (h : WS s (some .well :: rho0 N ts) w (RetW fun t w' => P (t, w'))) : WO (defW n N s ts w) P := by
  obtain ⟨fl, ρ1, w1, e, q⟩ := h
  cases q with
  | rt q => exact ⟨_, defW_rt e hl, q⟩
  | nx q => exact ⟨_, defW_nx e hl, q⟩
/-! iterables -/
theorem wa_items (h : WE d ρ w fun t w1 => IsX (fun xs => QA xs w1) t) : WA (dItems d) ρ w QA := by
  obtain ⟨t, w1, e, q⟩ := h
  cases q with
  | l q => exact ⟨_, w1, dItems_l e, q⟩
  | t q => exact ⟨_, w1, dItems_t e, q⟩
theorem wa_rng1 (h : WA r ρ w fun ts w1 => ∃ n : Nat, ts = [.int n] ∧ n ≤ 1000000 ∧ QA ((List.range n).map fun k => .int (k : Nat)) w1) : WA (dRng1 r) ρ w QA := by
  obtain ⟨ts, w1, e, n, rfl, hn, q⟩ := h
  refine ⟨_, w1, dRng1_eq e (by omega) (by omega), ?_⟩
  unfold rangeL
  simpa using q
theorem rok_ok {z : Int} (h0 : 0 ≤ z) (h1 : z ≤ 1000000) : rOk z = true := decide_eq_true ⟨by omega, by omega⟩
theorem rng2_eq {z z2 : Int} (h : r ρ w = some ([.int z, .int z2], w1)) (h3 : (rOk z && rOk z2) = true) : dRng2 r ρ w = some (rangeL z z2, w1) := by
  unfold dRng2
  simp only [h, Option.bind_some, h3, if_true]
theorem wa_rng2 (h : WA r ρ w fun ts w1 => ∃ m n : Nat, ts = [.int m, .int n] ∧ m ≤ 1000000 ∧ n ≤ 1000000 ∧ QA ((List.range (n - m)).map fun k => .int ((m + k : Nat) : Int)) w1) : WA (dRng2 r) ρ w QA := by
  obtain ⟨ts, w1, e, m, n, rfl, hm, hn, q⟩ := h
  have key : dRng2 r ρ w = some (rangeL m n, w1) := rng2_eq e (by rw [rok_ok (z := (m : Int)) (by omega) (by omega), rok_ok (z := (n : Int)) (by omega) (by omega)]; rfl)
  refine ⟨_, w1, key.trans ?_, q⟩
  unfold rangeL
  rw [show ((n : Int) - (m : Int)).toNat = n - m by omega]
  congr 2
theorem wa_zp (h : WA r ρ w fun ts w1 => Is2 (fun t u => IsX (fun xs => IsX (fun ys => QA (zipL xs ys) w1) u) t) ts) : WA (dZp r) ρ w QA := by
  obtain ⟨ts, w1, e, q⟩ := h
  cases q with
  | @mk t u q =>
  obtain ⟨xs, e1, q⟩ := q.out
  obtain ⟨ys, e2, q⟩ := q.out
  refine ⟨_, w1, ?_, q⟩
  unfold dZp
  rw [e]
  show (itemsOf t).bind _ = _
  rw [e1]
  show (itemsOf u).map _ = _
  rw [e2]
  rfl
theorem wa_en {k0 : Int} (h : WA r ρ w fun ts w1 => Is1 (fun t => IsX (fun xs => QA (enumL k0 xs) w1) t) ts) : WA (dEn k0 r) ρ w QA := by
  obtain ⟨ts, w1, e, q⟩ := h
  cases q with
  | @mk t q =>
  obtain ⟨xs, e1, q⟩ := q.out
  refine ⟨_, w1, ?_, q⟩
  unfold dEn
  rw [e]
  show (itemsOf t).map _ = _
  rw [e1]
  rfl
theorem zipL_map {α β : Type} (F : α → D) (G : β → D) (as : List α) (bs : List β) : zipL (as.map F) (bs.map G) = (as.zip bs).map fun q => .tuple [F q.1, G q.2] := by
  unfold zipL
  rw [List.zip_map, List.map_map]
  rfl
theorem enumL_map {α : Type} (F : α → D) (k0 : Int) (as : List α) : enumL k0 (as.map F) = (as.zip (List.range as.length)).map fun q => .tuple [.int (k0 + (q.2 : Nat)), F q.1] := by
  unfold enumL
  rw [List.length_map, List.zip_map_left, List.map_map]
  rfl
/-! comprehensions -/
theorem wc_map {α : Type} {F : α → D} (G : α → D) {as : List α} (hx : xs = as.map F) (h : ∀ z ∈ as, WG g (F z) ρ fun ρ1 => WE e ρ1 w fun t w1 => t = G z ∧ w1 = w) (q : QA (as.map G) w) : WC ρ g dYes e xs w QA := by
  subst hx
  refine ⟨_, w, ?_, q⟩
  clear q
  induction as with
  | nil => rfl
  | cons z as ih =>
    obtain ⟨ρ1, e1, t, w1, e2, rfl, rfl⟩ := h z (List.mem_cons_self ..)
    have ih := ih (fun y hy => h y (List.mem_cons_of_mem _ hy))
    rw [List.map_cons]
    unfold compGo
    rw [e1]
    show (e ρ1 w1).bind _ = _
    rw [e2]
    show (compGo ρ g dYes e (as.map F) w1).map _ = _
    rw [ih]
    rfl
theorem wc_filter {α : Type} {F : α → D} (p : α → Bool) (G : α → D) {as : List α} (hx : xs = as.map F) (h : ∀ z ∈ as, WG g (F z) ρ fun ρ1 => WT c ρ1 w fun b w1 => b = p z ∧ w1 = w ∧ (b = true → WE e ρ1 w fun t w2 => t = G z ∧ w2 = w)) (q : QA ((as.filter p).map G) w) : WC ρ g c e xs w QA := by
  subst hx
  refine ⟨_, w, ?_, q⟩
  clear q
  induction as with
  | nil => rfl
  | cons z as ih =>
    obtain ⟨ρ1, e1, b, w1, e2, hb, rfl, h3⟩ := h z (List.mem_cons_self ..)
    have ih := ih (fun y hy => h y (List.mem_cons_of_mem _ hy))
    rw [List.map_cons]
    unfold compGo
    rw [e1]
    show (c ρ1 w1).bind _ = _
    rw [e2]
    cases b with
    | true =>
      obtain ⟨t, w2, e4, rfl, rfl⟩ := h3 rfl
      show (e ρ1 w2).bind _ = _
      rw [e4]
      show (compGo ρ g c e (as.map F) w2).map _ = _
      rw [ih, List.filter_cons_of_pos hb.symm]
      rfl
    | false =>
      show compGo ρ g c e (as.map F) w1 = _
      rw [ih, List.filter_cons_of_neg (by rw [← hb]; decide)]
/-- drawn items -/
theorem wc_draw {β : Type} (G : β → D) (P : β → Prop) (I : Nat → Ws → Prop) {m : Nat} (hm : xs.length = m) (h0 : I 0 w) (h : ∀ t ∈ xs, ∀ k w, k < m → I k w → WG g t ρ fun ρ1 => WE e ρ1 w fun u w1 => (∃ z, u = G z ∧ P z) ∧ I (k + 1) w1)
    (q : ∀ (bs : List β) (w' : Ws), bs.length = m → (∀ z ∈ bs, P z) → I m w' → QA (bs.map G) w') : WC ρ g dYes e xs w QA := by
  have key : ∀ (xs : List D) (k : Nat) (w : Ws), (∀ t ∈ xs, ∀ k w, k < m → I k w → WG g t ρ fun ρ1 => WE e ρ1 w fun u w1 => (∃ z, u = G z ∧ P z) ∧ I (k + 1) w1) → k + xs.length = m → I k w → ∃ (bs : List β) (w' : Ws), compGo ρ g dYes e xs w = some (bs.map G, w') ∧ bs.length = xs.length ∧ (∀ z ∈ bs, P z) ∧ I m w' := by
    intro xs
    induction xs with
    | nil =>
      intro k w _ hk hi
      have : k = m := by simpa using hk
      subst this
      exact ⟨[], w, rfl, rfl, fun _ h => by simp at h, hi⟩
    | cons t ts ih =>
      intro k w h hk hi
      rw [List.length_cons] at hk
      obtain ⟨ρ1, e1, u, w1, e2, ⟨z, rfl, hz⟩, hi1⟩ := h t (List.mem_cons_self ..) k w (by omega) hi
      obtain ⟨bs, w', e3, l3, p3, i3⟩ := ih (k + 1) w1 (fun y hy => h y (List.mem_cons_of_mem _ hy)) (by omega) hi1
      refine ⟨z :: bs, w', ?_, by simp [l3], fun y hy => ?_, i3⟩
      · unfold compGo
        rw [e1]
        show (e ρ1 w).bind _ = _
        rw [e2]
        show (compGo ρ g dYes e ts w1).map _ = _
        rw [e3]
        rfl
      · rcases List.mem_cons.mp hy with rfl | hy
        · exact hz
        · exact p3 y hy
  obtain ⟨bs, w', e1, l1, p1, i1⟩ := key xs 0 w h (by omega) h0
  exact ⟨_, _, e1, q bs w' (by omega) p1 i1⟩
end
/-! ### which way -/
section
variable {A B : Prop} {p : Prop} [Decidable p]
theorem br_t (h : A) : Br true A B := ⟨fun _ => h, fun z => nomatch z⟩
theorem br_f (h : B) : Br false A B := ⟨fun z => (nomatch z), fun _ => h⟩
theorem br_nt (h : B) : Br (!true) A B := ⟨fun z => (nomatch z), fun _ => h⟩
theorem br_nf (h : A) : Br (!false) A B := ⟨fun _ => h, fun z => nomatch z⟩
theorem br_dt (hp : p) (h : A) : Br (decide p) A B := ⟨fun _ => h, fun z => absurd hp (of_decide_eq_false z)⟩
theorem br_df (hp : ¬ p) (h : B) : Br (decide p) A B := ⟨fun z => absurd (of_decide_eq_true z) hp, fun _ => h⟩
theorem br_ndt (hp : p) (h : B) : Br (!decide p) A B := by rw [decide_eq_true hp]; exact br_nt h
theorem br_ndf (hp : ¬ p) (h : A) : Br (!decide p) A B := by rw [decide_eq_false hp]; exact br_nf h
theorem br_p (h1 : p → A) (h2 : ¬ p → B) : Br (decide p) A B := ⟨fun z => h1 (of_decide_eq_true z), fun z => h2 (of_decide_eq_false z)⟩
theorem br_np (h1 : ¬ p → A) (h2 : p → B) : Br (!decide p) A B := ⟨fun z => h1 (by simpa using z), fun z => h2 (by simpa using z)⟩
theorem br_b {b : Bool} (h1 : b = true → A) (h2 : b = false → B) : Br b A B := ⟨h1, h2⟩
end
/-! ### operations on numbers -/
section
variable {a b : Int} {Q : D → Prop} {ts us : List D} {t : D}
theorem wo_add (q : Q (.int (a + b))) : WO (gAdd (.int a) (.int b)) Q := ⟨_, gAdd_eq, q⟩
theorem wo_sub (q : Q (.int (a - b))) : WO (gSub (.int a) (.int b)) Q := ⟨_, gSub_eq, q⟩
theorem wo_mul (h : mulOk a b = true) (q : Q (.int (a * b))) : WO (gMul (.int a) (.int b)) Q := ⟨_, gMul_eq h, q⟩
theorem wo_mod (h : 0 < b) (q : Q (.int (a % b))) : WO (gMod (.int a) (.int b)) Q := ⟨_, gMod_eq h, q⟩
theorem wo_fdiv (h : 0 < b) (h2 : Sz 9000 b) (q : Q (.int (a / b))) : WO (gFdiv (.int a) (.int b)) Q := ⟨_, gFdiv_eq h h2, q⟩
theorem wo_divmod (h : 0 < b) (h2 : Sz 9000 b) (q : Q (.tuple [.int (a / b), .int (a % b)])) : WO (gDivmod [.int a, .int b]) Q := ⟨_, gDivmod_eq h h2, q⟩
theorem wo_rept {k : Int} (h0 : ts ≠ []) (h : 2 ≤ k ∧ k ≤ 1000 ∧ ts.length ≤ 1000) (q : Q (.tuple (List.replicate k.toNat ts).flatten)) : WO (gMul (.tuple ts) (.int k)) Q := ⟨_, gMul_t h0 h, q⟩
theorem wo_catt (h : ts.length + us.length ≤ 100000) (q : Q (.tuple (ts ++ us))) : WO (gAdd (.tuple ts) (.tuple us)) Q := ⟨_, gAdd_t h, q⟩
theorem wo_catl (h : ts.length + us.length ≤ 100000) (q : Q (.list (ts ++ us))) : WO (gAdd (.list ts) (.list us)) Q := ⟨_, gAdd_l h, q⟩
theorem wo_repl {k : Int} (h : -(2 ^ 62) ≤ k ∧ k < 2 ^ 62 ∧ ts.length * k.toNat ≤ 100000) (q : Q (.list (List.replicate k.toNat ts).flatten)) : WO (gMul (.list ts) (.int k)) Q := ⟨_, by
  show (none : Option D).or (((if decide (-(2 ^ 62) ≤ k ∧ k < 2 ^ 62 ∧ ts.length * k.toNat ≤ 100000) then some (List.replicate k.toNat ts).flatten else none).map PyData.list).or _) = _
  rw [if_pos (decide_eq_true h)]
  rfl, q⟩
theorem wo_rev (q : Q (.tuple ts.reverse)) : WO (gRv (.tuple ts)) Q := ⟨_, rfl, q⟩
theorem wo_lt (q : Q (.bool (decide (a < b)))) : WO (gLt (.int a) (.int b)) Q := ⟨_, gLt_eq, q⟩
theorem wo_le (q : Q (.bool (decide (a ≤ b)))) : WO (gLe (.int a) (.int b)) Q := ⟨_, gLe_eq, q⟩
theorem wo_gt (q : Q (.bool (decide (b < a)))) : WO (gGt (.int a) (.int b)) Q := ⟨_, gGt_eq, q⟩
theorem wo_ge (q : Q (.bool (decide (b ≤ a)))) : WO (gGe (.int a) (.int b)) Q := ⟨_, gGe_eq, q⟩
theorem wo_eq (q : Q (.bool (decide (a = b)))) : WO (gEq (.int a) (.int b)) Q := ⟨_, gEq_eq, by
  have : (a == b) = decide (a = b) := by by_cases h : a = b <;> simp [h]
  rw [this]; exact q⟩
theorem wo_ne (q : Q (.bool (!decide (a = b)))) : WO (gNe (.int a) (.int b)) Q := ⟨_, gNe_eq, by
  have : (a == b) = decide (a = b) := by by_cases h : a = b <;> simp [h]
  rw [this]; exact q⟩
theorem wo_neg (q : Q (.int (-a))) : WO (gNeg (.int a)) Q := ⟨_, gNeg_eq, q⟩
theorem wo_abs (q : Q (.int (a.natAbs : Int))) : WO (gAbs [.int a]) Q := ⟨_, gAbs_eq, q⟩
theorem wo_int (q : Q (.int a)) : WO (gInt [.int a]) Q := ⟨_, gInt_eq, q⟩
theorem wo_gcd (q : Q (.int ((Nat.gcd a.natAbs b.natAbs : Nat) : Int))) : WO (gGcd [.int a, .int b]) Q := ⟨_, gGcd_eq, q⟩
theorem wo_lenl (q : Q (.int ts.length)) : WO (gLen [.list ts]) Q := ⟨_, gLen_l, q⟩
theorem wo_lent (q : Q (.int ts.length)) : WO (gLen [.tuple ts]) Q := ⟨_, gLen_t, q⟩
theorem wo_tupl (q : Q (.tuple ts)) : WO (gTuple [.list ts]) Q := ⟨_, rfl, q⟩
theorem wo_tupt (q : Q (.tuple ts)) : WO (gTuple [.tuple ts]) Q := ⟨_, rfl, q⟩
theorem wo_ixl {i : Nat} (h : ts[i]? = some t) (q : Q t) : WO (gIx (.list ts) (.int i)) Q := ⟨_, gIx_l h, q⟩
theorem wo_ixt {i : Nat} (h : ts[i]? = some t) (q : Q t) : WO (gIx (.tuple ts) (.int i)) Q := ⟨_, gIx_t h, q⟩
theorem wo_ixl0 (q : Q t) : WO (gIx (.list (t :: ts)) (.int 0)) Q := wo_ixl (i := 0) rfl q
theorem wo_ixl1 {x : D} (q : Q t) : WO (gIx (.list (x :: t :: ts)) (.int 1)) Q := wo_ixl (i := 1) rfl q
theorem wo_ixl2 {x y : D} (q : Q t) : WO (gIx (.list (x :: y :: t :: ts)) (.int 2)) Q := wo_ixl (i := 2) rfl q
theorem wo_ixt0 (q : Q t) : WO (gIx (.tuple (t :: ts)) (.int 0)) Q := wo_ixt (i := 0) rfl q
theorem wo_ixt1 {x : D} (q : Q t) : WO (gIx (.tuple (x :: t :: ts)) (.int 1)) Q := wo_ixt (i := 1) rfl q
theorem wo_ixt2 {x y : D} (q : Q t) : WO (gIx (.tuple (x :: y :: t :: ts)) (.int 2)) Q := wo_ixt (i := 2) rfl q
theorem wo_tb {z : Bool} {P : Bool → Prop} (q : P z) : WO (truth (.bool z)) P := ⟨_, rfl, q⟩
theorem wo_ab {z : Bool} {P : Bool → Prop} (q : P z) : WO (asBool (.bool z)) P := ⟨_, rfl, q⟩
theorem wo_of {α : Type} {o : Option α} {z : α} {P : α → Prop} (e : o = some z) (q : P z) : WO o P := ⟨_, e, q⟩
theorem wo_mono {α : Type} {o : Option α} {P P' : α → Prop} (h : WO o P) (k : ∀ z, P z → P' z) : WO o P' := let ⟨z, e, q⟩ := h; ⟨z, e, k z q⟩
theorem wo_eqn {α : Type} {o : Option α} {z : α} (h : WO o fun t => t = z) : o = some z := let ⟨_, e, q⟩ := h; e.trans (by rw [q])
theorem mapM_ints : ∀ ns : List Int, (ns.map fun i => (.int i : D)).mapM asInt = some ns
  | [] => rfl
  | i :: ns => by
    rw [List.map_cons, List.mapM_cons, mapM_ints ns]
    rfl
theorem wo_sum {ns : List Int} (q : Q (.int ns.sum)) : WO (gSum [.list (ns.map fun i => .int i)]) Q := ⟨.int ns.sum, by
  show ((ns.map fun i => (.int i : D)).mapM asInt).map _ = _
  rw [mapM_ints]
  rfl, q⟩
theorem wo_all {α : Type} {as : List α} {p : α → Bool} (q : Q (.bool (as.all p))) : WO (gAll [.list (as.map fun z => .bool (p z))]) Q := ⟨_, by
  have : (as.map fun z => (.bool (p z) : D)) = (as.map fun z => (.bool (p z) : D)) := rfl
  have h : ∀ as : List α, (as.map fun z => (.bool (p z) : D)).mapM asBool = some (as.map p) := by
    intro as
    induction as with
    | nil => rfl
    | cons z as ih => rw [List.map_cons, List.mapM_cons, ih]; rfl
  show ((as.map fun z => (.bool (p z) : D)).mapM asBool).map _ = _
  rw [h]
  rfl, by
  have : ((as.map p).all id) = as.all p := by rw [List.all_map]; rfl
  show Q (.bool ((as.map p).all id))
  rw [this]
  exact q⟩
end
theorem wo_lenx {t : D} {ts : List D} {Q : D → Prop} (e : itemsOf t = some ts) (q : Q (.int ts.length)) : WO (gLen [t]) Q := by
  cases t with
  | list ys => cases e; exact wo_lenl q
  | tuple ys => cases e; exact wo_lent q
  | _ => cases e
theorem wo_ixx {t x : D} {ts : List D} {i : Nat} {Q : D → Prop} (e : itemsOf t = some ts) (h : ts[i]? = some x) (q : Q x) : WO (gIx t (.int i)) Q := by
  cases t with
  | list ys => cases e; exact wo_ixl h q
  | tuple ys => cases e; exact wo_ixt h q
  | _ => cases e
/-! ### sums of fractions -/
def sumQ (qs : List Rat) : Rat := qs.foldl (· + ·) 0
theorem sumQ_nil : sumQ [] = 0 := rfl
theorem sumQ_snoc (qs : List Rat) (q : Rat) : sumQ (qs ++ [q]) = sumQ qs + q := by
  unfold sumQ
  rw [List.foldl_append]
  rfl
theorem foldl_add (qs : List Rat) : ∀ a b : Rat, qs.foldl (· + ·) (a + b) = a + qs.foldl (· + ·) b := by
  induction qs with
  | nil => intro a b; rfl
  | cons q qs ih =>
    intro a b
    rw [List.foldl_cons, List.foldl_cons, Rat.add_assoc, ih]
theorem sumQ_cons (q : Rat) (qs : List Rat) : sumQ (q :: qs) = q + sumQ qs := by
  unfold sumQ
  rw [List.foldl_cons, Rat.zero_add]
  have := foldl_add qs q 0
  rw [Rat.add_zero] at this
  exact this
theorem sumQ_app (xs ys : List Rat) : sumQ (xs ++ ys) = sumQ xs + sumQ ys := by
  induction xs with
  | nil => rw [List.nil_append, sumQ_nil, Rat.zero_add]
  | cons x xs ih => rw [List.cons_append, sumQ_cons, sumQ_cons, ih, Rat.add_assoc]
theorem sq_zero : Sq 1 (0 : Rat) := ⟨by unfold Sz; decide, by unfold Sz; decide⟩
theorem sq_foldl {k : Nat} : ∀ (qs : List Rat) (j : Nat) (a : Rat), Sq j a → (∀ q ∈ qs, Sq k q) → Sq (j + qs.length * (k + 1)) (qs.foldl (· + ·) a)
  | [], j, a, h, _ => by simpa using h
  | q :: qs, j, a, h, hq => by
    rw [List.foldl_cons, List.length_cons]
    have := sq_foldl qs (j + k + 1) (a + q) (h.add (hq q (List.mem_cons_self ..))) fun p hp => hq p (List.mem_cons_of_mem _ hp)
    rw [show j + (qs.length + 1) * (k + 1) = j + k + 1 + qs.length * (k + 1) by rw [Nat.add_mul, Nat.one_mul]; omega]
    exact this
theorem sq_sumQ {k : Nat} {qs : List Rat} (h : ∀ q ∈ qs, Sq k q) : Sq (1 + qs.length * (k + 1)) (sumQ qs) := sq_foldl qs 1 0 sq_zero h
def mulZ (as bs : List Rat) : List Rat := (as.zip bs).map fun p => p.1 * p.2
def dotQ (as bs : List Rat) : Rat := sumQ (mulZ as bs)
theorem mulZ_len (as bs : List Rat) : (mulZ as bs).length = min as.length bs.length := by
  unfold mulZ
  rw [List.length_map, List.length_zip]
theorem sq_mulZ {j k : Nat} {as bs : List Rat} (ha : ∀ q ∈ as, Sq j q) (hb : ∀ q ∈ bs, Sq k q) : ∀ q ∈ mulZ as bs, Sq (j + k) q := fun q hq => by
  obtain ⟨p, hp, rfl⟩ := List.mem_map.mp hq
  have := List.of_mem_zip (a := p.1) (b := p.2) hp
  exact (ha _ this.1).mul (hb _ this.2)
theorem sq_dotQ {j k n : Nat} {as bs : List Rat} (ha : ∀ q ∈ as, Sq j q) (hb : ∀ q ∈ bs, Sq k q) (hn : as.length ≤ n) : Sq (1 + n * (j + k + 1)) (dotQ as bs) := by
  refine (sq_sumQ (sq_mulZ ha hb)).mono ?_
  rw [mulZ_len]
  have : min as.length bs.length * (j + k + 1) ≤ n * (j + k + 1) := Nat.mul_le_mul_right _ (by omega)
  omega
/-! ### frames -/
section
variable {x : Option Cl} {ρ : Rho} {K : Rho → Prop}
theorem setk0 {z0 : Option Cl} (h : K (x :: ρ)) : SetK 0 x (z0 :: ρ) K := ⟨by simp, h⟩
theorem setk1 {z0 z1 : Option Cl} (h : K (z0 :: x :: ρ)) : SetK 1 x (z0 :: z1 :: ρ) K := ⟨by simp, h⟩
theorem setk2 {z0 z1 z2 : Option Cl} (h : K (z0 :: z1 :: x :: ρ)) : SetK 2 x (z0 :: z1 :: z2 :: ρ) K := ⟨by simp, h⟩
theorem setk3 {z0 z1 z2 z3 : Option Cl} (h : K (z0 :: z1 :: z2 :: x :: ρ)) : SetK 3 x (z0 :: z1 :: z2 :: z3 :: ρ) K := ⟨by simp, h⟩
theorem setk4 {z0 z1 z2 z3 z4 : Option Cl} (h : K (z0 :: z1 :: z2 :: z3 :: x :: ρ)) : SetK 4 x (z0 :: z1 :: z2 :: z3 :: z4 :: ρ) K := ⟨by simp, h⟩
theorem setk5 {z0 z1 z2 z3 z4 z5 : Option Cl} (h : K (z0 :: z1 :: z2 :: z3 :: z4 :: x :: ρ)) : SetK 5 x (z0 :: z1 :: z2 :: z3 :: z4 :: z5 :: ρ) K := ⟨by simp, h⟩
theorem setk6 {z0 z1 z2 z3 z4 z5 z6 : Option Cl} (h : K (z0 :: z1 :: z2 :: z3 :: z4 :: z5 :: x :: ρ)) : SetK 6 x (z0 :: z1 :: z2 :: z3 :: z4 :: z5 :: z6 :: ρ) K := ⟨by simp, h⟩
theorem setk7 {z0 z1 z2 z3 z4 z5 z6 z7 : Option Cl} (h : K (z0 :: z1 :: z2 :: z3 :: z4 :: z5 :: z6 :: x :: ρ)) : SetK 7 x (z0 :: z1 :: z2 :: z3 :: z4 :: z5 :: z6 :: z7 :: ρ) K := ⟨by simp, h⟩
theorem setk8 {z0 z1 z2 z3 z4 z5 z6 z7 z8 : Option Cl} (h : K (z0 :: z1 :: z2 :: z3 :: z4 :: z5 :: z6 :: z7 :: x :: ρ)) : SetK 8 x (z0 :: z1 :: z2 :: z3 :: z4 :: z5 :: z6 :: z7 :: z8 :: ρ) K := ⟨by simp, h⟩
theorem setk9 {z0 z1 z2 z3 z4 z5 z6 z7 z8 z9 : Option Cl} (h : K (z0 :: z1 :: z2 :: z3 :: z4 :: z5 :: z6 :: z7 :: z8 :: x :: ρ)) : SetK 9 x (z0 :: z1 :: z2 :: z3 :: z4 :: z5 :: z6 :: z7 :: z8 :: z9 :: ρ) K := ⟨by simp, h⟩
theorem setk10 {z0 z1 z2 z3 z4 z5 z6 z7 z8 z9 z10 : Option Cl} (h : K (z0 :: z1 :: z2 :: z3 :: z4 :: z5 :: z6 :: z7 :: z8 :: z9 :: x :: ρ)) : SetK 10 x (z0 :: z1 :: z2 :: z3 :: z4 :: z5 :: z6 :: z7 :: z8 :: z9 :: z10 :: ρ) K := ⟨by simp, h⟩
theorem setk11 {z0 z1 z2 z3 z4 z5 z6 z7 z8 z9 z10 z11 : Option Cl} (h : K (z0 :: z1 :: z2 :: z3 :: z4 :: z5 :: z6 :: z7 :: z8 :: z9 :: z10 :: x :: ρ)) : SetK 11 x (z0 :: z1 :: z2 :: z3 :: z4 :: z5 :: z6 :: z7 :: z8 :: z9 :: z10 :: z11 :: ρ) K := ⟨by simp, h⟩
theorem setk12 {z0 z1 z2 z3 z4 z5 z6 z7 z8 z9 z10 z11 z12 : Option Cl} (h : K (z0 :: z1 :: z2 :: z3 :: z4 :: z5 :: z6 :: z7 :: z8 :: z9 :: z10 :: z11 :: x :: ρ)) : SetK 12 x (z0 :: z1 :: z2 :: z3 :: z4 :: z5 :: z6 :: z7 :: z8 :: z9 :: z10 :: z11 :: z12 :: ρ) K := ⟨by simp, h⟩
theorem setk13 {z0 z1 z2 z3 z4 z5 z6 z7 z8 z9 z10 z11 z12 z13 : Option Cl} (h : K (z0 :: z1 :: z2 :: z3 :: z4 :: z5 :: z6 :: z7 :: z8 :: z9 :: z10 :: z11 :: z12 :: x :: ρ)) : SetK 13 x (z0 :: z1 :: z2 :: z3 :: z4 :: z5 :: z6 :: z7 :: z8 :: z9 :: z10 :: z11 :: z12 :: z13 :: ρ) K := ⟨by simp, h⟩
theorem setk14 {z0 z1 z2 z3 z4 z5 z6 z7 z8 z9 z10 z11 z12 z13 z14 : Option Cl} (h : K (z0 :: z1 :: z2 :: z3 :: z4 :: z5 :: z6 :: z7 :: z8 :: z9 :: z10 :: z11 :: z12 :: z13 :: x :: ρ)) : SetK 14 x (z0 :: z1 :: z2 :: z3 :: z4 :: z5 :: z6 :: z7 :: z8 :: z9 :: z10 :: z11 :: z12 :: z13 :: z14 :: ρ) K := ⟨by simp, h⟩
theorem setk15 {z0 z1 z2 z3 z4 z5 z6 z7 z8 z9 z10 z11 z12 z13 z14 z15 : Option Cl} (h : K (z0 :: z1 :: z2 :: z3 :: z4 :: z5 :: z6 :: z7 :: z8 :: z9 :: z10 :: z11 :: z12 :: z13 :: z14 :: x :: ρ)) : SetK 15 x (z0 :: z1 :: z2 :: z3 :: z4 :: z5 :: z6 :: z7 :: z8 :: z9 :: z10 :: z11 :: z12 :: z13 :: z14 :: z15 :: ρ) K := ⟨by simp, h⟩
theorem setk16 {z0 z1 z2 z3 z4 z5 z6 z7 z8 z9 z10 z11 z12 z13 z14 z15 z16 : Option Cl} (h : K (z0 :: z1 :: z2 :: z3 :: z4 :: z5 :: z6 :: z7 :: z8 :: z9 :: z10 :: z11 :: z12 :: z13 :: z14 :: z15 :: x :: ρ)) : SetK 16 x (z0 :: z1 :: z2 :: z3 :: z4 :: z5 :: z6 :: z7 :: z8 :: z9 :: z10 :: z11 :: z12 :: z13 :: z14 :: z15 :: z16 :: ρ) K := ⟨by simp, h⟩
theorem setk17 {z0 z1 z2 z3 z4 z5 z6 z7 z8 z9 z10 z11 z12 z13 z14 z15 z16 z17 : Option Cl} (h : K (z0 :: z1 :: z2 :: z3 :: z4 :: z5 :: z6 :: z7 :: z8 :: z9 :: z10 :: z11 :: z12 :: z13 :: z14 :: z15 :: z16 :: x :: ρ)) : SetK 17 x (z0 :: z1 :: z2 :: z3 :: z4 :: z5 :: z6 :: z7 :: z8 :: z9 :: z10 :: z11 :: z12 :: z13 :: z14 :: z15 :: z16 :: z17 :: ρ) K := ⟨by simp, h⟩
end
end Mi
namespace Mi
open PySem PySem.Spec PyProof.Rows L2

/-! ### what repr tells of plain data without texts -/
def okS (x : Str) : Prop := ∀ c ∈ x.cps.toList, c < 0x110000
theorem okS.app {x y : Str} (hx : okS x) (hy : okS y) : okS (x ++ y) := fun c hc => by
  have : c ∈ (x.cps ++ y.cps).toList := hc
  rw [Array.toList_append, List.mem_append] at this
  exact this.elim (hx c) (hy c)
theorem okS_of (s : String) : okS (Str.ofString s) := fun c hc => by
  rw [PySem.Str.ofString_eq_toList] at hc
  obtain ⟨ch, _, rfl⟩ := List.mem_map.mp (by simpa using hc)
  have h := ch.valid
  show ch.val.toNat < _
  rcases h with h | h
  · exact Nat.lt_trans h (by decide)
  · exact h.2
theorem okS_textFrom : ∀ (ts : List Str) (k : Nat) (acc : Str), okS acc → (∀ t ∈ ts, okS t) → okS (textFrom k acc ts)
  | [], _, _, h, _ => h
  | t :: ts, k, acc, h, ht => okS_textFrom ts (k + 1) _ ((h.app (okS_of _)).app (ht t (List.mem_cons_self ..))) fun u hu => ht u (List.mem_cons_of_mem _ hu)
theorem okS_join (sep : Str) (hs : okS sep) : ∀ ts : List Str, (∀ t ∈ ts, okS t) → okS (Str.join sep ts)
  | [], _ => fun c hc => by simp [Str.join, Str.empty] at hc
  | [x], h => h x (List.mem_cons_self ..)
  | x :: y :: r, h => ((h x (List.mem_cons_self ..)).app hs).app (okS_join sep hs (y :: r) fun u hu => h u (List.mem_cons_of_mem _ hu))
theorem strOk_of {x : Str} (h : okS x) : PyData.strOk x = true := by
  unfold PyData.strOk
  rw [Array.all_eq_true']
  intro c hc
  exact decide_eq_true (h c (by simpa using hc))
/-- only whole numbers of bounded size, True, False, None, lists, tuples; at most h deep; of at most b parts -/
inductive Sh : Nat → Nat → D → Prop
  | int {h b : Nat} {i : Int} (hi : Sz 1900 i) : Sh h b (.int i)
  | bool {h b : Nat} {x : Bool} : Sh h b (.bool x)
  | none {h b : Nat} : Sh h b .none
  | list {h b n : Nat} {ts : List D} (hn : ts.length * (n + 1) ≤ b) (ht : ∀ t ∈ ts, Sh h n t) : Sh (h + 1) b (.list ts)
  | tup {h b n : Nat} {ts : List D} (hn : ts.length * (n + 1) ≤ b) (ht : ∀ t ∈ ts, Sh h n t) : Sh (h + 1) b (.tuple ts)
theorem Sh.mono {h b : Nat} {d : D} (s : Sh h b d) : ∀ {h' b' : Nat}, h ≤ h' → b ≤ b' → Sh h' b' d := by
  induction s with
  | int hi => exact fun _ _ => .int hi
  | bool => exact fun _ _ => .bool
  | none => exact fun _ _ => .none
  | list hn ht ih =>
    intro h' b' hh hb
    obtain ⟨k, rfl⟩ : ∃ k, h' = k + 1 := ⟨h' - 1, by omega⟩
    exact .list (Nat.le_trans hn hb) fun t m => ih t m (by omega) (Nat.le_refl _)
  | tup hn ht ih =>
    intro h' b' hh hb
    obtain ⟨k, rfl⟩ : ∃ k, h' = k + 1 := ⟨h' - 1, by omega⟩
    exact .tup (Nat.le_trans hn hb) fun t m => ih t m (by omega) (Nat.le_refl _)
theorem sh_fq {q : Rat} (hq : Sq 1900 q) : Sh 1 2 (fq q) := .tup (n := 0) (by simp) fun t ht => by
  simp at ht
  rcases ht with rfl | rfl
  · exact .int hq.n
  · exact .int hq.d
structure ShF (h b : Nat) (d : D) : Prop where
  nd : d.hasDict = false
  sw : d.showable = true
  dp : d.depth ≤ h
  bk : d.bulk ≤ b
  lv : d.leavesShort 1921 = true
  ok : okS d.shown
  cl : d.canLay0 = true
theorem bulkAll_le {n : Nat} : ∀ ts : List D, (∀ t ∈ ts, PyData.bulk t ≤ n) → PyData.bulkAll ts ≤ ts.length * (n + 1)
  | [], _ => by simp [PyData.bulkAll]
  | t :: ts, h => by
    have h1 := h t (List.mem_cons_self ..)
    have h2 := bulkAll_le ts fun u hu => h u (List.mem_cons_of_mem _ hu)
    rw [PyData.bulkAll, List.length_cons, Nat.add_mul, Nat.one_mul]
    omega
theorem depthAll_le {n : Nat} : ∀ ts : List D, (∀ t ∈ ts, PyData.depth t ≤ n) → PyData.depthAll ts ≤ n
  | [], _ => by simp [PyData.depthAll]
  | t :: ts, h => by
    rw [PyData.depthAll]
    exact Nat.max_le.mpr ⟨h t (List.mem_cons_self ..), depthAll_le ts fun u hu => h u (List.mem_cons_of_mem _ hu)⟩
theorem hasDictAll_f : ∀ ts : List D, (∀ t ∈ ts, PyData.hasDict t = false) → PyData.hasDictAll ts = false
  | [], _ => by simp [PyData.hasDictAll]
  | t :: ts, h => by rw [PyData.hasDictAll, h t (List.mem_cons_self ..), hasDictAll_f ts fun u hu => h u (List.mem_cons_of_mem _ hu)]; rfl
theorem showableAll_t : ∀ ts : List D, (∀ t ∈ ts, PyData.showable t = true) → PyData.showableAll ts = true
  | [], _ => by simp [PyData.showableAll]
  | t :: ts, h => by rw [PyData.showableAll, h t (List.mem_cons_self ..), showableAll_t ts fun u hu => h u (List.mem_cons_of_mem _ hu)]; rfl
theorem leavesAll_t {B : Nat} : ∀ ts : List D, (∀ t ∈ ts, PyData.leavesShort B t = true) → PyData.leavesShortAll B ts = true
  | [], _ => by simp [PyData.leavesShortAll]
  | t :: ts, h => by rw [PyData.leavesShortAll, h t (List.mem_cons_self ..), leavesAll_t ts fun u hu => h u (List.mem_cons_of_mem _ hu)]; rfl
theorem canLayAll_t : ∀ ts : List D, (∀ t ∈ ts, PyData.canLay0 t = true) → PyData.canLayAll0 ts = true
  | [], _ => by simp [PyData.canLayAll0]
  | t :: ts, h => by rw [PyData.canLayAll0, h t (List.mem_cons_self ..), canLayAll_t ts fun u hu => h u (List.mem_cons_of_mem _ hu)]; rfl
theorem shownAll_ok : ∀ ts : List D, (∀ t ∈ ts, okS (PyData.shown t)) → ∀ x ∈ PyData.shownAll ts, okS x
  | [], _ => fun x hx => by simp [PyData.shownAll] at hx
  | t :: ts, h => fun x hx => by
    rw [PyData.shownAll] at hx
    rcases List.mem_cons.mp hx with rfl | hx
    · exact h t (List.mem_cons_self ..)
    · exact shownAll_ok ts (fun u hu => h u (List.mem_cons_of_mem _ hu)) x hx
theorem Sh.facts {h b : Nat} {d : D} (s : Sh h b d) : ShF h b d := by
  induction s with
  | @int h b i hi =>
    have l : i.natAbs.log2 < 1920 := Nat.lt_of_lt_of_le (hi.log (by decide)) (by decide)
    exact ⟨by simp only [PyData.hasDict], by simp only [PyData.showable]; exact decide_eq_true l, by simp [PyData.depth], by simp [PyData.bulk], by simp only [PyData.leavesShort]; exact decide_eq_true (int_text_len_1921 l), okS_of _, by simp [PyData.canLay0]⟩
  | @bool h b x =>
    exact ⟨by simp only [PyData.hasDict], by simp only [PyData.showable], by simp [PyData.depth], by simp [PyData.bulk], by simp only [PyData.leavesShort], by cases x <;> exact okS_of _, by simp [PyData.canLay0]⟩
  | none => exact ⟨by simp only [PyData.hasDict], by simp only [PyData.showable], by simp [PyData.depth], by simp [PyData.bulk], by simp only [PyData.leavesShort], okS_of _, by simp [PyData.canLay0]⟩
  | @list h b n ts hn ht ih =>
    refine ⟨by simp only [PyData.hasDict]; exact hasDictAll_f ts fun t m => (ih t m).nd, by simp only [PyData.showable]; exact showableAll_t ts fun t m => (ih t m).sw, ?_, ?_, by simp only [PyData.leavesShort]; exact leavesAll_t ts fun t m => (ih t m).lv, ?_, by simp only [PyData.canLay0]; exact canLayAll_t ts fun t m => (ih t m).cl⟩
    · rw [PyData.depth]
      exact Nat.succ_le_succ (depthAll_le ts fun t m => (ih t m).dp)
    · rw [PyData.bulk]
      exact Nat.le_trans (bulkAll_le ts fun t m => (ih t m).bk) hn
    · rw [PyData.shown]
      exact (okS_textFrom _ 0 _ (okS_of _) (shownAll_ok ts fun t m => (ih t m).ok)).app (okS_of _)
  | @tup h b n ts hn ht ih =>
    refine ⟨by simp only [PyData.hasDict]; exact hasDictAll_f ts fun t m => (ih t m).nd, by simp only [PyData.showable]; exact showableAll_t ts fun t m => (ih t m).sw, ?_, ?_, by simp only [PyData.leavesShort]; exact leavesAll_t ts fun t m => (ih t m).lv, ?_, by simp only [PyData.canLay0]; exact canLayAll_t ts fun t m => (ih t m).cl⟩
    · rw [PyData.depth]
      exact Nat.succ_le_succ (depthAll_le ts fun t m => (ih t m).dp)
    · rw [PyData.bulk]
      exact Nat.le_trans (bulkAll_le ts fun t m => (ih t m).bk) hn
    · rw [PyData.shown]
      unfold tupleText
      exact ((okS_of _).app (okS_join _ (okS_of _) _ (shownAll_ok ts fun t m => (ih t m).ok))).app (okS_of _)
theorem ShF.show {h b : Nat} {d : D} (s : ShF h b d) (hh : h ≤ 64) (hb : b ≤ 8700) : showOk d = true := by
  have h1 := PyData.shown_le_bulk 1921 (by decide) d s.lv
  have h2 := s.bk
  have h3 := s.dp
  have h4 : (1921 + 2) * d.bulk ≤ 1923 * 8700 := Nat.mul_le_mul_left _ (by omega)
  have e : sizeLine = 16777216 := by decide
  unfold showOk
  simp only [s.nd, s.sw, Bool.not_false, Bool.true_and, Bool.and_eq_true, decide_eq_true_eq]
  omega
theorem flat_str {x : Str} (h : okS x) : flat (.str x) = true := by
  unfold flat SeqAt.shaped
  simp only [PyData.hasDict, PyData.canLay0, PyData.depth, strOk_of h]
  rfl
theorem gNe_same {x : Str} (h : okS x) : gNe (.str x) (.str x) = some (.bool false) := by
  show (none : Option D).or (gEqD true (.str x) (.str x)) = _
  unfold gEqD
  rw [flat_str h]
  have e : PyData.eqv (.str x) (.str x) = true := SeqAt.eqv_refl _ (by simp only [PyData.canLay0]; exact strOk_of h)
  rw [e]
  rfl
theorem gEq_same {x : Str} (h : okS x) : gEq (.str x) (.str x) = some (.bool true) := by
  show (none : Option D).or (gEqD false (.str x) (.str x)) = _
  unfold gEqD
  rw [flat_str h]
  have e : PyData.eqv (.str x) (.str x) = true := SeqAt.eqv_refl _ (by simp only [PyData.canLay0]; exact strOk_of h)
  rw [e]
  rfl
section
variable {h b : Nat} {ts : List D} {d : D} {Q : D → Prop}
theorem wo_reprl (s : Sh h b (.list ts)) (hh : h ≤ 64) (hb : b ≤ 8700) (q : Q (.str (PyData.shown (.list ts)))) : WO (gRepr [.list ts]) Q := ⟨_, if_pos (s.facts.show hh hb), q⟩
theorem wo_reprt (s : Sh h b (.tuple ts)) (hh : h ≤ 64) (hb : b ≤ 8700) (q : Q (.str (PyData.shown (.tuple ts)))) : WO (gRepr [.tuple ts]) Q := ⟨_, if_pos (s.facts.show hh hb), q⟩
theorem wo_nesame (s : Sh h b d) (q : Q (.bool false)) : WO (gNe (.str (PyData.shown d)) (.str (PyData.shown d))) Q := ⟨_, gNe_same s.facts.ok, q⟩
theorem wo_eqsame (s : Sh h b d) (q : Q (.bool true)) : WO (gEq (.str (PyData.shown d)) (.str (PyData.shown d))) Q := ⟨_, gEq_same s.facts.ok, q⟩
end
/-- repr(t) != repr(u), repr(t) == repr(u) -/
structure RepNe (t u : D) (Q : D → Prop) : Prop where
  h : WO (gRepr [t]) fun x => WO (gRepr [u]) fun y => WO (gNe x y) Q
structure RepEq (t u : D) (Q : D → Prop) : Prop where
  h : WO (gRepr [t]) fun x => WO (gRepr [u]) fun y => WO (gEq x y) Q
section
variable {h b : Nat} {ts : List D} {d : D} {Q : D → Prop} {x y : De} {ρ : Rho} {w : Ws} {P : D → Ws → Prop}
theorem repne (s : Sh h b d) (hd : ∃ ts, itemsOf d = some ts) (hh : h ≤ 64) (hb : b ≤ 8700) (q : Q (.bool false)) : RepNe d d Q := by
  obtain ⟨ts, e⟩ := hd
  cases d with
  | list zs => exact ⟨wo_reprl s hh hb (wo_reprl s hh hb (wo_nesame s q))⟩
  | tuple zs => exact ⟨wo_reprt s hh hb (wo_reprt s hh hb (wo_nesame s q))⟩
  | _ => cases e
theorem repeq (s : Sh h b d) (hd : ∃ ts, itemsOf d = some ts) (hh : h ≤ 64) (hb : b ≤ 8700) (q : Q (.bool true)) : RepEq d d Q := by
  obtain ⟨ts, e⟩ := hd
  cases d with
  | list zs => exact ⟨wo_reprl s hh hb (wo_reprl s hh hb (wo_eqsame s q))⟩
  | tuple zs => exact ⟨wo_reprt s hh hb (wo_reprt s hh hb (wo_eqsame s q))⟩
  | _ => cases e
theorem we_nerepr (k : WE x ρ w fun t w1 => WE y ρ w1 fun u w2 => RepNe t u fun z => P z w2) : WE (dBin gNe (dPri gRepr (dCons x dNil)) (dPri gRepr (dCons y dNil))) ρ w P := by
  obtain ⟨t, w1, e1, u, w2, e2, z1, e3, z2, e4, z, e5, q⟩ := k
  exact ⟨z, w2, bin_eq (pri1_eq e1 e3) (pri1_eq e2 e4) e5, q⟩
theorem we_eqrepr (k : WE x ρ w fun t w1 => WE y ρ w1 fun u w2 => RepEq t u fun z => P z w2) : WE (dBin gEq (dPri gRepr (dCons x dNil)) (dPri gRepr (dCons y dNil))) ρ w P := by
  obtain ⟨t, w1, e1, u, w2, e2, z1, e3, z2, e4, z, e5, q⟩ := k
  exact ⟨z, w2, bin_eq (pri1_eq e1 e3) (pri1_eq e2 e4) e5, q⟩
end
end Mi
namespace Mi
open PySem PySem.Spec PyProof.Rows L2

/-! ### rules for two fors, own lists in pairs, is True, () times a number -/
structure DropK (ρ : Rho) (K : Rho → Prop) : Prop where
  h : K (dropOwn ρ)
structure WC2 (ρ0 : Rho) (g : Tg) (c : Dt) (it1 : Da) (vs1 : List Nat) (g1 : Tg) (c1 : Dt) (e : De) (xs : List D) (w : Ws) (Q : List D → Ws → Prop) : Prop where
  h : ∃ ts w', compGo2 ρ0 g c it1 vs1 g1 c1 e xs w = some (ts, w') ∧ Q ts w'
structure RepK (ts : List D) (k : Int) (Q : D → Prop) : Prop where
  l : 2 ≤ k ∧ k ≤ 1000 ∧ ts.length ≤ 1000
  q : Q (.tuple (List.replicate k.toNat ts).flatten)
section
variable {ρ : Rho} {K : Rho → Prop} {t : D} {us : List D}
theorem dropk_nil (h : K []) : DropK [] K := ⟨h⟩
theorem dropk_val (h : DropK ρ fun r => K (some (.val t) :: r)) : DropK (some (.val t) :: ρ) K := ⟨h.h⟩
theorem dropk_none (h : DropK ρ fun r => K (none :: r)) : DropK (none :: ρ) K := ⟨h.h⟩
theorem dropk_own (h : DropK ρ fun r => K (none :: r)) : DropK (some (.own us) :: ρ) K := ⟨h.h⟩
theorem dropk_well (h : DropK ρ fun r => K (some .well :: r)) : DropK (some .well :: ρ) K := ⟨h.h⟩
end
section
variable {ρ ρ0 : Rho} {w : Ws} {vs vs1 : List Nat} {it it1 : Da} {g g1 : Tg} {c c1 : Dt} {e : De} {xs : List D} {Q : D → Ws → Prop} {QA : List D → Ws → Prop} {QS : Fl → Rho → Ws → Prop} {i j l : Nat} {da db dc : De}
theorem we_comp2 (h : WA it ρ w fun xs w1 => WipeK vs ρ fun ρ0 => WC2 ρ0 g c it1 vs1 g1 c1 e xs w1 fun ts w2 => Fits ts.length (Q (.list ts) w2)) : WE (dComp2 vs it g c it1 vs1 g1 c1 e) ρ w Q := by
  obtain ⟨xs, w1, e1, ⟨ts, w2, e2, l, q⟩⟩ := h
  refine ⟨.list ts, w2, ?_, q⟩
  unfold dComp2
  rw [e1]
  show (compGo2 (wipeR ρ vs) g c it1 vs1 g1 c1 e xs w1).bind _ = _
  rw [e2]
  exact if_pos l
theorem wc2_map {α : Type} {F : α → D} (G : α → List D) {as : List α} (hx : xs = as.map F)
    (h : ∀ z ∈ as, WG g (F z) ρ0 fun ρ1 => DropK ρ1 fun ρ1 => WA it1 ρ1 w fun ys w1 => w1 = w ∧ WipeK vs1 ρ1 fun ρ2 => WC ρ2 g1 c1 e ys w fun ts w2 => ts = G z ∧ w2 = w) (q : QA (as.map G).flatten w) : WC2 ρ0 g dYes it1 vs1 g1 c1 e xs w QA := by
  subst hx
  refine ⟨_, w, ?_, q⟩
  clear q
  induction as with
  | nil => rfl
  | cons z as ih =>
    obtain ⟨ρ1, e1, ⟨ys, w1, e2, rfl, ⟨⟨ts, w2, e3, rfl, rfl⟩⟩⟩⟩ := h z (List.mem_cons_self ..)
    have ih := ih (fun y hy => h y (List.mem_cons_of_mem _ hy))
    rw [List.map_cons, List.map_cons, List.flatten_cons]
    unfold compGo2
    rw [e1]
    show (it1 (dropOwn ρ1) w2).bind _ = _
    rw [e2]
    show (compGo (wipeR (dropOwn ρ1) vs1) g1 c1 e ys w2).bind _ = _
    rw [e3]
    show (compGo2 ρ0 g dYes it1 vs1 g1 c1 e (as.map F) w2).map _ = _
    rw [ih]
    rfl
theorem ws_parOO (h : WE da ρ w fun t w1 => WE db ρ w1 fun u w2 => IsL (fun us => IsL (fun ts => SetK i (some (.own us)) ρ fun ρ1 => SetK j (some (.own ts)) ρ1 fun ρ2 => QS .nx ρ2 w2) u) t) : WS (sParOO i j da db) ρ w QS := by
  obtain ⟨t, w1, e, u, w2, e2, q⟩ := h
  cases q with
  | mk q =>
  cases q with
  | mk q =>
  refine ⟨_, _, _, ?_, q.h.h⟩
  have l2 := q.h.l
  rw [List.length_set] at l2
  unfold sParOO
  rw [e]
  show (db ρ w1).bind _ = _
  rw [e2]
  exact if_pos ⟨q.l, l2⟩
theorem ws_par3O (h : WE da ρ w fun t w1 => WE db ρ w1 fun u w2 => WE dc ρ w2 fun v w3 => IsL (fun ts => SetK i (some (.val t)) ρ fun ρ1 => SetK j (some (.val u)) ρ1 fun ρ2 => SetK l (some (.own ts)) ρ2 fun ρ3 => QS .nx ρ3 w3) v) : WS (sPar3O i j l da db dc) ρ w QS := by
  obtain ⟨t, w1, e, u, w2, e2, v, w3, e3, q⟩ := h
  cases q with
  | mk q =>
  refine ⟨_, _, _, ?_, q.h.h.h⟩
  have l2 := q.h.l
  rw [List.length_set] at l2
  have l3 := q.h.h.l
  rw [List.length_set, List.length_set] at l3
  unfold sPar3O
  rw [e]
  show (db ρ w1).bind _ = _
  rw [e2]
  show (dc ρ w2).bind _ = _
  rw [e3]
  exact if_pos ⟨q.l, l2, l3⟩
end
section
variable {a b : Bool} {Q : D → Prop} {ts : List D} {k : Int}
theorem wo_isb (q : Q (.bool (decide (a = b)))) : WO (gIsB (.bool a) (.bool b)) Q := ⟨_, rfl, q⟩
theorem wo_nob (q : Q (.bool (!decide (a = b)))) : WO (gNoB (.bool a) (.bool b)) Q := ⟨_, rfl, q⟩
theorem wo_reptt (h : RepK ts k Q) : WO (gRepTT (.tuple ts) (.int k)) Q := ⟨_, gRepTT_eq h.l, h.q⟩
end
theorem zipL_same {α : Type} (F G : α → D) (as : List α) : zipL (as.map F) (as.map G) = as.map fun a => .tuple [F a, G a] := by
  unfold zipL
  rw [List.zip_map', List.map_map]
  rfl
end Mi
namespace Mi
open PySem PySem.Spec PyProof.Rows L2
/-- repr(t) != repr(u), repr(t) == repr(u), truth values too -/
structure RepNx (t u : D) (Q : D → Prop) : Prop where
  h : WO (gReprX [t]) fun x => WO (gReprX [u]) fun y => WO (gNe x y) Q
structure RepEx (t u : D) (Q : D → Prop) : Prop where
  h : WO (gReprX [t]) fun x => WO (gReprX [u]) fun y => WO (gEq x y) Q
section
variable {h b : Nat} {ts : List D} {d : D} {Q : D → Prop} {x y : De} {ρ : Rho} {w : Ws} {P : D → Ws → Prop}
theorem repx_eq (s : Sh h b d) (hd : (∃ ts, itemsOf d = some ts) ∨ ∃ z, d = .bool z) (hh : h ≤ 64) (hb : b ≤ 8700) : gReprX [d] = some (.str (PyData.shown d)) := by
  rcases hd with ⟨ts, e⟩ | ⟨z, rfl⟩
  · have e2 : gRepr [d] = some (.str (PyData.shown d)) := by
      cases d with
      | list zs => exact if_pos (s.facts.show hh hb)
      | tuple zs => exact if_pos (s.facts.show hh hb)
      | _ => cases e
    unfold gReprX
    rw [e2]
    rfl
  · rfl
theorem repnx (s : Sh h b d) (hd : (∃ ts, itemsOf d = some ts) ∨ ∃ z, d = .bool z) (hh : h ≤ 64) (hb : b ≤ 8700) (q : Q (.bool false)) : RepNx d d Q :=
  ⟨⟨_, repx_eq s hd hh hb, ⟨_, repx_eq s hd hh hb, wo_nesame s q⟩⟩⟩
theorem repex (s : Sh h b d) (hd : (∃ ts, itemsOf d = some ts) ∨ ∃ z, d = .bool z) (hh : h ≤ 64) (hb : b ≤ 8700) (q : Q (.bool true)) : RepEx d d Q :=
  ⟨⟨_, repx_eq s hd hh hb, ⟨_, repx_eq s hd hh hb, wo_eqsame s q⟩⟩⟩
theorem we_nereprx (k : WE x ρ w fun t w1 => WE y ρ w1 fun u w2 => RepNx t u fun z => P z w2) : WE (dBin gNe (dPri gReprX (dCons x dNil)) (dPri gReprX (dCons y dNil))) ρ w P := by
  obtain ⟨t, w1, e1, u, w2, e2, z1, e3, z2, e4, z, e5, q⟩ := k
  exact ⟨z, w2, bin_eq (pri1_eq e1 e3) (pri1_eq e2 e4) e5, q⟩
theorem we_eqreprx (k : WE x ρ w fun t w1 => WE y ρ w1 fun u w2 => RepEx t u fun z => P z w2) : WE (dBin gEq (dPri gReprX (dCons x dNil)) (dPri gReprX (dCons y dNil))) ρ w P := by
  obtain ⟨t, w1, e1, u, w2, e2, z1, e3, z2, e4, z, e5, q⟩ := k
  exact ⟨z, w2, bin_eq (pri1_eq e1 e3) (pri1_eq e2 e4) e5, q⟩
end
end Mi
namespace Mi
open PySem PySem.Spec PyProof.Rows L2
theorem wo_anyB {α : Type} {as : List α} {p : α → Bool} {Q : D → Prop} (q : Q (.bool (as.any p))) : WO (gAnyX [.list (as.map fun z => .bool (p z))]) Q := ⟨_, by
  have e : (as.map fun z => (.bool (p z) : D)) = ((as.map fun z => (.bool (p z) : D)).map fun t => .bool (match t with | .bool b => b | _ => false)) := by
    rw [List.map_map]; rfl
  rw [e, mapM_anyX, List.any_map]
  rfl, q⟩
theorem wo_anyI {α : Type} {as : List α} {p : α → Int} {Q : D → Prop} (q : Q (.bool (as.any fun z => p z != 0))) : WO (gAnyX [.list (as.map fun z => .int (p z))]) Q := ⟨_, by
  have e : (as.map fun z => (.int (p z) : D)) = ((as.map fun z => (.int (p z) : D)).map fun t => .int (match t with | .int b => b | _ => 0)) := by
    rw [List.map_map]; rfl
  rw [e, any_ints, List.any_map]
  rfl, q⟩
end Mi
namespace Mi
open PySem PySem.Spec PyProof.Rows L2
section
variable {a b : Int} {ts us ds : List D} {t d : D} {Q : D → Prop} {i : Nat} {ρ : Rho} {w : Ws} {de : De} {QS : Fl → Rho → Ws → Prop}
theorem wo_iaddi (q : Q (.int (a + b))) : WO (gIAdd (.int a) (.int b)) Q := ⟨_, rfl, q⟩
theorem wo_iaddt (h : ts.length + us.length ≤ 100000) (q : Q (.tuple (ts ++ us))) : WO (gIAdd (.tuple ts) (.tuple us)) Q := ⟨_, by
  show (if ts.length + us.length ≤ 100000 then some (PyData.tuple (ts ++ us)) else none) = _
  rw [if_pos h], q⟩
theorem wo_repu {k : Int} (h : 1 ≤ k ∧ k ≤ 1000 ∧ ts.length ≤ 1000) (q : Q (.tuple (List.replicate k.toNat ts).flatten)) : WO (gRepU (.tuple ts) (.int k)) Q := ⟨_, gRepU_eq h, q⟩
theorem ws_ext (h : WE de ρ w fun t w1 => IsL (fun us => OwnAt i ρ fun ts => Fits (ts.length + us.length) (SetK i (some (.own (ts ++ us))) ρ fun ρ1 => QS .nx ρ1 w1)) t) : WS (sExt i de) ρ w QS := by
  obtain ⟨t, w1, e, hl⟩ := h
  cases hl with
  | mk h =>
    obtain ⟨ts, hi, hl, q⟩ := h
    refine ⟨_, _, _, ?_, q.h⟩
    unfold sExt
    rw [e, Option.bind_some]
    dsimp only
    rw [hi]
    exact if_pos hl
end
section
variable {x : Option Cl} {ρ : Rho} {K : Rho → Prop}
theorem setk18 {z0 z1 z2 z3 z4 z5 z6 z7 z8 z9 z10 z11 z12 z13 z14 z15 z16 z17 z18 : Option Cl} (h : K (z0 :: z1 :: z2 :: z3 :: z4 :: z5 :: z6 :: z7 :: z8 :: z9 :: z10 :: z11 :: z12 :: z13 :: z14 :: z15 :: z16 :: z17 :: x :: ρ)) : SetK 18 x (z0 :: z1 :: z2 :: z3 :: z4 :: z5 :: z6 :: z7 :: z8 :: z9 :: z10 :: z11 :: z12 :: z13 :: z14 :: z15 :: z16 :: z17 :: z18 :: ρ) K := ⟨by simp, h⟩
theorem setk19 {z0 z1 z2 z3 z4 z5 z6 z7 z8 z9 z10 z11 z12 z13 z14 z15 z16 z17 z18 z19 : Option Cl} (h : K (z0 :: z1 :: z2 :: z3 :: z4 :: z5 :: z6 :: z7 :: z8 :: z9 :: z10 :: z11 :: z12 :: z13 :: z14 :: z15 :: z16 :: z17 :: z18 :: x :: ρ)) : SetK 19 x (z0 :: z1 :: z2 :: z3 :: z4 :: z5 :: z6 :: z7 :: z8 :: z9 :: z10 :: z11 :: z12 :: z13 :: z14 :: z15 :: z16 :: z17 :: z18 :: z19 :: ρ) K := ⟨by simp, h⟩
theorem setk20 {z0 z1 z2 z3 z4 z5 z6 z7 z8 z9 z10 z11 z12 z13 z14 z15 z16 z17 z18 z19 z20 : Option Cl} (h : K (z0 :: z1 :: z2 :: z3 :: z4 :: z5 :: z6 :: z7 :: z8 :: z9 :: z10 :: z11 :: z12 :: z13 :: z14 :: z15 :: z16 :: z17 :: z18 :: z19 :: x :: ρ)) : SetK 20 x (z0 :: z1 :: z2 :: z3 :: z4 :: z5 :: z6 :: z7 :: z8 :: z9 :: z10 :: z11 :: z12 :: z13 :: z14 :: z15 :: z16 :: z17 :: z18 :: z19 :: z20 :: ρ) K := ⟨by simp, h⟩
theorem setk21 {z0 z1 z2 z3 z4 z5 z6 z7 z8 z9 z10 z11 z12 z13 z14 z15 z16 z17 z18 z19 z20 z21 : Option Cl} (h : K (z0 :: z1 :: z2 :: z3 :: z4 :: z5 :: z6 :: z7 :: z8 :: z9 :: z10 :: z11 :: z12 :: z13 :: z14 :: z15 :: z16 :: z17 :: z18 :: z19 :: z20 :: x :: ρ)) : SetK 21 x (z0 :: z1 :: z2 :: z3 :: z4 :: z5 :: z6 :: z7 :: z8 :: z9 :: z10 :: z11 :: z12 :: z13 :: z14 :: z15 :: z16 :: z17 :: z18 :: z19 :: z20 :: z21 :: ρ) K := ⟨by simp, h⟩
theorem setk22 {z0 z1 z2 z3 z4 z5 z6 z7 z8 z9 z10 z11 z12 z13 z14 z15 z16 z17 z18 z19 z20 z21 z22 : Option Cl} (h : K (z0 :: z1 :: z2 :: z3 :: z4 :: z5 :: z6 :: z7 :: z8 :: z9 :: z10 :: z11 :: z12 :: z13 :: z14 :: z15 :: z16 :: z17 :: z18 :: z19 :: z20 :: z21 :: x :: ρ)) : SetK 22 x (z0 :: z1 :: z2 :: z3 :: z4 :: z5 :: z6 :: z7 :: z8 :: z9 :: z10 :: z11 :: z12 :: z13 :: z14 :: z15 :: z16 :: z17 :: z18 :: z19 :: z20 :: z21 :: z22 :: ρ) K := ⟨by simp, h⟩
theorem setk23 {z0 z1 z2 z3 z4 z5 z6 z7 z8 z9 z10 z11 z12 z13 z14 z15 z16 z17 z18 z19 z20 z21 z22 z23 : Option Cl} (h : K (z0 :: z1 :: z2 :: z3 :: z4 :: z5 :: z6 :: z7 :: z8 :: z9 :: z10 :: z11 :: z12 :: z13 :: z14 :: z15 :: z16 :: z17 :: z18 :: z19 :: z20 :: z21 :: z22 :: x :: ρ)) : SetK 23 x (z0 :: z1 :: z2 :: z3 :: z4 :: z5 :: z6 :: z7 :: z8 :: z9 :: z10 :: z11 :: z12 :: z13 :: z14 :: z15 :: z16 :: z17 :: z18 :: z19 :: z20 :: z21 :: z22 :: z23 :: ρ) K := ⟨by simp, h⟩
theorem setk24 {z0 z1 z2 z3 z4 z5 z6 z7 z8 z9 z10 z11 z12 z13 z14 z15 z16 z17 z18 z19 z20 z21 z22 z23 z24 : Option Cl} (h : K (z0 :: z1 :: z2 :: z3 :: z4 :: z5 :: z6 :: z7 :: z8 :: z9 :: z10 :: z11 :: z12 :: z13 :: z14 :: z15 :: z16 :: z17 :: z18 :: z19 :: z20 :: z21 :: z22 :: z23 :: x :: ρ)) : SetK 24 x (z0 :: z1 :: z2 :: z3 :: z4 :: z5 :: z6 :: z7 :: z8 :: z9 :: z10 :: z11 :: z12 :: z13 :: z14 :: z15 :: z16 :: z17 :: z18 :: z19 :: z20 :: z21 :: z22 :: z23 :: z24 :: ρ) K := ⟨by simp, h⟩
theorem setk25 {z0 z1 z2 z3 z4 z5 z6 z7 z8 z9 z10 z11 z12 z13 z14 z15 z16 z17 z18 z19 z20 z21 z22 z23 z24 z25 : Option Cl} (h : K (z0 :: z1 :: z2 :: z3 :: z4 :: z5 :: z6 :: z7 :: z8 :: z9 :: z10 :: z11 :: z12 :: z13 :: z14 :: z15 :: z16 :: z17 :: z18 :: z19 :: z20 :: z21 :: z22 :: z23 :: z24 :: x :: ρ)) : SetK 25 x (z0 :: z1 :: z2 :: z3 :: z4 :: z5 :: z6 :: z7 :: z8 :: z9 :: z10 :: z11 :: z12 :: z13 :: z14 :: z15 :: z16 :: z17 :: z18 :: z19 :: z20 :: z21 :: z22 :: z23 :: z24 :: z25 :: ρ) K := ⟨by simp, h⟩
theorem setk26 {z0 z1 z2 z3 z4 z5 z6 z7 z8 z9 z10 z11 z12 z13 z14 z15 z16 z17 z18 z19 z20 z21 z22 z23 z24 z25 z26 : Option Cl} (h : K (z0 :: z1 :: z2 :: z3 :: z4 :: z5 :: z6 :: z7 :: z8 :: z9 :: z10 :: z11 :: z12 :: z13 :: z14 :: z15 :: z16 :: z17 :: z18 :: z19 :: z20 :: z21 :: z22 :: z23 :: z24 :: z25 :: x :: ρ)) : SetK 26 x (z0 :: z1 :: z2 :: z3 :: z4 :: z5 :: z6 :: z7 :: z8 :: z9 :: z10 :: z11 :: z12 :: z13 :: z14 :: z15 :: z16 :: z17 :: z18 :: z19 :: z20 :: z21 :: z22 :: z23 :: z24 :: z25 :: z26 :: ρ) K := ⟨by simp, h⟩
theorem setk27 {z0 z1 z2 z3 z4 z5 z6 z7 z8 z9 z10 z11 z12 z13 z14 z15 z16 z17 z18 z19 z20 z21 z22 z23 z24 z25 z26 z27 : Option Cl} (h : K (z0 :: z1 :: z2 :: z3 :: z4 :: z5 :: z6 :: z7 :: z8 :: z9 :: z10 :: z11 :: z12 :: z13 :: z14 :: z15 :: z16 :: z17 :: z18 :: z19 :: z20 :: z21 :: z22 :: z23 :: z24 :: z25 :: z26 :: x :: ρ)) : SetK 27 x (z0 :: z1 :: z2 :: z3 :: z4 :: z5 :: z6 :: z7 :: z8 :: z9 :: z10 :: z11 :: z12 :: z13 :: z14 :: z15 :: z16 :: z17 :: z18 :: z19 :: z20 :: z21 :: z22 :: z23 :: z24 :: z25 :: z26 :: z27 :: ρ) K := ⟨by simp, h⟩
theorem setk28 {z0 z1 z2 z3 z4 z5 z6 z7 z8 z9 z10 z11 z12 z13 z14 z15 z16 z17 z18 z19 z20 z21 z22 z23 z24 z25 z26 z27 z28 : Option Cl} (h : K (z0 :: z1 :: z2 :: z3 :: z4 :: z5 :: z6 :: z7 :: z8 :: z9 :: z10 :: z11 :: z12 :: z13 :: z14 :: z15 :: z16 :: z17 :: z18 :: z19 :: z20 :: z21 :: z22 :: z23 :: z24 :: z25 :: z26 :: z27 :: x :: ρ)) : SetK 28 x (z0 :: z1 :: z2 :: z3 :: z4 :: z5 :: z6 :: z7 :: z8 :: z9 :: z10 :: z11 :: z12 :: z13 :: z14 :: z15 :: z16 :: z17 :: z18 :: z19 :: z20 :: z21 :: z22 :: z23 :: z24 :: z25 :: z26 :: z27 :: z28 :: ρ) K := ⟨by simp, h⟩
theorem setk29 {z0 z1 z2 z3 z4 z5 z6 z7 z8 z9 z10 z11 z12 z13 z14 z15 z16 z17 z18 z19 z20 z21 z22 z23 z24 z25 z26 z27 z28 z29 : Option Cl} (h : K (z0 :: z1 :: z2 :: z3 :: z4 :: z5 :: z6 :: z7 :: z8 :: z9 :: z10 :: z11 :: z12 :: z13 :: z14 :: z15 :: z16 :: z17 :: z18 :: z19 :: z20 :: z21 :: z22 :: z23 :: z24 :: z25 :: z26 :: z27 :: z28 :: x :: ρ)) : SetK 29 x (z0 :: z1 :: z2 :: z3 :: z4 :: z5 :: z6 :: z7 :: z8 :: z9 :: z10 :: z11 :: z12 :: z13 :: z14 :: z15 :: z16 :: z17 :: z18 :: z19 :: z20 :: z21 :: z22 :: z23 :: z24 :: z25 :: z26 :: z27 :: z28 :: z29 :: ρ) K := ⟨by simp, h⟩
end
/-! ### whole numbers and tuples, lists of such: == is = -/
inductive Pl : Nat → D → Prop
  | int {n : Nat} {i : Int} : Pl n (.int i)
  | tup {n : Nat} {ts : List D} (h : ∀ t ∈ ts, Pl n t) : Pl (n + 1) (.tuple ts)
  | lst {n : Nat} {ts : List D} (h : ∀ t ∈ ts, Pl n t) : Pl (n + 1) (.list ts)
theorem Pl.mono {n : Nat} {d : D} (h : Pl n d) : ∀ {m : Nat}, n ≤ m → Pl m d := by
  induction h with
  | int => exact fun _ => .int
  | tup h ih => intro m hm; cases m with
    | zero => omega
    | succ m => exact .tup fun t ht => ih t ht (by omega)
  | lst h ih => intro m hm; cases m with
    | zero => omega
    | succ m => exact .lst fun t ht => ih t ht (by omega)
theorem pl_depths {n : Nat} : ∀ ts : List D, (∀ t ∈ ts, PyData.depth t ≤ n) → PyData.depthAll ts ≤ n
  | [], _ => by simp [PyData.depthAll]
  | t :: ts, h => by
    have a := h t (by simp)
    have b := pl_depths ts fun t ht => h t (by simp [ht])
    simp [PyData.depthAll]
    omega
structure PlF (n : Nat) (d : D) : Prop where
  nd : d.hasDict = false
  cl : d.canLay0 = true
  dp : d.depth ≤ n
theorem Pl.facts {n : Nat} {d : D} (h : Pl n d) : PlF n d := by
  induction h with
  | int => exact ⟨by simp [PyData.hasDict], by simp [PyData.canLay0], by simp [PyData.depth]⟩
  | tup h ih => exact ⟨by simp only [PyData.hasDict]; exact hasDictAll_f _ fun t ht => (ih t ht).nd, by simp only [PyData.canLay0]; exact canLayAll_t _ fun t ht => (ih t ht).cl,
      by simp only [PyData.depth]; have := pl_depths _ fun t ht => (ih t ht).dp; omega⟩
  | lst h ih => exact ⟨by simp only [PyData.hasDict]; exact hasDictAll_f _ fun t ht => (ih t ht).nd, by simp only [PyData.canLay0]; exact canLayAll_t _ fun t ht => (ih t ht).cl,
      by simp only [PyData.depth]; have := pl_depths _ fun t ht => (ih t ht).dp; omega⟩
theorem Pl.flat {n : Nat} {d : D} (h : Pl n d) (hn : n ≤ 64) : flat d = true := by
  have f := h.facts
  unfold Mi.flat SeqAt.shaped
  rw [f.nd, f.cl]
  have := f.dp
  simp
  omega
mutual
theorem pl_eqv : ∀ (a b : D) {n m : Nat}, Pl n a → Pl m b → (PyData.eqv a b = true ↔ a = b)
  | .int i, .int j, _, _, _, _ => by rw [eqv_int]; simp
  | .int i, .tuple us, _, _, _, _ => by simp [PyData.eqv]
  | .int i, .list us, _, _, _, _ => by simp [PyData.eqv]
  | .tuple ts, .int j, _, _, _, _ => by simp [PyData.eqv]
  | .tuple ts, .list us, _, _, _, _ => by simp [PyData.eqv]
  | .list ts, .int j, _, _, _, _ => by simp [PyData.eqv]
  | .list ts, .tuple us, _, _, _, _ => by simp [PyData.eqv]
  | .tuple ts, .tuple us, _, _, ha, hb => by
    cases ha with
    | tup ha => cases hb with
      | tup hb => rw [show PyData.eqv (.tuple ts) (.tuple us) = PyData.eqvAll ts us by simp only [PyData.eqv], pl_eqvs ts us ha hb]; simp
  | .list ts, .list us, _, _, ha, hb => by
    cases ha with
    | lst ha => cases hb with
      | lst hb => rw [show PyData.eqv (.list ts) (.list us) = PyData.eqvAll ts us by simp only [PyData.eqv], pl_eqvs ts us ha hb]; simp
  | .none, _, _, _, ha, _ => nomatch ha
  | .bool _, _, _, _, ha, _ => nomatch ha
  | .str _, _, _, _, ha, _ => nomatch ha
  | .dict _, _, _, _, ha, _ => nomatch ha
  | .int _, .none, _, _, _, hb => nomatch hb
  | .int _, .bool _, _, _, _, hb => nomatch hb
  | .int _, .str _, _, _, _, hb => nomatch hb
  | .int _, .dict _, _, _, _, hb => nomatch hb
  | .tuple _, .none, _, _, _, hb => nomatch hb
  | .tuple _, .bool _, _, _, _, hb => nomatch hb
  | .tuple _, .str _, _, _, _, hb => nomatch hb
  | .tuple _, .dict _, _, _, _, hb => nomatch hb
  | .list _, .none, _, _, _, hb => nomatch hb
  | .list _, .bool _, _, _, _, hb => nomatch hb
  | .list _, .str _, _, _, _, hb => nomatch hb
  | .list _, .dict _, _, _, _, hb => nomatch hb
theorem pl_eqvs : ∀ (ts us : List D) {n m : Nat}, (∀ t ∈ ts, Pl n t) → (∀ t ∈ us, Pl m t) → (PyData.eqvAll ts us = true ↔ ts = us)
  | [], [], _, _, _, _ => by simp [PyData.eqvAll]
  | [], _ :: _, _, _, _, _ => by simp [PyData.eqvAll]
  | _ :: _, [], _, _, _, _ => by simp [PyData.eqvAll]
  | t :: ts, u :: us, _, _, ha, hb => by
    have h1 := pl_eqv t u (ha t (by simp)) (hb u (by simp))
    have h2 := pl_eqvs ts us (fun t ht => ha t (by simp [ht])) (fun t ht => hb t (by simp [ht]))
    simp only [PyData.eqvAll, Bool.and_eq_true, h1, h2]
    simp
end
theorem pl_fq {q : Rat} : Pl 1 (fq q) := .tup fun t ht => by
  simp at ht
  rcases ht with rfl | rfl <;> exact .int
/-- l.index(x), the items by a one-to-one way of telling -/
theorem gIndex_eq {α : Type} {F : α → D} {as : List α} {x : α} {j : Nat} {n : Nat} (hp : ∀ y, Pl n (F y)) (hn : n + 1 ≤ 64) (hi : ∀ y z, F y = F z → y = z) (h1 : as[j]? = some x) (h2 : ∀ m, m < j → as[m]? ≠ some x) : gIndex (.list (as.map F)) (F x) = some (.int (j : Nat)) := by
  have f1 := (hp x).flat (by omega)
  have f2 : flat (.list (as.map F)) = true := Pl.flat (n := n + 1) (.lst fun t ht => by obtain ⟨y, _, rfl⟩ := List.mem_map.mp ht; exact hp y) hn
  unfold gIndex
  dsimp only
  rw [f1, f2]
  have e : (as.map F).findIdx? (fun z => PyData.eqv z (F x)) = some j := by
    rw [List.findIdx?_eq_some_iff_getElem]
    obtain ⟨hl, hx⟩ := List.getElem?_eq_some_iff.mp h1
    refine ⟨by rw [List.length_map]; exact hl, ?_, fun m hm => ?_⟩
    · rw [List.getElem_map, hx]
      exact (pl_eqv _ _ (hp x) (hp x)).mpr rfl
    · rw [List.getElem_map]
      intro z
      have := hi _ _ ((pl_eqv _ _ (hp _) (hp x)).mp z)
      exact h2 m hm (by rw [List.getElem?_eq_getElem (by omega), this])
  rw [e]
  rfl
theorem pl_in {d : D} {ds : List D} {n : Nat} (hd : Pl n d) (hs : ∀ t ∈ ds, Pl n t) (hn : n + 1 ≤ 64) [Decidable (d ∈ ds)] : gIn d (.list ds) = some (.bool (decide (d ∈ ds))) := by
  unfold gIn
  dsimp only
  rw [hd.flat (by omega), Pl.flat (n := n + 1) (.lst hs) hn]
  have : (ds.any fun z => PyData.eqv z d) = decide (d ∈ ds) := by
    rw [Bool.eq_iff_iff, List.any_eq_true, decide_eq_true_iff]
    constructor
    · rintro ⟨z, hz, e⟩
      rw [← (pl_eqv _ _ (hs z hz) hd).mp e]
      exact hz
    · intro hz
      exact ⟨d, hz, (pl_eqv _ _ hd hd).mpr rfl⟩
  rw [this]
  rfl
end Mi
namespace Mi
open PySem PySem.Spec PyProof.Rows L2
/-! ### the twos of a list -/
theorem mem_coRows {n : Nat} {p : Nat × Nat} : ∀ {m i : Nat}, p ∈ coRows n m i ↔ i ≤ p.1 ∧ p.1 < i + m ∧ p.1 < p.2 ∧ p.2 < n
  | 0, i => by
    unfold coRows
    simp
    omega
  | m + 1, i => by
    unfold coRows
    rw [List.mem_append, mem_coRows (m := m) (i := i + 1)]
    unfold coRow
    rw [List.mem_map]
    constructor
    · rintro (⟨k, hk, rfl⟩ | h)
      · have := List.mem_range.mp hk
        dsimp only
        omega
      · omega
    · rintro ⟨h1, h2, h3, h4⟩
      by_cases c : p.1 = i
      · exact .inl ⟨p.2 - (i + 1), List.mem_range.mpr (by omega), Prod.ext (by dsimp only; omega) (by dsimp only; omega)⟩
      · exact .inr (by omega)
theorem mem_coAll {n : Nat} {p : Nat × Nat} : p ∈ coAll n ↔ p.1 < p.2 ∧ p.2 < n := by
  unfold coAll
  rw [mem_coRows]
  omega
def twos {α : Type} (d : α) (as : List α) : List (α × α) := (coAll as.length).map fun p => (as.getD p.1 d, as.getD p.2 d)
theorem coTw_map {α : Type} (F : α → D) (d : α) (as : List α) : coTw (as.map F) = (twos d as).map fun q => .tuple [F q.1, F q.2] := by
  unfold coTw twos
  rw [List.length_map, List.map_map]
  refine List.map_congr_left fun p hp => ?_
  obtain ⟨h1, h2⟩ := mem_coAll.mp hp
  have h3 : p.1 < as.length := by omega
  have g : ∀ i, i < as.length → (as.map F).getD i .none = F (as.getD i d) := fun i hi => by
    rw [List.getD_eq_getElem?_getD, List.getElem?_map, List.getElem?_eq_getElem hi, List.getD_eq_getElem?_getD, List.getElem?_eq_getElem hi]
    rfl
  rw [g p.1 h3, g p.2 h2]
  rfl
theorem mem_twos {α : Type} {d : α} {as : List α} {q : α × α} (h : q ∈ twos d as) : q.1 ∈ as ∧ q.2 ∈ as := by
  obtain ⟨p, hp, rfl⟩ := List.mem_map.mp h
  obtain ⟨h1, h2⟩ := mem_coAll.mp hp
  have h3 : p.1 < as.length := by omega
  dsimp only
  rw [List.getD_eq_getElem?_getD, List.getD_eq_getElem?_getD, List.getElem?_eq_getElem h3, List.getElem?_eq_getElem h2]
  exact ⟨List.getElem_mem h3, List.getElem_mem h2⟩
theorem twos_of {α : Type} {d : α} {as : List α} {a b : α} (ha : a ∈ as) (hb : b ∈ as) (h : a ≠ b) : (a, b) ∈ twos d as ∨ (b, a) ∈ twos d as := by
  obtain ⟨i, hi, rfl⟩ := List.mem_iff_getElem.mp ha
  obtain ⟨j, hj, rfl⟩ := List.mem_iff_getElem.mp hb
  have hne : i ≠ j := fun z => h (by subst z; rfl)
  have g : ∀ i (hi : i < as.length), as.getD i d = as[i] := fun i hi => by rw [List.getD_eq_getElem?_getD, List.getElem?_eq_getElem hi]; rfl
  rcases Nat.lt_or_gt_of_ne hne with c | c
  · exact .inl (List.mem_map.mpr ⟨(i, j), mem_coAll.mpr ⟨c, hj⟩, by dsimp only; rw [g i hi, g j hj]⟩)
  · exact .inr (List.mem_map.mpr ⟨(j, i), mem_coAll.mpr ⟨c, hi⟩, by dsimp only; rw [g i hi, g j hj]⟩)
theorem coRows_len (n : Nat) : ∀ m i, (coRows n m i).length ≤ m * n
  | 0, i => by unfold coRows; simp
  | m + 1, i => by
    unfold coRows coRow
    rw [List.length_append, List.length_map, List.length_range]
    have := coRows_len n m (i + 1)
    rw [Nat.add_mul, Nat.one_mul]
    omega
theorem twos_len {α : Type} {d : α} {as : List α} : (twos d as).length ≤ as.length * as.length := by
  unfold twos
  rw [List.length_map]
  exact coRows_len _ _ _
section
variable {r : Da} {ρ : Rho} {w : Ws} {QA : List D → Ws → Prop}
theorem wa_co (h : WA r ρ w fun ts w1 => ∃ ys, ts = [.list ys, .int 2] ∧ ys.length ≤ 100000 ∧ QA (coTw ys) w1) : WA (dCo r) ρ w QA := by
  obtain ⟨ts, w1, e, ys, rfl, hl, q⟩ := h
  refine ⟨coTw ys, w1, ?_, q⟩
  unfold dCo
  rw [e]
  exact if_pos hl
end
end Mi
namespace My
open PySem PySem.Spec PyProof.Rows L2 Mi
local macro_rules
  | `(tactic| sleep 0) => `(tactic| repeat (first | with_reducible refine SeqK.nx ?_ | with_reducible refine SeqK.rt ?_ | with_reducible refine RetK.rt ?_ | with_reducible refine RetW.rt ?_ | with_reducible refine RetK.nx ?_ | with_reducible refine RetW.nx ?_ | with_reducible refine TurnK.nx ?_ | with_reducible refine TurnK.rt ?_ | ((with_reducible apply we_var); (· rfl)) | with_reducible refine we_c ?_ | with_reducible refine we_nerepr ?_ | with_reducible refine we_eqrepr ?_ | with_reducible refine we_nereprx ?_ | with_reducible refine we_eqreprx ?_ | with_reducible refine we_bin ?_ | with_reducible refine wa_cons ?_ | with_reducible refine wa_nil ?_ | with_reducible refine we_pri ?_ | with_reducible refine we_callP ?_ | ((with_reducible apply we_callW); (· rfl)) | with_reducible refine we_callK ?_ | with_reducible refine ws_seq ?_ | with_reducible refine ws_asg ?_ | with_reducible refine ws_if ?_ | with_reducible refine ws_ret ?_ | with_reducible refine ws_skip ?_ | with_reducible refine setk0 ?_ | with_reducible refine setk1 ?_ | with_reducible refine setk2 ?_ | with_reducible refine setk3 ?_ | with_reducible refine setk4 ?_ | with_reducible refine setk5 ?_ | with_reducible refine setk6 ?_ | with_reducible refine setk7 ?_ | with_reducible refine setk8 ?_ | with_reducible refine setk9 ?_ | with_reducible refine setk10 ?_ | with_reducible refine setk11 ?_ | with_reducible refine setk12 ?_ | with_reducible refine setk13 ?_ | with_reducible refine setk14 ?_ | with_reducible refine setk15 ?_ | with_reducible refine setk16 ?_ | with_reducible refine setk17 ?_ | with_reducible refine setk18 ?_ | with_reducible refine setk19 ?_ | with_reducible refine setk20 ?_ | with_reducible refine setk21 ?_ | with_reducible refine setk22 ?_ | with_reducible refine setk23 ?_ | with_reducible refine setk24 ?_ | with_reducible refine setk25 ?_ | with_reducible refine setk26 ?_ | with_reducible refine setk27 ?_ | with_reducible refine setk28 ?_ | with_reducible refine setk29 ?_ | with_reducible refine wg_nm ?_ | with_reducible refine wgs_cons ?_ | with_reducible refine wgs_nil ?_ | with_reducible refine wg_tup ?_ | with_reducible refine wg_lst ?_ | with_reducible refine wt_tr ?_ | with_reducible refine wo_tb ?_ | with_reducible refine wo_ab ?_ | with_reducible refine wt_not ?_ | with_reducible refine wt_and ?_ | with_reducible refine wt_or ?_ | with_reducible refine wt_yes ?_ | with_reducible refine br_t ?_ | with_reducible refine br_f ?_ | with_reducible refine br_nt ?_ | with_reducible refine br_nf ?_ | ((with_reducible apply br_dt); (· with_reducible assumption)) | ((with_reducible apply br_df); (· with_reducible assumption)) | ((with_reducible apply br_ndt); (· with_reducible assumption)) | ((with_reducible apply br_ndf); (· with_reducible assumption)) | with_reducible refine wo_ixt0 ?_ | with_reducible refine wo_ixt1 ?_ | with_reducible refine wo_ixt2 ?_ | with_reducible refine wo_ixl0 ?_ | with_reducible refine wo_ixl1 ?_ | with_reducible refine wo_ixl2 ?_ | with_reducible refine wo_add ?_ | with_reducible refine wo_sub ?_ | ((with_reducible apply wo_mul); (· (first | with_reducible assumption | (exact mulSz (by with_reducible assumption) (by with_reducible assumption) (by omega))))) | with_reducible refine wo_lt ?_ | with_reducible refine wo_le ?_ | with_reducible refine wo_gt ?_ | with_reducible refine wo_ge ?_ | with_reducible refine wo_eq ?_ | with_reducible refine wo_ne ?_ | with_reducible refine wo_neg ?_ | with_reducible refine wo_abs ?_ | with_reducible refine wo_int ?_ | with_reducible refine wo_gcd ?_ | with_reducible refine wo_lenl ?_ | with_reducible refine wo_lent ?_ | with_reducible refine wo_tupl ?_ | with_reducible refine wo_tupt ?_ | ((with_reducible apply fits); (· (first | (simp; done) | (simp; omega) | with_reducible assumption | omega))) | with_reducible refine we_tup ?_ | with_reducible refine we_lst ?_ | with_reducible refine we_if ?_ | with_reducible refine we_andV ?_ | with_reducible refine we_orV ?_ | with_reducible refine we_notV ?_ | with_reducible refine we_chain ?_ | with_reducible refine we_un ?_ | with_reducible refine we_binF ?_ | ((with_reducible apply we_pkO); (· rfl)) | ((with_reducible apply we_pkV); (· rfl)) | with_reducible refine we_comp ?_ | with_reducible refine wipe_nil ?_ | with_reducible refine wipe_cons ?_ | with_reducible refine ws_own ?_ | with_reducible refine ws_fz ?_ | with_reducible refine ws_drop ?_ | with_reducible refine ws_par2 ?_ | with_reducible refine ws_par3 ?_ | with_reducible refine ws_parO ?_ | with_reducible refine ws_app ?_ | with_reducible refine ws_for ?_ | with_reducible refine wa_items ?_ | with_reducible refine wa_zp ?_ | with_reducible refine wa_en ?_ | with_reducible refine wa_app ?_ | with_reducible refine ws_setI ?_ | with_reducible refine IsL.mk ?_ | with_reducible refine IsI.mk ?_ | with_reducible refine Is1.mk ?_ | with_reducible refine Is2.mk ?_ | with_reducible refine Is3.mk ?_ | ((with_reducible apply we_well); (· rfl); (· rfl)) | ((with_reducible apply ws_wset); (· rfl)) | ((with_reducible apply ws_wpair); (· rfl)) | with_reducible refine setw0 ?_ | with_reducible refine setw1 ?_ | with_reducible refine setw2 ?_ | with_reducible refine IsP.mk ?_ | ((with_reducible apply wo_mod); (· (first | decide | with_reducible assumption))) | ((with_reducible apply wo_fdiv); (· (first | decide | with_reducible assumption)); (· (first | with_reducible assumption | (unfold Sz; decide +kernel)))) | ((with_reducible apply wo_divmod); (· (first | decide | with_reducible assumption)); (· (first | with_reducible assumption | (unfold Sz; decide +kernel)))) | with_reducible refine wo_rev ?_ | with_reducible refine ws_while ?_ | with_reducible refine TurnK.bk ?_ | with_reducible refine TurnK.ct ?_ | with_reducible refine ws_brk ?_ | with_reducible refine ws_cnt ?_ | with_reducible refine IsX.l ?_ | with_reducible refine IsX.t ?_ | ((with_reducible apply IsX.of); (· with_reducible assumption)) | ((with_reducible apply wo_lenx); (· with_reducible assumption)) | ((with_reducible apply ownat); (· rfl)) | with_reducible refine dropk_val ?_ | with_reducible refine dropk_none ?_ | with_reducible refine dropk_nil ?_ | with_reducible refine dropk_own ?_ | with_reducible refine dropk_well ?_ | with_reducible refine we_comp2 ?_ | with_reducible refine ws_parOO ?_ | with_reducible refine ws_par3O ?_ | with_reducible refine wo_isb ?_ | with_reducible refine wo_nob ?_ | with_reducible refine wo_iaddi ?_ | with_reducible refine ws_ext ?_ | with_reducible refine wa_co ?_ | refine wo_ixt0 ?_ | refine wo_ixt1 ?_ | refine wo_ixt2 ?_ | refine wo_ixl0 ?_ | refine wo_lent ?_ | refine wo_lenl ?_ | refine wo_tupl ?_ | refine IsL.mk ?_ | refine IsX.l ?_ | refine IsX.t ?_ | refine wg_tup ?_))
local macro_rules
  | `(tactic| sleep 1) => `(tactic| simp only [rho0, List.map_cons, List.map_nil, List.length_cons, List.length_nil, List.cons_append, List.nil_append, List.replicate, Nat.reduceSub, Nat.reduceAdd, Nat.zero_add, Nat.sub_zero])
/-! ### the nearest place of a field -/
def dE (e : E3) (p : P2) : Rat := e.1 * p.1 + e.2.1 * p.2
def gapQ (p q : P2) : Rat := (p.1 - q.1) * (p.1 - q.1) + (p.2 - q.2) * (p.2 - q.2)
def segQ (q t : P2) (l : Rat) : P2 := (q.1 + l * (t.1 - q.1), q.2 + l * (t.2 - q.2))
def nrm (e : E3) : Rat := e.1 * e.1 + e.2.1 * e.2.1
def detE (e f : E3) : Rat := e.1 * f.2.1 - f.1 * e.2.1
def footQ (e : E3) (p : P2) : P2 := (p.1 - (dE e p - e.2.2) / nrm e * e.1, p.2 - (dE e p - e.2.2) / nrm e * e.2.1)
def crossQ (e f : E3) : P2 := ((e.2.2 * f.2.1 - f.2.2 * e.2.1) / detE e f, (e.1 * f.2.2 - f.1 * e.2.2) / detE e f)
structure NormOk (es : List E3) : Prop where
  ne : ∀ e ∈ es, e.1 ≠ 0 ∨ e.2.1 ≠ 0
theorem inside_iff {es : List E3} {p : P2} : inside es p = true ↔ ∀ e ∈ es, dE e p ≤ e.2.2 := by
  unfold inside
  rw [List.all_eq_true]
  constructor
  · intro h e he
    exact of_decide_eq_true (h e he)
  · intro h e he
    exact decide_eq_true (h e he)
theorem sq_ge (a : Rat) : 0 ≤ a * a := by
  by_cases h : 0 ≤ a
  · exact Rat.mul_nonneg h h
  · have h2 : 0 ≤ -a := by grind
    have := Rat.mul_nonneg h2 h2
    grind
theorem sq_zero_iff {a : Rat} : a * a = 0 ↔ a = 0 := by
  constructor
  · intro h
    rcases Rat.mul_eq_zero.mp h with h | h <;> exact h
  · intro h
    rw [h, Rat.mul_zero]
theorem nrm_pos {e : E3} (h : e.1 ≠ 0 ∨ e.2.1 ≠ 0) : 0 < nrm e := by
  have h1 := sq_ge e.1
  have h2 := sq_ge e.2.1
  have h3 : nrm e ≠ 0 := by
    intro z
    unfold nrm at z
    have z1 : e.1 * e.1 = 0 := by grind
    have z2 : e.2.1 * e.2.1 = 0 := by grind
    rcases h with h | h
    · exact h (sq_zero_iff.mp z1)
    · exact h (sq_zero_iff.mp z2)
  unfold nrm at h3 ⊢
  grind
theorem seg_dE (e : E3) (q t : P2) (l : Rat) : dE e (segQ q t l) = dE e q + l * (dE e t - dE e q) := by
  unfold dE segQ
  grind
theorem seg_seg (q t : P2) (l m : Rat) : segQ q (segQ q t l) m = segQ q t (m * l) := by
  unfold segQ
  simp only [Prod.mk.injEq]
  constructor <;> grind
theorem seg_conv {a b l : Rat} {c : Rat} (h0 : 0 ≤ l) (h1 : l ≤ 1) (ha : a ≤ c) (hb : b ≤ c) : a + l * (b - a) ≤ c := by
  have g1 : 0 ≤ l * (c - b) := Rat.mul_nonneg h0 (by grind)
  have g2 : 0 ≤ (1 - l) * (c - a) := Rat.mul_nonneg (by grind) (by grind)
  grind
theorem seg_inside {es : List E3} {q t : P2} {l : Rat} (h0 : 0 ≤ l) (h1 : l ≤ 1) (hq : ∀ e ∈ es, dE e q ≤ e.2.2) (ht : ∀ e ∈ es, dE e t ≤ e.2.2) : ∀ e ∈ es, dE e (segQ q t l) ≤ e.2.2 := fun e he => by
  rw [seg_dE]
  exact seg_conv h0 h1 (hq e he) (ht e he)
/-- from a place of a field towards another place: it is reached, or a side stops the way -/
theorem move (q t : P2) : ∀ es : List E3, (∀ e ∈ es, dE e q ≤ e.2.2) → (∀ e ∈ es, dE e t ≤ e.2.2) ∨ ∃ e ∈ es, ∃ l : Rat, 0 ≤ l ∧ l ≤ 1 ∧ (∀ f ∈ es, dE f (segQ q t l) ≤ f.2.2) ∧ dE e (segQ q t l) = e.2.2 ∧ e.2.2 < dE e t
  | [], _ => .inl fun e he => nomatch he
  | e0 :: es, hq => by
    have hq0 := hq e0 (by simp)
    have hq' : ∀ e ∈ es, dE e q ≤ e.2.2 := fun e he => hq e (by simp [he])
    have stop : ∀ t' : P2, (∀ e ∈ es, dE e t' ≤ e.2.2) → e0.2.2 < dE e0 t' → ∃ l : Rat, 0 ≤ l ∧ l ≤ 1 ∧ (∀ f ∈ e0 :: es, dE f (segQ q t' l) ≤ f.2.2) ∧ dE e0 (segQ q t' l) = e0.2.2 := fun t' ht' h0 => by
      have hd : 0 < dE e0 t' - dE e0 q := by grind
      have hdn : dE e0 t' - dE e0 q ≠ 0 := by grind
      have hm : (e0.2.2 - dE e0 q) / (dE e0 t' - dE e0 q) * (dE e0 t' - dE e0 q) = e0.2.2 - dE e0 q := Rat.div_mul_cancel hdn
      have hl0 : 0 ≤ (e0.2.2 - dE e0 q) / (dE e0 t' - dE e0 q) := by
        rw [← le_mul_iff (A := 0) hd, hm, Rat.zero_mul]
        grind
      have hl1 : (e0.2.2 - dE e0 q) / (dE e0 t' - dE e0 q) ≤ 1 := by
        rw [← le_mul_iff hd, hm, Rat.one_mul]
        grind
      have tight : dE e0 (segQ q t' ((e0.2.2 - dE e0 q) / (dE e0 t' - dE e0 q))) = e0.2.2 := by
        rw [seg_dE, hm]
        grind
      refine ⟨_, hl0, hl1, fun f hf => ?_, tight⟩
      rcases List.mem_cons.mp hf with rfl | hf
      · rw [tight]
        exact Rat.le_refl
      · exact seg_inside hl0 hl1 hq' ht' f hf
    rcases move q t es hq' with h | ⟨e, he, l, hl0, hl1, hin, htight, hgt⟩
    · by_cases c : dE e0 t ≤ e0.2.2
      · refine .inl fun e he => ?_
        rcases List.mem_cons.mp he with rfl | he
        · exact c
        · exact h e he
      · have c2 := Rat.not_le.mp c
        obtain ⟨l, h0, h1, h2, h3⟩ := stop t h c2
        exact .inr ⟨e0, by simp, l, h0, h1, h2, h3, c2⟩
    · by_cases c : dE e0 (segQ q t l) ≤ e0.2.2
      · refine .inr ⟨e, by simp [he], l, hl0, hl1, fun f hf => ?_, htight, hgt⟩
        rcases List.mem_cons.mp hf with rfl | hf
        · exact c
        · exact hin f hf
      · have c2 := Rat.not_le.mp c
        obtain ⟨m, h0, h1, h2, h3⟩ := stop (segQ q t l) hin c2
        rw [seg_seg] at h2 h3
        have gt : e0.2.2 < dE e0 t := by
          rw [seg_dE] at c2
          have g : 0 < l * (dE e0 t - dE e0 q) := by grind
          have g2 : dE e0 t - dE e0 q > 0 := by
            rcases Rat.le_total (a := dE e0 t - dE e0 q) (b := 0) with z | z
            · have := Rat.mul_nonneg hl0 (show 0 ≤ -(dE e0 t - dE e0 q) by grind)
              grind
            · by_cases zz : dE e0 t - dE e0 q = 0
              · rw [zz, Rat.mul_zero] at g
                exact absurd g Rat.lt_irrefl
              · grind
          have g3 : 0 ≤ (1 - l) * (dE e0 t - dE e0 q) := Rat.mul_nonneg (by grind) (by grind)
          grind
        refine .inr ⟨e0, by simp, m * l, Rat.mul_nonneg h0 hl0, ?_, h2, h3, gt⟩
        have := Rat.mul_nonneg (show 0 ≤ 1 - m by grind) hl0
        grind
theorem gap_seg (q p : P2) (l : Rat) : gapQ p (segQ q p l) = (1 - l) * (1 - l) * gapQ p q := by
  unfold gapQ segQ
  grind
theorem gap_ge (p q : P2) : 0 ≤ gapQ p q := by
  have h1 := sq_ge (p.1 - q.1)
  have h2 := sq_ge (p.2 - q.2)
  unfold gapQ
  grind
theorem sq_le_one {l : Rat} (h0 : 0 ≤ l) (h1 : l ≤ 1) : (1 - l) * (1 - l) ≤ 1 := by
  have := Rat.mul_nonneg h0 (show 0 ≤ 2 - l by grind)
  grind
theorem gap_shrink {q p : P2} {l : Rat} (h0 : 0 ≤ l) (h1 : l ≤ 1) : gapQ p (segQ q p l) ≤ gapQ p q := by
  rw [gap_seg]
  have := Rat.mul_le_mul_of_nonneg_right (sq_le_one h0 h1) (gap_ge p q)
  grind
theorem foot_on {e : E3} (h : e.1 ≠ 0 ∨ e.2.1 ≠ 0) (p : P2) : dE e (footQ e p) = e.2.2 := by
  have hn := nrm_pos h
  have hm : (dE e p - e.2.2) / nrm e * nrm e = dE e p - e.2.2 := Rat.div_mul_cancel (by grind)
  unfold footQ
  generalize (dE e p - e.2.2) / nrm e = k at hm
  unfold nrm at hm
  unfold dE at hm ⊢
  grind
theorem foot_pyth {e : E3} (h : e.1 ≠ 0 ∨ e.2.1 ≠ 0) (p x : P2) (hx : dE e x = e.2.2) : gapQ p x = gapQ (footQ e p) x + gapQ p (footQ e p) := by
  have hf := foot_on h p
  unfold footQ at hf ⊢
  generalize (dE e p - e.2.2) / nrm e = k at hf
  unfold dE at hx hf
  unfold gapQ
  grind
theorem mul_canc {a b c : Rat} (h : c ≠ 0) (e : a * c = b * c) : a = b := by
  have : (a - b) * c = 0 := by grind
  rcases Rat.mul_eq_zero.mp this with k | k
  · grind
  · exact absurd k h
/-- Cramer -/
theorem cross_on {e f : E3} (h : detE e f ≠ 0) : dE e (crossQ e f) = e.2.2 ∧ dE f (crossQ e f) = f.2.2 := by
  have h1 : (e.2.2 * f.2.1 - f.2.2 * e.2.1) / detE e f * detE e f = e.2.2 * f.2.1 - f.2.2 * e.2.1 := Rat.div_mul_cancel h
  have h2 : (e.1 * f.2.2 - f.1 * e.2.2) / detE e f * detE e f = e.1 * f.2.2 - f.1 * e.2.2 := Rat.div_mul_cancel h
  unfold crossQ dE
  generalize (e.2.2 * f.2.1 - f.2.2 * e.2.1) / detE e f = x at h1
  generalize (e.1 * f.2.2 - f.1 * e.2.2) / detE e f = y at h2
  have k1 : (e.1 * x + e.2.1 * y) * detE e f = e.2.2 * detE e f := by unfold detE at *; grind
  have k2 : (f.1 * x + f.2.1 * y) * detE e f = f.2.2 * detE e f := by unfold detE at *; grind
  exact ⟨mul_canc h k1, mul_canc h k2⟩
theorem cross_is {e f : E3} (h : detE e f ≠ 0) {x : P2} (h1 : dE e x = e.2.2) (h2 : dE f x = f.2.2) : x = crossQ e f := by
  have k1 : x.1 * detE e f = e.2.2 * f.2.1 - f.2.2 * e.2.1 := by unfold dE at *; unfold detE; grind
  have k2 : x.2 * detE e f = e.1 * f.2.2 - f.1 * e.2.2 := by unfold dE at *; unfold detE; grind
  unfold crossQ
  rw [← k1, ← k2, Rat.mul_div_cancel h, Rat.mul_div_cancel h]
theorem det_swap (e f : E3) : detE e f = -detE f e := by unfold detE; grind
theorem cross_swap {e f : E3} (h : detE e f ≠ 0) : crossQ f e = crossQ e f := by
  have h' : detE f e ≠ 0 := by rw [det_swap] at h; grind
  obtain ⟨a, b⟩ := cross_on h'
  exact cross_is h b a
inductive Cand (es : List E3) (p : P2) : P2 → Prop
  | self : Cand es p p
  | foot {e : E3} (h : e ∈ es) : Cand es p (footQ e p)
  | cross {e f : E3} (h1 : e ∈ es) (h2 : f ∈ es) (h : detE e f ≠ 0) : Cand es p (crossQ e f)
theorem cand_near {es : List E3} (hn : NormOk es) {p q : P2} (hq : ∀ e ∈ es, dE e q ≤ e.2.2) : ∃ c, Cand es p c ∧ (∀ e ∈ es, dE e c ≤ e.2.2) ∧ gapQ p c ≤ gapQ p q := by
  rcases move q p es hq with h | ⟨e, he, l, hl0, hl1, hin, htight, hgt⟩
  · refine ⟨p, .self, h, ?_⟩
    have := gap_ge p q
    have e0 : gapQ p p = 0 := by unfold gapQ; grind
    rw [e0]
    exact this
  · have g1 := gap_shrink (q := q) (p := p) hl0 hl1
    generalize segQ q p l = x at hin htight g1
    have hne := hn.ne e he
    rcases move x (footQ e p) es hin with h | ⟨f, hf, m, hm0, hm1, hin2, htight2, hgt2⟩
    · refine ⟨_, .foot he, h, ?_⟩
      have := foot_pyth hne p x htight
      have g := gap_ge (footQ e p) x
      grind
    · have on : dE e (segQ x (footQ e p) m) = e.2.2 := by
        rw [seg_dE, htight, foot_on hne]
        grind
      have hd : detE e f ≠ 0 := fun z => by
        have hx := foot_on hne p
        have hn2 := nrm_pos hne
        have key : (dE f (footQ e p) - dE f (segQ x (footQ e p) m)) * nrm e = 0 := by
          generalize footQ e p = y at hx on ⊢
          generalize segQ x y m = u at on ⊢
          unfold dE at *
          unfold detE at z
          unfold nrm
          have c1 : e.1 * (y.1 - u.1) + e.2.1 * (y.2 - u.2) = 0 := by grind
          grind
        rcases Rat.mul_eq_zero.mp key with k | k
        · grind
        · rw [k] at hn2
          exact absurd hn2 Rat.lt_irrefl
      have hc := cross_is hd on htight2
      refine ⟨_, .cross he hf hd, ?_, ?_⟩
      · rw [← hc]
        exact hin2
      · rw [← hc]
        have p1 := foot_pyth hne p (segQ x (footQ e p) m) on
        have p2 := foot_pyth hne p x htight
        have p3 := gap_shrink (q := x) (p := footQ e p) hm0 hm1
        grind
structure IsNear (es : List E3) (p q : P2) : Prop where
  ins : ∀ e ∈ es, dE e q ≤ e.2.2
  le : ∀ r, (∀ e ∈ es, dE e r ≤ e.2.2) → gapQ p q ≤ gapQ p r
theorem gap_mid (p q r : P2) : gapQ p (segQ q r (1 / 2)) = gapQ p q / 2 + gapQ p r / 2 - gapQ q r / 4 := by
  unfold gapQ segQ
  grind
theorem gap_eq {q r : P2} (h : gapQ q r ≤ 0) : q = r := by
  have h1 := sq_ge (q.1 - r.1)
  have h2 := sq_ge (q.2 - r.2)
  unfold gapQ at h
  have z1 : (q.1 - r.1) * (q.1 - r.1) = 0 := by grind
  have z2 : (q.2 - r.2) * (q.2 - r.2) = 0 := by grind
  have y1 := sq_zero_iff.mp z1
  have y2 := sq_zero_iff.mp z2
  exact Prod.ext (by grind) (by grind)
theorem IsNear.uniq {es : List E3} {p q r : P2} (hq : IsNear es p q) (hr : IsNear es p r) : q = r := by
  have h1 := hq.le _ (seg_inside (l := 1 / 2) (by decide +kernel) (by decide +kernel) hq.ins hr.ins)
  have h2 := hq.le _ hr.ins
  have h3 := hr.le _ hq.ins
  rw [gap_mid] at h1
  exact gap_eq (by grind)
/-- the angle at the nearest place is right or obtuse -/
theorem IsNear.obtuse {es : List E3} {p q r : P2} (h : IsNear es p q) (hr : ∀ e ∈ es, dE e r ≤ e.2.2) : (p.1 - q.1) * (r.1 - q.1) + (p.2 - q.2) * (r.2 - q.2) ≤ 0 := by
  rcases Rat.le_total (a := (p.1 - q.1) * (r.1 - q.1) + (p.2 - q.2) * (r.2 - q.2)) (b := 0) with z | z
  · exact z
  · by_cases zz : (p.1 - q.1) * (r.1 - q.1) + (p.2 - q.2) * (r.2 - q.2) = 0
    · rw [zz]
      exact Rat.le_refl
    · exfalso
      have hD : 0 < (p.1 - q.1) * (r.1 - q.1) + (p.2 - q.2) * (r.2 - q.2) := by grind
      have gen : ∀ l : Rat, 0 ≤ l → l ≤ 1 → 0 ≤ l * l * gapQ q r - 2 * l * ((p.1 - q.1) * (r.1 - q.1) + (p.2 - q.2) * (r.2 - q.2)) := fun l h0 h1 => by
        have := h.le _ (seg_inside (l := l) h0 h1 h.ins hr)
        unfold gapQ segQ at *
        grind
      have hg := gap_ge q r
      generalize (p.1 - q.1) * (r.1 - q.1) + (p.2 - q.2) * (r.2 - q.2) = D at *
      generalize gapQ q r = G at *
      by_cases c : G ≤ D
      · have := gen 1 (by decide +kernel) Rat.le_refl
        grind
      · have c2 := Rat.not_le.mp c
        have hG : 0 < G := by grind
        have hm : D / G * G = D := Rat.div_mul_cancel (by grind)
        have l0 : 0 ≤ D / G := by rw [← le_mul_iff (A := 0) hG, hm, Rat.zero_mul]; grind
        have l1 : D / G ≤ 1 := by rw [← le_mul_iff hG, hm, Rat.one_mul]; grind
        have := gen (D / G) l0 l1
        have k : D / G * (D / G) * G = D / G * D := by rw [Rat.mul_assoc, hm]
        have k2 : 0 < D / G := by
          rcases Rat.le_iff_lt_or_eq.mp l0 with z | z
          · exact z
          · rw [← z, Rat.zero_mul] at hm
            grind
        have k3 := Rat.mul_pos k2 hD
        grind

theorem natSz {a k : Nat} (h : a < 2 ^ k) : Sz k (a : Int) := by unfold Sz; simpa using h
theorem divInt_cast {z N : Int} {q : Rat} (h : (z : Rat) = q * (N : Rat)) (hN : N ≠ 0) : Rat.divInt z N = q := by
  have hr : (N : Rat) ≠ 0 := by
    intro e
    exact hN (by exact_mod_cast e)
  rw [Rat.divInt_eq_div, h, Rat.div_def, Rat.mul_assoc, Rat.mul_inv_cancel _ hr, Rat.mul_one]
/-! ### bounds for the tops and the unders of fractions -/
structure Nd (a b : Nat) (q : Rat) : Prop where
  n : Sz a q.num
  d : Sz b (q.den : Int)
theorem Nd.mono {a b a' b' : Nat} {q : Rat} (h : Nd a b q) (h1 : a ≤ a') (h2 : b ≤ b') : Nd a' b' q := ⟨h.n.mono h1, h.d.mono h2⟩
theorem Nd.sq {a b k : Nat} {q : Rat} (h : Nd a b q) (h1 : a ≤ k) (h2 : b ≤ k) : Sq k q := ⟨h.n.mono h1, h.d.mono h2⟩
theorem nd_divInt {a b : Nat} {n m : Int} (hn : Sz a n) (hm : Sz b m) (h0 : m ≠ 0) : Nd a b (Rat.divInt n m) := by
  have h1 : Rat.divInt n m = Rat.divInt (if 0 < m then n else -n) (m.natAbs : Int) := by
    split
    · rw [Int.natAbs_of_nonneg (by omega)]
    · rw [show ((m.natAbs : Nat) : Int) = -m by omega, Rat.neg_divInt_neg]
  have hp : (0 : Int) < (m.natAbs : Int) := by omega
  have hn2 : Sz a (if 0 < m then n else -n) := by
    split
    · exact hn
    · exact hn.neg
  have hm2 : Sz b (m.natAbs : Int) := by unfold Sz at *; simpa using hm
  rw [h1]
  generalize (if 0 < m then n else -n) = n2 at hn2
  generalize ((m.natAbs : Nat) : Int) = m2 at hp hm2
  have e := fr_divInt (n := n2) hp
  unfold fq fr at e
  simp at e
  refine ⟨?_, ?_⟩
  · rw [← e.1]
    refine hn2.le_of ?_
    exact Int.natAbs_ediv_le_natAbs _ _
  · rw [← e.2]
    refine hm2.le_of ?_
    exact Int.natAbs_ediv_le_natAbs _ _
theorem Nd.add {a b a' b' c : Nat} {p q : Rat} (hp : Nd a b p) (hq : Nd a' b' q) (h1 : a + b' < c) (h2 : a' + b < c) : Nd c (b + b') (p + q) := by
  rw [q_add]
  refine nd_divInt ?_ (hp.d.mul hq.d) (Int.mul_ne_zero (den_ne p) (den_ne q))
  exact (((hp.n.mul hq.d).mono (show a + b' ≤ c - 1 by omega)).add ((hq.n.mul hp.d).mono (show a' + b ≤ c - 1 by omega))).mono (by omega)
theorem Nd.mul {a b a' b' : Nat} {p q : Rat} (hp : Nd a b p) (hq : Nd a' b' q) : Nd (a + a') (b + b') (p * q) := by
  rw [q_mul]
  exact nd_divInt (hp.n.mul hq.n) (hp.d.mul hq.d) (Int.mul_ne_zero (den_ne p) (den_ne q))
theorem Nd.neg {a b : Nat} {p : Rat} (hp : Nd a b p) : Nd a b (-p) := ⟨show Sz a (-p.num) from hp.n.neg, hp.d⟩
theorem Nd.sub {a b a' b' c : Nat} {p q : Rat} (hp : Nd a b p) (hq : Nd a' b' q) (h1 : a + b' < c) (h2 : a' + b < c) : Nd c (b + b') (p - q) := by
  rw [Rat.sub_eq_add_neg]
  exact hp.add hq.neg h1 h2
theorem nd_int {a : Nat} {n : Int} (h : Sz a n) : Nd a 1 (n : Rat) := ⟨h, by show (1 : Int).natAbs < 2; decide⟩
structure NdP (a b : Nat) (p : P2) : Prop where
  x : Nd a b p.1
  y : Nd a b p.2
theorem NdP.sq {a b k : Nat} {p : P2} (h : NdP a b p) (h1 : a ≤ k) (h2 : b ≤ k) : SqP k p := ⟨h.x.sq h1 h2, h.y.sq h1 h2⟩
theorem NdP.mono {a b a' b' : Nat} {p : P2} (h : NdP a b p) (h1 : a ≤ a') (h2 : b ≤ b') : NdP a' b' p := ⟨h.x.mono h1 h2, h.y.mono h1 h2⟩
structure EdB (e : E3) : Prop where
  a : Nd 9 6 e.1
  b : Nd 9 6 e.2.1
  c : Nd 84 72 e.2.2
  ne : e.1 ≠ 0 ∨ e.2.1 ≠ 0
/-! ### whole numbers: lines and places -/
structure Zb (p q : Nat) (l : L3) : Prop where
  a : Sz p l.1
  b : Sz p l.2.1
  c : Sz q l.2.2
theorem Zb.szL {p q k : Nat} {l : L3} (h : Zb p q l) (h1 : p ≤ k) (h2 : q ≤ k) : SzL k l := ⟨h.a.mono h1, h.b.mono h1, h.c.mono h2⟩
theorem Zb.mono {p q p' q' : Nat} {l : L3} (h : Zb p q l) (h1 : p ≤ p') (h2 : q ≤ q') : Zb p' q' l := ⟨h.a.mono h1, h.b.mono h1, h.c.mono h2⟩
theorem zb_lineL {e : E3} (h : EdB e) : Zb 87 96 (lineL e) :=
  ⟨((h.a.n.mul h.b.d).mul h.c.d).mono (by decide), ((h.b.n.mul h.a.d).mul h.c.d).mono (by decide), ((h.c.n.mul h.a.d).mul h.b.d).mono (by decide)⟩
theorem zb_pointL {a b : Nat} {p : P2} (h : NdP a b p) : Zb (a + b) (b + b) (pointL p) := ⟨h.x.n.mul h.y.d, h.y.n.mul h.x.d, h.x.d.mul h.y.d⟩
theorem upL_le {L : Nat} {q : Rat} {a j : Nat} (hq : Sz a q.num) (hL : L < 2 ^ j) : Sz (a + j) (upL L q) := by
  unfold upL
  refine hq.mul ?_
  unfold Sz
  rw [show ((L : Int) / (q.den : Int)).natAbs = L / q.den by rw [← Int.natCast_ediv]; rfl]
  exact Nat.lt_of_le_of_lt (Nat.div_le_self _ _) hL
theorem lcm_lt {a b j k : Nat} (ha : a < 2 ^ j) (hb : b < 2 ^ k) (h0 : 0 < a) (h1 : 0 < b) : Nat.lcm a b < 2 ^ (j + k) := lcm_le ha hb h0 h1
theorem nat_of_sz {b : Nat} {d : Nat} (h : Sz b (d : Int)) : d < 2 ^ b := by unfold Sz at h; simpa using h
theorem scale2_lt {a b : Nat} {p : P2} (h : NdP a b p) : scaleOf [p.1, p.2] < 2 ^ (1 + b + b) := by
  unfold scaleOf
  simp only [List.foldl_cons, List.foldl_nil]
  have h1 := nat_of_sz h.x.d
  have h2 := nat_of_sz h.y.d
  exact lcm_lt (lcm_lt (j := 1) (by decide) h1 (by decide) p.1.den_pos) h2 (Nat.lcm_pos (by decide) p.1.den_pos) p.2.den_pos
theorem zb_spotL {a b : Nat} {p : P2} (h : NdP a b p) : Zb (a + (1 + b + b)) (1 + b + b) (spotL p) := by
  have hs := scale2_lt h
  exact ⟨upL_le h.x.n hs, upL_le h.y.n hs, natSz hs⟩
theorem scale3_lt {e : E3} (h : EdB e) : scaleOf [e.1, e.2.1, e.2.2] < 2 ^ (1 + 6 + 6 + 72) := by
  unfold scaleOf
  simp only [List.foldl_cons, List.foldl_nil]
  have h1 := nat_of_sz h.a.d
  have h2 := nat_of_sz h.b.d
  have h3 := nat_of_sz h.c.d
  have p1 := Nat.lcm_pos (m := 1) (by decide) e.1.den_pos
  exact lcm_lt (lcm_lt (lcm_lt (j := 1) (by decide) h1 (by decide) e.1.den_pos) h2 p1 e.2.1.den_pos) h3 (Nat.lcm_pos p1 e.2.1.den_pos) e.2.2.den_pos
theorem zb_sideL {e : E3} (h : EdB e) : Zb 94 169 (sideL e) := by
  have hs := scale3_lt h
  exact ⟨(upL_le h.a.n hs).mono (by decide), (upL_le h.b.n hs).mono (by decide), (upL_le h.c.n hs).mono (by decide)⟩
def footL (l s : L3) : L3 :=
  (s.1 * (l.1 * l.1 + l.2.1 * l.2.1) - (l.1 * s.1 + l.2.1 * s.2.1 - l.2.2 * s.2.2) * l.1, s.2.1 * (l.1 * l.1 + l.2.1 * l.2.1) - (l.1 * s.1 + l.2.1 * s.2.1 - l.2.2 * s.2.2) * l.2.1, s.2.2 * (l.1 * l.1 + l.2.1 * l.2.1))
def detL (l m : L3) : Int := l.1 * m.2.1 - m.1 * l.2.1
def crossX (l m : L3) : Int := l.2.2 * m.2.1 - m.2.2 * l.2.1
def crossY (l m : L3) : Int := l.1 * m.2.2 - m.1 * l.2.2
def crossL (l m : L3) : L3 := if detL l m < 0 then (-(crossX l m), -(crossY l m), -(detL l m)) else (crossX l m, crossY l m, detL l m)
theorem zb_foot {A C X W : Nat} {l s : L3} (hl : Zb A C l) (hs : Zb X W s) (hXW : C + W ≤ A + X) : Zb (A + A + X + 3) (W + (A + A + 1)) (footL l s) := by
  have hz : Sz (A + A + 1) (l.1 * l.1 + l.2.1 * l.2.1) := (hl.a.mul hl.a).add (hl.b.mul hl.b)
  have ho : Sz (A + X + 1 + 1) (l.1 * s.1 + l.2.1 * s.2.1 - l.2.2 * s.2.2) := ((hl.a.mul hs.a).add (hl.b.mul hs.b)).sub ((hl.c.mul hs.c).mono (by omega))
  exact ⟨(((hs.a.mul hz).mono (show X + (A + A + 1) ≤ A + A + X + 2 by omega)).sub ((ho.mul hl.a).mono (show A + X + 1 + 1 + A ≤ A + A + X + 2 by omega))), (((hs.b.mul hz).mono (show X + (A + A + 1) ≤ A + A + X + 2 by omega)).sub ((ho.mul hl.b).mono (show A + X + 1 + 1 + A ≤ A + A + X + 2 by omega))), hs.c.mul hz⟩
theorem zb_cross {A C : Nat} {l m : L3} (hl : Zb A C l) (hm : Zb A C m) : Zb (C + A + 1) (A + A + 1) (crossL l m) := by
  have h1 : Sz (A + A + 1) (detL l m) := (hl.a.mul hm.b).sub (hm.a.mul hl.b)
  have h2 : Sz (C + A + 1) (crossX l m) := (hl.c.mul hm.b).sub (hm.c.mul hl.b)
  have h3 : Sz (C + A + 1) (crossY l m) := ((hl.a.mul hm.c).mono (by omega)).sub ((hm.a.mul hl.c).mono (by omega))
  unfold crossL
  split
  · exact ⟨h2.neg, h3.neg, h1.neg⟩
  · exact ⟨h2, h3, h1⟩
theorem rep_foot {e : E3} {p : P2} {l s : L3} (he : RepE e l) (hs : RepP p s) (hne : e.1 ≠ 0 ∨ e.2.1 ≠ 0) : RepP (footQ e p) (footL l s) := by
  obtain ⟨k, hk, ha, hb, hc⟩ := he
  obtain ⟨h0, hx, hy⟩ := hs
  have hn := nrm_pos hne
  have hm : (dE e p - e.2.2) / nrm e * nrm e = dE e p - e.2.2 := Rat.div_mul_cancel (by grind)
  have hz : ((l.1 * l.1 + l.2.1 * l.2.1 : Int) : Rat) = k * k * nrm e := by
    push_cast
    rw [ha, hb]
    unfold nrm
    grind
  refine ⟨?_, ?_, ?_⟩
  · show 0 < s.2.2 * (l.1 * l.1 + l.2.1 * l.2.1)
    refine Int.mul_pos h0 ?_
    have : (0 : Rat) < ((l.1 * l.1 + l.2.1 * l.2.1 : Int) : Rat) := by
      rw [hz]
      exact Rat.mul_pos (Rat.mul_pos hk hk) hn
    exact_mod_cast this
  · unfold footL footQ
    generalize (dE e p - e.2.2) / nrm e = u at hm
    unfold dE nrm at hm
    dsimp only
    push_cast
    rw [ha, hb, hc, hx, hy]
    grind
  · unfold footL footQ
    generalize (dE e p - e.2.2) / nrm e = u at hm
    unfold dE nrm at hm
    dsimp only
    push_cast
    rw [ha, hb, hc, hx, hy]
    grind
theorem rep_det {e f : E3} {l m : L3} (he : RepE e l) (hf : RepE f m) : (detL l m = 0 ↔ detE e f = 0) := by
  obtain ⟨k, hk, ha, hb, hc⟩ := he
  obtain ⟨k2, hk2, ha2, hb2, hc2⟩ := hf
  have e1 : ((detL l m : Int) : Rat) = k * k2 * detE e f := by
    unfold detL detE
    push_cast
    rw [ha, hb, ha2, hb2]
    grind
  have hp := Rat.mul_pos hk hk2
  constructor
  · intro z
    rw [z] at e1
    have : k * k2 * detE e f = 0 := by rw [← e1]; rfl
    rcases Rat.mul_eq_zero.mp this with q | q
    · rw [q] at hp
      exact absurd hp Rat.lt_irrefl
    · exact q
  · intro z
    rw [z, Rat.mul_zero] at e1
    exact_mod_cast e1
theorem rep_cross {e f : E3} {l m : L3} (he : RepE e l) (hf : RepE f m) (hd : detE e f ≠ 0) : RepP (crossQ e f) (crossL l m) := by
  have hd2 : detL l m ≠ 0 := fun z => hd ((rep_det he hf).mp z)
  obtain ⟨k, hk, ha, hb, hc⟩ := he
  obtain ⟨k2, hk2, ha2, hb2, hc2⟩ := hf
  have h1 : (e.2.2 * f.2.1 - f.2.2 * e.2.1) / detE e f * detE e f = e.2.2 * f.2.1 - f.2.2 * e.2.1 := Rat.div_mul_cancel hd
  have h2 : (e.1 * f.2.2 - f.1 * e.2.2) / detE e f * detE e f = e.1 * f.2.2 - f.1 * e.2.2 := Rat.div_mul_cancel hd
  have e1 : ((detL l m : Int) : Rat) = k * k2 * detE e f := by
    unfold detL detE
    push_cast
    rw [ha, hb, ha2, hb2]
    grind
  have ex : ((crossX l m : Int) : Rat) = (crossQ e f).1 * ((detL l m : Int) : Rat) := by
    rw [e1]
    unfold crossX crossQ
    push_cast
    rw [hb, hc, hb2, hc2]
    grind
  have ey : ((crossY l m : Int) : Rat) = (crossQ e f).2 * ((detL l m : Int) : Rat) := by
    rw [e1]
    unfold crossY crossQ
    push_cast
    rw [ha, hc, ha2, hc2]
    grind
  unfold crossL
  split
  · refine ⟨by show 0 < -(detL l m); omega, ?_, ?_⟩
    · show ((-(crossX l m) : Int) : Rat) = (crossQ e f).1 * ((-(detL l m) : Int) : Rat)
      push_cast
      grind
    · show ((-(crossY l m) : Int) : Rat) = (crossQ e f).2 * ((-(detL l m) : Int) : Rat)
      push_cast
      grind
  · exact ⟨by show 0 < detL l m; omega, ex, ey⟩
def sqN (s t : L3) : Int := (s.1 * t.2.2 - t.1 * s.2.2) * (s.1 * t.2.2 - t.1 * s.2.2) + (s.2.1 * t.2.2 - t.2.1 * s.2.2) * (s.2.1 * t.2.2 - t.2.1 * s.2.2)
def sqD (s t : L3) : Int := s.2.2 * s.2.2 * t.2.2 * t.2.2
theorem rep_gap {p q : P2} {s t : L3} (hs : RepP p s) (ht : RepP q t) : Rat.divInt (sqN s t) (sqD s t) = gapQ p q ∧ 0 < sqD s t := by
  obtain ⟨h0, hx, hy⟩ := hs
  obtain ⟨g0, gx, gy⟩ := ht
  have hp : 0 < sqD s t := Int.mul_pos (Int.mul_pos (Int.mul_pos h0 h0) g0) g0
  refine ⟨divInt_cast ?_ (by omega), hp⟩
  unfold sqN sqD gapQ
  push_cast
  rw [hx, hy, gx, gy]
  grind
theorem zb_sq {X W X2 W2 M : Nat} {s t : L3} (hs : Zb X W s) (ht : Zb X2 W2 t) (h1 : X + W2 ≤ M) (h2 : X2 + W ≤ M) : Sz (M + 1 + (M + 1) + 1) (sqN s t) ∧ Sz (W + W + W2 + W2) (sqD s t) := by
  have e1 : Sz (M + 1) (s.1 * t.2.2 - t.1 * s.2.2) := ((hs.a.mul ht.c).mono h1).sub ((ht.a.mul hs.c).mono h2)
  have e2 : Sz (M + 1) (s.2.1 * t.2.2 - t.2.1 * s.2.2) := ((hs.b.mul ht.c).mono h1).sub ((ht.b.mul hs.c).mono h2)
  exact ⟨(e1.mul e1).add (e2.mul e2), ((hs.c.mul hs.c).mul ht.c).mul ht.c⟩
theorem gap_comm (p q : P2) : gapQ p q = gapQ q p := by unfold gapQ; grind
theorem rep_place {p : P2} {s : L3} (h : RepP p s) : (Rat.divInt s.1 s.2.2, Rat.divInt s.2.1 s.2.2) = p := by
  obtain ⟨h0, hx, hy⟩ := h
  have e : ((s.2.2 : Int) : Rat) ≠ 0 := by
    have : s.2.2 ≠ 0 := by omega
    exact_mod_cast this
  rw [divInt_cast hx (by omega), divInt_cast hy (by omega)]
theorem nd_place {X W : Nat} {p : P2} {s : L3} (h : RepP p s) (hz : Zb X W s) : NdP X W p := by
  have h0 := h.1
  rw [← rep_place h]
  exact ⟨nd_divInt hz.a hz.c (by omega), nd_divInt hz.b hz.c (by omega)⟩

/-! ### a side told by one or two sides -/
def t1E (e t : E3) : Prop := e.1 * t.2.1 = e.2.1 * t.1 ∧ 0 < e.1 * t.1 + e.2.1 * t.2.1 ∧ (e.1 * t.1 + e.2.1 * t.2.1) * e.2.2 ≤ t.2.2 * (e.1 * e.1 + e.2.1 * e.2.1)
def pE (f t : E3) : Rat := t.1 * f.2.1 - t.2.1 * f.1
def t2E (e f t : E3) : Prop := 0 < detE e f ∧ 0 ≤ pE f t ∧ 0 ≤ - pE e t ∧ pE f t * e.2.2 - pE e t * f.2.2 ≤ t.2.2 * detE e f
def TellE (es : List E3) (t : E3) : Prop := (∃ e ∈ es, t1E e t) ∨ ∃ e ∈ es, ∃ f ∈ es, t2E e f t
def pL (f t : L3) : Int := t.1 * f.2.1 - t.2.1 * f.1
theorem cast_eq {x y : Int} : ((x : Rat) = (y : Rat)) ↔ x = y := Rat.intCast_inj
theorem sc_eq {x y k : Rat} (hk : 0 < k) : x * k = y * k ↔ x = y := ⟨fun h => mul_canc (by grind) h, fun h => by rw [h]⟩
theorem one_rep {e t : E3} {l m : L3} (he : RepE e l) (ht : RepE t m) : (l.1 * m.2.1 = l.2.1 * m.1 ∧ 0 < l.1 * m.1 + l.2.1 * m.2.1 ∧ (l.1 * m.1 + l.2.1 * m.2.1) * l.2.2 ≤ m.2.2 * (l.1 * l.1 + l.2.1 * l.2.1)) ↔ t1E e t := by
  obtain ⟨k, hk, h1, h2, h3⟩ := he
  obtain ⟨j, hj, g1, g2, g3⟩ := ht
  have kj : 0 < k * j := Rat.mul_pos hk hj
  have kkj : 0 < k * (k * j) := Rat.mul_pos hk kj
  unfold t1E
  have a1 : ((l.1 * m.2.1 : Int) : Rat) = (e.1 * t.2.1) * (k * j) := by
    push_cast
    rw [h1, g2]
    grind
  have a2 : ((l.2.1 * m.1 : Int) : Rat) = (e.2.1 * t.1) * (k * j) := by
    push_cast
    rw [h2, g1]
    grind
  have a3 : ((l.1 * m.1 + l.2.1 * m.2.1 : Int) : Rat) = (e.1 * t.1 + e.2.1 * t.2.1) * (k * j) := by
    push_cast
    rw [h1, h2, g1, g2]
    grind
  have a4 : (((l.1 * m.1 + l.2.1 * m.2.1) * l.2.2 : Int) : Rat) = ((e.1 * t.1 + e.2.1 * t.2.1) * e.2.2) * (k * (k * j)) := by
    push_cast
    rw [h1, h2, h3, g1, g2]
    grind
  have a5 : ((m.2.2 * (l.1 * l.1 + l.2.1 * l.2.1) : Int) : Rat) = (t.2.2 * (e.1 * e.1 + e.2.1 * e.2.1)) * (k * (k * j)) := by
    push_cast
    rw [h1, h2, g3]
    grind
  refine and_congr ?_ (and_congr ?_ ?_)
  · rw [← cast_eq, a1, a2, sc_eq kj]
  · rw [← Rat.intCast_lt_intCast, a3, ← lt_mul_iff (A := 0) kj, Rat.zero_mul]
    rfl
  · rw [← Rat.intCast_le_intCast, a4, a5, le_mul_iff kkj]
theorem det_rep {e f : E3} {l m : L3} (he : RepE e l) (hf : RepE f m) : ∃ k : Rat, 0 < k ∧ (detL l m : Rat) = detE e f * k := by
  obtain ⟨k, hk, h1, h2, h3⟩ := he
  obtain ⟨j, hj, g1, g2, g3⟩ := hf
  refine ⟨k * j, Rat.mul_pos hk hj, ?_⟩
  unfold detL detE
  push_cast
  rw [h1, h2, g1, g2]
  grind
theorem p_rep {f t : E3} {l m : L3} (hf : RepE f l) (ht : RepE t m) : ∃ k : Rat, 0 < k ∧ (pL l m : Rat) = pE f t * k := by
  obtain ⟨k, hk, h1, h2, h3⟩ := hf
  obtain ⟨j, hj, g1, g2, g3⟩ := ht
  refine ⟨k * j, Rat.mul_pos hk hj, ?_⟩
  unfold pL pE
  push_cast
  rw [h1, h2, g1, g2]
  grind
theorem pos_sc {x : Int} {y k : Rat} (hk : 0 < k) (h : (x : Rat) = y * k) : (0 < x ↔ 0 < y) ∧ (0 ≤ x ↔ 0 ≤ y) ∧ (x < 0 ↔ y < 0) ∧ (x ≤ 0 ↔ y ≤ 0) := by
  refine ⟨?_, ?_, ?_, ?_⟩
  · rw [← Rat.intCast_lt_intCast, h, ← lt_mul_iff (A := 0) hk, Rat.zero_mul]; rfl
  · rw [← Rat.intCast_le_intCast, h, ← le_mul_iff (A := 0) hk, Rat.zero_mul]; rfl
  · rw [← Rat.intCast_lt_intCast, h, ← lt_mul_iff (C := 0) hk, Rat.zero_mul]; rfl
  · rw [← Rat.intCast_le_intCast, h, ← le_mul_iff (C := 0) hk, Rat.zero_mul]; rfl
theorem sum_rep {e f t : E3} {l m n : L3} (he : RepE e l) (hf : RepE f m) (ht : RepE t n) : (pL m n * l.2.2 - pL l n * m.2.2 ≤ n.2.2 * detL l m ↔ pE f t * e.2.2 - pE e t * f.2.2 ≤ t.2.2 * detE e f) ∧ (n.2.2 * detL l m ≤ pL m n * l.2.2 - pL l n * m.2.2 ↔ t.2.2 * detE e f ≤ pE f t * e.2.2 - pE e t * f.2.2) := by
  obtain ⟨k, hk, h1, h2, h3⟩ := he
  obtain ⟨j, hj, g1, g2, g3⟩ := hf
  obtain ⟨i, hi, f1, f2, f3⟩ := ht
  have kji : 0 < k * j * i := Rat.mul_pos (Rat.mul_pos hk hj) hi
  have a1 : ((pL m n * l.2.2 - pL l n * m.2.2 : Int) : Rat) = (pE f t * e.2.2 - pE e t * f.2.2) * (k * j * i) := by
    unfold pL pE
    push_cast
    rw [h1, h2, h3, g1, g2, g3, f1, f2]
    grind
  have a2 : ((n.2.2 * detL l m : Int) : Rat) = (t.2.2 * detE e f) * (k * j * i) := by
    unfold detL detE
    push_cast
    rw [h1, h2, g1, g2, f3]
    grind
  constructor
  · rw [← Rat.intCast_le_intCast, a1, a2, le_mul_iff kji]
  · rw [← Rat.intCast_le_intCast, a1, a2, le_mul_iff kji]
/-- by two lines in whole numbers, as both orders of the two are asked -/
theorem two_pos {e f t : E3} {l m n : L3} (he : RepE e l) (hf : RepE f m) (ht : RepE t n) (hd : 0 < detL l m) : (0 ≤ pL m n ∧ pL l n ≤ 0 ∧ pL m n * l.2.2 - pL l n * m.2.2 ≤ n.2.2 * detL l m) ↔ t2E e f t ∨ t2E f e t := by
  obtain ⟨k, hk, h1⟩ := det_rep he hf
  obtain ⟨j, hj, h2⟩ := p_rep hf ht
  obtain ⟨i, hi, h3⟩ := p_rep he ht
  have d := (pos_sc hk h1).1.mp hd
  rw [(pos_sc hj h2).2.1, (pos_sc hi h3).2.2.2, (sum_rep he hf ht).1]
  constructor
  · rintro ⟨a, b, c⟩
    exact .inl ⟨d, a, by grind, c⟩
  · rintro (⟨_, a, b, c⟩ | ⟨a, _⟩)
    · exact ⟨a, by grind, c⟩
    · rw [det_swap] at a
      grind
theorem two_neg {e f t : E3} {l m n : L3} (he : RepE e l) (hf : RepE f m) (ht : RepE t n) (hd : detL l m < 0) : (pL m n ≤ 0 ∧ 0 ≤ pL l n ∧ n.2.2 * detL l m ≤ pL m n * l.2.2 - pL l n * m.2.2) ↔ t2E e f t ∨ t2E f e t := by
  obtain ⟨k, hk, h1⟩ := det_rep he hf
  obtain ⟨j, hj, h2⟩ := p_rep hf ht
  obtain ⟨i, hi, h3⟩ := p_rep he ht
  have d := (pos_sc hk h1).2.2.1.mp hd
  rw [(pos_sc hj h2).2.2.2, (pos_sc hi h3).2.1, (sum_rep he hf ht).2]
  have sw := det_swap (e := e) (f := f)
  constructor
  · rintro ⟨a, b, c⟩
    rw [sw] at c
    exact .inr ⟨by grind, b, by grind, by grind⟩
  · rintro (⟨a, _⟩ | ⟨_, a, b, c⟩)
    · grind
    · rw [sw]
      exact ⟨by grind, a, by grind⟩
theorem two_zero {e f t : E3} {l m : L3} (he : RepE e l) (hf : RepE f m) (hd : detL l m = 0) : ¬ (t2E e f t ∨ t2E f e t) := by
  have d := (rep_det he hf).mp hd
  have sw := det_swap (e := e) (f := f)
  rintro (⟨a, _⟩ | ⟨a, _⟩) <;> grind

/-! ### the program's fractions -/
theorem pw_ratio {n m : Int} (h0 : 0 < m) (hm : Sz 9000 m) : Fratio [.int n, .int m] = some (fq (Rat.divInt n m)) := by
  have hg : 0 < ((n.natAbs.gcd m.natAbs : Nat) : Int) := by
    have : 0 < n.natAbs.gcd m.natAbs := Nat.gcd_pos_of_pos_right _ (by omega)
    omega
  have hs : Sz 9000 ((n.natAbs.gcd m.natAbs : Nat) : Int) := hm.le_of (by rw [Int.natAbs_natCast]; exact Nat.le_of_dvd (by omega) (Nat.gcd_dvd_right _ _))
  refine wo_eqn ?_
  unfold Fratio mratio
  refine wo_defP rfl ?_
  sleep 1
  sleep 0
  exact fr_divInt h0

/-! ### forms, by the law's own looks and by the program's -/
theorem isi_tuple (t : D) : gIsi "tuple" t = some (.bool (match t with | .tuple _ => true | _ => false)) := by cases t <;> kernel_rfl
theorem isi_int (t : D) : gIsi "int" t = some (.bool (match t with | .int _ => true | .bool _ => true | _ => false)) := by cases t <;> kernel_rfl
theorem isi_bool (t : D) : gIsi "bool" t = some (.bool (match t with | .bool _ => true | _ => false)) := by cases t <;> kernel_rfl
theorem tyis_int (t : D) : gTyIs "int" t = some (.bool (isW t)) := by cases t <;> kernel_rfl
theorem tyis_tuple (t : D) : gTyIs "tuple" t = some (.bool (match t with | .tuple _ => true | _ => false)) := by cases t <;> kernel_rfl
theorem pw_whole (t : D) : Fis_whole [t] = some (.bool (isW t)) := by
  simp [Fis_whole, mis_whole, defW, defP, sSeq, sIf, sAsg, sWset, sRet, sRetN, sSkip, sDrop, sPar2, sPar3, sNo, dTr, dNot, dAnd, dOr, dIf, dAndV, dOrV, dNotV, dBin, dUn, dChain, dWell, dC, dVar, dPri, dTup, dLst, dCons, dNil, dCallP, dCallW, rho0, truth, asBool, asInt, gTp, gC, gNm, gN, gMul_eq, gAdd_eq, gSub_eq, gLt_eq, gLe_eq, gGt_eq, gGe_eq, gEq_eq, gNe_eq, gAbs_eq, gInt_eq, gNeg_eq, gGcd_eq, gLen_l, gLen_t, gIx_t0, gIx_t1, gIx_t2, gIx_l0, gIx_l1, gIx_l2, tyis_int]
/-- each of them, none of them -/
theorem none_not {p : D → Bool} (ts : List D) : (ts.filter fun t => !p t).isEmpty = ts.all p := by
  induction ts with
  | nil => rfl
  | cons t ts ih =>
    cases h : p t with
    | true => rw [List.filter_cons_of_neg (by simp [h]), ih, List.all_cons, h, Bool.true_and]
    | false => rw [List.filter_cons_of_pos (by simp [h]), List.all_cons, h]; rfl
theorem pw_tuple_of (t : D) (a b : Int) : Fis_tuple_of [t, .int a, .int b] = some (.bool (match t with | .tuple ts => decide (a ≤ ts.length) && decide ((ts.length : Int) ≤ b) | _ => false)) := by
  cases t with
  | tuple ts =>
    simp [Fis_tuple_of, mis_tuple_of, defW, defP, sSeq, sIf, sAsg, sWset, sRet, sRetN, sSkip, sDrop, sPar2, sPar3, sNo, dTr, dNot, dAnd, dOr, dIf, dAndV, dOrV, dNotV, dBin, dUn, dChain, dWell, dC, dVar, dPri, dTup, dLst, dCons, dNil, dCallP, dCallW, rho0, truth, asBool, asInt, gTp, gC, gNm, gN, gMul_eq, gAdd_eq, gSub_eq, gLt_eq, gLe_eq, gGt_eq, gGe_eq, gEq_eq, gNe_eq, gAbs_eq, gInt_eq, gNeg_eq, gGcd_eq, gLen_l, gLen_t, gIx_t0, gIx_t1, gIx_t2, gIx_l0, gIx_l1, gIx_l2, tyis_tuple]
    by_cases h : a ≤ ts.length <;> simp [h]
  | _ => simp [Fis_tuple_of, mis_tuple_of, defW, defP, sSeq, sIf, sAsg, sWset, sRet, sRetN, sSkip, sDrop, sPar2, sPar3, sNo, dTr, dNot, dAnd, dOr, dIf, dAndV, dOrV, dNotV, dBin, dUn, dChain, dWell, dC, dVar, dPri, dTup, dLst, dCons, dNil, dCallP, dCallW, rho0, truth, asBool, asInt, gTp, gC, gNm, gN, gMul_eq, gAdd_eq, gSub_eq, gLt_eq, gLe_eq, gGt_eq, gGe_eq, gEq_eq, gNe_eq, gAbs_eq, gInt_eq, gNeg_eq, gGcd_eq, gLen_l, gLen_t, gIx_t0, gIx_t1, gIx_t2, gIx_l0, gIx_l1, gIx_l2, tyis_tuple]
theorem pw_fraction (t : D) : Fis_fraction [t] = some (.bool (isFr t)) := by
  have h0 : ∀ t : D, (match t with | .tuple _ => true | _ => false) = false → Fis_fraction [t] = some (.bool false) := by
    intro t h
    have e : Fis_tuple_of [t, .int 2, .int 2] = some (.bool false) := by
      rw [pw_tuple_of]
      cases t <;> simp at h ⊢
    simp [Fis_fraction, mis_fraction, defW, defP, sSeq, sIf, sAsg, sWset, sRet, sRetN, sSkip, sDrop, sPar2, sPar3, sNo, dTr, dNot, dAnd, dOr, dIf, dAndV, dOrV, dNotV, dBin, dUn, dChain, dWell, dC, dVar, dPri, dTup, dLst, dCons, dNil, dCallP, dCallW, rho0, truth, asBool, asInt, gTp, gC, gNm, gN, gMul_eq, gAdd_eq, gSub_eq, gLt_eq, gLe_eq, gGt_eq, gGe_eq, gEq_eq, gNe_eq, gAbs_eq, gInt_eq, gNeg_eq, gGcd_eq, gLen_l, gLen_t, gIx_t0, gIx_t1, gIx_t2, gIx_l0, gIx_l1, gIx_l2, e]
  cases t with
  | tuple ts =>
    by_cases hl : ts.length = 2
    · obtain ⟨a, b, rfl⟩ : ∃ a b, ts = [a, b] := by
        match ts, hl with
        | [a, b], _ => exact ⟨a, b, rfl⟩
      have e : Fis_tuple_of [.tuple [a, b], .int 2, .int 2] = some (.bool true) := by rw [pw_tuple_of]; simp
      cases a <;> cases b <;> simp [Fis_fraction, mis_fraction, defW, defP, sSeq, sIf, sAsg, sWset, sRet, sRetN, sSkip, sDrop, sPar2, sPar3, sNo, dTr, dNot, dAnd, dOr, dIf, dAndV, dOrV, dNotV, dBin, dUn, dChain, dWell, dC, dVar, dPri, dTup, dLst, dCons, dNil, dCallP, dCallW, rho0, truth, asBool, asInt, gTp, gC, gNm, gN, gMul_eq, gAdd_eq, gSub_eq, gLt_eq, gLe_eq, gGt_eq, gGe_eq, gEq_eq, gNe_eq, gAbs_eq, gInt_eq, gNeg_eq, gGcd_eq, gLen_l, gLen_t, gIx_t0, gIx_t1, gIx_t2, gIx_l0, gIx_l1, gIx_l2, e, pw_whole, isW, isFr]
      rename_i n m
      by_cases h : 0 < m
      · simp [h]
        exact Bool.eq_iff_iff.mpr (by simp; omega)
      · simp [h]
    · have hf : isFr (.tuple ts) = false := by
        cases h : isFr (.tuple ts) with
        | false => rfl
        | true =>
          obtain ⟨q, e⟩ := of_isFr h
          injection e with e
          rw [e] at hl
          exact absurd rfl hl
      have e : Fis_tuple_of [.tuple ts, .int 2, .int 2] = some (.bool false) := by
        rw [pw_tuple_of]
        congr 2
        simp
        omega
      rw [hf]
      simp [Fis_fraction, mis_fraction, defW, defP, sSeq, sIf, sAsg, sWset, sRet, sRetN, sSkip, sDrop, sPar2, sPar3, sNo, dTr, dNot, dAnd, dOr, dIf, dAndV, dOrV, dNotV, dBin, dUn, dChain, dWell, dC, dVar, dPri, dTup, dLst, dCons, dNil, dCallP, dCallW, rho0, truth, asBool, asInt, gTp, gC, gNm, gN, gMul_eq, gAdd_eq, gSub_eq, gLt_eq, gLe_eq, gGt_eq, gGe_eq, gEq_eq, gNe_eq, gAbs_eq, gInt_eq, gNeg_eq, gGcd_eq, gLen_l, gLen_t, gIx_t0, gIx_t1, gIx_t2, gIx_l0, gIx_l1, gIx_l2, e]
  | none => exact h0 _ rfl
  | bool _ => exact h0 _ rfl
  | int _ => exact h0 _ rfl
  | str _ => exact h0 _ rfl
  | list _ => exact h0 _ rfl
  | dict _ => exact h0 _ rfl

/-! #### sides, fields -/
theorem pw_are (t : D) (a b : Int) (hb : b ≤ 100000) : Fare_fractions [t, .int a, .int b] = some (.bool (match t with | .tuple ts => decide (a ≤ ts.length) && decide ((ts.length : Int) ≤ b) && ts.all isFr | _ => false)) := by
  have e := pw_tuple_of t a b
  cases t with
  | tuple ts =>
    dsimp only at e ⊢
    by_cases h : (decide (a ≤ ts.length) && decide ((ts.length : Int) ≤ b)) = true
    · rw [h] at e ⊢
      rw [Bool.true_and]
      simp at h
      have hc : dComp [3] (dItems (dVar 0)) (gNm 3) dYes (dCallP Fis_fraction (dCons (dVar 3) dNil)) [some (.val (.tuple ts)), some (.val (.int a)), some (.val (.int b)), none] [] = some (.list (ts.map fun t => .bool (isFr t)), []) := by
        refine comp_map (dItems_t rfl) (by omega) fun t _ => ⟨[some (.val (.tuple ts)), some (.val (.int a)), some (.val (.int b)), some (.val t)], rfl, ?_⟩
        simp [defW, defP, sSeq, sIf, sAsg, sWset, sRet, sRetN, sSkip, sDrop, sPar2, sPar3, sNo, dTr, dNot, dAnd, dOr, dIf, dAndV, dOrV, dNotV, dBin, dUn, dChain, dWell, dC, dVar, dPri, dTup, dLst, dCons, dNil, dCallP, dCallW, rho0, truth, asBool, asInt, gTp, gC, gNm, gN, gMul_eq, gAdd_eq, gSub_eq, gLt_eq, gLe_eq, gGt_eq, gGe_eq, gEq_eq, gNe_eq, gAbs_eq, gInt_eq, gNeg_eq, gGcd_eq, gLen_l, gLen_t, gIx_t0, gIx_t1, gIx_t2, gIx_l0, gIx_l1, gIx_l2, pw_fraction]
      simp [Fare_fractions, mare_fractions, defW, defP, sSeq, sIf, sAsg, sWset, sRet, sRetN, sSkip, sDrop, sPar2, sPar3, sNo, dTr, dNot, dAnd, dOr, dIf, dAndV, dOrV, dNotV, dBin, dUn, dChain, dWell, dC, dVar, dPri, dTup, dLst, dCons, dNil, dCallP, dCallW, rho0, truth, asBool, asInt, gTp, gC, gNm, gN, gMul_eq, gAdd_eq, gSub_eq, gLt_eq, gLe_eq, gGt_eq, gGe_eq, gEq_eq, gNe_eq, gAbs_eq, gInt_eq, gNeg_eq, gGcd_eq, gLen_l, gLen_t, gIx_t0, gIx_t1, gIx_t2, gIx_l0, gIx_l1, gIx_l2, e, hc, gAll_map]
    · have h' : (decide (a ≤ ts.length) && decide ((ts.length : Int) ≤ b)) = false := by simpa using h
      rw [h'] at e ⊢
      simp [Fare_fractions, mare_fractions, defW, defP, sSeq, sIf, sAsg, sWset, sRet, sRetN, sSkip, sDrop, sPar2, sPar3, sNo, dTr, dNot, dAnd, dOr, dIf, dAndV, dOrV, dNotV, dBin, dUn, dChain, dWell, dC, dVar, dPri, dTup, dLst, dCons, dNil, dCallP, dCallW, rho0, truth, asBool, asInt, gTp, gC, gNm, gN, gMul_eq, gAdd_eq, gSub_eq, gLt_eq, gLe_eq, gGt_eq, gGe_eq, gEq_eq, gNe_eq, gAbs_eq, gInt_eq, gNeg_eq, gGcd_eq, gLen_l, gLen_t, gIx_t0, gIx_t1, gIx_t2, gIx_l0, gIx_l1, gIx_l2, e]
  | _ => simp [Fare_fractions, mare_fractions, defW, defP, sSeq, sIf, sAsg, sWset, sRet, sRetN, sSkip, sDrop, sPar2, sPar3, sNo, dTr, dNot, dAnd, dOr, dIf, dAndV, dOrV, dNotV, dBin, dUn, dChain, dWell, dC, dVar, dPri, dTup, dLst, dCons, dNil, dCallP, dCallW, rho0, truth, asBool, asInt, gTp, gC, gNm, gN, gMul_eq, gAdd_eq, gSub_eq, gLt_eq, gLe_eq, gGt_eq, gGe_eq, gEq_eq, gNe_eq, gAbs_eq, gInt_eq, gNeg_eq, gGcd_eq, gLen_l, gLen_t, gIx_t0, gIx_t1, gIx_t2, gIx_l0, gIx_l1, gIx_l2, e]
theorem num_fr {n m : Int} : num (fr n m) = n := rfl
theorem fr_ix {t : D} (h : isFr t = true) : gIx t (.int 0) = some (.int (num t)) := by
  obtain ⟨q, rfl⟩ := of_isFr h
  rfl
theorem isEdge_of {a b c : D} : isEdge (.tuple [a, b, c]) = (isFr a && isFr b && isFr c && (!(num a == 0) || !(num b == 0))) := rfl
theorem isEdge_len {ts : List D} (h : ¬ ts.length = 3) : isEdge (.tuple ts) = false := by
  match ts, h with
  | [], _ => rfl
  | [_], _ => rfl
  | [_, _], _ => rfl
  | [_, _, _], h => exact absurd rfl h
  | _ :: _ :: _ :: _ :: _, _ => rfl
theorem pw_side (t : D) : Fis_side [t] = some (.bool (isEdge t)) := by
  have e := pw_are t 3 3 (by decide)
  cases t with
  | tuple ts =>
    dsimp only at e
    by_cases hl : ts.length = 3
    · obtain ⟨a, b, c, rfl⟩ : ∃ a b c, ts = [a, b, c] := by
        match ts, hl with
        | [a, b, c], _ => exact ⟨a, b, c, rfl⟩
      have e' : Fare_fractions [.tuple [a, b, c], .int 3, .int 3] = some (.bool (isFr a && isFr b && isFr c)) := by
        rw [e]
        simp [Bool.and_assoc]
      rw [isEdge_of]
      by_cases h : (isFr a && isFr b && isFr c) = true
      · rw [h] at e' ⊢
        simp at h
        have e1 := fr_ix h.1.1
        have e2 := fr_ix h.1.2
        simp [Fis_side, mis_side, defW, defP, sSeq, sIf, sAsg, sWset, sRet, sRetN, sSkip, sDrop, sPar2, sPar3, sNo, dTr, dNot, dAnd, dOr, dIf, dAndV, dOrV, dNotV, dBin, dUn, dChain, dWell, dC, dVar, dPri, dTup, dLst, dCons, dNil, dCallP, dCallW, rho0, truth, asBool, asInt, gTp, gC, gNm, gN, gMul_eq, gAdd_eq, gSub_eq, gLt_eq, gLe_eq, gGt_eq, gGe_eq, gEq_eq, gNe_eq, gAbs_eq, gInt_eq, gNeg_eq, gGcd_eq, gLen_l, gLen_t, gIx_t0, gIx_t1, gIx_t2, gIx_l0, gIx_l1, gIx_l2, e', e1, e2]
        by_cases h1 : num a = 0 <;> simp [h1]
      · have h' : (isFr a && isFr b && isFr c) = false := by simpa using h
        rw [h'] at e' ⊢
        simp [Fis_side, mis_side, defW, defP, sSeq, sIf, sAsg, sWset, sRet, sRetN, sSkip, sDrop, sPar2, sPar3, sNo, dTr, dNot, dAnd, dOr, dIf, dAndV, dOrV, dNotV, dBin, dUn, dChain, dWell, dC, dVar, dPri, dTup, dLst, dCons, dNil, dCallP, dCallW, rho0, truth, asBool, asInt, gTp, gC, gNm, gN, gMul_eq, gAdd_eq, gSub_eq, gLt_eq, gLe_eq, gGt_eq, gGe_eq, gEq_eq, gNe_eq, gAbs_eq, gInt_eq, gNeg_eq, gGcd_eq, gLen_l, gLen_t, gIx_t0, gIx_t1, gIx_t2, gIx_l0, gIx_l1, gIx_l2, e']
    · have h' : (decide ((3 : Int) ≤ ts.length) && decide ((ts.length : Int) ≤ 3)) = false := by
        simp
        omega
      rw [h'] at e
      rw [isEdge_len hl]
      simp [Fis_side, mis_side, defW, defP, sSeq, sIf, sAsg, sWset, sRet, sRetN, sSkip, sDrop, sPar2, sPar3, sNo, dTr, dNot, dAnd, dOr, dIf, dAndV, dOrV, dNotV, dBin, dUn, dChain, dWell, dC, dVar, dPri, dTup, dLst, dCons, dNil, dCallP, dCallW, rho0, truth, asBool, asInt, gTp, gC, gNm, gN, gMul_eq, gAdd_eq, gSub_eq, gLt_eq, gLe_eq, gGt_eq, gGe_eq, gEq_eq, gNe_eq, gAbs_eq, gInt_eq, gNeg_eq, gGcd_eq, gLen_l, gLen_t, gIx_t0, gIx_t1, gIx_t2, gIx_l0, gIx_l1, gIx_l2, e]
  | _ => simp [Fis_side, mis_side, defW, defP, sSeq, sIf, sAsg, sWset, sRet, sRetN, sSkip, sDrop, sPar2, sPar3, sNo, dTr, dNot, dAnd, dOr, dIf, dAndV, dOrV, dNotV, dBin, dUn, dChain, dWell, dC, dVar, dPri, dTup, dLst, dCons, dNil, dCallP, dCallW, rho0, truth, asBool, asInt, gTp, gC, gNm, gN, gMul_eq, gAdd_eq, gSub_eq, gLt_eq, gLe_eq, gGt_eq, gGe_eq, gEq_eq, gNe_eq, gAbs_eq, gInt_eq, gNeg_eq, gGcd_eq, gLen_l, gLen_t, gIx_t0, gIx_t1, gIx_t2, gIx_l0, gIx_l1, gIx_l2, e, isEdge]
theorem isLand_of {ts : List D} : isLand (.tuple ts) = (decide (1 ≤ ts.length) && decide (ts.length ≤ 5) && ts.all isEdge) := rfl
theorem pw_field (t : D) : Fis_field [t] = some (.bool (isLand t)) := by
  have e := pw_tuple_of t 1 5
  cases t with
  | tuple ts =>
    dsimp only at e
    rw [isLand_of]
    by_cases h : (decide ((1 : Int) ≤ ts.length) && decide ((ts.length : Int) ≤ 5)) = true
    · rw [h] at e
      simp at h
      have hc : dComp [1] (dItems (dVar 0)) (gNm 1) dYes (dCallP Fis_side (dCons (dVar 1) dNil)) [some (.val (.tuple ts)), none] [] = some (.list (ts.map fun t => .bool (isEdge t)), []) := by
        refine comp_map (dItems_t rfl) (by omega) fun t _ => ⟨[some (.val (.tuple ts)), some (.val t)], rfl, ?_⟩
        simp [defW, defP, sSeq, sIf, sAsg, sWset, sRet, sRetN, sSkip, sDrop, sPar2, sPar3, sNo, dTr, dNot, dAnd, dOr, dIf, dAndV, dOrV, dNotV, dBin, dUn, dChain, dWell, dC, dVar, dPri, dTup, dLst, dCons, dNil, dCallP, dCallW, rho0, truth, asBool, asInt, gTp, gC, gNm, gN, gMul_eq, gAdd_eq, gSub_eq, gLt_eq, gLe_eq, gGt_eq, gGe_eq, gEq_eq, gNe_eq, gAbs_eq, gInt_eq, gNeg_eq, gGcd_eq, gLen_l, gLen_t, gIx_t0, gIx_t1, gIx_t2, gIx_l0, gIx_l1, gIx_l2, pw_side]
      have h' : (decide (1 ≤ ts.length) && decide (ts.length ≤ 5)) = true := by simp; omega
      rw [h', Bool.true_and]
      simp [Fis_field, mis_field, defW, defP, sSeq, sIf, sAsg, sWset, sRet, sRetN, sSkip, sDrop, sPar2, sPar3, sNo, dTr, dNot, dAnd, dOr, dIf, dAndV, dOrV, dNotV, dBin, dUn, dChain, dWell, dC, dVar, dPri, dTup, dLst, dCons, dNil, dCallP, dCallW, rho0, truth, asBool, asInt, gTp, gC, gNm, gN, gMul_eq, gAdd_eq, gSub_eq, gLt_eq, gLe_eq, gGt_eq, gGe_eq, gEq_eq, gNe_eq, gAbs_eq, gInt_eq, gNeg_eq, gGcd_eq, gLen_l, gLen_t, gIx_t0, gIx_t1, gIx_t2, gIx_l0, gIx_l1, gIx_l2, e, hc, gAll_map]
    · have h0 : (decide ((1 : Int) ≤ ts.length) && decide ((ts.length : Int) ≤ 5)) = false := by simpa using h
      have h' : (decide (1 ≤ ts.length) && decide (ts.length ≤ 5)) = false := by simp at h ⊢; omega
      rw [h0] at e
      rw [h', Bool.false_and]
      simp [Fis_field, mis_field, defW, defP, sSeq, sIf, sAsg, sWset, sRet, sRetN, sSkip, sDrop, sPar2, sPar3, sNo, dTr, dNot, dAnd, dOr, dIf, dAndV, dOrV, dNotV, dBin, dUn, dChain, dWell, dC, dVar, dPri, dTup, dLst, dCons, dNil, dCallP, dCallW, rho0, truth, asBool, asInt, gTp, gC, gNm, gN, gMul_eq, gAdd_eq, gSub_eq, gLt_eq, gLe_eq, gGt_eq, gGe_eq, gEq_eq, gNe_eq, gAbs_eq, gInt_eq, gNeg_eq, gGcd_eq, gLen_l, gLen_t, gIx_t0, gIx_t1, gIx_t2, gIx_l0, gIx_l1, gIx_l2, e]
  | _ => simp [Fis_field, mis_field, defW, defP, sSeq, sIf, sAsg, sWset, sRet, sRetN, sSkip, sDrop, sPar2, sPar3, sNo, dTr, dNot, dAnd, dOr, dIf, dAndV, dOrV, dNotV, dBin, dUn, dChain, dWell, dC, dVar, dPri, dTup, dLst, dCons, dNil, dCallP, dCallW, rho0, truth, asBool, asInt, gTp, gC, gNm, gN, gMul_eq, gAdd_eq, gSub_eq, gLt_eq, gLe_eq, gGt_eq, gGe_eq, gEq_eq, gNe_eq, gAbs_eq, gInt_eq, gNeg_eq, gGcd_eq, gLen_l, gLen_t, gIx_t0, gIx_t1, gIx_t2, gIx_l0, gIx_l1, gIx_l2, e, isLand]
/-! ### draws -/
def Wl (n : Nat) (w : Ws) : Prop := ∃ z s c : Int, w = [z, s, c] ∧ 0 ≤ z ∧ 0 ≤ s ∧ s < 2147483647 ∧ 0 ≤ c ∧ c ≤ n
theorem Wl.mono {m n : Nat} {w : Ws} (h : Wl m w) (k : m ≤ n) : Wl n w := by
  obtain ⟨z, s, c, e, h1, h2, h3, h4, h5⟩ := h
  exact ⟨z, s, c, e, h1, h2, h3, h4, by omega⟩
theorem wl_new {w : Ws} (h : WellNew w) : Wl 0 w := by
  obtain ⟨z, s, e, h1, h2, h3⟩ := h
  exact ⟨z, s, 0, e, h1, h2, h3, by decide, by decide⟩
theorem take_big {t z s c : Int} (ht : 0 < t) (h2 : Sz 9000 t) (hz : 0 < z) : F_law_take [.int t] [z, s, c] = some (.int (z % t), [z / t, s, c]) := by
  have e1 : gDivmod [.int z, .int t] = some (.tuple [.int (z / t), .int (z % t)]) := gDivmod_eq ht h2
  simp [F_law_take, m_law_take, defW, defP, sSeq, sIf, sAsg, sWset, sRet, sRetN, sSkip, sDrop, sPar2, sPar3, sNo, dTr, dNot, dAnd, dOr, dIf, dAndV, dOrV, dNotV, dBin, dUn, dChain, dWell, dC, dVar, dPri, dTup, dLst, dCons, dNil, dCallP, dCallW, rho0, truth, asBool, asInt, gTp, gC, gNm, gN, gMul_eq, gAdd_eq, gSub_eq, gLt_eq, gLe_eq, gGt_eq, gGe_eq, gEq_eq, gNe_eq, gAbs_eq, gInt_eq, gNeg_eq, gGcd_eq, gLen_l, gLen_t, gIx_t0, gIx_t1, gIx_t2, gIx_l0, gIx_l1, gIx_l2, e1, hz]
def nxS (s c : Int) : Int := (s * 48271 + 10007 * (c + 1)) % 2147483647
theorem take_small {t z s c : Int} {n : Nat} (hn : n ≤ 1000000) (ht : 0 < t) (h2 : Sz 9000 t) (hz : ¬ 0 < z) (h0 : 0 ≤ s) (h1 : s < 2147483647) (h3 : 0 ≤ c) (h4 : c ≤ n) :
    F_law_take [.int t] [z, s, c] = some (.int (nxS s c * (nxS s c % 6007 + 40009) / 4099 % t), [z, nxS s c, c + 1]) := by
  have k0 : 0 ≤ nxS s c := by unfold nxS; omega
  have k1 : nxS s c < 2147483647 := by unfold nxS; omega
  have e1 : mulOk s 48271 = true := mulSz (j := 40) (k := 40) (by unfold Sz; omega) (by unfold Sz; decide)
  have e2 : mulOk 10007 (c + 1) = true := mulSz (j := 40) (k := 40) (by unfold Sz; decide) (by unfold Sz; omega)
  have e3 : gMod (.int (s * 48271 + 10007 * (c + 1))) (.int 2147483647) = some (.int (nxS s c)) := gMod_eq (by decide)
  have e4 : gMod (.int (nxS s c)) (.int 6007) = some (.int (nxS s c % 6007)) := gMod_eq (by decide)
  have e5 : mulOk (nxS s c) (nxS s c % 6007 + 40009) = true := mulSz (j := 40) (k := 40) (by unfold Sz; omega) (by unfold Sz; omega)
  have e6 : gFdiv (.int (nxS s c * (nxS s c % 6007 + 40009))) (.int 4099) = some (.int (nxS s c * (nxS s c % 6007 + 40009) / 4099)) := gFdiv_eq (by decide) (by unfold Sz; decide +kernel)
  have e7 : gMod (.int (nxS s c * (nxS s c % 6007 + 40009) / 4099)) (.int t) = some (.int (nxS s c * (nxS s c % 6007 + 40009) / 4099 % t)) := gMod_eq ht
  simp [F_law_take, m_law_take, defW, defP, sSeq, sIf, sAsg, sWset, sRet, sRetN, sSkip, sDrop, sPar2, sPar3, sNo, dTr, dNot, dAnd, dOr, dIf, dAndV, dOrV, dNotV, dBin, dUn, dChain, dWell, dC, dVar, dPri, dTup, dLst, dCons, dNil, dCallP, dCallW, rho0, truth, asBool, asInt, gTp, gC, gNm, gN, gMul_eq, gAdd_eq, gSub_eq, gLt_eq, gLe_eq, gGt_eq, gGe_eq, gEq_eq, gNe_eq, gAbs_eq, gInt_eq, gNeg_eq, gGcd_eq, gLen_l, gLen_t, gIx_t0, gIx_t1, gIx_t2, gIx_l0, gIx_l1, gIx_l2, hz, e1, e2, e3, e4, e5, e6, e7]
/-- a number from 0 to t - 1 -/
theorem take_ok {t : Int} {w : Ws} {n : Nat} (hw : Wl n w) (hn : n ≤ 1000000) (ht : 0 < t) (h2 : Sz 9000 t) : ∃ (d : Int) (w' : Ws), F_law_take [.int t] w = some (.int d, w') ∧ 0 ≤ d ∧ d < t ∧ Wl (n + 1) w' := by
  obtain ⟨z, s, c, rfl, z0, s0, s1, c0, c1⟩ := hw
  by_cases hz : 0 < z
  · exact ⟨_, _, take_big ht h2 hz, Int.emod_nonneg _ (by omega), Int.emod_lt_of_pos _ ht, _, _, _, rfl, Int.ediv_nonneg z0 (by omega), s0, s1, c0, by omega⟩
  · refine ⟨_, _, take_small hn ht h2 hz s0 s1 c0 c1, Int.emod_nonneg _ (by omega), Int.emod_lt_of_pos _ ht, _, _, _, rfl, z0, ?_, ?_, by omega, by omega⟩
    · unfold nxS; omega
    · unfold nxS; omega
theorem one_of_ok {ts : List D} {w : Ws} {n : Nat} (hw : Wl n w) (hn : n ≤ 1000000) (h0 : ts ≠ []) (h1 : ts.length ≤ 100000) : ∃ (t : D) (w' : Ws), F_law_one_of [.list ts] w = some (t, w') ∧ t ∈ ts ∧ Wl (n + 1) w' := by
  have hl : 0 < ts.length := List.length_pos_iff.mpr h0
  obtain ⟨d, w', e, d0, d1, hw'⟩ := take_ok (t := (ts.length : Int)) hw hn (by omega) (Sz.mono (j := 20) (by unfold Sz; omega) (by decide))
  obtain ⟨i, rfl⟩ := Int.eq_ofNat_of_zero_le d0
  have hi : i < ts.length := by omega
  refine ⟨ts[i], w', ?_, List.getElem_mem hi, hw'⟩
  have e2 : gIx (.list ts) (.int (i : Int)) = some ts[i] := gIx_l (by simp [hi])
  simp only [F_law_one_of, m_law_one_of, defW, defP, sSeq, sIf, sAsg, sWset, sRet, sRetN, sSkip, sDrop, sPar2, sPar3, sNo, dTr, dNot, dAnd, dOr, dIf, dAndV, dOrV, dNotV, dBin, dUn, dChain, dWell, dC, dVar, dPri, dTup, dLst, dCons, dNil, dCallP, dCallW, rho0, truth, asBool, asInt, gTp, gC, gNm, gN, gMul_eq, gAdd_eq, gSub_eq, gLt_eq, gLe_eq, gGt_eq, gGe_eq, gEq_eq, gNe_eq, gAbs_eq, gInt_eq, gNeg_eq, gGcd_eq, gLen_l, gLen_t, gIx_t0, gIx_t1, gIx_t2, gIx_l0, gIx_l1, gIx_l2, List.length_cons, List.length_nil, List.map_cons, List.map_nil, List.cons_append, List.nil_append, if_true, List.getElem?_cons_zero, List.getElem?_cons_succ, Option.bind_some, Option.map_some, e, e2]

/-! ### the law's fractions -/
abbrev gcdB : Sm := sSeq (sIf (dTr (dBin gEq (dVar 1) (dC (.int 0)))) (sRet (dVar 0)) sSkip) (sPar2 0 1 (dCons (dVar 1) (dCons (dBin gMod (dPri gInt (dCons (dVar 0) dNil)) (dVar 1)) dNil)))
theorem gcdB_zero {a : Int} {s : Option Cl} {w : Ws} : gcdB [some (.val (.int a)), some (.val (.int 0)), s] w = some (.rt (.int a), [some (.val (.int a)), some (.val (.int 0)), s], w) := by
  simp [gcdB, defW, defP, sSeq, sIf, sAsg, sWset, sRet, sRetN, sSkip, sDrop, sPar2, sPar3, sNo, dTr, dNot, dAnd, dOr, dIf, dAndV, dOrV, dNotV, dBin, dUn, dChain, dWell, dC, dVar, dPri, dTup, dLst, dCons, dNil, dCallP, dCallW, rho0, truth, asBool, asInt, gTp, gC, gNm, gN, gMul_eq, gAdd_eq, gSub_eq, gLt_eq, gLe_eq, gGt_eq, gGe_eq, gEq_eq, gNe_eq, gAbs_eq, gInt_eq, gNeg_eq, gGcd_eq, gLen_l, gLen_t, gIx_t0, gIx_t1, gIx_t2, gIx_l0, gIx_l1, gIx_l2]
theorem gcdB_pos {a b : Int} {s : Option Cl} {w : Ws} (h : 0 < b) : gcdB [some (.val (.int a)), some (.val (.int b)), s] w = some (.nx, [some (.val (.int b)), some (.val (.int (a % b))), s], w) := by
  have e : gMod (.int a) (.int b) = some (.int (a % b)) := gMod_eq h
  have h2 : ¬ b = 0 := by omega
  simp [gcdB, defW, defP, sSeq, sIf, sAsg, sWset, sRet, sRetN, sSkip, sDrop, sPar2, sPar3, sNo, dTr, dNot, dAnd, dOr, dIf, dAndV, dOrV, dNotV, dBin, dUn, dChain, dWell, dC, dVar, dPri, dTup, dLst, dCons, dNil, dCallP, dCallW, rho0, truth, asBool, asInt, gTp, gC, gNm, gN, gMul_eq, gAdd_eq, gSub_eq, gLt_eq, gLe_eq, gGt_eq, gGe_eq, gEq_eq, gNe_eq, gAbs_eq, gInt_eq, gNeg_eq, gGcd_eq, gLen_l, gLen_t, gIx_t0, gIx_t1, gIx_t2, gIx_l0, gIx_l1, gIx_l2, e, h2]
theorem gcd_go {w : Ws} : ∀ (L : Nat) (xs : List D) (a b : Nat) (s : Option Cl), b < 2 ^ L → 2 * L + 1 ≤ xs.length → ∃ ρ, forGo (gNm 2) gcdB xs [some (.val (.int a)), some (.val (.int b)), s] w = some (.rt (.int (a.gcd b : Nat)), ρ, w)
  | L, [], _, _, _, _, h => by simp at h
  | 0, x :: xs, a, b, s, hb, _ => by
    obtain rfl : b = 0 := by omega
    refine ⟨[some (.val (.int a)), some (.val (.int (0 : Nat))), some (.val x)], ?_⟩
    unfold forGo
    show (gcdB [some (.val (.int a)), some (.val (.int 0)), some (.val x)] w).bind _ = _
    rw [gcdB_zero]
    simp
  | L + 1, x :: xs, a, b, s, hb, hl => by
    unfold forGo
    show ∃ ρ, (gcdB [some (.val (.int a)), some (.val (.int b)), some (.val x)] w).bind _ = _
    by_cases h0 : b = 0
    · subst h0
      refine ⟨[some (.val (.int a)), some (.val (.int (0 : Nat))), some (.val x)], ?_⟩
      rw [show (.int ((0 : Nat) : Int) : D) = .int 0 from rfl, gcdB_zero]
      simp
    · rw [gcdB_pos (by omega)]
      show ∃ ρ, forGo (gNm 2) gcdB xs [some (.val (.int b)), some (.val (.int ((a : Int) % b))), some (.val x)] w = _
      rw [← Int.natCast_emod]
      obtain ⟨y, ys, rfl⟩ : ∃ y ys, xs = y :: ys := by
        cases xs with
        | nil => simp at hl
        | cons y ys => exact ⟨y, ys, rfl⟩
      unfold forGo
      show ∃ ρ, (gcdB [some (.val (.int b)), some (.val (.int (a % b : Nat))), some (.val y)] w).bind _ = _
      have hg : a.gcd b = b.gcd (a % b) := (gcd_step a b).symm
      have hlt : a % b < b := Nat.mod_lt _ (by omega)
      by_cases h1 : a % b = 0
      · refine ⟨[some (.val (.int b)), some (.val (.int (0 : Nat))), some (.val y)], ?_⟩
        rw [h1, show (.int ((0 : Nat) : Int) : D) = .int 0 from rfl, gcdB_zero, hg, h1, Nat.gcd_zero_right]
        rfl
      · rw [gcdB_pos (by omega)]
        show ∃ ρ, forGo (gNm 2) gcdB ys [some (.val (.int (a % b : Nat))), some (.val (.int ((b : Int) % ((a % b : Nat) : Int)))), some (.val y)] w = _
        rw [← Int.natCast_emod, hg, ← gcd_step b (a % b)]
        refine gcd_go L ys (a % b) (b % (a % b)) _ ?_ (by simp at hl; omega)
        have hm : b % (a % b) < a % b := Nat.mod_lt _ (by omega)
        have hd : b % (a % b) + (a % b) ≤ b := by
          have := Nat.mod_add_div b (a % b)
          have h3 : 1 ≤ b / (a % b) := (Nat.one_le_div_iff (by omega)).mpr (by omega)
          have h4 : a % b * 1 ≤ a % b * (b / (a % b)) := Nat.mul_le_mul_left _ h3
          omega
        rw [Nat.pow_succ] at hb
        omega
theorem gcd_ok {a b : Int} (h0 : 0 ≤ b) (h : Sz 40000 b) : F_law_gcd [.int a, .int b] = some (.int (Nat.gcd a.natAbs b.natAbs : Nat)) := by
  obtain ⟨b, rfl⟩ := Int.eq_ofNat_of_zero_le h0
  obtain ⟨L, hb, hL, j, ej, e1⟩ : ∃ L : Nat, b < 2 ^ L ∧ L ≤ 40000 ∧ ∃ j : Int, j = L ∧ gBits (.int (b : Int)) = some (.int j) := by
    by_cases hb : b = 0
    · subst hb
      exact ⟨0, by decide, by decide, 0, rfl, rfl⟩
    · refine ⟨b.log2 + 1, Nat.lt_log2_self, ?_, _, rfl, gBits_eq (by omega)⟩
      have := h.log (by decide)
      rw [Int.natAbs_natCast] at this
      omega
  have e2 : gMul (.int 2) (.int j) = some (.int (2 * j)) := gMul_eq (mulSz (j := 40) (k := 40) (by unfold Sz; decide) (by unfold Sz; omega))
  obtain ⟨ρ, e3⟩ := gcd_go (w := []) L (rangeL 0 (2 * j + 3)) a.natAbs b none hb (by unfold rangeL; rw [List.length_map, List.length_range]; omega)
  have e4 : rOk (2 * j + 3) = true := decide_eq_true ⟨by omega, by omega⟩
  refine defP_rt (ρ1 := ρ) (w1 := []) ?_ rfl
  unfold m_law_gcd
  rw [seq_nx (asg_eq (t := .int a.natAbs) (w1 := []) (ρ1 := [some (.val (.int a.natAbs)), some (.val (.int b)), none]) ?_ rfl), seq_rt ?_]
  · rw [for_eq (xs := rangeL 0 (2 * j + 3)) (w1 := []) ?_]
    · exact e3
    · simp [dRng1, defW, defP, sSeq, sIf, sAsg, sWset, sRet, sRetN, sSkip, sDrop, sPar2, sPar3, sNo, dTr, dNot, dAnd, dOr, dIf, dAndV, dOrV, dNotV, dBin, dUn, dChain, dWell, dC, dVar, dPri, dTup, dLst, dCons, dNil, dCallP, dCallW, rho0, truth, asBool, asInt, gTp, gC, gNm, gN, gMul_eq, gAdd_eq, gSub_eq, gLt_eq, gLe_eq, gGt_eq, gGe_eq, gEq_eq, gNe_eq, gAbs_eq, gInt_eq, gNeg_eq, gGcd_eq, gLen_l, gLen_t, gIx_t0, gIx_t1, gIx_t2, gIx_l0, gIx_l1, gIx_l2, e1, e2, e4]
  · simp [defW, defP, sSeq, sIf, sAsg, sWset, sRet, sRetN, sSkip, sDrop, sPar2, sPar3, sNo, dTr, dNot, dAnd, dOr, dIf, dAndV, dOrV, dNotV, dBin, dUn, dChain, dWell, dC, dVar, dPri, dTup, dLst, dCons, dNil, dCallP, dCallW, rho0, truth, asBool, asInt, gTp, gC, gNm, gN, gMul_eq, gAdd_eq, gSub_eq, gLt_eq, gLe_eq, gGt_eq, gGe_eq, gEq_eq, gNe_eq, gAbs_eq, gInt_eq, gNeg_eq, gGcd_eq, gLen_l, gLen_t, gIx_t0, gIx_t1, gIx_t2, gIx_l0, gIx_l1, gIx_l2]
/-! #### what comes of the law's own sums -/
theorem ratio_ok {n m : Int} (h0 : m ≠ 0) (hn : Sz 8000 n) (hm : Sz 8000 m) : F_law_ratio [.int n, .int m] = some (fq (Rat.divInt n m)) := by
  have key : ∀ n m : Int, 0 < m → Sz 8000 n → Sz 8000 m → ∀ s, ∃ ρ1 w1, (sSeq (sAsg (gNm 2) (dCallP F_law_gcd (dCons (dVar 0) (dCons (dVar 1) dNil))))
    (sRet (dTup (dCons (dBin gFdiv (dVar 0) (dVar 2)) (dCons (dBin gFdiv (dVar 1) (dVar 2)) dNil))))) [some (.val (.int n)), some (.val (.int m)), s] [] = some (.rt (fq (Rat.divInt n m)), ρ1, w1) := by
    intro n m h hn hm s
    have hg : 0 < n.natAbs.gcd m.natAbs := Nat.gcd_pos_of_pos_right _ (by omega)
    have hs : Sz 9000 ((n.natAbs.gcd m.natAbs : Nat) : Int) := by
      refine (hm.mono (by decide)).le_of ?_
      rw [Int.natAbs_natCast]
      exact Nat.le_of_dvd (by omega) (Nat.gcd_dvd_right _ _)
    have e1 : F_law_gcd [.int n, .int m] = some (.int (n.natAbs.gcd m.natAbs : Nat)) := gcd_ok (by omega) (hm.mono (by decide))
    have e2 : gFdiv (.int n) (.int (n.natAbs.gcd m.natAbs : Nat)) = some (.int (n / (n.natAbs.gcd m.natAbs : Nat))) := gFdiv_eq (by omega) hs
    have e3 : gFdiv (.int m) (.int (n.natAbs.gcd m.natAbs : Nat)) = some (.int (m / (n.natAbs.gcd m.natAbs : Nat))) := gFdiv_eq (by omega) hs
    rw [← fr_divInt h]
    simp [defW, defP, sSeq, sIf, sAsg, sWset, sRet, sRetN, sSkip, sDrop, sPar2, sPar3, sNo, dTr, dNot, dAnd, dOr, dIf, dAndV, dOrV, dNotV, dBin, dUn, dChain, dWell, dC, dVar, dPri, dTup, dLst, dCons, dNil, dCallP, dCallW, rho0, truth, asBool, asInt, gTp, gC, gNm, gN, gMul_eq, gAdd_eq, gSub_eq, gLt_eq, gLe_eq, gGt_eq, gGe_eq, gEq_eq, gNe_eq, gAbs_eq, gInt_eq, gNeg_eq, gGcd_eq, gLen_l, gLen_t, gIx_t0, gIx_t1, gIx_t2, gIx_l0, gIx_l1, gIx_l2, e1, e2, e3, fr]
  by_cases hm0 : m < 0
  · obtain ⟨ρ1, w1, e⟩ := key (-n) (-m) (by omega) hn.neg hm.neg none
    refine defP_rt (ρ1 := ρ1) (w1 := w1) ?_ rfl
    unfold m_law_ratio
    rw [seq_nx (ρ1 := [some (.val (.int (-n))), some (.val (.int (-m))), none]) (w1 := []) (by simp [defW, defP, sSeq, sIf, sAsg, sWset, sRet, sRetN, sSkip, sDrop, sPar2, sPar3, sNo, dTr, dNot, dAnd, dOr, dIf, dAndV, dOrV, dNotV, dBin, dUn, dChain, dWell, dC, dVar, dPri, dTup, dLst, dCons, dNil, dCallP, dCallW, rho0, truth, asBool, asInt, gTp, gC, gNm, gN, gMul_eq, gAdd_eq, gSub_eq, gLt_eq, gLe_eq, gGt_eq, gGe_eq, gEq_eq, gNe_eq, gAbs_eq, gInt_eq, gNeg_eq, gGcd_eq, gLen_l, gLen_t, gIx_t0, gIx_t1, gIx_t2, gIx_l0, gIx_l1, gIx_l2, hm0]), e, Rat.neg_divInt_neg]
  · obtain ⟨ρ1, w1, e⟩ := key n m (by omega) hn hm none
    refine defP_rt (ρ1 := ρ1) (w1 := w1) ?_ rfl
    unfold m_law_ratio
    rw [seq_nx (ρ1 := [some (.val (.int n)), some (.val (.int m)), none]) (w1 := []) (by simp [defW, defP, sSeq, sIf, sAsg, sWset, sRet, sRetN, sSkip, sDrop, sPar2, sPar3, sNo, dTr, dNot, dAnd, dOr, dIf, dAndV, dOrV, dNotV, dBin, dUn, dChain, dWell, dC, dVar, dPri, dTup, dLst, dCons, dNil, dCallP, dCallW, rho0, truth, asBool, asInt, gTp, gC, gNm, gN, gMul_eq, gAdd_eq, gSub_eq, gLt_eq, gLe_eq, gGt_eq, gGe_eq, gEq_eq, gNe_eq, gAbs_eq, gInt_eq, gNeg_eq, gGcd_eq, gLen_l, gLen_t, gIx_t0, gIx_t1, gIx_t2, gIx_l0, gIx_l1, gIx_l2, hm0]), e]
theorem plus_ok {p q : Rat} {j k : Nat} (hp : Sq j p) (hq : Sq k q) (h : j + k < 7000) : F_law_plus [fq p, fq q] = some (fq (p + q)) := by
  have e1 : mulOk p.num q.den = true := mulSz hp.n hq.d
  have e2 : mulOk q.num p.den = true := mulSz hq.n hp.d
  have e3 : mulOk p.den q.den = true := mulSz hp.d hq.d
  have e4 : F_law_ratio [.int (p.num * q.den + q.num * p.den), .int (p.den * q.den)] = some (fq (p + q)) := by
    rw [q_add]
    exact ratio_ok (Int.mul_ne_zero (den_ne p) (den_ne q)) (((hp.n.mul hq.d).add ((hq.n.mul hp.d).mono (by omega))).mono (by omega)) ((hp.d.mul hq.d).mono (by omega))
  simp [F_law_plus, m_law_plus, defW, defP, sSeq, sIf, sAsg, sWset, sRet, sRetN, sSkip, sDrop, sPar2, sPar3, sNo, dTr, dNot, dAnd, dOr, dIf, dAndV, dOrV, dNotV, dBin, dUn, dChain, dWell, dC, dVar, dPri, dTup, dLst, dCons, dNil, dCallP, dCallW, rho0, truth, asBool, asInt, gTp, gC, gNm, gN, gMul_eq, gAdd_eq, gSub_eq, gLt_eq, gLe_eq, gGt_eq, gGe_eq, gEq_eq, gNe_eq, gAbs_eq, gInt_eq, gNeg_eq, gGcd_eq, gLen_l, gLen_t, gIx_t0, gIx_t1, gIx_t2, gIx_l0, gIx_l1, gIx_l2, fq, fr, e1, e2, e3, e4]
theorem times_ok {p q : Rat} {j k : Nat} (hp : Sq j p) (hq : Sq k q) (h : j + k < 7000) : F_law_times [fq p, fq q] = some (fq (p * q)) := by
  have e1 : mulOk p.num q.num = true := mulSz hp.n hq.n
  have e3 : mulOk p.den q.den = true := mulSz hp.d hq.d
  have e4 : F_law_ratio [.int (p.num * q.num), .int (p.den * q.den)] = some (fq (p * q)) := by
    rw [q_mul]
    exact ratio_ok (Int.mul_ne_zero (den_ne p) (den_ne q)) ((hp.n.mul hq.n).mono (by omega)) ((hp.d.mul hq.d).mono (by omega))
  simp [F_law_times, m_law_times, defW, defP, sSeq, sIf, sAsg, sWset, sRet, sRetN, sSkip, sDrop, sPar2, sPar3, sNo, dTr, dNot, dAnd, dOr, dIf, dAndV, dOrV, dNotV, dBin, dUn, dChain, dWell, dC, dVar, dPri, dTup, dLst, dCons, dNil, dCallP, dCallW, rho0, truth, asBool, asInt, gTp, gC, gNm, gN, gMul_eq, gAdd_eq, gSub_eq, gLt_eq, gLe_eq, gGt_eq, gGe_eq, gEq_eq, gNe_eq, gAbs_eq, gInt_eq, gNeg_eq, gGcd_eq, gLen_l, gLen_t, gIx_t0, gIx_t1, gIx_t2, gIx_l0, gIx_l1, gIx_l2, fq, fr, e1, e3, e4]

/-! ### sides and places in the program's whole numbers -/
theorem scale_go {k : Nat} {x : D} : ∀ (qs : List Rat) (s j : Nat) (y : Option Cl), 0 < s → s < 2 ^ j → (∀ q ∈ qs, Sq k q) → j + k * qs.length < 13000 → ∃ y',
    forGo (gNm 2) (sAsg (gNm 1) (dPri gLcm (dCons (dVar 1) (dCons (dBin gIx (dVar 2) (dC (.int 1))) dNil)))) (qs.map fq) [some (.val x), some (.val (.int (s : Nat))), y] [] =
      some (.nx, [some (.val x), some (.val (.int (qs.foldl (fun s q => Nat.lcm s q.den) s : Nat))), y'], [])
  | [], s, j, y, _, _, _, _ => ⟨y, rfl⟩
  | p :: qs, s, j, y, h0, h1, h2, h3 => by
    have hp := (h2 p (List.mem_cons_self ..)).d
    have hd : p.den < 2 ^ k := by simpa [Sz] using hp
    rw [List.length_cons, Nat.mul_add, Nat.mul_one] at h3
    have hl := lcm_le h1 hd h0 p.den_pos
    have e : gLcm [.int (s : Nat), .int (p.den : Nat)] = some (.int (Nat.lcm s p.den : Nat)) :=
      gLcm_eq (Nat.lt_of_lt_of_le (log_of (Nat.lt_of_lt_of_le h1 (Nat.pow_le_pow_right (by decide) (Nat.le_succ j))) (by omega)) (by omega))
        (Nat.lt_of_lt_of_le (log_of (Nat.lt_of_lt_of_le hd (Nat.pow_le_pow_right (by decide) (Nat.le_succ k))) (by omega)) (by omega))
        (Nat.lt_of_lt_of_le (log_of (Nat.lt_of_lt_of_le hl (Nat.pow_le_pow_right (by decide) (Nat.le_succ (j + k)))) (by omega)) (Nat.le_trans (show j + k + 1 ≤ 13001 by omega) (by decide)))
    obtain ⟨y', ih⟩ := scale_go (x := x) qs (Nat.lcm s p.den) (j + k) (some (.val (fq p))) (Nat.lcm_pos h0 p.den_pos) hl (fun q hq => h2 q (List.mem_cons_of_mem _ hq)) (by omega)
    refine ⟨y', ?_⟩
    rw [List.map_cons]
    unfold forGo
    show (sAsg (gNm 1) (dPri gLcm (dCons (dVar 1) (dCons (dBin gIx (dVar 2) (dC (.int 1))) dNil))) [some (.val x), some (.val (.int (s : Nat))), some (.val (fq p))] []).bind _ = _
    rw [asg_eq (t := .int (Nat.lcm s p.den : Nat)) (ρ1 := [some (.val x), some (.val (.int (Nat.lcm s p.den : Nat))), some (.val (fq p))]) (w1 := []) (by simp [defW, defP, sSeq, sIf, sAsg, sWset, sRet, sRetN, sSkip, sDrop, sPar2, sPar3, sNo, dTr, dNot, dAnd, dOr, dIf, dAndV, dOrV, dNotV, dBin, dUn, dChain, dWell, dC, dVar, dPri, dTup, dLst, dCons, dNil, dCallP, dCallW, rho0, truth, asBool, asInt, gTp, gC, gNm, gN, gMul_eq, gAdd_eq, gSub_eq, gLt_eq, gLe_eq, gGt_eq, gGe_eq, gEq_eq, gNe_eq, gAbs_eq, gInt_eq, gNeg_eq, gGcd_eq, gLen_l, gLen_t, gIx_t0, gIx_t1, gIx_t2, gIx_l0, gIx_l1, gIx_l2, fq, fr, e]) rfl]
    exact ih
theorem pw_scale {qs : List Rat} {k : Nat} (h : ∀ q ∈ qs, Sq k q) (hk : 1 + k * qs.length < 13000) : Fcommon_scale [.tuple (qs.map fq)] = some (.int (scaleOf qs : Nat)) := by
  obtain ⟨y', e⟩ := scale_go (x := .tuple (qs.map fq)) qs 1 1 none (by decide) (by decide) h hk
  refine defP_rt (ρ1 := [some (.val (.tuple (qs.map fq))), some (.val (.int (scaleOf qs : Nat))), y']) (w1 := []) ?_ rfl
  unfold mcommon_scale
  rw [seq_nx (asg_eq (t := .int 1) (ρ1 := [some (.val (.tuple (qs.map fq))), some (.val (.int 1)), none]) (w1 := []) rfl rfl), seq_nx (ρ1 := [some (.val (.tuple (qs.map fq))), some (.val (.int (scaleOf qs : Nat))), y']) (w1 := [])]
  · rfl
  · rw [for_eq (xs := qs.map fq) (w1 := []) (dItems_t rfl)]
    exact e
theorem pw_scaled {q : Rat} {L : Nat} {j k : Nat} (hq : Sq k q) (hL : L < 2 ^ j) (hj : j + k < 900000) (h9 : k ≤ 8000) : Fscaled [fq q, .int (L : Nat)] = some (.int (upL L q)) := by
  have e1 : gFdiv (.int (L : Nat)) (.int (q.den : Nat)) = some (.int ((L : Int) / (q.den : Int))) := gFdiv_eq (den_pos q) (hq.d.mono (by omega))
  have h2 : Sz j ((L : Int) / (q.den : Int)) := Sz.le_of (a := (L : Int)) (by unfold Sz; simpa using hL) (Int.natAbs_ediv_le_natAbs _ _)
  have e2 : mulOk q.num ((L : Int) / (q.den : Int)) = true := mulSz hq.n h2
  simp [Fscaled, mscaled, defW, defP, sSeq, sIf, sAsg, sWset, sRet, sRetN, sSkip, sDrop, sPar2, sPar3, sNo, dTr, dNot, dAnd, dOr, dIf, dAndV, dOrV, dNotV, dBin, dUn, dChain, dWell, dC, dVar, dPri, dTup, dLst, dCons, dNil, dCallP, dCallW, rho0, truth, asBool, asInt, gTp, gC, gNm, gN, gMul_eq, gAdd_eq, gSub_eq, gLt_eq, gLe_eq, gGt_eq, gGe_eq, gEq_eq, gNe_eq, gAbs_eq, gInt_eq, gNeg_eq, gGcd_eq, gLen_l, gLen_t, gIx_t0, gIx_t1, gIx_t2, gIx_l0, gIx_l1, gIx_l2, fq, fr, e1, e2, upL]
def wT (l : L3) : D := .list [.int l.1, .int l.2.1, .int l.2.2]
theorem pw_side_list {e : E3} {k : Nat} {ρ : Rho} (h : SqE k e) (hk : k ≤ 3000) (h0 : ρ[2]? = some (some (.val (eT e)))) (h3 : ρ[3]? = some (some (.val (.int (scaleOf [e.1, e.2.1, e.2.2] : Nat))))) (hl : ρ.length = 5) :
    dComp [4] (dItems (dVar 2)) (gNm 4) dYes (dCallP Fscaled (dCons (dVar 4) (dCons (dVar 3) dNil))) ρ [] = some (wT (sideL e), []) := by
  have hs : scaleOf [e.1, e.2.1, e.2.2] < 2 ^ (1 + k * 3) := scale_size fun q hq => by
    simp at hq
    rcases hq with rfl | rfl | rfl
    · exact h.a
    · exact h.b
    · exact h.c
  let L : Nat := scaleOf [e.1, e.2.1, e.2.2]
  let f : D → D := fun t => (Fscaled [t, .int (L : Nat)]).getD .none
  have ok : ∀ q : Rat, Sq k q → Fscaled [fq q, .int (L : Nat)] = some (.int (upL L q)) := fun q hq => pw_scaled hq hs (by omega) (by omega)
  have hf : ∀ q : Rat, Sq k q → f (fq q) = .int (upL L q) := fun q hq => by
    show (Fscaled [fq q, .int (L : Nat)]).getD .none = _
    rw [ok q hq]
    rfl
  have hm : ∀ t ∈ [fq e.1, fq e.2.1, fq e.2.2], ∃ q, t = fq q ∧ Sq k q := fun t ht => by
    simp at ht
    rcases ht with rfl | rfl | rfl
    · exact ⟨_, rfl, h.a⟩
    · exact ⟨_, rfl, h.b⟩
    · exact ⟨_, rfl, h.c⟩
  have := comp_map (vs := [4]) (it := dItems (dVar 2)) (g := gNm 4) (e := dCallP Fscaled (dCons (dVar 4) (dCons (dVar 3) dNil))) (ρ := ρ) (w := []) (w1 := []) (xs := [fq e.1, fq e.2.1, fq e.2.2]) (f := f) (dItems_t (by simp [defW, defP, sSeq, sIf, sAsg, sWset, sRet, sRetN, sSkip, sDrop, sPar2, sPar3, sNo, dTr, dNot, dAnd, dOr, dIf, dAndV, dOrV, dNotV, dBin, dUn, dChain, dWell, dC, dVar, dPri, dTup, dLst, dCons, dNil, dCallP, dCallW, rho0, truth, asBool, asInt, gTp, gC, gNm, gN, gMul_eq, gAdd_eq, gSub_eq, gLt_eq, gLe_eq, gGt_eq, gGe_eq, gEq_eq, gNe_eq, gAbs_eq, gInt_eq, gNeg_eq, gGcd_eq, gLen_l, gLen_t, gIx_t0, gIx_t1, gIx_t2, gIx_l0, gIx_l1, gIx_l2, h0, eT])) (by simp) fun t ht => by
    obtain ⟨q, rfl, hq⟩ := hm t ht
    refine ⟨(wipeR ρ [4]).set 4 (some (.val (fq q))), ?_, ?_⟩
    · unfold gNm
      rw [if_pos (by rw [wipeR_len, hl]; decide)]
    · have e3 : ((wipeR ρ [4]).set 4 (some (.val (fq q))))[3]? = some (some (.val (.int (L : Nat)))) := by
        unfold wipeR wipeR
        rw [List.getElem?_set_ne (by decide), List.getElem?_set_ne (by decide)]
        exact h3
      have e4 : ((wipeR ρ [4]).set 4 (some (.val (fq q))))[4]? = some (some (.val (fq q))) := by
        rw [List.getElem?_set_self (by rw [wipeR_len, hl]; decide)]
      simp [defW, defP, sSeq, sIf, sAsg, sWset, sRet, sRetN, sSkip, sDrop, sPar2, sPar3, sNo, dTr, dNot, dAnd, dOr, dIf, dAndV, dOrV, dNotV, dBin, dUn, dChain, dWell, dC, dVar, dPri, dTup, dLst, dCons, dNil, dCallP, dCallW, rho0, truth, asBool, asInt, gTp, gC, gNm, gN, gMul_eq, gAdd_eq, gSub_eq, gLt_eq, gLe_eq, gGt_eq, gGe_eq, gEq_eq, gNe_eq, gAbs_eq, gInt_eq, gNeg_eq, gGcd_eq, gLen_l, gLen_t, gIx_t0, gIx_t1, gIx_t2, gIx_l0, gIx_l1, gIx_l2, e3, e4, ok q hq, hf q hq]
  rw [this]
  simp [hf _ h.a, hf _ h.b, hf _ h.c, wT, sideL, L]

abbrev wsB : Sm := sSeq (sAsg (gNm 3) (dCallP Fcommon_scale (dCons (dVar 2) dNil))) (sApp 1 (dComp [4] (dItems (dVar 2)) (gNm 4) dYes (dCallP Fscaled (dCons (dVar 4) (dCons (dVar 3) dNil)))))
theorem ws_step {x : D} {e : E3} {k : Nat} {acc : List D} {c d f : Option Cl} (h : SqE k e) (hk : k ≤ 3000) (hl : acc.length < 100000) :
    wsB [some (.val x), some (.own acc), some (.val (eT e)), d, f] [] = some (.nx, [some (.val x), some (.own (acc ++ [wT (sideL e)])), some (.val (eT e)), some (.val (.int (scaleOf [e.1, e.2.1, e.2.2] : Nat))), f], []) := by
  have hs : ∀ q ∈ [e.1, e.2.1, e.2.2], Sq k q := fun q hq => by
    simp at hq
    rcases hq with rfl | rfl | rfl
    · exact h.a
    · exact h.b
    · exact h.c
  have e1 : Fcommon_scale [eT e] = some (.int (scaleOf [e.1, e.2.1, e.2.2] : Nat)) := pw_scale hs (by simp; omega)
  have e2 := pw_side_list (ρ := [some (.val x), some (.own acc), some (.val (eT e)), some (.val (.int (scaleOf [e.1, e.2.1, e.2.2] : Nat))), f]) h hk rfl rfl rfl
  unfold wsB
  rw [seq_nx (asg_eq (t := .int (scaleOf [e.1, e.2.1, e.2.2] : Nat)) (w1 := []) (ρ1 := [some (.val x), some (.own acc), some (.val (eT e)), some (.val (.int (scaleOf [e.1, e.2.1, e.2.2] : Nat))), f]) (by simp [defW, defP, sSeq, sIf, sAsg, sWset, sRet, sRetN, sSkip, sDrop, sPar2, sPar3, sNo, dTr, dNot, dAnd, dOr, dIf, dAndV, dOrV, dNotV, dBin, dUn, dChain, dWell, dC, dVar, dPri, dTup, dLst, dCons, dNil, dCallP, dCallW, rho0, truth, asBool, asInt, gTp, gC, gNm, gN, gMul_eq, gAdd_eq, gSub_eq, gLt_eq, gLe_eq, gGt_eq, gGe_eq, gEq_eq, gNe_eq, gAbs_eq, gInt_eq, gNeg_eq, gGcd_eq, gLen_l, gLen_t, gIx_t0, gIx_t1, gIx_t2, gIx_l0, gIx_l1, gIx_l2, e1]) rfl)]
  unfold sApp
  rw [e2]
  show (if acc.length < 100000 then _ else none) = _
  rw [if_pos hl]
  rfl
theorem ws_go {x : D} {k : Nat} : ∀ (es : List E3) (acc : List D) (c d f : Option Cl), (∀ e ∈ es, SqE k e) → k ≤ 3000 → acc.length + es.length < 100000 → ∃ c' d' f',
    forGo (gNm 2) wsB (es.map eT) [some (.val x), some (.own acc), c, d, f] [] = some (.nx, [some (.val x), some (.own (acc ++ es.map fun e => wT (sideL e))), c', d', f'], [])
  | [], acc, c, d, f, _, _, _ => ⟨c, d, f, by simp [forGo]⟩
  | e :: es, acc, c, d, f, h, hk, hl => by
    simp at hl
    have h1 := ws_step (x := x) (acc := acc) (c := c) (d := d) (f := f) (h e (List.mem_cons_self ..)) hk (by omega)
    obtain ⟨c', d', f', ih⟩ := ws_go (x := x) es (acc ++ [wT (sideL e)]) (some (.val (eT e))) (some (.val (.int (scaleOf [e.1, e.2.1, e.2.2] : Nat)))) f (fun u hu => h u (List.mem_cons_of_mem _ hu)) hk (by simp; omega)
    refine ⟨c', d', f', ?_⟩
    rw [List.map_cons]
    unfold forGo
    show (wsB [some (.val x), some (.own acc), some (.val (eT e)), d, f] []).bind _ = _
    rw [h1]
    show forGo (gNm 2) wsB (es.map eT) [some (.val x), some (.own (acc ++ [wT (sideL e)])), some (.val (eT e)), some (.val (.int (scaleOf [e.1, e.2.1, e.2.2] : Nat))), f] [] = _
    rw [ih]
    simp
theorem pw_sides {es : List E3} {k : Nat} (h : ∀ e ∈ es, SqE k e) (hk : k ≤ 3000) (hl : es.length ≤ 1000) : Fwhole_sides [lT es] = some (.list (es.map fun e => wT (sideL e))) := by
  obtain ⟨c, d, f, e⟩ := ws_go (x := lT es) es [] none none none h hk (by simp; omega)
  refine defP_rt (ρ1 := [some (.val (lT es)), some (.val (.list (es.map fun e => wT (sideL e)))), c, d, f]) (w1 := []) ?_ rfl
  unfold mwhole_sides
  rw [seq_nx (ρ1 := [some (.val (lT es)), some (.own []), none, none, none]) (w1 := []) (own_eq (ts := []) rfl (by simp [rho0])), seq_nx (ρ1 := [some (.val (lT es)), some (.own (es.map fun e => wT (sideL e))), c, d, f]) (w1 := [])]
  · rfl
  · rw [for_eq (xs := es.map eT) (w1 := []) (dItems_t rfl)]
    rw [List.nil_append] at e
    exact e
theorem pw_holds {ls : List L3} {s : L3} {j k : Nat} (hl : ∀ l ∈ ls, SzL j l) (hs : SzL k s) (hjk : j + k < 900000) (hn : ls.length ≤ 100000) : Fholds [.list (ls.map wT), iT s] = some (.bool (ls.all fun l => holdsL l s)) := by
  obtain ⟨x, y, w⟩ := s
  let p : D → Bool := fun t => match t with
    | .list [.int a, .int b, .int c] => holdsL (a, b, c) (x, y, w)
    | _ => false
  have hc : dComp [5, 6, 7] (dItems (dVar 0)) (gTp (gC (gNm 5) (gC (gNm 6) (gC (gNm 7) gN)))) dYes (dBin gLe (dBin gAdd (dBin gMul (dVar 5) (dVar 2)) (dBin gMul (dVar 6) (dVar 3))) (dBin gMul (dVar 7) (dVar 4)))
      [some (.val (.list (ls.map wT))), some (.val (iT (x, y, w))), some (.val (.int x)), some (.val (.int y)), some (.val (.int w)), none, none, none] [] = some (.list ((ls.map wT).map fun t => .bool (p t)), []) := by
    refine comp_map (dItems_l rfl) (by simpa using hn) fun t ht => ?_
    obtain ⟨l, hlm, rfl⟩ := List.mem_map.mp ht
    obtain ⟨a, b, c⟩ := l
    obtain ⟨s1, s2, s3⟩ := hl _ hlm
    have e1 : mulOk a x = true := mulSz s1 hs.1
    have e2 : mulOk b y = true := mulSz s2 hs.2.1
    have e3 : mulOk c w = true := mulSz s3 hs.2.2
    refine ⟨[some (.val (.list (ls.map wT))), some (.val (iT (x, y, w))), some (.val (.int x)), some (.val (.int y)), some (.val (.int w)), some (.val (.int a)), some (.val (.int b)), some (.val (.int c))], rfl, ?_⟩
    simp [defW, defP, sSeq, sIf, sAsg, sWset, sRet, sRetN, sSkip, sDrop, sPar2, sPar3, sNo, dTr, dNot, dAnd, dOr, dIf, dAndV, dOrV, dNotV, dBin, dUn, dChain, dWell, dC, dVar, dPri, dTup, dLst, dCons, dNil, dCallP, dCallW, rho0, truth, asBool, asInt, gTp, gC, gNm, gN, gMul_eq, gAdd_eq, gSub_eq, gLt_eq, gLe_eq, gGt_eq, gGe_eq, gEq_eq, gNe_eq, gAbs_eq, gInt_eq, gNeg_eq, gGcd_eq, gLen_l, gLen_t, gIx_t0, gIx_t1, gIx_t2, gIx_l0, gIx_l1, gIx_l2, wT, e1, e2, e3, p, holdsL]
  have he : ((ls.map wT).all p) = ls.all fun l => holdsL l (x, y, w) := by
    rw [List.all_map]
    congr 1
  have hg := gAll_map (p := p) (ls.map wT)
  rw [he] at hg
  have t3 : gTp (gC (gNm 2) (gC (gNm 3) (gC (gNm 4) gN))) (iT (x, y, w)) (rho0 8 [.list (ls.map wT), iT (x, y, w)]) = some [some (.val (.list (ls.map wT))), some (.val (iT (x, y, w))), some (.val (.int x)), some (.val (.int y)), some (.val (.int w)), none, none, none] := rfl
  refine defP_rt (ρ1 := [some (.val (.list (ls.map wT))), some (.val (iT (x, y, w))), some (.val (.int x)), some (.val (.int y)), some (.val (.int w)), none, none, none]) (w1 := []) ?_ rfl
  unfold mholds
  rw [seq_nx (asg_eq (t := iT (x, y, w)) (w1 := []) rfl t3)]
  refine ret_eq ?_
  unfold dPri dCons
  rw [hc]
  show (gAll [.list ((ls.map wT).map fun t => .bool (p t))]).map _ = _
  rw [hg]
  rfl
theorem isEdge_eT (e : E3) (h : e.1 ≠ 0 ∨ e.2.1 ≠ 0) : isEdge (eT e) = true := by
  unfold eT
  rw [isEdge_of, isFr_fq, isFr_fq, isFr_fq]
  have : ∀ q : Rat, num (fq q) = q.num := fun q => rfl
  rw [this, this]
  simp
  rcases h with h | h
  · exact Or.inl h
  · exact Or.inr h
structure LandOk (k : Nat) (es : List E3) : Prop where
  sz : ∀ e ∈ es, SqE k e
  ne : ∀ e ∈ es, e.1 ≠ 0 ∨ e.2.1 ≠ 0
  l1 : 1 ≤ es.length
  l5 : es.length ≤ 5
theorem LandOk.is {k : Nat} {es : List E3} (h : LandOk k es) : isLand (lT es) = true := by
  unfold lT
  rw [isLand_of]
  have h1 := h.l1
  have h5 := h.l5
  simp only [List.length_map, Bool.and_eq_true, decide_eq_true_eq]
  refine ⟨⟨h1, h5⟩, ?_⟩
  rw [List.all_eq_true]
  intro t ht
  obtain ⟨e, he, rfl⟩ := List.mem_map.mp ht
  exact isEdge_eT e (h.ne e he)
/-! ### the program's nearest place -/
abbrev d0 : L3 := (0, 0, 0)
theorem pw_crossing {l m : L3} {A C : Nat} (hl : Zb A C l) (hm : Zb A C m) (hA : A ≤ 1000) (hC : C ≤ 1000) : Fcrossing [wT l, wT m] = some (if detL l m = 0 then .none else iT (crossL l m)) := by
  obtain ⟨a, b, c⟩ := l
  obtain ⟨d, e, f⟩ := m
  obtain ⟨h1, h2, h3⟩ := hl
  obtain ⟨g1, g2, g3⟩ := hm
  dsimp only at h1 h2 h3 g1 g2 g3
  refine wo_eqn ?_
  unfold Fcrossing mcrossing
  refine wo_defP rfl ?_
  sleep 1
  unfold wT
  sleep 0
  refine br_p (fun z => ?_) (fun z => ?_)
  · sleep 0
    rw [if_pos (show detL (a, b, c) (d, e, f) = 0 from z)]
  · sleep 0
    rw [if_neg (show ¬ detL (a, b, c) (d, e, f) = 0 from z)]
    refine br_p (fun z2 => ?_) (fun z2 => ?_)
    · sleep 0
      unfold crossL
      rw [if_pos (show detL (a, b, c) (d, e, f) < 0 from z2)]
      rfl
    · sleep 0
      unfold crossL
      rw [if_neg (show ¬ detL (a, b, c) (d, e, f) < 0 from z2)]
      rfl
theorem pw_foot {l s : L3} {A C X W : Nat} (hl : Zb A C l) (hs : Zb X W s) (hA : A ≤ 1000) (hC : C ≤ 1000) (hX : X ≤ 2000) (hW : W ≤ 2000) : Ffoot [wT l, iT s] = some (iT (footL l s)) := by
  obtain ⟨a, b, c⟩ := l
  obtain ⟨x, y, w⟩ := s
  obtain ⟨h1, h2, h3⟩ := hl
  obtain ⟨g1, g2, g3⟩ := hs
  dsimp only at h1 h2 h3 g1 g2 g3
  have z1 : Sz (A + A + 1) (a * a + b * b) := (h1.mul h1).add (h2.mul h2)
  have z2 : Sz (6000 + 1 + 1) (a * x + b * y - c * w) := (((h1.mul g1).mono (show _ ≤ 6000 by omega)).add ((h2.mul g2).mono (by omega))).sub ((h3.mul g3).mono (by omega))
  refine wo_eqn ?_
  unfold Ffoot mfoot
  refine wo_defP rfl ?_
  sleep 1
  unfold wT iT
  sleep 0
  unfold footL
  rfl
theorem pw_square {s t : L3} {p q : P2} {X W X2 W2 : Nat} (hs : Zb X W s) (ht : Zb X2 W2 t) (rs : RepP p s) (rt : RepP q t) (hX : X ≤ 2000) (hW : W ≤ 2000) (hX2 : X2 ≤ 2000) (hW2 : W2 ≤ 2000) : Fsquare_between [iT s, iT t] = some (fq (gapQ p q)) := by
  obtain ⟨eg, hp⟩ := rep_gap rs rt
  have zz := zb_sq hs ht (M := 4000) (by omega) (by omega)
  have e1 := pw_ratio (n := sqN s t) (m := sqD s t) hp (zz.2.mono (by omega))
  rw [eg] at e1
  obtain ⟨x, y, w⟩ := s
  obtain ⟨u, v, o⟩ := t
  obtain ⟨h1, h2, h3⟩ := hs
  obtain ⟨g1, g2, g3⟩ := ht
  dsimp only at h1 h2 h3 g1 g2 g3
  have z1 : Sz (4000 + 1) (x * o - u * w) := ((h1.mul g3).mono (show _ ≤ 4000 by omega)).sub ((g1.mul h3).mono (by omega))
  have z2 : Sz (4000 + 1) (y * o - v * w) := ((h2.mul g3).mono (show _ ≤ 4000 by omega)).sub ((g2.mul h3).mono (by omega))
  have z3 := h3.mul h3
  have z4 := z3.mul g3
  unfold sqN sqD at e1
  dsimp only at e1
  refine wo_eqn ?_
  unfold Fsquare_between msquare_between
  refine wo_defP rfl ?_
  sleep 1
  unfold iT
  sleep 0
  first | ((with_reducible apply call_of); (· exact e1)) | ((with_reducible apply callw_of); (· exact e1)) | refine wo_of e1 ?_
  sleep 0
  rfl
structure Land1 (es : List E3) : Prop where
  ed : ∀ e ∈ es, EdB e
  l1 : 1 ≤ es.length
  l5 : es.length ≤ 5
theorem Land1.nok {es : List E3} (h : Land1 es) : NormOk es := ⟨fun e he => (h.ed e he).ne⟩
theorem holds_in {es : List E3} {p : P2} {s : L3} (rs : RepP p s) : ((es.map sideL).all fun l => holdsL l s) = inside es p := by
  rw [List.all_map]
  unfold inside
  congr 1
  funext e
  exact holds_rep (rep_side e) rs
def sdD (es : List E3) : D := .list (es.map fun e => wT (sideL e))
theorem pw_holdsQ {es : List E3} {p : P2} {s : L3} {X W : Nat} (h : Land1 es) (hs : Zb X W s) (rs : RepP p s) (hX : X ≤ 4000) (hW : W ≤ 4000) : Fholds [sdD es, iT s] = some (.bool (inside es p)) := by
  have e5 := pw_holds (ls := es.map sideL) (s := s) (j := 200) (k := 4000) (fun l hl => by
    obtain ⟨e, hem, rfl⟩ := List.mem_map.mp hl
    exact (zb_sideL (h.ed e hem)).szL (by decide) (by decide)) (hs.szL hX hW) (by decide) (by have := h.l5; simp; omega)
  rw [holds_in rs, List.map_map] at e5
  exact e5
def ftS (es : List E3) (p : P2) (s : L3) : List L3 := (es.filter fun e => inside es (footQ e p)).map fun e => footL (sideL e) s
def crS (es : List E3) : List L3 := ((twos (0, 0, 0) es).filter fun q => decide (detE q.1 q.2 ≠ 0) && inside es (crossQ q.1 q.2)).map fun q => crossL (sideL q.1) (sideL q.2)
theorem pw_foot_spots {es : List E3} {p : P2} {s : L3} {X W : Nat} (h : Land1 es) (hs : Zb X W s) (rs : RepP p s) (hX : X ≤ 1000) (hW : W ≤ 900) (hXW : 169 + W ≤ 94 + X) : Ffoot_spots [sdD es, iT s] = some (.list ((ftS es p s).map iT)) := by
  have h5 := h.l5
  refine wo_eqn ?_
  unfold Ffoot_spots mfoot_spots
  refine wo_defP rfl ?_
  sleep 1
  unfold sdD
  sleep 0
  refine wc_map (as := es) (F := fun e => wT (sideL e)) (fun e => iT (footL (sideL e) s)) rfl (fun e he => ?_) ?_
  · have e1 := pw_foot (zb_sideL (h.ed e he)) hs (by decide) (by decide) (by omega) (by omega)
    sleep 0
    first | ((with_reducible apply call_of); (· exact e1)) | ((with_reducible apply callw_of); (· exact e1)) | refine wo_of e1 ?_
    exact ⟨rfl, rfl⟩
  · sleep 0
    refine wc_filter (as := es) (F := fun e => iT (footL (sideL e) s)) (fun e => inside es (footQ e p)) (fun e => iT (footL (sideL e) s)) rfl (fun e he => ?_) ?_
    · have e2 := pw_holdsQ h (zb_foot (zb_sideL (h.ed e he)) hs hXW) (rep_foot (rep_side e) rs (h.ed e he).ne) (by omega) (by omega)
      unfold sdD at e2
      sleep 0
      first | ((with_reducible apply call_of); (· exact e2)) | ((with_reducible apply callw_of); (· exact e2)) | refine wo_of e2 ?_
      sleep 0
      exact ⟨rfl, rfl, fun _ => ⟨_, _, rfl, rfl, rfl⟩⟩
    · sleep 0
      unfold ftS
      rw [List.map_map]
      rfl
theorem pw_corner_spots {es : List E3} (h : Land1 es) : Fcorner_spots [sdD es] = some (.list ((crS es).map iT)) := by
  have h5 := h.l5
  have hl : (twos ((0, 0, 0) : E3) es).length ≤ 100 := by
    have := twos_len (d := ((0, 0, 0) : E3)) (as := es)
    have : es.length * es.length ≤ 5 * 5 := Nat.mul_le_mul h5 h5
    omega
  refine wo_eqn ?_
  unfold Fcorner_spots mcorner_spots
  refine wo_defP rfl ?_
  sleep 1
  unfold sdD
  sleep 0
  refine ⟨_, rfl, by rw [List.length_map]; omega, ?_⟩
  rw [coTw_map (fun e => wT (sideL e)) ((0, 0, 0) : E3) es]
  refine fits (by rw [List.length_map]; omega) ?_
  sleep 0
  refine wc_map (as := twos ((0, 0, 0) : E3) es) (F := fun q => .tuple [wT (sideL q.1), wT (sideL q.2)]) (fun q => if detE q.1 q.2 = 0 then .none else iT (crossL (sideL q.1) (sideL q.2))) rfl (fun q hq => ?_) ?_
  · obtain ⟨q1, q2⟩ := mem_twos hq
    have e1 := pw_crossing (zb_sideL (h.ed _ q1)) (zb_sideL (h.ed _ q2)) (by decide) (by decide)
    have e2 : (if detL (sideL q.1) (sideL q.2) = 0 then PyData.none else iT (crossL (sideL q.1) (sideL q.2))) = if detE q.1 q.2 = 0 then PyData.none else iT (crossL (sideL q.1) (sideL q.2)) := by
      by_cases c : detE q.1 q.2 = 0
      · rw [if_pos c, if_pos ((rep_det (rep_side _) (rep_side _)).mpr c)]
      · rw [if_neg c, if_neg fun z => c ((rep_det (rep_side _) (rep_side _)).mp z)]
    rw [e2] at e1
    sleep 0
    first | ((with_reducible apply call_of); (· exact e1)) | ((with_reducible apply callw_of); (· exact e1)) | refine wo_of e1 ?_
    exact ⟨rfl, rfl⟩
  · sleep 0
    refine wc_filter (as := twos ((0, 0, 0) : E3) es) (F := fun q => if detE q.1 q.2 = 0 then .none else iT (crossL (sideL q.1) (sideL q.2))) (fun q => decide (detE q.1 q.2 ≠ 0) && inside es (crossQ q.1 q.2)) (fun q => iT (crossL (sideL q.1) (sideL q.2))) rfl (fun q hq => ?_) ?_
    · obtain ⟨q1, q2⟩ := mem_twos hq
      by_cases c : detE q.1 q.2 = 0
      · have g1 : gNotN (.none : D) .none = some (.bool false) := rfl
        rw [if_pos c, decide_eq_false (fun z => z c), Bool.false_and]
        sleep 0
        first | ((with_reducible apply call_of); (· exact g1)) | ((with_reducible apply callw_of); (· exact g1)) | refine wo_of g1 ?_
        sleep 0
        exact ⟨rfl, rfl, fun z => nomatch z⟩
      · have g1 : gNotN (iT (crossL (sideL q.1) (sideL q.2))) .none = some (.bool true) := rfl
        have e2 := pw_holdsQ h (zb_cross (zb_sideL (h.ed _ q1)) (zb_sideL (h.ed _ q2))) (rep_cross (rep_side q.1) (rep_side q.2) c) (by decide) (by decide)
        unfold sdD at e2
        rw [if_neg c, decide_eq_true c, Bool.true_and]
        sleep 0
        first | ((with_reducible apply call_of); (· exact g1)) | ((with_reducible apply callw_of); (· exact g1)) | refine wo_of g1 ?_
        sleep 0
        first | ((with_reducible apply call_of); (· exact e2)) | ((with_reducible apply callw_of); (· exact e2)) | refine wo_of e2 ?_
        sleep 0
        exact ⟨rfl, rfl, fun _ => ⟨_, _, rfl, rfl, rfl⟩⟩
    · sleep 0
      unfold crS
      rw [List.map_map]
      rfl
/-- all that the nearest is chosen of -/
structure Cs (es : List E3) (p : P2) (X W : Nat) (cs : List L3) : Prop where
  ok : ∀ c ∈ cs, ∃ q, RepP q c ∧ (∀ e ∈ es, dE e q ≤ e.2.2) ∧ Zb X W c
  all : ∀ q, Cand es p q → (∀ e ∈ es, dE e q ≤ e.2.2) → q ≠ p → ∃ c ∈ cs, RepP q c
theorem cs_ok {es : List E3} {p : P2} {s : L3} {X W : Nat} (h : Land1 es) (hs : Zb X W s) (rs : RepP p s) (hXW : 169 + W ≤ 94 + X) (hX : 264 ≤ 191 + X) (hpn : ¬ ∀ e ∈ es, dE e p ≤ e.2.2) : Cs es p (X + 191) (W + 189) (ftS es p s ++ crS es) where
  ok := fun c hc => by
    rcases List.mem_append.mp hc with hc | hc
    · obtain ⟨e, he, rfl⟩ := List.mem_map.mp hc
      obtain ⟨he, hi⟩ := List.mem_filter.mp he
      exact ⟨_, rep_foot (rep_side e) rs (h.ed e he).ne, inside_iff.mp hi, (zb_foot (zb_sideL (h.ed e he)) hs hXW).mono (by omega) (by omega)⟩
    · obtain ⟨q, hq, rfl⟩ := List.mem_map.mp hc
      obtain ⟨hq, hi⟩ := List.mem_filter.mp hq
      obtain ⟨q1, q2⟩ := mem_twos hq
      rw [Bool.and_eq_true] at hi
      have hd : detE q.1 q.2 ≠ 0 := of_decide_eq_true hi.1
      exact ⟨_, rep_cross (rep_side _) (rep_side _) hd, inside_iff.mp hi.2, (zb_cross (zb_sideL (h.ed _ q1)) (zb_sideL (h.ed _ q2))).mono (by omega) (by omega)⟩
  all := fun q hq hin hne => by
    cases hq with
    | self => exact absurd rfl hne
    | foot he =>
      rename_i e
      exact ⟨_, List.mem_append_left _ (List.mem_map.mpr ⟨e, List.mem_filter.mpr ⟨he, inside_iff.mpr hin⟩, rfl⟩), rep_foot (rep_side e) rs (h.ed e he).ne⟩
    | cross h1 h2 hd =>
      rename_i e f
      have hef : e ≠ f := fun z => hd (by subst z; unfold detE; grind)
      rcases twos_of (d := ((0, 0, 0) : E3)) h1 h2 hef with hm | hm
      · exact ⟨_, List.mem_append_right _ (List.mem_map.mpr ⟨(e, f), List.mem_filter.mpr ⟨hm, by rw [decide_eq_true hd, Bool.true_and]; exact inside_iff.mpr hin⟩, rfl⟩), rep_cross (rep_side e) (rep_side f) hd⟩
      · have hd' : detE f e ≠ 0 := by rw [det_swap] at hd; grind
        have hs := cross_swap hd'
        exact ⟨_, List.mem_append_right _ (List.mem_map.mpr ⟨(f, e), List.mem_filter.mpr ⟨hm, by rw [decide_eq_true hd', Bool.true_and]; show inside es (crossQ f e) = true; rw [← hs]; exact inside_iff.mpr hin⟩, rfl⟩), by rw [hs]; exact rep_cross (rep_side f) (rep_side e) hd'⟩
theorem near_of {es : List E3} {p q : P2} (hn : NormOk es) {X W : Nat} {cs : List L3} (hc : Cs es p X W cs) (hp : ¬ ∀ e ∈ es, dE e p ≤ e.2.2) (hq : ∀ e ∈ es, dE e q ≤ e.2.2) (hb : ∀ c ∈ cs, ∀ r, RepP r c → gapQ p q ≤ gapQ p r) : IsNear es p q where
  ins := hq
  le := fun r hr => by
    obtain ⟨c, c1, c2, c3⟩ := cand_near hn (p := p) hr
    have hne : c ≠ p := fun z => hp (by rw [← z]; exact c2)
    obtain ⟨s, s1, s2⟩ := hc.all c c1 c2 hne
    exact Rat.le_trans (hb s s1 c s2) c3
theorem none_of {es : List E3} {p : P2} (hn : NormOk es) {X W : Nat} (hc : Cs es p X W []) (hp : ¬ ∀ e ∈ es, dE e p ≤ e.2.2) (r : P2) : ¬ ∀ e ∈ es, dE e r ≤ e.2.2 := fun hr => by
  obtain ⟨c, c1, c2, c3⟩ := cand_near hn (p := p) hr
  have hne : c ≠ p := fun z => hp (by rw [← z]; exact c2)
  obtain ⟨s, s1, s2⟩ := hc.all c c1 c2 hne
  cases s1
theorem rep_uniq {p q : P2} {s : L3} (h : RepP p s) (g : RepP q s) : p = q := by rw [← rep_place h, ← rep_place g]
theorem pw_at_most {p q : Rat} {j k : Nat} (hp : Sq j p) (hq : Sq k q) (hj : j + k < 100000) : Fat_most [fq p, fq q] = some (.bool (decide (p ≤ q))) := by
  refine wo_eqn ?_
  unfold Fat_most mat_most fq fr
  refine wo_defP rfl ?_
  sleep 1
  have h1 := hp.n
  have h2 := hp.d
  have h3 := hq.n
  have h4 := hq.d
  sleep 0
  rw [show decide (p.num * (q.den : Int) ≤ q.num * (p.den : Int)) = decide (p ≤ q) from decide_eq_decide.mpr (Rat.le_iff (a := p) (b := q)).symm]
theorem gap_sq {p q : P2} {s t : L3} {X W X2 W2 : Nat} (hs : Zb X W s) (ht : Zb X2 W2 t) (rs : RepP p s) (rt : RepP q t) (hX : X ≤ 2000) (hW : W ≤ 2000) (hX2 : X2 ≤ 2000) (hW2 : W2 ≤ 2000) : Sq 8003 (gapQ p q) := by
  obtain ⟨eg, hp⟩ := rep_gap rs rt
  have zz := zb_sq hs ht (M := 4000) (by omega) (by omega)
  rw [← eg]
  exact sq_divInt (zz.1.mono (by omega)) (zz.2.mono (by omega)) (by omega)
theorem pw_nearest_spot {es : List E3} {p : P2} {s : L3} {X W : Nat} (h : Land1 es) (hs : Zb X W s) (rs : RepP p s) (hX : X ≤ 1000) (hW : W ≤ 900) (hXW : 169 + W ≤ 94 + X) (hX0 : 264 ≤ 191 + X) :
    (∃ q t, Fnearest_spot [sdD es, iT s] = some (iT t) ∧ RepP q t ∧ IsNear es p q ∧ Zb (X + 191) (W + 189) t) ∨ (Fnearest_spot [sdD es, iT s] = some .none ∧ ∀ r, ¬ ∀ e ∈ es, dE e r ≤ e.2.2) := by
  have h5 := h.l5
  have main : WO (Fnearest_spot [sdD es, iT s]) fun o => (∃ q t, o = iT t ∧ RepP q t ∧ IsNear es p q ∧ Zb (X + 191) (W + 189) t) ∨ (o = .none ∧ ∀ r, ¬ ∀ e ∈ es, dE e r ≤ e.2.2) := by
    have e1 := pw_holdsQ h hs rs (by omega) (by omega)
    unfold Fnearest_spot mnearest_spot
    refine wo_defP rfl ?_
    sleep 1
    sleep 0
    first | ((with_reducible apply call_of); (· exact e1)) | ((with_reducible apply callw_of); (· exact e1)) | refine wo_of e1 ?_
    sleep 0
    refine br_b (fun c => ?_) (fun c => ?_)
    · sleep 0
      have hin := inside_iff.mp c
      refine .inl ⟨p, s, rfl, rs, ⟨hin, fun r hr => ?_⟩, hs.mono (by omega) (by omega)⟩
      have : gapQ p p = 0 := by unfold gapQ; grind
      rw [this]
      exact gap_ge p r
    · have hout : ¬ ∀ e ∈ es, dE e p ≤ e.2.2 := fun z => by
        rw [inside_iff.mpr z] at c
        cases c
      have hcs := cs_ok h hs rs hXW hX0 hout
      have e2 := pw_foot_spots h hs rs hX hW hXW
      have e3 := pw_corner_spots h
      have hl : (ftS es p s ++ crS es).length ≤ 200 := by
        have a3 := twos_len (d := ((0, 0, 0) : E3)) (as := es)
        have a4 : es.length * es.length ≤ 5 * 5 := Nat.mul_le_mul h5 h5
        rw [List.length_append]
        unfold ftS crS
        rw [List.length_map, List.length_map]
        exact Nat.le_trans (Nat.add_le_add (List.length_filter_le _ _) (List.length_filter_le _ _)) (by omega)
      sleep 0
      first | ((with_reducible apply call_of); (· exact e2)) | ((with_reducible apply callw_of); (· exact e2)) | refine wo_of e2 ?_
      sleep 0
      first | ((with_reducible apply call_of); (· exact e3)) | ((with_reducible apply callw_of); (· exact e3)) | refine wo_of e3 ?_
      refine wo_catl (by rw [List.length_map, List.length_map, ← List.length_append]; omega) ?_
      rw [← List.map_append]
      generalize ftS es p s ++ crS es = cs at hcs
      sleep 0
      refine wf_inv (as := cs) (F := iT) (fun as ρ w => w = [] ∧ ∃ (done : List L3) (b m : D) (y4 y5 : Option Cl), done ++ as = cs ∧
          ((done = [] ∧ b = .none ∧ m = .none) ∨ ∃ q t, t ∈ done ∧ b = iT t ∧ m = fq (gapQ q p) ∧ RepP q t ∧ ∀ c ∈ done, ∀ r, RepP r c → gapQ p q ≤ gapQ p r) ∧
          ρ = [some (.val (sdD es)), some (.val (iT s)), some (.val b), some (.val m), y4, y5]) ⟨rfl, [], .none, .none, none, none, rfl, .inl ⟨rfl, rfl, rfl⟩, rfl⟩ ?_ ?_
      · rintro t as ρ w ⟨rfl, done, b, m, y4, y5, hd, hst, rfl⟩
        have htc : t ∈ cs := by rw [← hd]; simp
        obtain ⟨qt, rt, hin, zt⟩ := hcs.ok t htc
        have e4 := pw_square zt hs rt rs (by omega) (by omega) (by omega) (by omega)
        have g4 := gap_sq zt hs rt rs (by omega) (by omega) (by omega) (by omega)
        have hd2 : (done ++ [t]) ++ as = cs := by rw [List.append_assoc]; exact hd
        refine wg_nm ?_
        refine setk4 ?_
        refine ws_seq ?_
        refine ws_asg ?_
        sleep 0
        first | ((with_reducible apply call_of); (· exact e4)) | ((with_reducible apply callw_of); (· exact e4)) | refine wo_of e4 ?_
        refine wg_nm ?_
        refine setk5 ?_
        refine SeqK.nx ?_
        rcases hst with ⟨rfl, rfl, rfl⟩ | ⟨q, u, hu, rfl, rfl, ru, hmin⟩
        · have g1 : gIsN (.none : D) .none = some (.bool true) := rfl
          sleep 0
          first | ((with_reducible apply call_of); (· exact g1)) | ((with_reducible apply callw_of); (· exact g1)) | refine wo_of g1 ?_
          sleep 0
          refine ⟨rfl, [t], _, _, _, _, hd2, .inr ⟨qt, t, by simp, rfl, rfl, rt, fun c hc r hr => ?_⟩, rfl⟩
          rw [List.mem_singleton.mp hc] at hr
          rw [rep_uniq rt hr]
          exact Rat.le_refl
        · have g1 : gIsN (fq (gapQ q p)) .none = some (.bool false) := rfl
          obtain ⟨qu, ru2, _, zu⟩ := hcs.ok u (by rw [← hd]; simp [hu])
          have eq1 := rep_uniq ru ru2
          subst eq1
          have g5 := gap_sq zu hs ru rs (by omega) (by omega) (by omega) (by omega)
          have e5 := pw_at_most g5 g4 (by decide)
          sleep 0
          first | ((with_reducible apply call_of); (· exact g1)) | ((with_reducible apply callw_of); (· exact g1)) | refine wo_of g1 ?_
          sleep 0
          first | ((with_reducible apply call_of); (· exact e5)) | ((with_reducible apply callw_of); (· exact e5)) | refine wo_of e5 ?_
          sleep 0
          refine br_np (fun z => ?_) (fun z => ?_)
          · sleep 0
            refine ⟨rfl, done ++ [t], _, _, _, _, hd2, .inr ⟨qt, t, by simp, rfl, rfl, rt, fun c hc r hr => ?_⟩, rfl⟩
            have z2 := Rat.not_le.mp z
            rw [gap_comm qt p, gap_comm q p] at z2
            rcases List.mem_append.mp hc with hc | hc
            · exact Rat.le_trans (Rat.le_of_lt z2) (hmin c hc r hr)
            · rw [List.mem_singleton.mp hc] at hr
              rw [rep_uniq rt hr]
              exact Rat.le_refl
          · sleep 0
            refine ⟨rfl, done ++ [t], _, _, _, _, hd2, .inr ⟨q, u, by simp [hu], rfl, rfl, ru, fun c hc r hr => ?_⟩, rfl⟩
            rw [gap_comm qt p, gap_comm q p] at z
            rcases List.mem_append.mp hc with hc | hc
            · exact hmin c hc r hr
            · rw [List.mem_singleton.mp hc] at hr
              rw [← rep_uniq rt hr]
              exact z
      · rintro ρ w ⟨rfl, done, b, m, y4, y5, hd, hst, rfl⟩
        rw [List.append_nil] at hd
        subst hd
        rcases hst with ⟨rfl, rfl, rfl⟩ | ⟨q, u, hu, rfl, rfl, ru, hmin⟩
        · sleep 0
          exact .inr ⟨rfl, none_of h.nok hcs hout⟩
        · obtain ⟨qu, ru2, hin, zu⟩ := hcs.ok u hu
          have eq1 := rep_uniq ru ru2
          subst eq1
          sleep 0
          exact .inl ⟨q, u, rfl, ru, near_of h.nok hcs hout hin hmin, zu⟩
  obtain ⟨o, e, ho⟩ := main
  rcases ho with ⟨q, t, rfl, h1, h2, h3⟩ | ⟨rfl, h1⟩
  · exact .inl ⟨q, t, e, h1, h2, h3⟩
  · exact .inr ⟨e, h1⟩

/-! ### a side told, by the program -/
theorem pw_by_one {e t : E3} (he : EdB e) (ht : EdB t) : ∃ b : Bool, Fis_told_by_one [wT (sideL e), wT (sideL t)] = some (.bool b) ∧ (b = true ↔ t1E e t) := by
  have main : WO (Fis_told_by_one [wT (sideL e), wT (sideL t)]) fun v => ∃ b : Bool, v = .bool b ∧ (b = true ↔ t1E e t) := by
    have key := one_rep (rep_side e) (rep_side t)
    have z1 := zb_sideL he
    have z2 := zb_sideL ht
    generalize sideL e = l at *
    generalize sideL t = m at *
    obtain ⟨a, b, c⟩ := l
    obtain ⟨d, g, f⟩ := m
    obtain ⟨s1, s2, s3⟩ := z1
    obtain ⟨u1, u2, u3⟩ := z2
    dsimp only at s1 s2 s3 u1 u2 u3 key
    have y1 : Sz 189 (a * d + b * g) := (s1.mul u1).add (s2.mul u2)
    have y2 : Sz 189 (a * a + b * b) := (s1.mul s1).add (s2.mul s2)
    unfold Fis_told_by_one mis_told_by_one
    refine wo_defP rfl ?_
    sleep 1
    unfold wT
    dsimp only
    sleep 0
    refine br_p (fun q1 => ?_) (fun q1 => ?_)
    · sleep 0
      refine br_p (fun q2 => ?_) (fun q2 => ?_)
      · sleep 0
        refine ⟨_, rfl, ?_⟩
        rw [decide_eq_true_iff, ← key]
        exact ⟨fun x => ⟨q1, q2, x⟩, fun x => x.2.2⟩
      · sleep 0
        refine ⟨false, rfl, ?_⟩
        rw [← key]
        exact ⟨fun x => (nomatch x), fun x => absurd x.2.1 q2⟩
    · sleep 0
      refine ⟨false, rfl, ?_⟩
      rw [← key]
      exact ⟨fun x => (nomatch x), fun x => absurd x.1 q1⟩
  obtain ⟨v, e1, b, rfl, h⟩ := main
  exact ⟨b, e1, h⟩
theorem pw_by_two {e f t : E3} (he : EdB e) (hf : EdB f) (ht : EdB t) : ∃ b : Bool, Fis_told_by_two [wT (sideL e), wT (sideL f), wT (sideL t)] = some (.bool b) ∧ (b = true ↔ t2E e f t ∨ t2E f e t) := by
  have main : WO (Fis_told_by_two [wT (sideL e), wT (sideL f), wT (sideL t)]) fun v => ∃ b : Bool, v = .bool b ∧ (b = true ↔ t2E e f t ∨ t2E f e t) := by
    have k1 := pw_crossing (zb_sideL he) (zb_sideL hf) (by decide) (by decide)
    have kp := fun h => two_pos (rep_side e) (rep_side f) (rep_side t) h
    have kn := fun h => two_neg (rep_side e) (rep_side f) (rep_side t) h
    have kz := fun h => two_zero (t := t) (rep_side e) (rep_side f) h
    have z1 := zb_sideL he
    have z2 := zb_sideL hf
    have z3 := zb_sideL ht
    have zc := zb_cross z1 z2
    have k2 := pw_holds (ls := [sideL t]) (s := crossL (sideL e) (sideL f)) (j := 200) (k := 4000) (fun l hl => by
      rw [List.mem_singleton.mp hl]
      exact z3.szL (by decide) (by decide)) (zc.szL (by decide) (by decide)) (by decide) (by simp)
    generalize sideL e = l at *
    generalize sideL f = m at *
    generalize sideL t = n at *
    obtain ⟨a, b, c⟩ := l
    obtain ⟨d, e', f'⟩ := m
    obtain ⟨g, h, i⟩ := n
    obtain ⟨s1, s2, s3⟩ := z1
    obtain ⟨u1, u2, u3⟩ := z2
    obtain ⟨v1, v2, v3⟩ := z3
    unfold Fis_told_by_two mis_told_by_two
    refine wo_defP rfl ?_
    sleep 1
    unfold wT at k1 k2 ⊢
    simp only [List.map_cons, List.map_nil, List.all_cons, List.all_nil, Bool.and_true] at k2
    unfold detL at k1 kp kn kz
    unfold pL at kp kn
    unfold iT crossL crossX crossY detL at k1 k2
    unfold holdsL at k2
    dsimp only at k1 k2 kp kn kz s1 s2 s3 u1 u2 u3 v1 v2 v3 ⊢
    have y1 : Sz 189 (g * e' - h * d) := (v1.mul u2).sub (v2.mul u1)
    have y2 : Sz 189 (a * h - b * g) := (s1.mul v2).sub (s2.mul v1)
    have o1 : Sz 189 (1 : Int) := Sz.mono (j := 1) (by unfold Sz; decide) (by decide)
    have o2 : Sz 189 (-1 : Int) := Sz.mono (j := 1) (by unfold Sz; decide) (by decide)
    rcases Int.lt_trichotomy (a * e' - d * b) 0 with q | q | q
    · have qn : ¬ a * e' - d * b = 0 := by omega
      have qp : ¬ 0 < a * e' - d * b := by omega
      rw [if_neg qn, if_pos q] at k1
      rw [if_pos q] at k2
      dsimp only at k1 k2
      have g1 : gIsN (.tuple [.int (-(c * e' - f' * b)), .int (-(a * f' - d * c)), .int (-(a * e' - d * b))]) .none = some (.bool false) := rfl
      have kn := kn q
      sleep 0
      first | ((with_reducible apply call_of); (· exact k1)) | ((with_reducible apply callw_of); (· exact k1)) | refine wo_of k1 ?_
      sleep 0
      first | ((with_reducible apply call_of); (· exact g1)) | ((with_reducible apply callw_of); (· exact g1)) | refine wo_of g1 ?_
      sleep 0
      refine br_p (fun q1 => ?_) (fun q1 => ?_)
      · sleep 0
        refine br_p (fun q2 => ?_) (fun q2 => ?_)
        · sleep 0
          first | ((with_reducible apply call_of); (· exact k2)) | ((with_reducible apply callw_of); (· exact k2)) | refine wo_of k2 ?_
          sleep 0
          refine ⟨_, rfl, ?_⟩
          rw [decide_eq_true_iff, ← kn]
          constructor
          · intro x
            exact ⟨by omega, by grind, by grind⟩
          · rintro ⟨_, _, x⟩
            grind
        · sleep 0
          refine ⟨false, rfl, ?_⟩
          rw [← kn]
          exact ⟨fun x => (nomatch x), fun x => absurd x.2.1 (by grind)⟩
      · sleep 0
        refine ⟨false, rfl, ?_⟩
        rw [← kn]
        exact ⟨fun x => (nomatch x), fun x => absurd x.1 (by omega)⟩
    · rw [if_pos q] at k1
      have g1 : gIsN (.none : D) .none = some (.bool true) := rfl
      sleep 0
      first | ((with_reducible apply call_of); (· exact k1)) | ((with_reducible apply callw_of); (· exact k1)) | refine wo_of k1 ?_
      sleep 0
      first | ((with_reducible apply call_of); (· exact g1)) | ((with_reducible apply callw_of); (· exact g1)) | refine wo_of g1 ?_
      sleep 0
      exact ⟨false, rfl, ⟨fun x => (nomatch x), fun x => absurd x (kz q)⟩⟩
    · have qn : ¬ a * e' - d * b = 0 := by omega
      have qp : ¬ a * e' - d * b < 0 := by omega
      rw [if_neg qn, if_neg qp] at k1
      rw [if_neg qp] at k2
      dsimp only at k1 k2
      have g1 : gIsN (.tuple [.int (c * e' - f' * b), .int (a * f' - d * c), .int (a * e' - d * b)]) .none = some (.bool false) := rfl
      have kp := kp q
      sleep 0
      first | ((with_reducible apply call_of); (· exact k1)) | ((with_reducible apply callw_of); (· exact k1)) | refine wo_of k1 ?_
      sleep 0
      first | ((with_reducible apply call_of); (· exact g1)) | ((with_reducible apply callw_of); (· exact g1)) | refine wo_of g1 ?_
      sleep 0
      refine br_p (fun q1 => ?_) (fun q1 => ?_)
      · sleep 0
        refine br_p (fun q2 => ?_) (fun q2 => ?_)
        · sleep 0
          first | ((with_reducible apply call_of); (· exact k2)) | ((with_reducible apply callw_of); (· exact k2)) | refine wo_of k2 ?_
          sleep 0
          refine ⟨_, rfl, ?_⟩
          rw [decide_eq_true_iff, ← kp]
          constructor
          · intro x
            exact ⟨by omega, by grind, by grind⟩
          · rintro ⟨_, _, x⟩
            grind
        · sleep 0
          refine ⟨false, rfl, ?_⟩
          rw [← kp]
          exact ⟨fun x => (nomatch x), fun x => absurd x.2.1 (by grind)⟩
      · sleep 0
        refine ⟨false, rfl, ?_⟩
        rw [← kp]
        exact ⟨fun x => (nomatch x), fun x => absurd x.1 (by omega)⟩
  obtain ⟨v, e1, b, rfl, h⟩ := main
  exact ⟨b, e1, h⟩

noncomputable def dP (P : Prop) : Bool := @decide P (Classical.propDecidable P)
theorem dP_iff {P : Prop} : dP P = true ↔ P := @decide_eq_true_iff P (Classical.propDecidable P)
theorem dP_of {P : Prop} {b : Bool} (h : b = true ↔ P) : b = dP P := by
  cases hb : dP P with
  | true => exact h.mpr (dP_iff.mp hb)
  | false =>
    cases b with
    | false => rfl
    | true =>
      rw [dP_iff.mpr (h.mp rfl)] at hb
      exact hb
theorem dP_t {P : Prop} (h : P) : dP P = true := dP_iff.mpr h
theorem dP_f {P : Prop} (h : ¬ P) : dP P = false := by
  cases hb : dP P with
  | true => exact absurd (dP_iff.mp hb) h
  | false => rfl
theorem pw_told {es : List E3} {t : E3} (h : Land1 es) (ht : EdB t) : Fis_told [sdD es, wT (sideL t)] = some (.bool (dP (TellE es t))) := by
  have h5 := h.l5
  have hl : (twos ((0, 0, 0) : E3) es).length ≤ 100 := by
    have := twos_len (d := ((0, 0, 0) : E3)) (as := es)
    have : es.length * es.length ≤ 5 * 5 := Nat.mul_le_mul h5 h5
    omega
  have mp : dP (TellE es t) = ((es.any fun e => dP (t1E e t)) || ((twos ((0, 0, 0) : E3) es).any fun q => dP (t2E q.1 q.2 t ∨ t2E q.2 q.1 t))) := by
    refine (dP_of ?_).symm
    rw [Bool.or_eq_true, List.any_eq_true, List.any_eq_true]
    unfold TellE
    constructor
    · rintro (⟨e, he, hx⟩ | ⟨q, hq, hx⟩)
      · exact .inl ⟨e, he, dP_iff.mp hx⟩
      · obtain ⟨q1, q2⟩ := mem_twos hq
        rcases dP_iff.mp hx with hx | hx
        · exact .inr ⟨_, q1, _, q2, hx⟩
        · exact .inr ⟨_, q2, _, q1, hx⟩
    · rintro (⟨e, he, hx⟩ | ⟨e, he, f, hf, hx⟩)
      · exact .inl ⟨e, he, dP_t hx⟩
      · have hne : e ≠ f := fun z => by
          have := hx.1
          subst z
          unfold detE at this
          grind
        rcases twos_of (d := ((0, 0, 0) : E3)) he hf hne with hm | hm
        · exact .inr ⟨_, hm, dP_t (.inl hx)⟩
        · exact .inr ⟨_, hm, dP_t (.inr hx)⟩
  rw [mp]
  refine wo_eqn ?_
  unfold Fis_told mis_told
  refine wo_defP rfl ?_
  sleep 1
  unfold sdD
  sleep 0
  refine wc_map (as := es) (F := fun e => wT (sideL e)) (fun e => .bool (dP (t1E e t))) rfl (fun e he => ?_) ?_
  · obtain ⟨b, k1, k2⟩ := pw_by_one (h.ed e he) ht
    rw [dP_of k2] at k1
    sleep 0
    first | ((with_reducible apply call_of); (· exact k1)) | ((with_reducible apply callw_of); (· exact k1)) | refine wo_of k1 ?_
    exact ⟨rfl, rfl⟩
  · sleep 0
    refine wo_anyB ?_
    sleep 0
    refine br_b (fun c => ?_) (fun c => ?_)
    · sleep 0
      rw [c, Bool.true_or]
    · sleep 0
      rw [c, Bool.false_or]
      refine ⟨_, rfl, by rw [List.length_map]; omega, ?_⟩
      rw [coTw_map (fun e => wT (sideL e)) ((0, 0, 0) : E3) es]
      refine fits (by rw [List.length_map]; omega) ?_
      sleep 0
      refine wc_map (as := twos ((0, 0, 0) : E3) es) (F := fun q => .tuple [wT (sideL q.1), wT (sideL q.2)]) (fun q => .bool (dP (t2E q.1 q.2 t ∨ t2E q.2 q.1 t))) rfl (fun q hq => ?_) ?_
      · obtain ⟨q1, q2⟩ := mem_twos hq
        obtain ⟨b, k1, k2⟩ := pw_by_two (h.ed _ q1) (h.ed _ q2) ht
        rw [dP_of k2] at k1
        sleep 0
        first | ((with_reducible apply call_of); (· exact k1)) | ((with_reducible apply callw_of); (· exact k1)) | refine wo_of k1 ?_
        exact ⟨rfl, rfl⟩
      · sleep 0
        refine wo_anyB ?_
        sleep 0
        rfl
/-! ### a field within another one, by the program -/
theorem zb_null : Zb 80 1 ((0, 0, 1) : L3) := ⟨by unfold Sz; decide, by unfold Sz; decide, by unfold Sz; decide⟩
theorem rep_null : RepP (0, 0) ((0, 0, 1) : L3) := ⟨by decide, by decide +kernel, by decide +kernel⟩
theorem sqE_of {e : E3} (h : EdB e) : SqE 100 e := ⟨h.a.sq (by decide) (by decide), h.b.sq (by decide) (by decide), h.c.sq (by decide) (by decide)⟩
theorem Land1.ok {es : List E3} (h : Land1 es) : LandOk 100 es := ⟨fun e he => sqE_of (h.ed e he), fun e he => (h.ed e he).ne, h.l1, h.l5⟩
theorem pw_check_field {es : List E3} (h : Land1 es) : Fcheck_field [lT es] = some .none := by
  have := pw_field (lT es)
  rw [h.ok.is] at this
  refine wo_eqn ?_
  unfold Fcheck_field mcheck_field
  refine wo_defP rfl ?_
  sleep 1
  sleep 0
  first | ((with_reducible apply call_of); (· exact this)) | ((with_reducible apply callw_of); (· exact this)) | refine wo_of this ?_
  sleep 0
  rfl
theorem pw_sidesQ {es : List E3} (h : Land1 es) : Fwhole_sides [lT es] = some (sdD es) := pw_sides (k := 100) (fun e he => sqE_of (h.ed e he)) (by decide) (by have := h.l5; omega)
theorem pw_check_ne {es : List E3} {p : P2} (h : Land1 es) (hp : ∀ e ∈ es, dE e p ≤ e.2.2) : Fcheck_not_empty [lT es] = some .none := by
  obtain ⟨v, e3, e4⟩ : ∃ v : D, Fnearest_spot [sdD es, .tuple [.int 0, .int 0, .int 1]] = some v ∧ gIsN v .none = some (.bool false) := by
    rcases pw_nearest_spot h zb_null rep_null (by decide) (by decide) (by decide) (by decide) with ⟨q, t, k1, k2, k3, k4⟩ | ⟨k1, k2⟩
    · exact ⟨_, k1, rfl⟩
    · exact absurd hp (k2 p)
  have e5 : Fholds_nothing [sdD es] = some (.bool false) := by
    refine wo_eqn ?_
    unfold Fholds_nothing mholds_nothing
    refine wo_defP rfl ?_
    sleep 1
    sleep 0
    first | ((with_reducible apply call_of); (· exact e3)) | ((with_reducible apply callw_of); (· exact e3)) | refine wo_of e3 ?_
    sleep 0
    first | ((with_reducible apply call_of); (· exact e4)) | ((with_reducible apply callw_of); (· exact e4)) | refine wo_of e4 ?_
    sleep 0
    rfl
  have e2 := pw_sidesQ h
  refine wo_eqn ?_
  unfold Fcheck_not_empty mcheck_not_empty
  refine wo_defP rfl ?_
  sleep 1
  sleep 0
  first | ((with_reducible apply call_of); (· exact e2)) | ((with_reducible apply callw_of); (· exact e2)) | refine wo_of e2 ?_
  sleep 0
  first | ((with_reducible apply call_of); (· exact e5)) | ((with_reducible apply callw_of); (· exact e5)) | refine wo_of e5 ?_
  sleep 0
  rfl
theorem pw_within {es us : List E3} {p q : P2} (h : Land1 es) (g : Land1 us) (hp : ∀ e ∈ es, dE e p ≤ e.2.2) (hq : ∀ e ∈ us, dE e q ≤ e.2.2) : Flies_within [lT es, lT us] = some (.bool (us.all fun t => dP (TellE es t))) := by
  have e1 := pw_check_field h
  have e2 := pw_check_field g
  have e3 := pw_check_ne h hp
  have e4 := pw_check_ne g hq
  have e5 := pw_sidesQ h
  have e6 : Fwhole_sides [lT us] = some (.list (us.map fun e => wT (sideL e))) := pw_sidesQ g
  refine wo_eqn ?_
  unfold Flies_within mlies_within
  refine wo_defP rfl ?_
  sleep 1
  sleep 0
  first | ((with_reducible apply call_of); (· exact e1)) | ((with_reducible apply callw_of); (· exact e1)) | refine wo_of e1 ?_
  sleep 0
  first | ((with_reducible apply call_of); (· exact e2)) | ((with_reducible apply callw_of); (· exact e2)) | refine wo_of e2 ?_
  sleep 0
  first | ((with_reducible apply call_of); (· exact e3)) | ((with_reducible apply callw_of); (· exact e3)) | refine wo_of e3 ?_
  sleep 0
  first | ((with_reducible apply call_of); (· exact e4)) | ((with_reducible apply callw_of); (· exact e4)) | refine wo_of e4 ?_
  sleep 0
  first | ((with_reducible apply call_of); (· exact e5)) | ((with_reducible apply callw_of); (· exact e5)) | refine wo_of e5 ?_
  sleep 0
  first | ((with_reducible apply call_of); (· exact e6)) | ((with_reducible apply callw_of); (· exact e6)) | refine wo_of e6 ?_
  have h5 := g.l5
  sleep 0
  refine wc_map (as := us) (F := fun e => wT (sideL e)) (fun t => .bool (dP (TellE es t))) rfl (fun e he => ?_) ?_
  · have k1 := pw_told h (g.ed e he)
    sleep 0
    first | ((with_reducible apply call_of); (· exact k1)) | ((with_reducible apply callw_of); (· exact k1)) | refine wo_of k1 ?_
    exact ⟨rfl, rfl⟩
  · sleep 0
    refine wo_all ?_
    sleep 0
    rfl

/-! ### the law's nearest place -/
def lnD (es : List E3) : D := .list (es.map fun e => iT (lineL e))
structure CrL (es : List E3) (cs : List L3) : Prop where
  ok : ∀ c ∈ cs, ∃ e ∈ es, ∃ f ∈ es, detE e f ≠ 0 ∧ c = crossL (lineL e) (lineL f)
  all : ∀ e ∈ es, ∀ f ∈ es, detE e f ≠ 0 → crossL (lineL e) (lineL f) ∈ cs ∨ crossL (lineL f) (lineL e) ∈ cs
  len : cs.length ≤ 100
theorem gIx_ln {es : List E3} {i : Nat} {e : E3} (h : es[i]? = some e) : gIx (lnD es) (.int (i : Nat)) = some (iT (lineL e)) := gIx_l (by rw [List.getElem?_map, h]; rfl)
theorem range_at {n i : Nat} {pre as : List Nat} (h : pre ++ i :: as = List.range n) : i = pre.length ∧ i < n := by
  have hl2 := congrArg List.length h
  rw [List.length_append, List.length_range, List.length_cons] at hl2
  have hlt : pre.length < n := by omega
  have e1 := congrArg (fun l => l[pre.length]?) h
  rw [List.getElem?_append_right (Nat.le_refl _), Nat.sub_self, List.getElem?_range hlt] at e1
  have : i = pre.length := by simpa using e1
  exact ⟨this, by omega⟩

theorem lw_line {e : E3} {k : Nat} (h : SqE k e) (hk : k ≤ 100000) : F_law_line [eT e] = some (iT (lineL e)) := by
  obtain ⟨A, B, C⟩ := e
  have e1 : mulOk A.num B.den = true := mulSz h.a.n h.b.d
  have e2 : mulOk (A.num * B.den) C.den = true := mulSz (h.a.n.mul h.b.d) h.c.d
  have e3 : mulOk B.num A.den = true := mulSz h.b.n h.a.d
  have e4 : mulOk (B.num * A.den) C.den = true := mulSz (h.b.n.mul h.a.d) h.c.d
  have e5 : mulOk C.num A.den = true := mulSz h.c.n h.a.d
  have e6 : mulOk (C.num * A.den) B.den = true := mulSz (h.c.n.mul h.a.d) h.b.d
  simp [F_law_line, m_law_line, defW, defP, sSeq, sIf, sAsg, sWset, sRet, sRetN, sSkip, sDrop, sPar2, sPar3, sNo, dTr, dNot, dAnd, dOr, dIf, dAndV, dOrV, dNotV, dBin, dUn, dChain, dWell, dC, dVar, dPri, dTup, dLst, dCons, dNil, dCallP, dCallW, rho0, truth, asBool, asInt, gTp, gC, gNm, gN, gMul_eq, gAdd_eq, gSub_eq, gLt_eq, gLe_eq, gGt_eq, gGe_eq, gEq_eq, gNe_eq, gAbs_eq, gInt_eq, gNeg_eq, gGcd_eq, gLen_l, gLen_t, gIx_t0, gIx_t1, gIx_t2, gIx_l0, gIx_l1, gIx_l2, eT, iT, lineL, fq, fr, e1, e2, e3, e4, e5, e6]
theorem wt_mono {c : Dt} {ρ : Rho} {w : Ws} {P Q : Bool → Ws → Prop} (h : WT c ρ w P) (k : ∀ b w', P b w' → Q b w') : WT c ρ w Q := let ⟨t, w', e, q⟩ := h; ⟨t, w', e, k t w' q⟩
theorem we_mono {d : De} {ρ : Rho} {w : Ws} {P Q : D → Ws → Prop} (h : WE d ρ w P) (k : ∀ t w', P t w' → Q t w') : WE d ρ w Q := let ⟨t, w', e, q⟩ := h; ⟨t, w', e, k t w' q⟩
/-! ### a side told, by the law -/
def lnD' (es : List E3) : D := lnD es
theorem one_law {e t : E3} {a b c d g f : Int} (hl : lineL e = (d, g, f)) (hm : lineL t = (a, b, c)) : (a * g = b * d ∧ 0 < a * d + b * g ∧ f * (a * d + b * g) ≤ c * (d * d + g * g)) ↔ t1E e t := by
  have key := one_rep (rep_line e) (rep_line t)
  rw [hl, hm] at key
  dsimp only at key
  rw [← key]
  constructor <;> rintro ⟨x, y, z⟩ <;> exact ⟨by grind, by grind, by grind⟩
abbrev T2 (e f t : E3) : Prop := t2E e f t ∨ t2E f e t
theorem lw_follows {es : List E3} {t : E3} (h : Land1 es) (ht : EdB t) : F_law_follows [lnD es, iT (lineL t)] = some (.bool (dP (TellE es t))) := by
  have h5 := h.l5
  refine wo_eqn ?_
  have zt := zb_lineL ht
  have rt := rep_line t
  generalize htl : lineL t = tl at *
  obtain ⟨a, b, c⟩ := tl
  obtain ⟨v1, v2, v3⟩ := zt
  dsimp only at v1 v2 v3
  unfold F_law_follows m_law_follows
  refine wo_defP rfl ?_
  sleep 1
  unfold lnD iT
  dsimp only
  sleep 0
  refine wa_rng1 ?_
  sleep 0
  refine ⟨es.length, by rw [List.length_map], by omega, ?_⟩
  refine wf_inv (as := List.range es.length) (F := fun k => .int (k : Nat)) (fun as ρ w => w = [] ∧ ∃ (pre : List Nat) (y5 y6 y7 y8 y9 y10 y11 y12 y13 y14 y15 y16 y17 : Option Cl), pre ++ as = List.range es.length ∧
      (∀ (k : Nat) (e : E3), k < pre.length → es[k]? = some e → ¬ t1E e t) ∧ (∀ (i k : Nat) (e f : E3), i < k → k < pre.length → es[i]? = some e → es[k]? = some f → ¬ T2 e f t) ∧
      ρ = [some (.val (.list (es.map fun e => iT (lineL e)))), some (.val (.tuple [.int a, .int b, .int c])), some (.val (.int a)), some (.val (.int b)), some (.val (.int c)), y5, y6, y7, y8, y9, y10, y11, y12, y13, y14, y15, y16, y17]) ⟨rfl, [], none, none, none, none, none, none, none, none, none, none, none, none, none, rfl, fun k e hk => absurd hk (by simp), fun i k e f _ hk => absurd hk (by simp), rfl⟩ ?_ ?_
  · rintro k as ρ w ⟨rfl, pre, y5, y6, y7, y8, y9, y10, y11, y12, y13, y14, y15, y16, y17, hpre, h1, h2, rfl⟩
    obtain ⟨rfl, hk⟩ := range_at hpre
    generalize hk2 : pre.length = k at *
    have gk := List.getElem?_eq_getElem hk
    have mk := List.getElem_mem hk
    have e2 := gIx_ln gk
    have zk := zb_lineL (h.ed _ mk)
    have rk := rep_line es[k]
    generalize hek : es[k] = ek at *
    generalize hlk : lineL ek = lk at *
    obtain ⟨d, g, f⟩ := lk
    obtain ⟨s1, s2, s3⟩ := zk
    dsimp only at s1 s2 s3
    have k1 := one_law hlk htl
    have w1 : Sz 175 (a * d + b * g) := (v1.mul s1).add (v2.mul s2)
    have w2 : Sz 175 (d * d + g * g) := (s1.mul s1).add (s2.mul s2)
    refine wg_nm ?_
    refine setk5 ?_
    refine ws_seq ?_
    refine ws_asg ?_
    sleep 0
    first | ((with_reducible apply call_of); (· exact (show gIx (.list (es.map fun e => iT (lineL e))) (.int (k : Nat)) = some (.tuple [.int d, .int g, .int f]) from e2))) | ((with_reducible apply callw_of); (· exact (show gIx (.list (es.map fun e => iT (lineL e))) (.int (k : Nat)) = some (.tuple [.int d, .int g, .int f]) from e2))) | refine wo_of (show gIx (.list (es.map fun e => iT (lineL e))) (.int (k : Nat)) = some (.tuple [.int d, .int g, .int f]) from e2) ?_
    refine wg_tup ?_
    refine wgs_cons ?_
    refine wg_nm ?_
    refine setk6 ?_
    refine wgs_cons ?_
    refine wg_nm ?_
    refine setk7 ?_
    refine wgs_cons ?_
    refine wg_nm ?_
    refine setk8 ?_
    refine wgs_nil ?_
    refine SeqK.nx ?_
    refine ws_seq ?_
    refine ws_asg ?_
    refine we_mono (P := fun t w' => t = .int (a * d + b * g) ∧ w' = []) ?_ ?_
    · sleep 0
      exact ⟨rfl, rfl⟩
    rintro _ _ ⟨rfl, rfl⟩
    refine wg_nm ?_
    refine setk9 ?_
    refine SeqK.nx ?_
    refine ws_seq ?_
    refine ws_if ?_
    refine wt_mono (P := fun z w' => z = dP (t1E ek t) ∧ w' = []) ?_ ?_
    · sleep 0
      refine br_p (fun q1 => ?_) (fun q1 => ?_)
      · sleep 0
        refine br_p (fun q2 => ?_) (fun q2 => ?_)
        · sleep 0
          refine ⟨dP_of ?_, rfl⟩
          rw [decide_eq_true_iff, ← k1]
          exact ⟨fun x => ⟨q1, q2, x⟩, fun x => x.2.2⟩
        · sleep 0
          refine ⟨(dP_f fun x => ?_).symm, rfl⟩
          exact q2 (k1.mpr x).2.1
      · sleep 0
        refine ⟨(dP_f fun x => ?_).symm, rfl⟩
        exact q1 (k1.mpr x).1
    rintro _ _ ⟨rfl, rfl⟩
    refine br_b (fun c1 => ?_) (fun c1 => ?_)
    · sleep 0
      rw [dP_t (.inl ⟨ek, mk, dP_iff.mp c1⟩)]
    have c1' : ¬ t1E ek t := fun z => by
      rw [dP_t z] at c1
      cases c1
    refine ws_skip ?_
    refine SeqK.nx ?_
    sleep 0
    refine wa_rng1 ?_
    sleep 0
    refine ⟨k, rfl, by omega, ?_⟩
    refine wf_inv (as := List.range k) (F := fun k => .int (k : Nat)) (fun bs ρ w => w = [] ∧ ∃ (pre2 : List Nat) (y10 y11 y12 y13 y14 y15 y16 y17 : Option Cl), pre2 ++ bs = List.range k ∧
        (∀ (i : Nat) (e : E3), i < pre2.length → es[i]? = some e → ¬ T2 e ek t) ∧
        ρ = [some (.val (.list (es.map fun e => iT (lineL e)))), some (.val (.tuple [.int a, .int b, .int c])), some (.val (.int a)), some (.val (.int b)), some (.val (.int c)), some (.val (.int (k : Nat))), some (.val (.int d)), some (.val (.int g)), some (.val (.int f)), some (.val (.int (a * d + b * g))), y10, y11, y12, y13, y14, y15, y16, y17]) ⟨rfl, [], y10, y11, y12, y13, y14, y15, y16, y17, rfl, fun k e hk => absurd hk (by simp), rfl⟩ ?_ ?_
    · rintro i bs ρ w ⟨rfl, pre2, y10, y11, y12, y13, y14, y15, y16, y17, hpre2, h3, rfl⟩
      obtain ⟨rfl, hi⟩ := range_at hpre2
      generalize hi2 : pre2.length = i at *
      have hie : i < es.length := by omega
      have gi := List.getElem?_eq_getElem hie
      have mi := List.getElem_mem hie
      have e3 := gIx_ln gi
      have zi := zb_lineL (h.ed _ mi)
      have ri := rep_line es[i]
      generalize hei : es[i] = ei at *
      generalize hli : lineL ei = li at *
      obtain ⟨p, q, m⟩ := li
      obtain ⟨u1, u2, u3⟩ := zi
      dsimp only at u1 u2 u3
      have kp := fun z => two_pos ri rk rt z
      have kn := fun z => two_neg ri rk rt z
      have kz := fun z => two_zero (t := t) ri rk z
      unfold detL pL at kp
      unfold detL pL at kn
      unfold detL at kz
      dsimp only at kp kn kz
      have w3 : Sz 175 (p * g - d * q) := (u1.mul s2).sub (s1.mul u2)
      have w4 : Sz 175 (a * g - b * d) := (v1.mul s2).sub (v2.mul s1)
      have w5 : Sz 175 (p * b - q * a) := (u1.mul v2).sub (u2.mul v1)
      have o1 : Sz 9 (1 : Int) := Sz.mono (j := 1) (by unfold Sz; decide) (by decide)
      have o2 : Sz 9 (-1 : Int) := Sz.mono (j := 1) (by unfold Sz; decide) (by decide)
      have w6 : Sz 184 (1 * (a * g - b * d)) := o1.mul w4
      have w7 : Sz 184 (1 * (p * b - q * a)) := o1.mul w5
      have w8 : Sz 184 (-1 * (a * g - b * d)) := o2.mul w4
      have w9 : Sz 184 (-1 * (p * b - q * a)) := o2.mul w5
      have w10 : Sz 175 ((p * g - d * q).natAbs : Int) := by
        unfold Sz at w3 ⊢
        rw [Int.natAbs_natCast]
        exact w3
      have hp2 : pre2 ++ [i] ++ bs = List.range k := by rw [List.append_assoc]; exact hpre2
      have nx : ¬ T2 ei ek t → ∀ (j : Nat) (e : E3), j < (pre2 ++ [i]).length → es[j]? = some e → ¬ T2 e ek t := fun hn j e hj he => by
        rw [List.length_append, List.length_singleton, hi2] at hj
        rcases Nat.lt_succ_iff_lt_or_eq.mp hj with hj | rfl
        · exact h3 j e hj he
        · rw [gi] at he
          cases he
          exact hn
      have e3' : gIx (.list (es.map fun e => iT (lineL e))) (.int (i : Nat)) = some (.tuple [.int p, .int q, .int m]) := e3
      have fin : ∀ (P : T2 ei ek t), dP (TellE es t) = true := fun P => by
        refine dP_t (.inr ?_)
        rcases P with P | P
        · exact ⟨_, mi, _, mk, P⟩
        · exact ⟨_, mk, _, mi, P⟩
      rcases Int.lt_trichotomy (p * g - d * q) 0 with z | z | z
      · have zp : ¬ 0 < p * g - d * q := by omega
        have zn : ¬ p * g - d * q = 0 := by omega
        have kn := kn z
        sleep 0
        first | ((with_reducible apply call_of); (· exact e3')) | ((with_reducible apply callw_of); (· exact e3')) | refine wo_of e3' ?_
        sleep 0
        have hab : ((p * g - d * q).natAbs : Int) = -(p * g - d * q) := by omega
        refine br_p (fun q1 => ?_) (fun q1 => ?_)
        · sleep 0
          refine br_p (fun q2 => ?_) (fun q2 => ?_)
          · sleep 0
            rw [hab]
            refine br_p (fun q3 => ?_) (fun q3 => ?_)
            · sleep 0
              rw [fin (kn.mp ⟨by grind, by grind, by grind⟩)]
            · sleep 0
              exact ⟨rfl, pre2 ++ [i], _, _, _, _, _, _, _, _, hp2, nx (fun x => q3 (by have := (kn.mpr x).2.2; grind)), rfl⟩
          · sleep 0
            exact ⟨rfl, pre2 ++ [i], _, _, _, _, _, _, _, _, hp2, nx (fun x => q2 (by have := (kn.mpr x).2.1; grind)), rfl⟩
        · sleep 0
          exact ⟨rfl, pre2 ++ [i], _, _, _, _, _, _, _, _, hp2, nx (fun x => q1 (by have := (kn.mpr x).1; grind)), rfl⟩
      · have zp : ¬ 0 < p * g - d * q := by omega
        sleep 0
        first | ((with_reducible apply call_of); (· exact e3')) | ((with_reducible apply callw_of); (· exact e3')) | refine wo_of e3' ?_
        sleep 0
        exact ⟨rfl, pre2 ++ [i], _, _, _, _, _, _, _, _, hp2, nx (kz z), rfl⟩
      · have zn : ¬ p * g - d * q = 0 := by omega
        have kp := kp z
        sleep 0
        first | ((with_reducible apply call_of); (· exact e3')) | ((with_reducible apply callw_of); (· exact e3')) | refine wo_of e3' ?_
        sleep 0
        have hab : ((p * g - d * q).natAbs : Int) = p * g - d * q := by omega
        refine br_p (fun q1 => ?_) (fun q1 => ?_)
        · sleep 0
          refine br_p (fun q2 => ?_) (fun q2 => ?_)
          · sleep 0
            rw [hab]
            refine br_p (fun q3 => ?_) (fun q3 => ?_)
            · sleep 0
              rw [fin (kp.mp ⟨by grind, by grind, by grind⟩)]
            · sleep 0
              exact ⟨rfl, pre2 ++ [i], _, _, _, _, _, _, _, _, hp2, nx (fun x => q3 (by have := (kp.mpr x).2.2; grind)), rfl⟩
          · sleep 0
            exact ⟨rfl, pre2 ++ [i], _, _, _, _, _, _, _, _, hp2, nx (fun x => q2 (by have := (kp.mpr x).2.1; grind)), rfl⟩
        · sleep 0
          exact ⟨rfl, pre2 ++ [i], _, _, _, _, _, _, _, _, hp2, nx (fun x => q1 (by have := (kp.mpr x).1; grind)), rfl⟩
    · rintro ρ w ⟨rfl, pre2, y10, y11, y12, y13, y14, y15, y16, y17, hpre2, h3, rfl⟩
      rw [List.append_nil] at hpre2
      have l2 := congrArg List.length hpre2
      rw [List.length_range] at l2
      refine TurnK.nx ?_
      refine ⟨rfl, pre ++ [k], _, _, _, _, _, _, _, _, _, _, _, _, _, by rw [List.append_assoc]; exact hpre, fun j e hj he => ?_, fun i j e f hij hj hei hej => ?_, rfl⟩
      · rw [List.length_append, List.length_singleton, hk2] at hj
        rcases Nat.lt_succ_iff_lt_or_eq.mp hj with hj | rfl
        · exact h1 j e hj he
        · rw [gk] at he
          cases he
          exact c1'
      · rw [List.length_append, List.length_singleton, hk2] at hj
        rcases Nat.lt_succ_iff_lt_or_eq.mp hj with hj | rfl
        · exact h2 i j e f hij hj hei hej
        · rw [gk] at hej
          cases hej
          exact h3 i e (by omega) hei
  · rintro ρ w ⟨rfl, pre, y5, y6, y7, y8, y9, y10, y11, y12, y13, y14, y15, y16, y17, hpre, h1, h2, rfl⟩
    rw [List.append_nil] at hpre
    have l2 := congrArg List.length hpre
    rw [List.length_range] at l2
    sleep 0
    refine congrArg PyData.bool (dP_f ?_).symm
    rintro (⟨e, he, hx⟩ | ⟨e, he, f, hf, hx⟩)
    · obtain ⟨i, hi, rfl⟩ := List.mem_iff_getElem.mp he
      exact h1 i _ (by omega) (List.getElem?_eq_getElem hi) hx
    · obtain ⟨i, hi, rfl⟩ := List.mem_iff_getElem.mp he
      obtain ⟨j, hj, rfl⟩ := List.mem_iff_getElem.mp hf
      rcases Nat.lt_trichotomy i j with q | q | q
      · exact h2 i j _ _ q (by omega) (List.getElem?_eq_getElem hi) (List.getElem?_eq_getElem hj) (.inl hx)
      · subst q
        have := hx.1
        unfold detE at this
        grind
      · exact h2 j i _ _ q (by omega) (List.getElem?_eq_getElem hj) (List.getElem?_eq_getElem hi) (.inr hx)

theorem q_sub2 (p q : Rat) : p - q = Rat.divInt (p.num * q.den - q.num * p.den) (p.den * q.den) := by
  rw [Rat.sub_eq_add_neg, q_add]
  show Rat.divInt (p.num * q.den + -q.num * p.den) (p.den * q.den) = _
  rw [Int.neg_mul]
  rfl
theorem divInt_ne {a e : Int} (h : a ≠ 0) (he : e ≠ 0) : Rat.divInt a e ≠ 0 := by
  intro z
  rw [Rat.divInt_eq_div] at z
  have h1 : (a : Rat) ≠ 0 := by exact_mod_cast h
  have h2 : (e : Rat) ≠ 0 := by exact_mod_cast he
  grind
/-! ### drawn places and fields -/
theorem pow6 : gPow (.int 10) (.int 6) = some (.int 1000000) := by kernel_rfl
theorem number_nd {size : Int} {w : Ws} {n : Nat} (hw : Wl n w) (hn : n ≤ 900000) (h0 : 0 ≤ size) (h1 : size ≤ 9) : ∃ (q : Rat) (w' : Ws), F_law_number [.int size] w = some (fq q, w') ∧ Nd 21 10 q ∧ Wl (n + 4) w' := by
  have main : WO (F_law_number [.int size] w) fun p => ∃ q : Rat, p.1 = fq q ∧ Nd 21 10 q ∧ Wl (n + 4) p.2 := by
    obtain ⟨d1, w1, e1, a0, a1, hw1⟩ := take_ok (t := 9) hw (by omega) (by decide) (by unfold Sz; decide +kernel)
    obtain ⟨d2, w2, e2, b0, b1, hw2⟩ := take_ok (t := 2 * size + 1) hw1 (by omega) (by omega) (Sz.mono (j := 30) (by unfold Sz; omega) (by decide))
    obtain ⟨d3, w3, e3, c0, c1, hw3⟩ := take_ok (t := 3) hw2 (by omega) (by decide) (by unfold Sz; decide +kernel)
    obtain ⟨d4, w4, e4, f0, f1, hw4⟩ := take_ok (t := 1000000) hw2 (by omega) (by decide) (by unfold Sz; decide +kernel)
    obtain ⟨d5, w5, e5, g0, g1, hw5⟩ := take_ok (t := 1000) hw4 (by omega) (by decide) (by unfold Sz; decide +kernel)
    have zs : Sz 30 size := by unfold Sz; omega
    have z2 : Sz 30 (2 : Int) := by unfold Sz; decide
    have zn : Sz 30 (d2 - size) := by unfold Sz; omega
    have zc : Sz 30 (100003 : Int) := by unfold Sz; decide
    unfold F_law_number m_law_number
    refine wo_defW rfl ?_
    sleep 1
    sleep 0
    first | ((with_reducible apply call_of); (· exact e1)) | ((with_reducible apply callw_of); (· exact e1)) | refine wo_of e1 ?_
    sleep 0
    first | ((with_reducible apply call_of); (· exact e2)) | ((with_reducible apply callw_of); (· exact e2)) | refine wo_of e2 ?_
    sleep 0
    refine br_p (fun z => ?_) (fun z => ?_)
    · sleep 0
      refine ⟨((d2 - size : Int) : Rat), rfl, (nd_int (a := 21) (by unfold Sz; omega)).mono (by decide) (by decide), hw2.mono (by omega)⟩
    · sleep 0
      refine br_p (fun z3 => ?_) (fun z3 => ?_)
      · have r := ratio_ok (n := d2 - size) (m := 2 + d3) (by omega) (Sz.mono (j := 30) (by unfold Sz; omega) (by decide)) (Sz.mono (j := 30) (by unfold Sz; omega) (by decide))
        sleep 0
        first | ((with_reducible apply call_of); (· exact e3)) | ((with_reducible apply callw_of); (· exact e3)) | refine wo_of e3 ?_
        sleep 0
        first | ((with_reducible apply call_of); (· exact r)) | ((with_reducible apply callw_of); (· exact r)) | refine wo_of r ?_
        sleep 0
        exact ⟨_, rfl, nd_divInt (by unfold Sz; omega) (by unfold Sz; omega) (by omega), hw3.mono (by omega)⟩
      · have r := ratio_ok (n := (d2 - size) * 100003 + d4) (m := 1 + d5) (by omega) (Sz.mono (j := 30) (by unfold Sz; omega) (by decide)) (Sz.mono (j := 30) (by unfold Sz; omega) (by decide))
        sleep 0
        first | ((with_reducible apply call_of); (· exact pow6)) | ((with_reducible apply callw_of); (· exact pow6)) | refine wo_of pow6 ?_
        sleep 0
        first | ((with_reducible apply call_of); (· exact e4)) | ((with_reducible apply callw_of); (· exact e4)) | refine wo_of e4 ?_
        sleep 0
        first | ((with_reducible apply call_of); (· exact e5)) | ((with_reducible apply callw_of); (· exact e5)) | refine wo_of e5 ?_
        sleep 0
        first | ((with_reducible apply call_of); (· exact r)) | ((with_reducible apply callw_of); (· exact r)) | refine wo_of r ?_
        sleep 0
        exact ⟨_, rfl, nd_divInt (by unfold Sz; omega) (by unfold Sz; omega) (by omega), hw5.mono (by omega)⟩
  obtain ⟨⟨t, w'⟩, e, q, rfl, h4, h5⟩ := main
  exact ⟨q, w', e, h4, h5⟩
structure EdS (e : E3) : Prop where
  a : Nd 2 2 e.1
  b : Nd 2 2 e.2.1
  c : Nd 39 26 e.2.2
  ne : e.1 ≠ 0 ∨ e.2.1 ≠ 0
theorem frE {e : Int} (h : e = 1 ∨ e = 2 ∨ e = 3) : ∃ f : Rat, PyData.tuple [.int 1, .int e] = fq f ∧ Nd 1 2 f ∧ 0 < f ∧ ∀ A : Int, Rat.divInt A e = (A : Rat) * f := by
  rcases h with rfl | rfl | rfl
  · refine ⟨1, by kernel_rfl, ⟨by unfold Sz; decide, by unfold Sz; decide⟩, by decide +kernel, fun A => by rw [Rat.divInt_eq_div]; grind⟩
  · refine ⟨1 / 2, by kernel_rfl, ⟨by unfold Sz; decide +kernel, by unfold Sz; decide +kernel⟩, by decide +kernel, fun A => by rw [Rat.divInt_eq_div]; push_cast; grind⟩
  · refine ⟨1 / 3, by kernel_rfl, ⟨by unfold Sz; decide +kernel, by unfold Sz; decide +kernel⟩, by decide +kernel, fun A => by rw [Rat.divInt_eq_div]; push_cast; grind⟩
theorem edge_nd {at_ : P2} {menu : List Rat} {w : Ws} {n : Nat} (hw : Wl n w) (hn : n ≤ 900000) (ha : NdP 21 10 at_) (hm : menu ≠ []) (hm2 : menu.length ≤ 1000) (hs : ∀ q ∈ menu, Nd 3 2 q) :
    ∃ (e : E3) (w' : Ws), F_law_edge [pT at_, .list (menu.map fq)] w = some (eT e, w') ∧ EdS e ∧ (∃ off ∈ menu, ∃ f : Rat, 0 < f ∧ e.2.2 = dE e at_ + off * f) ∧ Wl (n + 4) w' := by
  obtain ⟨a, w1, e1, a0, a1, hw1⟩ := take_ok (t := 5) hw (by omega) (by decide) (by unfold Sz; decide +kernel)
  obtain ⟨b, w2, e2, b0, b1, hw2⟩ := take_ok (t := 5) hw1 (by omega) (by decide) (by unfold Sz; decide +kernel)
  obtain ⟨t, w3, e3, ht, hw3⟩ := one_of_ok (ts := [.int 1, .int 1, .int 1, .int 2, .int 3]) hw2 (by omega) (by simp) (by simp)
  obtain ⟨e, rfl, he⟩ : ∃ e : Int, t = .int e ∧ (e = 1 ∨ e = 2 ∨ e = 3) := by
    simp at ht
    rcases ht with rfl | rfl | rfl
    · exact ⟨1, rfl, by simp⟩
    · exact ⟨2, rfl, by simp⟩
    · exact ⟨3, rfl, by simp⟩
  obtain ⟨f, hf, nf, pf, df⟩ := frE he
  obtain ⟨t2, w4, e4, ht2, hw4⟩ := one_of_ok (ts := menu.map fq) hw3 (by omega) (by simpa using hm) (by simp; omega)
  obtain ⟨off, hoff, rfl⟩ := List.mem_map.mp ht2
  have zb : Sz 2 (b - 2) := by unfold Sz; omega
  have ze : Sz 2 e := by unfold Sz; omega
  have e0 : e ≠ 0 := by omega
  have key : ∀ A : Int, Sz 2 A → (A ≠ 0 ∨ b - 2 ≠ 0) → WS (sSeq (sAsg (gNm 6) (dCallW 0 F_law_one_of (dCons (dVar 2) dNil)))
      (sSeq (sAsg (gNm 7) (dCallP F_law_plus (dCons (dCallP F_law_plus (dCons (dCallP F_law_times (dCons (dTup (dCons (dVar 3) (dCons (dC (.int 1)) dNil))) (dCons (dBin gIx (dVar 1) (dC (.int 0))) dNil))) (dCons (dCallP F_law_times (dCons (dTup (dCons (dVar 4) (dCons (dC (.int 1)) dNil))) (dCons (dBin gIx (dVar 1) (dC (.int 1))) dNil))) dNil))) (dCons (dVar 6) dNil))))
      (sRet (dTup (dCons (dCallP F_law_ratio (dCons (dVar 3) (dCons (dVar 5) dNil))) (dCons (dCallP F_law_ratio (dCons (dVar 4) (dCons (dVar 5) dNil))) (dCons (dCallP F_law_times (dCons (dVar 7) (dCons (dTup (dCons (dC (.int 1)) (dCons (dVar 5) dNil))) dNil))) dNil)))))))
      [some .well, some (.val (pT at_)), some (.val (.list (menu.map fq))), some (.val (.int A)), some (.val (.int (b - 2))), some (.val (.int e)), none, none] w3
      (RetW fun t w' => ∃ ed : E3, t = eT ed ∧ EdS ed ∧ (∃ off ∈ menu, ∃ f : Rat, 0 < f ∧ ed.2.2 = dE ed at_ + off * f) ∧ w' = w4) := fun A zA hA => by
    have nA : Nd 2 1 (A : Rat) := nd_int zA
    have nb : Nd 2 1 ((b - 2 : Int) : Rat) := nd_int zb
    have n1 := nA.mul ha.x
    have n2 := nb.mul ha.y
    have n3 := n1.add n2 (c := 35) (by decide) (by decide)
    have n4 := n3.add (hs off hoff) (c := 38) (by decide) (by decide)
    have n5 := n4.mul nf
    have k1 : F_law_times [.tuple [.int A, .int 1], fq at_.1] = some (fq ((A : Rat) * at_.1)) := times_ok (nA.sq (k := 50) (by decide) (by decide)) (ha.x.sq (k := 50) (by decide) (by decide)) (by decide)
    have k2 : F_law_times [.tuple [.int (b - 2), .int 1], fq at_.2] = some (fq (((b - 2 : Int) : Rat) * at_.2)) := times_ok (nb.sq (k := 50) (by decide) (by decide)) (ha.y.sq (k := 50) (by decide) (by decide)) (by decide)
    have k3 := plus_ok (n1.sq (k := 50) (by decide) (by decide)) (n2.sq (k := 50) (by decide) (by decide)) (by decide)
    have k4 := plus_ok (n3.sq (k := 50) (by decide) (by decide)) ((hs off hoff).sq (k := 50) (by decide) (by decide)) (by decide)
    have k5 : F_law_ratio [.int A, .int e] = some (fq (Rat.divInt A e)) := ratio_ok e0 (zA.mono (by decide)) (ze.mono (by decide))
    have k6 : F_law_ratio [.int (b - 2), .int e] = some (fq (Rat.divInt (b - 2) e)) := ratio_ok e0 (zb.mono (by decide)) (ze.mono (by decide))
    have k7 : F_law_times [fq ((A : Rat) * at_.1 + ((b - 2 : Int) : Rat) * at_.2 + off), .tuple [.int 1, .int e]] = some (fq (((A : Rat) * at_.1 + ((b - 2 : Int) : Rat) * at_.2 + off) * f)) := by
      rw [hf]
      exact times_ok (n4.sq (k := 50) (by decide) (by decide)) (nf.sq (k := 50) (by decide) (by decide)) (by decide)
    unfold pT
    sleep 0
    first | ((with_reducible apply call_of); (· exact e4)) | ((with_reducible apply callw_of); (· exact e4)) | refine wo_of e4 ?_
    sleep 0
    first | ((with_reducible apply call_of); (· exact k1)) | ((with_reducible apply callw_of); (· exact k1)) | refine wo_of k1 ?_
    sleep 0
    first | ((with_reducible apply call_of); (· exact k2)) | ((with_reducible apply callw_of); (· exact k2)) | refine wo_of k2 ?_
    sleep 0
    first | ((with_reducible apply call_of); (· exact k3)) | ((with_reducible apply callw_of); (· exact k3)) | refine wo_of k3 ?_
    sleep 0
    first | ((with_reducible apply call_of); (· exact k4)) | ((with_reducible apply callw_of); (· exact k4)) | refine wo_of k4 ?_
    sleep 0
    first | ((with_reducible apply call_of); (· exact k5)) | ((with_reducible apply callw_of); (· exact k5)) | refine wo_of k5 ?_
    sleep 0
    first | ((with_reducible apply call_of); (· exact k6)) | ((with_reducible apply callw_of); (· exact k6)) | refine wo_of k6 ?_
    sleep 0
    first | ((with_reducible apply call_of); (· exact k7)) | ((with_reducible apply callw_of); (· exact k7)) | refine wo_of k7 ?_
    sleep 0
    refine ⟨(Rat.divInt A e, Rat.divInt (b - 2) e, ((A : Rat) * at_.1 + ((b - 2 : Int) : Rat) * at_.2 + off) * f), rfl, ⟨nd_divInt zA ze e0, nd_divInt zb ze e0, n5, ?_⟩, ⟨off, hoff, f, pf, ?_⟩, rfl⟩
    · rcases hA with h | h
      · exact .inl (divInt_ne h e0)
      · exact .inr (divInt_ne h e0)
    · unfold dE
      dsimp only
      rw [df, df]
      grind
  have main : WO (F_law_edge [pT at_, .list (menu.map fq)] w) fun p => ∃ ed : E3, p.1 = eT ed ∧ EdS ed ∧ (∃ off ∈ menu, ∃ f : Rat, 0 < f ∧ ed.2.2 = dE ed at_ + off * f) ∧ p.2 = w4 := by
    unfold F_law_edge m_law_edge
    refine wo_defW rfl ?_
    sleep 1
    sleep 0
    first | ((with_reducible apply call_of); (· exact e1)) | ((with_reducible apply callw_of); (· exact e1)) | refine wo_of e1 ?_
    sleep 0
    first | ((with_reducible apply call_of); (· exact e2)) | ((with_reducible apply callw_of); (· exact e2)) | refine wo_of e2 ?_
    sleep 0
    first | ((with_reducible apply call_of); (· exact e3)) | ((with_reducible apply callw_of); (· exact e3)) | refine wo_of e3 ?_
    refine wa_nil ?_
    refine Is3.mk ?_
    refine setk3 ?_
    refine setk4 ?_
    refine setk5 ?_
    refine SeqK.nx ?_
    refine ws_seq ?_
    refine ws_if ?_
    refine wt_and ?_
    sleep 0
    refine br_p (fun z => ?_) (fun z => ?_)
    · sleep 0
      refine br_p (fun z2 => ?_) (fun z2 => ?_)
      · refine ws_asg ?_
        refine we_c ?_
        refine wg_nm ?_
        refine setk3 ?_
        refine SeqK.nx ?_
        exact key 1 (by unfold Sz; decide) (.inl (by decide))
      · refine ws_skip ?_
        refine SeqK.nx ?_
        exact key (a - 2) (by unfold Sz; omega) (.inr z2)
    · refine br_f ?_
      refine ws_skip ?_
      refine SeqK.nx ?_
      exact key (a - 2) (by unfold Sz; omega) (.inl z)
  obtain ⟨⟨t, w'⟩, e, ed, rfl, h4, h5, rfl⟩ := main
  exact ⟨ed, w', e, h4, h5, hw4.mono (by omega)⟩

theorem EdS.big {e : E3} (h : EdS e) : EdB e := ⟨h.a.mono (by decide) (by decide), h.b.mono (by decide) (by decide), h.c.mono (by decide) (by decide), h.ne⟩
def menuL : List Rat := [0, 1, 0, 1 / 2, 2]
theorem menuL_eq : menuL.map fq = [.tuple [.int 0, .int 1], .tuple [.int 1, .int 1], .tuple [.int 0, .int 1], .tuple [.int 1, .int 2], .tuple [.int 2, .int 1]] := by kernel_rfl
theorem menuL_nd : ∀ q ∈ menuL, Nd 2 2 q ∧ 0 ≤ q := fun q hq => by
  have h0 : Nd 2 2 (0 : Rat) := ⟨by unfold Sz; decide +kernel, by unfold Sz; decide +kernel⟩
  have h1 : Nd 2 2 (1 : Rat) := ⟨by unfold Sz; decide +kernel, by unfold Sz; decide +kernel⟩
  have h2 : Nd 2 2 (1 / 2 : Rat) := ⟨by unfold Sz; decide +kernel, by unfold Sz; decide +kernel⟩
  have h3 : Nd 2 2 (2 : Rat) := ⟨by unfold Sz; decide +kernel, by unfold Sz; decide +kernel⟩
  unfold menuL at hq
  rcases List.mem_cons.mp hq with rfl | hq
  · exact ⟨h0, by decide +kernel⟩
  rcases List.mem_cons.mp hq with rfl | hq
  · exact ⟨h1, by decide +kernel⟩
  rcases List.mem_cons.mp hq with rfl | hq
  · exact ⟨h0, by decide +kernel⟩
  rcases List.mem_cons.mp hq with rfl | hq
  · exact ⟨h2, by decide +kernel⟩
  rcases List.mem_cons.mp hq with rfl | hq
  · exact ⟨h3, by decide +kernel⟩
  · cases hq
theorem land_nd {at_ : P2} {w : Ws} {n N : Nat} (hw : Wl n w) (hn : n ≤ 800000) (ha : NdP 21 10 at_) (h1 : 1 ≤ N) (h5 : N ≤ 5) : ∃ (es : List E3) (w' : Ws), F_law_land [pT at_, .int (N : Nat)] w = some (lT es, w') ∧ (∀ e ∈ es, EdS e) ∧ es.length = N ∧ (∀ e ∈ es, dE e at_ ≤ e.2.2) ∧ Wl (n + 20) w' := by
  have main : WO (F_law_land [pT at_, .int (N : Nat)] w) fun p => ∃ es : List E3, p.1 = lT es ∧ (∀ e ∈ es, EdS e) ∧ es.length = N ∧ (∀ e ∈ es, dE e at_ ≤ e.2.2) ∧ Wl (n + 20) p.2 := by
    unfold F_law_land m_law_land
    refine wo_defW rfl ?_
    sleep 1
    sleep 0
    refine wa_rng1 ?_
    sleep 0
    refine ⟨N, rfl, by omega, ?_⟩
    sleep 0
    refine wc_draw (β := E3) eT (fun e => EdS e ∧ dE e at_ ≤ e.2.2) (fun k w => Wl (n + 4 * k) w) (m := N) (by simp) (hw.mono (by omega)) (fun t ht k w hk hI => ?_) ?_
    · obtain ⟨e, w1, e1, hb, ⟨off, hoff, f, pf, hc⟩, hw1⟩ := edge_nd (menu := menuL) hI (by omega) ha (by decide) (by decide) (fun q hq => (menuL_nd q hq).1.mono (by decide) (by decide))
      rw [menuL_eq] at e1
      sleep 0
      first | ((with_reducible apply call_of); (· exact e1)) | ((with_reducible apply callw_of); (· exact e1)) | refine wo_of e1 ?_
      refine ⟨⟨e, rfl, hb, ?_⟩, hw1.mono (by omega)⟩
      rw [hc]
      have := Rat.mul_nonneg (menuL_nd off hoff).2 (Rat.le_of_lt pf)
      grind
    · intro es w1 l1 p1 hw1
      sleep 0
      exact ⟨es, rfl, fun e he => (p1 e he).1, l1, fun e he => (p1 e he).2, hw1.mono (by omega)⟩
  obtain ⟨⟨t, w'⟩, e, es, rfl, h3, h4, h5, h6⟩ := main
  exact ⟨es, w', e, h3, h4, h5, h6⟩
/-! ### a field around another one -/
theorem one_ofT {ts : List D} {w : Ws} {n : Nat} (hw : Wl n w) (hn : n ≤ 1000000) (h0 : ts ≠ []) (h1 : ts.length ≤ 100000) : ∃ (t : D) (w' : Ws), F_law_one_of [.tuple ts] w = some (t, w') ∧ t ∈ ts ∧ Wl (n + 1) w' := by
  have hl : 0 < ts.length := List.length_pos_iff.mpr h0
  obtain ⟨d, w1, e1, d0, d1, hw1⟩ := take_ok (t := ((ts.length : Nat) : Int)) hw hn (by omega) (Sz.mono (j := 30) (by unfold Sz; omega) (by decide))
  obtain ⟨d, rfl⟩ := Int.eq_ofNat_of_zero_le d0
  have hd : d < ts.length := by omega
  have g : gIx (.tuple ts) (.int (d : Nat)) = some ts[d] := gIx_t (List.getElem?_eq_getElem hd)
  have main : WO (F_law_one_of [.tuple ts] w) fun p => p = (ts[d], w1) := by
    unfold F_law_one_of m_law_one_of
    refine wo_defW rfl ?_
    sleep 1
    sleep 0
    first | ((with_reducible apply call_of); (· exact e1)) | ((with_reducible apply callw_of); (· exact e1)) | refine wo_of e1 ?_
    sleep 0
    first | ((with_reducible apply call_of); (· exact g)) | ((with_reducible apply callw_of); (· exact g)) | refine wo_of g ?_
    sleep 0
    rfl
  obtain ⟨p, e, rfl⟩ := main
  exact ⟨_, _, e, List.getElem_mem hd, hw1⟩
theorem nd_all {a b : Nat} : ∀ {qs : List Rat}, (qs.all fun q => decide (q.num.natAbs < 2 ^ a) && decide (q.den < 2 ^ b)) = true → ∀ q ∈ qs, Nd a b q := fun {qs} h q hq => by
  have := List.all_eq_true.mp h q hq
  rw [Bool.and_eq_true] at this
  have h1 : q.num.natAbs < 2 ^ a := of_decide_eq_true this.1
  have h2 : q.den < 2 ^ b := of_decide_eq_true this.2
  exact ⟨h1, by
    unfold Sz
    simpa using h2⟩
def menuO : List Rat := [0, 0, 1, 0, -1 / 1000]
theorem menuO_eq : menuO.map fq = [.tuple [.int 0, .int 1], .tuple [.int 0, .int 1], .tuple [.int 1, .int 1], .tuple [.int 0, .int 1], .tuple [.int (-1), .int 1000]] := by kernel_rfl
theorem menuO_nd : ∀ q ∈ menuO, Nd 1 10 q := nd_all (by decide +kernel)
theorem lw_inside {es us : List E3} (h : Land1 es) (g : Land1 us) : F_law_inside [lT es, lT us] = some (.bool (us.all fun t => dP (TellE es t))) := by
  have h5 := h.l5
  have g5 := g.l5
  refine wo_eqn ?_
  unfold F_law_inside m_law_inside
  refine wo_defP rfl ?_
  sleep 1
  unfold lT
  sleep 0
  refine wc_map (as := es) (F := eT) (fun e => iT (lineL e)) rfl (fun e he => ?_) ?_
  · have k1 := lw_line (sqE_of (h.ed e he)) (by decide)
    sleep 0
    first | ((with_reducible apply call_of); (· exact k1)) | ((with_reducible apply callw_of); (· exact k1)) | refine wo_of k1 ?_
    exact ⟨rfl, rfl⟩
  · sleep 0
    refine wc_filter (as := us) (F := eT) (fun t => !dP (TellE es t)) eT rfl (fun t ht => ?_) ?_
    · have k1 := lw_line (sqE_of (g.ed t ht)) (by decide)
      have k2 := lw_follows h (g.ed t ht)
      unfold lnD at k2
      sleep 0
      first | ((with_reducible apply call_of); (· exact k1)) | ((with_reducible apply callw_of); (· exact k1)) | refine wo_of k1 ?_
      sleep 0
      first | ((with_reducible apply call_of); (· exact k2)) | ((with_reducible apply callw_of); (· exact k2)) | refine wo_of k2 ?_
      sleep 0
      exact ⟨rfl, rfl, fun _ => ⟨_, _, rfl, rfl, rfl⟩⟩
    · sleep 0
      first | ((with_reducible apply call_of); (· exact gEq_nil)) | ((with_reducible apply callw_of); (· exact gEq_nil)) | refine wo_of gEq_nil ?_
      sleep 0
      refine congrArg PyData.bool ?_
      rw [Bool.eq_iff_iff, List.isEmpty_iff, List.map_eq_nil_iff, List.filter_eq_nil_iff, List.all_eq_true]
      constructor
      · intro z t ht
        have := z t ht
        simpa using this
      · intro z t ht
        have := z t ht
        simp [this]

structure EdA (e : E3) : Prop where
  a : Nd 7 5 e.1
  b : Nd 7 5 e.2.1
  c : Nd 68 53 e.2.2
  ne : e.1 ≠ 0 ∨ e.2.1 ≠ 0
theorem lw_around {es : List E3} {w : Ws} {n : Nat} (hw : Wl n w) (hn : n ≤ 700000) (hs : ∀ e ∈ es, EdS e) (h1 : 1 ≤ es.length) (h5 : es.length ≤ 5) : ∃ (us : List E3) (w' : Ws), F_law_around [lT es] w = some (lT us, w') ∧ Land1 us ∧ Wl (n + 17) w' := by
  have main : WO (F_law_around [lT es] w) fun p => ∃ us : List E3, p.1 = lT us ∧ Land1 us ∧ Wl (n + 17) p.2 := by
    obtain ⟨d, w1, e1, d0, d1, hw1⟩ := take_ok (t := 4) hw (by omega) (by decide) (by unfold Sz; decide +kernel)
    obtain ⟨d, rfl⟩ := Int.eq_ofNat_of_zero_le d0
    have hne : es.map eT ≠ [] := by
      cases es with
      | nil => simp at h1
      | cons a l => simp
    have hlen : (es.map eT).length ≤ 100000 := by rw [List.length_map]; omega
    unfold F_law_around m_law_around
    refine wo_defW rfl ?_
    sleep 1
    unfold lT
    sleep 0
    refine wa_rng1 ?_
    sleep 0
    first | ((with_reducible apply call_of); (· exact e1)) | ((with_reducible apply callw_of); (· exact e1)) | refine wo_of e1 ?_
    sleep 0
    refine ⟨1 + d, by rw [Int.natCast_add]; rfl, by omega, ?_⟩
    refine wf_inv (as := List.range (1 + d)) (F := fun k => .int (k : Nat)) (fun as ρ w => ∃ (us : List E3) (y3 y4 y5 y6 y7 y8 : Option Cl), us.length + as.length = 1 + d ∧ (∀ e ∈ us, EdB e) ∧ Wl (n + 1 + 4 * us.length) w ∧ ρ = [some .well, some (.val (.tuple (es.map eT))), some (.own (us.map eT)), y3, y4, y5, y6, y7, y8, none]) ⟨[], none, none, none, none, none, none, by simp, (fun e he => absurd he (by simp)), hw1, rfl⟩ ?_ ?_
    · rintro k as ρ w ⟨us, y3, y4, y5, y6, y7, y8, hl, hus, hw2, rfl⟩
      rw [List.length_cons] at hl
      obtain ⟨t1, w3, e3, m3, hw3⟩ := one_ofT hw2 (by omega) hne hlen
      obtain ⟨one, ho, rfl⟩ := List.mem_map.mp m3
      obtain ⟨t2, w4, e4, m4, hw4⟩ := one_ofT hw3 (by omega) hne hlen
      obtain ⟨two, ht, rfl⟩ := List.mem_map.mp m4
      obtain ⟨z, w5, e5, z0, z1, hw5⟩ := take_ok (t := 4) hw4 (by omega) (by decide) (by unfold Sz; decide +kernel)
      obtain ⟨t3, w6, e6, m6, hw6⟩ := one_of_ok (ts := menuO.map fq) hw5 (by omega) (by decide) (by decide)
      obtain ⟨off, hoff, rfl⟩ := List.mem_map.mp m6
      have no := menuO_nd off hoff
      rw [menuO_eq] at e6
      have so := hs one ho
      have st := hs two ht
      have nz : Nd 2 1 (z : Rat) := nd_int (by unfold Sz; omega)
      have hz : (PyData.tuple [.int z, .int 1] : D) = fq (z : Rat) := rfl
      have sz : Sq 100 (z : Rat) := nz.sq (by decide) (by decide)
      have sq : ∀ {e : E3}, EdS e → SqE 100 e := fun h => ⟨h.a.sq (by decide) (by decide), h.b.sq (by decide) (by decide), h.c.sq (by decide) (by decide)⟩
      have ta := times_ok sz (sq st).a (by decide)
      have tb := times_ok sz (sq st).b (by decide)
      have tc := times_ok sz (sq st).c (by decide)
      have na := nz.mul st.a
      have nb := nz.mul st.b
      have nc := nz.mul st.c
      have pa := plus_ok (sq so).a (na.sq (k := 100) (by decide) (by decide)) (by decide)
      have pb := plus_ok (sq so).b (nb.sq (k := 100) (by decide) (by decide)) (by decide)
      have pc := plus_ok (sq so).c (nc.sq (k := 100) (by decide) (by decide)) (by decide)
      have ma := so.a.add na (c := 7) (by decide) (by decide)
      have mb := so.b.add nb (c := 7) (by decide) (by decide)
      have mc := so.c.add nc (c := 68) (by decide) (by decide)
      obtain ⟨ed, hed⟩ : ∃ ed : E3, ed = (one.1 + (z : Rat) * two.1, one.2.1 + (z : Rat) * two.2.1, one.2.2 + (z : Rat) * two.2.2) := ⟨_, rfl⟩
      have ea : one.1 + (z : Rat) * two.1 = ed.1 := by rw [hed]
      have eb : one.2.1 + (z : Rat) * two.2.1 = ed.2.1 := by rw [hed]
      have ec : one.2.2 + (z : Rat) * two.2.2 = ed.2.2 := by rw [hed]
      rw [ea] at pa ma
      rw [eb] at pb mb
      rw [ec] at pc mc
      have lus : us.length ≤ 4 := by omega
      have out : ∀ e : E3, EdA e → (∀ x ∈ us ++ [((e.1, e.2.1, e.2.2 + off) : E3)], EdB x) := fun e he x hx => by
        rcases List.mem_append.mp hx with hx | hx
        · exact hus x hx
        · rw [List.mem_singleton.mp hx]
          exact ⟨he.a.mono (by decide) (by decide), he.b.mono (by decide) (by decide), (he.c.add no (c := 84) (by decide) (by decide)).mono (by decide) (by decide), he.ne⟩
      have poff : ∀ e : E3, EdA e → F_law_plus [fq e.2.2, fq off] = some (fq (e.2.2 + off)) := fun e he => plus_ok (he.c.sq (k := 100) (by decide) (by decide)) (no.sq (k := 100) (by decide) (by decide)) (by decide)
      have ao : EdA one := ⟨so.a.mono (by decide) (by decide), so.b.mono (by decide) (by decide), so.c.mono (by decide) (by decide), so.ne⟩
      have hne' : ∀ q : Rat, q.num ≠ 0 → q ≠ 0 := fun q h z => h (by rw [z]; rfl)
      have ft : ∀ q : Rat, fq q = .tuple [.int q.num, .int (q.den : Nat)] := fun q => rfl
      sleep 0
      first | ((with_reducible apply call_of); (· exact e3)) | ((with_reducible apply callw_of); (· exact e3)) | refine wo_of e3 ?_
      sleep 0
      first | ((with_reducible apply call_of); (· exact e4)) | ((with_reducible apply callw_of); (· exact e4)) | refine wo_of e4 ?_
      sleep 0
      first | ((with_reducible apply call_of); (· exact e5)) | ((with_reducible apply callw_of); (· exact e5)) | refine wo_of e5 ?_
      sleep 0
      first | ((with_reducible apply call_of); (· exact e6)) | ((with_reducible apply callw_of); (· exact e6)) | refine wo_of e6 ?_
      sleep 0
      refine wa_rng1 ?_
      sleep 0
      refine ⟨3, rfl, by decide, ?_⟩
      sleep 0
      refine wc_map (as := List.range 3) (F := fun k => .int (k : Nat)) (fun k => if k = 0 then fq ed.1 else if k = 1 then fq ed.2.1 else fq ed.2.2) rfl (fun i hi => ?_) ?_
      · have : i = 0 ∨ i = 1 ∨ i = 2 := by have := List.mem_range.mp hi; omega
        rcases this with rfl | rfl | rfl
        · unfold eT
          sleep 0
          first | ((with_reducible apply call_of); (· exact ta)) | ((with_reducible apply callw_of); (· exact ta)) | refine wo_of ta ?_
          sleep 0
          first | ((with_reducible apply call_of); (· exact pa)) | ((with_reducible apply callw_of); (· exact pa)) | refine wo_of pa ?_
          exact ⟨rfl, rfl⟩
        · unfold eT
          sleep 0
          first | ((with_reducible apply call_of); (· exact tb)) | ((with_reducible apply callw_of); (· exact tb)) | refine wo_of tb ?_
          sleep 0
          first | ((with_reducible apply call_of); (· exact pb)) | ((with_reducible apply callw_of); (· exact pb)) | refine wo_of pb ?_
          exact ⟨rfl, rfl⟩
        · unfold eT
          sleep 0
          first | ((with_reducible apply call_of); (· exact tc)) | ((with_reducible apply callw_of); (· exact tc)) | refine wo_of tc ?_
          sleep 0
          first | ((with_reducible apply call_of); (· exact pc)) | ((with_reducible apply callw_of); (· exact pc)) | refine wo_of pc ?_
          exact ⟨rfl, rfl⟩
      · rw [show (List.range 3).map (fun k => if k = 0 then fq ed.1 else if k = 1 then fq ed.2.1 else fq ed.2.2) = [fq ed.1, fq ed.2.1, fq ed.2.2] from rfl]
        sleep 0
        have gl : Option.map PyData.list (gList [eT one]) = some (.list [fq one.1, fq one.2.1, fq one.2.2]) := rfl
        have aed : ed.1 ≠ 0 ∨ ed.2.1 ≠ 0 → EdA ed := fun h => ⟨ma.mono (by decide) (by decide), mb.mono (by decide) (by decide), mc.mono (by decide) (by decide), h⟩
        have fin : ∀ e : E3, EdA e → us.map eT ++ [PyData.tuple [fq e.1, fq e.2.1, fq (e.2.2 + off)]] = (us ++ [((e.1, e.2.1, e.2.2 + off) : E3)]).map eT := fun e he => by rw [List.map_append]; rfl
        have lp : ∀ e : E3, (us ++ [e]).length + as.length = 1 + d := fun e => by rw [List.length_append, List.length_singleton]; omega
        have wp : ∀ e : E3, Wl (n + 1 + 4 * (us ++ [e]).length) w6 := fun e => hw6.mono (by rw [List.length_append, List.length_singleton]; omega)
        refine br_p (fun c1 => ?_) (fun c1 => ?_)
        · sleep 0
          refine br_p (fun c2 => ?_) (fun c2 => ?_)
          · sleep 0
            first | ((with_reducible apply call_of); (· exact gl)) | ((with_reducible apply callw_of); (· exact gl)) | refine wo_of gl ?_
            sleep 0
            first | ((with_reducible apply call_of); (· exact (poff one ao))) | ((with_reducible apply callw_of); (· exact (poff one ao))) | refine wo_of (poff one ao) ?_
            sleep 0
            rw [fin one ao]
            exact ⟨us ++ [(one.1, one.2.1, one.2.2 + off)], _, _, _, _, _, _, lp _, out one ao, wp _, rfl⟩
          · have ae := aed (.inr (hne' _ c2))
            sleep 0
            first | ((with_reducible apply call_of); (· exact (poff ed ae))) | ((with_reducible apply callw_of); (· exact (poff ed ae))) | refine wo_of (poff ed ae) ?_
            sleep 0
            rw [fin ed ae]
            exact ⟨us ++ [(ed.1, ed.2.1, ed.2.2 + off)], _, _, _, _, _, _, lp _, out ed ae, wp _, rfl⟩
        · have ae := aed (.inl (hne' _ c1))
          sleep 0
          first | ((with_reducible apply call_of); (· exact (poff ed ae))) | ((with_reducible apply callw_of); (· exact (poff ed ae))) | refine wo_of (poff ed ae) ?_
          sleep 0
          rw [fin ed ae]
          exact ⟨us ++ [(ed.1, ed.2.1, ed.2.2 + off)], _, _, _, _, _, _, lp _, out ed ae, wp _, rfl⟩
    · rintro ρ w ⟨us, y3, y4, y5, y6, y7, y8, hl, hus, hw2, rfl⟩
      rw [List.length_nil] at hl
      sleep 0
      exact ⟨us, rfl, ⟨hus, by omega, by omega⟩, hw2.mono (by omega)⟩
  obtain ⟨⟨t, w'⟩, e, us, rfl, h3, h4⟩ := main
  exact ⟨us, w', e, h3, h4⟩

theorem spot_nd {size : Int} {w : Ws} {n : Nat} (hw : Wl n w) (hn : n ≤ 800000) (h0 : 0 ≤ size) (h1 : size ≤ 9) : ∃ (p : P2) (w' : Ws), F_law_spot [.int size] w = some (pT p, w') ∧ NdP 21 10 p ∧ Wl (n + 8) w' := by
  obtain ⟨x, w1, e1, hx, hw1⟩ := number_nd hw (by omega) h0 h1
  obtain ⟨y, w2, e2, hy, hw2⟩ := number_nd hw1 (by omega) h0 h1
  have main : WO (F_law_spot [.int size] w) fun p => p = (pT (x, y), w2) := by
    unfold F_law_spot m_law_spot
    refine wo_defW rfl ?_
    sleep 1
    sleep 0
    first | ((with_reducible apply call_of); (· exact e1)) | ((with_reducible apply callw_of); (· exact e1)) | refine wo_of e1 ?_
    sleep 0
    first | ((with_reducible apply call_of); (· exact e2)) | ((with_reducible apply callw_of); (· exact e2)) | refine wo_of e2 ?_
    sleep 0
    rfl
  obtain ⟨t, e, rfl⟩ := main
  exact ⟨(x, y), w2, e, ⟨hx, hy⟩, hw2.mono (by omega)⟩
/-! ### sides and places in the law's whole numbers -/
theorem lw_point {p : P2} {k : Nat} (h : SqP k p) (hk : k ≤ 100000) : F_law_point [pT p] = some (iT (pointL p)) := by
  obtain ⟨x, y⟩ := p
  have e1 : mulOk x.num y.den = true := mulSz h.x.n h.y.d
  have e2 : mulOk y.num x.den = true := mulSz h.y.n h.x.d
  have e3 : mulOk x.den y.den = true := mulSz h.x.d h.y.d
  simp [F_law_point, m_law_point, defW, defP, sSeq, sIf, sAsg, sWset, sRet, sRetN, sSkip, sDrop, sPar2, sPar3, sNo, dTr, dNot, dAnd, dOr, dIf, dAndV, dOrV, dNotV, dBin, dUn, dChain, dWell, dC, dVar, dPri, dTup, dLst, dCons, dNil, dCallP, dCallW, rho0, truth, asBool, asInt, gTp, gC, gNm, gN, gMul_eq, gAdd_eq, gSub_eq, gLt_eq, gLe_eq, gGt_eq, gGe_eq, gEq_eq, gNe_eq, gAbs_eq, gInt_eq, gNeg_eq, gGcd_eq, gLen_l, gLen_t, gIx_t0, gIx_t1, gIx_t2, gIx_l0, gIx_l1, gIx_l2, pT, iT, pointL, fq, fr, e1, e2, e3]
theorem lw_holds {ls : List L3} {s : L3} {j k : Nat} (hl : ∀ l ∈ ls, SzL j l) (hs : SzL k s) (hjk : j + k < 900000) (hn : ls.length ≤ 100000) : F_law_holds [.list (ls.map iT), iT s] = some (.bool (ls.all fun l => holdsL l s)) := by
  let p : D → Bool := fun t => match t with
    | .tuple [.int a, .int b, .int c] => !holdsL (a, b, c) s
    | _ => false
  have hc : dComp [5] (dItems (dVar 0)) (gNm 5) (dTr (dBin gGt (dBin gAdd (dBin gMul (dBin gIx (dVar 5) (dC (.int 0))) (dVar 2)) (dBin gMul (dBin gIx (dVar 5) (dC (.int 1))) (dVar 3))) (dBin gMul (dBin gIx (dVar 5) (dC (.int 2))) (dVar 4)))) (dVar 5)
      [some (.val (.list (ls.map iT))), some (.val (iT s)), some (.val (.int s.1)), some (.val (.int s.2.1)), some (.val (.int s.2.2)), none] [] = some (.list ((ls.map iT).filter p), []) := by
    have := comp_pure (vs := [5]) (it := dItems (dVar 0)) (g := gNm 5) (c := dTr (dBin gGt (dBin gAdd (dBin gMul (dBin gIx (dVar 5) (dC (.int 0))) (dVar 2)) (dBin gMul (dBin gIx (dVar 5) (dC (.int 1))) (dVar 3))) (dBin gMul (dBin gIx (dVar 5) (dC (.int 2))) (dVar 4)))) (e := dVar 5)
      (ρ := [some (.val (.list (ls.map iT))), some (.val (iT s)), some (.val (.int s.1)), some (.val (.int s.2.1)), some (.val (.int s.2.2)), none]) (w := []) (w1 := []) (xs := ls.map iT) (p := p) (f := fun t => t) (dItems_l rfl) (by simpa using hn) fun t ht => by
        obtain ⟨l, hlm, rfl⟩ := List.mem_map.mp ht
        obtain ⟨a, b, c⟩ := l
        obtain ⟨s1, s2, s3⟩ := hl _ hlm
        have e1 : mulOk a s.1 = true := mulSz s1 hs.1
        have e2 : mulOk b s.2.1 = true := mulSz s2 hs.2.1
        have e3 : mulOk c s.2.2 = true := mulSz s3 hs.2.2
        refine ⟨[some (.val (.list (ls.map iT))), some (.val (iT s)), some (.val (.int s.1)), some (.val (.int s.2.1)), some (.val (.int s.2.2)), some (.val (iT (a, b, c)))], rfl, ?_, fun _ => rfl⟩
        simp [defW, defP, sSeq, sIf, sAsg, sWset, sRet, sRetN, sSkip, sDrop, sPar2, sPar3, sNo, dTr, dNot, dAnd, dOr, dIf, dAndV, dOrV, dNotV, dBin, dUn, dChain, dWell, dC, dVar, dPri, dTup, dLst, dCons, dNil, dCallP, dCallW, rho0, truth, asBool, asInt, gTp, gC, gNm, gN, gMul_eq, gAdd_eq, gSub_eq, gLt_eq, gLe_eq, gGt_eq, gGe_eq, gEq_eq, gNe_eq, gAbs_eq, gInt_eq, gNeg_eq, gGcd_eq, gLen_l, gLen_t, gIx_t0, gIx_t1, gIx_t2, gIx_l0, gIx_l1, gIx_l2, iT, e1, e2, e3, p, holdsL]
        simp [← Int.not_le]
    rw [this, List.map_id']
  have he : ((ls.map iT).filter p).isEmpty = ls.all fun l => holdsL l s := by
    have := none_not (p := fun t => !p t) (ls.map iT)
    simp only [Bool.not_not] at this
    rw [this, List.all_map]
    congr 1
    funext l
    obtain ⟨a, b, c⟩ := l
    show (!(!holdsL (a, b, c) s)) = _
    rw [Bool.not_not]
  obtain ⟨x, y, w⟩ := s
  simp only [iT] at hc
  simp [F_law_holds, m_law_holds, defW, defP, sSeq, sIf, sAsg, sWset, sRet, sRetN, sSkip, sDrop, sPar2, sPar3, sNo, dTr, dNot, dAnd, dOr, dIf, dAndV, dOrV, dNotV, dBin, dUn, dChain, dWell, dC, dVar, dPri, dTup, dLst, dCons, dNil, dCallP, dCallW, rho0, truth, asBool, asInt, gTp, gC, gNm, gN, gMul_eq, gAdd_eq, gSub_eq, gLt_eq, gLe_eq, gGt_eq, gGe_eq, gEq_eq, gNe_eq, gAbs_eq, gInt_eq, gNeg_eq, gGcd_eq, gLen_l, gLen_t, gIx_t0, gIx_t1, gIx_t2, gIx_l0, gIx_l1, gIx_l2, iT, hc, gEq_nil]
  simpa using he
theorem lw_in {es : List E3} {p : P2} {k : Nat} (he : ∀ e ∈ es, SqE k e) (hp : SqP k p) (hk : k ≤ 100000) (hn : es.length ≤ 100000) : F_law_in [lT es, pT p] = some (.bool (inside es p)) := by
  have hc : dComp [2] (dItems (dVar 0)) (gNm 2) dYes (dCallP F_law_line (dCons (dVar 2) dNil)) [some (.val (lT es)), some (.val (pT p)), none] [] = some (.list ((es.map lineL).map iT), []) := by
    let f : D → D := fun t => (F_law_line [t]).getD .none
    have := comp_map (vs := [2]) (it := dItems (dVar 0)) (g := gNm 2) (e := dCallP F_law_line (dCons (dVar 2) dNil)) (ρ := [some (.val (lT es)), some (.val (pT p)), none]) (w := []) (w1 := []) (xs := es.map eT) (f := f) (dItems_t rfl) (by simpa using hn) fun t ht => by
      obtain ⟨e, hem, rfl⟩ := List.mem_map.mp ht
      have := lw_line (he e hem) hk
      refine ⟨[some (.val (lT es)), some (.val (pT p)), some (.val (eT e))], rfl, ?_⟩
      simp [defW, defP, sSeq, sIf, sAsg, sWset, sRet, sRetN, sSkip, sDrop, sPar2, sPar3, sNo, dTr, dNot, dAnd, dOr, dIf, dAndV, dOrV, dNotV, dBin, dUn, dChain, dWell, dC, dVar, dPri, dTup, dLst, dCons, dNil, dCallP, dCallW, rho0, truth, asBool, asInt, gTp, gC, gNm, gN, gMul_eq, gAdd_eq, gSub_eq, gLt_eq, gLe_eq, gGt_eq, gGe_eq, gEq_eq, gNe_eq, gAbs_eq, gInt_eq, gNeg_eq, gGcd_eq, gLen_l, gLen_t, gIx_t0, gIx_t1, gIx_t2, gIx_l0, gIx_l1, gIx_l2, f, this]
    rw [this]
    congr 3
    rw [List.map_map, List.map_map]
    apply List.map_congr_left
    intro e hem
    show (F_law_line [eT e]).getD .none = _
    rw [lw_line (he e hem) hk]
    rfl
  have h1 := lw_holds (ls := es.map lineL) (s := pointL p) (j := 3 * k) (k := 2 * k) (fun l hl => by
    obtain ⟨e, hem, rfl⟩ := List.mem_map.mp hl
    exact sz_line (he e hem)) (sz_point hp) (by omega) (by simpa using hn)
  have h2 := lw_point hp hk
  have h3 : ((es.map lineL).all fun l => holdsL l (pointL p)) = inside es p := by
    rw [List.all_map]
    congr 1
    funext e
    exact holds_rep (rep_line e) (rep_point p)
  rw [h3, List.map_map] at h1
  rw [List.map_map] at hc
  simp [F_law_in, m_law_in, defW, defP, sSeq, sIf, sAsg, sWset, sRet, sRetN, sSkip, sDrop, sPar2, sPar3, sNo, dTr, dNot, dAnd, dOr, dIf, dAndV, dOrV, dNotV, dBin, dUn, dChain, dWell, dC, dVar, dPri, dTup, dLst, dCons, dNil, dCallP, dCallW, rho0, truth, asBool, asInt, gTp, gC, gNm, gN, gMul_eq, gAdd_eq, gSub_eq, gLt_eq, gLe_eq, gGt_eq, gGe_eq, gEq_eq, gNe_eq, gAbs_eq, gInt_eq, gNeg_eq, gGcd_eq, gLen_l, gLen_t, gIx_t0, gIx_t1, gIx_t2, gIx_l0, gIx_l1, gIx_l2, hc, h2, h1]

theorem ws_mono {c : Sm} {ρ : Rho} {w : Ws} {P Q : Fl → Rho → Ws → Prop} (h : WS c ρ w P) (k : ∀ f ρ' w', P f ρ' w' → Q f ρ' w') : WS c ρ w Q := by
  obtain ⟨f, ρ', w', e, q⟩ := h
  exact ⟨f, ρ', w', e, k _ _ _ q⟩
/-! ### the law's own end -/
theorem br_join {c : Bool} {a b : Sm} {ρ : Rho} {w : Ws} {P QS : Fl → Rho → Ws → Prop} (h : (c = true → WS a ρ w P) ∧ (c = false → WS b ρ w P)) (k : ∀ f ρ' w', P f ρ' w' → QS f ρ' w') : Br c (WS a ρ w QS) (WS b ρ w QS) := ⟨fun z => ws_mono (h.1 z) k, fun z => ws_mono (h.2 z) k⟩
def negE (e : E3) : E3 := (-e.1, -e.2.1, -e.2.2)
theorem neg_s {e : E3} (h : EdS e) : EdS (negE e) := by
  refine ⟨h.a.neg, h.b.neg, h.c.neg, ?_⟩
  rcases h.ne with z | z
  · exact .inl fun q => z (by show e.1 = 0; have : -e.1 = 0 := q; grind)
  · exact .inr fun q => z (by show e.2.1 = 0; have : -e.2.1 = 0 := q; grind)
structure OkL (L : List E3) : Prop where
  l : Land1 L
  p : ∃ p : P2, ∀ e ∈ L, dE e p ≤ e.2.2
theorem sh_bools (b : Bool) : Sh 1 2 (.list [.bool b, .bool b]) := .list (n := 0) (by simp) fun t ht => by
  simp at ht
  rw [ht]
  exact .bool
theorem all_well : AllWell F_law_right := by
  intro w hw0
  have main : WO (F_law_right [] w) fun p => p.1 = .bool true := by
    obtain ⟨at_, w1, e1, na, hw1⟩ := spot_nd (size := 2) (wl_new hw0) (by decide) (by decide) (by decide)
    obtain ⟨d, w2, e2, d0, d1, hw2⟩ := take_ok (t := 4) hw1 (by decide) (by decide) (by unfold Sz; decide +kernel)
    obtain ⟨d, rfl⟩ := Int.eq_ofNat_of_zero_le d0
    obtain ⟨es, w3, e3, hs, le, hin, hw3⟩ := land_nd (N := 1 + d) hw2 (by decide) na (by omega) (by omega)
    obtain ⟨z, w4, e4, z0, z1, hw4⟩ := take_ok (t := 3) hw3 (by decide) (by decide) (by unfold Sz; decide +kernel)
    obtain ⟨ed, w5, e5, hed, ⟨off, hoff, f, pf, hc⟩, hw5⟩ := edge_nd (menu := [0]) hw4 (by decide) na (by decide) (by decide) (nd_all (by decide +kernel))
    have e5' : F_law_edge [pT at_, .list [.tuple [.int 0, .int 1]]] w4 = some (eT ed, w5) := e5
    have he5 : es.length ≤ 4 := by omega
    unfold F_law_right m_law_right
    refine wo_defW rfl ?_
    sleep 1
    sleep 0
    first | ((with_reducible apply call_of); (· exact e1)) | ((with_reducible apply callw_of); (· exact e1)) | refine wo_of e1 ?_
    sleep 0
    first | ((with_reducible apply call_of); (· exact e2)) | ((with_reducible apply callw_of); (· exact e2)) | refine wo_of e2 ?_
    sleep 0
    first | ((with_reducible apply call_of); (· exact e3)) | ((with_reducible apply callw_of); (· exact e3)) | refine wo_of e3 ?_
    sleep 0
    first | ((with_reducible apply call_of); (· exact e4)) | ((with_reducible apply callw_of); (· exact e4)) | refine wo_of e4 ?_
    sleep 0
    refine br_join (P := fun f ρ' w' => f = .nx ∧ ∃ L0 : List E3, (∀ e ∈ L0, EdS e) ∧ 1 ≤ L0.length ∧ L0.length ≤ 5 ∧ (∀ e ∈ L0, dE e at_ ≤ e.2.2) ∧ Wl 100 w' ∧ ρ' = [some .well, some (.val (pT at_)), some (.own [lT L0]), none, none, none, none, none, none]) ⟨fun c => ?_, fun c => ?_⟩ ?_
    · sleep 0
      first | ((with_reducible apply call_of); (· exact e5')) | ((with_reducible apply callw_of); (· exact e5')) | refine wo_of e5' ?_
      unfold eT
      sleep 0
      refine wc_map (as := [ed.1, ed.2.1, ed.2.2]) (F := fq) (fun q => fq (-q)) rfl (fun x hx => ?_) ?_
      · unfold fq fr
        sleep 0
        exact ⟨rfl, rfl⟩
      · rw [show [ed.1, ed.2.1, ed.2.2].map (fun q => fq (-q)) = [fq (negE ed).1, fq (negE ed).2.1, fq (negE ed).2.2] from rfl]
        unfold lT
        sleep 0
        refine wo_catt (by rw [List.length_map, List.length_singleton]; omega) ?_
        sleep 0
        refine ⟨rfl, es ++ [negE ed], fun e he => ?_, by simp, by simp; omega, fun e he => ?_, hw5.mono (by decide), by
          rw [List.map_append]
          rfl⟩
        · rcases List.mem_append.mp he with he | he
          · exact hs e he
          · rw [List.mem_singleton.mp he]
            exact neg_s hed
        · rcases List.mem_append.mp he with he | he
          · exact hin e he
          · rw [List.mem_singleton.mp he]
            have : off = 0 := by simpa using hoff
            show dE (negE ed) at_ ≤ -ed.2.2
            rw [hc, this]
            unfold dE negE
            grind
    · sleep 0
      exact ⟨rfl, es, hs, by omega, by omega, hin, hw4.mono (by decide), rfl⟩
    rintro _ _ wa ⟨rfl, L0, hs0, l01, l05, hin0, hwa, rfl⟩
    obtain ⟨us, w6, e6, hus, hw6⟩ := lw_around hwa (by decide) hs0 l01 l05
    have k1 := lw_in (es := us) (p := at_) (k := 100) (fun e he => sqE_of (hus.ed e he)) (na.sq (by decide) (by decide)) (by decide) (by have := hus.l5; omega)
    have ok0 : OkL L0 := ⟨⟨fun e he => (hs0 e he).big, l01, l05⟩, at_, hin0⟩
    sleep 0
    first | ((with_reducible apply call_of); (· exact e6)) | ((with_reducible apply callw_of); (· exact e6)) | refine wo_of e6 ?_
    sleep 0
    first | ((with_reducible apply call_of); (· exact k1)) | ((with_reducible apply callw_of); (· exact k1)) | refine wo_of k1 ?_
    sleep 0
    refine br_join (P := fun f ρ' w' => f = .nx ∧ ∃ Ls : List (List E3), (∀ L ∈ Ls, OkL L) ∧ Ls.length ≤ 2 ∧ w' = w6 ∧ ρ' = [some .well, some (.val (pT at_)), some (.own (Ls.map lT)), some (.val (lT us)), none, none, none, none, none]) ⟨fun c => ?_, fun c => ?_⟩ ?_
    · have oku : OkL us := ⟨hus, at_, inside_iff.mp c⟩
      sleep 0
      refine ⟨rfl, [L0, us], fun L hL => ?_, by simp, rfl, rfl⟩
      simp only [List.mem_cons, List.not_mem_nil, or_false] at hL
      rcases hL with rfl | rfl <;> assumption
    · sleep 0
      refine ⟨rfl, [L0], fun L hL => ?_, by simp, rfl, rfl⟩
      rw [List.mem_singleton.mp hL]
      exact ok0
    rintro _ _ _ ⟨rfl, Ls, hLs, hl2, rfl, rfl⟩
    obtain ⟨sp, w7, e7, n7, hw7⟩ := spot_nd (size := 2) hw6 (by decide) (by decide) (by decide)
    obtain ⟨tp, w8, e8, m8, hw8⟩ := one_of_ok (ts := [pT at_, pT sp]) hw7 (by decide) (by simp) (by simp)
    obtain ⟨q, rfl, nq⟩ : ∃ q, tp = pT q ∧ NdP 21 10 q := by
      simp at m8
      rcases m8 with rfl | rfl
      · exact ⟨_, rfl, na⟩
      · exact ⟨_, rfl, n7⟩
    obtain ⟨d2, w9, e9, d20, d21, hw9⟩ := take_ok (t := 3) hw8 (by decide) (by decide) (by unfold Sz; decide +kernel)
    obtain ⟨d2, rfl⟩ := Int.eq_ofNat_of_zero_le d20
    obtain ⟨fs, w10, e10, hfs, lf, hinf, hw10⟩ := land_nd (N := 1 + d2) hw9 (by decide) nq (by omega) (by omega)
    have okf : OkL fs := ⟨⟨fun e he => (hfs e he).big, by omega, by omega⟩, q, hinf⟩
    sleep 0
    first | ((with_reducible apply call_of); (· exact e7)) | ((with_reducible apply callw_of); (· exact e7)) | refine wo_of e7 ?_
    sleep 0
    first | ((with_reducible apply call_of); (· exact e8)) | ((with_reducible apply callw_of); (· exact e8)) | refine wo_of e8 ?_
    sleep 0
    first | ((with_reducible apply call_of); (· exact e9)) | ((with_reducible apply callw_of); (· exact e9)) | refine wo_of e9 ?_
    sleep 0
    first | ((with_reducible apply call_of); (· exact e10)) | ((with_reducible apply callw_of); (· exact e10)) | refine wo_of e10 ?_
    sleep 0
    have hM : ∀ L ∈ Ls ++ [fs], OkL L := fun L hL => by
      rcases List.mem_append.mp hL with hL | hL
      · exact hLs L hL
      · rw [List.mem_singleton.mp hL]
        exact okf
    have lM : (Ls ++ [fs]).length ≤ 3 := by rw [List.length_append, List.length_singleton]; omega
    rw [show Ls.map lT ++ [lT fs] = (Ls ++ [fs]).map lT by rw [List.map_append]; rfl]
    generalize Ls ++ [fs] = M at *
    refine wf_inv (as := M) (F := lT) (fun as ρ w => w = w10 ∧ (∀ L ∈ as, OkL L) ∧ ∃ y4 y5 y6, ρ = [some .well, some (.val (pT at_)), some (.val (.list (M.map lT))), some (.val (lT us)), y4, y5, y6, none, none]) ⟨rfl, hM, none, none, none, rfl⟩ ?_ ?_
    · rintro L as ρ w ⟨rfl, hL, y4, y5, y6, rfl⟩
      obtain ⟨l1, p1, h1⟩ := hL L (by simp)
      sleep 0
      refine wf_inv (as := M) (F := lT) (fun bs ρ w' => w' = w ∧ (∀ L ∈ bs, OkL L) ∧ ∃ y5 y6, ρ = [some .well, some (.val (pT at_)), some (.val (.list (M.map lT))), some (.val (lT us)), some (.val (lT L)), y5, y6, none, none]) ⟨rfl, hM, y5, y6, rfl⟩ ?_ ?_
      · rintro K bs ρ w ⟨rfl, hK, y5, y6, rfl⟩
        obtain ⟨l2, p2, h2⟩ := hK K (by simp)
        have q1 := lw_inside l1 l2
        have q2 := pw_within l1 l2 h1 h2
        sleep 0
        first | ((with_reducible apply call_of); (· exact q1)) | ((with_reducible apply callw_of); (· exact q1)) | refine wo_of q1 ?_
        sleep 0
        first | ((with_reducible apply call_of); (· exact q2)) | ((with_reducible apply callw_of); (· exact q2)) | refine wo_of q2 ?_
        sleep 0
        first | ((with_reducible apply call_of); (· exact q2)) | ((with_reducible apply callw_of); (· exact q2)) | refine wo_of q2 ?_
        sleep 0
        refine repne (sh_bools _) ⟨_, rfl⟩ (by decide) (by decide) ?_
        sleep 0
        exact ⟨rfl, fun L hL => hK L (by simp [hL]), _, _, rfl⟩
      · rintro ρ w ⟨rfl, hK, y5, y6, rfl⟩
        refine TurnK.nx ?_
        exact ⟨rfl, fun L hx => hL L (by simp [hx]), _, _, _, rfl⟩
    · rintro ρ w ⟨rfl, hL, y4, y5, y6, rfl⟩
      sleep 0
      rfl
  obtain ⟨⟨t, w'⟩, e, rfl⟩ := main
  exact ⟨w', e⟩

end My
open PySem PySem.W PySem.Calls PyProof.Rows
theorem PySem.Challenge.cw_steermeans_k11_whole_fields_within_field_holds : PySem.Challenge.rw_steermeans_k11_whole_fields_within_field.Holds := by
  have hF : Mi.AllWell My.F_law_right := My.all_well
  w_on; o_law
  refine HandSHeadRun.head_imp (r := OpenLaw.row PySem.Challenge.rw_steermeans_k11_whole_fields_within_field) (q := view (OpenLaw.row PySem.Challenge.rw_steermeans_k11_whole_fields_within_field).prog [0, 1, 54]) (H := My.hk) (ob := My.ob) (M := 6000) (loose := My.loose) (d := HandSHeadRun.topDef (OpenLaw.row PySem.Challenge.rw_steermeans_k11_whole_fields_within_field).prog 54) (kwd := []) My.ob_eq My.run (by kernel_rfl) (by kernel_rfl) (by kernel_rfl) (by rfl) (by first | assumption | decide +kernel) (by decide +kernel) ⟨rfl, rfl, rfl, rfl, rfl, by decide +kernel⟩ ?hw ?hc
  case hw => w_witness2
  case hc =>
    refine Mi.walkG (l := PySem.Challenge.rw_steermeans_k11_whole_fields_within_field) (n := 63) (k := 9) (x := "script") rfl (by decide) (by kernel_rfl) ⟨rfl, by decide, by decide⟩ ?F
    intro w mg fa h Y G hmg0
    obtain ⟨K, KX, c⟩ := Y
    have hmg : mg ("law" : PySem.Str) = some (.ref fa) := by
      have e : (HandSHeadRun.topDef (OpenLaw.row PySem.Challenge.rw_steermeans_k11_whole_fields_within_field).prog 54).name = ("law" : PySem.Str) := by kernel_rfl
      rw [← e]
      exact hmg0
    obtain ⟨fd, hb, hF2⟩ := My.facts (P := (PySem.Challenge.rw_steermeans_k11_whole_fields_within_field).prog) (w := w) hF KX G hmg c
    exact ⟨K, fd, Mi.spLaw K, KX, hb, fun H a ns hS => ⟨a, ns, rfl, hS, fun _ => rfl⟩, hF2⟩
